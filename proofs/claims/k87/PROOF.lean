import PyProof.Rows.All
import Wide.All
import OpenK.AllK
import Wide.FinOn
import PyProof.EqAt
import PyProof.EqKinds
import PyProof.TupleCall
import PyProof.TupleKey
import PyProof.NeKinds
import PyProof.ExcArgsOwn
import PyProof.ExcAttrAll.ValueError
import PyProof.IsiH_tuple
import PyProof.Rows.TopTwo
import PyProof.ExcBaseAll.ValueError
import PyProof.RulesAs
import PyProof.RulesDel
import PyProof.Rows.Catch
import PyProof.WalkInts
import PyProof.SumWalkG
import PyProof.Rows.TupAssign
import PyProof.FactsAll.tuple_1
import PyProof.FactsAll.tuple_2
import PyProof.FactsAll.tuple_3
import PyProof.ZipIter
import PyProof.Rows.ZipGen
import PyProof.Draws
import PyProof.EnumMake
import PyProof.LayNew
import OpenK.KTop
import PyProof.DictWalks
import PyProof.ListRange
import PyProof.Rows.SortWalk
import PyProof.Rows.Range3
import PyProof.MinMaxWalk
import PyProof.SetKind
import PyProof.Rows.SetFrom
import PyProof.CollectWalk
import PyProof.FactsAll.set_1
import PyProof.FactsAll.set_2
import PyProof.StrCalls
import PyProof.StrBlock
import PyProof.StrBlockH
import PyProof.FactsAll.list_3
import KE.KMinKey
import PyProof.DictRoadsH
import KE.KLam
import KE.KDictOf
import PyProof.StrWalks
import PyProof.Rows.SortStr
import PyProof.StrCalls2
import PyProof.FString
import PyProof.AttrMissSeq
import KE.KItemsList
import KE.KEqDict
import PyProof.Commute
import Lean
import PySem.Challenge.RW_fourfold_k87_whole_told_lists
set_option Elab.async false
set_option linter.all false
set_option maxRecDepth 100000
noncomputable section
namespace L2
open PySem PySem.Spec PyProof.Rows
abbrev Key:=Sum Int Str
def keyIs:Key→Value→Bool
 | .inl k,v=>Value.isInt k v
 | .inr x,v=>Value.isStrOf x v
def keyH (w:World):Key→Int
 | .inl k=>hashInt k
 | .inr x=>hashStr w x
theorem av:∀ {k:Key} {v:Value},keyIs k v=true→(∃ i t,k=Sum.inl i∧v=Value.int i t)∨(∃ x t,k=Sum.inr x∧v=Value.str x t)
 | .inl i,v,h=>by
  obtain⟨t,e⟩:=Value.isInt_shape h
  exact .inl ⟨i,t,rfl,e⟩
 | .inr x,v,h=>by
  obtain⟨t,e⟩:=Value.isStrOf_shape h
  exact .inr ⟨x,t,rfl,e⟩
theorem qO (i:Int)(t:Tok):keyIs (.inl i) (.int i t)=true:=by simp[keyIs,Value.isInt]
theorem qP (x:Str)(t:Tok):keyIs (.inr x) (.str x t)=true:=by simp[keyIs,Value.isStrOf]
theorem xT (a b:Int):decide ((Sum.inl a:Key)=Sum.inl b)=(a==b):=by grind
theorem xU (a b:Str):decide ((Sum.inr a:Key)=Sum.inr b)=decide (a=b):=by grind
theorem xV (a:Int)(b:Str):decide ((Sum.inl a:Key)=Sum.inr b)=false:=decide_eq_false (fun q=>nomatch q)
theorem xW (a:Str)(b:Int):decide ((Sum.inr a:Key)=Sum.inl b)=false:=decide_eq_false (fun q=>nomatch q)
def mixKind (prog:Program)(w:World):PySem.KeyKind prog w Key where
 is:=keyIs
 hash:=keyH w
 inj:=fun v a b ha hb=>by
  rcases av ha with ⟨i,t,rfl,rfl⟩ | ⟨x,t,rfl,rfl⟩
  ·rcases av hb with ⟨j,u,rfl,e⟩ | ⟨y,u,rfl,e⟩
   ·injection e with e1 _;rw[e1]
   ·exact nomatch e
  ·rcases av hb with ⟨j,u,rfl,e⟩ | ⟨y,u,rfl,e⟩
   ·exact nomatch e
   ·injection e with e1 _;rw[e1]
 byValue:=fun k v h=>by
  rcases av h with ⟨i,t,rfl,rfl⟩ | ⟨x,t,rfl,rfl⟩<;>rfl
 pyHash:=fun hv h=>by
  rcases av hv with ⟨i,t,rfl,rfl⟩ | ⟨x,t,rfl,rfl⟩
  ·exact wpAny_pyHash_int h
  ·exact wpAny_pyHash_str h
 eqBool:=fun hu hv h=>by
  rcases av hu with ⟨i,t,rfl,rfl⟩ | ⟨x,t,rfl,rfl⟩
  ·rcases av hv with ⟨j,u,rfl,rfl⟩ | ⟨y,u,rfl,rfl⟩
   ·rw[xT]at h;exact wpAny_eqBool_int h
   ·rw[xV]at h;exact SeqAt.EqAt.int_str i t y u _ _ _ _ h
  ·rcases av hv with ⟨j,u,rfl,rfl⟩ | ⟨y,u,rfl,rfl⟩
   ·rw[xW]at h;exact SeqAt.EqAt.str_int x t j u _ _ _ _ h
   ·rw[xU]at h;exact wpAny_eqBool_str h
 «strs»:=fun k x t v h=>by
  rcases av h with ⟨i,u,rfl,e⟩ | ⟨y,u,rfl,e⟩
  ·exact nomatch e
  ·injection e with e1 _
   subst e1
   cases v<;>rfl
theorem mB (prog:Program)(w:World)(i:Int)(t:Tok):(mixKind prog w).is (.inl i) (.int i t)=true:=qO i t
theorem mC (prog:Program)(w:World)(x:Str)(t:Tok):(mixKind prog w).is (.inr x) (.str x t)=true:=qP x t
end L2
namespace L2
open PySem PySem.Spec PyProof.Rows
inductive V where
 | non | bl (b:Bool) | int (i:Int) | str (x:Str) | byt (b:Array UInt8) | flt (b:UInt64) | ref (a:Addr) | ty (n:String)
 deriving DecidableEq
def RelV:V→Value→Prop
 | .non,u=>u=Value.none
 | .bl b,u=>u=Value.bool b
 | .int i,u=>∃ t,u=Value.int i t
 | .str x,u=>∃ t,u=Value.str x t
 | .byt b,u=>∃ t,u=Value.bytes b t
 | .flt b,u=>∃ t,u=Value.float b t
 | .ref a,u=>u=Value.ref a
 | .ty n,u=>u=Value.type n
abbrev Vals:List V→List Value→Prop:=Paired RelV
theorem Vals.length {xs:List V}{us:List Value}(r:Vals xs us):xs.length=us.length:=Paired.length r
theorem Vals.get:∀ {xs:List V} {us:List Value} {i:Nat} {x:V},Vals xs us→xs[i]?=some x→∃ u,us[i]?=some u∧RelV x u
 | _,_,_,_,.nil,e=>by simp at e
 | _,_,0,_,.cons r _,e=>by simp at e;subst e;exact⟨_,rfl,r⟩
 | _,_,i+1,x,.cons _ t,e=>by
  obtain⟨u,h1,h2⟩:=Vals.get t (by simpa using e)
  exact⟨u,by simpa using h1,h2⟩
theorem Vals.set {x:V}{u:Value}(r:RelV x u):∀ {xs:List V} {us:List Value} (i:Nat),Vals xs us→Vals (xs.set i x) (us.set i u)
 | _,_,_,.nil=>.nil
 | _,_,0,.cons _ t=>.cons r t
 | _,_,i+1,.cons q t=>.cons q (Vals.set r i t)
theorem Vals.append:∀ {xs ys:List V} {us ws:List Value},Vals xs us→Vals ys ws→Vals (xs++ys) (us++ws)
 | _,_,_,_,.nil,s=>s
 | _,_,_,_,.cons r t,s=>.cons r (Vals.append t s)
theorem Vals.take:∀ {xs:List V} {us:List Value} (n:Nat),Vals xs us→Vals (xs.take n) (us.take n)
 | _,_,0,_=>.nil
 | _,_,_+1,.nil=>.nil
 | _,_,n+1,.cons r t=>.cons r (Vals.take n t)
theorem Vals.drop:∀ {xs:List V} {us:List Value} (n:Nat),Vals xs us→Vals (xs.drop n) (us.drop n)
 | _,_,0,r=>r
 | _,_,_+1,.nil=>.nil
 | _,_,n+1,.cons _ t=>Vals.drop n t
def RelO:Option V→Option Value→Prop
 | some v,some u=>RelV v u
 | none,none=>True
 | _,_=>False
def KV {κ:Type}:List (κ×V)→List (κ×Value)→Prop:=Paired fun (p:κ×V) (q:κ×Value)=>p.1=q.1∧RelV p.2 q.2
def kV:Key→V
 | .inl i=>.int i
 | .inr x=>.str x
inductive HO where
 | lst (xs:List V)
 | tup (xs:List V)
 | dK (kvs:List (Key×V)) | dT (kvs:List (List Key×V))
 | set (S:Int→Bool) (n:Nat)
 | ins (C dx:Addr) (fs:List (Str×V))
 | own (x:Addr)
 | xd (fs:List (Str×V))
 | met (f x:Addr)
 | rng (lo hi:Int)
 | frz (o:Obj) (u:HO)
 | tbl (ps:Array Value)
 | ext (φ:Heap→Prop)
abbrev Hp:=Addr→Option HO
def upd (H:Hp)(a:Addr)(o:HO):Hp:=fun b=>if b=a then some o else H b
theorem af {H:Hp}{a:Addr}{o:HO}:upd H a o a=some o:=by unfold upd;rw[if_pos rfl]
theorem ac {H:Hp}{a b:Addr}{o:HO}(h:b≠a):upd H a o b=H b:=by unfold upd;rw[if_neg h]
theorem zq {H:Hp}{a b:Addr}{o u:HO}(h:H a=some o)(h':H b=some u)(d:o≠u):a≠b:=by grind
theorem ar {H:Hp}{a b:Addr}{o:HO}(h:H a=some o)(h':H b=none):a≠b:=by grind
def TupO (h:Heap)(a:Addr)(its:Array Value):Prop:=∃ o,h.get? a=some o∧o.cls=.type "tuple" ∧ o.dict=none∧∃ n,o.data=.seq its n
theorem TupO.is {h:Heap}{a:Addr}{its:Array Value}(p:TupO h a its):IsTup h a its:=let ⟨o,e,c,_,d⟩:=p;⟨o,e,c,d⟩
theorem TupO.lt {h:Heap}{a:Addr}{its:Array Value}(p:TupO h a its):a < h.objs.size:=p.is.lt
theorem TupO.new (h:Heap)(its:Array Value):TupO (h.push { cls:=.type "tuple",data:=.seq its }) h.objs.size its:=⟨_,Heap.get?_push_size _ rfl,rfl,rfl,_,rfl⟩
section
variable (P:Program)(w:World)
def ObjOk (H:Hp)(h:Heap)(a:Addr):HO→Prop
 | .lst xs=>xs.length≤sizeLine∧∃ (its:List Value) (n:Nat),Vals xs its∧h.get? a=some { cls:=.type "list",data:=.seq its.toArray n }
 | .tup xs=>xs.length≤sizeLine∧∃ its:List Value,Vals xs its∧TupO h a its.toArray
 | .dK kvs=>kvs.length≤sizeLine∧(a==sysModules)=false∧∃ vs,KV kvs vs∧h.DictOf (mixKind P w) a vs
 | .dT kvs=>kvs.length≤sizeLine∧(a==sysModules)=false∧∃ xs:List (List Key×Addr×Value),
   Paired (fun (p:List Key×V) (q:List Key×Addr×Value)=>p.1=q.1∧H q.2.1=some (.tup (p.1.map kV))∧RelV p.2 q.2.2) kvs xs ∧
   ∃ o es ep,h.get? a=some o∧o.ExactDict∧o.data=.dict es ep∧es.toList=xs.map (entryOfKey (tupleKind (mixKind P w)))∧(xs.map (·.1)).Nodup
 | .set S n=>h.SetOf (intKind P w) a S n
 | .ins C dx fs=>H dx=some (.own a)∧fs.length≤1000∧dx≠a∧h.get? a=some (PySem.W.instObj C dx) ∧
   ∃ mA,h.Ns1 dx mA∧(∀ f,RelO (fs.lookup f) (mA f))∧PySem.Within mA (fs.map (·.1))
 | .own _=>∃ o,h.get? a=some o
 | .xd fs=>∃ mA,h.Ns1 a mA∧∀ f,RelO (fs.lookup f) (mA f)
 | .rng lo hi=>∃ t u v,h.get? a=some { cls:=.type "range",data:=.fields #[.int lo t,.int hi u,.int 1 v] }
 | .frz o u=>h.get? a=some o∧ObjOk H h a u
 | .tbl ps=>h.get? a=some { cls:=.none,data:=.fields ps }
 | .met f x=>h.get? a=some (PySem.W.methodObj (.ref f) (.ref x))
 | .ext φ=>φ h∧(∃ o,h.get? a=some o)∧∀ h1 h2:Heap,φ h1→(∀ o,h1.get? a=some o→h2.get? a=some o)→φ h2
def HOk (H:Hp)(h:Heap):Prop:=∀ a o,H a=some o→ObjOk P w H h a o
end
section
variable {P:Program}{w:World}{H H':Hp}{h h':Heap}{a:Addr}{o:HO}
theorem ObjOk.lt (x:ObjOk P w H h a o):a < h.objs.size:=by
 cases o with
 | lst xs=>obtain⟨_,_,_,_,e⟩:=x;exact Heap.lt_size e
 | tup xs=>obtain⟨_,_,_,p⟩:=x;exact p.lt
 | dK kvs=>obtain⟨_,_,_,_,o,_,_,e,_⟩:=x;exact Heap.lt_size e
 | dT kvs=>obtain⟨_,_,_,_,o,_,_,e,_⟩:=x;exact Heap.lt_size e
 | set S n=>obtain⟨o,_,_,_,e,_⟩:=x;exact Heap.lt_size e
 | ins C dx fs=>obtain⟨_,_,_,e,_⟩:=x;exact Heap.lt_size e
 | own y=>obtain⟨_,e⟩:=x;exact Heap.lt_size e
 | xd fs=>obtain⟨_,⟨_,_,_,e,_⟩,_⟩:=x;exact Heap.lt_size e
 | rng lo hi=>obtain⟨_,_,_,e⟩:=x;exact Heap.lt_size e
 | frz ob u=>obtain⟨e,_⟩:=x;exact Heap.lt_size e
 | tbl ps=>exact Heap.lt_size (show h.get? a=some _ from x)
 | met f y=>exact Heap.lt_size (show h.get? a=some _ from x)
 | ext φ=>obtain⟨_,⟨_,e⟩,_⟩:=x;exact Heap.lt_size e
theorem Paired.mapP {α β:Type}{F G:α→β→Prop}:∀ {l₁:List α} {l₂:List β},Paired F l₁ l₂→(∀ a b,F a b→G a b)→Paired G l₁ l₂
 | _,_,.nil,_=>.nil
 | _,_,.cons r t,f=>.cons (f _ _ r) (Paired.mapP t f)
theorem ObjOk.stay (x:ObjOk P w H h a o)(k:∀ b u,(b=a∨H b=some (.own a))→h.get? b=some u→h'.get? b=some u)
  (ho:∀ b,H b=some (.own a)→H' b=some (.own a)) (ht:∀ b xs,H b=some (.tup xs)→H' b=some (.tup xs)):ObjOk P w H' h' a o:=by
 induction o with
 | lst xs=>obtain⟨z,its,n,r,e⟩:=x;exact⟨z,its,n,r,k _ _ (.inl rfl) e⟩
 | tup xs=>obtain⟨z,its,r,ob,e,c⟩:=x;exact⟨z,its,r,ob,k _ _ (.inl rfl) e,c⟩
 | dK kvs=>obtain⟨z,y,vs,r,ob,es,ep,e,c⟩:=x;exact⟨z,y,vs,r,ob,es,ep,k _ _ (.inl rfl) e,c⟩
 | dT kvs =>
  obtain⟨z,y,xs,r,ob,es,ep,e,c⟩:=x
  exact⟨z,y,xs,Paired.mapP r fun p q z=>⟨z.1,ht _ _ z.2.1,z.2.2⟩,ob,es,ep,k _ _ (.inl rfl) e,c⟩
 | set S n=>obtain⟨ob,es,ep,t,e,c⟩:=x;exact⟨ob,es,ep,t,k _ _ (.inl rfl) e,c⟩
 | ins C dx fs =>
  obtain⟨d,z,ne,e,mA,⟨od,es,ep,e2,c⟩,r⟩:=x
  exact⟨ho _ d,z,ne,k _ _ (.inl rfl) e,mA,⟨od,es,ep,k _ _ (.inr d) e2,c⟩,r⟩
 | own y=>obtain⟨ob,e⟩:=x;exact⟨ob,k _ _ (.inl rfl) e⟩
 | xd fs=>obtain⟨mA,⟨od,es,ep,e,c⟩,r⟩:=x;exact⟨mA,⟨od,es,ep,k _ _ (.inl rfl) e,c⟩,r⟩
 | rng lo hi=>obtain⟨t,u,v,e⟩:=x;exact⟨t,u,v,k _ _ (.inl rfl) e⟩
 | frz ob u ih=>obtain⟨e,q⟩:=x;exact⟨k _ _ (.inl rfl) e,ih q⟩
 | tbl ps =>
  have e:=x
  exact k a _ (.inl rfl) e
 | met f y =>
  have e:=x
  exact k a _ (.inl rfl) e
 | ext φ=>obtain⟨p,⟨o,e⟩,st⟩:=x;exact⟨st _ _ p fun o q=>k _ _ (.inl rfl) q,⟨o,k _ _ (.inl rfl) e⟩,st⟩
theorem HOk.lt (x:HOk P w H h)(e:H a=some o):a < h.objs.size:=(x a o e).lt
theorem HOk.fresh (x:HOk P w H h)(e:h.objs.size≤a):H a=none:=by
 cases q:H a with
 | none=>rfl
 | some u=>exact absurd (Nat.lt_of_lt_of_le (x.lt q) e) (Nat.lt_irrefl _)
theorem HOk.kept (x:HOk P w H h)(k:∀ b u,h.get? b=some u→h'.get? b=some u):HOk P w H h':=fun a o e =>
 (x a o e).stay (fun b u _ q=>k b u q) (fun _ q=>q) fun _ _ q=>q
theorem HOk.laid (x:HOk P w H h)(k:∀ b u,h.get? b=some u→h'.get? b=some u)(hp:h.objs.size≤a)(new:ObjOk P w (upd H a o) h' a o):HOk P w (upd H a o) h':=fun b u e=>by
 have hn:=x.fresh hp
 by_cases hb:b=a
 ·subst hb;rw[af]at e;cases e;exact new
 ·rw[ac hb]at e
  exact(x b u e).stay (fun c v _ q=>k c v q) (fun c q=>by rw[ac (ar q hn)];exact q) fun c xs q=>by rw[ac (ar q hn)];exact q
end
def Rd (H:Hp)(a:Addr)(u:HO):Prop:=H a=some u∨∃ o,H a=some (.frz o u)
theorem Rd.ok {P:Program}{w:World}{H:Hp}{h:Heap}{a:Addr}{u:HO}(r:Rd H a u)(x:HOk P w H h):ObjOk P w H h a u:=by
 rcases r with r | ⟨o,r⟩
 ·exact x a u r
 ·obtain⟨_,q⟩:=x a _ r
  exact q
def Mut:Option HO→Prop
 | some (.lst _)=>True
 | some (.dK _)=>True
 | some (.dT _)=>True
 | some (.set _ _)=>True
 | some (.ins _ _ _)=>True
 | some (.ext _)=>True
 | _=>False
section
variable {P:Program}{w:World}{H:Hp}{h h':Heap}{x e:Addr}{o':HO}
theorem HOk.write (ok:HOk P w H h)(mu:Mut (H x))(he:e=x∨H e=some (.own x))(k:∀ b u,b≠e→h.get? b=some u→h'.get? b=some u)(heo:∃ u,h'.get? e=some u)
  (new:ObjOk P w (upd H x o') h' x o'):HOk P w (upd H x o') h':=fun b u q=>by
 have nown:∀ c y,H c=some (.own y)→c≠x:=fun c y r z=>by subst z;rw[r]at mu;exact mu
 have ntup:∀ c xs,H c=some (.tup xs)→c≠x:=fun c xs r z=>by subst z;rw[r]at mu;exact mu
 by_cases hb:b=x
 ·subst hb;rw[af]at q;cases q;exact new
 ·rw[ac hb]at q
  by_cases hbe:b=e
  ·have q':H b=some (.own x):=by
    grind
   rw[q]at q';cases q'
   obtain⟨v,hv⟩:=heo
   exact⟨v,by rw[hbe];exact hv⟩
  ·refine(ok b u q).stay (fun c v hc r=>k c v ?_ r) (fun c r=>by rw[ac (nown c b r)];exact r) fun c xs r=>by rw[ac (ntup c xs r)];exact r
   grind
end
structure Un (fs ex:List Addr)(H H':Hp)(h h':Heap):Prop where
 keep:∀ b o,h.get? b=some o→H b=none→b∉fs→b∉ex→h'.get? b=some o
 slot:∀ b o,h.get? b=some o→H b=none→b∈fs→b∉ex→∃ sl,h'.get? b=some { o with slots:=sl }
 free:∀ b o,h.get? b=some o→H b=none→b∉ex→H' b=none
 there:∀ b o,h.get? b=some o→b∉ex→∃ o',h'.get? b=some o'
 tups:∀ b xs,H b=some (.tup xs)→H' b=some (.tup xs)
 frzs:∀ b o u,H b=some (.frz o u)→H' b=some (.frz o u)
 tbls:∀ b ps,H b=some (.tbl ps)→∃ more,H' b=some (.tbl (ps++more))
section
variable {fs fs' ex ex':List Addr}{H H1 H2:Hp}{h h1 h2 h':Heap}{a x e:Addr}{o:HO}
theorem Un.any (u:Un fs ex H H1 h h1){b:Addr}{ob:Obj}(q:h.get? b=some ob)(n:H b=none)(hx:b∉ex):∃ sl,h1.get? b=some { ob with slots:=sl }:=by
 by_cases hb:b∈fs
 ·exact u.slot b ob q n hb hx
 ·exact⟨ob.slots,u.keep b ob q n hb hx⟩
theorem Un.trans (a:Un fs ex H H1 h h1)(b:Un fs ex H1 H2 h1 h2):Un fs ex H H2 h h2 where
 keep:=fun c ob q n hc hx=>b.keep c ob (a.keep c ob q n hc hx) (a.free c ob q n hx) hc hx
 slot:=fun c ob q n hc hx=>by
  obtain⟨sl,e1⟩:=a.slot c ob q n hc hx
  obtain⟨sl',e2⟩:=b.slot c _ e1 (a.free c ob q n hx) hc hx
  exact⟨sl',e2⟩
 free:=fun c ob q n hx=>by
  obtain⟨o',e1⟩:=a.there c ob q hx
  exact b.free c o' e1 (a.free c ob q n hx) hx
 there:=fun c ob q hx=>by
  obtain⟨o',e1⟩:=a.there c ob q hx
  exact b.there c o' e1 hx
 tups:=fun c xs q=>b.tups c xs (a.tups c xs q)
 frzs:=fun c ob xs q=>b.frzs c ob xs (a.frzs c ob xs q)
 tbls:=fun c ps q=>by
  obtain⟨m1,e1⟩:=a.tbls c ps q
  obtain⟨m2,e2⟩:=b.tbls c _ e1
  exact⟨m1++m2,by rw[e2,Array.append_assoc]⟩
theorem Un.kept (k:∀ b u,h.get? b=some u→h'.get? b=some u):Un fs ex H H h h' :=
 ⟨fun b ob q _ _ _=>k b ob q,fun b ob q _ _ _=>⟨ob.slots,k b ob q⟩,fun _ _ _ n _=>n,fun b ob q _=>⟨ob,k b ob q⟩,fun _ _ q=>q,fun _ _ _ q=>q,fun _ ps q=>⟨#[],by rw[q];simp⟩⟩
theorem Un.refl:Un fs ex H H h h:=Un.kept fun _ _ q=>q
theorem Un.laid (k:∀ b u,h.get? b=some u→h'.get? b=some u)(hp:h.objs.size≤a)(hn:H a=none):Un fs ex H (upd H a o) h h' where
 keep:=fun b u q _ _ _=>k b u q
 slot:=fun b u q _ _ _=>⟨u.slots,k b u q⟩
 free:=fun b u q n _=>by rw[ac (Nat.ne_of_lt (Nat.lt_of_lt_of_le (Heap.lt_size q) hp))];exact n
 there:=fun b u q _=>⟨u,k b u q⟩
 tups:=fun b xs q=>by rw[ac (ar q hn)];exact q
 frzs:=fun b u xs q=>by rw[ac (ar q hn)];exact q
 tbls:=fun b ps q=>⟨#[],by rw[ac (ar q hn),q];simp⟩
theorem Un.write (mu:Mut (H x))(he:e=x∨H e=some (.own x))(k:∀ b u,b≠e→h.get? b=some u→h'.get? b=some u)(heo:∃ u,h'.get? e=some u):Un fs ex H (upd H x o) h h':=by
 have hx:∀ b,H b=none→b≠x:=fun b n z=>by subst z;rw[n]at mu;exact mu
 have hb:∀ b,H b=none→b≠e:=fun b n z=>by
  subst z
  rcases he with r | r
  ·exact hx b n r
  ·rw[n]at r;cases r
 have hm:∀ b u,H b=some u→¬ Mut (some u)→b≠x:=fun b u q nm z=>by subst z;rw[q]at mu;exact nm mu
 refine⟨fun b u q n _ _=>k b u (hb b n) q,fun b u q n _ _=>⟨u.slots,k b u (hb b n) q⟩,fun b u q n _=>by rw[ac (hx b n)];exact n,fun b u q _=>?_,
  fun b xs q=>by rw[ac (hm b _ q fun z=>z)];exact q,fun b u xs q=>by rw[ac (hm b _ q fun z=>z)];exact q,fun b ps q=>⟨#[],by rw[ac (hm b _ q fun z=>z),q];simp⟩⟩
 by_cases hbe:b=e
 ·subst hbe;exact heo
 ·exact⟨u,k b u hbe q⟩
end
def trk (h:Heap)(H:Hp):List Addr:=(List.range h.objs.size).filter fun a=>(H a).isSome
def hidT (h:Heap)(H:Hp):Heap:=PySem.W.hideAll h (trk h H)
theorem qQ (h:Heap)(H:Hp):(hidT h H).objs.size=h.objs.size:=PySem.W.hideAll_size _ _
theorem sO {h:Heap}{H:Hp}{b:Addr}{o:Obj}(e:h.get? b=some o)(n:H b=none):(hidT h H).get? b=some o :=
 PySem.W.hideAll_get _ e fun hm=>by
  have q:=(List.mem_filter.mp hm).2
  rw[n]at q;simp at q
theorem vq {h:Heap}{H:Hp}{b:Addr}{o:Obj}(e:(hidT h H).get? b=some o):h.get? b=some o∧H b=none:=by
 have e':=PySem.W.of_hideAll (trk h H) e
 refine⟨e',?_⟩
 cases q:H b with
 | none=>rfl
 | some x =>
  have hm:b∈trk h H:=List.mem_filter.mpr ⟨List.mem_range.mpr (Heap.lt_size e'),by simp[q]⟩
  have z:(hidT h H).get? b=none:=PySem.W.hideAll_none (trk h H) hm
  rw[z]at e;cases e
def allNews (g h:Heap)(L:Addr):List (Addr×Obj):=(List.range h.objs.size).filterMap fun a=>if a=L∨(g.get? a).isSome=true then none else (h.get? a).map fun o=>(a,o)
def rest (g h:Heap)(L d:Addr):List (Addr×Obj):=(allNews g h L).filter fun p=>decide (p.1≠d)
end L2
namespace L2
open PySem PySem.Spec PyProof.Rows
structure Mod (K:PySem.W.Frag)(mg:Str→Option Value)(base:Heap):Prop where
 kin:K.In base
 glob:base.Ns mainGlobals mg
 blt:∃ mb,base.Ns builtinsNs mb∧∀ x:Str,x ≠ "__name__" → mb x=bootBuiltins x
 nolimit:base.NoLimit
structure Cx where
 prog:Program
 w:World
 K:PySem.W.Frag
 mg:Str→Option Value
 base:Heap
 A:Around
 N:List Str
 s₀:Shared
 H₀:Hp
 env:Env
 outer:List Env
 stack:List Env
 ex:List Addr
 fn:Str→Bool
 calm:Bool
 pn:List (Addr×Obj)
 xe:Value→Shared→Prop
def frs (l:List Env):List Addr:=l.filterMap (·.frame)
abbrev Cx.fs (X:Cx):List Addr:=frs X.outer
def Vis (sc:Scope)(x:Str):Prop:=sc.names.lookup x=some .local∨sc.names.lookup x=some .cell∨sc.names.lookup x=some .free
def Loc (sc:Scope)(x:Str):Prop:=sc.names.lookup x=some .local∨sc.names.lookup x=some .cell
def Look (env:Env)(h:Heap)(m:Str→Option Value)(x:Str)(u:Value):Prop :=
 (env.kindOf x=some .local∧m x=some u)∨((env.kindOf x=some .cell∨env.kindOf x=some .free)∧∃ c,env.cells.lookup x=some c∧h.IsCell c (some u))
structure Cx.Ok (X:Cx):Prop where
 mod:Mod X.K X.mg X.base
 kind:X.env.scope.kind=.function
 glob:X.env.globals=mainGlobals
 blt:X.env.builtins=builtinsNs
 above:X.s₀.heap.objs.size≤X.env.locals
 inj:∀ x y c,X.env.cells.lookup x=some c→X.env.cells.lookup y=some c→x=y
 has:∀ x,(X.env.kindOf x=some .cell∨X.env.kindOf x=some .free)→∃ c,X.env.cells.lookup x=some c
 cab:∀ x c,X.fn x=true→X.env.cells.lookup x=some c→X.s₀.heap.objs.size≤c
 hd:X.calm=true→X.A.handled=none
 frames:X.A.frames=some X.stack
 stk:X.stack=X.outer∨(X.stack=X.env::X.outer∧X.env.frame=some X.env.locals)
 exf:∀ b∈X.ex,b≠X.env.locals∧∀ x c,X.env.cells.lookup x=some c→c≠b
 bs:∀ b o,X.base.get? b=some o→X.s₀.heap.get? b=some o∧X.H₀ b=none
 bsz:X.base.objs.size≤X.s₀.heap.objs.size
 noex:∀ b o,X.base.get? b=some o→b∉X.ex
 exfs:∀ b∈X.ex,b∉X.fs
 funs:X.s₀.heap.FunFrames X.base X.outer
 frf:∀ b∈X.fs,X.H₀ b=none
structure Inv (X:Cx)(pins:List (Addr×Obj))(σ:List (Option V))(H:Hp)(s:Shared):Prop where
 ok:X.Ok
 os:s.os=X.s₀.os
 bare:AllBare s.gens
 base:Un X.fs X.ex X.H₀ H X.s₀.heap s.heap
 loc:∃ m,s.heap.Ns X.env.locals m∧∀ (i:Nat) (x:Str) (v:V),X.N[i]?=some x→σ[i]?=some (some v)→Vis X.env.scope x→∃ u,RelV v u∧Look X.env s.heap m x u
 cell:∀ x c,X.env.cells.lookup x=some c→∃ v,s.heap.IsCell c v
 free:H X.env.locals=none
 freeC:∀ x c,X.env.cells.lookup x=some c→H c=none
 pin:∀ p∈X.pn++pins,s.heap.get? p.1=some p.2∧H p.1=none∧p.1≠X.env.locals∧p.1∉X.fs∧∀ v,p.2.data≠.cell v
 hok:HOk X.prog X.w H s.heap
 len:σ.length=X.N.length
section
variable {X:Cx}{pins:List (Addr×Obj)}{σ:List (Option V)}{H H':Hp}{s:Shared}{h':Heap}
theorem Cx.Ok.nofr (ok:X.Ok){b:Addr}{o:Obj}(e:X.base.get? b=some o):b∉X.fs:=fun hb=>by
 have:=(ok.funs.mem hb).1
 grind
theorem Inv.bs (I:Inv X pins σ H s):∀ b o,X.base.get? b=some o→s.heap.get? b=some o∧H b=none:=fun b o e =>
 ⟨I.base.keep b o (I.ok.bs b o e).1 (I.ok.bs b o e).2 (I.ok.nofr e) (I.ok.noex b o e),I.base.free b o (I.ok.bs b o e).1 (I.ok.bs b o e).2 (I.ok.noex b o e)⟩
theorem Inv.bk (I:Inv X pins σ H s):∀ b o,X.base.get? b=some o→s.heap.get? b=some o:=fun b o e=>(I.bs b o e).1
theorem Inv.mod (I:Inv X pins σ H s):Mod X.K X.mg X.base:=I.ok.mod
theorem Inv.kIn (I:Inv X pins σ H s):X.K.In s.heap:=I.ok.mod.kin.keeps I.bk
theorem Inv.nolimit (I:Inv X pins σ H s):s.heap.NoLimit:=I.ok.mod.nolimit.keeps I.bk
theorem Inv.lt (I:Inv X pins σ H s):X.env.locals < s.heap.objs.size:=let ⟨_,hn,_⟩:=I.loc;hn.lt
theorem Inv.sz (I:Inv X pins σ H s):X.s₀.heap.objs.size≤s.heap.objs.size:=Nat.le_trans I.ok.above (Nat.le_of_lt I.lt)
theorem Inv.nofs (I:Inv X pins σ H s){a:Addr}(h:s.heap.objs.size≤a):a∉X.fs:=fun hb=>by
 obtain⟨_,o,ho,_⟩:=I.ok.funs.mem hb
 exact absurd (Nat.lt_of_lt_of_le (Heap.lt_size ho) (Nat.le_trans I.sz h)) (Nat.lt_irrefl _)
theorem Inv.cne (I:Inv X pins σ H s):∀ x c,X.env.cells.lookup x=some c→c≠X.env.locals:=fun x c e z=>by
 obtain⟨v,o,ho,hd⟩:=I.cell x c e
 obtain⟨m,⟨o',es,ep,ho',hd',_⟩,_⟩:=I.loc
 grind
theorem Inv.funs (I:Inv X pins σ H s):s.heap.FunFrames X.base X.outer:=by
 have all:∀ (l:List Env),(∀ b∈frs l,b∈X.fs)→X.s₀.heap.FunFrames X.base l→s.heap.FunFrames X.base l:=by
  intro l
  induction l with
  | nil=>intro _ _;trivial
  | cons env r ih =>
   intro hs hl
   obtain⟨hk,⟨L,o,hf,hn,ho,hd⟩,hr⟩:=hl
   have hL:L∈X.fs:=hs L (by unfold frs;rw[List.filterMap_cons,hf];exact List.mem_cons_self)
   obtain⟨sl,e⟩:=I.base.slot L o ho (I.ok.frf L hL) hL fun z=>I.ok.exfs L z hL
   exact⟨hk,⟨L,_,hf,hn,e,hd⟩,ih (fun b hb=>hs b (by unfold frs;rw[List.filterMap_cons,hf];exact List.mem_cons_of_mem _ hb)) hr⟩
 exact all X.outer (fun _ hb=>hb) I.ok.funs
theorem Inv.stack (I:Inv X pins σ H s):s.heap.FunFrames X.base X.stack:=by
 rcases I.ok.stk with e | ⟨e,hf⟩
 ·rw[e];exact I.funs
 ·rw[e]
  obtain⟨m,hn,_⟩:=I.loc
  refine .cons (by rw[I.ok.kind];decide) hf hn ?_ I.funs
  exact Heap.get?_none_of_le (Nat.le_trans I.ok.bsz I.ok.above)
theorem Inv.stkSub (I:Inv X pins σ H s):∀ b∈frs X.stack,b∈X.env.locals::X.fs:=fun b hb=>by
 rcases I.ok.stk with e | ⟨e,hf⟩
 ·grind
 ·rw[e]at hb
  unfold frs at hb
  rw[List.filterMap_cons,hf]at hb
  exact hb
theorem Inv.stkFree (I:Inv X pins σ H s):∀ b∈frs X.stack,H b=none:=fun b hb=>by
 rcases List.mem_cons.mp (I.stkSub b hb) with e | hb
 ·rw[e];exact I.free
 ·obtain⟨_,o,ho,_⟩:=I.ok.funs.mem hb
  exact I.base.free b o ho (I.ok.frf b hb) fun z=>I.ok.exfs b z hb
theorem Inv.step {g':Array GenState}{t':Nat}{d':Drawn}{ch:List Addr}(I:Inv X pins σ H s)
  (hch:∀ b∈ch,(b∈X.ex∨X.s₀.heap.objs.size≤b)∧b≠X.env.locals∧(∀ x c,X.env.cells.lookup x=some c→c≠b)∧∀ p∈X.pn++pins,p.1≠b)
  (keep:∀ b o,b≠X.env.locals→b∉X.fs→b∉ch→s.heap.get? b=some o→H b=none→h'.get? b=some o)
  (slot:∀ b o,b≠X.env.locals→b∈X.fs→b∉ch→s.heap.get? b=some o→H b=none→∃ sl,h'.get? b=some { o with slots:=sl }) (free:∀ b o,b∉ch→s.heap.get? b=some o→H b=none→H' b=none)
  (there:∀ b o,b∉ch→s.heap.get? b=some o→∃ o',h'.get? b=some o')
  (tups:∀ b xs,H b=some (.tup xs)→H' b=some (.tup xs)) (frzs:∀ b o u,H b=some (.frz o u)→H' b=some (.frz o u)) (tbls:∀ b ps,H b=some (.tbl ps)→∃ more,H' b=some (.tbl (ps++more)))
  (ns:∀ m,s.heap.Ns X.env.locals m→h'.Ns X.env.locals m) (hok:HOk X.prog X.w H' h') (hg:AllBare g') :
  Inv X pins σ H' { s with heap:=h',gens:=g',drawn:=d',toks:=t' }:=by
 have neL:∀ b o,X.s₀.heap.get? b=some o→b≠X.env.locals:=fun b o e=>Nat.ne_of_lt (Nat.lt_of_lt_of_le (Heap.lt_size e) I.ok.above)
 have neC:∀ b o,X.s₀.heap.get? b=some o→b∉X.ex→b∉ch:=fun b o e hx hb=>by
  rcases(hch b hb).1 with z | z
  ·exact hx z
  ·exact absurd (Nat.lt_of_lt_of_le (Heap.lt_size e) z) (Nat.lt_irrefl _)
 have cellK:∀ x c,X.env.cells.lookup x=some c→∀ v,s.heap.IsCell c v→h'.IsCell c v:=fun x c e v ⟨o,ho,hd⟩=>by
  have nch:c∉ch:=fun z=>(hch c z).2.2.1 x c e rfl
  by_cases hc:c∈X.fs
  ·obtain⟨sl,q⟩:=slot c o (I.cne x c e) hc nch ho (I.freeC x c e)
   exact⟨_,q,hd⟩
  ·exact⟨o,keep c o (I.cne x c e) hc nch ho (I.freeC x c e),hd⟩
 refine⟨I.ok,I.os,hg,⟨fun b o e n hb hx=>?_,fun b o e n hb hx=>?_,fun b o e n hx=>?_,fun b o e hx=>?_,fun b xs e=>tups b xs (I.base.tups b xs e),fun b o xs e=>frzs b o xs (I.base.frzs b o xs e),fun b ps e=>?_⟩,?_,fun x c e=>?_,?_,fun x c e=>?_,fun p hp=>?_,hok,I.len⟩
 ·exact keep b o (neL b o e) hb (neC b o e hx) (I.base.keep b o e n hb hx) (I.base.free b o e n hx)
 ·obtain⟨sl,e1⟩:=I.base.slot b o e n hb hx
  obtain⟨sl',e2⟩:=slot b _ (neL b o e) hb (neC b o e hx) e1 (I.base.free b o e n hx)
  exact⟨sl',e2⟩
 ·obtain⟨o',e1⟩:=I.base.there b o e hx
  exact free b o' (neC b o e hx) e1 (I.base.free b o e n hx)
 ·obtain⟨o',e1⟩:=I.base.there b o e hx
  exact there b o' (neC b o e hx) e1
 ·obtain⟨m1,e1⟩:=I.base.tbls b ps e
  obtain⟨m2,e2⟩:=tbls b _ e1
  exact⟨m1++m2,by rw[e2,Array.append_assoc]⟩
 ·obtain⟨m,hn,hl⟩:=I.loc
  refine⟨m,ns m hn,fun i x v e1 e2 e3=>?_⟩
  obtain⟨u,r,l⟩:=hl i x v e1 e2 e3
  refine⟨u,r,?_⟩
  rcases l with l | ⟨k,c,e,z⟩
  ·exact .inl l
  ·exact .inr ⟨k,c,e,cellK x c e _ z⟩
 ·obtain⟨v,z⟩:=I.cell x c e
  exact⟨v,cellK x c e v z⟩
 ·obtain⟨m,⟨o,_,_,ho,_⟩,_⟩:=I.loc
  exact free _ o (fun z=>(hch _ z).2.1 rfl) ho I.free
 ·obtain⟨v,o,ho,hd⟩:=I.cell x c e
  exact free c o (fun z=>(hch c z).2.2.1 x c e rfl) ho (I.freeC x c e)
 ·obtain⟨e,n,ne,nf,d⟩:=I.pin p hp
  have nch:p.1∉ch:=fun z=>(hch p.1 z).2.2.2 p hp rfl
  exact⟨keep p.1 p.2 ne nf nch e n,free p.1 p.2 nch e n,ne,nf,d⟩
theorem Inv.un {t':Nat}(I:Inv X pins σ H s)(u:Un X.fs [] H H' s.heap h')(hok:HOk X.prog X.w H' h'):Inv X pins σ H' { s with heap:=h',toks:=t' }:=by
 obtain⟨m,⟨o,es,ep,ho,r⟩,_⟩:=id I.loc
 obtain⟨sl,hL⟩:=u.any ho I.free (by simp)
 exact I.step (ch:=[]) (fun _ z=>nomatch z) (fun b o _ hb _ e n=>u.keep b o e n hb (by simp)) (fun b o _ hb _ e n=>u.slot b o e n hb (by simp)) (fun b o _ e n=>u.free b o e n (by simp)) (fun b o _ e=>u.there b o e (by simp)) u.tups u.frzs u.tbls (fun m' hm=>by
  obtain⟨o',es',ep',ho',r'⟩:=hm
  rw[ho]at ho';cases ho'
  exact⟨_,es',ep',hL,r'⟩) hok I.bare
theorem Inv.call {g':Array GenState}{t':Nat}{d':Drawn}{ch:List Addr}(I:Inv X pins σ H s)(u:Un (frs X.stack) ch H H' s.heap h')(hok:HOk X.prog X.w H' h')(hg:AllBare g')
  (hch:∀ b∈ch,(b∈X.ex∨X.s₀.heap.objs.size≤b)∧b≠X.env.locals∧(∀ x c,X.env.cells.lookup x=some c→c≠b)∧∀ p∈X.pn++pins,p.1≠b) :
  Inv X pins σ H' { s with heap:=h',gens:=g',drawn:=d',toks:=t' }:=by
 obtain⟨m,⟨o,es,ep,ho,r⟩,_⟩:=id I.loc
 obtain⟨sl,hL⟩:=u.any ho I.free fun z=>(hch _ z).2.1 rfl
 exact I.step hch (fun b o hL hb hc e n=>u.keep b o e n (fun z=>(List.mem_cons.mp (I.stkSub b z)).elim hL hb) hc) (fun b o _ _ hc e n=>u.any e n hc) (fun b o hc e n=>u.free b o e n hc) (fun b o hc e=>u.there b o e hc) u.tups u.frzs u.tbls (fun m' hm=>by
  obtain⟨o',es',ep',ho',r'⟩:=hm
  rw[ho]at ho';cases ho'
  exact⟨_,es',ep',hL,r'⟩) hok hg
theorem Inv.turned {t':Nat}{it:Addr}(I:Inv X pins σ H s)(k:∀ b o,b≠it→s.heap.get? b=some o→h'.get? b=some o)(hn:H it=none)(hL:it≠X.env.locals)
  (h1:it∈X.ex∨X.s₀.heap.objs.size≤it) (h2:∀ x c,X.env.cells.lookup x=some c→c≠it) (h3:∀ p∈X.pn++pins,p.1≠it):Inv X pins σ H { s with heap:=h',toks:=t' }:=by
 have nit:∀ b u,H b=some u→b≠it:=fun b u e z=>by rw[z,hn]at e;cases e
 refine I.step (ch:=[it]) (fun b hb=>?_) (fun b o _ _ hc e _=>k b o (fun z=>hc (by simp[z])) e) (fun b o _ _ hc e _=>⟨o.slots,k b o (fun z=>hc (by simp[z])) e⟩) (fun _ _ _ _ n=>n)
  (fun b o hc e=>⟨o,k b o (fun z=>hc (by simp[z])) e⟩) (fun _ _ e=>e) (fun _ _ _ e=>e) (fun b ps e=>⟨#[],by rw[e];simp⟩) (fun m hm=>?_) (fun b u e=>?_) I.bare
 ·have e:b=it:=by simpa using hb
  subst e
  exact⟨h1,hL,h2,h3⟩
 ·obtain⟨o,es,ep,ho,r⟩:=hm
  exact⟨o,es,ep,k _ o (Ne.symm hL) ho,r⟩
 ·refine(I.hok b u e).stay (fun c v hc q=>k c v ?_ q) (fun _ q=>q) fun _ _ q=>q
  rcases hc with z | z
  ·rw[z];exact nit b u e
  ·exact nit c _ z
theorem Inv.tok (I:Inv X pins σ H s)(t:Nat):Inv X pins σ H { s with toks:=t }:=I.un Un.refl I.hok
theorem Inv.kept {t':Nat}(I:Inv X pins σ H s)(k:∀ b u,s.heap.get? b=some u→h'.get? b=some u):Inv X pins σ H { s with heap:=h',toks:=t' }:=I.un (Un.kept k) (I.hok.kept k)
theorem Inv.laid {a:Addr}{o:HO}{t':Nat}(I:Inv X pins σ H s)(k:∀ b u,s.heap.get? b=some u→h'.get? b=some u)(hp:s.heap.objs.size≤a)(new:ObjOk X.prog X.w (upd H a o) h' a o) :
  Inv X pins σ (upd H a o) { s with heap:=h',toks:=t' }:=I.un (Un.laid k hp (I.hok.fresh hp)) (I.hok.laid k hp new)
theorem Inv.write {x e:Addr}{o:HO}{t':Nat}(I:Inv X pins σ H s)(mu:Mut (H x))(he:e=x∨H e=some (.own x))(k:∀ b u,b≠e→s.heap.get? b=some u→h'.get? b=some u)(heo:∃ u,h'.get? e=some u)
  (new:ObjOk X.prog X.w (upd H x o) h' x o):Inv X pins σ (upd H x o) { s with heap:=h',toks:=t' }:=I.un (Un.write mu he k heo) (I.hok.write mu he k heo new)
theorem Inv.pins_of {pins':List (Addr×Obj)}(I:Inv X pins σ H s)(h:∀ p∈pins',s.heap.get? p.1=some p.2∧H p.1=none∧p.1≠X.env.locals∧p.1∉X.fs∧∀ v,p.2.data≠.cell v):Inv X pins' σ H s :=
 ⟨I.ok,I.os,I.bare,I.base,I.loc,I.cell,I.free,I.freeC,fun p hp=>(List.mem_append.mp hp).elim (fun z=>I.pin p (List.mem_append_left _ z)) (h p),I.hok,I.len⟩
theorem mD {N:List Str}(hN:N.Nodup){i j:Nat}{x:Str}(a:N[i]?=some x)(b:N[j]?=some x):i=j:=by
 obtain⟨h1,e1⟩:=List.getElem?_eq_some_iff.mp a
 obtain⟨h2,e2⟩:=List.getElem?_eq_some_iff.mp b
 exact(List.getElem_inj hN).mp (e1.trans e2.symm)
theorem qR {M:Model}{A:Around}{E:Value→Shared→Prop}{i:Nat}{x:Str}{v:V}{u:Value}{Q:Unit→Shared→Prop}(I:Inv X pins σ H s)(hN:X.N.Nodup)(hi:X.N[i]?=some x)(hx:Loc X.env.scope x)(r:RelV v u)
  (h:∀ s',Inv X pins (σ.set i (some v)) H s'→(∃ a,Heap.SameBut a s.heap s'.heap∧(a=X.env.locals∨X.env.cells.lookup x=some a))→Q () s') (hf:X.fn x=true∨X.env.scope.names.lookup x=some .local:=by first | exact .inl rfl | exact .inr rfl | assumption):wpAny M A (storeName X.env x u) Q E s:=by
 obtain⟨m,hn,hl⟩:=id I.loc
 have hcls:(X.env.scope.kind==.class||(X.env.scope.kind==.module&&X.env.locals != X.env.globals))=false:=by rw[I.ok.kind];rfl
 have hiσ:i < σ.length:=by rw[I.len];exact(List.getElem?_eq_some_iff.mp hi).1
 have cne:=I.cne
 have tracked:∀ {a:Addr} {h':Heap},(∃ o,s.heap.get? a=some o∧H a=none)→Heap.SameBut a s.heap h'→HOk X.prog X.w H h':=fun {a h'} ha hs b ob e=>by
  obtain⟨_,_,hfree⟩:=ha
  refine(I.hok b ob e).stay (fun c w' hc q=>(hs.2 c ?_).trans q) (fun _ q=>q) fun _ _ q=>q
  rintro rfl
  rcases hc with rfl | hc
  ·rw[hfree]at e;cases e
  ·rw[hfree]at hc;cases hc
 rcases hx with hk | hk
 ·refine wpAny_storeName_local hk hn (fun h' hn' hs=>?_) hcls
  obtain⟨oL,_,_,hoL,_⟩:=id hn
  refine h _ ⟨I.ok,I.os,I.bare,⟨fun b o e n hb hx=>?_,fun b o e n hb hx=>?_,I.base.free,fun b o e hx=>?_,I.base.tups,I.base.frzs,I.base.tbls⟩,⟨_,hn',fun j y v' e1 e2 e3=>?_⟩,fun y c e=>?_,I.free,I.freeC,fun p hp=>?_,tracked ⟨oL,hoL,I.free⟩ hs,by simpa using I.len⟩ ⟨_,hs,.inl rfl⟩
  ·exact(hs.2 b (Nat.ne_of_lt (Nat.lt_of_lt_of_le (Heap.lt_size e) I.ok.above))).trans (I.base.keep b o e n hb hx)
  ·obtain⟨sl,e1⟩:=I.base.slot b o e n hb hx
   exact⟨sl,(hs.2 b (Nat.ne_of_lt (Nat.lt_of_lt_of_le (Heap.lt_size e) I.ok.above))).trans e1⟩
  ·obtain⟨o',e1⟩:=I.base.there b o e hx
   exact⟨o',(hs.2 b (Nat.ne_of_lt (Nat.lt_of_lt_of_le (Heap.lt_size e) I.ok.above))).trans e1⟩
  ·by_cases hj:j=i
   ·subst hj
    rw[hi]at e1;cases e1
    rw[List.getElem?_set_self hiσ]at e2
    cases e2
    exact⟨u,r,.inl ⟨hk,by simp⟩⟩
   ·rw[List.getElem?_set_ne (Ne.symm hj)]at e2
    obtain⟨u',r',q⟩:=hl j y v' e1 e2 e3
    refine⟨u',r',?_⟩
    rcases q with ⟨k,e⟩ | ⟨k,c,e,z⟩
    ·refine .inl ⟨k,?_⟩
     have:y≠x:=fun e=>hj (mD hN e1 (e ▸ hi))
     simp[this,e]
    ·exact .inr ⟨k,c,e,z.sameBut hs (cne y c e)⟩
  ·obtain⟨w',z⟩:=I.cell y c e
   exact⟨w',z.sameBut hs (cne y c e)⟩
  ·obtain⟨e,n,ne,nf,d⟩:=I.pin p hp
   exact⟨(hs.2 p.1 ne).trans e,n,ne,nf,d⟩
 ·have hfn:X.fn x=true:=by
   rcases hf with z | z
   ·exact z
   ·rw[z]at hk;cases hk
  obtain⟨c,hc⟩:=I.ok.has x (.inl hk)
  obtain⟨w',z⟩:=I.cell x c hc
  refine wpAny_storeName_cell I.ok.kind hk hc z (fun h' hc' hs=>?_)
  obtain⟨oc,hoc,hocd⟩:=id z
  refine h { s with heap:=h' } ⟨I.ok,I.os,I.bare,⟨fun b o e n hb hx=>?_,fun b o e n hb hx=>?_,I.base.free,fun b o e hx=>?_,I.base.tups,I.base.frzs,I.base.tbls⟩,⟨m,hn.sameBut hs (Ne.symm (cne x c hc)),fun j y v' e1 e2 e3=>?_⟩,fun y c' e=>?_,I.free,I.freeC,fun p hp=>?_,tracked ⟨oc,hoc,I.freeC x c hc⟩ hs,by simpa using I.len⟩ ⟨c,hs,.inr hc⟩
  ·exact(hs.2 b (Nat.ne_of_lt (Nat.lt_of_lt_of_le (Heap.lt_size e) (I.ok.cab x c hfn hc)))).trans (I.base.keep b o e n hb hx)
  ·obtain⟨sl,e1⟩:=I.base.slot b o e n hb hx
   exact⟨sl,(hs.2 b (Nat.ne_of_lt (Nat.lt_of_lt_of_le (Heap.lt_size e) (I.ok.cab x c hfn hc)))).trans e1⟩
  ·obtain⟨o',e1⟩:=I.base.there b o e hx
   exact⟨o',(hs.2 b (Nat.ne_of_lt (Nat.lt_of_lt_of_le (Heap.lt_size e) (I.ok.cab x c hfn hc)))).trans e1⟩
  ·by_cases hj:j=i
   ·subst hj
    rw[hi]at e1;cases e1
    rw[List.getElem?_set_self hiσ]at e2
    cases e2
    exact⟨u,r,.inr ⟨.inl hk,c,hc,hc'⟩⟩
   ·rw[List.getElem?_set_ne (Ne.symm hj)]at e2
    obtain⟨u',r',q⟩:=hl j y v' e1 e2 e3
    refine⟨u',r',?_⟩
    rcases q with q | ⟨k,c',e,z'⟩
    ·exact .inl q
    ·refine .inr ⟨k,c',e,z'.sameBut hs ?_⟩
     rintro rfl
     exact hj (mD hN e1 (I.ok.inj _ _ _ e hc ▸ hi))
  ·by_cases hcc:c'=c
   ·subst hcc;exact⟨_,hc'⟩
   ·obtain⟨w2,z2⟩:=I.cell y c' e
    exact⟨w2,z2.sameBut hs hcc⟩
  ·obtain⟨e,n,ne,nf,d⟩:=I.pin p hp
   refine⟨(hs.2 p.1 ?_).trans e,n,ne,nf,d⟩
   intro q
   rw[q,hoc]at e
   have q':oc=p.2:=Option.some.inj e
   exact d w' (by rw[← q'];exact hocd)
theorem mE {M:Model}{A:Around}{E:Value→Shared→Prop}{i:Nat}{x:Str}{v:V}{u:Value}{Q:Unit→Shared→Prop}(I:Inv X pins σ H s)(hN:X.N.Nodup)(hi:X.N[i]?=some x)(hx:Loc X.env.scope x)(r:RelV v u)
  (h:∀ s',Inv X pins (σ.set i (some v)) H s'→Q () s') (hf:X.fn x=true∨X.env.scope.names.lookup x=some .local:=by first | exact .inl rfl | exact .inr rfl | assumption):wpAny M A (storeName X.env x u) Q E s :=
 qR I hN hi hx r (fun s' I' _=>h s' I') hf
theorem Inv.call' {s':Shared}{ch:List Addr}(I:Inv X pins σ H s)(ho:s'.os=s.os)(u:Un (frs X.stack) ch H H' s.heap s'.heap)(hok:HOk X.prog X.w H' s'.heap)(hg:AllBare s'.gens)
  (hch:∀ b∈ch,(b∈X.ex∨X.s₀.heap.objs.size≤b)∧b≠X.env.locals∧(∀ x c,X.env.cells.lookup x=some c→c≠b)∧∀ p∈X.pn++pins,p.1≠b):Inv X pins σ H' s':=by
 obtain⟨h',g',d',t',o'⟩:=s'
 have e:o'=s.os:=ho
 subst e
 exact I.call u hok hg hch
end
abbrev XK:=Value→Option Addr→Hp→Prop
abbrev St:=List (Option V)
abbrev VK:=V→Hp→Prop
abbrev TE:=St→Hp→VK→Prop
abbrev TT:=St→Hp→(Bool→Hp→Prop)→Prop
abbrev TA:=St→Hp→(List V→Hp→Prop)→Prop
structure Ends where
 nx:St→Hp→Prop
 rt:VK
 bk:St→Hp→Prop:=fun _ _=>False
 ct:St→Hp→Prop:=fun _ _=>False
abbrev TS:=Ends→St→Hp→Prop
def EP (X:Cx)(pins:List (Addr×Obj))(σ:St)(Q:VK)(u:Value)(s':Shared):Prop:=∃ v H',Inv X pins σ H' s'∧RelV v u∧Q v H'
def TP (X:Cx)(pins:List (Addr×Obj))(σ:St)(Q:Bool→Hp→Prop)(b:Bool)(s':Shared):Prop:=∃ H',Inv X pins σ H' s'∧Q b H'
def AP (X:Cx)(pins:List (Addr×Obj))(σ:St)(Q:List V→Hp→Prop)(us:List Value)(s':Shared):Prop:=∃ vs H',Inv X pins σ H' s'∧Vals vs us∧Q vs H'
def SP (X:Cx)(pins:List (Addr×Obj))(D:Ends)(f:Flow)(s':Shared):Prop :=
 match f with
 | .next=>∃ σ' H',Inv X pins σ' H' s'∧D.nx σ' H'
 | .brk=>∃ σ' H',Inv X pins σ' H' s'∧D.bk σ' H'
 | .cont=>∃ σ' H',Inv X pins σ' H' s'∧D.ct σ' H'
 | .ret u=>∃ v σ' H',Inv X pins σ' H' s'∧RelV v u∧D.rt v H'
def PE (X:Cx)(e:Expr)(t:TE):Prop :=
 ∀ (pins:List (Addr×Obj)) (s:Shared) (σ:St) (H:Hp) (Q:VK),Inv X pins σ H s→t σ H Q→wpAny (model X.prog X.w) X.A (eval e X.env) (EP X pins σ Q) X.xe s
def PT (X:Cx)(e:Expr)(t:TT):Prop :=
 ∀ (pins:List (Addr×Obj)) (s:Shared) (σ:St) (H:Hp) (Q:Bool→Hp→Prop),Inv X pins σ H s→t σ H Q→wpAny (model X.prog X.w) X.A (isTrue e X.env (eval e X.env)) (TP X pins σ Q) X.xe s
def PW (X:Cx)(e:Expr)(t:TT):Prop :=
 ∀ (whole:Sem Value) (pins:List (Addr×Obj)) (s:Shared) (σ:St) (H:Hp) (Q:Bool→Hp→Prop),Inv X pins σ H s→t σ H Q→wpAny (model X.prog X.w) X.A (isTrue e X.env whole) (TP X pins σ Q) X.xe s
theorem PW.pt {X:Cx}{e:Expr}{t:TT}(h:PW X e t):PT X e t:=h _
def PA (X:Cx)(es:List Expr)(t:TA):Prop :=
 ∀ (pos:Pos) (pins:List (Addr×Obj)) (s:Shared) (σ:St) (H:Hp) (Q:List V→Hp→Prop),Inv X pins σ H s→t σ H Q→wpAny (model X.prog X.w) X.A (spliced (backTo pos (starEach es X.env))) (AP X pins σ Q) X.xe s
def PS (X:Cx)(st:Stmt)(t:TS):Prop :=
 ∀ (pins:List (Addr×Obj)) (s:Shared) (σ:St) (H:Hp) (D:Ends),Inv X pins σ H s→t D σ H→wpAny (model X.prog X.w) X.A (exec st X.env) (SP X pins D) X.xe s
def PSs (X:Cx)(st:List Stmt)(t:TS):Prop :=
 ∀ (pins:List (Addr×Obj)) (s:Shared) (σ:St) (H:Hp) (D:Ends),Inv X pins σ H s→t D σ H→wpAny (model X.prog X.w) X.A (execs st X.env) (SP X pins D) X.xe s
theorem thn {α:Type}{t:Sem α}{Q Q':α→Shared→Prop}{M:Model}{A:Around}{E:Value→Shared→Prop}{s:Shared}(h:wpAny M A t Q E s)(hQ:∀ a s,Q a s→Q' a s):wpAny M A t Q' E s:=wpAny_mono h hQ fun _ _ x=>x
end L2
namespace L2
open PySem PySem.Spec PyProof.Rows
section
variable {X:Cx}
theorem bin {a b:Expr}{ta tb:TE}(ha:PE X a ta)(hb:PE X b tb){pins:List (Addr×Obj)}{s:Shared}{σ:St}{H:Hp}{R:V→V→Hp→Prop}(I:Inv X pins σ H s)(h:ta σ H fun x H1=>tb σ H1 fun y H2=>R x y H2)
  {α:Type} {Q:α→Shared→Prop} {f:Value→Value→Sem α}
  (hf:∀ v u s2 x y H2,Inv X pins σ H2 s2→RelV x v→RelV y u→R x y H2→wpAny (model X.prog X.w) X.A (f v u) Q X.xe s2) :
  wpAny (model X.prog X.w) X.A (eval a X.env) (fun v s₁=>wpAny (model X.prog X.w) X.A (eval b X.env) (fun u s₂=>wpAny (model X.prog X.w) X.A (f v u) Q X.xe s₂) X.xe s₁) X.xe s:=by
 refine thn (ha pins s σ H _ I h) fun v s1 ⟨x,H1,I1,r1,q1⟩=>?_
 refine thn (hb pins s1 σ H1 _ I1 q1) fun u s2 ⟨y,H2,I2,r2,q2⟩=>?_
 exact hf v u s2 x y H2 I2 r1 r2 q2
def tVar (i:Nat):TE:=fun σ H Q=>∃ v,σ[i]?=some (some v)∧Q v H
def tC (v:V):TE:=fun _ H Q=>Q v H
theorem cG {i:Nat}{x:Str}{pos:Pos}(hN:X.N[i]?=some x)(hv:Vis X.env.scope x)(hd:(x==("__debug__":Str))=false:=by decide)(hcd:(x==("__classdict__":Str))=false:=by decide):PE X (.Name x pos) (tVar i):=by
 intro pins s σ H Q I h
 obtain⟨v,e,h⟩:=h
 obtain⟨m,hn,hl⟩:=I.loc
 obtain⟨u,r,l⟩:=hl i x v hN e hv
 have fin:EP X pins σ Q u s:=⟨v,H,I,r,h⟩
 rcases l with ⟨hk,hm⟩ | ⟨hk,c,hc,hcell⟩
 ·exact wpAny_Name (wpAny_loadName_local I.ok.kind hk hn hm fin) hd
 ·rcases hk with hk | hk
  ·exact wpAny_Name (wpAny_loadName_cell I.ok.kind hk hc hcell fin) hd
  ·exact wpAny_Name (wpAny_loadName_free I.ok.kind hk hc hcell fin hcd) hd
theorem xX {i j pos}:PE X (.Constant (.int i) j pos) (tC (.int i)):=fun _ _ _ H _ I h=>wpAny_Constant_int ⟨.int i,H,I.tok _,⟨_,rfl⟩,h⟩
theorem zr {b j pos}:PE X (.Constant (.bool b) j pos) (tC (.bl b)):=fun _ _ _ H _ I h=>Constant_bool ⟨.bl b,H,I,rfl,h⟩
theorem xY {x j pos}:PE X (.Constant (.str x) j pos) (tC (.str x)):=fun _ _ _ H _ I h=>Calls.Constant_str ⟨.str x,H,I.tok _,⟨_,rfl⟩,h⟩
def Gl (X:Cx)(x:Str):Prop:=X.env.kindOf x=some .globalImplicit
theorem d8 {E:Value→Shared→Prop}{pins:List (Addr×Obj)}{s:Shared}{σ:St}{H:Hp}{x:Str}{u:Value}{pos:Pos}{Q:Value→Shared→Prop}(I:Inv X pins σ H s)(hg:Gl X x)(hm:X.mg x=some u)(h:Q u s)
  (hd:(x==("__debug__":Str))=false:=by decide):wpAny (model X.prog X.w) X.A (eval (.Name x pos) X.env) Q E s :=
 Calls.Name_function_global I.ok.kind hg (Calls.loadGlobal_global (by rw[I.ok.glob];exact I.mod.glob.keeps I.bk) hm h) hd
theorem gp {E:Value→Shared→Prop}{pins:List (Addr×Obj)}{s:Shared}{σ:St}{H:Hp}{x:Str}{u:Value}{pos:Pos}{Q:Value→Shared→Prop}(I:Inv X pins σ H s)(hg:Gl X x)(hm:X.mg x=none)(hv:bootBuiltins x=some u)(h:Q u s)
  (hn:x ≠ "__name__" := by decide) (hd:(x==("__debug__":Str))=false:=by decide):wpAny (model X.prog X.w) X.A (eval (.Name x pos) X.env) Q E s:=by
 obtain⟨mb,h1,h2⟩:=I.mod.blt
 exact Calls.Name_function_global I.ok.kind hg (Calls.loadGlobal_builtin (by rw[I.ok.glob];exact I.mod.glob.keeps I.bk) hm (by rw[I.ok.blt];exact h1.keeps I.bk) ((h2 x hn).trans hv) h) hd
theorem iB {x:Str}{v:V}{u:Value}{pos:Pos}(hg:Gl X x)(hm:X.mg x=some u)(r:RelV v u)(hd:(x==("__debug__":Str))=false:=by decide):PE X (.Name x pos) (tC v) :=
 fun _ _ _ H _ I h=>d8 I hg hm ⟨v,H,I,r,h⟩ hd
theorem bO {x:Str}{v:V}{u:Value}{pos:Pos}(hg:Gl X x)(hm:X.mg x=none)(hv:bootBuiltins x=some u)(r:RelV v u)(hn:x ≠ "__name__" := by decide)(hd:(x==("__debug__":Str))=false:=by decide):PE X (.Name x pos) (tC v) :=
 fun _ _ _ H _ I h=>gp I hg hm hv ⟨v,H,I,r,h⟩ hn hd
variable {a b:Expr}{ta tb:TE}{pos:Pos}
def PC (X:Cx)(op:CmpOp)(a b:Expr)(t:TE):Prop :=
 ∀ (pins:List (Addr×Obj)) (s:Shared) (σ:St) (H:Hp) (Q:VK),Inv X pins σ H s→t σ H Q →
  wpAny (model X.prog X.w) X.A (eval a X.env) (fun v s₁=>wpAny (model X.prog X.w) X.A (eval b X.env) (fun u s₂=>wpAny (model X.prog X.w) X.A (compareOp op v u) (EP X pins σ Q) X.xe s₂) X.xe s₁) X.xe s
theorem nobehind (b:Expr){op:CmpOp}(h:op≠.In)(h2:op≠.NotIn):behindInMarks op b=false:=by
 have e1:(op==CmpOp.In)=false:=by cases op<;>first | rfl | exact absurd rfl h
 have e2:(op==CmpOp.NotIn)=false:=by cases op<;>first | rfl | exact absurd rfl h2
 cases b<;>simp[behindInMarks,e1,e2]
def tB (t:TE):TT:=fun σ H Q=>t σ H fun x H1=>∃ c,x=.bl c∧Q c H1
theorem xZ {op:CmpOp}{t:TE}(h:PC X op a b t)(h1:behindInMarks op b=false:=by first | exact nobehind _ (by decide) (by decide) | rfl):PE X (.Compare a [op] [b] pos) t:=fun pins s σ H Q I hw=>wpAny_Compare1 (h pins s σ H Q I hw) h1
theorem ya {op:CmpOp}{t:TE}(h:PC X op a b t)(h1:behindInMarks op b=false:=by first | exact nobehind _ (by decide) (by decide) | rfl):PT X (.Compare a [op] [b] pos) (tB t):=by
 intro pins s σ H Q I hw
 refine wpAny_isTrue_Compare1 (thn (h pins s σ H _ I hw) fun v s1 h1=>thn h1 fun u s2 h2=>thn h2 fun c s3 ⟨x,H1,I1,r1,q1⟩=>?_) h1
 obtain⟨d,rfl,q⟩:=q1
 cases r1
 exact wpAny_truthy_bool ⟨H1,I1,q⟩
theorem yb {e:Expr}{t:TE}(h:PE X e t)(he:∀ whole,isTrue e X.env whole=(do let v ← whole;standAt e.pos;holding [v] (truthy v)):=by intro _;rfl):PT X e (tB t):=by
 intro pins s σ H Q I hw
 refine isTrue_plain (thn (h pins s σ H _ I hw) fun v s1 ⟨x,H1,I1,r1,q1⟩=>?_) (he _)
 obtain⟨d,rfl,q⟩:=q1
 cases r1
 exact wpAny_truthy_bool ⟨H1,I1,q⟩
variable {tA tB':TT}{rest:List Expr}
def tAnd (t u:TT):TT:=fun σ H Q=>t σ H fun c H1=>if c=true then u σ H1 Q else Q false H1
def tOr (t u:TT):TT:=fun σ H Q=>t σ H fun c H1=>if c=true then Q true H1 else u σ H1 Q
def tNot (t:TT):TT:=fun σ H Q=>t σ H fun c H1=>Q (!c) H1
theorem vt (ha:PT X a tA):PW X (.BoolOp .And [a] pos) tA:=by
 intro wh pins s σ H Q I h
 refine isTrue_and (thn (ha pins s σ H Q I h) fun c s1 e=>?_)
 cases c with
 | true=>exact isTrue_and_nil e
 | false=>exact e
theorem yc (ha:PT X a tA):PW X (.BoolOp .Or [a] pos) tA:=by
 intro wh pins s σ H Q I h
 refine isTrue_or (thn (ha pins s σ H Q I h) fun c s1 e=>?_)
 cases c with
 | false=>exact isTrue_or_nil e
 | true=>exact e
theorem ye (ha:PT X a tA)(hb:PW X (.BoolOp .And (b::rest) pos) tB'):PW X (.BoolOp .And (a::b::rest) pos) (tAnd tA tB'):=by
 intro wh pins s σ H Q I h
 refine isTrue_and (thn (ha pins s σ H _ I h) fun c s1 ⟨H1,I1,q1⟩=>?_)
 cases c with
 | true=>exact hb wh pins s1 σ H1 Q I1 q1
 | false=>exact⟨H1,I1,q1⟩
theorem zt (ha:PT X a tA)(hb:PW X (.BoolOp .Or (b::rest) pos) tB'):PW X (.BoolOp .Or (a::b::rest) pos) (tOr tA tB'):=by
 intro wh pins s σ H Q I h
 refine isTrue_or (thn (ha pins s σ H _ I h) fun c s1 ⟨H1,I1,q1⟩=>?_)
 cases c with
 | true=>exact⟨H1,I1,q1⟩
 | false=>exact hb wh pins s1 σ H1 Q I1 q1
theorem yf (ha:PT X a tA):PT X (.UnaryOp .Not a pos) (tNot tA):=by
 intro pins s σ H Q I h
 exact isTrue_not (ha pins s σ H (fun c H1=>Q (!c) H1) I h)
def tAndV (ta tb:TE):TE:=fun σ H Q=>ta σ H fun x H1=>∃ c,x=.bl c∧if c=true then tb σ H1 Q else Q (.bl false) H1
def tNotV (ta:TE):TE:=fun σ H Q=>ta σ H fun x H1=>∃ c,x=.bl c∧Q (.bl (!c)) H1
theorem yg {op}{t:TE}(h:PE X a t):PE X (.BoolOp op [a] pos) t:=fun pins s σ H Q I hw=>BoolOp_one (h pins s σ H Q I hw)
theorem yh (ha:PE X a ta)(hb:PE X (.BoolOp .And (b::rest) pos) tb):PE X (.BoolOp .And (a::b::rest) pos) (tAndV ta tb):=by
 intro pins s σ H Q I h
 refine BoolOp_and (thn (ha pins s σ H _ I h) fun v s1 ⟨x,H1,I1,r1,q1⟩=>?_)
 obtain⟨c,rfl,q1⟩:=q1
 cases r1
 wp_walk
 cases c with
 | true=>exact hb pins s1 σ H1 Q I1 q1
 | false=>exact⟨.bl false,H1,I1,rfl,q1⟩
theorem yi (ha:PE X a ta):PE X (.UnaryOp .Not a pos) (tNotV ta):=by
 intro pins s σ H Q I h
 refine UnaryOp_ (thn (ha pins s σ H _ I h) fun v s1 ⟨x,H1,I1,r1,q1⟩=>?_)
 obtain⟨c,rfl,q1⟩:=q1
 cases r1
 exact not_of (wpAny_truthy_bool ⟨.bl (!c),H1,I1,rfl,q1⟩)
end
end L2
namespace L2
open PySem PySem.Spec PyProof.Rows
def SqL (K:PySem.W.Frag)(H:Hp)(a:Addr)(xs:List V):Prop :=
 Rd H a (.lst xs) ∨
  ∃ (o:Obj) (its:Array Value) (n:Nat),K.lookup a=some o∧o.cls=.type "list" ∧ o.dict=none∧o.data=.seq its n∧its.size≤sizeLine∧Vals xs its.toList
def SqT (K:PySem.W.Frag)(H:Hp)(a:Addr)(xs:List V):Prop :=
 Rd H a (.tup xs) ∨
  ∃ (o:Obj) (its:Array Value) (n:Nat),K.lookup a=some o∧o.cls=.type "tuple" ∧ o.dict=none∧o.data=.seq its n∧its.size≤sizeLine∧Vals xs its.toList
def absV:Value→Option V
 | .none=>some .non
 | .bool b=>some (.bl b)
 | .int i _=>some (.int i)
 | .str x _=>some (.str x)
 | .bytes b _=>some (.byt b)
 | .float b _=>some (.flt b)
 | .ref a=>some (.ref a)
 | .type n=>some (.ty n)
 | _=>none
theorem RelV.abs {x:V}{u:Value}(r:RelV x u):absV u=some x:=by
 cases x with
 | non=>cases r;rfl
 | bl _=>cases r;rfl
 | int _=>obtain⟨t,rfl⟩:=r;rfl
 | str _=>obtain⟨t,rfl⟩:=r;rfl
 | byt _=>obtain⟨t,rfl⟩:=r;rfl
 | flt _=>obtain⟨t,rfl⟩:=r;rfl
 | ref _=>cases r;rfl
 | ty _=>cases r;rfl
theorem RelV.inj {x y:V}{u:Value}(r:RelV x u)(q:RelV y u):x=y:=Option.some.inj (r.abs.symm.trans q.abs)
theorem Vals.inj:∀ {xs ys:List V} {us:List Value},Vals xs us→Vals ys us→xs=ys
 | _,_,_,.nil,.nil=>rfl
 | _,_,_,.cons r t,.cons r' t'=>by rw[r.inj r',Vals.inj t t']
section
variable {X:Cx}{pins:List (Addr×Obj)}{σ:St}{H:Hp}{s:Shared}{a:Addr}{xs ys:List V}
theorem SqL.of {K:PySem.W.Frag}(h:H a=some (.lst xs)):SqL K H a xs:=.inl (.inl h)
theorem SqT.of {K:PySem.W.Frag}(h:H a=some (.tup xs)):SqT K H a xs:=.inl (.inl h)
theorem Inv.list (I:Inv X pins σ H s)(h:SqL X.K H a xs):∃ its:List Value,Vals xs its∧PlainL s.heap a its.toArray∧xs.length≤sizeLine:=by
 rcases h with h | ⟨o,its,n,hk,hc,hd,hs,hz,r⟩
 ·obtain⟨z,its,n,r,e⟩:=h.ok I.hok
  exact⟨its,r,⟨_,n,e,rfl,rfl,rfl⟩,z⟩
 ·refine⟨its.toList,r,⟨o,n,I.kIn a o hk,hc,hd,by simpa using hs⟩,?_⟩
  have e:=r.length
  simp only[Array.length_toList]at e
  omega
theorem Inv.tuple (I:Inv X pins σ H s)(h:SqT X.K H a xs):∃ its:List Value,Vals xs its∧IsTup s.heap a its.toArray∧xs.length≤sizeLine:=by
 rcases h with h | ⟨o,its,n,hk,hc,_,hs,hz,r⟩
 ·obtain⟨z,its,r,p⟩:=h.ok I.hok
  exact⟨its,r,p.is,z⟩
 ·refine⟨its.toList,r,⟨o,I.kIn a o hk,hc,n,by simpa using hs⟩,?_⟩
  have e:=r.length
  simp only[Array.length_toList]at e
  omega
theorem Inv.list_inj (I:Inv X pins σ H s)(h:SqL X.K H a xs)(h':SqL X.K H a ys):xs=ys:=by
 obtain⟨its,r,⟨o,n,e,_,_,d⟩,_⟩:=I.list h
 obtain⟨its',r',⟨o',n',e',_,_,d'⟩,_⟩:=I.list h'
 rw[e]at e';cases e'
 rw[d]at d'
 injection d' with d1 _
 have:its=its':=by simpa using congrArg Array.toList d1
 subst this
 exact r.inj r'
theorem Inv.tuple_inj (I:Inv X pins σ H s)(h:SqT X.K H a xs)(h':SqT X.K H a ys):xs=ys:=by
 obtain⟨its,r,⟨o,e,_,n,d⟩,_⟩:=I.tuple h
 obtain⟨its',r',⟨o',e',_,n',d'⟩,_⟩:=I.tuple h'
 rw[e]at e';cases e'
 rw[d]at d'
 injection d' with d1 _
 have:its=its':=by simpa using congrArg Array.toList d1
 subst this
 exact r.inj r'
end
section
variable {X:Cx}{pins:List (Addr×Obj)}{σ:St}{H:Hp}{s:Shared}{E:Value→Shared→Prop}
end
section
variable {X:Cx}{st:Stmt}{rest:List Stmt}{t u:TS}{e:Expr}{te:TE}{pos:Pos}
def tNext:TS:=fun D σ H=>D.nx σ H
def tSeq (t u:TS):TS:=fun D σ H=>t { D with nx:=u D } σ H
theorem pG:PSs X [] tNext:=fun _ _ σ H _ I h=>wpAny_execs_nil ⟨σ,H,I,h⟩
theorem aE (h1:PS X st t)(h2:PSs X rest u):PSs X (st::rest) (tSeq t u):=by
 intro pins s σ H D I h
 refine wpAny_execs_cons (thn (h1 pins s σ H { D with nx:=u D } I h) fun f s1 q=>?_)
 cases f with
 | next =>
  obtain⟨σ',H',I',q⟩:=q
  exact h2 pins s1 σ' H' D I' q
 | ret v=>exact q
 | brk=>exact q
 | cont=>exact q
theorem pH (h1:PS X st t):PSs X [st] t:=by
 intro pins s σ H D I h
 refine wpAny_execs_cons (thn (h1 pins s σ H D I h) fun f s1 q=>?_)
 cases f with
 | next=>exact wpAny_execs_nil q
 | ret v=>exact q
 | brk=>exact q
 | cont=>exact q
theorem Inv.quiet {pins:List (Addr×Obj)}{σ:St}{H:Hp}{s:Shared}(I:Inv X pins σ H s):interactive X.env=false:=by simp[interactive,I.ok.kind]
def tDrop (te:TE):TS:=fun D σ H=>te σ H fun _ H1=>D.nx σ H1
theorem fk (he:PE X e te)(hs:swapsWith e none pos.line X.env=pure false:=by rfl):PS X (.Expr e pos) (tDrop te):=by
 intro pins s σ H D I h
 exact wpAny_Expr_any (thn (he pins s σ H _ I h) fun v s1 ⟨x,H1,I1,r1,q1⟩=>⟨σ,H1,I1,q1⟩) I.quiet hs
def tRet (te:TE):TS:=fun D σ H=>te σ H D.rt
theorem sP (he:PE X e te):PS X (.Return (some e) pos) (tRet te):=by
 intro pins s σ H D I h
 exact wpAny_Return_some (thn (he pins s σ H _ I h) fun v s1 ⟨x,H1,I1,r1,q1⟩=>⟨x,σ,H1,I1,r1,q1⟩)
def tIfS (c:TT)(t u:TS):TS:=fun D σ H=>c σ H fun b H1=>if b=true then t D σ H1 else u D σ H1
theorem xJ {c:Expr}{a b:List Stmt}{tc:TT}(hc:PT X c tc)(ha:PSs X a t)(hb:PSs X b u):PS X (.If c a b pos) (tIfS tc t u):=by
 intro pins s σ H D I h
 refine wpAny_If (thn (hc pins s σ H _ I h) fun d s1 ⟨H1,I1,q1⟩=>?_)
 cases d with
 | true=>exact ha pins s1 σ H1 D I1 q1
 | false=>exact hb pins s1 σ H1 D I1 q1
def tNever:TS:=fun _ _ _=>False
theorem gq {sts:List Stmt}:PSs X sts tNever:=fun _ _ _ _ _ _ h=>h.elim
end
abbrev TG:=V→St→Hp→(St→Hp→Prop)→Prop
abbrev TGs:=List V→St→Hp→(St→Hp→Prop)→Prop
def PG (X:Cx)(target:Expr)(t:TG):Prop :=
 ∀ (pins:List (Addr×Obj)) (s:Shared) (σ:St) (H:Hp) (v:V) (u:Value) (Q:St→Hp→Prop),Inv X pins σ H s→RelV v u→t v σ H Q →
  wpAny (model X.prog X.w) X.A (assign target X.env u) (fun _ s'=>∃ σ' H',Inv X pins σ' H' s'∧Q σ' H') X.xe s
def PGs (X:Cx)(ts:List Expr)(t:TGs):Prop :=
 ∀ (pins:List (Addr×Obj)) (s:Shared) (σ:St) (H:Hp) (vs:List V) (us:List Value) (Q:St→Hp→Prop),Inv X pins σ H s→Vals vs us→t vs σ H Q →
  wpAny (model X.prog X.w) X.A (assignInOrder ((assignEach ts X.env).map (·.2)) us) (fun _ s'=>∃ σ' H',Inv X pins σ' H' s'∧Q σ' H') X.xe s
abbrev TSet:=V→V→V→Hp→(Hp→Prop)→Prop
def PSet (X:Cx)(t:TSet):Prop :=
 ∀ (pins:List (Addr×Obj)) (s:Shared) (σ:St) (H:Hp) (o i v:V) (ov iv u:Value) (Q:Hp→Prop),Inv X pins σ H s→RelV o ov→RelV i iv→RelV v u→t o i v H Q →
  wpAny (model X.prog X.w) X.A (setItem ov iv u) (fun _ s'=>∃ H',Inv X pins σ H' s'∧Q H') X.xe s
section
variable {X:Cx}{pos:Pos}
def gName (i:Nat):TG:=fun v σ H Q=>Q (σ.set i (some v)) H
theorem fm {i:Nat}{x:Str}(hN:X.N.Nodup)(hi:X.N[i]?=some x)(hx:Loc X.env.scope x)(hf:X.fn x=true∨X.env.scope.names.lookup x=some .local:=by first | exact .inl rfl | exact .inr rfl | assumption):PG X (.Name x pos) (gName i):=by
 intro pins s σ H v u Q I r h
 exact wpAny_assign_Name (mE I hN hi hx r (fun s' I'=>⟨_,H,I',h⟩) hf)
def gNil:TGs:=fun vs σ H Q=>vs=[]∧Q σ H
def gCons (t:TG)(u:TGs):TGs:=fun vs σ H Q=>∃ v r,vs=v::r∧t v σ H fun σ' H'=>u r σ' H' Q
theorem pI:PGs X [] gNil:=by
 intro pins s σ H vs us Q I r h
 obtain⟨e,h⟩:=h
 subst e
 cases r
 exact assignInOrder_nil ⟨σ,H,I,h⟩
theorem fq {e:Expr}{es:List Expr}{t:TG}{u:TGs}(h1:PG X e t)(h2:PGs X es u)
  (hs:(assignEach (e::es) X.env).map (·.2)=assign e X.env::(assignEach es X.env).map (·.2):=by rfl):PGs X (e::es) (gCons t u):=by
 intro pins s σ H vs us Q I r h
 obtain⟨v,vr,e1,h⟩:=h
 subst e1
 cases r with
 | cons r rr =>
  rw[hs]
  refine assignInOrder_cons (thn (h1 pins s σ H _ _ _ I r h) fun _ s1 ⟨σ1,H1,I1,q1⟩=>?_)
  exact h2 pins s1 σ1 H1 _ _ Q I1 rr q1
def gTup (K:PySem.W.Frag)(n:Nat)(t:TGs):TG:=fun v σ H Q=>∃ a xs,v=.ref a∧SqT K H a xs∧xs.length=n∧t xs σ H Q
theorem sQ {es:List Expr}{k:Nat}{t:TGs}{n:Nat}(hc:X.calm=true)(h:PGs X es t)
  (hn:(assignEach es X.env).length=n:=by rfl) (hst:(assignEach es X.env).findIdx? (·.1)=none:=by rfl):PG X (.Tuple es k pos) (gTup X.K n t):=by
 intro pins s σ H v u Q I r hw
 obtain⟨a,xs,e1,hq,hl,hw⟩:=hw
 subst e1
 cases r
 obtain⟨its,rv,ht,hz⟩:=I.tuple hq
 refine assign_Tuple_tuple (I.ok.hd hc) ht (by simp[hn,← hl,rv.length]) hst fun h' hx=>?_
 have I1:=I.kept (t':=s.toks) fun b o e=>hx b o (Nat.ne_of_lt (Heap.lt_size e)) e
 exact h pins _ σ H xs _ Q I1 (by simpa using rv) hw
def gSub (to ti:TE)(t:TSet):TG:=fun v σ H Q=>to σ H fun o H1=>ti σ H1 fun i H2=>t o i v H2 fun H3=>Q σ H3
theorem yj {o i:Expr}{to ti:TE}{t:TSet}(ho:PE X o to)(hi:PE X i ti)(hs:PSet X t)
  (ha:∀ v,assign (.Subscript o i pos) X.env v=(do
   let ov ← holding [v] (eval o X.env)
   let iv ← holding [v,ov] (eval i X.env)
   standAt pos
   holding [v,ov,iv] (setItem ov iv v)
   release [v,ov,iv] []):=by intro _;rfl):PG X (.Subscript o i pos) (gSub to ti t):=by
 intro pins s σ H v u Q I r h
 rw[ha]
 refine wpAny_bind (wpAny_holding (thn (ho pins s σ H _ I h) fun ov s1 ⟨x,H1,I1,r1,q1⟩=>?_))
 refine wpAny_bind (wpAny_holding (thn (hi pins s1 σ H1 _ I1 q1) fun iv s2 ⟨y,H2,I2,r2,q2⟩=>?_))
 refine wpAny_bind (wpAny_standAt (wpAny_bind (wpAny_holding (thn (hs pins s2 σ H2 x y v ov iv u _ I2 r1 r2 r q2) fun _ s3 ⟨H3,I3,q3⟩=>?_))))
 exact wpAny_release ⟨σ,H3,I3,q3⟩
def tAsg (te:TE)(g:TG):TS:=fun D σ H=>te σ H fun x H1=>g x σ H1 D.nx
theorem sR {tg e:Expr}{te:TE}{g:TG}(he:PE X e te)(hg:PG X tg g)(hs:swapsWithSole [tg] e pos.line X.env=pure false:=by rfl)(hw:swappedStores [tg] e X.env=pure none:=by rfl)
  (h1:(assignEach [tg] X.env).map (·.2)=[assign tg X.env]:=by rfl):PS X (.Assign [tg] e pos) (tAsg te g):=by
 intro pins s σ H D I h
 refine wpAny_Assign_stores (thn (he pins s σ H _ I h) fun v s1 ⟨x,H1,I1,r1,q1⟩=>?_) hs hw
 rw[h1]
 exact thn (hg pins s1 σ H1 x v _ I1 r1 q1) fun _ s2 q=>q
theorem iN {i:Nat}{x:Str}{e:Expr}{te:TE}{pos':Pos}(hN:X.N.Nodup)(hi:X.N[i]?=some x)(hx:Loc X.env.scope x)(he:PE X e te)(hs:swapsWith e (some (.Name x pos')) pos.line X.env=pure false:=by rfl)(hf:X.fn x=true∨X.env.scope.names.lookup x=some .local:=by first | exact .inl rfl | exact .inr rfl | assumption) :
  PS X (.Assign [.Name x pos'] e pos) (tAsg te (gName i)):=by
 intro pins s σ H D I h
 refine wpAny_Assign_Name (thn (he pins s σ H _ I h) fun v s1 ⟨y,H1,I1,r1,q1⟩=>?_) hs
 exact mE I1 hN hi hx r1 (fun s2 I2=>⟨_,H1,I2,q1⟩) hf
end
section
variable {X:Cx}{pos:Pos}
end
structure It where
 go:Nat→Hp→Prop
 yld:Nat→Hp→V→Hp→Prop
 stop:Nat→Hp→Prop
def FpOk (X:Cx)(pins:List (Addr×Obj))(H:Hp)(b:Addr):Prop :=
 H b=none∧b≠X.env.locals∧b∉X.fs∧(b∈X.ex∨X.s₀.heap.objs.size≤b)∧(∀ x c,X.env.cells.lookup x=some c→c≠b)∧∀ p∈X.pn++pins,p.1≠b
theorem Inv.fpOk {X:Cx}{pins:List (Addr×Obj)}{σ:St}{H H':Hp}{s:Shared}{b:Addr}(I:Inv X pins σ H s)(hb:s.heap.objs.size≤b)(hn:H' b=none):FpOk X pins H' b:=by
 refine⟨hn,Nat.ne_of_gt (Nat.lt_of_lt_of_le I.lt hb),I.nofs hb,.inr (Nat.le_trans I.sz hb),fun x c e z=>?_,fun p hp z=>?_⟩
 ·obtain⟨v,q⟩:=I.cell x c e
  exact absurd (Nat.lt_of_lt_of_le q.lt (by rw[z];exact hb)) (Nat.lt_irrefl _)
 ·exact absurd (Nat.lt_of_lt_of_le (Heap.lt_size (I.pin p hp).1) (by rw[z];exact hb)) (Nat.lt_irrefl _)
structure Turn (P:Program)(w:World)(K:PySem.W.Frag)(tg:Expr)(J:It)(fp:List Addr)(it:Addr)(tn:Nat→Heap→Prop):Prop where
 mem:it∈fp
 obj:∀ i h,tn i h→∀ b∈fp,∃ o,h.get? b=some o∧∀ v,o.data≠.cell v
 keep:∀ i h h',tn i h→(∀ b∈fp,∀ o,h.get? b=some o→h'.get? b=some o)→tn i h'
 item:∀ (X:Cx),X.prog=P→X.w=w→X.K=K→X.calm=true→∀ (i:Nat) (pins:List (Addr×Obj)) (s:Shared) (σ:St) (H:Hp) (E:Value→Shared→Prop),Inv X pins σ H s→(∀ b∈fp,FpOk X pins H b)→tn i s.heap→J.go i H →
  wpAny (model P w) X.A (pyNext (.ref it)) (fun r s1=>∃ u,r=some u ∧
   wpAny (model P w) X.A (letOwnedTupleGo tg (.ref it) u) (fun _ s2=>∃ x H',Inv X pins σ H' s2∧RelV x u∧J.yld i H x H'∧tn (i+1) s2.heap∧∀ b∈fp,H' b=none) E s1) E s
 done:∀ (X:Cx),X.prog=P→X.w=w→X.K=K→X.calm=true→∀ (i:Nat) (pins:List (Addr×Obj)) (s:Shared) (σ:St) (H:Hp) (E:Value→Shared→Prop),Inv X pins σ H s→(∀ b∈fp,FpOk X pins H b)→tn i s.heap→J.stop i H →
  wpAny (model P w) X.A (pyNext (.ref it)) (fun r s1=>r=none∧Inv X pins σ H s1) E s
 self:∀ (A:Around) (i:Nat) (s:Shared) (Q:Value→Shared→Prop) (E:Value→Shared→Prop),tn i s.heap→Q (.ref it) s→wpAny (model P w) A (pyIter (.ref it)) Q E s
abbrev TI:=St→Hp→(It→Hp→Prop)→Prop
def PIE (X:Cx)(pins:List (Addr×Obj))(σ:St)(tg:Expr)(R:It→Hp→Prop)(itv:Value)(s2:Shared):Prop :=
 ∃ (it:Addr) (fp:List Addr) (tn:Nat→Heap→Prop) (J:It) (H':Hp),itv=.ref it∧Inv X pins σ H' s2∧Turn X.prog X.w X.K tg J fp it tn∧tn 0 s2.heap∧(∀ b∈fp,FpOk X pins H' b)∧R J H'
def PI (X:Cx)(tg iter:Expr)(wi:TI):Prop :=
 ∀ (pins:List (Addr×Obj)) (s:Shared) (σ:St) (H:Hp) (R:It→Hp→Prop),Inv X pins σ H s→wi σ H R →
  wpAny (model X.prog X.w) X.A (eval iter X.env) (fun v s1=>wpAny (model X.prog X.w) X.A (pyIter v) (PIE X pins σ tg R) X.xe s1) X.xe s
theorem mF {M:Model}{A:Around}{E:Value→Shared→Prop}{s:Shared}{tg:Expr}{it:Addr}{u:Value}{o:Obj}{n:String}{vs:Array Value}{Q:Unit→Shared→Prop}(ho:s.heap.get? it=some o)(hc:o.cls=.type n)(hd:o.data=.fields vs)
  (hn:["enumerate","zip","dict_itemiterator","dict_reverseitemiterator","odict_iterator","itertools.zip_longest","itertools.pairwise"].contains n=false) (hQ:Q () s):wpAny M A (letOwnedTupleGo tg (.ref it) u) Q E s:=by
 unfold letOwnedTupleGo
 cases tg<;>first
  | exact wpAny_pure hQ
  | (cases u<;>first
    | exact wpAny_pure hQ
    | (refine wpAny_bind (wpAny_load ho ?_)
       rw[hc,hd]
       show wpAny M A (if (["enumerate","zip","dict_itemiterator","dict_reverseitemiterator","odict_iterator","itertools.zip_longest","itertools.pairwise"].contains n&&vs[0]?==some (rawInt _))=true then _ else _) Q E s
       rw[if_neg (by intro h;rw[hn,Bool.false_and]at h;cases h)]
       exact wpAny_pure hQ))
def Itl (K:PySem.W.Frag)(a:Addr):It :=
 ⟨fun i H=>∃ xs x,SqL K H a xs∧xs[i]?=some x,fun i H x H'=>H'=H∧∀ xs,SqL K H a xs→xs[i]?=some x,fun i H=>∃ xs,SqL K H a xs∧xs.length≤i⟩
def Itt (K:PySem.W.Frag)(a:Addr):It :=
 ⟨fun i H=>∃ xs x,SqT K H a xs∧xs[i]?=some x,fun i H x H'=>H'=H∧∀ xs,SqT K H a xs→xs[i]?=some x,fun i H=>∃ xs,SqT K H a xs∧xs.length≤i⟩
def Itr (lo:Int)(n:Nat):It:=⟨fun i _=>i < n,fun i H x H'=>H'=H∧x=.int (lo+i),fun i _=>n≤i⟩
theorem qS {P:Program}{w:World}{K:PySem.W.Frag}{tg:Expr}(a it:Addr):Turn P w K tg (Itl K a) [it] it (fun i h=>h.IsListIter it a i) where
 mem:=by simp
 obj:=fun i h st b hb=>by
  have e:b=it:=by simpa using hb
  subst e
  obtain⟨o,e,c,d⟩:=st
  exact⟨o,e,fun v z=>by rw[d]at z;cases z⟩
 keep:=fun i h h' st k=>st.at fun o e=>k it (by simp) o e
 item:=by
  intro X hP hw hK hc i pins s σ H E I hf st hg
  subst hP hw hK
  obtain⟨xs,x,hq,hx⟩:=hg
  obtain⟨its,rv,p,hz⟩:=I.list hq
  obtain⟨u,hu,ru⟩:=rv.get hx
  obtain⟨f0,f1,f2,f3,f4,f5⟩:=hf it (by simp)
  refine wpAny_pyNext_list_item st p.isList (x:=u) (by simpa using hu) fun h' st' sb=>?_
  have I1:=I.turned (t':=s.toks) (fun b o hb e=>(sb.2 b hb).trans e) f0 f1 f3 f4 f5
  obtain⟨o,e,c,d⟩:=id st'
  exact⟨u,rfl,mF e c d (by decide) ⟨x,H,I1,ru,⟨rfl,fun ys hy=>by rw[I.list_inj hy hq];exact hx⟩,st',fun b hb=>(hf b hb).1⟩⟩
 done:=by
  intro X hP hw hK hc i pins s σ H E I hf st hg
  subst hP hw hK
  obtain⟨xs,hq,hx⟩:=hg
  obtain⟨its,rv,p,hz⟩:=I.list hq
  obtain⟨f0,f1,f2,f3,f4,f5⟩:=hf it (by simp)
  have hl:=rv.length
  exact wpAny_pyNext_list_end (I.ok.hd hc) st p.isList (by simp;omega) fun h' eb=>⟨rfl,I.turned (t':=s.toks) (fun b o hb e=>eb b o hb e) f0 f1 f3 f4 f5⟩
 self:=fun _ _ _ _ _ st h=>wpAny_pyIter_listiter st h
theorem n5 {P:Program}{w:World}{K:PySem.W.Frag}{tg:Expr}(a it:Addr):Turn P w K tg (Itt K a) [it] it (fun i h=>h.IsTupleIter it a i) where
 mem:=by simp
 obj:=fun i h st b hb=>by
  have e:b=it:=by simpa using hb
  subst e
  obtain⟨o,e,c,d⟩:=st
  exact⟨o,e,fun v z=>by rw[d]at z;cases z⟩
 keep:=fun i h h' st k=>st.at fun o e=>k it (by simp) o e
 item:=by
  intro X hP hw hK hc i pins s σ H E I hf st hg
  subst hP hw hK
  obtain⟨xs,x,hq,hx⟩:=hg
  obtain⟨its,rv,p,hz⟩:=I.tuple hq
  obtain⟨u,hu,ru⟩:=rv.get hx
  obtain⟨f0,f1,f2,f3,f4,f5⟩:=hf it (by simp)
  refine wpAny_pyNext_tuple_item st (show s.heap.IsTuple a its.toArray from p) (x:=u) (by simpa using hu) fun h' st' sb=>?_
  have I1:=I.turned (t':=s.toks) (fun b o hb e=>(sb.2 b hb).trans e) f0 f1 f3 f4 f5
  obtain⟨o,e,c,d⟩:=id st'
  exact⟨u,rfl,mF e c d (by decide) ⟨x,H,I1,ru,⟨rfl,fun ys hy=>by rw[I.tuple_inj hy hq];exact hx⟩,st',fun b hb=>(hf b hb).1⟩⟩
 done:=by
  intro X hP hw hK hc i pins s σ H E I hf st hg
  subst hP hw hK
  obtain⟨xs,hq,hx⟩:=hg
  obtain⟨its,rv,p,hz⟩:=I.tuple hq
  obtain⟨f0,f1,f2,f3,f4,f5⟩:=hf it (by simp)
  have hl:=rv.length
  exact wpAny_pyNext_tuple_end (I.ok.hd hc) st (show s.heap.IsTuple a its.toArray from p) (by simp;omega) fun h' eb=>⟨rfl,I.turned (t':=s.toks) (fun b o hb e=>eb b o hb e) f0 f1 f3 f4 f5⟩
 self:=fun _ _ _ _ _ st h=>wpAny_pyIter_tupleiter st h
theorem n6 {P:Program}{w:World}{K:PySem.W.Frag}{tg:Expr}(it:Addr)(lo:Int)(n:Nat):Turn P w K tg (Itr lo n) [it] it (fun i h=>IsRangeIter h it (lo+(i:Nat)*1) ((n:Int) - (i:Nat)) 1) where
 mem:=by simp
 obj:=fun i h st b hb=>by
  have e:b=it:=by simpa using hb
  subst e
  exact⟨_,st,fun v z=>by
   have z':Data.fields _=Data.cell v:=z
   cases z'⟩
 keep:=fun i h h' st k=>k it (by simp) _ st
 item:=by
  intro X hP hw hK hc i pins s σ H E I hf st hg
  subst hP hw hK
  obtain⟨f0,f1,f2,f3,f4,f5⟩:=hf it (by simp)
  have W:=Walks.range (prog:=X.prog) (w:=X.w) (I.ok.hd hc) it lo 1 n
  refine W.item i s _ _ hg st fun v h' tk hv st' kk=>?_
  obtain⟨t,rfl⟩:=hv
  have I1:Inv X pins σ H { s with heap:=h',toks:=tk }:=I.turned (fun b o hb e=>kk b o (by simpa using hb) e) f0 f1 f3 f4 f5
  refine⟨_,rfl,mF (s:={ s with heap:=h',toks:=tk }) (n := "range_iterator") st' rfl rfl (by decide) ⟨.int (lo+i),H,I1,⟨t,?_⟩,⟨rfl,rfl⟩,st',fun b hb=>(hf b hb).1⟩⟩
  rw[Int.mul_one]
 done:=by
  intro X hP hw hK hc i pins s σ H E I hf st hg
  subst hP hw hK
  obtain⟨f0,f1,f2,f3,f4,f5⟩:=hf it (by simp)
  exact wpAny_pyNext_range_end (I.ok.hd hc) st (by have:n≤i:=hg;omega) fun h' eb=>⟨rfl,I.turned (t':=s.toks) (fun b o hb e=>eb b o hb e) f0 f1 f3 f4 f5⟩
 self:=fun _ _ _ _ _ st h=>wpAny_pyIter_rangeiter st h
end L2
namespace L2
open PySem PySem.Spec PyProof.Rows
section
variable {X:Cx}{tg:Expr}
theorem mG {pins:List (Addr×Obj)}{σ:St}{H:Hp}{s:Shared}{R:It→Hp→Prop}{E:Value→Shared→Prop}{lo hi:Int}{t u v:Tok}{tk:Nat}(I:Inv X pins σ H s)(h1 : -(2^62)≤lo)(h2:lo < 2^62)(h3 : -(2^62)≤hi)(h4:hi < 2^62)
  (q:R (Itr lo (hi - lo).toNat) H):wpAny (model X.prog X.w) X.A (pyIter (.ref s.heap.objs.size)) (PIE X pins σ tg R) E { s with heap:=s.heap.push { cls:=.type "range",data:=.fields #[.int lo t,.int hi u,.int 1 v] },toks:=tk }:=by
 refine wpAny_pyIter_range (IsRange.new ..) (small_one h1 h2 h3 h4) ?_
 have I1:Inv X pins σ H { s with heap:=s.heap.push { cls:=.type "range",data:=.fields #[.int lo t,.int hi u,.int 1 v] },toks:=tk }:=I.kept fun b o e=>Heap.get?_push_of_some _ e
 refine⟨(s.heap.push { cls:=.type "range",data:=.fields #[.int lo t,.int hi u,.int 1 v] }).objs.size,[(s.heap.push { cls:=.type "range",data:=.fields #[.int lo t,.int hi u,.int 1 v] }).objs.size],_,_,H,rfl,
  I1.kept (t':=tk) fun b o e=>Heap.get?_push_of_some _ e,n6 _ lo (hi - lo).toNat,?_,fun b hb=>?_,q⟩
 ·have e1:lo+((0:Nat):Int)*1=lo:=by simp
  have e2:(((hi - lo).toNat:Nat):Int) - ((0:Nat):Int)=Builtin.Range.rangeSize lo hi 1:=by rw[rangeSize_one];split<;>omega
  show IsRangeIter _ _ (lo+((0:Nat):Int)*1) ((((hi - lo).toNat:Nat):Int) - ((0:Nat):Int)) 1
  rw[e1,e2]
  exact Heap.get?_push_size _ rfl
 ·have e:b=(s.heap.push { cls:=.type "range",data:=.fields #[.int lo t,.int hi u,.int 1 v] }).objs.size:=by simpa using hb
  subst e
  exact I1.fpOk (Nat.le_refl _) (I1.hok.fresh (Nat.le_refl _))
def iRng1 (ta:TA):TI:=fun σ H R=>ta σ H fun vs H1=>∃ j:Int,vs=[.int j]∧-(2^62)≤j∧j < 2^62∧R (Itr 0 j.toNat) H1
def iRng2 (ta:TA):TI:=fun σ H R=>ta σ H fun vs H1=>∃ i j:Int,vs=[.int i,.int j]∧(-(2^62)≤i∧i < 2^62∧-(2^62)≤j∧j < 2^62)∧R (Itr i (j - i).toNat) H1
theorem qT {a:Expr}{ta:TA}{p pos:Pos}(hg:Gl X "range")(hm:X.mg "range"=none)(ha:PA X [a] ta)(hs:starEach [a] X.env=[(false,eval a X.env)]:=by rfl):PI X tg (.Call (.Name "range" p) [a] [] pos) (iRng1 ta):=by
 intro pins s σ H R I h
 refine Call_ (gp I hg hm boot_range (PyProof.Rows.callWith_type1 (thn (ha pos pins s σ H _ I h) fun us s1 ⟨vs,H1,I1,r1,q1⟩=>?_) hs rfl))
 obtain⟨j,e,q1,q2,q⟩:=q1
 subst e
 cases r1 with
 | cons r rr =>
  cases rr
  obtain⟨t,rfl⟩:=r
  exact call_range_1 (mG I1 (by omega) (by omega) q1 q2 (by grind))
theorem qU {a b:Expr}{ta:TA}{p pos:Pos}(hg:Gl X "range")(hm:X.mg "range"=none)(ha:PA X [a,b] ta)(hs:starEach [a,b] X.env=[(false,eval a X.env),(false,eval b X.env)]:=by rfl)(hs2:starEach [b] X.env=[(false,eval b X.env)]:=by rfl) :
  PI X tg (.Call (.Name "range" p) [a,b] [] pos) (iRng2 ta):=by
 intro pins s σ H R I h
 refine Call_ (gp I hg hm boot_range (PyProof.Rows.callWith_type1 (thn (ha pos pins s σ H _ I h) fun us s1 ⟨vs,H1,I1,r1,q1⟩=>?_) (by rw[hs,hs2]) (by rw[hs2];rfl)))
 obtain⟨i,j,e,⟨q1,q2,q3,q4⟩,q⟩:=q1
 subst e
 cases r1 with
 | cons r rr =>
  cases rr with
  | cons r' rr =>
   cases rr
   obtain⟨t,rfl⟩:=r
   obtain⟨t',rfl⟩:=r'
   exact call_range_2 (mG I1 q1 q2 q3 q4 q)
def tFor (wi:TI)(g:TG)(tb:TS):TS:=fun D σ H=>wi σ H fun J H1=>∃ W:Nat→Nat→St→Hp→Prop,(∃ m,W 0 m σ H1)∧∀ i m σ H,W i m σ H →
 (J.stop i H∧D.nx σ H)∨(J.go i H∧∃ N:St→Hp→Prop,(∀ σ' H',N σ' H'→∃ m',m' < m∧W (i+1) m' σ' H')∧∀ x H',J.yld i H x H'→g x σ H' fun σ2 H2=>tb { D with nx:=N,ct:=N,bk:=D.nx } σ2 H2)
def pinsAt (fp:List Addr)(h:Heap):List (Addr×Obj):=fp.filterMap fun b=>(h.get? b).map fun o=>(b,o)
theorem cX {fp:List Addr}{h:Heap}{b:Addr}{o:Obj}(hb:b∈fp)(e:h.get? b=some o):(b,o)∈pinsAt fp h:=List.mem_filterMap.mpr ⟨b,hb,by rw[e];rfl⟩
theorem qV {fp:List Addr}{h:Heap}{p:Addr×Obj}(hp:p∈pinsAt fp h):p.1∈fp∧h.get? p.1=some p.2:=by
 obtain⟨b,hb,e⟩:=List.mem_filterMap.mp hp
 cases q:h.get? b with
 | none=>rw[q]at e;cases e
 | some o =>
  grind
theorem Inv.pinned {pins:List (Addr×Obj)}{σ:St}{H:Hp}{s:Shared}{fp:List Addr}(I:Inv X pins σ H s)(hf:∀ b∈fp,FpOk X pins H b)(ho:∀ b∈fp,∃ o,s.heap.get? b=some o∧∀ v,o.data≠.cell v):Inv X (pins++pinsAt fp s.heap) σ H s :=
 I.pins_of fun p hp=>(List.mem_append.mp hp).elim (fun z=>I.pin p (List.mem_append_right _ z)) fun z=>by
  obtain⟨hb,e⟩:=qV z
  obtain⟨f0,f1,f2,_⟩:=hf p.1 hb
  grind
theorem Inv.unpinned {pins pl:List (Addr×Obj)}{σ:St}{H:Hp}{s:Shared}(I:Inv X (pins++pl) σ H s):Inv X pins σ H s:=I.pins_of fun p hp=>I.pin p (List.mem_append_right _ (List.mem_append_left _ hp))
theorem yk {iter:Expr}{body:List Stmt}{wi:TI}{g:TG}{tb:TS}{pos:Pos}(hp:PassesOwn (model X.prog X.w) X.A X.env X.xe)(hc:X.calm=true)(hi:PI X tg iter wi)(hg:PG X tg g)(hb:PSs X body tb)
  (hs:∀ x,foldedSetIterable iter X.env x=pure x:=by intro _;rfl):PS X (.For tg iter body [] pos) (tFor wi g tb):=by
 intro pins s σ H D I h
 refine wpAny_For (thn (hi pins s σ H _ I h) fun v s1 h1=>thn h1 fun itv s2 h2=>?_) hs
 obtain⟨it,fp,tn,J,H2,e,I2,T,st2,f2,W,⟨m0,w0⟩,turn⟩:=h2
 subst e
 have stat:∀ {H':Hp},(∀ b∈fp,H' b=none)→∀ b∈fp,FpOk X pins H' b:=fun hn b hb=>⟨hn b hb,(f2 b hb).2⟩
 refine codeAny_forLoop_any (fun n s'=>∃ i σ' H',Inv X pins σ' H' s'∧tn i s'.heap∧(∀ b∈fp,H' b=none)∧W i n σ' H') ?_ m0 ⟨0,σ,H2,I2,st2,fun b hb=>(f2 b hb).1,w0⟩
 rintro n s3 ⟨i,σ3,H3,I3,st3,fr3,w3⟩
 rcases turn i n σ3 H3 w3 with ⟨stop,qn⟩ | ⟨go,N,hN,step⟩
 ·refine wpAny_passesOwn hp (thn (T.done X rfl rfl rfl hc i pins s3 σ3 H3 X.xe I3 (stat fr3) st3 stop) fun r s4 ⟨hr,I4⟩=>?_)
  subst hr
  exact wpAny_execs_nil ⟨σ3,H3,I4,qn⟩
 ·refine wpAny_passesOwn hp (thn (T.item X rfl rfl rfl hc i pins s3 σ3 H3 X.xe I3 (stat fr3) st3 go) fun r s4 ⟨u,hr,h4⟩=>?_)
  subst hr
  refine wpAny_passesOwn hp (thn h4 fun _ s5 ⟨x,H5,I5,r5,y5,st5,fr5⟩=>?_)
  have I5':=I5.pinned (stat fr5) (T.obj _ _ st5)
  refine wpAny_passesOwn hp (thn (hg _ s5 σ3 H5 x u _ I5' r5 (step x H5 y5)) fun _ s6 ⟨σ6,H6,I6,q6⟩=>?_)
  refine wpAny_passesOwn hp (thn (hb _ s6 σ6 H6 _ I6 q6) fun f s7 q7=>?_)
  have again:∀ {σ7:St} {H7:Hp},Inv X (pins++pinsAt fp s5.heap) σ7 H7 s7→N σ7 H7→∃ m,m < n∧∃ i σ' H',Inv X pins σ' H' s7∧tn i s7.heap∧(∀ b∈fp,H' b=none)∧W i m σ' H':=fun {σ7 H7} I7 n7=>by
   obtain⟨m',hm,w7⟩:=hN σ7 H7 n7
   refine⟨m',hm,i+1,σ7,H7,I7.unpinned,T.keep _ _ _ st5 fun b hb o e=>(I7.pin (b,o) (List.mem_append_right _ (List.mem_append_right _ (cX hb e)))).1,fun b hb=>?_,w7⟩
   obtain⟨o,e,d⟩:=T.obj _ _ st5 b hb
   exact(I7.pin (b,o) (List.mem_append_right _ (List.mem_append_right _ (cX hb e)))).2.1
  cases f with
  | next=>obtain⟨σ7,H7,I7,n7⟩:=q7;exact again I7 n7
  | cont=>obtain⟨σ7,H7,I7,n7⟩:=q7;exact again I7 n7
  | brk=>obtain⟨σ7,H7,I7,q7⟩:=q7;exact⟨σ7,H7,I7.unpinned,q7⟩
  | ret v=>obtain⟨x7,σ7,H7,I7,r7,q7⟩:=q7;exact⟨x7,σ7,H7,I7.unpinned,r7,q7⟩
end
end L2
namespace L2
open PySem PySem.Spec PyProof.Rows
abbrev R2:=V→V→Hp→VK→Prop
def OpR (X:Cx)(f:Value→Value→Sem Value)(r:R2):Prop :=
 ∀ (pins:List (Addr×Obj)) (s:Shared) (σ:St) (H:Hp) (x y:V) (v u:Value) (Q:VK),Inv X pins σ H s→RelV x v→RelV y u→r x y H Q →
  wpAny (model X.prog X.w) X.A (f v u) (EP X pins σ Q) X.xe s
def UnR (X:Cx)(f:Value→Sem Value)(r:V→Hp→VK→Prop):Prop :=
 ∀ (pins:List (Addr×Obj)) (s:Shared) (σ:St) (H:Hp) (x:V) (v:Value) (Q:VK),Inv X pins σ H s→RelV x v→r x H Q →
  wpAny (model X.prog X.w) X.A (f v) (EP X pins σ Q) X.xe s
def CallR (X:Cx)(f:Value)(r:List V→Hp→VK→Prop):Prop :=
 ∀ (pins:List (Addr×Obj)) (s:Shared) (σ:St) (H:Hp) (xs:List V) (us:List Value) (Q:VK),Inv X pins σ H s→Vals xs us→r xs H Q →
  wpAny (model X.prog X.w) X.A (call f us) (EP X pins σ Q) X.xe s
def TruR (X:Cx)(r:V→Hp→(Bool→Hp→Prop)→Prop):Prop :=
 ∀ (pins:List (Addr×Obj)) (s:Shared) (σ:St) (H:Hp) (x:V) (v:Value) (Q:Bool→Hp→Prop),Inv X pins σ H s→RelV x v→r x H Q →
  wpAny (model X.prog X.w) X.A (truthy v) (TP X pins σ Q) X.xe s
def tOp (r:R2)(ta tb:TE):TE:=fun σ H Q=>ta σ H fun x H1=>tb σ H1 fun y H2=>r x y H2 Q
def tUn (r:V→Hp→VK→Prop)(ta:TE):TE:=fun σ H Q=>ta σ H fun x H1=>r x H1 Q
def rI (C:Int→Int→Prop)(g:Int→Int→V):R2:=fun x y H Q=>∃ i j,x=.int i∧y=.int j∧C i j∧Q (g i j) H
def rI0 (g:Int→Int→V):R2:=fun x y H Q=>∃ i j,x=.int i∧y=.int j∧Q (g i j) H
def rU (g:Int→V):V→Hp→VK→Prop:=fun x H Q=>∃ i,x=.int i∧Q (g i) H
section
variable {X:Cx}{a b c:Expr}{ta tb tc:TE}{pos:Pos}
theorem binT (ha:PE X a ta)(hb:PE X b tb){pins:List (Addr×Obj)}{s:Shared}{σ:St}{H:Hp}{R:V→V→Hp→Prop}(I:Inv X pins σ H s)
  (h:ta σ H fun x H1=>tb σ H1 fun y H2=>R x y H2) {Q:Value→Shared→Prop} {f:Value→Value→Sem Value}
  (hf:∀ v u s2 x y H2,Inv X pins σ H2 s2→RelV x v→RelV y u→R x y H2→wpAny (model X.prog X.w) X.A (f v u) Q X.xe s2) :
  wpAny (model X.prog X.w) X.A (eval a X.env) (fun v s₁=>wpAny (model X.prog X.w) X.A (eval b X.env) (fun u s₂=>wpAny (model X.prog X.w) X.A (f v u) Q X.xe s₂) X.xe s₁) X.xe s:=by
 refine thn (ha pins s σ H _ I h) fun v s1 ⟨x,H1,I1,r1,q1⟩=>?_
 refine thn (hb pins s1 σ H1 _ I1 q1) fun u s2 ⟨y,H2,I2,r2,q2⟩=>?_
 exact hf v u s2 x y H2 I2 r1 r2 q2
theorem zu {op:Operator}{r:R2}(ho:OpR X (binaryOp op) r)(ha:PE X a ta)(hb:PE X b tb):PE X (.BinOp a op b pos) (tOp r ta tb):=by
 intro pins s σ H Q I h
 exact wpAny_BinOp (binT ha hb I h fun v u s2 x y H2 I2 rx ry q=>ho pins s2 σ H2 x y v u Q I2 rx ry q)
theorem zv {op:UnaryOp}{r:V→Hp→VK→Prop}(ho:UnR X (unaryOp op) r)(ha:PE X a ta):PE X (.UnaryOp op a pos) (tUn r ta):=by
 intro pins s σ H Q I h
 exact UnaryOp_ (thn (ha pins s σ H _ I h) fun v s1 ⟨x,H1,I1,r1,q1⟩=>ho pins s1 σ H1 x v Q I1 r1 q1)
theorem opI {f:Value→Value→Sem Value}{C:Int→Int→Prop}{g:Int→Int→Int}
  (rule:∀ (i j:Int) (t u:Tok) (s:Shared) (Q:Value→Shared→Prop) (E:Value→Shared→Prop),C i j→Q (.int (g i j) s.toks) { s with toks:=s.toks+1 }→wpAny (model X.prog X.w) X.A (f (.int i t) (.int j u)) Q E s) :
  OpR X f (rI C fun i j=>.int (g i j)):=by
 intro pins s σ H x y v u Q I rx ry h
 obtain⟨i,j,rfl,rfl,hc,q⟩:=h
 obtain⟨t,rfl⟩:=rx
 obtain⟨t',rfl⟩:=ry
 exact rule i j t t' s _ _ hc ⟨.int (g i j),H,I.tok _,⟨_,rfl⟩,q⟩
theorem opI0 {f:Value→Value→Sem Value}{g:Int→Int→Int}
  (rule:∀ (i j:Int) (t u:Tok) (s:Shared) (Q:Value→Shared→Prop) (E:Value→Shared→Prop),Q (.int (g i j) s.toks) { s with toks:=s.toks+1 }→wpAny (model X.prog X.w) X.A (f (.int i t) (.int j u)) Q E s) :
  OpR X f (rI0 fun i j=>.int (g i j)):=by
 intro pins s σ H x y v u Q I rx ry h
 obtain⟨i,j,rfl,rfl,q⟩:=h
 obtain⟨t,rfl⟩:=rx
 obtain⟨t',rfl⟩:=ry
 exact rule i j t t' s _ _ ⟨.int (g i j),H,I.tok _,⟨_,rfl⟩,q⟩
theorem opB0 {f:Value→Value→Sem Value}{g:Int→Int→Bool}
  (rule:∀ (i j:Int) (t u:Tok) (s:Shared) (Q:Value→Shared→Prop) (E:Value→Shared→Prop),Q (.bool (g i j)) s→wpAny (model X.prog X.w) X.A (f (.int i t) (.int j u)) Q E s) :
  OpR X f (rI0 fun i j=>.bl (g i j)):=by
 intro pins s σ H x y v u Q I rx ry h
 obtain⟨i,j,rfl,rfl,q⟩:=h
 obtain⟨t,rfl⟩:=rx
 obtain⟨t',rfl⟩:=ry
 exact rule i j t t' s _ _ ⟨.bl (g i j),H,I,rfl,q⟩
def CDiv (i j:Int):Prop:=0 < j∧j < 1073741824
def CMul (i j:Int):Prop:=(-(2^64) < i∧i < 2^64)∨(-(2^64) < j∧j < 2^64)
theorem CMul.ok {i j:Int}(h:CMul i j):IntMulOk i j:=by
 rcases h with ⟨h1,h2⟩ | ⟨h1,h2⟩
 ·exact .of_left (intBits_le_64 h1 h2)
 ·exact .of_right (intBits_le_64 h1 h2)
theorem yl:OpR X (binaryOp .Add) (rI0 fun i j=>.int (i+j)):=opI0 fun _ _ _ _ _ _ _ q=>add_int q
theorem ym:OpR X (binaryOp .Sub) (rI0 fun i j=>.int (i - j)):=opI0 fun _ _ _ _ _ _ _ q=>sub_int q
theorem yn:OpR X (binaryOp .Mult) (rI CMul fun i j=>.int (i*j)):=opI fun _ _ _ _ _ _ _ hc q=>mul_int q hc.ok
theorem vw:OpR X (binaryOp .FloorDiv) (rI CDiv fun i j=>.int (i/j)):=opI fun i j _ _ _ _ _ hc q=>by
 have h1:=hc.1
 have h2:=hc.2
 exact floordiv_int (by omega) (by rw[Int.fdiv_eq_ediv_of_nonneg i (by omega)];exact q) (.inl (PyProof.noPylong_small (by omega)))
theorem yo:OpR X (binaryOp .Mod) (rI (fun _ j=>0 < j) fun i j=>.int (i%j)):=opI fun i j _ _ _ _ _ hc q=>by
 have h1:=hc
 exact mod_int' (by omega) (by rw[Int.fmod_eq_emod_of_nonneg i (by omega)];exact q)
theorem unI {f:Value→Sem Value}{g:Int→Int}
  (rule:∀ (i:Int) (t:Tok) (s:Shared) (Q:Value→Shared→Prop) (E:Value→Shared→Prop),Q (.int (g i) s.toks) { s with toks:=s.toks+1 }→wpAny (model X.prog X.w) X.A (f (.int i t)) Q E s) :
  UnR X f (rU fun i=>.int (g i)):=by
 intro pins s σ H x v Q I rx h
 obtain⟨i,rfl,q⟩:=h
 obtain⟨t,rfl⟩:=rx
 exact rule i t s _ _ ⟨.int (g i),H,I.tok _,⟨_,rfl⟩,q⟩
theorem yq:UnR X (unaryOp .USub) (rU fun i=>.int (-i)):=unI fun _ _ _ _ _ q=>neg_int q
end
section
variable {X:Cx}{a b c:Expr}{ta tb tc:TE}{pos:Pos}
theorem yr {pins:List (Addr×Obj)}{σ:St}{H:Hp}{s:Shared}{Q:VK}{k k':Bool}(I:Inv X pins σ H s)(q:Q (.bl k) H)(e:k=k'):EP X pins σ Q (.bool k') s:=by
 subst e
 exact⟨.bl k,H,I,rfl,q⟩
theorem xK:OpR X (compareOp .Lt) (rI0 fun i j=>.bl (decide (i < j))):=opB0 fun _ _ _ _ _ _ _ q=>lt_int q
theorem mH:OpR X (compareOp .LtE) (rI0 fun i j=>.bl (decide (i≤j))):=opB0 fun _ _ _ _ _ _ _ q=>le_int q
theorem zw:OpR X (compareOp .Gt) (rI0 fun i j=>.bl (decide (j < i))):=opB0 fun _ _ _ _ _ _ _ q=>gt_int q
theorem qW:OpR X (compareOp .In) (fun x y H Q=>∃ i j,x=.str i∧y=.str j∧Q (.bl (!(Builtin.Str.occurrences j i 0 j.length 1).isEmpty)) H):=by
 intro pins s σ H x y v u Q I rx ry h
 obtain⟨i,j,rfl,rfl,q⟩:=h
 obtain⟨t,rfl⟩:=rx
 obtain⟨t',rfl⟩:=ry
 exact in_str (yr I q rfl)
theorem OpR.or {f:Value→Value→Sem Value}{r r':R2}(h:OpR X f r)(h':OpR X f r'):OpR X f (fun x y H Q=>r x y H Q∨r' x y H Q):=by
 intro pins s σ H x y v u Q I rx ry q
 rcases q with q | q
 ·exact h pins s σ H x y v u Q I rx ry q
 ·exact h' pins s σ H x y v u Q I rx ry q
theorem nomark (b:Expr){op:CmpOp}(h:op≠.In:=by decide)(h2:op≠.NotIn:=by decide):behindInMarks op b=false:=by
 have e1:(op==CmpOp.In)=false:=by cases op<;>first | rfl | exact absurd rfl h
 have e2:(op==CmpOp.NotIn)=false:=by cases op<;>first | rfl | exact absurd rfl h2
 cases b<;>simp[behindInMarks,e1,e2]
theorem pJ {op:CmpOp}{r:R2}(ho:OpR X (compareOp op) r)(ha:PE X a ta)(hb:PE X b tb)(hm:behindInMarks op b=false):PE X (.Compare a [op] [b] pos) (tOp r ta tb):=by
 intro pins s σ H Q I h
 exact wpAny_Compare1 (binT ha hb I h fun v u s2 x y H2 I2 rx ry q=>ho pins s2 σ H2 x y v u Q I2 rx ry q) hm
def tTest (t:TE):TT:=fun σ H Q=>t σ H fun x H'=>∃ k,x=.bl k∧Q k H'
theorem vx {op:CmpOp}{r:R2}(ho:OpR X (compareOp op) r)(ha:PE X a ta)(hb:PE X b tb)(hm:behindInMarks op b=false):PT X (.Compare a [op] [b] pos) (tTest (tOp r ta tb)):=by
 intro pins s σ H Q I h
 refine wpAny_isTrue_Compare1 (thn (ha pins s σ H _ I h) fun v s1 ⟨x,H1,I1,r1,q1⟩=>thn (hb pins s1 σ H1 _ I1 q1) fun u s2 ⟨y,H2,I2,r2,q2⟩ =>
  thn (ho pins s2 σ H2 x y v u _ I2 r1 r2 q2) fun c s3 ⟨z,H3,I3,r3,k,e,q3⟩=>?_) hm
 subst e
 cases r3
 exact wpAny_truthy_bool ⟨H3,I3,q3⟩
def tChain (r r':R2)(ta tb tc:TE):TE:=fun σ H Q=>ta σ H fun x H1=>tb σ H1 fun y H2=>r x y H2 fun z H3=>∃ k,z=.bl k ∧
 (if k=true then tc σ H3 fun w' H4=>r' y w' H4 Q else Q (.bl false) H3)
theorem sS {op op':CmpOp}{r r':R2}(ho:OpR X (compareOp op) r)(ho':OpR X (compareOp op') r')(ha:PE X a ta)(hb:PE X b tb)(hc:PE X c tc)
  (hm:lastMarks [op,op'] [b,c]=false:=by with_unfolding_all rfl):PE X (.Compare a [op,op'] [b,c] pos) (tChain r r' ta tb tc):=by
 intro pins s σ H Q I h
 refine Compare_chain (thn (ha pins s σ H _ I h) fun v s1 ⟨x,H1,I1,r1,q1⟩=>chain_link (thn (hb pins s1 σ H1 _ I1 q1) fun u s2 ⟨y,H2,I2,r2,q2⟩ =>
  thn (ho pins s2 σ H2 x y v u _ I2 r1 r2 q2) fun d s3 ⟨z,H3,I3,r3,k,e,q3⟩=>?_)) hm
 subst e
 cases r3
 wp_walk
 cases k with
 | false=>exact ite_ff ⟨.bl false,H3,I3,rfl,q3⟩
 | true=>exact ite_tt (chain_last (thn (hc pins s3 σ H3 _ I3 q3) fun w' s4 ⟨z',H4,I4,r4,q4⟩=>ho' pins s4 σ H4 y z' u w' Q I4 r2 r4 q4))
theorem sT {op op':CmpOp}{r r':R2}(ho:OpR X (compareOp op) r)(ho':OpR X (compareOp op') r')(ha:PE X a ta)(hb:PE X b tb)(hc:PE X c tc)
  (hm:lastMarks [op,op'] [b,c]=false:=by with_unfolding_all rfl):PT X (.Compare a [op,op'] [b,c] pos) (tTest (tChain r r' ta tb tc)):=by
 intro pins s σ H Q I h
 refine isTrue_chain (thn (ha pins s σ H _ I h) fun v s1 ⟨x,H1,I1,r1,q1⟩=>test_link (thn (hb pins s1 σ H1 _ I1 q1) fun u s2 ⟨y,H2,I2,r2,q2⟩ =>
  thn (ho pins s2 σ H2 x y v u _ I2 r1 r2 q2) fun d s3 ⟨z,H3,I3,r3,k,e,q3⟩=>?_)) hm
 subst e
 cases r3
 refine wpAny_truthy_bool ?_
 cases k with
 | false =>
  obtain⟨k',e',q'⟩:=q3
  cases e'
  exact ite_ff ⟨H3,I3,q'⟩
 | true =>
  refine ite_tt (test_last (thn (hc pins s3 σ H3 _ I3 q3) fun w' s4 ⟨z',H4,I4,r4,q4⟩=>thn (ho' pins s4 σ H4 y z' u w' _ I4 r2 r4 q4) fun d' s5 ⟨z2,H5,I5,r5,k2,e2,q5⟩=>?_))
  subst e2
  cases r5
  exact wpAny_truthy_bool ⟨H5,I5,q5⟩
def TruV (K:PySem.W.Frag)(x:V)(H:Hp)(k:Bool):Prop :=
 match x with
 | .non=>k=false
 | .bl b=>k=b
 | .int i=>k=(i != 0)
 | .str y=>y.length≤sizeLine∧k=((y.length:Int) != 0)
 | .byt y=>y.size≤sizeLine∧k=((y.size:Int) != 0)
 | .ref p=>(∃ xs,SqL K H p xs∧k = !xs.isEmpty)∨(∃ xs,SqT K H p xs∧k = !xs.isEmpty)∨∃ kvs,H p=some (.dK kvs)∧k = !kvs.isEmpty
 | _=>False
theorem n8 {κ:Type}{kvs:List (κ×V)}{vs:List (κ×Value)}(r:KV kvs vs):(!vs.isEmpty) = !kvs.isEmpty:=by
 cases r<;>rfl
theorem iO {xs:List V}{its:List Value}(r:Vals xs its):(!its.toArray.isEmpty) = !xs.isEmpty:=by
 cases r<;>simp
theorem line63:(sizeLine:Nat) < 2^63:=by rw[sizeLine_eq];decide
theorem Am:TruR X (fun x H Q=>∃ k,TruV X.K x H k∧Q k H):=by
 intro pins s σ H x v Q I rx h
 obtain⟨k,e,q⟩:=h
 have hl:=line63
 have hs:=sizeLine_eq
 cases x with
 | non =>
  cases rx
  have e':k=false:=e
  subst e'
  exact truthy_none ⟨H,I,q⟩
 | bl b =>
  cases rx
  have e':k=b:=e
  subst e'
  exact wpAny_truthy_bool ⟨H,I,q⟩
 | int i =>
  obtain⟨t,rfl⟩:=rx
  have e':=e
  subst e'
  exact PySem.P.truthy_int ⟨H,I,q⟩
 | str y =>
  obtain⟨t,rfl⟩:=rx
  obtain⟨hy,e'⟩:y.length≤sizeLine∧k=((y.length:Int) != 0):=e
  subst e'
  exact PySem.P.truthy_str (by omega) ⟨H,I.tok _,q⟩
 | byt y =>
  obtain⟨t,rfl⟩:=rx
  obtain⟨hy,e'⟩:y.size≤sizeLine∧k=((y.size:Int) != 0):=e
  subst e'
  exact PySem.W.truthy_bytes (by omega) ⟨H,I.tok _,q⟩
 | ref p =>
  cases rx
  have e':=e
  rcases e' with ⟨xs,hx,e'⟩ | ⟨xs,hx,e'⟩ | ⟨kvs,hx,e'⟩
  ·subst e'
   obtain⟨its,r,pl,hz⟩:=I.list hx
   have hlen:=r.length
   exact wpAny_truthy_list pl.isList (by simp only[List.size_toArray];omega) ⟨H,I.tok _,by rw[iO r];exact q⟩
  ·subst e'
   obtain⟨its,r,pl,hz⟩:=I.tuple hx
   have hlen:=r.length
   exact truthy_tuple pl (by simp only[List.size_toArray];omega) ⟨H,I.tok _,by rw[iO r];exact q⟩
  ·subst e'
   obtain⟨hz,hS,vs,r,m⟩:kvs.length≤sizeLine∧(p==sysModules)=false∧∃ vs,KV kvs vs∧s.heap.DictOf (mixKind X.prog X.w) p vs:=I.hok p _ hx
   have hlen:=Paired.length r
   exact wpAny_truthy_dict hS m (by omega) ⟨H,I.tok _,by rw[n8 r];exact q⟩
 | _=>exact(show False from e).elim
theorem vals1 {x:V}{us:List Value}(r:Vals [x] us):∃ u,us=[u]∧RelV x u:=by
 cases r with
 | cons r1 r2=>cases r2;exact⟨_,rfl,r1⟩
theorem vals2 {x y:V}{us:List Value}(r:Vals [x,y] us):∃ u w',us=[u,w']∧RelV x u∧RelV y w':=by
 cases r with
 | cons r1 r2 =>
  cases r2 with
  | cons r3 r4=>cases r4;exact⟨_,_,rfl,r1,r3⟩
theorem qX (hc:X.calm=true):CallR X (.builtin "max") (fun xs H Q=>∃ i j,xs=[.int i,.int j]∧Q (.int (if j > i then j else i)) H):=by
 intro pins s σ H xs us Q I r h
 obtain⟨i,j,rfl,q⟩:=h
 obtain⟨u,w',rfl,⟨t,rfl⟩,⟨t',rfl⟩⟩:=vals2 r
 refine max_two_ints (I.ok.hd hc) fun h' tk k=>⟨_,H,I.kept k,?_,q⟩
 by_cases hj:j > i
 ·rw[if_pos hj,if_pos hj];exact⟨_,rfl⟩
 ·rw[if_neg hj,if_neg hj];exact⟨_,rfl⟩
def LenV (K:PySem.W.Frag)(x:V)(H:Hp)(n:Nat):Prop :=
 match x with
 | .str y=>y.length≤sizeLine∧n=y.length
 | .byt y=>y.size≤sizeLine∧n=y.size
 | .ref p=>(∃ xs,SqL K H p xs∧n=xs.length)∨∃ xs,SqT K H p xs∧n=xs.length
 | _=>False
theorem sU:CallR X (.builtin "len") (fun xs H Q=>∃ x n,xs=[x]∧LenV X.K x H n∧Q (.int n) H):=by
 intro pins s σ H xs us Q I r h
 obtain⟨x,n,rfl,e,q⟩:=h
 obtain⟨u,rfl,rx⟩:=vals1 r
 have hl:=line63
 have hs:=sizeLine_eq
 cases x with
 | str y =>
  obtain⟨t,rfl⟩:=rx
  obtain⟨hy,e'⟩:y.length≤sizeLine∧n=y.length:=e
  subst e'
  exact len_str (by omega) ⟨.int _,H,I.tok _,⟨_,rfl⟩,q⟩
 | byt y =>
  obtain⟨t,rfl⟩:=rx
  obtain⟨hy,e'⟩:y.size≤sizeLine∧n=y.size:=e
  subst e'
  exact PySem.W.len_bytes (by omega) ⟨.int _,H,I.tok _,⟨_,rfl⟩,q⟩
 | ref p =>
  cases rx
  have e':=e
  rcases e' with ⟨xs,hx,e'⟩ | ⟨xs,hx,e'⟩
  ·subst e'
   obtain⟨its,r',pl,hz⟩:=I.list hx
   have hlen:=r'.length
   exact Calls.call_len_list pl.isList (by simp only[List.size_toArray];omega) ⟨.int xs.length,H,I.tok _,⟨_,by simp only[List.size_toArray];rw[hlen]⟩,q⟩
  ·subst e'
   obtain⟨its,r',pl,hz⟩:=I.tuple hx
   have hlen:=r'.length
   exact len_tuple pl (by simp only[List.size_toArray];omega) ⟨.int xs.length,H,I.tok _,⟨_,by simp only[List.size_toArray];rw[hlen]⟩,q⟩
 | _=>exact(show False from e).elim
end
end L2
namespace L2
open PySem PySem.Spec PyProof.Rows
structure ObjM (h:Heap)(x dx C:Addr)(mA:Str→Option Value):Prop where
 obj:h.get? x=some (PySem.W.instObj C dx)
 ns:h.Ns1 dx mA
 ne:dx≠x
theorem qY {h:Heap}{dx:Addr}{mA:Str→Option Value}(n:h.Ns1 dx mA):∃ od,h.get? dx=some od∧∀ name,PySem.W.lookIn name od=some (mA name):=by
 obtain⟨o,es,ep,ho,hd,hk,_,hm⟩:=n
 refine⟨o,ho,fun name=>?_⟩
 have e:=hm name
 unfold nsFind findBy at e
 rw[← Array.find?_toList]at e
 unfold PySem.W.lookIn
 rw[hd]
 dsimp only
 split
 ·rename_i y q
  rw[q]at e
  exact congrArg some e
 ·rename_i q
  rw[q]at e
  have a:es.toList.any (·.refKey)=false:=by
   rw[List.any_eq_false]
   intro y hy
   obtain⟨z,t,hkey⟩:=hk y (Array.mem_toList_iff.mp hy)
   simp[DictEntry.refKey,hkey]
  have a':¬ es.toList.any (·.refKey)=true:=by rw[a];exact Bool.false_ne_true
  rw[if_neg a']
  exact congrArg some e
theorem ObjM.look {h:Heap}{x dx C:Addr}{mA:Str→Option Value}(I:ObjM h x dx C mA):∃ od,PySem.W.InstAt h x (PySem.W.instObj C dx) C (some od)∧∀ name,PySem.W.lookIn name od=some (mA name) :=
 let ⟨od,ho,hl⟩:=qY I.ns
 ⟨od,⟨I.obj,rfl,rfl,ho⟩,hl⟩
section
variable {prog:Program}{w:World}{A:Around}{E:Value→Shared→Prop}{s:Shared}{K:PySem.W.Frag}{x dx C f:Addr}{mA:Str→Option Value}{name:Str}{v:Value}
theorem vz {expr:Bool}{Q:Value→Shared→Prop}(X:K.In s.heap)(I:ObjM s.heap x dx C mA)(hg:PySem.W.plainGet K C name=true)(hh:PySem.W.hasDictIn K C=true)
  (ha:PySem.W.findIn K (.ref C) name=some none) (hv:mA name=some v) (hv':PySem.W.handedIn v=true) (h:Q v { s with toks:=s.toks+1 }) :
  wpAny (model prog w) A (getAttr (.ref x) name expr) Q E s:=by
 obtain⟨od,J,hl⟩:=I.look
 exact PySem.W.get_value X J (PySem.W.plainGet_of hg).1 (PySem.W.findObj_own hh ha rfl (by rw[hl,hv])) hv' h
theorem sV {pl:Sem Bool}{Q:Value×List Value→Shared→Prop}(X:K.In s.heap)(I:ObjM s.heap x dx C mA)(hg:PySem.W.plainGet K C name=true)
  (hf:PySem.W.findIn K (.ref C) name=some (some (.ref f))) (ht:PySem.W.isFn K (.ref f)=true) (hv:mA name=none) (h:Q (.ref f,[.ref x]) s) :
  wpAny (model prog w) A (getMethod (.ref x) name pl) Q E s:=by
 obtain⟨od,J,hl⟩:=I.look
 exact PySem.W.method_fn X J (PySem.W.plainGet_of hg).1 (PySem.W.plainGet_of hg).2 hf (beq_iff_eq.mp ht) (by show (PySem.W.lookIn name od).map (·.isSome)=some false;rw[hl,hv];rfl) h
theorem vA {ns:List Str}{Q:Unit→Shared→Prop}(X:K.In s.heap)(I:ObjM s.heap x dx C mA)
  (hs:PySem.W.findIn K (.ref C) "__setattr__"=some (some (.builtin "object.__setattr__"))) (hp:PySem.W.plainOver K C=true) (ht:PySem.W.takerIn K C name=some none) (hh:PySem.W.hasDictIn K C=true)
  (hw:PySem.Within mA ns) (hsz:ns.length≤sizeLine)
  (h:∀ h',ObjM h' x dx C (fun y=>if y=name then some v else mA y)→Heap.SameBut dx s.heap h'→Q () { s with heap:=h',toks:=s.toks+2 }) :
  wpAny (model prog w) A (setAttr (.ref x) name v) Q E s:=by
 obtain⟨od,J,hl⟩:=I.look
 refine PySem.W.set_plain X J hs (PySem.W.osa_open X J hp ht fun b=>?_)
 obtain⟨cd,hc,hd'⟩:=PySem.W.any_some hh
 have hx:=I.obj
 refine wpAny_bind (wpAny_pure (wpAny_bind (wpAny_bind (wpAny_loadPart hx (wpAny_bind (PySem.W.Looks.here (PySem.W.looks_clsIn X hc) ?_))))))
 rw[hd']
 refine wpAny_pure (wpAny_bind (wpAny_pure (wpAny_bind ?_)))
 refine wpAny_nsSet1 I.ns fun h' hn2 hs2=>?_
 obtain⟨oD,esD,epD,hoD,hdD,hcD⟩:=hn2.count (PySem.Within.cons name v hw)
 refine wpAny_bind (wpAny_lookBehind hoD (by rw[hdD];exact pastItsLine_dict (Nat.le_trans hcD (by grind))) ?_)
 exact wpAny_pure (h _ ⟨(hs2.2 _ (Ne.symm I.ne)).trans I.obj,hn2,I.ne⟩ hs2)
theorem sW {R:Result→Shared→Prop}{vs:List Value}{kw:List (Str×Value)}(X:K.In s.heap)(hm:PySem.W.makesIn K C=true)
  (hi:PySem.W.findIn K (.ref C) "__init__"=some (some (.ref f))) (hf:PySem.W.typeIn K (.ref f)=some (.type "function"))
  (h:codeAny (model prog w) (A.under (.builtin "type.__call__" ⟨.ref C::vs,kw⟩)) (.call (.ref f) ⟨.ref (s.heap.objs.size+1)::vs,kw⟩) (PySem.W.InitBack (s.heap.objs.size+1) R)
   { s with heap:=(s.heap.push PySem.W.emptyDict).push (PySem.W.instObj C s.heap.objs.size) }) :
  codeAny (model prog w) A (.call (.ref C) ⟨vs,kw⟩) R s:=by
 obtain⟨hh,g,d,t,os⟩:=s
 exact PySem.W.make_core (PySem.W.makes_of X hm) (PySem.W.looks_findIn X hi) (fun self=>PySem.W.bind_fn X self hf) (.inl rfl) h
end
def putF (f:Str)(v:V):List (Str×V)→List (Str×V)
 | []=>[(f,v)]
 | (g,x)::r=>if g=f then (g,v)::r else (g,x)::putF f v r
theorem ig (f g:Str)(v:V):∀ fs:List (Str×V),(putF f v fs).lookup g=if g=f then some v else fs.lookup g
 | []=>by
  show List.lookup g [(f,v)]=_
  by_cases h:g=f
  ·have hb:=beq_iff_eq.mpr h
   simp only[List.lookup,hb,if_pos h]
  ·have hb:=beq_eq_false_iff_ne.mpr h
   simp only[List.lookup,hb,if_neg h]
 | (k,x)::r=>by
  have ih:=ig f g v r
  rw[show putF f v ((k,x)::r)=(if k=f then (k,v)::r else (k,x)::putF f v r) from rfl]
  by_cases hk:k=f
  ·rw[if_pos hk]
   by_cases h:g=k
   ·have hb:=beq_iff_eq.mpr h
    simp only[List.lookup,hb,if_pos (h.trans hk)]
   ·have hb:=beq_eq_false_iff_ne.mpr h
    simp only[List.lookup,hb,if_neg (fun e:g=f=>h (e.trans hk.symm))]
  ·rw[if_neg hk]
   by_cases h:g=k
   ·have hb:=beq_iff_eq.mpr h
    simp only[List.lookup,hb,if_neg (fun e:g=f=>hk (h.symm.trans e))]
   ·have hb:=beq_eq_false_iff_ne.mpr h
    simp only[List.lookup,hb]
    exact ih
theorem gr (f:Str)(v:V):∀ fs:List (Str×V),f∈(putF f v fs).map (·.1)∧∀ g,g∈fs.map (·.1)→g∈(putF f v fs).map (·.1)
 | []=>⟨by simp[putF],fun g h=>by simp at h⟩
 | (k,x)::r=>by
  obtain⟨i1,i2⟩:=gr f v r
  rw[show putF f v ((k,x)::r)=(if k=f then (k,v)::r else (k,x)::putF f v r) from rfl]
  by_cases hk:k=f
  ·rw[if_pos hk]
   subst hk
   exact⟨by simp,fun g h=>by simpa using h⟩
  ·rw[if_neg hk]
   refine⟨?_,fun g h=>?_⟩
   ·rw[List.map_cons]
    exact List.mem_cons_of_mem _ i1
   ·rw[List.map_cons]at h ⊢
    rcases List.mem_cons.mp h with e | e
    ·exact List.mem_cons.mpr (.inl e)
    ·exact List.mem_cons_of_mem _ (i2 g e)
theorem ii (f:Str)(v:V):∀ fs:List (Str×V),(putF f v fs).length≤fs.length+1
 | []=>by simp[putF]
 | (k,x)::r=>by
  have ih:=ii f v r
  rw[show putF f v ((k,x)::r)=(if k=f then (k,v)::r else (k,x)::putF f v r) from rfl]
  by_cases hk:k=f
  ·rw[if_pos hk,List.length_cons,List.length_cons];omega
  ·rw[if_neg hk,List.length_cons,List.length_cons];omega
theorem RelO.some_of {v:V}{o:Option Value}(r:RelO (some v) o):∃ u,o=some u∧RelV v u:=by
 cases o with
 | none=>exact(show False from r).elim
 | some u=>exact⟨u,rfl,r⟩
theorem RelO.none_of {o:Option Value}(r:RelO none o):o=none:=by
 cases o with
 | none=>rfl
 | some u=>exact(show False from r).elim
theorem qZ {v:V}{u:Value}(r:RelV v u):PySem.W.handedIn u=true:=by
 cases v with
 | non=>cases (show u=Value.none from r);rfl
 | bl b=>cases (show u=Value.bool b from r);rfl
 | int i=>obtain⟨t,e⟩:=(show ∃ t,u=Value.int i t from r);cases e;rfl
 | str x=>obtain⟨t,e⟩:=(show ∃ t,u=Value.str x t from r);cases e;rfl
 | byt b=>obtain⟨t,e⟩:=(show ∃ t,u=Value.bytes b t from r);cases e;rfl
 | flt b=>obtain⟨t,e⟩:=(show ∃ t,u=Value.float b t from r);cases e;rfl
 | ref a=>cases (show u=Value.ref a from r);rfl
 | ty n=>cases (show u=Value.type n from r);rfl
section
variable {P:Program}{w:World}{H H':Hp}{h h':Heap}{a C dx:Addr}{fs fs':List (Str×V)}
theorem lz (hok:HOk P w H h)(e:H a=some (.ins C dx fs)):∃ mA,ObjM h a dx C mA∧(∀ f,RelO (fs.lookup f) (mA f))∧PySem.Within mA (fs.map (·.1))∧fs.length≤1000∧H dx=some (.own a):=by
 obtain⟨d,z,ne,ob,mA,n,r,q⟩:=(show ObjOk P w H h a (.ins C dx fs) from hok a _ e)
 exact⟨mA,⟨ob,n,ne⟩,r,q,z,d⟩
end
structure Cls (K:PySem.W.Frag)(C:Addr):Prop where
 pg:PySem.W.plainGet K C Str.empty=true
 hd:PySem.W.hasDictIn K C=true
 po:PySem.W.plainOver K C=true
 sa:PySem.W.findIn K (.ref C) "__setattr__"=some (some (.builtin "object.__setattr__"))
theorem Cls.get {K:PySem.W.Frag}{C:Addr}(c:Cls K C)(f:Str):PySem.W.plainGet K C f=true:=c.pg
def NoAttr (K:PySem.W.Frag)(C:Addr)(f:Str):Prop:=PySem.W.findIn K (.ref C) f=some none
theorem NoAttr.taker {K:PySem.W.Frag}{C:Addr}{f:Str}(n:NoAttr K C f):PySem.W.takerIn K C f=some none:=by
 unfold PySem.W.takerIn
 rw[show PySem.W.findIn K (.ref C) f=some none from n]
 rfl
structure Meth (K:PySem.W.Frag)(C:Addr)(m:Str)(f:Addr):Prop where
 at_:PySem.W.findIn K (.ref C) m=some (some (.ref f))
 fn:PySem.W.isFn K (.ref f)=true
 kp:PySem.W.keepIn K (.ref f)=true
section
variable {X:Cx}{pins:List (Addr×Obj)}{σ:St}{H:Hp}{s:Shared}{a C dx:Addr}{fs:List (Str×V)}{f:Str}{v:V}{A:Around}{E:Value→Shared→Prop}
theorem n9 {b:Bool}{Q:Value→Shared→Prop}(I:Inv X pins σ H s)(e:H a=some (.ins C dx fs))(c:Cls X.K C)(n:NoAttr X.K C f)(l:fs.lookup f=some v)
  (h:∀ u s',Inv X pins σ H s'→RelV v u→Q u s'):wpAny (model X.prog X.w) A (getAttr (.ref a) f b) Q E s:=by
 obtain⟨mA,O,r,_,_,_⟩:=lz I.hok e
 obtain⟨u,hu,ru⟩:=RelO.some_of (by rw[← l];exact r f)
 exact vz I.kIn O (c.get f) c.hd n hu (qZ ru) (h u _ (I.tok _) ru)
theorem eR {m:Str}{g:Addr}{pl:Sem Bool}{Q:Value×List Value→Shared→Prop}(I:Inv X pins σ H s)(e:H a=some (.ins C dx fs))(c:Cls X.K C)(k:Meth X.K C m g)(l:fs.lookup m=none)
  (h:Q (.ref g,[.ref a]) s):wpAny (model X.prog X.w) A (getMethod (.ref a) m pl) Q E s:=by
 obtain⟨mA,O,r,_,_,_⟩:=lz I.hok e
 have hn:mA m=none:=RelO.none_of (by rw[← l];exact r m)
 exact sV I.kIn O (c.get m) k.at_ k.fn hn h
theorem og {y:V}{u:Value}{Q:Unit→Shared→Prop}(I:Inv X pins σ H s)(e:H a=some (.ins C dx fs))(c:Cls X.K C)(n:NoAttr X.K C f)(hl:fs.length < 1000)(ry:RelV y u)
  (h:∀ s',Inv X pins σ (upd H a (.ins C dx (putF f y fs))) s'→Q () s'):wpAny (model X.prog X.w) A (setAttr (.ref a) f u) Q E s:=by
 obtain⟨mA,O,r,wi,_,ho⟩:=lz I.hok e
 have hz:(fs.map (·.1)).length≤sizeLine:=by rw[List.length_map,sizeLine_eq];omega
 refine vA I.kIn O c.sa c.po n.taker c.hd wi hz fun h' O' sb=>h _ ?_
 have hd:∃ o,h'.get? dx=some o:=let ⟨o,_,_,e',_⟩:=O'.ns;⟨o,e'⟩
 refine I.write (by rw[e];exact True.intro) (.inr ho) (fun b q hb z=>(sb.2 b hb).trans z) hd ?_
 refine⟨by rw[ac O.ne];exact ho,?_,O.ne,O'.obj,_,O'.ns,fun g=>?_,fun g hg=>?_⟩
 ·have:=ii f y fs;omega
 ·rw[ig]
  by_cases q:g=f
  ·rw[if_pos q,if_pos q];exact ry
  ·rw[if_neg q,if_neg q];exact r g
 ·by_cases q:g=f
  ·rw[q];exact(gr f y fs).1
  ·refine(gr f y fs).2 g (wi g fun z=>hg ?_)
   show (if g=f then some u else mA g)=none
   rw[if_neg q];exact z
theorem Inv.made (I:Inv X pins σ H s):Inv X pins σ (upd (upd H s.heap.objs.size (.own (s.heap.objs.size+1))) (s.heap.objs.size+1) (.ins C s.heap.objs.size []))
  { s with heap:=(s.heap.push PySem.W.emptyDict).push (PySem.W.instObj C s.heap.objs.size) }:=by
 have e1:(s.heap.push PySem.W.emptyDict).get? s.heap.objs.size=some PySem.W.emptyDict:=Heap.get?_push_size s.heap rfl
 have e2:((s.heap.push PySem.W.emptyDict).push (PySem.W.instObj C s.heap.objs.size)).get? (s.heap.objs.size+1)=some (PySem.W.instObj C s.heap.objs.size):=by
  have:=Heap.get?_push_size (s.heap.push PySem.W.emptyDict) (o:=PySem.W.instObj C s.heap.objs.size) rfl
  rwa [Heap.size_push]at this
 have e3:(s.heap.push PySem.W.emptyDict).Ns s.heap.objs.size (fun _=>none):=⟨PySem.W.emptyDict,#[],_,e1,rfl,(fun e he=>absurd he (by simp)),fun _=>rfl⟩
 have I1:=I.laid (o:=.own (s.heap.objs.size+1)) (t':=s.toks) (fun b u q=>Heap.get?_push_of_some _ q) (Nat.le_refl _) ⟨_,e1⟩
 refine I1.laid (fun b u q=>Heap.get?_push_of_some _ q) (Nat.le_of_eq (Heap.size_push _ _)) ?_
 have ne:s.heap.objs.size≠s.heap.objs.size+1:=Nat.ne_of_lt (Nat.lt_succ_self _)
 refine⟨by rw[ac ne,af],Nat.zero_le _,ne,e2,fun _=>none,(Heap.Ns1.of_empty e3).at fun o q=>Heap.get?_push_of_some _ q,fun _=>True.intro,fun y hy=>absurd rfl hy⟩
theorem vB {prog:Program}{w:World}{env:Env}{e:Expr}{f:Str}{pos:Pos}{s:Shared}{Q:Value→Shared→Prop}(hb:attributeBase e f env (eval e env)=eval e env)
  (h:wpAny (model prog w) A (eval e env) (fun o s₁=>wpAny (model prog w) A (getAttr o f true) Q E s₁) E s):wpAny (model prog w) A (eval (.Attribute e f pos) env) Q E s :=
 Attribute_any_ h (by rw[arm_eval_Attribute,hb])
end
def tFld (K:PySem.W.Frag)(ta:TE)(f:Str):TE:=fun σ H Q=>ta σ H fun x H1=>∃ a C dx fs v,x=.ref a∧H1 a=some (.ins C dx fs)∧Cls K C∧NoAttr K C f∧fs.lookup f=some v∧Q v H1
def sFld (K:PySem.W.Frag)(ta tv:TE)(f:Str):TS:=fun D σ H=>tv σ H fun y H1=>ta σ H1 fun x H2=>∃ a C dx fs,x=.ref a∧H2 a=some (.ins C dx fs)∧Cls K C∧NoAttr K C f∧fs.length < 1000 ∧
 D.nx σ (upd H2 a (.ins C dx (putF f y fs)))
section
variable {X:Cx}{o e value:Expr}{f:Str}{pos pos' tpos:Pos}{ta tv:TE}
theorem yt (he:PE X e ta)(hb:attributeBase e f X.env (eval e X.env)=eval e X.env):PE X (.Attribute e f pos) (tFld X.K ta f):=by
 intro pins s σ H Q I h
 refine vB hb (thn (he pins s σ H _ I h) fun u s1 ⟨x,H1,I1,rx,a,C,dx,fs,v,ex,ea,c,n,l,q⟩=>?_)
 subst ex
 obtain rfl:u=Value.ref a:=rx
 exact n9 I1 ea c n l fun u' s2 I2 ru=>⟨v,H1,I2,ru,q⟩
theorem yu (ha:PE X o ta)(hv:PE X value tv)(hs:swapsWith value (some (.Attribute o f pos')) pos.line X.env=pure false):PS X (.Assign [.Attribute o f pos'] value pos) (sFld X.K ta tv f):=by
 intro pins s σ H D I h
 refine plainObj_wpAny_Assign_Attribute (thn (hv pins s σ H _ I h) fun u s1 ⟨y,H1,I1,ry,q⟩=>thn (ha pins s1 σ H1 _ I1 q) fun ov s2 ⟨x,H2,I2,rx,a,C,dx,fs,ex,ea,c,n,l,q2⟩=>?_) hs
 subst ex
 obtain rfl:ov=Value.ref a:=rx
 exact og I2 ea c n l ry fun s3 I3=>⟨σ,_,I3,q2⟩
theorem xL {pl:Sem Bool}{m:Str}{apos:Pos}{args:List Expr}{pins:List (Addr×Obj)}{s:Shared}{σ:St}{H:Hp}{Q:Value→Shared→Prop}{te:TE}(he:PE X e te)(I:Inv X pins σ H s)
  (h:te σ H fun x H1=>∃ a C dx fs g,x=.ref a∧H1 a=some (.ins C dx fs)∧Cls X.K C∧Meth X.K C m g∧fs.lookup m=none ∧
   ∀ s1,Inv X pins σ H1 s1→wpAny (model X.prog X.w) X.A (callWith pos (.ref g) [.ref a] (backTo pos (starEach args X.env)) (backToKw pos (keywordEach [] X.env))) Q X.xe s1)
  (ht:eval (.Call (.Attribute e m apos) args [] pos) X.env=(do
   let ov ← eval e X.env
   standAt apos.atName
   let (f,first) ← holding [ov] (getMethod ov m pl)
   callWith pos f first (backTo pos (starEach args X.env)) (backToKw pos (keywordEach [] X.env)))) :
  wpAny (model X.prog X.w) X.A (eval (.Call (.Attribute e m apos) args [] pos) X.env) Q X.xe s:=by
 refine PySem.W.methodCall_KW (thn (he pins s σ H _ I h) fun u s1 ⟨x,H1,I1,rx,a,C,dx,fs,g,ex,ea,c,k,l,q⟩=>?_) ht
 subst ex
 obtain rfl:u=Value.ref a:=rx
 exact eR I1 ea c k l (q s1 I1)
end
section
variable {X:Cx}{pins:List (Addr×Obj)}{σ:St}{H:Hp}{s:Shared}{A:Around}{E:Value→Shared→Prop}{Q:Value→Shared→Prop}{c:Value}{b:Bool}
inductive TyOf (K:PySem.W.Frag)(H:Hp):V→Value→Prop where
 | non:TyOf K H .non (.type "NoneType")
 | bl (x:Bool):TyOf K H (.bl x) (.type "bool")
 | int (i:Int):TyOf K H (.int i) (.type "int")
 | str (x:Str):TyOf K H (.str x) (.type "str")
 | flt (x:UInt64):TyOf K H (.flt x) (.type "float")
 | lst {a:Addr} {xs:List V} (e:H a=some (.lst xs)):TyOf K H (.ref a) (.type "list")
 | frz {a:Addr} {o:Obj} {xs:List V} (e:H a=some (.frz o (.lst xs))):TyOf K H (.ref a) (.type "list")
 | tup {a:Addr} {xs:List V} (e:H a=some (.tup xs)):TyOf K H (.ref a) (.type "tuple")
 | dK {a:Addr} {kvs:List (Key×V)} (e:H a=some (.dK kvs)):TyOf K H (.ref a) (.type "dict")
 | dT {a:Addr} {kvs:List (List Key×V)} (e:H a=some (.dT kvs)):TyOf K H (.ref a) (.type "dict")
 | ins {a C dx:Addr} {fs:List (Str×V)} (e:H a=some (.ins C dx fs)) (cl:Cls K C) (ha:PySem.W.findIn K (.ref C) "__class__"=some (some (.builtin "object.__class__")))
   (hn:PySem.W.specialIn K (.builtin "object.__class__") "__get__"=some (some (.builtin "getset_descriptor.__get__"))) (htk:PySem.W.takesIn K (.builtin "object.__class__")=some true)
   (hm:PySem.W.mroIn K C (.type "object")=some true):TyOf K H (.ref a) (.ref C)
end
end L2
namespace L2
open PySem PySem.Spec PyProof.Rows
structure Room (k:Nat)(A:Around):Prop where
 hd:A.handled=none
 dp:A.depth+3*k+5 < recursionLimit
 un:A.units+16*k+200 < cLine
theorem Room.mono {j k:Nat}{A:Around}(r:Room k A)(h:j≤k):Room j A:=⟨r.hd,by have:=r.dp;omega,by have:=r.un;omega⟩
theorem Room.deeper {k:Nat}{A:Around}(r:Room (k+1) A)(env:Env):Room k (A.deeper env) :=
 ⟨r.hd,by have:=r.dp;show A.depth+1+3*k+5 < _;omega,by have:=r.un;show A.units+3+16*k+200 < _;omega⟩
structure RoomW (k:Nat)(A:Around):Prop where
 hd:A.handled=none
 dp:A.depth+3*k+3 < recursionLimit
 un:A.units+16*k+190 < cLine
theorem Room.w {k:Nat}{A:Around}(r:Room k A):RoomW k A:=⟨r.hd,by have:=r.dp;omega,by have:=r.un;omega⟩
theorem RoomW.deeper {k:Nat}{A:Around}(r:RoomW (k+1) A)(env:Env):Room k (A.deeper env) :=
 ⟨r.hd,by have:=r.dp;show A.depth+1+3*k+5 < _;omega,by have:=r.un;show A.units+3+16*k+200 < _;omega⟩
theorem RoomW.depth {k:Nat}{A:Around}(r:RoomW k A):A.depth < recursionLimit:=by have:=r.dp;omega
theorem oh {A:Around}{C:Addr}{us:List Value}{kw:List (Str×Value)}:(A.under (.builtin "type.__call__" ⟨.ref C::us,kw⟩)).depth=A.depth+1:=by
 first | rfl | simp[Around.under,Code.weight,Code.isCreation,Code.isGuard,Code.isCaller,Code.frames,Code.isFrame,guardIds]
theorem oi {A:Around}{C:Addr}{us:List Value}{kw:List (Str×Value)}:(A.under (.builtin "type.__call__" ⟨.ref C::us,kw⟩)).units=A.units+1:=by
 first | rfl | simp[Around.under,Code.cUnits,Code.frames,Code.isFrame]
theorem Room.make {k:Nat}{A:Around}(r:Room k A)(C:Addr)(us:List Value)(kw:List (Str×Value)):RoomW k (A.under (.builtin "type.__call__" ⟨.ref C::us,kw⟩)) :=
 ⟨r.hd,by have:=r.dp;rw[oh];omega,by have:=r.un;rw[oi];omega⟩
def tNil:TA:=fun _ H Q=>Q [] H
def tCons (ta:TE)(tr:TA):TA:=fun σ H Q=>ta σ H fun x H1=>tr σ H1 fun xs H2=>Q (x::xs) H2
section
variable {X:Cx}{e:Expr}{es:List Expr}{te:TE}{t:TA}{pos:Pos}
theorem cH:PA X [] tNil:=fun _ _ _ _ H Q I h=>Calls.spliced_nil ⟨[],H,I,.nil,h⟩
theorem aH (ha:PE X e te)(hr:PA X es t)(hs:starEach (e::es) X.env=(false,eval e X.env)::starEach es X.env:=by rfl):PA X (e::es) (tCons te t):=by
 intro pos pins s σ H Q I h
 rw[hs]
 refine Calls.spliced_cons (thn (ha pins s σ H _ I h) fun u s1 ⟨x,H1,I1,r1,q1⟩=>?_)
 exact thn (hr pos pins s1 σ H1 _ I1 q1) fun us s2 ⟨xs,H2,I2,r2,q2⟩=>⟨x::xs,H2,I2,.cons r1 r2,q2⟩
def tTup (t:TA):TE:=fun σ H Q=>t σ H fun xs H1=>xs.length≤sizeLine∧∀ p,H1 p=none→Q (.ref p) (upd H1 p (.tup xs))
def tLst (t:TA):TE:=fun σ H Q=>t σ H fun xs H1=>xs.length≤sizeLine∧∀ p,H1 p=none→Q (.ref p) (upd H1 p (.lst xs))
theorem sX {x1}(h:PA X es t):PE X (.Tuple es x1 pos) (tTup t):=by
 intro pins s σ H Q I hq
 refine wpAny_Tuple_spliced (thn (h pos pins s σ H _ I hq) fun us s1 ⟨xs,H1,I1,r,z,q⟩=>⟨by rw[← r.length];exact z,?_⟩)
 have hf:=I1.hok.fresh (Nat.le_refl _)
 refine⟨.ref s1.heap.objs.size,upd H1 s1.heap.objs.size (.tup xs),I1.laid (fun b u e=>Heap.get?_push_of_some _ e) (Nat.le_refl _) ?_,rfl,q _ hf⟩
 exact⟨z,us,r,TupO.new _ _⟩
theorem oj (h:PA X es t):PE X (.List es pos) (tLst t):=by
 intro pins s σ H Q I hq
 refine wpAny_List_spliced (thn (h pos pins s σ H _ I hq) fun us s1 ⟨xs,H1,I1,r,z,q⟩=>⟨by rw[← r.length];exact z,?_⟩)
 have hf:=I1.hok.fresh (Nat.le_refl _)
 refine⟨.ref s1.heap.objs.size,upd H1 s1.heap.objs.size (.lst xs),I1.laid (fun b u e=>Heap.get?_push_of_some _ e) (Nat.le_refl _) ?_,rfl,q _ hf⟩
 exact⟨z,us,0,r,Heap.get?_push_size _ rfl⟩
end
abbrev Sp:=List V→Hp→VK→XK→Prop
abbrev CXT:=List Env→Hp→Shared→XK→Value→Shared→Prop
structure Env0 (P:Program)(w:World)(K:PySem.W.Frag)(mg:Str→Option Value)(base:Heap)(A:Around)(outer:List Env)(s:Shared)(H:Hp):Prop where
 frames:A.frames=some outer
 mod:Mod K mg base
 bs:∀ b o,base.get? b=some o→s.heap.get? b=some o∧H b=none
 bsz:base.objs.size≤s.heap.objs.size
 funs:s.heap.FunFrames base outer
 frf:∀ b∈frs outer,H b=none
 hok:HOk P w H s.heap
 bare:AllBare s.gens
def CE (outer:List Env)(P:Program)(w:World)(H:Hp)(s:Shared)(Q:VK)(u:Value)(s':Shared):Prop :=
 ∃ v H',s'.os=s.os∧AllBare s'.gens∧Un (frs outer) [] H H' s.heap s'.heap∧HOk P w H' s'.heap∧RelV v u∧Q v H'
def CR (CX:CXT)(outer:List Env)(P:Program)(w:World)(H:Hp)(s:Shared)(Q:VK)(E:XK)(r:Result)(s':Shared):Prop :=
 match r with
 | .ok (.ret u)=>CE outer P w H s Q u s'
 | .ok _=>False
 | .error e=>CX outer H s E e s'
structure FnOk (P:Program)(w:World)(K:PySem.W.Frag)(mg:Str→Option Value)(base:Heap)(CX:CXT)(k:Nat)(f:Addr)(fd:FuncData)(ps:List Str)(sp:Sp):Prop where
 len:∀ vs H Q E,sp vs H Q E→vs.length=ps.length
 run:∀ (A:Around) (outer:List Env) (s:Shared) (H:Hp) (args:Args) (us:List Value) (vs:List V) (Q:VK) (E:XK),RoomW k A→Env0 P w K mg base A outer s H→BindsTo s fd args (ps.zip us)→Vals vs us→sp vs H Q E →
  codeAny (model P w) A (.call (.ref f) args) (CR CX outer P w H s Q E) s
theorem Env0.make {P:Program}{w:World}{K:PySem.W.Frag}{mg:Str→Option Value}{base:Heap}{A:Around}{outer:List Env}{s:Shared}{H:Hp}(e:Env0 P w K mg base A outer s H)(C:Addr)(us:List Value)(kw:List (Str×Value)) :
  Env0 P w K mg base (A.under (.builtin "type.__call__" ⟨.ref C::us,kw⟩)) outer s H:=⟨by first | exact e.frames | (simpa [Around.under,Code.envs,Code.isFrame,pushEnvs] using e.frames),e.mod,e.bs,e.bsz,e.funs,e.frf,e.hok,e.bare⟩
section
variable {X:Cx}{pins:List (Addr×Obj)}{σ:St}{H:Hp}{s s':Shared}
theorem Inv.env0 (I:Inv X pins σ H s):Env0 X.prog X.w X.K X.mg X.base X.A X.stack s H :=
 ⟨I.ok.frames,I.ok.mod,I.bs,Nat.le_trans I.ok.bsz I.sz,I.stack,I.stkFree,I.hok,I.bare⟩
theorem Inv.after {Q:VK}{u:Value}(I:Inv X pins σ H s)(h:CE X.stack X.prog X.w H s Q u s'):EP X pins σ Q u s':=by
 obtain⟨v,H',os,bare,un,hok,r,q⟩:=h
 obtain⟨hh,g,d,t,os'⟩:=s'
 obtain rfl:os'=s.os:=os
 exact⟨v,H',I.call un hok bare (fun b z=>absurd z (by simp)),r,q⟩
end
def tCall (sp:Sp)(dvs:List V)(E:XK)(t:TA):TE:=fun σ H Q=>t σ H fun vs H1=>sp (vs++dvs) H1 Q E
def tMeth (C:Addr)(m:Str)(sp:Sp)(dvs:List V)(E:XK)(ta:TE)(t:TA):TE:=fun σ H Q=>ta σ H fun x H1=>∃ a dx fs,x=.ref a∧H1 a=some (.ins C dx fs)∧fs.lookup m=none ∧
 t σ H1 fun vs H2=>sp (x::(vs++dvs)) H2 Q E
def tMake (C:Addr)(sp:Sp)(dvs:List V)(E:XK)(t:TA):TE:=fun σ H Q=>t σ H fun vs H1=>∀ x dx,H1 x=none→H1 dx=none→dx≠x →
 sp (.ref x::(vs++dvs)) (upd (upd H1 dx (.own x)) x (.ins C dx [])) (fun v H2=>v=.non∧Q (.ref x) H2) E
def Binds (K:PySem.W.Frag)(fd:FuncData)(ps:List Str)(ds:List Value):Prop :=
 ∀ (s:Shared) (us:List Value),K.In s.heap→(us++ds).length=ps.length→BindsTo s fd ⟨us,[]⟩ (ps.zip (us++ds))
theorem Binds.all {K:PySem.W.Frag}{fd:FuncData}{ps:List Str}(h:∀ us:List Value,us.length=ps.length→bindArgs fd ⟨us,[]⟩=pure (ps.zip us)):Binds K fd ps []:=fun s us _ hl=>by
 rw[List.append_nil]at hl ⊢
 exact .of_eq (h us hl)
def Passes (CX:CXT)(X:Cx)(E:XK):Prop:=∀ (pins:List (Addr×Obj)) (σ:St) (H:Hp) (s:Shared) (e:Value) (s':Shared),Inv X pins σ H s→CX X.stack H s E e s'→X.xe e s'
section
variable {X:Cx}{CX:CXT}{k:Nat}{f C:Addr}{fd:FuncData}{ps:List Str}{sp:Sp}{dvs:List V}{ds:List Value}{E:XK}{x m:Str}{p pos apos:Pos}{e o:Expr}{es:List Expr}{ta:TE}{t:TA}
theorem lA {pins:List (Addr×Obj)}{σ:St}{H:Hp}{s:Shared}{Q:VK}{us:List Value}{vs:List V}(F:FnOk X.prog X.w X.K X.mg X.base CX k f fd ps sp)(hr:Room k X.A)(hb:Binds X.K fd ps ds)(hd:Vals dvs ds)(hx:Passes CX X E)
  (I:Inv X pins σ H s) (r:Vals vs us) (h:sp (vs++dvs) H Q E):wpAny (model X.prog X.w) X.A (call (.ref f) us) (EP X pins σ Q) X.xe s:=by
 have r2:Vals (vs++dvs) (us++ds):=r.append hd
 have hl:(us++ds).length=ps.length:=by rw[← r2.length];exact F.len _ _ _ _ h
 refine wpAny_call (codeAny_mono (F.run X.A X.stack s H ⟨us,[]⟩ (us++ds) (vs++dvs) Q E hr.w I.env0 (hb s us I.kIn hl) r2 h) fun r s' hq=>?_)
 cases r with
 | error e=>exact hx pins σ H s e s' I hq
 | ok fl =>
  cases fl with
  | ret u=>exact I.after hq
  | next=>exact False.elim hq
  | brk=>exact False.elim hq
  | cont=>exact False.elim hq
theorem vC (F:FnOk X.prog X.w X.K X.mg X.base CX k f fd ps sp)(hr:Room k X.A)(hg:Gl X x)(hm:X.mg x=some (.ref f))(hk:PySem.W.keepIn X.K (.ref f)=true)(hb:Binds X.K fd ps ds)(hd:Vals dvs ds)(hx:Passes CX X E)
  (ha:PA X (e::es) t) (hdb:(x==("__debug__":Str))=false:=by decide) (he:starEach (e::es) X.env=(false,eval e X.env)::starEach es X.env:=by rfl) (hpl:(backTo pos (starEach es X.env)).any (·.1)=false:=by rfl) :
  PE X (.Call (.Name x p) (e::es) [] pos) (tCall sp dvs E t):=by
 intro pins s σ H Q I h
 refine wpAny_Call_Name_kw (d8 I hg hm ?_ hdb)
 refine PySem.W.callWith_K (h₀:=X.base) I.ok.mod.kin hk (thn (ha pos pins s σ H _ I h) fun us s1 ⟨vs,H1,I1,r,q⟩=>⟨I1.kIn,?_⟩) he hpl
 exact lA F hr hb hd hx I1 r q
theorem pK {pl:Sem Bool}(he:PE X o ta)(c:Cls X.K C)(hm:Meth X.K C m f)(F:FnOk X.prog X.w X.K X.mg X.base CX k f fd ps sp)(hr:Room k X.A)(hb:Binds X.K fd ps ds)(hd:Vals dvs ds)(hx:Passes CX X E)(ha:PA X (e::es) t)
  (hst:starEach (e::es) X.env=(false,eval e X.env)::starEach es X.env:=by rfl) (hpl:(backTo pos (starEach es X.env)).any (·.1)=false:=by rfl)
  (ht:eval (.Call (.Attribute o m apos) (e::es) [] pos) X.env=(do
   let ov ← eval o X.env
   standAt apos.atName
   let (f,first) ← holding [ov] (getMethod ov m pl)
   callWith pos f first (backTo pos (starEach (e::es) X.env)) (backToKw pos (keywordEach [] X.env))):=by rfl) :
  PE X (.Call (.Attribute o m apos) (e::es) [] pos) (tMeth C m sp dvs E ta t):=by
 intro pins s σ H Q I h
 refine PySem.W.methodCall_KW (pl:=pl) (thn (he pins s σ H _ I h) fun u s1 ⟨x,H1,I1,rx,a,dx,fs,ex,ea,l,q⟩=>?_) ht
 subst ex
 obtain rfl:u=Value.ref a:=rx
 refine eR I1 ea c hm l ?_
 refine PySem.W.callWith_K (first:=[.ref a]) (h₀:=X.base) I.ok.mod.kin hm.kp (thn (ha pos pins s1 σ H1 _ I1 q) fun us s2 ⟨vs,H2,I2,r,q2⟩=>⟨I2.kIn,?_⟩) hst hpl
 exact lA (us:=.ref a::us) (vs:=.ref a::vs) F hr hb hd hx I2 (.cons rfl r) q2
theorem mJ {pl:Sem Bool}(he:PE X o ta)(c:Cls X.K C)(hm:Meth X.K C m f)(F:FnOk X.prog X.w X.K X.mg X.base CX k f fd ps sp)(hr:Room k X.A)(hb:Binds X.K fd ps ds)(hd:Vals dvs ds)(hx:Passes CX X E)
  (ht:eval (.Call (.Attribute o m apos) [] [] pos) X.env=(do
   let ov ← eval o X.env
   standAt apos.atName
   let (f,first) ← holding [ov] (getMethod ov m pl)
   callWith pos f first (backTo pos (starEach [] X.env)) (backToKw pos (keywordEach [] X.env))):=by rfl) :
  PE X (.Call (.Attribute o m apos) [] [] pos) (tMeth C m sp dvs E ta tNil):=by
 intro pins s σ H Q I h
 refine PySem.W.methodCall_KW (pl:=pl) (thn (he pins s σ H _ I h) fun u s1 ⟨x,H1,I1,rx,a,dx,fs,ex,ea,l,q⟩=>?_) ht
 subst ex
 obtain rfl:u=Value.ref a:=rx
 refine eR I1 ea c hm l ?_
 exact PySem.W.callWith_K0 (first:=[.ref a]) I1.kIn hm.kp (lA (us:=[.ref a]) (vs:=[.ref a]) F hr hb hd hx I1 (.cons rfl .nil) q)
structure Mk (K:PySem.W.Frag)(C f:Addr):Prop where
 makes:PySem.W.makesIn K C=true
 init:PySem.W.findIn K (.ref C) "__init__"=some (some (.ref f))
 fn:PySem.W.isFn K (.ref f)=true
 kp:PySem.W.keepIn K (.ref C)=true
theorem mK {pins:List (Addr×Obj)}{σ:St}{H:Hp}{s:Shared}{Q:VK}{us:List Value}{vs:List V}(M:Mk X.K C f)(F:FnOk X.prog X.w X.K X.mg X.base CX k f fd ps sp)(hr:Room k X.A)(hb:Binds X.K fd ps ds)(hd:Vals dvs ds)
  (hx:Passes CX X E) (I:Inv X pins σ H s) (r:Vals vs us)
  (h:∀ x dx,H x=none→H dx=none→dx≠x→sp (.ref x::(vs++dvs)) (upd (upd H dx (.own x)) x (.ins C dx [])) (fun v H2=>v=.non∧Q (.ref x) H2) E) :
  wpAny (model X.prog X.w) X.A (call (.ref C) us) (EP X pins σ Q) X.xe s:=by
 have hq:=h (s.heap.objs.size+1) s.heap.objs.size (I.hok.fresh (Nat.le_succ _)) (I.hok.fresh (Nat.le_refl _)) (Nat.ne_of_lt (Nat.lt_succ_self _))
 have I2:=Inv.made (C:=C) I
 have r2:Vals (V.ref (s.heap.objs.size+1)::(vs++dvs)) (Value.ref (s.heap.objs.size+1)::(us++ds)):=.cons rfl (r.append hd)
 have hl:(Value.ref (s.heap.objs.size+1)::us++ds).length=ps.length:=by
  have e:=r2.length
  rw[F.len _ _ _ _ hq]at e
  exact e.symm
 refine wpAny_call (sW (f:=f) I.kIn M.makes M.init (beq_iff_eq.mp M.fn) (codeAny_mono (F.run _ X.stack _ _ ⟨Value.ref (s.heap.objs.size+1)::us,[]⟩ (Value.ref (s.heap.objs.size+1)::(us++ds)) _ _ E (hr.make C us [])
  (I2.env0.make C us []) (hb _ (Value.ref (s.heap.objs.size+1)::us) I2.kIn hl) r2 hq) fun r s' hq'=>?_))
 cases r with
 | error e=>exact hx pins σ _ _ e s' I2 hq'
 | ok fl =>
  cases fl with
  | ret u =>
   obtain⟨v,H',I3,rv,ev,q3⟩:=I2.after hq'
   subst ev
   exact⟨rv,⟨V.ref (s.heap.objs.size+1),H',I3,rfl,q3⟩⟩
  | next=>exact False.elim hq'
  | brk=>exact False.elim hq'
  | cont=>exact False.elim hq'
theorem vD (M:Mk X.K C f)(F:FnOk X.prog X.w X.K X.mg X.base CX k f fd ps sp)(hr:Room k X.A)(hg:Gl X x)(hm:X.mg x=some (.ref C))(hb:Binds X.K fd ps ds)(hd:Vals dvs ds)(hx:Passes CX X E)
  (ha:PA X (e::es) t) (hdb:(x==("__debug__":Str))=false:=by decide) (he:starEach (e::es) X.env=(false,eval e X.env)::starEach es X.env:=by rfl) (hpl:(backTo pos (starEach es X.env)).any (·.1)=false:=by rfl) :
  PE X (.Call (.Name x p) (e::es) [] pos) (tMake C sp dvs E t):=by
 intro pins s σ H Q I h
 refine wpAny_Call_Name_kw (d8 I hg hm ?_ hdb)
 refine PySem.W.callWith_K I.ok.mod.kin M.kp (thn (ha pos pins s σ H _ I h) fun us s1 ⟨vs,H1,I1,r,q⟩=>⟨I1.kIn,?_⟩) he hpl
 exact mK M F hr hb hd hx I1 r q
theorem sY (M:Mk X.K C f)(F:FnOk X.prog X.w X.K X.mg X.base CX k f fd ps sp)(hr:Room k X.A)(hg:Gl X x)(hm:X.mg x=some (.ref C))(hb:Binds X.K fd ps ds)(hd:Vals dvs ds)(hx:Passes CX X E)
  (hdb:(x==("__debug__":Str))=false:=by decide):PE X (.Call (.Name x p) [] [] pos) (tMake C sp dvs E tNil):=by
 intro pins s σ H Q I h
 refine wpAny_Call_Name_kw (d8 I hg hm ?_ hdb)
 exact PySem.W.callWith_K0 I.kIn M.kp (mK M F hr hb hd hx I .nil h)
end
section
variable {X:Cx}{CX:CXT}{k:Nat}{f C:Addr}{fd:FuncData}{ps ks:List Str}{sp:Sp}{E:XK}{x m:Str}{p pos apos kpos:Pos}{e o:Expr}{es:List Expr}{kws:List Keyword}{te ta:TE}{t tk:TA}{nm:Option Str}
variable {g:List Value→List Value→List Value}{gV:List V→List V→List V}
end
structure FnScope (N P:List Str)(sc:Scope):Prop where
 kind:sc.kind=.function
 co:sc.isCoroutine=false
 gen:sc.isGenerator=false
 nd:N.Nodup
 pre:N.take P.length=P
 par:∀ x∈P,sc.names.lookup x=some .local∨sc.names.lookup x=some .cell
 nofree:∀ y∈sc.names,y.2≠.free
theorem kD {kindOf:Str→Option NameKind}{x:Str}:∀ {binds:List (Str×Value)} {m:Str→Option Value},(∀ v,(x,v)∉binds)→bindL kindOf binds m x=m x
 | [],_,_=>rfl
 | (n,v)::r,m,h=>by
  unfold bindL
  rw[kD fun w hw=>h w (List.mem_cons_of_mem _ hw)]
  split
  ·have:x≠n:=by rintro rfl;exact h v List.mem_cons_self
   simp[this]
  ·rfl
theorem kE {kindOf:Str→Option NameKind}{x:Str}:∀ {binds:List (Str×Value)} {m:Str→Option Value},(∀ v,(x,v)∉binds)→bindC kindOf binds m x=m x
 | [],_,_=>rfl
 | (n,v)::r,m,h=>by
  unfold bindC
  rw[kE fun w hw=>h w (List.mem_cons_of_mem _ hw)]
  split
  ·rfl
  ·have:x≠n:=by rintro rfl;exact h v List.mem_cons_self
   simp[this]
theorem kF {kindOf:Str→Option NameKind}{x:Str}{v:Value}:∀ {P:List Str} {vs:List Value} {i:Nat} {m:Str→Option Value},P.Nodup→P[i]?=some x→vs[i]?=some v→kindOf x=some .local →
  bindL kindOf (P.zip vs) m x=some v
 | [],_,_,_,_,h,_,_=>by simp at h
 | _::_,[],_,_,_,_,h,_=>by simp at h
 | p::P,w::vs,0,m,nd,h1,h2,hk=>by
  simp at h1 h2;subst h1;subst h2
  show bindL kindOf ((p,w)::P.zip vs) m p=_
  unfold bindL
  rw[kD fun v hv=>(List.nodup_cons.mp nd).1 (List.of_mem_zip hv).1,if_pos hk]
  simp
 | p::P,w::vs,i+1,m,nd,h1,h2,hk=>by
  unfold bindL
  exact kF (List.nodup_cons.mp nd).2 (by simpa using h1) (by simpa using h2) hk
theorem kG {kindOf:Str→Option NameKind}{x:Str}{v:Value}:∀ {P:List Str} {vs:List Value} {i:Nat} {m:Str→Option Value},P.Nodup→P[i]?=some x→vs[i]?=some v→kindOf x≠some .local →
  bindC kindOf (P.zip vs) m x=some v
 | [],_,_,_,_,h,_,_=>by simp at h
 | _::_,[],_,_,_,_,h,_=>by simp at h
 | p::P,w::vs,0,m,nd,h1,h2,hk=>by
  simp at h1 h2;subst h1;subst h2
  show bindC kindOf ((p,w)::P.zip vs) m p=_
  unfold bindC
  rw[kE fun v hv=>(List.nodup_cons.mp nd).1 (List.of_mem_zip hv).1,if_neg hk]
  simp
 | p::P,w::vs,i+1,m,nd,h1,h2,hk=>by
  unfold bindC
  exact kG (List.nodup_cons.mp nd).2 (by simpa using h1) (by simpa using h2) hk
def start (N:List Str)(vs:List V):St:=vs.map some++List.replicate (N.length - vs.length) none
def cxOf (CX:CXT)(P:Program)(w:World)(K:PySem.W.Frag)(mg:Str→Option Value)(base:Heap)(N:List Str)(qual:Str)(scope:Scope)(f:Addr)(cd:Value)(A:Around)(outer:List Env)(s:Shared)(H:Hp)(E:XK):Cx where
 prog:=P
 w:=w
 K:=K
 mg:=mg
 base:=base
 A:=A.deeper (envOfC qual scope s.heap.objs.size f cd)
 N:=N
 s₀:=s
 H₀:=H
 env:=envOfC qual scope s.heap.objs.size f cd
 outer:=outer
 stack:=envOfC qual scope s.heap.objs.size f cd::outer
 ex:=[]
 calm:=true
 fn:=fun _=>true
 pn:=[]
 xe:=fun e s'=>wpAny (model P w) (A.deeper (envOfC qual scope s.heap.objs.size f cd)) (leaving (envOfC qual scope s.heap.objs.size f cd) e) (fun _ s''=>CX outer H s E e s'') (fun e' s''=>CX outer H s E e' s'') s'
theorem mL {sc:Scope}{n:Nat}{x:Str}(h:sc.names.lookup x=some .cell):∃ c,(cellsFrom n sc.names []).lookup x=some c:=by
 have q:=PySem.W.cellsFrom_some sc.names n [] (.inl h)
 exact Option.isSome_iff_exists.mp q
theorem kH {CX:CXT}{P:Program}{w:World}{K:PySem.W.Frag}{mg:Str→Option Value}{base:Heap}{N ps:List Str}{qual:Str}{scope:Scope}{f:Addr}{cd:Value}{A:Around}{outer:List Env}{s s1:Shared}{H:Hp}{E:XK}{us:List Value}{vs:List V}
  (S:FnScope N ps scope) (hd:A.handled=none) (e0:Env0 P w K mg base A outer s H) (hl:vs.length=ps.length) (r:Vals vs us)
  (x:InCallC s s.heap.objs.size (bindL (envOfC qual scope s.heap.objs.size f cd).kindOf (ps.zip us) fun _=>none) (cellsFrom (s.heap.objs.size+1) scope.names []) (bindC (envOfC qual scope s.heap.objs.size f cd).kindOf (ps.zip us) fun _=>none) s1) :
  Inv (cxOf CX P w K mg base N qual scope f cd A outer s H E) [] (start N vs) H s1:=by
 have hpl:ps.length≤N.length:=by have:=congrArg List.length S.pre;rw[List.length_take]at this;omega
 obtain⟨h1,tk,rfl,hk⟩:=x.done
 have noA:∀ b:Addr,b∉(cxOf CX P w K mg base N qual scope f cd A outer s H E).ex:=fun b z=>absurd (show b∈([]:List Addr) from z) (by simp)
 refine⟨⟨e0.mod,S.kind,rfl,rfl,Nat.le_refl _,fun y z c h1 h2=>?_,fun y hy=>?_,fun y c _ h=>?_,fun _=>hd,Around.frames_deeper e0.frames,.inr ⟨rfl,rfl⟩,fun b z=>absurd z (noA b),e0.bs,e0.bsz,fun b _ _=>noA b,fun b z=>absurd z (noA b),e0.funs,e0.frf⟩,
  rfl,e0.bare,Un.kept hk,⟨_,x.toInCall.ns,fun i y v h1 h2 h3=>?_⟩,fun y c h=>⟨_,x.cell y c h⟩,e0.hok.fresh (Nat.le_refl _),fun y c h=>?_,fun p hp=>absurd (show p∈([]:List (Addr×Obj)) from hp) (by simp),e0.hok.kept hk,?_⟩
 ·exact name_of_addr x.apart (PySem.mem_of_lookup h1) (PySem.mem_of_lookup h2)
 ·have hy:=hy
  rcases hy with hy | hy
  ·exact mL hy
  ·exact absurd rfl (S.nofree _ (PySem.mem_of_lookup hy))
 ·exact Nat.le_of_lt (x.above y c (PySem.mem_of_lookup h))
 ·have hi:i < vs.length:=by
   unfold start at h2
   by_cases hi:i < vs.length
   ·exact hi
   ·rw[List.getElem?_append_right (by simpa using hi)]at h2
    rw[List.getElem?_replicate]at h2
    split at h2<;>cases h2
  have ha:vs[i]?=some v:=by
   unfold start at h2
   rw[List.getElem?_append_left (by simpa using hi),List.getElem?_map]at h2
   cases e:vs[i]? with
   | none=>rw[e]at h2;cases h2
   | some a=>rw[e]at h2;cases h2;rfl
  obtain⟨u,hu,rv⟩:=r.get ha
  have hp:ps[i]?=some y:=by
   rw[← S.pre,List.getElem?_take_of_lt (by omega)];exact h1
  have ndP:ps.Nodup:=by rw[← S.pre];exact S.nd.sublist (List.take_sublist _ _)
  refine⟨u,rv,?_⟩
  rcases S.par y (List.mem_of_getElem? hp) with k | k
  ·exact .inl ⟨k,kF ndP hp hu k⟩
  ·obtain⟨c,e⟩:=mL k
   refine .inr ⟨.inl k,c,e,?_⟩
   have q:=x.cell y c e
   rw[kG ndP hp hu (by show scope.names.lookup y≠_;rw[k];decide)]at q
   exact q
 ·exact e0.hok.fresh (Nat.le_of_lt (x.above y c (PySem.mem_of_lookup h)))
 ·unfold start
  show _=N.length
  rw[List.length_append,List.length_map,List.length_replicate]
  omega
theorem kI {CX:CXT}{P:Program}{w:World}{K:PySem.W.Frag}{mg:Str→Option Value}{base:Heap}{k:Nat}{f:Addr}{name qual:Str}{params:Arguments}{body:List Stmt}{scope:Scope}{dV kV doc pm cdv ct oc:Value}{an od:Option Addr}
  {osl:Array (Option Value)} {N ps:List Str} {sp:Sp} (lk:K.lookup f=some ⟨oc,od,.func (PySem.W.fnOf name qual params body scope dV kV doc pm an cdv ct),osl⟩) (hcd:PySem.W.codeIn K cdv qual=true) (S:FnScope N ps scope)
  (len:∀ vs H Q E,sp vs H Q E→vs.length=ps.length)
  (hbody:∀ (A:Around) (outer:List Env) (s:Shared) (H:Hp) (vs:List V) (Q:VK) (E:XK),Room k (A.deeper (envOfC qual scope s.heap.objs.size f cdv))→sp vs H Q E →
   ∃ t,PSs (cxOf CX P w K mg base N qual scope f cdv A outer s H E) body t∧t { nx:=fun _ H'=>Q .non H',rt:=Q } (start N vs) H) :
  FnOk P w K mg base CX (k+1) f (PySem.W.fnOf name qual params body scope dV kV doc pm an cdv ct) ps sp:=by
 refine⟨len,fun A outer s H args us vs Q E hr e0 hb r hsp=>?_⟩
 have hl:=len _ _ _ _ hsp
 have KX:K.In s.heap:=e0.mod.kin.keeps fun b o e=>(e0.bs b o e).1
 have lim:=e0.mod.nolimit.keeps fun b o e=>(e0.bs b o e).1
 have hkind:∀ y∈ps.zip us,scope.names.lookup y.1=some .local∨(scope.names.lookup y.1=some .cell∧((cellsFrom (s.heap.objs.size+1) scope.names []).lookup y.1).isSome=true):=fun ⟨n,v⟩ hy=>by
  rcases S.par n (List.of_mem_zip hy).1 with q | q
  ·exact .inl q
  ·exact .inr ⟨q,PySem.W.cellsFrom_some _ _ _ (.inl q)⟩
 refine codeAny_call_function hr.depth (KX _ _ lk) rfl S.co S.gen rfl (PySem.W.codeRec_of KX hcd) (hb _ _ _ _ ?_)
 refine wpAny_newFunctionEnv_cells S.kind hkind fun env he s1 x=>?_
 subst he
 refine⟨lim.keeps x.toInCall.keep,codeAny_func ?_⟩
 obtain⟨t,ht,hq⟩:=hbody A outer s H vs Q E (hr.deeper _) hsp
 have I:Inv (cxOf CX P w K mg base N qual scope f cdv A outer s H E) [] (start N vs) H s1:=kH S hr.hd e0 hl r x
 refine wpAny_mono (ht [] s1 (start N vs) H _ I hq) (fun fl s' hs=>?_) fun e s' hs=>hs
 have fin:∀ {σ':St} {H':Hp} {v:V} {u:Value},Inv (cxOf CX P w K mg base N qual scope f cdv A outer s H E) [] σ' H' s'→RelV v u→Q v H'→CE outer P w H s Q u s' :=
  fun {σ' H' v u} J rv q=>⟨v,H',J.os,J.bare,J.base,J.hok,rv,q⟩
 cases fl with
 | ret u =>
  obtain⟨v,σ',H',J,rv,q⟩:=hs
  exact fin J rv q
 | next =>
  obtain⟨σ',H',J,q⟩:=hs
  exact fin (v:=V.non) J rfl q
 | brk =>
  obtain⟨_,_,_,q⟩:=hs
  exact False.elim q
 | cont =>
  obtain⟨_,_,_,q⟩:=hs
  exact False.elim q
end L2
namespace L2
open PySem PySem.Spec PyProof.Rows
section
variable {X:Cx}{x:Str}{p pos:Pos}{e:Expr}{es:List Expr}{t:TA}{id T:String}{r:List V→Hp→VK→Prop}
def tCB (r:List V→Hp→VK→Prop)(t:TA):TE:=fun σ H Q=>t σ H fun vs H1=>r vs H1 Q
theorem b0 (hc:CallR X (.builtin id) r)(hg:Gl X x)(hm:X.mg x=none)(hv:bootBuiltins x=some (.builtin id))(ha:PA X (e::es) t)(hn:x ≠ "__name__" := by decide)(hdb:(x==("__debug__":Str))=false:=by decide)
  (he:starEach (e::es) X.env=(false,eval e X.env)::starEach es X.env:=by rfl) (hpl:(backTo pos (starEach es X.env)).any (·.1)=false:=by rfl):PE X (.Call (.Name x p) (e::es) [] pos) (tCB r t):=by
 intro pins s σ H Q I h
 refine wpAny_Call_Name_kw (gp I hg hm hv ?_ hn hdb)
 exact PyProof.Rows.callWith_builtin1 (thn (ha pos pins s σ H _ I h) fun us s1 ⟨vs,H1,I1,r1,q1⟩=>hc pins s1 σ H1 vs us Q I1 r1 q1) he hpl
theorem d9 (hc:CallR X (.type T) r)(hg:Gl X x)(hm:X.mg x=none)(hv:bootBuiltins x=some (.type T))(ha:PA X (e::es) t)(hn:x ≠ "__name__" := by decide)(hdb:(x==("__debug__":Str))=false:=by decide)
  (he:starEach (e::es) X.env=(false,eval e X.env)::starEach es X.env:=by rfl) (hpl:(backTo pos (starEach es X.env)).any (·.1)=false:=by rfl):PE X (.Call (.Name x p) (e::es) [] pos) (tCB r t):=by
 intro pins s σ H Q I h
 refine wpAny_Call_Name_kw (gp I hg hm hv ?_ hn hdb)
 exact PyProof.Rows.callWith_type1 (thn (ha pos pins s σ H _ I h) fun us s1 ⟨vs,H1,I1,r1,q1⟩=>hc pins s1 σ H1 vs us Q I1 r1 q1) he hpl
end
end L2
namespace HT
open PySem PyProof.Rows
section
open PySem.SeqAt
open PySem.AutoSeq1 (wpAny_loadPart')
open PySem.MeetsSeq PySem.MeetsSeq2 PySem.MeetsSeq3
end
section
variable {prog:Program}{w:World}{A:Around}{E:Value→Shared→Prop}{s:Shared}
theorem vE {t b:Addr}{vs ws:List Value}{Q:Value→Shared→Prop}(ht:IsTup s.heap t vs.toArray)(hb:IsTup s.heap b ws.toArray)(hv:vs≠[])
  (h1:ws=[]→Q (.ref t) s) (h2:ws≠[]→Q (.ref s.heap.objs.size) { s with heap:=s.heap.push { cls:=.type "tuple",data:=.seq (vs++ws).toArray } })
  (hsz:vs.length+ws.length≤sizeLine):wpAny (model prog w) A (binaryOp .Add (.ref t) (.ref b)) Q E s:=by
 obtain⟨⟨cls,dd,data,sl⟩,ho,hc,n,hd⟩:=id ht
 obtain⟨⟨cls2,dd2,data2,sl2⟩,ho2,hc2,n2,hd2⟩:=id hb
 simp only at hc hd hc2 hd2
 subst hc hd hc2 hd2
 have e:vs.toArray++ws.toArray=(vs++ws).toArray:=by simp
 by_cases hw:ws=[]
 ·exact concat_meets ⟨_,ho,rfl⟩ ⟨_,ho2,rfl⟩ noFill_tuple_add seq_tuple_add PySem.F.slot_tuple_add PySem.F.entry_tuple_add (PySem.F.args_tuple_add_2 _ _)
   (tuple_addW1 t b vs.toArray ws.toArray n n2 dd dd2 sl sl2 (by simpa using hv) (by simp[hw])) ⟨ho,ho2,h1 hw⟩
 ·refine concat_meets ⟨_,ho,rfl⟩ ⟨_,ho2,rfl⟩ noFill_tuple_add seq_tuple_add PySem.F.slot_tuple_add PySem.F.entry_tuple_add (PySem.F.args_tuple_add_2 _ _)
   (tuple_addW2 t b vs.toArray ws.toArray n n2 dd dd2 sl sl2 (by simpa using hv) (by simpa using hw) (by rw[List.size_toArray,List.size_toArray];exact hsz)) ⟨ho,ho2,?_⟩
  rw[e]
  exact h2 hw
def sIx (n d:Nat):Option Int→Nat
 | none=>d
 | some v=>if v < 0 then (v+(n:Int)).toNat else min v.toNat n
theorem sZ (n d:Nat):sIx n d none=d:=rfl
end
end HT
namespace L2
open PySem PySem.Spec PyProof.Rows
abbrev TO:=St→Hp→(Option Int→Hp→Prop)→Prop
def PO (X:Cx)(e:Option Expr)(t:TO):Prop :=
 ∀ (pins:List (Addr×Obj)) (s:Shared) (σ:St) (H:Hp) (Q:Option Int→Hp→Prop),Inv X pins σ H s→t σ H Q →
  wpAny (model X.prog X.w) X.A (evalPart e X.env) (fun u s'=>∃ o H',Inv X pins σ H' s'∧IsPart u o∧Q o H') X.xe s
def tNoPart:TO:=fun _ H Q=>Q none H
def tPart (t:TE):TO:=fun σ H Q=>t σ H fun x H1=>∃ i,x=.int i∧Q (some i) H1
theorem om {ns:List Int}:∀ {us:List Value},Vals (ns.map V.int) us→IntsAre us ns:=by
 induction ns with
 | nil=>intro us r;rw[List.map_nil]at r;cases r;exact .nil
 | cons n ns ih =>
  intro us r
  rw[List.map_cons]at r
  cases r with
  | cons r1 r2 =>
   obtain⟨t,e⟩:=r1
   subst e
   exact .cons n t (ih r2)
section
variable {X:Cx}{e:Expr}{te:TE}{lo hi:Option Expr}{tl th:TO}{pos p2:Pos}
theorem vF:PO X none tNoPart:=by
 intro pins s σ H Q I h
 rw[evalPart_none]
 exact wpAny_pure ⟨none,H,I,.none,h⟩
theorem vG (h:PE X e te):PO X (some e) (tPart te):=by
 intro pins s σ H Q I hw
 rw[evalPart_some]
 refine thn (h pins s σ H _ I hw) fun u s1 ⟨x,H1,I1,r1,q1⟩=>?_
 obtain⟨i,rfl,q⟩:=q1
 obtain⟨t,rfl⟩:=r1
 exact⟨some i,H1,I1,.int i t,q⟩
def SlR (X:Cx)(r:V→Option Int→Option Int→Hp→VK→Prop):Prop :=
 ∀ (pins:List (Addr×Obj)) (s:Shared) (σ:St) (H:Hp) (x:V) (v vl vu:Value) (lo hi:Option Int) (sl:Addr) (Q:VK),Inv X pins σ H s→RelV x v→s.heap.IsSliceOf sl vl vu .none→IsPart vl lo→IsPart vu hi→r x lo hi H Q →
  ∃ T id,typeLookup (.type T) "__getitem__"=pure (some (.builtin id))∧s.TypeIs v T∧wpAny (model X.prog X.w) X.A (getItem v (.ref sl)) (EP X pins σ Q) X.xe s
def tSl (r:V→Option Int→Option Int→Hp→VK→Prop)(te:TE)(tl th:TO):TE:=fun σ H Q=>te σ H fun x H1=>tl σ H1 fun l H2=>th σ H2 fun u H3=>r x l u H3 Q
theorem tj {r:V→Option Int→Option Int→Hp→VK→Prop}(hr:SlR X r)(he:PE X e te)(hl:PO X lo tl)(hu:PO X hi th):PE X (.Subscript e (.Slice lo hi none p2) pos) (tSl r te tl th):=by
 intro pins s σ H Q I h
 refine Subscript_ (thn (he pins s σ H _ I h) fun v s1 ⟨x,H1,I1,r1,q1⟩=>?_)
 refine wpAny_Slice (thn (hl pins s1 σ H1 _ I1 q1) fun vl s2 ⟨l,H2,I2,pl,q2⟩=>thn (hu pins s2 σ H2 _ I2 q2) fun vu s3 ⟨u,H3,I3,pu,q3⟩=>?_)
 rw[evalPart_none]
 refine wpAny_pure ?_
 have I4:Inv X pins σ H3 { s3 with heap:=s3.heap.push { cls:=.type "slice",data:=.fields #[vl,vu,.none] } }:=I3.kept fun b ob q=>Heap.get?_push_of_some _ q
 obtain⟨T,id,hT,ht,hg⟩:=hr pins { s3 with heap:=s3.heap.push { cls:=.type "slice",data:=.fields #[vl,vu,.none] } } σ H3 x v vl vu l u s3.heap.objs.size Q I4 r1 (Heap.IsSliceOf.new ..) pl pu q3
 exact tail_any ht hT hg (by with_unfolding_all rfl)
def cutV (xs:List V)(lo hi:Option Int):List V:=(xs.drop (HT.sIx xs.length 0 lo)).take (HT.sIx xs.length xs.length hi - HT.sIx xs.length 0 lo)
theorem mM (xs:List V)(lo hi:Option Int):(cutV xs lo hi).length≤xs.length:=by
 unfold cutV
 rw[List.length_take,List.length_drop]
 omega
def rCatT (K:PySem.W.Frag):R2:=fun x y H Q=>∃ a b xs ys,x=.ref a∧y=.ref b∧SqT K H a xs∧SqT K H b ys∧xs≠[]∧xs.length+ys.length≤sizeLine ∧
 (ys=[]→Q (.ref a) H)∧(ys≠[]→∀ p,H p=none→Q (.ref p) (upd H p (.tup (xs++ys))))
theorem Vals.nil_iff {xs:List V}{us:List Value}(r:Vals xs us):us=[]↔xs=[]:=by
 cases r with
 | nil=>simp
 | cons _ _=>simp
theorem vH:OpR X (binaryOp .Add) (rCatT X.K):=by
 intro pins s σ H x y v u Q I rx ry h
 obtain⟨a,b,xs,ys,rfl,rfl,ha,hb,hx,hz,q1,q2⟩:=h
 cases rx
 cases ry
 obtain⟨its,r1,p1,_⟩:=I.tuple ha
 obtain⟨its2,r2,p2,_⟩:=I.tuple hb
 refine HT.vE p1 p2 (fun z=>hx (r1.nil_iff.mp z)) (fun z=>⟨.ref a,H,I,rfl,q1 (r2.nil_iff.mp z)⟩) (fun z=>?_) (by rw[← r1.length,← r2.length];exact hz)
 refine⟨.ref s.heap.objs.size,_,I.laid (t':=s.toks) (o:=.tup (xs++ys)) (fun b ob q=>Heap.get?_push_of_some _ q) (Nat.le_refl _) ?_,rfl,q2 (fun w=>z (r2.nil_iff.mpr w)) _ (I.hok.fresh (Nat.le_refl _))⟩
 exact⟨by rw[List.length_append];exact hz,_,r1.append r2,TupO.new _ _⟩
end
end L2
namespace L2
open PySem PySem.Spec PyProof.Rows
def ixN (n:Nat)(i:Int):Option Nat:=if 0≤i then (if i < n then some i.toNat else none) else if -(n:Int)≤i then some (i+n).toNat else none
def atI {α:Type}(xs:List α)(i:Int):Option α:=(ixN xs.length i).bind fun j=>xs[j]?
theorem pL {n:Nat}{i:Int}{j:Nat}(h:ixN n i=some j):seqIndex? i n=some j∧j < n∧-(n:Int)≤i∧i < n:=by
 unfold ixN at h
 by_cases h0:0≤i
 ·rw[if_pos h0]at h
  by_cases h1:i < n
  ·rw[if_pos h1]at h
   have e:i.toNat=j:=Option.some.inj h
   exact⟨by rw[seqIndex_of h0 h1,e],by omega,by omega,h1⟩
  ·grind
 ·rw[if_neg h0]at h
  by_cases h1 : -(n:Int)≤i
  ·rw[if_pos h1]at h
   have e:(i+n).toNat=j:=Option.some.inj h
   exact⟨by rw[seqIndex_neg (by omega) h1,e],by omega,h1,by omega⟩
  ·grind
theorem lC {α:Type}{xs:List α}{i:Int}{v:α}(h:atI xs i=some v):∃ j,seqIndex? i xs.length=some j∧xs[j]?=some v∧j < xs.length∧-(xs.length:Int)≤i∧i < xs.length:=by
 unfold atI at h
 cases e:ixN xs.length i with
 | none=>rw[e]at h;cases h
 | some j =>
  rw[e]at h
  obtain⟨h1,h2,h3,h4⟩:=pL e
  grind
theorem lD {α:Type}{xs:List α}{j:Nat}{v:α}(h:xs[j]?=some v):atI xs (j:Int)=some v:=by
 have hj:j < xs.length:=(List.getElem?_eq_some_iff.mp h).1
 have e:ixN xs.length (j:Int)=some j:=by
  unfold ixN
  rw[if_pos (by omega),if_pos (by omega)];simp
 unfold atI;rw[e];exact h
def PlainIx (b:Expr):Prop:=∀ o i,subscripted b false o i=operate [o,i] (getItem o i)
def IxR (X:Cx)(r:R2):Prop :=
 ∀ (value slice:Expr) (pins:List (Addr×Obj)) (s:Shared) (σ:St) (H:Hp) (x y:V) (v u:Value) (Q:VK),Inv X pins σ H s→RelV x v→RelV y u→r x y H Q →
  subscripted slice false v u=operate [v,u] (getItem v u)→wpAny (model X.prog X.w) X.A (subscriptTail value slice v u) (EP X pins σ Q) X.xe s
def MtR (X:Cx)(id:String)(r:V→List V→Hp→VK→Prop):Prop :=
 ∀ (pins:List (Addr×Obj)) (s:Shared) (σ:St) (H:Hp) (x:V) (xs:List V) (v:Value) (us:List Value) (Q:VK),Inv X pins σ H s→RelV x v→Vals xs us→r x xs H Q →
  wpAny (model X.prog X.w) X.A (call (.builtin id) (v::us)) (EP X pins σ Q) X.xe s
section
variable {X:Cx}{a b:Expr}{ta tb:TE}{pos:Pos}
theorem IxR.or {r r':R2}(h:IxR X r)(h':IxR X r'):IxR X (fun x y H Q=>r x y H Q∨r' x y H Q):=by
 intro value slice pins s σ H x y v u Q I rx ry q hs
 rcases q with q | q
 ·exact h value slice pins s σ H x y v u Q I rx ry q hs
 ·exact h' value slice pins s σ H x y v u Q I rx ry q hs
theorem xM {r:R2}(hr:IxR X r)(ha:PE X a ta)(hb:PE X b tb)(hs:PlainIx b):PE X (.Subscript a b pos) (tOp r ta tb):=by
 intro pins s σ H Q I h
 exact Subscript_ (binT ha hb I h fun v u s2 x y H2 I2 rx ry q=>hr a b pins s2 σ H2 x y v u Q I2 rx ry q (hs _ _))
def rIxL (K:PySem.W.Frag):R2:=fun x y H Q=>∃ p xs i v,x=.ref p∧y=.int i∧SqL K H p xs∧atI xs i=some v∧Q v H
def rIxT (K:PySem.W.Frag):R2:=fun x y H Q=>∃ p xs i v,x=.ref p∧y=.int i∧SqT K H p xs∧atI xs i=some v∧Q v H
def rIxS:R2:=fun x y H Q=>∃ z i c,x=.str z∧y=.int i∧z.length≤sizeLine∧atI z.cps.toList i=some c∧Q (.str ⟨#[c]⟩) H
theorem pM:IxR X (rIxL X.K):=by
 intro value slice pins s σ H x y v u Q I rx ry h hs
 obtain⟨p,xs,i,z,rfl,rfl,hq,he,q⟩:=h
 cases rx
 obtain⟨t,rfl⟩:=ry
 obtain⟨its,r,pl,hz⟩:=I.list hq
 obtain⟨j,h1,h2,h3,h4,h5⟩:=lC he
 obtain⟨w,ew,rw'⟩:=r.get h2
 have hl:=r.length
 have hn:=line63
 have fin:EP X pins σ Q w s:=⟨z,H,I,rw',q⟩
 by_cases h0:0≤i
 ·have hj:i.toNat=j:=by
   rw[seqIndex_of h0 h5]at h1
   exact Option.some.inj h1
  exact item_listR pl.isList h0 (by omega) (by rw[hj];simpa using ew) fin hs
 ·have hj:(i+(its.toArray.size:Int)).toNat=j:=by
   rw[seqIndex_neg (by omega) h4]at h1
   rw[List.size_toArray,← hl]
   exact Option.some.inj h1
  exact subscriptTail_builtinR (x:=w) pl.isList.typeIs slot_list_getitem.lookup
   (wpAny_getItem_list_neg (Q:=fun r s'=>r=w∧EP X pins σ Q r s') pl.isList (by omega) (by rw[List.size_toArray]<;>omega) (by omega) (by rw[hj];simpa using ew) ⟨rfl,fin⟩) hs
theorem yw:IxR X (rIxT X.K):=by
 intro value slice pins s σ H x y v u Q I rx ry h hs
 obtain⟨p,xs,i,z,rfl,rfl,hq,he,q⟩:=h
 cases rx
 obtain⟨t,rfl⟩:=ry
 obtain⟨its,r,pl,hz⟩:=I.tuple hq
 obtain⟨j,h1,h2,h3,h4,h5⟩:=lC he
 obtain⟨w,ew,rw'⟩:=r.get h2
 have hl:=r.length
 have hn:=line63
 have fin:EP X pins σ Q w s:=⟨z,H,I,rw',q⟩
 exact subscriptTail_builtinR (x:=w) pl.typeIs slot_tuple_getitem.lookup
  (getItem_tuple (j:=j) (Q:=fun r s'=>r=w∧EP X pins σ Q r s') pl (by omega) (by omega) (by rw[List.size_toArray,← hl];exact h1) (by simpa using ew) ⟨rfl,fin⟩) hs
theorem yx:IxR X rIxS:=by
 intro value slice pins s σ H x y v u Q I rx ry h hs
 obtain⟨z,i,c,rfl,rfl,hz,he,q⟩:=h
 obtain⟨t,rfl⟩:=rx
 obtain⟨t',rfl⟩:=ry
 obtain⟨j,h1,h2,h3,h4,h5⟩:=lC he
 have hl:z.cps.toList.length=z.length:=by simp[Str.length]
 rw[hl]at h1 h4 h5
 have hn:=line63
 exact tail_any (typeIs_str s z t) slot_str_getitem.lookup (getItem_str (c:=c) (by
  have e1:decide (i < -(2^63:Int))=false:=decide_eq_false (by omega)
  have e2:decide (i≥2^63)=false:=decide_eq_false (by omega)
  rw[e1,e2,Bool.or_false]) (by rw[h1];simpa using h2) ⟨.str ⟨#[c]⟩,H,I.tok _,⟨_,rfl⟩,q⟩) hs
def rIx (K:PySem.W.Frag):R2:=fun x y H Q=>rIxL K x y H Q∨rIxT K x y H Q∨rIxS x y H Q
theorem yy:IxR X (rIx X.K):=pM.or (yw.or yx)
theorem oo (its:List Value)(n j:Nat)(u:Value):Obj.mapSeq (·.setIfInBounds j u) { cls:=.type "list",data:=.seq its.toArray n }={ cls:=.type "list",data:=.seq (its.set j u).toArray n }:=by
 simp[Obj.mapSeq]
theorem Inv.lst {pins:List (Addr×Obj)}{σ:St}{H:Hp}{s:Shared}{p:Addr}{xs:List V}(I:Inv X pins σ H s)(h:H p=some (.lst xs)) :
  ∃ (its:List Value) (n:Nat),Vals xs its∧s.heap.get? p=some { cls:=.type "list",data:=.seq its.toArray n }∧xs.length≤sizeLine:=by
 obtain⟨z,its,n,r,e⟩:=I.hok p _ h
 exact⟨its,n,r,e,z⟩
theorem Inv.lstUpd {pins:List (Addr×Obj)}{σ:St}{H:Hp}{s:Shared}{p:Addr}{xs ys:List V}{its its':List Value}{n n':Nat}{f:Obj→Obj}(I:Inv X pins σ H s)(h:H p=some (.lst xs))
  (ho:s.heap.get? p=some { cls:=.type "list",data:=.seq its.toArray n }) (hf:f { cls:=.type "list",data:=.seq its.toArray n }={ cls:=.type "list",data:=.seq its'.toArray n' }) (r:Vals ys its') (hz:ys.length≤sizeLine) (t:Nat) :
  Inv X pins σ (upd H p (.lst ys)) { s with heap:=s.heap.update p f,toks:=t }:=by
 have e:(s.heap.update p f).get? p=some { cls:=.type "list",data:=.seq its'.toArray n' }:=by
  rw[Heap.get?_update_self f ho (by rw[hf]<;>rfl),hf]
 refine I.write (x:=p) (e:=p) (by rw[h];trivial) (.inl rfl) (fun b u hb q=>(Heap.get?_update_other _ _ (Ne.symm hb)).trans q) ⟨_,e⟩ ?_
 exact⟨hz,its',n',r,e⟩
def rSetL:V→V→V→Hp→(Hp→Prop)→Prop:=fun o i v H Q=>∃ p xs k j,o=.ref p∧i=.int k∧H p=some (.lst xs)∧ixN xs.length k=some j∧Q (upd H p (.lst (xs.set j v)))
theorem tm:PSet X rSetL:=by
 intro pins s σ H o i v ov iv u Q I ro ri rv h
 obtain⟨p,xs,k,j,rfl,rfl,hp,hj,q⟩:=h
 cases ro
 obtain⟨t,rfl⟩:=ri
 obtain⟨its,n,r,ho,hz⟩:=I.lst hp
 obtain⟨h1,h2,h3,h4⟩:=pL hj
 have hl:=r.length
 have hn:=line63
 have I':Inv X pins σ (upd H p (.lst (xs.set j v))) { s with heap:=s.heap.update p (Obj.mapSeq (·.setIfInBounds j u)) } :=
  I.lstUpd hp ho (oo its n j u) (r.set rv j) (by rw[List.length_set];exact hz) s.toks
 by_cases h0:0≤k
 ·have hk:k.toNat=j:=by
   rw[seqIndex_of h0 h4]at h1
   exact Option.some.inj h1
  exact PySem.W.ki_setAt ho h0 (by omega) (by rw[List.size_toArray,← hl];exact h4) (by rw[hk];exact⟨_,I',q⟩)
 ·have hk:(k+(its.toArray.size:Int)).toNat=j:=by
   rw[seqIndex_neg (by omega) h3]at h1
   rw[List.size_toArray,← hl]
   exact Option.some.inj h1
  exact PySem.W.ki_setBack ho (by omega) (by rw[List.size_toArray,← hl];exact h3) (by omega) (by rw[hk];exact⟨_,I',q⟩)
theorem lE (lo hi:Option Int)(n:Nat):(sliceBounds lo hi none n).1=((HT.sIx n 0 lo:Nat):Int)∧(sliceBounds lo hi none n).2.1=((HT.sIx n n hi:Nat):Int)∧(sliceBounds lo hi none n).2.2=1:=by
 refine⟨?_,?_,rfl⟩
 ·cases lo with
  | none=>simp[sliceBounds,HT.sIx]
  | some i =>
   simp only[sliceBounds,HT.sIx,Option.getD_none,show (1:Int) > 0 by decide,if_true]
   by_cases h:i < 0
   ·simp only[h,if_true]<;>omega
   ·simp only[h,if_false]<;>omega
 ·cases hi with
  | none=>simp[sliceBounds,HT.sIx]
  | some i =>
   simp only[sliceBounds,HT.sIx,Option.getD_none,show (1:Int) > 0 by decide,if_true]
   by_cases h:i < 0
   ·simp only[h,if_true]<;>omega
   ·simp only[h,if_false]<;>omega
theorem jV (its:List Value)(lo hi:Option Int):slicePick its.toArray lo hi none=((its.drop (HT.sIx its.length 0 lo)).take (HT.sIx its.length its.length hi - HT.sIx its.length 0 lo)).toArray:=by
 obtain⟨h1,h2,h3⟩:=lE lo hi its.toArray.size
 unfold slicePick
 rw[h1,h2,h3]
 simp only[sliceRange_one,pick_run,List.size_toArray]<;>rfl
def rSlL (K:PySem.W.Frag):V→Option Int→Option Int→Hp→VK→Prop:=fun x lo hi H Q=>∃ a xs,x=.ref a∧SqL K H a xs∧∀ p,H p=none→Q (.ref p) (upd H p (.lst (cutV xs lo hi)))
theorem vJ:SlR X (rSlL X.K):=by
 intro pins s σ H x v vl vu lo hi sl Q I rx hs pl pu h
 obtain⟨a,xs,rfl,hx,q⟩:=h
 cases rx
 obtain⟨its,r,ht,hz⟩:=I.list hx
 have hlen:=r.length
 refine⟨"list",_,slot_list_getitem.lookup,ht.isList.typeIs,?_⟩
 refine wpAny_getItem_list_slice ht.isList hs pl pu .none (by simp) ?_ (by rw[List.size_toArray]<;>omega)
 rw[jV,← hlen]
 refine⟨.ref s.heap.objs.size,_,I.laid (fun b ob q=>Heap.get?_push_of_some _ q) (Nat.le_refl _) ?_,rfl,q _ (I.hok.fresh (Nat.le_refl _))⟩
 exact⟨Nat.le_trans (mM xs lo hi) hz,_,0,(r.drop (HT.sIx xs.length 0 lo)).take (HT.sIx xs.length xs.length hi - HT.sIx xs.length 0 lo),Heap.get?_push_size _ rfl⟩
def flatV:V→Bool
 | .non=>true
 | .bl _=>true
 | .int _=>true
 | .str _=>true
 | _=>false
def eqV:V→V→Bool
 | .non,.non=>true
 | .bl a,.bl b=>a==b
 | .bl a,.int b=>(if a then 1 else 0)==b
 | .int a,.bl b=>a==(if b then 1 else 0)
 | .int a,.int b=>a==b
 | .str a,.str b=>a==b
 | _,_=>false
theorem yz {A:Around}{s:Shared}{y x:V}{u v:Value}(ry:RelV y u)(rx:RelV x v)(fy:flatV y=true)(fx:flatV x=true):SeqAt.EqAt A s u v (eqV y x):=by
 cases y with
 | non =>
  cases ry
  cases x with
  | non=>cases rx;exact SeqAt.EqAt.same _
  | bl b=>cases rx;exact SeqAt.EqAt.none_bool b
  | int b=>obtain⟨t,rfl⟩:=rx;exact SeqAt.EqAt.none_int b t
  | str b=>obtain⟨t,rfl⟩:=rx;exact SeqAt.EqAt.none_str b t
  | _=>exact absurd (show false=true from fx) Bool.false_ne_true
 | bl a =>
  cases ry
  cases x with
  | non=>cases rx;exact SeqAt.EqAt.bool_none a
  | bl b=>cases rx;exact SeqAt.EqAt.bool_bool a b
  | int b=>obtain⟨t,rfl⟩:=rx;exact SeqAt.EqAt.bool_int a b t
  | str b=>obtain⟨t,rfl⟩:=rx;exact SeqAt.EqAt.bool_str a b t
  | _=>exact absurd (show false=true from fx) Bool.false_ne_true
 | int a =>
  obtain⟨t',rfl⟩:=ry
  cases x with
  | non=>cases rx;exact SeqAt.EqAt.int_none a t'
  | bl b=>cases rx;exact SeqAt.EqAt.int_bool a t' b
  | int b=>obtain⟨t,rfl⟩:=rx;exact SeqAt.EqAt.int_int a t' b t
  | str b=>obtain⟨t,rfl⟩:=rx;exact SeqAt.EqAt.int_str a t' b t
  | _=>exact absurd (show false=true from fx) Bool.false_ne_true
 | str a =>
  obtain⟨t',rfl⟩:=ry
  cases x with
  | non=>cases rx;exact SeqAt.EqAt.str_none a t'
  | bl b=>cases rx;exact SeqAt.EqAt.str_bool a t' b
  | int b=>obtain⟨t,rfl⟩:=rx;exact SeqAt.EqAt.str_int a t' b t
  | str b=>obtain⟨t,rfl⟩:=rx;exact SeqAt.EqAt.str_str a t' b t
  | _=>exact absurd (show false=true from fx) Bool.false_ne_true
 | _=>exact absurd (show false=true from fy) Bool.false_ne_true
theorem fu:CallR X (.builtin "len") (fun xs H Q=>∃ p ys,xs=[.ref p]∧(SqL X.K H p ys∨SqT X.K H p ys)∧Q (.int ys.length) H):=by
 intro pins s σ H xs us Q I r h
 obtain⟨p,ys,rfl,hq,q⟩:=h
 obtain⟨u,rfl,rx⟩:=vals1 r
 cases rx
 have hn:=line63
 rcases hq with hq | hq
 ·obtain⟨its,r',pl,hz⟩:=I.list hq
  have hlen:=r'.length
  exact Calls.call_len_list pl.isList (by simp only[List.size_toArray]<;>omega) ⟨.int ys.length,H,I.tok _,⟨s.toks+1,by rw[List.size_toArray,hlen]⟩,q⟩
 ·obtain⟨its,r',pl,hz⟩:=I.tuple hq
  have hlen:=r'.length
  exact len_tuple pl (by simp only[List.size_toArray]<;>omega) ⟨.int ys.length,H,I.tok _,⟨s.toks+1,by rw[List.size_toArray,hlen]⟩,q⟩
theorem lF:CallR X (.type "list") (fun xs H Q=>∃ p ys,xs=[.ref p]∧(SqL X.K H p ys∨SqT X.K H p ys)∧∀ l,H l=none→Q (.ref l) (upd H l (.lst ys))):=by
 intro pins s σ H xs us Q I r h
 obtain⟨p,ys,rfl,hq,q⟩:=h
 obtain⟨u,rfl,rx⟩:=vals1 r
 cases rx
 have fin:∀ (its:List Value),Vals ys its→ys.length≤sizeLine→∀ (h':Heap) (c':Nat),(∀ b o',s.heap.get? b=some o'→h'.get? b=some o') →
   h'.get? s.heap.objs.size=some { cls:=.type "list",dict:=none,data:=.seq its.toArray c',slots:=#[] }→EP X pins σ Q (.ref s.heap.objs.size) { s with heap:=h' }:=fun its r' hz h' c' kp e =>
  ⟨.ref s.heap.objs.size,_,I.laid (t':=s.toks) kp (Nat.le_refl _) (show ObjOk X.prog X.w _ h' _ (.lst ys) from ⟨hz,its,c',r',e⟩),rfl,q _ (I.hok.fresh (Nat.le_refl _))⟩
 rcases hq with hq | hq
 ·obtain⟨its,r',pl,hz⟩:=I.list hq
  have hlen:=r'.length
  obtain⟨o,ho,hc,n,hd⟩:=pl.isList
  exact call_list_seq p (.inl rfl) ho hc hd (fun h' c' kp e=>fin its r' hz h' c' kp e) (by simp only[List.size_toArray]<;>omega)
 ·obtain⟨its,r',pl,hz⟩:=I.tuple hq
  have hlen:=r'.length
  obtain⟨o,ho,hc,n,hd⟩:=pl
  exact call_list_seq p (.inr rfl) ho hc hd (fun h' c' kp e=>fin its r' hz h' c' kp e) (by simp only[List.size_toArray]<;>omega)
theorem jW:CallR X (.type "tuple") (fun xs H Q=>∃ p ys,xs=[.ref p]∧((SqL X.K H p ys∧∀ l,H l=none→Q (.ref l) (upd H l (.tup ys)))∨(SqT X.K H p ys∧Q (.ref p) H))):=by
 intro pins s σ H xs us Q I r h
 obtain⟨p,ys,rfl,h⟩:=h
 obtain⟨u,rfl,rx⟩:=vals1 r
 cases rx
 rcases h with ⟨hq,q⟩ | ⟨hq,q⟩
 ·obtain⟨its,r',pl,hz⟩:=I.list hq
  have hlen:=r'.length
  refine call_tuple_list pl.isList (fun h' kp=>?_) (by simp only[List.size_toArray]<;>omega)
  have I1:=I.kept (t':=s.toks) kp
  have I2:Inv X pins σ (upd H h'.objs.size (.tup ys)) { s with heap:=h'.push { cls:=.type "tuple",data:=.seq its.toArray } } :=
   I1.laid (t':=s.toks) (fun b o e=>Heap.get?_push_of_some _ e) (Nat.le_refl _) (show ObjOk X.prog X.w _ _ _ (.tup ys) from ⟨hz,its,r',TupO.new _ _⟩)
  exact⟨.ref h'.objs.size,_,I2,rfl,q _ (I1.hok.fresh (Nat.le_refl _))⟩
 ·obtain⟨its,r',pl,hz⟩:=I.tuple hq
  exact call_tuple_same pl ⟨.ref p,H,I,rfl,q⟩
def tyV (K:PySem.W.Frag)(T:String)(x:V)(H:Hp):Prop:=match x with
 | .str _=>T="str"
 | .int _=>T="int"
 | .ref p=>(T="list" ∧ ∃ xs,SqL K H p xs)∨(T="tuple" ∧ ∃ o,K.lookup p=some o∧o.cls=.type "tuple" ∧ o.dict=none) ∨
   (T="dict" ∧ ((∃ kvs,H p=some (.dK kvs))∨∃ kvs,H p=some (.dT kvs)))∨(T="set" ∧ ∃ S n,H p=some (.set S n))
 | _=>False
theorem yA {pins:List (Addr×Obj)}{σ:St}{H:Hp}{s:Shared}{T:String}{x:V}{v:Value}(I:Inv X pins σ H s)(r:RelV x v)(ty:tyV X.K T x H) :
  s.TypeIs v T∧∀ a,v=.ref a→∃ ob,s.heap.get? a=some ob∧ob.dict=none:=by
 cases x with
 | str z =>
  obtain⟨t,rfl⟩:=r
  cases (show T="str" from ty)
  exact⟨typeIs_str s z t,fun _ e=>nomatch e⟩
 | int i =>
  obtain⟨t,rfl⟩:=r
  cases (show T="int" from ty)
  exact⟨typeIs_int s i t,fun _ e=>nomatch e⟩
 | ref p =>
  cases r
  rcases ty with ⟨rfl,xs,hq⟩ | ⟨rfl,o,hk,hc,hd⟩ | ⟨rfl,hk⟩ | ⟨rfl,S,n,hk⟩
  ·obtain⟨its,_,pl,_⟩:=I.list hq
   refine⟨pl.isList.typeIs,fun a e=>?_⟩
   cases e
   obtain⟨o,n,e,c,hd,_⟩:=pl
   exact⟨o,e,hd⟩
  ·refine⟨⟨o,I.kIn p o hk,hc⟩,fun a e=>?_⟩
   cases e
   exact⟨o,I.kIn _ o hk,hd⟩
  ·have z:∃ o,s.heap.get? p=some o∧o.ExactDict:=by
    rcases hk with ⟨kvs,hk⟩ | ⟨kvs,hk⟩
    ·obtain⟨_,_,_,_,o,_,_,e,ex,_⟩:=I.hok p _ hk
     exact⟨o,e,ex⟩
    ·obtain⟨_,_,_,_,o,_,_,e,ex,_⟩:=I.hok p _ hk
     exact⟨o,e,ex⟩
   obtain⟨o,e,ex⟩:=z
   refine⟨⟨o,e,ex.1⟩,fun a e2=>?_⟩
   cases e2
   exact⟨o,e,ex.2.1⟩
  ·obtain⟨o,_,_,_,e,ex,_⟩:=I.hok p _ hk
   refine⟨⟨o,e,ex.1⟩,fun a e2=>?_⟩
   cases e2
   exact⟨o,e,ex.2.1⟩
 | _=>exact False.elim ty
def tBM (K:PySem.W.Frag)(T:String)(r:V→List V→Hp→VK→Prop)(to:TE)(t:TA):TE:=fun σ H Q=>to σ H fun x H1=>tyV K T x H1∧t σ H1 fun xs H2=>r x xs H2 Q
variable {o e:Expr}{es:List Expr}{to:TE}{t:TA}{name:Str}{apos cpos:Pos}{T id:String}{r:V→List V→Hp→VK→Prop}
theorem pN (pa:PlainAttrs T)(slot:Slot T name id)(hty:typeOf (.builtin id)=pure (.type "method_descriptor"))(hm:MtR X id r)(ho:PE X o to)(ha:PA X (e::es) t)
  (hbase:attributeBase o name X.env (eval o X.env)=eval o X.env:=by rfl)
  (hfew:((backTo cpos (starEach (e::es) X.env)).all (fun x=>!x.1)&&(backToKw cpos (keywordEach [] X.env)).all (fun x=>x.1.isSome)
   && decide ((e::es).length+([]:List Keyword).length+(if ([]:List Keyword).isEmpty then 0 else 1) < 30))=true:=by rfl)
  (hline:(apos.endLine==cpos.line)=true:=by rfl) (hs:starEach (e::es) X.env=(false,eval e X.env)::starEach es X.env:=by rfl) (hplain:(backTo cpos (starEach es X.env)).any (·.1)=false:=by rfl) :
  PE X (.Call (.Attribute o name apos) (e::es) [] cpos) (tBM X.K T r to t):=by
 intro pins s σ H Q I h
 refine wpAny_Call_method_late hbase hfew hline rfl (thn (ho pins s σ H _ I h) fun v s1 ⟨x,H1,I1,r1,ty,q1⟩=>?_)
 obtain⟨h1,h2⟩:=yA I1 r1 ty
 refine⟨T,id,pa,slot,hty,h1,h2,?_⟩
 have hA:=ha cpos pins s1 σ H1 _ I1 q1
 rw[hs]at hA ⊢
 refine Calls.callWith_builtin (by show (false||(backTo cpos (starEach es X.env)).any (·.1))=false;rw[hplain]<;>rfl) (Calls.evalArgs_plain ?_)
 exact thn hA fun us s2 ⟨vs,H2,I2,r2,q2⟩=>hm pins s2 σ H2 x vs v us Q I2 r1 r2 q2
end
end L2
namespace L2
open PySem PySem.Spec PyProof.Rows
def MtM (X:Cx)(id:String)(r:V→List V→Hp→VK→Prop):Prop :=
 ∀ (pins:List (Addr×Obj)) (s:Shared) (σ:St) (H:Hp) (x:V) (xs:List V) (v:Value) (us:List Value) (Q:VK),Inv X pins σ H s→RelV x v→Vals xs us→r x xs H Q →
  wpAny (model X.prog X.w) X.A (call (.builtin id) (v::us)) (EP X pins σ Q) X.xe s
theorem Vals.one:∀ {x:V} {us:List Value},Vals [x] us→∃ u,us=[u]∧RelV x u
 | _,_,.cons r .nil=>⟨_,rfl,r⟩
theorem Vals.rep {xs:List V}{us:List Value}(h:Vals xs us):∀ k:Nat,Vals (List.replicate k xs).flatten (List.replicate k us).flatten
 | 0=>.nil
 | k+1=>by
  rw[List.replicate_succ,List.replicate_succ,List.flatten_cons,List.flatten_cons]
  exact Vals.append h (Vals.rep h k)
theorem gu (its:List Value):∀ (k:Nat) (acc:List Value),
  List.foldl (fun x1 x2=>x1++x2) acc.toArray (List.replicate k its.toArray)=(acc++(List.replicate k its).flatten).toArray
 | 0,acc=>by simp
 | k+1,acc=>by
  have e:acc.toArray++its.toArray=(acc++its).toArray:=by simp
  have e2:(acc++its)++(List.replicate k its).flatten=acc++(List.replicate (k+1) its).flatten:=by
   rw[List.replicate_succ,List.flatten_cons,List.append_assoc]
  rw[← e2,← gu its k (acc++its),← e,List.replicate_succ,List.foldl_cons]
section
variable {X:Cx}{pins:List (Addr×Obj)}{σ:St}{H:Hp}{s:Shared}{l b:Addr}{xs ys zs:List V}
theorem Inv.lset {its its':List Value}{n:Nat}{f:Array Value→Array Value}{t':Nat}(I:Inv X pins σ H s)(hH:H l=some (.lst xs))
  (e:s.heap.get? l=some { cls:=.type "list",data:=.seq its.toArray n }) (hf:f its.toArray=its'.toArray) (hv:Vals ys its') (hz:ys.length≤sizeLine) :
  Inv X pins σ (upd H l (.lst ys)) { s with heap:=s.heap.update l (Obj.mapSeq f),toks:=t' }:=by
 have q:=PySem.IsL.update e f
 rw[hf]at q
 refine I.write (by rw[hH];exact trivial) (.inl rfl) (fun b' u hb hu=>(Heap.get?_update_other s.heap (Obj.mapSeq f) (Ne.symm hb)).trans hu) ⟨_,q⟩ ?_
 exact⟨hz,its',_,hv,q⟩
theorem Inv.lnew {its:List Value}{t':Nat}(I:Inv X pins σ H s)(hv:Vals ys its)(hz:ys.length≤sizeLine) :
  Inv X pins σ (upd H s.heap.objs.size (.lst ys)) { s with heap:=s.heap.push { cls:=.type "list",data:=.seq its.toArray },toks:=t' } :=
 I.laid (fun _ _ q=>Heap.get?_push_of_some _ q) (Nat.le_refl _) ⟨hz,its,0,hv,Heap.get?_push_size _ rfl⟩
theorem Inv.fresh (I:Inv X pins σ H s):H s.heap.objs.size=none:=I.hok.fresh (Nat.le_refl _)
theorem Inv.lstM (I:Inv X pins σ H s)(hH:H l=some (.lst xs)):xs.length≤sizeLine∧∃ (its:List Value) (n:Nat),Vals xs its∧xs.length=its.length∧s.heap.get? l=some { cls:=.type "list",data:=.seq its.toArray n }:=by
 obtain⟨z,its,n,r,e⟩:=I.hok l _ hH
 exact⟨z,its,n,r,r.length,e⟩
theorem notLongL {n:Nat}(h:n≤sizeLine):Builtin.List.listTooLong n=false:=by
 unfold Builtin.List.listTooLong
 grind
end
section
variable {X:Cx}
def rAppend:V→List V→Hp→VK→Prop:=fun x vs H Q=>∃ l xs y,x=.ref l∧vs=[y]∧H l=some (.lst xs)∧xs.length < sizeLine∧Q .non (upd H l (.lst (xs++[y])))
theorem eg:MtM X "list.append" rAppend:=by
 intro pins s σ H x vs v us Q I rx rv h
 obtain⟨l,xs,y,rfl,rfl,hH,hz,q⟩:=h
 cases rx
 obtain⟨u,rfl,ru⟩:=rv.one
 obtain⟨z,its,n,r,hl,e⟩:=I.lstM hH
 refine call_meets F.slot_list_append ⟨_,e,rfl⟩ F.entry_list_append (F.args_list_append_2 _ _) (PySem.list_append l its.toArray n u (by grind)) ⟨e,?_⟩
 refine⟨.non,_,I.lset hH e (by simp) (r.append (.cons ru .nil)) ?_,rfl,q⟩
 grind
theorem pO {α:Type}(xs:List α)(k:Nat):(List.replicate k xs).flatten.length=k*xs.length:=by simp_all
end
section
variable {prog:Program}{w:World}{A:Around}{E:Value→Shared→Prop}{s:Shared}
set_option maxRecDepth 100000 in
end
section
variable {X:Cx}
end
end L2
namespace Att
open PySem PySem.W PySem.Calls PyProof.Rows
theorem iw {P:Params}{h:Heap}:∀ (ns:List Int) (vs:List Value),WellAll P h vs (ns.map WData.int)→IntsAre vs ns:=by
 intro ns
 induction ns with
 | nil =>
  intro vs w
  rw[List.map_nil]at w
  cases w
  exact .nil
 | cons n ns ih =>
  intro vs w
  rw[List.map_cons]at w
  cases w with
  | cons a b =>
   cases a
   exact .cons _ _ (ih _ b)
theorem q9 {l:OpenLaw}{n:Nat}(hn:l.most=some n){P:Params}{h:Heap}{args:List WData}{vals:List Value}
  (hpre:l.row.toRowW.claim.pre args=true) (hwl:WellAll P h vals args) :
  ∃ a vs ns,vals=[Value.ref a]∧args=[WData.list (ns.map WData.int)]∧h.get? a=some { cls:=.type "list",data:=.seq vs.toArray }∧IntsAre vs ns∧ns.length≤n:=by
 have hsh:=(pre_splitW hpre).1
 have hc:l.pre.holds [] { args:=args }=true:=(pre_splitW hpre).2
 obtain⟨d,r,rfl,h1,h2⟩:=hasAllW_cons hsh
 obtain rfl:=hasAllW_nil h2
 obtain⟨xs,rfl,h3⟩:=hasW_list h1
 obtain⟨ns,rfl⟩:=items_int h3
 have hlen:ns.length≤n:=by
  unfold OpenLaw.pre at hc
  have h4:(WTm.not (.lt (.lit (.int (n:Int))) (.len (.arg 0)))).holds [] { args:=[.list (ns.map .int)] }=true:=by
   have h4:=(holds_andW hc).1
   rw[hn]at h4
   exact h4
  have h5:=condW_of h4 (w_not (w_lt w_lit (w_len_list (w_arg rfl))))
  rw[List.length_map]at h5
  refine Nat.le_of_not_lt fun q=>?_
  have q':(n:Int) < ((ns.length:Nat):Int):=by omega
  first
   | (rw[decide_eq_true q']at h5;exact absurd h5 (by decide))
   | (simp at h5;omega)
 cases hwl with
 | cons w1 w2 =>
  cases w2
  cases w1 with
  | list ho hall=>exact⟨_,_,ns,rfl,rfl,ho,iw ns _ hall,hlen⟩
theorem re (l:OpenLaw)(args:List WData):l.row.toRowW.claim.post args (.bool true) args=true :=
 postW_of
  (show WShape.has [] (.bool true) .bool=true by first | rfl | decide | simp[WShape.has,WShape.arms,WShape.armsAll])
  (show (WTm.eq .res (.lit (.bool true))).value [] { args:=args,res:=some (.bool true),after:=args }=some (.bool (true==true)) from w_eq_bool (w_res rfl) w_lit) rfl
theorem attach_call {l:OpenLaw}{n:Nat}{q:Program}{loose:List Str}{XP:(Str→Option Value)→Heap→Prop}{YP:World→Heap→Prop}{d:DefRec}
  (hn:l.most=some n) (hdf:d.params.defaults=[])
  (call:∀ (w:World) (s₀ s₁:Shared) (mg mb:Str→Option Value) (fa:Addr) (o:Obj) (pm cd doc:Value) (a:Addr) (vs:List Value) (ns:List Int),
   Ground q loose [] XP w s₀ mg mb s₁.heap→YP w s₁.heap →
   s₁.heap.get? fa=some o→o.data=.func (docDef d.name d.params d.body d.scope pm cd doc)→s₁.heap.CodeRec cd d.name→mg d.name=some (.ref fa) →
   s₁.heap.get? a=some { cls:=.type "list",data:=.seq vs.toArray }→IntsAre vs ns→ns.length≤n→s₁.gens = #[] →
   codeAny (model l.prog w) callerA (.call (.ref fa) ⟨[.ref a],[]⟩) (fun r s'=>r=.ok (.ret (.bool true))∧OldK s₁.heap s'.heap∧s'.os=s₁.os∧AllBare s'.gens) s₁) :
  WalkO q loose XP YP l.row.toRowW d [] (fun f vs=>PySem.call f vs):=by
 intro w s₀ s₁ mg mb G Y fa o pm cd doc dV kV ho hd hcd hD hmg hg args vals as hpre hlay hrd hwl hlo
 obtain rfl:dV=.none:=Dflts.none hD hdf
 obtain rfl:kV=.none:=Dflts.noKw hD
 obtain⟨a,vs,ns,rfl,rfl,hobj,hints,hlen⟩:=q9 hn hpre hwl
 refine enter_call (codeAny_mono (call w s₀ s₁ mg mb fa o pm cd doc a vs ns G Y ho (fd_plain hd) hcd hmg hobj hints hlen hg) fun r s' hq=>?_)
 obtain⟨rfl,h2,h3,h4⟩:=hq
 exact⟨.inl ⟨.bool true,.bool true,[],rfl,fun _=>rfl,.bool true,re l _,fun _=>⟨List.Pairwise.nil,fun _ hm=>(nomatch hm)⟩⟩,h2,h3,h4⟩
section
variable {prog:Program}{w:World}{A:Around}{E:Value→Shared→Prop}{s:Shared}{K:Frag}
theorem zp {x C:Addr}{ox:Obj}{es:List DictEntry}{n:Nat}{name:Str}{expr:Bool}{v:Value}{Q:Value→Shared→Prop}
  (X:K.In s.heap) (I:PySem.W.InstAt s.heap x ox C (some (dictOf es n))) (hg:plainGet K C name=true) (hh:hasDictIn K C=true) (ha:findIn K (.ref C) name=some none)
  (hl:getL name es=some (some v)) (hv:handedIn v=true) (h:Q v { s with toks:=s.toks+1 }):wpAny (model prog w) A (getAttr (.ref x) name expr) Q E s :=
 get_value X I (plainGet_of hg).1 (findObj_own hh ha rfl hl) hv h
end
end Att
namespace L2
open PySem PySem.Spec PyProof.Rows
theorem gw:∀ {vs:List Value} {ns:List Int},IntsAre vs ns→Vals (ns.map V.int) vs
 | _,_,.nil=>.nil
 | _,_,.cons n t h=>.cons ⟨t,rfl⟩ (gw h)
end L2
namespace L2
open PySem PySem.Spec PyProof.Rows
end L2
namespace L2
open PySem PySem.Spec PyProof.Rows
def defArgs (s:Stmt):Arguments:=match s with
 | .FunctionDef _ a _ _ _ _ _ _ _ _=>a
 | _=>{ posonlyargs:=[],args:=[],vararg:=none,kwonlyargs:=[],kw_defaults:=[],kwarg:=none,defaults:=[] }
def defBody (s:Stmt):List Stmt:=match s with
 | .FunctionDef _ _ b _ _ _ _ _ _ _=>b
 | _=>[]
def defScope (s:Stmt):Scope:=match s with
 | .FunctionDef _ _ _ _ _ _ sc _ _ _=>sc
 | _=>{ kind:=.function,names:=[],isGenerator:=false,isCoroutine:=false }
structure Fun (K:PySem.W.Frag)(x qual:Str)(st:Stmt)(f:Addr)(fd:FuncData):Prop where
 ex:∃ (oc:Value) (od:Option Addr) (kV doc pm:Value) (an:Option Addr) (cdv ct:Value) (osl:Array (Option Value)),
  fd=PySem.W.fnOf x qual (defArgs st) (defBody st) (defScope st) .none kV doc pm an cdv ct∧K.lookup f=some ⟨oc,od,.func fd,osl⟩∧PySem.W.codeIn K cdv qual=true
 kp:PySem.W.keepIn K (.ref f)=true
section
variable {P:Program}{w:World}{K:PySem.W.Frag}{mg:Str→Option Value}{base:Heap}
theorem Fun.binds {x qual:Str}{st:Stmt}{f:Addr}{fd:FuncData}{ps:List Str}(F:Fun K x qual st f fd)
  (h:∀ (kV doc pm:Value) (an:Option Addr) (cdv ct:Value) (us:List Value),us.length=ps.length→bindArgs (PySem.W.fnOf x qual (defArgs st) (defBody st) (defScope st) .none kV doc pm an cdv ct) ⟨us,[]⟩=pure (ps.zip us)):Binds K fd ps []:=by
 obtain⟨oc,od,kV,doc,pm,an,cdv,ct,osl,rfl,lk,hcd⟩:=F.ex
 exact .all (h kV doc pm an cdv ct)
theorem eS {x qual:Str}{st:Stmt}{f:Addr}{oc:Value}{od an:Option Addr}{osl:Array (Option Value)}{kV doc pm cdv ct:Value}(l:K.lookup f=some ⟨oc,od,.func (PySem.W.fnOf x qual (defArgs st) (defBody st) (defScope st) .none kV doc pm an cdv ct),osl⟩)
  (c:PySem.W.codeIn K cdv qual=true) (k:PySem.W.keepIn K (.ref f)=true):Fun K x qual st f (PySem.W.fnOf x qual (defArgs st) (defBody st) (defScope st) .none kV doc pm an cdv ct):=⟨⟨oc,od,kV,doc,pm,an,cdv,ct,osl,rfl,l,c⟩,k⟩
end
section
variable {X:Cx}
end
def Same (H H':Hp):Prop:=∀ b o,H b=some o→H' b=some o
theorem Same.refl (H:Hp):Same H H:=fun _ _ h=>h
theorem Same.trans {H H1 H2:Hp}(a:Same H H1)(b:Same H1 H2):Same H H2:=fun c o h=>b c o (a c o h)
theorem Same.free {H H':Hp}(e:Same H H'){l:Addr}(h:H' l=Option.none):H l=Option.none:=by
 cases q:H l with
 | none=>rfl
 | some o =>
  rw[e l o q]at h
  cases h
theorem Same.seq {K:PySem.W.Frag}{H H':Hp}{a:Addr}{xs:List V}(e:Same H H')(h:SqL K H a xs):SqL K H' a xs:=by
 rcases h with (h | ⟨o,h⟩) | h
 ·exact .inl (.inl (e _ _ h))
 ·exact .inl (.inr ⟨o,e _ _ h⟩)
 ·exact .inr h
end L2
end
noncomputable section
namespace FF
abbrev St:=L2.St
end FF
namespace FF
open PySem
open AutoSeq1 (wpAny_loadPart')
theorem gz:fillsNumberSlot (.type "tuple") "mul"=pure false :=
 fillsNumberSlot_seq F.slot_tuple_mul.lookup (by decide +kernel) F.slot_tuple_rmul.lookup (by decide +kernel)
theorem lG:seqRepeat? (.type "tuple")=pure (some (.builtin "tuple.__mul__")):=by
 unfold seqRepeat?
 rw[seqSlot_of (name := "__mul__") F.slot_tuple_mul.lookup (by decide +kernel),seqSlot_of (name := "__rmul__") F.slot_tuple_rmul.lookup (by decide +kernel)]
 rfl
theorem iP (a:Int)(t:Tok)(l:Addr)(items:Array Value)(n:Nat)(dd:Option Addr)(sl:Array (Option Value)) :
  Meets (Builtin.«int.__rmul__» ⟨[.int a t,.ref l],[]⟩) (fun _ R s=>s.heap.get? l=some { cls:=.type "tuple",dict:=dd,data:=.seq items n,slots:=sl }∧R (.ok (.ret Value.notImplemented)) s) :=
 .of_wp fun prog w A R s h=>by obtain⟨hp,g,d,tk,os⟩:=s;obtain⟨hl,h⟩:=h;wp_walk;exact⟨_,rfl,h⟩
theorem jX (l:Addr)(items:Array Value)(n:Nat)(k:Int)(t:Tok)(dd:Option Addr)(sl:Array (Option Value))(h0:2≤k)(h1:k < 1000000)(hsz:items.size*k.toNat≤sizeLine)(hne:items.isEmpty=false) :
  Meets (Builtin.«tuple.__mul__» ⟨[.ref l,.int k t],[]⟩) (fun _ R s=>s.heap.get? l=some { cls:=.type "tuple",dict:=dd,data:=.seq items n,slots:=sl } ∧
   R (.ok (.ret (.ref s.heap.objs.size))) { s with heap:=s.heap.push { cls:=.type "tuple",data:=.seq (List.foldl (fun x1 x2=>x1++x2) #[] (List.replicate k.toNat items)) } }) :=
 .of_wp fun prog w A R s h=>by
  obtain⟨hp,g,d,tk,os⟩:=s;obtain⟨hl,h⟩:=h
  have f1:=AutoSeq1.idx_int
  have f2:=AutoSeq1.sub_tuple_tuple
  have c0:¬ (decide (k < -2^63)||decide (k≥2^63))=true:=by
   simp only[Bool.or_eq_true,decide_eq_true_eq];omega
  have c1:¬ (items.isEmpty||k==1)=true:=by
   rw[hne,Bool.false_or,beq_iff_eq];omega
  have c2:¬ (decide (k≤0)||items.isEmpty)=true:=by
   rw[hne,Bool.or_false,decide_eq_true_eq];omega
  have hs:=sizeLine_eq
  have hk:(items.size:Int)*k=((items.size*k.toNat:Nat):Int):=by
   rw[Int.natCast_mul,Int.toNat_of_nonneg (by omega)]
  have c3:¬ ((items.size:Int)*k > (2^63 - 1)/8):=by
   rw[hk];omega
  have c4:¬ Builtin.Tuple.tupleTooMany ((items.size:Int)*k)=true:=by
   rw[hk]
   unfold Builtin.Tuple.tupleTooMany
   simp only[decide_eq_true_eq]
   omega
  have hlen:(List.foldl (fun x1 x2=>x1++x2) #[] (List.replicate k.toNat items)).size≤sizeLine:=by
   have:∀ (m:Nat) (acc:Array Value),(List.foldl (fun x1 x2=>x1++x2) acc (List.replicate m items)).size=acc.size+m*items.size:=by
    intro m
    induction m with
    | zero=>intro acc;simp
    | succ m ih=>intro acc;rw[List.replicate_succ,List.foldl_cons,ih,Array.size_append,Nat.succ_mul];omega
   rw[this,Nat.mul_comm];simpa using hsz
  unfold Builtin.«tuple.__mul__»
  wp_walk using wpAny_loadPart' hl
  rw[if_neg c0]
  wp_walk using wpAny_loadPart' hl
  rw[if_neg c1]
  try wp_walk using wpAny_loadPart' hl
  rw[if_neg c2]
  try wp_walk using wpAny_loadPart' hl
  rw[if_neg c3]
  try wp_walk using wpAny_loadPart' hl
  rw[if_neg c4]
  try wp_walk using wpAny_loadPart' hl
  rw[if_neg (Nat.not_lt.mpr hlen)]
  try wp_walk using wpAny_loadPart' hl
  exact⟨_,rfl,h⟩
theorem jY (l:Addr)(items:Array Value)(n:Nat)(t:Tok)(dd:Option Addr)(sl:Array (Option Value)) :
  Meets (Builtin.«tuple.__mul__» ⟨[.ref l,.int 1 t],[]⟩) (fun _ R s=>s.heap.get? l=some { cls:=.type "tuple",dict:=dd,data:=.seq items n,slots:=sl }∧R (.ok (.ret (.ref l))) s) :=
 .of_wp fun prog w A R s h=>by
  obtain⟨hp,g,d,tk,os⟩:=s;obtain⟨hl,h⟩:=h
  have f1:=AutoSeq1.idx_int
  have f2:=AutoSeq1.sub_tuple_tuple
  have c1:(items.isEmpty||(1:Int)==1)=true:=by simp
  unfold Builtin.«tuple.__mul__»
  wp_walk using wpAny_loadPart' hl
  exact⟨_,rfl,h⟩
theorem jZ (l:Addr)(n:Nat)(k:Int)(t:Tok)(dd:Option Addr)(sl:Array (Option Value))(h0:0≤k)(h1:k < 1000000) :
  Meets (Builtin.«tuple.__mul__» ⟨[.ref l,.int k t],[]⟩) (fun _ R s=>s.heap.get? l=some { cls:=.type "tuple",dict:=dd,data:=.seq #[] n,slots:=sl }∧R (.ok (.ret (.ref l))) s) :=
 .of_wp fun prog w A R s h=>by
  obtain⟨hp,g,d,tk,os⟩:=s;obtain⟨hl,h⟩:=h
  have f1:=AutoSeq1.idx_int
  have f2:=AutoSeq1.sub_tuple_tuple
  have c0:¬ (decide (k < -2^63)||decide (k≥2^63))=true:=by
   simp only[Bool.or_eq_true,decide_eq_true_eq];omega
  have c1:((#[]:Array Value).isEmpty||k==1)=true:=by simp
  unfold Builtin.«tuple.__mul__»
  wp_walk using wpAny_loadPart' hl
  rw[if_neg c0]
  wp_walk using wpAny_loadPart' hl
  exact⟨_,rfl,h⟩
theorem iQ (l:Addr)(items:Array Value)(n:Nat)(t:Tok)(dd:Option Addr)(sl:Array (Option Value))(hne:items.isEmpty=false) :
  Meets (Builtin.«tuple.__mul__» ⟨[.ref l,.int 0 t],[]⟩) (fun _ R s=>s.heap.get? l=some { cls:=.type "tuple",dict:=dd,data:=.seq items n,slots:=sl } ∧
   R (.ok (.ret (.ref s.heap.objs.size))) { s with heap:=s.heap.push { cls:=.type "tuple",data:=.seq #[] } }) :=
 .of_wp fun prog w A R s h=>by
  obtain⟨hp,g,d,tk,os⟩:=s;obtain⟨hl,h⟩:=h
  have f1:=AutoSeq1.idx_int
  have f2:=AutoSeq1.sub_tuple_tuple
  have c1:¬ (items.isEmpty||(0:Int)==1)=true:=by rw[hne];decide
  have c2:(decide ((0:Int)≤0)||items.isEmpty)=true:=by simp
  unfold Builtin.«tuple.__mul__»
  wp_walk using wpAny_loadPart' hl
  exact⟨_,rfl,h⟩
end FF
namespace FF
open PySem
theorem cY (env:Env):∀ (names:List (Str×NameKind)) (acc:List (Str×Addr)),(∀ y∈names,y.2=.free→∃ c,env.cells.lookup y.1=some c)→(∀ n c,acc.lookup n=some c→env.cells.lookup n=some c) →
  ∃ cl,(forIn names acc fun (x:Str×NameKind) (cs:List (Str×Addr))=>(do
    if x.2==.free then let a ← cellOf env x.1;pure (ForInStep.yield ((x.1,a)::cs)) else pure (ForInStep.yield cs):Sem (ForInStep (List (Str×Addr)))))=pure cl ∧
   (∀ n c,cl.lookup n=some c→env.cells.lookup n=some c)∧(∀ n c,acc.lookup n=some c→∃ c',cl.lookup n=some c')∧(∀ y∈names,y.2=.free→∃ c,cl.lookup y.1=some c)
 | [],acc,_,h=>⟨acc,rfl,h,fun n c e=>⟨c,e⟩,fun _ z=>nomatch z⟩
 | (n,k)::r,acc,hf,h=>by
  by_cases hk:k=.free
  ·subst hk
   obtain⟨c,hc⟩:=hf (n,.free) List.mem_cons_self rfl
   have h':∀ m d,List.lookup m ((n,c)::acc)=some d→env.cells.lookup m=some d:=fun m d e=>by
    by_cases q:(m==n)=true
    ·have q':m=n:=eq_of_beq q
     simp only[List.lookup,q]at e
     cases e
     rw[q'];exact hc
    ·have q':(m==n)=false:=by simpa using q
     simp only[List.lookup,q']at e
     exact h m d e
   obtain⟨cl,e1,e2,e3,e4⟩:=cY env r ((n,c)::acc) (fun y hy=>hf y (List.mem_cons_of_mem _ hy)) h'
   have self:List.lookup n ((n,c)::acc)=some c:=by simp[List.lookup]
   refine⟨cl,?_,e2,fun m d e=>?_,fun y hy hy2=>?_⟩
   ·rw[List.forIn_cons]
    have:cellOf env n=pure c:=by unfold cellOf;rw[hc]
    simp only[beq_self_eq_true,if_true,this]
    exact e1
   ·by_cases q:(m==n)=true
    ·have q':m=n:=eq_of_beq q
     rw[q'];exact e3 n c self
    ·have q':(m==n)=false:=by simpa using q
     exact e3 m d (by simp only[List.lookup,q'];exact e)
   ·rcases List.mem_cons.mp hy with z | z
    ·subst z;exact e3 n c self
    ·exact e4 y z hy2
  ·have hb:(k==NameKind.free)=false:=by simpa using hk
   obtain⟨cl,e1,e2,e3,e4⟩:=cY env r acc (fun y hy=>hf y (List.mem_cons_of_mem _ hy)) h
   refine⟨cl,?_,e2,e3,fun y hy hy2=>?_⟩
   ·rw[List.forIn_cons]
    simp only[hb,Bool.false_eq_true,if_false]
    exact e1
   ·rcases List.mem_cons.mp hy with z | z
    ·subst z;exact absurd hy2 hk
    ·exact e4 y z hy2
theorem oq (scope:Scope)(env:Env)(h:∀ y∈scope.names,y.2=.free→∃ c,env.cells.lookup y.1=some c) :
  ∃ cl,closureFor scope env=pure cl∧(∀ n c,cl.lookup n=some c→env.cells.lookup n=some c)∧(∀ y∈scope.names,y.2=.free→∃ c,cl.lookup y.1=some c):=by
 obtain⟨cl,e1,e2,_,e4⟩:=cY env scope.names [] h (fun n c e=>by simp at e)
 refine⟨cl,?_,e2,e4⟩
 exact(congrArg (fun t:Sem (List (Str×Addr))=>t >>= fun s=>pure s) e1).trans rfl
end FF
namespace FF
open PySem
def tests (ifs:List Expr)(env:Env):Sem Bool:=match ifs with
 | []=>pure true
 | c::_=>isTrue c env (eval c env)
theorem rg {prog:Program}{w:World}{A:Around}{R:Result→Shared→Prop}{s:Shared}{elt target iter:Expr}{ifs:List Expr}{scope:Scope}{pos:Pos}{it acc:Value}{env:Env}(hifs:ifs.length≤1)(W:Nat→Shared→Prop)
  (turn:∀ n s,W n s→wpAny (model prog w) A (pyNext it) (fun r s1=>match r with
   | none=>R (.ok .next) s1
   | some v=>wpAny (model prog w) A (letOwnedTupleGo target it v) (fun _ s2=>wpAny (model prog w) A (assign target env v) (fun _ s3=>wpAny (model prog w) A (tests ifs env) (fun ok s4 =>
     if ok=true then wpAny (model prog w) A (eval elt env) (fun x s5=>wpAny (model prog w) A (call (.builtin "list.append") [acc,x]) (fun _ s6=>∃ m,m < n∧W m s6) (fun _ _=>False) s5) (fun _ _=>False) s4
     else ∃ m,m < n∧W m s4) (fun _ _=>False) s3) (fun _ _=>False) s2) (fun _ _=>False) s1) (fun _ _=>False) s)
  (n:Nat) (h:W n s):codeAny (model prog w) A (.compLoop (.ListComp elt [⟨target,iter,ifs,0⟩] scope pos) 0 it acc env) R s:=by
 have weak:∀ {α:Type} {t:Sem α} {Q Q':α→Shared→Prop} {E:Value→Shared→Prop} {s:Shared},wpAny (model prog w) A t Q (fun _ _=>False) s→(∀ a s,Q a s→Q' a s)→wpAny (model prog w) A t Q' E s :=
  fun h k=>wpAny_mono h k fun _ _ z=>z.elim
 refine codeAny_loop rfl W (fun n s hW=>?_) n h
 refine wpAny_noted ?_
 rw[compTurn_list]
 refine wpAny_bind (wpAny_standAt (wpAny_bind (weak (turn n s hW) fun r s1 h1=>?_)))
 cases r with
 | none=>exact wpAny_pure h1
 | some v =>
  refine wpAny_bind (weak h1 fun _ s2 h2=>wpAny_bind (weak h2 fun _ s3 h3=>wpAny_bind ?_))
  have fin:∀ ok s4,(if ok=true then wpAny (model prog w) A (eval elt env) (fun x s5=>wpAny (model prog w) A (call (.builtin "list.append") [acc,x]) (fun _ s6=>∃ m,m < n∧W m s6) (fun _ _=>False) s5) (fun _ _=>False) s4
     else ∃ m,m < n∧W m s4)→wpAny (model prog w) A (if ok=true then ((do let _ ← call (.builtin "list.append") [acc,← eval elt env];pure ()) >>= fun _=>again (.compLoop (.ListComp elt [⟨target,iter,ifs,0⟩] scope pos) 0 it acc env)) else again (.compLoop (.ListComp elt [⟨target,iter,ifs,0⟩] scope pos) 0 it acc env))
      (fun fin s'=>match fin with | .done f=>R (.ok f) s' | .again c'=>c'=(.compLoop (.ListComp elt [⟨target,iter,ifs,0⟩] scope pos) 0 it acc env)∧∃ m,m < n∧W m s') (notedBy (model prog w) A env fun e s'=>R (.error e) s') s4:=by
   intro ok s4 h4
   cases ok with
   | true=>exact wpAny_bind (wpAny_bind (weak h4 fun x s5 h5=>wpAny_bind (weak h5 fun _ s6 h6=>wpAny_pure (wpAny_pure ⟨rfl,h6⟩))))
   | false=>exact wpAny_pure ⟨rfl,h4⟩
  match ifs,hifs,h3,fin with
  | [],_,h3,fin =>
   refine wpAny_tests_nil ?_
   exact wpAny_bind (m:=(pure true:Sem Bool)) (weak h3 fin)
  | [c],_,h3,fin =>
   refine wpAny_tests_one ?_
   exact weak h3 fin
end FF
namespace FF
open PySem PyProof.Rows
open AutoSeq1 (wpAny_loadPart')
theorem rh (l b:Addr)(items items2:Array Value)(n n2:Nat)(dd dd2:Option Addr)(sl sl2:Array (Option Value))(hsz:items.size+items2.size≤sizeLine) :
  Meets (Builtin.«list.__add__» ⟨[.ref l,.ref b],[]⟩) (fun _ R s=>s.heap.get? l=some { cls:=.type "list",dict:=dd,data:=.seq items n,slots:=sl }∧s.heap.get? b=some { cls:=.type "list",dict:=dd2,data:=.seq items2 n2,slots:=sl2 } ∧
   R (.ok (.ret (.ref s.heap.objs.size))) { s with heap:=s.heap.push { cls:=.type "list",data:=.seq (items++items2) } }) :=
 .of_wp fun prog w A R s h=>by
  obtain⟨hp,g,d,tk,os⟩:=s;obtain⟨hl,hb,h⟩:=h
  have f1:=AutoSeq1.idx_int;have f2:=AutoSeq1.sub_tuple_tuple;have f3:=AutoSeq1.sub_list_list;have f4:=AutoSeq1.sub_tuple_list;have f5:=AutoSeq1.sub_list_tuple
  have hl0:¬ Builtin.List.listTooLong (items.size+items2.size)=true:=by rw[L2.notLongL hsz];exact Bool.false_ne_true
  have hz:(items++items2).size≤sizeLine:=by rw[Array.size_append];exact hsz
  wp_walk using wpAny_loadPart' hl,wpAny_loadPart' hb
  all_goals first | exact⟨_,rfl,h⟩ | trace_state
theorem rj (l:Addr)(items:Array Value)(n:Nat)(k:Int)(t:Tok)(dd:Option Addr)(sl:Array (Option Value))(h0 : -(2^63)≤k)(h1:k < 2^63)(hsz:items.size*k.toNat≤sizeLine) :
  Meets (Builtin.«list.__mul__» ⟨[.ref l,.int k t],[]⟩) (fun _ R s=>s.heap.get? l=some { cls:=.type "list",dict:=dd,data:=.seq items n,slots:=sl } ∧
   R (.ok (.ret (.ref s.heap.objs.size))) { s with heap:=s.heap.push { cls:=.type "list",data:=.seq (List.foldl (fun x1 x2=>x1++x2) #[] (List.replicate (if items.isEmpty=true then 0 else k.toNat) items)) } }) :=
 .of_wp fun prog w A R s h=>by
  obtain⟨hp,g,d,tk,os⟩:=s;obtain⟨hl,h⟩:=h
  have f1:=AutoSeq1.idx_int;have f2:=AutoSeq1.sub_tuple_tuple;have f3:=AutoSeq1.sub_list_list
  have hs:=sizeLine_eq
  have c1:¬ items.size*k.toNat > (2^63 - 1)/8:=by omega
  have c2:¬ (!Builtin.List.listFitsIndex k)=true:=by rw[fitsIndex_both h0 h1];exact Bool.false_ne_true
  have c3:¬ Builtin.List.listTooLong (items.size*k.toNat)=true:=by rw[L2.notLongL hsz];exact Bool.false_ne_true
  have hz:=AutoListH.joined_fits c3
  wp_walk using wpAny_loadPart' hl
  rw[if_neg (Nat.not_lt.mpr hz)]
  wp_walk
  exact⟨_,rfl,h⟩
theorem j0 (a:Int)(t:Tok)(l:Addr)(items:Array Value)(n:Nat)(dd:Option Addr)(sl:Array (Option Value)) :
  Meets (Builtin.«int.__rmul__» ⟨[.int a t,.ref l],[]⟩) (fun _ R s=>s.heap.get? l=some { cls:=.type "list",dict:=dd,data:=.seq items n,slots:=sl }∧R (.ok (.ret Value.notImplemented)) s) :=
 .of_wp fun prog w A R s h=>by obtain⟨hp,g,d,tk,os⟩:=s;obtain⟨hl,h⟩:=h;wp_walk;exact⟨_,rfl,h⟩
theorem rk (l b:Addr)(items items2:Array Value)(n n2:Nat)(dd2:Option Addr)(sl2:Array (Option Value))(hsz:items.size+items2.size≤sizeLine) :
  Meets (Builtin.«list.extend» ⟨[.ref l,.ref b],[]⟩) (fun _ R s=>s.heap.get? l=some { cls:=.type "list",data:=.seq items n }∧s.heap.get? b=some { cls:=.type "list",dict:=dd2,data:=.seq items2 n2,slots:=sl2 } ∧
   R (.ok (.ret .none)) { s with heap:=s.heap.update l (Obj.mapSeq fun x=>x++items2) }) :=
 .of_wp fun prog w A R s h=>by
  obtain⟨hp,g,d,tk,os⟩:=s;obtain⟨hl,hb,h⟩:=h
  have f1:=AutoSeq1.idx_int;have f2:=AutoSeq1.sub_tuple_tuple;have f3:=AutoSeq1.sub_list_list;have f4:=AutoSeq1.sub_tuple_list;have f5:=AutoSeq1.sub_list_tuple
  have hc0:¬(!items.isEmpty&&Builtin.List.listTooLong (items.size+items2.size))=true:=by rw[L2.notLongL hsz,Bool.and_false];exact Bool.false_ne_true
  have hc1:items.size≤sizeLine:=by omega
  have hs2:items.size+items2.size≤sizeLine+1:=by omega
  have hz':(items++items2).size≤sizeLine+1:=by rw[Array.size_append];omega
  wp_walk using (wpAny_updateSeq hl rfl),wpAny_loadPart' hl,wpAny_loadPart' hb
  exact⟨_,rfl,h⟩
theorem rm (l b:Addr)(items items2:Array Value)(n n2:Nat)(dd2:Option Addr)(sl2:Array (Option Value))(hsz:items.size+items2.size≤sizeLine) :
  Meets (Builtin.«list.extend» ⟨[.ref l,.ref b],[]⟩) (fun _ R s=>s.heap.get? l=some { cls:=.type "list",data:=.seq items n }∧s.heap.get? b=some { cls:=.type "tuple",dict:=dd2,data:=.seq items2 n2,slots:=sl2 } ∧
   R (.ok (.ret .none)) { s with heap:=s.heap.update l (Obj.mapSeq fun x=>x++items2) }) :=
 .of_wp fun prog w A R s h=>by
  obtain⟨hp,g,d,tk,os⟩:=s;obtain⟨hl,hb,h⟩:=h
  have f1:=AutoSeq1.idx_int;have f2:=AutoSeq1.sub_tuple_tuple;have f3:=AutoSeq1.sub_list_list;have f4:=AutoSeq1.sub_tuple_list;have f5:=AutoSeq1.sub_list_tuple
  have hc0:¬(!items.isEmpty&&Builtin.List.listTooLong (items.size+items2.size))=true:=by rw[L2.notLongL hsz,Bool.and_false];exact Bool.false_ne_true
  have hc1:items.size≤sizeLine:=by omega
  have hs2:items.size+items2.size≤sizeLine+1:=by omega
  have hz':(items++items2).size≤sizeLine+1:=by rw[Array.size_append];omega
  wp_walk using (wpAny_updateSeq hl rfl),wpAny_loadPart' hl,wpAny_loadPart' hb
  exact⟨_,rfl,h⟩
end FF
end
noncomputable section
namespace FF
open PySem PySem.Spec PyProof.Rows L2
inductive D where
 | non | bl (b:Bool) | int (i:Int) | str (x:Str) | tup (xs:List D) | lst (xs:List D) | exc (k:Nat) | fn (k:Nat) | tab (ks:List (List Int)) (xs:List D) | dic (ks:List Key) (xs:List D) | ptr (a:Addr)
inductive R (α:Type) where
 | ok (a:α) | err (k:Nat) | stuck
def R.bind {α β:Type}(r:R α)(f:α→R β):R β:=match r with
 | .ok a=>f a
 | .err k=>.err k
 | .stuck=>.stuck
@[simp] theorem R.bind_ok {α β:Type}(a:α)(f:α→R β):(R.ok a).bind f=f a:=rfl
@[simp] theorem R.bind_err {α β:Type}(k:Nat)(f:α→R β):(R.err k:R α).bind f=.err k:=rfl
@[simp] theorem R.bind_stuck {α β:Type}(f:α→R β):(R.stuck:R α).bind f=.stuck:=rfl
def excO (C:Nat→Addr)(k:Nat)(a:Addr):HO :=
 .ext fun h=>∃ o,h.get? a=some o∧o.cls=.ref (C k)∧∃ vs,o.data=.fields vs
abbrev TKV:=List Int×Addr×V
abbrev TKU:=List Int×Addr×Value
def hashT (ks:List Int):Int:=reduceHash (Builtin.Tuple.tupleHashOf (ks.map hashInt))
def tabR (p:TKV)(q:TKU):Prop:=p.1=q.1∧p.2.1=q.2.1∧RelV p.2.2 q.2.2
def tabφ (a:Addr)(kvs:List TKV)(h:Heap):Prop:=∃ xs:List TKU,Paired tabR kvs xs∧xs.length≤sizeLine∧(a==sysModules)=false∧∃ o es ep,h.get? a=some o∧o.ExactDict∧o.data=.dict es ep ∧
 es.toList=xs.map (fun x=>(⟨hashT x.1,.ref x.2.1,x.2.2⟩:DictEntry))∧(xs.map (·.1)).Nodup
def tabO (a:Addr)(kvs:List TKV):HO:=.ext (tabφ a kvs)
mutual
def Rep (K:PySem.W.Frag)(C:Nat→Addr)(Z:Hp):D→V→Prop
 | .non,v=>v=.non
 | .bl b,v=>v=.bl b
 | .int i,v=>v=.int i
 | .str x,v=>v=.str x
 | .tup ds,v=>∃ a vs,v=.ref a∧SqT K Z a vs∧Reps K C Z ds vs
 | .lst ds,v=>∃ a vs,v=.ref a∧SqL K Z a vs∧Reps K C Z ds vs
 | .exc k,v=>∃ a,v=.ref a∧Z a=some (excO C k a)
 | .fn k,v=>v=.ref (C k)
 | .tab ks ds,v=>∃ a kvs,v=.ref a∧Z a=some (tabO a kvs)∧kvs.map (·.1)=ks∧(∀ x∈kvs,SqT K Z x.2.1 (x.1.map V.int))∧Reps K C Z ds (kvs.map (·.2.2))
 | .dic ks ds,v=>∃ a kvs,v=.ref a∧(∃ o,Z a=some (.frz o (.dK kvs)))∧kvs.map (·.1)=ks∧Reps K C Z ds (kvs.map (·.2))
 | .ptr a,v=>v=.ref a
def Reps (K:PySem.W.Frag)(C:Nat→Addr)(Z:Hp):List D→List V→Prop
 | [],vs=>vs=[]
 | d::ds,vs=>∃ v r,vs=v::r∧Rep K C Z d v∧Reps K C Z ds r
end
theorem _root_.L2.SqT.mono {K:PySem.W.Frag}{Z Z':Hp}{a:Addr}{xs:List V}(e:Same Z Z')(h:SqT K Z a xs):SqT K Z' a xs:=by
 rcases h with (h | ⟨o,h⟩) | h
 ·exact .inl (.inl (e _ _ h))
 ·exact .inl (.inr ⟨o,e _ _ h⟩)
 ·exact .inr h
section
variable {K:PySem.W.Frag}{C:Nat→Addr}{Z Z':Hp}
mutual
theorem Rep.mono (e:Same Z Z'):∀ (d:D) (v:V),Rep K C Z d v→Rep K C Z' d v
 | .non,v,h=>by rw[Rep]at h ⊢;exact h
 | .bl b,v,h=>by rw[Rep]at h ⊢;exact h
 | .int i,v,h=>by rw[Rep]at h ⊢;exact h
 | .str x,v,h=>by rw[Rep]at h ⊢;exact h
 | .fn k,v,h=>by rw[Rep]at h ⊢;exact h
 | .tup ds,v,h=>by
  rw[Rep]at h ⊢
  obtain⟨a,vs,h1,h2,h3⟩:=h
  exact⟨a,vs,h1,h2.mono e,Reps.mono e ds vs h3⟩
 | .lst ds,v,h=>by
  rw[Rep]at h ⊢
  obtain⟨a,vs,h1,h2,h3⟩:=h
  exact⟨a,vs,h1,e.seq h2,Reps.mono e ds vs h3⟩
 | .exc k,v,h=>by
  rw[Rep]at h ⊢
  obtain⟨a,h1,h2⟩:=h
  exact⟨a,h1,e _ _ h2⟩
 | .tab ks ds,v,h=>by
  rw[Rep]at h ⊢
  obtain⟨a,kvs,h1,h2,h3,h5,h4⟩:=h
  exact⟨a,kvs,h1,e _ _ h2,h3,fun x hx=>(h5 x hx).mono e,Reps.mono e ds _ h4⟩
 | .dic ks ds,v,h=>by
  rw[Rep]at h ⊢
  obtain⟨a,kvs,h1,⟨o,h2⟩,h3,h4⟩:=h
  exact⟨a,kvs,h1,⟨o,e _ _ h2⟩,h3,Reps.mono e ds _ h4⟩
 | .ptr a,v,h=>by
  rw[Rep]at h ⊢
  exact h
theorem Reps.mono (e:Same Z Z'):∀ (ds:List D) (vs:List V),Reps K C Z ds vs→Reps K C Z' ds vs
 | [],vs,h=>by rw[Reps]at h ⊢;exact h
 | d::ds,vs,h=>by
  rw[Reps]at h ⊢
  obtain⟨v,r,h1,h2,h3⟩:=h
  exact⟨v,r,h1,Rep.mono e d v h2,Reps.mono e ds r h3⟩
end
theorem Reps.nil:Reps K C Z [] []:=by rw[Reps]
theorem Reps.cons {d:D}{v:V}{ds:List D}{vs:List V}(h:Rep K C Z d v)(t:Reps K C Z ds vs):Reps K C Z (d::ds) (v::vs):=by
 rw[Reps];exact⟨v,vs,rfl,h,t⟩
theorem Reps.uncons {d:D}{v:V}{ds:List D}{vs:List V}(h:Reps K C Z (d::ds) (v::vs)):Rep K C Z d v∧Reps K C Z ds vs:=by
 rw[Reps]at h
 grind
theorem Reps.length:∀ {ds:List D} {vs:List V},Reps K C Z ds vs→ds.length=vs.length
 | [],vs,h=>by rw[Reps]at h;subst h;rfl
 | d::ds,vs,h=>by
  rw[Reps]at h
  obtain⟨v,r,e,_,h2⟩:=h
  subst e
  simp[Reps.length h2]
theorem Reps.get:∀ {ds:List D} {vs:List V} {i:Nat} {d:D},Reps K C Z ds vs→ds[i]?=some d→∃ v,vs[i]?=some v∧Rep K C Z d v
 | [],vs,i,d,h,e=>by simp at e
 | d'::ds,vs,i,d,h,e=>by
  rw[Reps]at h
  obtain⟨v,r,q,h1,h2⟩:=h
  subst q
  cases i with
  | zero=>simp at e;subst e;exact⟨v,rfl,h1⟩
  | succ i =>
   obtain⟨v',e1,h3⟩:=Reps.get h2 (by simpa using e)
   exact⟨v',by simpa using e1,h3⟩
theorem Reps.get':∀ {ds:List D} {vs:List V} {i:Nat} {v:V},Reps K C Z ds vs→vs[i]?=some v→∃ d,ds[i]?=some d∧Rep K C Z d v
 | [],vs,i,v,h,e=>by rw[Reps]at h;subst h;simp at e
 | d'::ds,vs,i,v,h,e=>by
  rw[Reps]at h
  obtain⟨v0,r,q,h1,h2⟩:=h
  subst q
  cases i with
  | zero=>simp at e;subst e;exact⟨d',rfl,h1⟩
  | succ i =>
   obtain⟨d,e1,h3⟩:=Reps.get' h2 (by simpa using e)
   exact⟨d,by simpa using e1,h3⟩
theorem Reps.append:∀ {ds es:List D} {vs us:List V},Reps K C Z ds vs→Reps K C Z es us→Reps K C Z (ds++es) (vs++us)
 | [],es,vs,us,h,h'=>by rw[Reps]at h;subst h;exact h'
 | d::ds,es,vs,us,h,h'=>by
  rw[Reps]at h
  obtain⟨v,r,q,h1,h2⟩:=h
  subst q
  exact Reps.cons h1 (Reps.append h2 h')
theorem Reps.take:∀ {ds:List D} {vs:List V} (n:Nat),Reps K C Z ds vs→Reps K C Z (ds.take n) (vs.take n)
 | [],vs,n,h=>by rw[Reps]at h;subst h;simpa using Reps.nil
 | d::ds,vs,n,h=>by
  rw[Reps]at h
  obtain⟨v,r,q,h1,h2⟩:=h
  subst q
  cases n with
  | zero=>exact Reps.nil
  | succ n=>exact Reps.cons h1 (Reps.take n h2)
theorem Reps.drop:∀ {ds:List D} {vs:List V} (n:Nat),Reps K C Z ds vs→Reps K C Z (ds.drop n) (vs.drop n)
 | [],vs,n,h=>by rw[Reps]at h;subst h;simpa using Reps.nil
 | d::ds,vs,n,h=>by
  rw[Reps]at h
  obtain⟨v,r,q,h1,h2⟩:=h
  subst q
  cases n with
  | zero=>exact Reps.cons h1 h2
  | succ n=>exact Reps.drop n h2
end
structure Ex (H Z H' Z':Hp):Prop where
 same:Same H H'
 z:Same Z Z'
 sub:Same Z' H'
 new:∀ b,Z' b≠none→Z b≠none∨H b=none
theorem Ex.refl {H Z:Hp}(s:Same Z H):Ex H Z H Z:=⟨Same.refl _,Same.refl _,s,fun _ h=>.inl h⟩
theorem Ex.trans {H Z H1 Z1 H2 Z2:Hp}(a:Ex H Z H1 Z1)(b:Ex H1 Z1 H2 Z2):Ex H Z H2 Z2 :=
 ⟨a.same.trans b.same,a.z.trans b.z,b.sub,fun c h=>(b.new c h).elim (fun h1=>a.new c h1) fun h1=>.inr (a.same.free h1)⟩
theorem ap {H:Hp}{p:Addr}{o:HO}(h:H p=none):Same H (upd H p o):=fun b u e=>by
 rw[ac (ar e h)];exact e
theorem Ex.alloc {H Z:Hp}{p:Addr}{o:HO}(s:Same Z H)(h:H p=none):Ex H Z (upd H p o) (upd Z p o):=by
 have hz:Z p=none:=s.free h
 refine⟨ap h,ap hz,fun b u e=>?_,fun b hb=>?_⟩
 ·by_cases q:b=p
  ·subst q;rw[af]at e ⊢;exact e
  ·rw[ac q]at e ⊢;exact s b u e
 ·by_cases q:b=p
  ·subst q;exact .inr h
  ·rw[ac q]at hb;exact .inl hb
theorem Ex.hidden {H Z:Hp}{p:Addr}{o:HO}(s:Same Z H)(h:H p=none):Ex H Z (upd H p o) Z :=
 ⟨ap h,Same.refl _,s.trans (ap h),fun _ hb=>.inl hb⟩
inductive Sl where
 | val (d:D) | own (ds:List D) | mat (m:List (List D)) | dic (m:List (Key×D)) | dit (m:List (List Int×D))
abbrev SS:=List (Option Sl)
structure Fx where
 K:PySem.W.Frag
 C:Nat→Addr
 H0:Hp
 Z0:Hp
 E:XK
def Rows (F:Fx)(H Z:Hp):List (List D)→List Addr→Prop
 | [],[]=>True
 | ds::m,r::rs=>(∃ vs,H r=some (.lst vs)∧Reps F.K F.C Z ds vs)∧Rows F H Z m rs
 | _,_=>False
def Pairs {κ:Type}(F:Fx)(Z:Hp)(m:List (κ×D))(kvs:List (κ×V)):Prop:=kvs.map Prod.fst=m.map Prod.fst∧Reps F.K F.C Z (m.map Prod.snd) (kvs.map Prod.snd)
def Ow (F:Fx)(H Z:Hp):Sl→V→List Addr→Prop
 | .val d,v,A=>A=[]∧Rep F.K F.C Z d v
 | .own ds,v,A=>∃ a vs,v=.ref a∧A=[a]∧H a=some (.lst vs)∧Reps F.K F.C Z ds vs
 | .mat m,v,A=>∃ a rs,v=.ref a∧A=a::rs∧H a=some (.lst (rs.map V.ref))∧Rows F H Z m rs
 | .dic m,v,A=>∃ a kvs,v=.ref a∧A=[a]∧H a=some (.dK kvs)∧Pairs F Z m kvs
 | .dit m,v,A=>∃ a kvs,v=.ref a∧A=[a]∧H a=some (tabO a kvs)∧kvs.map (·.1)=m.map (·.1)∧(∀ x∈kvs,SqT F.K Z x.2.1 (x.1.map V.int))∧Reps F.K F.C Z (m.map (·.2)) (kvs.map (·.2.2))
structure Priv (F:Fx)(Z:Hp)(A:List Addr):Prop where
 nd:A.Nodup
 z:∀ a∈A,Z a=none
 h0:∀ a∈A,F.H0 a=none
structure StOk (F:Fx)(H Z:Hp)(S:SS)(σ:St):Prop where
 ex:Ex F.H0 F.Z0 H Z
 len:S.length=σ.length
 sl:∀ (i:Nat) (x:Sl),S[i]?=some (some x)→∃ v A,σ[i]?=some (some v)∧Ow F H Z x v A∧Priv F Z A
 dj:∀ (i j:Nat) (x y:Sl) (v w:V) (A B:List Addr),i≠j→S[i]?=some (some x)→S[j]?=some (some y)→σ[i]?=some (some v)→σ[j]?=some (some w)→Ow F H Z x v A→Ow F H Z y w B→∀ a∈A,a∉B
section
variable {F:Fx}{H Z H' Z':Hp}{S:SS}{σ:St}{x:Sl}{v:V}{A B:List Addr}
theorem Rows.mono (hz:Same Z Z'):∀ {m:List (List D)} {rs:List Addr},Rows F H Z m rs→(∀ a∈rs,∀ o,H a=some o→H' a=some o)→Rows F H' Z' m rs
 | [],[],_,_=>trivial
 | ds::m,r::rs,h,k=>by
  obtain⟨⟨vs,e,q⟩,h⟩:=h
  exact⟨⟨vs,k r (.head _) _ e,q.mono hz⟩,Rows.mono hz h fun a ha=>k a (.tail _ ha)⟩
 | [],_::_,h,_=>h.elim
 | _::_,[],h,_=>h.elim
theorem Rows.there:∀ {m:List (List D)} {rs:List Addr},Rows F H Z m rs→∀ a∈rs,∃ o,H a=some o
 | [],[],_,a,ha=>nomatch ha
 | ds::m,r::rs,h,a,ha=>by
  obtain⟨⟨vs,e,q⟩,h⟩:=h
  rcases List.mem_cons.mp ha with rfl | ha
  ·exact⟨_,e⟩
  ·exact Rows.there h a ha
 | [],_::_,h,_,_=>h.elim
 | _::_,[],h,_,_=>h.elim
theorem Rows.len:∀ {m:List (List D)} {rs:List Addr},Rows F H Z m rs→rs.length=m.length
 | [],[],_=>rfl
 | ds::m,r::rs,h=>by rw[List.length_cons,List.length_cons,Rows.len h.2]
 | [],_::_,h=>h.elim
 | _::_,[],h=>h.elim
theorem mO:∀ {rs qs:List Addr},rs.map V.ref=qs.map V.ref→rs=qs
 | [],[],_=>rfl
 | r::rs,q::qs,h=>by
  rw[List.map_cons,List.map_cons]at h
  injection h with h1 h2
  injection h1 with h1
  rw[h1,mO h2]
 | [],_::_,h=>nomatch h
 | _::_,[],h=>nomatch h
theorem Ow.mono (hz:Same Z Z')(h:Ow F H Z x v A)(hs:∀ a∈A,∀ o,H a=some o→H' a=some o):Ow F H' Z' x v A:=by
 cases x with
 | val d=>exact⟨h.1,h.2.mono hz⟩
 | own ds =>
  obtain⟨a,vs,e1,e2,e3,r⟩:=h
  exact⟨a,vs,e1,e2,hs a (by grind) _ e3,r.mono hz⟩
 | mat m =>
  obtain⟨a,rs,e1,e2,e3,r⟩:=h
  exact⟨a,rs,e1,e2,hs a (by grind) _ e3,r.mono hz fun b hb=>hs b (by grind)⟩
 | dic m =>
  obtain⟨a,vs,e1,e2,e3,r⟩:=h
  exact⟨a,vs,e1,e2,hs a (by grind) _ e3,r.1,r.2.mono hz⟩
 | dit m =>
  obtain⟨a,vs,e1,e2,e3,r⟩:=h
  exact⟨a,vs,e1,e2,hs a (by grind) _ e3,r.1,fun x hx=>(r.2.1 x hx).mono hz,r.2.2.mono hz⟩
theorem Ow.det (h:Ow F H Z x v A)(h':Ow F H Z x v B):A=B:=by
 cases x with
 | val d=>rw[h.1,h'.1]
 | own ds =>
  obtain⟨a,vs,e1,e2,_⟩:=h
  obtain⟨b,us,f1,f2,_⟩:=h'
  grind
 | mat m =>
  obtain⟨a,rs,e1,e2,e3,_⟩:=h
  obtain⟨b,qs,f1,f2,f3,_⟩:=h'
  rw[e1]at f1;cases f1
  rw[e3]at f3
  injection f3 with f3
  injection f3 with f3
  rw[e2,f2,mO f3]
 | dic m =>
  obtain⟨a,vs,e1,e2,_⟩:=h
  obtain⟨b,us,f1,f2,_⟩:=h'
  grind
 | dit m =>
  obtain⟨a,vs,e1,e2,_⟩:=h
  obtain⟨b,us,f1,f2,_⟩:=h'
  grind
theorem Ow.there (h:Ow F H Z x v A):∀ a∈A,∃ o,H a=some o:=fun a ha=>by
 cases x with
 | val d=>rw[h.1]at ha;cases ha
 | own ds =>
  obtain⟨b,vs,e1,e2,e3,r⟩:=h
  grind
 | mat m =>
  obtain⟨b,rs,e1,e2,e3,r⟩:=h
  rw[e2]at ha
  rcases List.mem_cons.mp ha with rfl | ha
  ·exact⟨_,e3⟩
  ·exact r.there a ha
 | dic m =>
  obtain⟨b,vs,e1,e2,e3,r⟩:=h
  grind
 | dit m =>
  obtain⟨b,vs,e1,e2,e3,r⟩:=h
  grind
theorem StOk.sub (h:StOk F H Z S σ):Same Z H:=h.ex.sub
theorem StOk.more (h:StOk F H Z S σ)(x:Ex H Z H' Z'):StOk F H' Z' S σ:=by
 have up:∀ {y:Sl} {v:V} {A:List Addr},Ow F H Z y v A→Ow F H' Z' y v A:=fun o=>o.mono x.z fun a _ o e=>x.same _ _ e
 refine⟨h.ex.trans x,h.len,fun i y e=>?_,fun i j y z v w A B hij e1 e2 e3 e4 o1 o2=>?_⟩
 ·obtain⟨v,A,e1,o,p⟩:=h.sl i y e
  refine⟨v,A,e1,up o,p.nd,fun a ha=>?_,p.h0⟩
  cases q:Z' a with
  | none=>rfl
  | some u =>
   obtain⟨w,hw⟩:=o.there a ha
   rcases x.new a (by rw[q];simp) with z | z
   ·exact absurd (p.z a ha) z
   ·rw[hw]at z;cases z
 ·obtain⟨v',A',f1,q1,_⟩:=h.sl i y e1
  obtain⟨w',B',f2,q2,_⟩:=h.sl j z e2
  rw[e3]at f1;cases f1
  rw[e4]at f2;cases f2
  rw[o1.det (up q1),o2.det (up q2)]
  exact h.dj i j y z v w A' B' hij e1 e2 e3 e4 q1 q2
theorem StOk.val (h:StOk F H Z S σ)(i:Nat)(d:D)(e:S[i]?=some (some (.val d))):∃ v,σ[i]?=some (some v)∧Rep F.K F.C Z d v:=by
 obtain⟨v,A,e1,o,_⟩:=h.sl i _ e
 exact⟨v,e1,o.2⟩
theorem StOk.own (h:StOk F H Z S σ)(i:Nat)(ds:List D)(e:S[i]?=some (some (.own ds))):∃ a vs,σ[i]?=some (some (.ref a))∧H a=some (.lst vs)∧Z a=none∧F.H0 a=none∧Reps F.K F.C Z ds vs:=by
 obtain⟨v,A,e1,⟨a,vs,rfl,rfl,q,r⟩,p⟩:=h.sl i _ e
 exact⟨a,vs,e1,q,p.z a (.head _),p.h0 a (.head _),r⟩
theorem StOk.put (h:StOk F H Z S σ){i:Nat}(o:Ow F H Z x v A)(p:Priv F Z A)(hn:∀ (j:Nat) (y:Sl) (w:V) (B:List Addr),j≠i→S[j]?=some (some y)→σ[j]?=some (some w)→Ow F H Z y w B→∀ a∈A,a∉B) :
  StOk F H Z (S.set i (some x)) (σ.set i (some v)):=by
 have self:∀ {y:Option Sl},(S.set i (some x))[i]?=some y→y=some x∧i < S.length:=fun {y} e=>by
  by_cases hl:i < S.length
  ·rw[List.getElem?_set_self hl]at e;cases e;exact⟨rfl,hl⟩
  ·rw[List.getElem?_eq_none (by simpa using hl)]at e;cases e
 refine⟨h.ex,by simp[h.len],fun j y e=>?_,fun j k y z w u A' B' hjk e1 e2 e3 e4 o1 o2=>?_⟩
 ·by_cases q:i=j
  ·subst q
   obtain⟨z,hl⟩:=self e
   cases z
   exact⟨v,A,by rw[List.getElem?_set_self (by rw[← h.len];exact hl)],o,p⟩
  ·rw[List.getElem?_set_ne q]at e ⊢
   exact h.sl j y e
 ·by_cases q:i=j
  ·have q2:i≠k:=fun z=>hjk (q ▸ z)
   subst q
   obtain⟨z,hl⟩:=self e1
   cases z
   rw[List.getElem?_set_self (by rw[← h.len];exact hl)]at e3
   cases e3
   rw[List.getElem?_set_ne q2]at e2 e4
   rw[o1.det o]
   exact hn k _ _ _ (Ne.symm q2) e2 e4 o2
  ·rw[List.getElem?_set_ne q]at e1 e3
   by_cases q2:i=k
   ·subst q2
    obtain⟨z,hl⟩:=self e2
    cases z
    rw[List.getElem?_set_self (by rw[← h.len];exact hl)]at e4
    cases e4
    rw[o2.det o]
    exact fun a ha hb=>hn j _ _ _ (Ne.symm q) e1 e3 o1 a hb ha
   ·rw[List.getElem?_set_ne q2]at e2 e4
    exact h.dj j k _ _ _ _ _ _ hjk e1 e2 e3 e4 o1 o2
theorem Priv.nil:Priv F Z []:=⟨List.Pairwise.nil,(fun _ h=>nomatch h),(fun _ h=>nomatch h)⟩
theorem StOk.setVal (h:StOk F H Z S σ){i:Nat}{d:D}{v:V}(r:Rep F.K F.C Z d v):StOk F H Z (S.set i (some (.val d))) (σ.set i (some v)) :=
 h.put ⟨rfl,r⟩ Priv.nil fun _ _ _ _ _ _ _ _ _ ha=>nomatch ha
theorem StOk.putNew (h:StOk F H Z S σ){i:Nat}(e:Ex H Z H' Z')(o:Ow F H' Z' x v A)(p:Priv F Z' A)(hn:∀ a∈A,H a=none):StOk F H' Z' (S.set i (some x)) (σ.set i (some v)):=by
 refine(h.more e).put o p fun j y w B hj e1 e2 o2 a ha hb=>?_
 obtain⟨w',B',f1,q,_⟩:=h.sl j y e1
 rw[e2]at f1;cases f1
 rw[o2.det (q.mono e.z fun a _ o e'=>e.same _ _ e')]at hb
 obtain⟨u,hu⟩:=q.there a hb
 rw[hn a ha]at hu;cases hu
theorem StOk.newOwn (h:StOk F H Z S σ){i:Nat}{a:Addr}{ds:List D}{vs:List V}(hp:H a=none)(r:Reps F.K F.C Z ds vs):StOk F (upd H a (.lst vs)) Z (S.set i (some (.own ds))) (σ.set i (some (.ref a))) :=
 h.putNew (Ex.hidden h.sub hp) ⟨a,vs,rfl,rfl,af,r⟩ ⟨by simp,fun b hb=>by cases List.mem_singleton.mp hb;exact h.sub.free hp,fun b hb=>by cases List.mem_singleton.mp hb;exact h.ex.same.free hp⟩ fun b hb=>by cases List.mem_singleton.mp hb;exact hp
theorem StOk.rewr (h:StOk F H Z S σ){i:Nat}{x':Sl}(e:S[i]?=some (some x))(ev:σ[i]?=some (some v))(o:Ow F H Z x v A)(o':Ow F H' Z x' v A)(hH:∀ b,b∉A→H' b=H b):StOk F H' Z (S.set i (some x')) σ:=by
 have hl:=(List.getElem?_eq_some_iff.mp e).1
 obtain⟨v',A',f1,q1,p⟩:=h.sl i x e
 rw[ev]at f1;cases f1
 cases o.det q1
 have up:∀ {j:Nat} {y:Sl} {w:V} {B:List Addr},j≠i→S[j]?=some (some y)→σ[j]?=some (some w)→Ow F H Z y w B→Ow F H' Z y w B:=fun {j y w B} hj e1 e2 q=>q.mono (Same.refl _) fun b hb u eu=>by
  rw[hH b (h.dj j i y x w v B A hj e1 e e2 ev q o b hb)];exact eu
 refine⟨⟨fun b u q=>?_,h.ex.z,fun b u q=>?_,h.ex.new⟩,by simp[h.len],fun j y q=>?_,fun j k y z w u A' B' hjk e1 e2 e3 e4 o1 o2=>?_⟩
 ·rw[hH b fun z=>by rw[p.h0 b z]at q;cases q];exact h.ex.same b u q
 ·rw[hH b fun z=>by rw[p.z b z]at q;cases q];exact h.ex.sub b u q
 ·by_cases z:i=j
  ·subst z
   rw[List.getElem?_set_self hl]at q;cases q
   exact⟨v,A,ev,o',p⟩
  ·rw[List.getElem?_set_ne z]at q
   obtain⟨w,B,g1,g2,g3⟩:=h.sl j y q
   exact⟨w,B,g1,up (Ne.symm z) q g1 g2,g3⟩
 ·have one:∀ {j:Nat} {y:Sl} {w:V} {B:List Addr},(S.set i (some x'))[j]?=some (some y)→σ[j]?=some (some w)→Ow F H' Z y w B→∃ y0,S[j]?=some (some y0)∧Ow F H Z y0 w B:=fun {j y w B} g1 g2 g3=>by
   by_cases z:i=j
   ·subst z
    rw[List.getElem?_set_self hl]at g1;cases g1
    rw[ev]at g2;cases g2
    rw[g3.det o']
    exact⟨x,e,o⟩
   ·rw[List.getElem?_set_ne z]at g1
    obtain⟨w',B',k1,k2,_⟩:=h.sl j y g1
    rw[g2]at k1;cases k1
    rw[g3.det (up (Ne.symm z) g1 g2 k2)]
    exact⟨y,g1,k2⟩
  obtain⟨y0,a1,a2⟩:=one e1 e3 o1
  obtain⟨z0,b1,b2⟩:=one e2 e4 o2
  exact h.dj j k y0 z0 w u A' B' hjk a1 b1 e3 e4 a2 b2
theorem StOk.write (h:StOk F H Z S σ){i:Nat}{ds es:List D}{a:Addr}{us:List V}(e:S[i]?=some (some (.own ds)))(ha:σ[i]?=some (some (.ref a)))(r:Reps F.K F.C Z es us) :
  StOk F (upd H a (.lst us)) Z (S.set i (some (.own es))) σ:=by
 obtain⟨a',vs,e1,e2,e3,e4,r0⟩:=h.own i ds e
 rw[ha]at e1;cases e1
 exact h.rewr e ha ⟨a,vs,rfl,rfl,e2,r0⟩ ⟨a,us,rfl,rfl,af,r⟩ fun b hb=>ac fun z=>hb (by rw[z];exact .head _)
theorem StOk.frzAllH {F:Fx}{H Z H' Z':Hp}{S:SS}{ρ:St}{x:Sl}{v:V}{A:List Addr}{d:D}(h:StOk F H Z S ρ){i:Nat}(e:S[i]?=some (some x))(ev:ρ[i]?=some (some v))(o:Ow F H Z x v A)(hH:∀ b,b∉A→H' b=H b)(hz:Same Z Z')(hsub:Same Z' H')(hnew:∀ b,Z' b≠none→Z b≠none∨b∈A)(r:Rep F.K F.C Z' d v):StOk F H' Z' (S.set i (some (.val d))) ρ:=by
 have hl:=(List.getElem?_eq_some_iff.mp e).1
 obtain⟨v',A',f1,q1,p⟩:=h.sl i x e
 rw[ev]at f1;cases f1
 cases o.det q1
 have up:∀ {j:Nat} {y:Sl} {w:V} {B:List Addr},j≠i→S[j]?=some (some y)→ρ[j]?=some (some w)→Ow F H Z y w B→Ow F H' Z' y w B:=fun {j y w B} hj e1 e2 q=>q.mono hz fun b hb u eu=>by
  rw[hH b (h.dj j i y x w v B A hj e1 e e2 ev q o b hb)];exact eu
 refine⟨⟨fun b u q=>?_,h.ex.z.trans hz,hsub,fun b q=>?_⟩,by simp[h.len],fun j y q=>?_,fun j k y z w u A' B' hjk e1 e2 e3 e4 o1 o2=>?_⟩
 ·rw[hH b fun z=>by rw[p.h0 b z]at q;cases q];exact h.ex.same b u q
 ·rcases hnew b q with z | z
  ·exact h.ex.new b z
  ·exact .inr (p.h0 b z)
 ·by_cases z:i=j
  ·subst z
   rw[List.getElem?_set_self hl]at q;cases q
   exact⟨v,[],ev,⟨rfl,r⟩,Priv.nil⟩
  ·rw[List.getElem?_set_ne z]at q
   obtain⟨w,B,g1,g2,g3⟩:=h.sl j y q
   refine⟨w,B,g1,up (Ne.symm z) q g1 g2,g3.nd,fun b hb=>?_,g3.h0⟩
   cases qz:Z' b with
   | none=>rfl
   | some u =>
    rcases hnew b (by rw[qz];simp) with y1 | y1
    ·exact absurd (g3.z b hb) y1
    ·exact absurd y1 (h.dj j i _ _ _ _ _ _ (Ne.symm z) q e g1 ev g2 o b hb)
 ·have one:∀ {j:Nat} {y:Sl} {w:V} {B:List Addr},(S.set i (some (.val d)))[j]?=some (some y)→ρ[j]?=some (some w)→Ow F H' Z' y w B→B=[]∨(j≠i∧S[j]?=some (some y)∧Ow F H Z y w B):=fun {j y w B} g1 g2 g3=>by
   by_cases z:i=j
   ·subst z
    rw[List.getElem?_set_self hl]at g1;cases g1
    exact .inl g3.1
   ·rw[List.getElem?_set_ne z]at g1
    obtain⟨w',B',k1,k2,_⟩:=h.sl j y g1
    rw[g2]at k1;cases k1
    rw[g3.det (up (Ne.symm z) g1 g2 k2)]
    exact .inr ⟨Ne.symm z,g1,k2⟩
  rcases one e1 e3 o1 with z1 | ⟨_,z1,z2⟩
  ·rw[z1];exact fun a ha=>nomatch ha
  ·rcases one e2 e4 o2 with y1 | ⟨_,y1,y2⟩
   ·rw[y1];exact fun a _ ha=>nomatch ha
   ·exact h.dj j k _ _ _ _ _ _ hjk z1 y1 e3 e4 z2 y2
theorem StOk.frzAll (h:StOk F H Z S σ){i:Nat}{d:D}(e:S[i]?=some (some x))(ev:σ[i]?=some (some v))(o:Ow F H Z x v A)(hz:Same Z Z')(hsub:Same Z' H)(hnew:∀ b,Z' b≠none→Z b≠none∨b∈A)(r:Rep F.K F.C Z' d v):StOk F H Z' (S.set i (some (.val d))) σ:=h.frzAllH e ev o (fun _ _=>rfl) hz hsub hnew r
theorem StOk.freeze (h:StOk F H Z S σ){i:Nat}{ds:List D}(e:S[i]?=some (some (.own ds))):∃ Z',Same Z Z'∧StOk F H Z' (S.set i (some (.val (.lst ds)))) σ:=by
 obtain⟨a,vs,e1,e2,e3,e4,r⟩:=h.own i ds e
 have hz:Same Z (upd Z a (.lst vs)):=ap e3
 refine⟨upd Z a (.lst vs),hz,h.frzAll e e1 ⟨a,vs,rfl,rfl,e2,r⟩ hz (fun b o q=>?_) (fun b q=>?_) (by rw[Rep];exact⟨a,vs,rfl,SqL.of af,r.mono hz⟩)⟩
 ·by_cases y:b=a
  ·subst y;rw[af]at q;cases q;exact e2
  ·rw[ac y]at q;exact h.ex.sub b o q
 ·by_cases y:b=a
  ·exact .inr (by rw[y];exact .head _)
  ·rw[ac y]at q;exact .inl q
end
theorem tu {F G:Fx}{H Z:Hp}(hK:G.K=F.K:=by rfl)(hC:G.C=F.C:=by rfl):∀ {m:List (List D)} {rs:List Addr},Rows F H Z m rs→Rows G H Z m rs
 | [],[],_=>trivial
 | ds::m,r::rs,h=>by
  obtain⟨⟨vs,e,q⟩,h⟩:=h
  exact⟨⟨vs,e,by rw[hK,hC];exact q⟩,tu hK hC h⟩
 | [],_::_,h=>h.elim
 | _::_,[],h=>h.elim
theorem ow_K {F G:Fx}{H Z:Hp}{x:Sl}{v:V}{A:List Addr}(h:Ow F H Z x v A)(hK:G.K=F.K:=by rfl)(hC:G.C=F.C:=by rfl):Ow G H Z x v A:=by
 cases x with
 | val d=>exact⟨h.1,by rw[hK,hC];exact h.2⟩
 | own ds=>obtain⟨a,vs,e1,e2,e3,r⟩:=h;exact⟨a,vs,e1,e2,e3,by rw[hK,hC];exact r⟩
 | mat m=>obtain⟨a,rs,e1,e2,e3,r⟩:=h;exact⟨a,rs,e1,e2,e3,tu hK hC r⟩
 | dic m=>obtain⟨a,vs,e1,e2,e3,r⟩:=h;exact⟨a,vs,e1,e2,e3,r.1,by rw[hK,hC];exact r.2⟩
 | dit m=>obtain⟨a,vs,e1,e2,e3,r⟩:=h;exact⟨a,vs,e1,e2,e3,r.1,by rw[hK];exact r.2.1,by rw[hK,hC];exact r.2.2⟩
def WG {α:Type}(F:Fx)(H Z:Hp)(r:R α)(P:α→Hp→Hp→Prop):Prop:=match r with
 | .ok a=>∀ H' Z',Ex H Z H' Z'→P a H' Z'
 | .err k=>∀ H',Same H H'→F.E (.ref (F.C k)) none H'
 | .stuck=>False
section
variable {α:Type}{F:Fx}{H Z H1 Z1:Hp}{r:R α}{P P':α→Hp→Hp→Prop}
theorem WG.more (w:WG F H Z r P)(x:Ex H Z H1 Z1):WG F H1 Z1 r P:=by
 cases r with
 | ok a=>exact fun H' Z' y=>w H' Z' (x.trans y)
 | err k=>exact fun H' y=>w H' (x.same.trans y)
 | stuck=>exact w
theorem WG.now {a:α}(w:WG F H Z (.ok a) P)(s:Same Z H):P a H Z:=w H Z (Ex.refl s)
end
def tE (F:Fx)(g:SS→R D):TE:=fun σ H Q=>∃ Z S,StOk F H Z S σ∧WG F H Z (g S) fun d H' Z'=>∀ v,Rep F.K F.C Z' d v→Q v H'
def tT (F:Fx)(g:SS→R Bool):TT:=fun σ H Q=>∃ Z S,StOk F H Z S σ∧WG F H Z (g S) fun b H' _=>Q b H'
def tAl (F:Fx)(g:SS→R (List D)):TA:=fun σ H Q=>∃ Z S,StOk F H Z S σ∧WG F H Z (g S) fun ds H' Z'=>∀ vs,Reps F.K F.C Z' ds vs→Q vs H'
inductive O where
 | nx (S:SS) | rt (d:D) | er (k:Nat) | bk (S:SS) | ct (S:SS) | stuck
def WO (F:Fx)(Z:Hp)(o:O)(D:Ends):Prop:=match o with
 | .nx S=>∀ σ H Z',Same Z Z'→StOk F H Z' S σ→D.nx σ H
 | .rt d=>∀ v H Z',Ex F.H0 F.Z0 H Z'→Rep F.K F.C Z' d v→D.rt v H
 | .er k=>∀ H,Same F.H0 H→F.E (.ref (F.C k)) none H
 | .bk S=>∀ σ H Z',Same Z Z'→StOk F H Z' S σ→D.bk σ H
 | .ct S=>∀ σ H Z',Same Z Z'→StOk F H Z' S σ→D.ct σ H
 | .stuck=>False
theorem WO.more {F:Fx}{Z Z1:Hp}{o:O}{D:Ends}(w:WO F Z o D)(z:Same Z Z1):WO F Z1 o D:=by
 cases o with
 | nx S=>exact fun σ H Z' q=>w σ H Z' (z.trans q)
 | rt d=>exact w
 | er k=>exact w
 | bk S=>exact fun σ H Z' q=>w σ H Z' (z.trans q)
 | ct S=>exact fun σ H Z' q=>w σ H Z' (z.trans q)
 | stuck=>exact w
def tS (F:Fx)(g:SS→O):TS:=fun D σ H=>∃ Z S,StOk F H Z S σ∧WO F Z (g S) D
abbrev FE (X:Cx)(F:Fx)(e:Expr)(g:SS→R D):Prop:=PE X e (tE F g)
abbrev FT (X:Cx)(F:Fx)(e:Expr)(g:SS→R Bool):Prop:=PT X e (tT F g)
abbrev FW (X:Cx)(F:Fx)(e:Expr)(g:SS→R Bool):Prop:=PW X e (tT F g)
abbrev FA (X:Cx)(F:Fx)(es:List Expr)(g:SS→R (List D)):Prop:=PA X es (tAl F g)
abbrev FS (X:Cx)(F:Fx)(st:Stmt)(g:SS→O):Prop:=PS X st (tS F g)
abbrev FSs (X:Cx)(F:Fx)(sts:List Stmt)(g:SS→O):Prop:=PSs X sts (tS F g)
theorem _root_.L2.PE.weak {X:Cx}{e:Expr}{t t':TE}(h:PE X e t)(w:∀ σ H Q,t' σ H Q→t σ H Q):PE X e t':=fun pins s σ H Q I q=>h pins s σ H Q I (w σ H Q q)
theorem _root_.L2.PT.weak {X:Cx}{e:Expr}{t t':TT}(h:PT X e t)(w:∀ σ H Q,t' σ H Q→t σ H Q):PT X e t':=fun pins s σ H Q I q=>h pins s σ H Q I (w σ H Q q)
theorem _root_.L2.PW.weak {X:Cx}{e:Expr}{t t':TT}(h:PW X e t)(w:∀ σ H Q,t' σ H Q→t σ H Q):PW X e t':=fun wh pins s σ H Q I q=>h wh pins s σ H Q I (w σ H Q q)
theorem _root_.L2.PA.weak {X:Cx}{e:List Expr}{t t':TA}(h:PA X e t)(w:∀ σ H Q,t' σ H Q→t σ H Q):PA X e t':=fun p pins s σ H Q I q=>h p pins s σ H Q I (w σ H Q q)
theorem _root_.L2.PS.weak {X:Cx}{e:Stmt}{t t':TS}(h:PS X e t)(w:∀ D σ H,t' D σ H→t D σ H):PS X e t':=fun pins s σ H D I q=>h pins s σ H D I (w D σ H q)
theorem _root_.L2.PSs.weak {X:Cx}{e:List Stmt}{t t':TS}(h:PSs X e t)(w:∀ D σ H,t' D σ H→t D σ H):PSs X e t':=fun pins s σ H D I q=>h pins s σ H D I (w D σ H q)
section
variable {F:Fx}{σ:St}{H Z:Hp}{S:SS}
theorem ah {α:Type}{g:SS→R D}{k:D→R α}{P:α→Hp→Hp→Prop}{Q:VK}(ok:StOk F H Z S σ)(w:WG F H Z ((g S).bind k) P)
  (h:∀ d v H1 Z1,StOk F H1 Z1 S σ→Ex H Z H1 Z1→Rep F.K F.C Z1 d v→WG F H1 Z1 (k d) P→Q v H1):tE F g σ H Q:=by
 refine⟨Z,S,ok,?_⟩
 cases e:g S with
 | ok d =>
  rw[e]at w
  intro H1 Z1 x v r
  exact h d v H1 Z1 (ok.more x) x r (WG.more w x)
 | err k=>rw[e]at w;exact w
 | stuck=>rw[e]at w;exact w
theorem iC {α:Type}{g:SS→R Bool}{k:Bool→R α}{P:α→Hp→Hp→Prop}{Q:Bool→Hp→Prop}(ok:StOk F H Z S σ)(w:WG F H Z ((g S).bind k) P)
  (h:∀ b H1 Z1,StOk F H1 Z1 S σ→Ex H Z H1 Z1→WG F H1 Z1 (k b) P→Q b H1):tT F g σ H Q:=by
 refine⟨Z,S,ok,?_⟩
 cases e:g S with
 | ok d =>
  rw[e]at w
  intro H1 Z1 x
  exact h d H1 Z1 (ok.more x) x (WG.more w x)
 | err k=>rw[e]at w;exact w
 | stuck=>rw[e]at w;exact w
theorem aw {α:Type}{g:SS→R (List D)}{k:List D→R α}{P:α→Hp→Hp→Prop}{Q:List V→Hp→Prop}(ok:StOk F H Z S σ)(w:WG F H Z ((g S).bind k) P)
  (h:∀ ds vs H1 Z1,StOk F H1 Z1 S σ→Ex H Z H1 Z1→Reps F.K F.C Z1 ds vs→WG F H1 Z1 (k ds) P→Q vs H1):tAl F g σ H Q:=by
 refine⟨Z,S,ok,?_⟩
 cases e:g S with
 | ok d =>
  rw[e]at w
  intro H1 Z1 x v r
  exact h d v H1 Z1 (ok.more x) x r (WG.more w x)
 | err k=>rw[e]at w;exact w
 | stuck=>rw[e]at w;exact w
end
def eVar (i:Nat):SS→R D:=fun S=>match S[i]? with
 | some (some (.val d))=>.ok d
 | _=>.stuck
def eC (d:D):SS→R D:=fun _=>.ok d
section
variable {X:Cx}{F:Fx}{e a b:Expr}{g ga gb:SS→R D}{pos:Pos}
theorem cZ {v:V}{d:D}(h:PE X e (tC v))(r:∀ Z,Rep F.K F.C Z d v):FE X F e (eC d):=h.weak fun σ H Q ⟨Z,S,ok,w⟩=>WG.now w ok.sub v (r Z)
theorem ae {i j pos}:FE X F (.Constant (.int i) j pos) (eC (.int i)):=cZ xX fun _=>by rw[Rep]
theorem mP {b j pos}:FE X F (.Constant (.bool b) j pos) (eC (.bl b)):=cZ zr fun _=>by rw[Rep]
theorem bG {x j pos}:FE X F (.Constant (.str x) j pos) (eC (.str x)):=cZ xY fun _=>by rw[Rep]
theorem aa (i:Nat){x:Str}{pos:Pos}(hN:X.N[i]?=some x:=by rfl)(hv:Vis X.env.scope x:=by first | exact Or.inl rfl | exact Or.inr (Or.inl rfl) | exact Or.inr (Or.inr rfl))(hd:(x==("__debug__":Str))=false:=by decide)
  (hcd:(x==("__classdict__":Str))=false:=by decide):FE X F (.Name x pos) (eVar i):=(cG hN hv hd hcd).weak fun σ H Q ⟨Z,S,ok,w⟩=>by
 unfold eVar at w
 split at w
 ·rename_i d e
  obtain⟨v,e1,r⟩:=ok.val i d e
  exact⟨v,e1,WG.now w ok.sub v r⟩
 ·exact w.elim
end
def OpD (F:Fx)(r:R2)(f:D→D→R D):Prop:=∀ (H Z:Hp) (x y:V) (dx dy:D) (Q:VK),Same Z H→Rep F.K F.C Z dx x→Rep F.K F.C Z dy y →
 WG F H Z (f dx dy) (fun d H' Z'=>∀ v,Rep F.K F.C Z' d v→Q v H')→r x y H Q
def eOp (f:D→D→R D)(ga gb:SS→R D):SS→R D:=fun S=>(ga S).bind fun x=>(gb S).bind fun y=>f x y
section
variable {X:Cx}{F:Fx}{e a b c:Expr}{ga gb gc:SS→R D}{pos:Pos}{r:R2}{f:D→D→R D}
theorem lH (hd:OpD F r f):∀ σ H Q,tE F (eOp f ga gb) σ H Q→tOp r (tE F ga) (tE F gb) σ H Q:=fun σ H Q ⟨Z,S,ok,w⟩ =>
 ah ok w fun dx x H1 Z1 ok1 x1 rx w1=>ah ok1 w1 fun dy y H2 Z2 ok2 x2 ry w2=>hd H2 Z2 x y dx dy Q ok2.sub (rx.mono x2.z) ry w2
theorem mQ {op:Operator}(ho:OpR X (binaryOp op) r)(hd:OpD F r f)(ha:FE X F a ga)(hb:FE X F b gb):FE X F (.BinOp a op b pos) (eOp f ga gb):=(zu ho ha hb).weak (lH hd)
theorem tz {op:CmpOp}(ho:OpR X (compareOp op) r)(hd:OpD F r f)(ha:FE X F a ga)(hb:FE X F b gb)(hm:behindInMarks op b=false:=by first | exact nomark _ | rfl):FE X F (.Compare a [op] [b] pos) (eOp f ga gb) :=
 (pJ ho ha hb hm).weak (lH hd)
theorem zx (ho:IxR X r)(hd:OpD F r f)(ha:FE X F a ga)(hb:FE X F b gb)(hs:PlainIx b:=by intro _ _;rfl):FE X F (.Subscript a b pos) (eOp f ga gb):=(xM ho ha hb hs).weak (lH hd)
def asB (r:R D):R Bool:=r.bind fun d=>match d with
 | .bl b=>.ok b
 | _=>.stuck
def gB (g:SS→R D):SS→R Bool:=fun S=>asB (g S)
theorem pP {t:TE}{g:SS→R D}(h:∀ σ H Q,tE F g σ H Q→t σ H Q):∀ σ H Q,tT F (gB g) σ H Q→tTest t σ H Q:=fun σ H Q ⟨Z,S,ok,w⟩=>by
 refine h σ H _ (ah ok w fun d v H1 Z1 ok1 x1 rv w1=>?_)
 cases d with
 | bl b=>rw[Rep]at rv;exact⟨b,rv,WG.now w1 ok1.sub⟩
 | _=>exact w1.elim
theorem bH {g:SS→R D}(h:FE X F e g)(he:∀ whole,isTrue e X.env whole=(do let v ← whole;standAt e.pos;holding [v] (truthy v)):=by intro _;rfl):FT X F e (gB g) :=
 (yb h he).weak (pP fun _ _ _ q=>q)
theorem lI {op:CmpOp}(ho:OpR X (compareOp op) r)(hd:OpD F r f)(ha:FE X F a ga)(hb:FE X F b gb)(hm:behindInMarks op b=false:=by first | exact nomark _ | rfl):FT X F (.Compare a [op] [b] pos) (gB (eOp f ga gb)) :=
 (vx ho ha hb hm).weak (pP (lH hd))
end
def gAnd (a b:SS→R Bool):SS→R Bool:=fun S=>(a S).bind fun c=>if c=true then b S else .ok false
def gOr (a b:SS→R Bool):SS→R Bool:=fun S=>(a S).bind fun c=>if c=true then .ok true else b S
def gNot (a:SS→R Bool):SS→R Bool:=fun S=>(a S).bind fun c=>.ok (!c)
section
variable {X:Cx}{F:Fx}{e a b c:Expr}{rest:List Expr}{ta tb tc:SS→R Bool}{ga gb:SS→R D}{pos:Pos}
theorem lJ (h:FT X F a ta):FW X F (.BoolOp .And [a] pos) ta:=vt h
theorem gA (h:FT X F a ta):FW X F (.BoolOp .Or [a] pos) ta:=yc h
theorem ou (ha:FT X F a ta)(hb:FW X F (.BoolOp .And (b::rest) pos) tb):FW X F (.BoolOp .And (a::b::rest) pos) (gAnd ta tb) :=
 (ye ha hb).weak fun σ H Q ⟨Z,S,ok,w⟩=>iC ok w fun d H1 Z1 ok1 x1 w1=>by
  cases d with
  | true=>exact⟨Z1,S,ok1,w1⟩
  | false=>exact WG.now w1 ok1.sub
theorem kJ (ha:FT X F a ta)(hb:FW X F (.BoolOp .Or (b::rest) pos) tb):FW X F (.BoolOp .Or (a::b::rest) pos) (gOr ta tb) :=
 (zt ha hb).weak fun σ H Q ⟨Z,S,ok,w⟩=>iC ok w fun d H1 Z1 ok1 x1 w1=>by
  cases d with
  | true=>exact WG.now w1 ok1.sub
  | false=>exact⟨Z1,S,ok1,w1⟩
theorem ft_w (h:FW X F e ta):FT X F e ta:=h.pt
theorem bb (h:FT X F a ta):FT X F (.UnaryOp .Not a pos) (gNot ta) :=
 (yf h).weak fun σ H Q ⟨Z,S,ok,w⟩=>iC ok w fun d H1 Z1 ok1 x1 w1=>WG.now w1 ok1.sub
theorem gC {op}(h:FE X F a ga):FE X F (.BoolOp op [a] pos) ga:=yg h
def eAnd (a b:SS→R D):SS→R D:=fun S=>(asB (a S)).bind fun c=>if c=true then b S else .ok (.bl false)
def eNot (a:SS→R D):SS→R D:=fun S=>(asB (a S)).bind fun c=>.ok (.bl (!c))
theorem tF {α:Type}{σ:St}{H Z:Hp}{S:SS}{g:SS→R D}{k:Bool→R α}{P:α→Hp→Hp→Prop}{Q:VK}(ok:StOk F H Z S σ)(w:WG F H Z ((asB (g S)).bind k) P)
  (h:∀ c H1 Z1,StOk F H1 Z1 S σ→Ex H Z H1 Z1→WG F H1 Z1 (k c) P→Q (.bl c) H1):tE F g σ H Q:=by
 have e:(asB (g S)).bind k=(g S).bind fun d=>(match d with | .bl b=>R.ok b | _=>R.stuck).bind k:=by
  unfold asB;cases g S<;>rfl
 rw[e]at w
 refine ah ok w fun d v H1 Z1 ok1 x1 rv w1=>?_
 cases d with
 | bl b=>rw[Rep]at rv;subst rv;exact h b H1 Z1 ok1 x1 w1
 | _=>exact w1.elim
theorem eT (ha:FE X F a ga)(hb:FE X F (.BoolOp .And (b::rest) pos) gb):FE X F (.BoolOp .And (a::b::rest) pos) (eAnd ga gb) :=
 (yh ha hb).weak fun σ H Q ⟨Z,S,ok,w⟩=>tF ok w fun c H1 Z1 ok1 x1 w1=>⟨c,rfl,by
  cases c with
  | true=>exact⟨Z1,S,ok1,w1⟩
  | false=>exact WG.now w1 ok1.sub _ (by rw[Rep])⟩
theorem yB (ha:FE X F a ga):FE X F (.UnaryOp .Not a pos) (eNot ga) :=
 (yi ha).weak fun σ H Q ⟨Z,S,ok,w⟩=>tF ok w fun c H1 Z1 ok1 x1 w1=>⟨c,rfl,WG.now w1 ok1.sub _ (by rw[Rep])⟩
end
def aNil:SS→R (List D):=fun _=>.ok []
def aCons (g:SS→R D)(gs:SS→R (List D)):SS→R (List D):=fun S=>(g S).bind fun d=>(gs S).bind fun ds=>.ok (d::ds)
def eTup (gs:SS→R (List D)):SS→R D:=fun S=>(gs S).bind fun ds=>if ds.length≤16777216 then .ok (.tup ds) else .stuck
def eLst (gs:SS→R (List D)):SS→R D:=fun S=>(gs S).bind fun ds=>if ds.length≤16777216 then .ok (.lst ds) else .stuck
section
variable {X:Cx}{F:Fx}{e:Expr}{es:List Expr}{g:SS→R D}{gs:SS→R (List D)}{pos:Pos}
theorem yC:FA X F [] aNil:=cH.weak fun σ H Q ⟨Z,S,ok,w⟩=>WG.now w ok.sub [] Reps.nil
theorem vK (ha:FE X F e g)(hr:FA X F es gs)(hs:starEach (e::es) X.env=(false,eval e X.env)::starEach es X.env:=by rfl):FA X F (e::es) (aCons g gs) :=
 (aH ha hr hs).weak fun σ H Q ⟨Z,S,ok,w⟩=>ah ok w fun d v H1 Z1 ok1 x1 rv w1=>aw ok1 w1 fun ds vs H2 Z2 ok2 x2 rs w2=>WG.now w2 ok2.sub _ (Reps.cons (rv.mono x2.z) rs)
theorem yD {x1}(h:FA X F es gs):FE X F (.Tuple es x1 pos) (eTup gs) :=
 (sX h).weak fun σ H Q ⟨Z,S,ok,w⟩=>aw ok w fun ds vs H1 Z1 ok1 x1 rs w1=>by
  split at w1
  ·rename_i hl
   refine⟨by rw[← rs.length,sizeLine_eq];exact hl,fun p hp=>?_⟩
   have z:Same Z1 (upd Z1 p (.tup vs)):=ap (ok1.sub.free hp)
   exact w1 _ _ (Ex.alloc ok1.sub hp) _ (by rw[Rep];exact⟨p,vs,rfl,SqT.of af,rs.mono z⟩)
  ·exact w1.elim
theorem yE (h:FA X F es gs):FE X F (.List es pos) (eLst gs) :=
 (oj h).weak fun σ H Q ⟨Z,S,ok,w⟩=>aw ok w fun ds vs H1 Z1 ok1 x1 rs w1=>by
  split at w1
  ·rename_i hl
   refine⟨by rw[← rs.length,sizeLine_eq];exact hl,fun p hp=>?_⟩
   have z:Same Z1 (upd Z1 p (.lst vs)):=ap (ok1.sub.free hp)
   exact w1 _ _ (Ex.alloc ok1.sub hp) _ (by rw[Rep];exact⟨p,vs,rfl,SqL.of af,rs.mono z⟩)
  ·exact w1.elim
end
def rO (r:R O):O:=match r with
 | .ok o=>o
 | .err k=>.er k
 | .stuck=>.stuck
def sDrop (g:SS→R D):SS→O:=fun S=>rO ((g S).bind fun _=>.ok (.nx S))
def sRet (g:SS→R D):SS→O:=fun S=>rO ((g S).bind fun d=>.ok (.rt d))
def sSet (i:Nat)(g:SS→R D):SS→O:=fun S=>rO ((g S).bind fun d=>.ok (.nx (S.set i (some (.val d)))))
section
variable {X:Cx}{F:Fx}{st:Stmt}{rest:List Stmt}{e c:Expr}{g:SS→R D}{gt:SS→R Bool}{ga gb:SS→O}{pos:Pos}
theorem WO.wg {D:Ends}{r:R O}{H Z:Hp}{S:SS}{σ:St}(ok:StOk F H Z S σ)(w:WO F Z (rO r) D):WG F H Z r fun o _ Z'=>WO F Z' o D:=by
 cases r with
 | ok o=>exact fun _ _ x=>WO.more w x.z
 | err k=>exact fun H' s=>w H' (ok.ex.same.trans s)
 | stuck=>exact w
theorem iD (h:FE X F e g)(hs:swapsWith e none pos.line X.env=pure false:=by rfl):FS X F (.Expr e pos) (sDrop g) :=
 (fk h hs).weak fun D σ H ⟨Z,S,ok,w⟩=>ah ok (WO.wg ok w) fun d v H1 Z1 ok1 x1 rv w1=>WG.now w1 ok1.sub σ H1 Z1 (Same.refl _) ok1
theorem ai (h:FE X F e g):FS X F (.Return (some e) pos) (sRet g) :=
 (sP h).weak fun D σ H ⟨Z,S,ok,w⟩=>ah ok (WO.wg ok w) fun d v H1 Z1 ok1 x1 rv w1=>WG.now w1 ok1.sub v H1 Z1 ok1.ex rv
theorem bc (i:Nat){x:Str}{pos':Pos}(hN:X.N.Nodup)(h:FE X F e g)(hi:X.N[i]?=some x:=by rfl)(hx:Loc X.env.scope x:=by first | exact Or.inl rfl | exact Or.inr rfl)
  (hs:swapsWith e (some (.Name x pos')) pos.line X.env=pure false:=by rfl) (hf:X.fn x=true∨X.env.scope.names.lookup x=some .local:=by first | exact .inl rfl | exact .inr rfl):FS X F (.Assign [.Name x pos'] e pos) (sSet i g) :=
 (iN hN hi hx h hs hf).weak fun D σ H ⟨Z,S,ok,w⟩=>ah ok (WO.wg ok w) fun d v H1 Z1 ok1 x1 rv w1=>WG.now w1 ok1.sub _ _ _ (Same.refl _) (ok1.setVal rv)
end
theorem OpD.or {F:Fx}{r r':R2}{f f':D→D→R D}(p:D→D→Bool)(h:OpD F r f)(h':OpD F r' f'):OpD F (fun x y H Q=>r x y H Q∨r' x y H Q) (fun x y=>if p x y=true then f x y else f' x y):=by
 intro H Z x y dx dy Q s rx ry w
 by_cases e:p dx dy=true
 ·dsimp only at w;rw[if_pos e]at w;exact .inl (h H Z x y dx dy Q s rx ry w)
 ·dsimp only at w;rw[if_neg e]at w;exact .inr (h' H Z x y dx dy Q s rx ry w)
def dI (c:Int→Int→Bool)(g:Int→Int→D):D→D→R D
 | .int i,.int j=>if c i j=true then .ok (g i j) else .stuck
 | _,_=>.stuck
def dI0 (g:Int→Int→D):D→D→R D
 | .int i,.int j=>.ok (g i j)
 | _,_=>.stuck
theorem tG {F:Fx}{C:Int→Int→Prop}{c:Int→Int→Bool}{g:Int→Int→V}{g':Int→Int→D}(hc:∀ i j,c i j=true→C i j)(hg:∀ i j Z,Rep F.K F.C Z (g' i j) (g i j)):OpD F (rI C g) (dI c g'):=by
 intro H Z x y dx dy Q s rx ry w
 cases dx with
 | int i =>
  cases dy with
  | int j =>
   rw[Rep]at rx
   rw[Rep]at ry
   subst rx;subst ry
   unfold dI at w
   dsimp only at w
   split at w
   ·rename_i q;exact⟨i,j,rfl,rfl,hc i j q,WG.now w s _ (hg i j Z)⟩
   ·exact w.elim
  | _=>exact w.elim
 | _=>exact w.elim
theorem cI {F:Fx}{g:Int→Int→V}{g':Int→Int→D}(hg:∀ i j Z,Rep F.K F.C Z (g' i j) (g i j)):OpD F (rI0 g) (dI0 g'):=by
 intro H Z x y dx dy Q s rx ry w
 cases dx with
 | int i =>
  cases dy with
  | int j =>
   rw[Rep]at rx
   rw[Rep]at ry
   subst rx;subst ry
   exact⟨i,j,rfl,rfl,WG.now w s _ (hg i j Z)⟩
  | _=>exact w.elim
 | _=>exact w.elim
def cMul (i j:Int):Bool:=(decide (-(2^64) < i)&&decide (i < 2^64))||(decide (-(2^64) < j)&&decide (j < 2^64))
def cDiv (i j:Int):Bool:=decide (0 < j)&&decide (j < 1073741824)
theorem vL (i j:Int)(h:cMul i j=true):CMul i j:=by
 unfold cMul at h
 simp only[Bool.or_eq_true,Bool.and_eq_true,decide_eq_true_eq]at h
 exact h
theorem vM (i j:Int)(h:cDiv i j=true):CDiv i j:=by
 unfold cDiv at h
 simp only[Bool.and_eq_true,decide_eq_true_eq]at h
 exact h
def isInt:D→Bool
 | .int _=>true
 | _=>false
def isTup:D→Bool
 | .tup _=>true
 | _=>false
def isLst:D→Bool
 | .lst _=>true
 | _=>false
def dCatT:D→D→R D
 | .tup xs,.tup ys=>if xs.length+ys.length≤16777216 then .ok (.tup (xs++ys)) else .stuck
 | _,_=>.stuck
def dCatL:D→D→R D
 | .lst xs,.lst ys=>if xs.length+ys.length≤16777216 then .ok (.lst (xs++ys)) else .stuck
 | _,_=>.stuck
def dRepT:D→D→R D
 | .tup xs,.int k=>if 0≤k∧k < 1000000∧xs.length*k.toNat≤16777216 then .ok (.tup (List.replicate k.toNat xs).flatten) else .stuck
 | _,_=>.stuck
def dRepL:D→D→R D
 | .lst xs,.int k=>if 0≤k∧k < 1000000∧xs.length*k.toNat≤16777216 then .ok (.lst (List.replicate k.toNat xs).flatten) else .stuck
 | _,_=>.stuck
def dIx:D→D→R D
 | .tup xs,.int i=>match atI xs i with
  | some d=>.ok d
  | none=>.stuck
 | .lst xs,.int i=>match atI xs i with
  | some d=>.ok d
  | none=>.stuck
 | _,_=>.stuck
theorem Reps.at {K:PySem.W.Frag}{C:Nat→Addr}{Z:Hp}{ds:List D}{vs:List V}{i:Int}{d:D}(r:Reps K C Z ds vs)(h:atI ds i=some d):∃ v,atI vs i=some v∧Rep K C Z d v:=by
 unfold atI at h ⊢
 rw[← r.length]
 cases e:ixN ds.length i with
 | none=>rw[e]at h;cases h
 | some j =>
  rw[e]at h
  exact r.get h
theorem yF {F:Fx}:OpD F (rIx F.K) dIx:=by
 intro H Z x y dx dy Q s rx ry w
 cases dx with
 | tup ds =>
  cases dy with
  | int i =>
   rw[Rep]at rx
   rw[Rep]at ry
   obtain⟨a,vs,rfl,h1,h2⟩:=rx
   subst ry
   unfold dIx at w
   dsimp only at w
   split at w
   ·rename_i d e
    obtain⟨v,e1,r⟩:=h2.at e
    exact .inr (.inl ⟨a,vs,i,v,rfl,rfl,h1.mono s,e1,WG.now w s v r⟩)
   ·exact w.elim
  | _=>exact w.elim
 | lst ds =>
  cases dy with
  | int i =>
   rw[Rep]at rx
   rw[Rep]at ry
   obtain⟨a,vs,rfl,h1,h2⟩:=rx
   subst ry
   unfold dIx at w
   dsimp only at w
   split at w
   ·rename_i d e
    obtain⟨v,e1,r⟩:=h2.at e
    exact .inl ⟨a,vs,i,v,rfl,rfl,s.seq h1,e1,WG.now w s v r⟩
   ·exact w.elim
  | _=>exact w.elim
 | _=>exact w.elim
section
open AutoSeq1 (wpAny_loadPart')
theorem mR (l b:Addr)(items items2:Array Value)(n n2:Nat)(dd dd2:Option Addr)(sl sl2:Array (Option Value))(hc0:items.isEmpty=true) :
  Meets (Builtin.«tuple.__add__» ⟨[.ref l,.ref b],[]⟩) (fun _ R s=>s.heap.get? l=some { cls:=.type "tuple",dict:=dd,data:=.seq items n,slots:=sl }∧s.heap.get? b=some { cls:=.type "tuple",dict:=dd2,data:=.seq items2 n2,slots:=sl2 }∧R (.ok (.ret (.ref b))) s) :=
 .of_wp fun prog w A R s h=>by
  obtain⟨hp,g,d,tk,os⟩:=s;obtain⟨hl,hb,h⟩:=h
  have f2:=AutoSeq1.sub_tuple_tuple
  have f3:=AutoSeq1.sub_list_list
  wp_walk using wpAny_loadPart' hl,wpAny_loadPart' hb
  exact⟨_,rfl,h⟩
end
theorem fv {K:PySem.W.Frag}{C:Nat→Addr}{Z:Hp}{ds:List D}{vs:List V}(r:Reps K C Z ds vs):∀ k:Nat,Reps K C Z (List.replicate k ds).flatten (List.replicate k vs).flatten
 | 0=>Reps.nil
 | k+1=>by
  rw[List.replicate_succ,List.replicate_succ,List.flatten_cons,List.flatten_cons]
  exact r.append (fv r k)
def rCat2 (K:PySem.W.Frag):R2:=fun x y H Q=>∃ a b xs ys,x=.ref a∧y=.ref b∧SqT K H a xs∧SqT K H b ys∧xs.length+ys.length≤sizeLine∧(∀ p,H p=none→Q (.ref p) (upd H p (.tup (xs++ys))))∧(ys=[]→Q (.ref a) H)∧(xs=[]→Q (.ref b) H)
theorem vN {X:Cx}:OpR X (binaryOp .Add) (rCat2 X.K):=by
 intro pins s σ H x y v u Q I rx ry h
 obtain⟨a,b,xs,ys,rfl,rfl,ha,hb,hz,q1,q2,q3⟩:=h
 by_cases hx:xs=[]
 ·cases rx
  cases ry
  obtain⟨its,r1,p1,_⟩:=I.tuple ha
  obtain⟨its2,r2,p2,_⟩:=I.tuple hb
  obtain⟨⟨cls,dd,data,sl⟩,ho,hc,n,hd⟩:=id p1
  obtain⟨⟨cls2,dd2,data2,sl2⟩,ho2,hc2,n2,hd2⟩:=id p2
  simp only at hc hd hc2 hd2
  subst hc hd hc2 hd2
  have he:its=[]:=by
   have:=r1.length
   rw[hx]at this
   exact List.length_eq_zero_iff.mp this.symm
  exact concat_meets ⟨_,ho,rfl⟩ ⟨_,ho2,rfl⟩ noFill_tuple_add seq_tuple_add PySem.F.slot_tuple_add PySem.F.entry_tuple_add (PySem.F.args_tuple_add_2 _ _)
   (mR a b its.toArray its2.toArray n n2 dd dd2 sl sl2 (by simp[he])) ⟨ho,ho2,⟨.ref b,H,I,rfl,q3 hx⟩⟩
 ·exact vH pins s σ H _ _ v u Q I rx ry ⟨a,b,xs,ys,rfl,rfl,ha,hb,hx,hz,q2,fun _=>q1⟩
theorem tH {F:Fx}:OpD F (rCat2 F.K) dCatT:=by
 intro H Z x y dx dy Q s rx ry w
 cases dx with
 | tup ds =>
  cases dy with
  | tup es =>
   rw[Rep]at rx
   rw[Rep]at ry
   obtain⟨a,vs,rfl,h1,h2⟩:=rx
   obtain⟨b,us,rfl,k1,k2⟩:=ry
   unfold dCatT at w
   dsimp only at w
   split at w
   ·rename_i hl
    refine⟨a,b,vs,us,rfl,rfl,h1.mono s,k1.mono s,by rw[← h2.length,← k2.length,sizeLine_eq];exact hl,fun p hp=>?_,fun e=>?_,fun e=>?_⟩
    ·have z:Same Z (upd Z p (.tup (vs++us))):=ap (s.free hp)
     exact w _ _ (Ex.alloc s hp) _ (by rw[Rep];exact⟨p,_,rfl,SqT.of af,(h2.append k2).mono z⟩)
    ·have:es=[]:=List.length_eq_zero_iff.mp (by rw[k2.length,e];rfl)
     subst this
     exact WG.now w s _ (by rw[List.append_nil,Rep];exact⟨a,vs,rfl,h1,h2⟩)
    ·have:ds=[]:=List.length_eq_zero_iff.mp (by rw[h2.length,e];rfl)
     subst this
     exact WG.now w s _ (by rw[List.nil_append,Rep];exact⟨b,us,rfl,k1,k2⟩)
   ·exact w.elim
  | _=>exact w.elim
 | _=>exact w.elim
def rRepT (K:PySem.W.Frag):R2:=fun x y H Q=>∃ a k xs,x=.ref a∧y=.int k∧SqT K H a xs∧0≤k∧k < 1000000∧xs.length*k.toNat≤sizeLine∧(∀ p,H p=none→Q (.ref p) (upd H p (.tup (List.replicate k.toNat xs).flatten)))∧((List.replicate k.toNat xs).flatten=xs→Q (.ref a) H)
theorem vO {X:Cx}:OpR X (binaryOp .Mult) (rRepT X.K):=by
 intro pins s σ H x y v u Q I rx ry h
 obtain⟨a,k,xs,rfl,rfl,ha,h0,h1,hz,q1,q2⟩:=h
 cases rx
 obtain⟨t,rfl⟩:=ry
 obtain⟨its,r,p1,_⟩:=I.tuple ha
 have hl:=r.length
 obtain⟨⟨cls,dd,data,sl⟩,ho,hc,n,hd⟩:=id p1
 simp only at hc hd
 subst hc hd
 refine wpAny_binaryOp_repeat_ref (by decide) ⟨_,ho,rfl⟩ (fun s'=>typeIs_int s' k t) gz PySem.F.fills_int_mul PySem.F.slot_int_rmul lG PySem.F.slot_int_index.lookup
  (call_meets PySem.F.slot_int_rmul (typeIs_int s k t) PySem.F.entry_int_rmul (PySem.F.args_int_rmul_2 _ _) (iP k t a its.toArray n dd sl) ⟨ho,rfl,⟨_,ho,rfl⟩,?_⟩)
 cases its with
 | nil =>
  have hx:xs=[]:=List.length_eq_zero_iff.mp hl
  have e:(List.replicate k.toNat xs).flatten=xs:=by rw[hx];simp
  exact call_meets PySem.F.slot_tuple_mul ⟨_,ho,rfl⟩ PySem.F.entry_tuple_mul (PySem.F.args_tuple_mul_2 _ _) (jZ a n k t dd sl h0 h1) ⟨ho,⟨.ref a,H,I,rfl,q2 e⟩⟩
 | cons it its' =>
  have hne:(it::its').toArray.isEmpty=false:=by simp
  by_cases k1:k=1
  ·subst k1
   have e:(List.replicate (1:Int).toNat xs).flatten=xs:=by simp
   exact call_meets PySem.F.slot_tuple_mul ⟨_,ho,rfl⟩ PySem.F.entry_tuple_mul (PySem.F.args_tuple_mul_2 _ _) (jY a _ n t dd sl) ⟨ho,⟨.ref a,H,I,rfl,q2 e⟩⟩
  ·by_cases k0:k=0
   ·subst k0
    refine call_meets PySem.F.slot_tuple_mul ⟨_,ho,rfl⟩ PySem.F.entry_tuple_mul (PySem.F.args_tuple_mul_2 _ _) (iQ a _ n t dd sl hne) ⟨ho,?_⟩
    refine⟨.ref s.heap.objs.size,_,I.laid (fun b ob q=>Heap.get?_push_of_some _ q) (Nat.le_refl _) ?_,rfl,q1 _ (I.hok.fresh (Nat.le_refl _))⟩
    exact⟨Nat.zero_le _,[],.nil,TupO.new _ _⟩
   ·refine call_meets PySem.F.slot_tuple_mul ⟨_,ho,rfl⟩ PySem.F.entry_tuple_mul (PySem.F.args_tuple_mul_2 _ _) (jX a _ n k t dd sl (by omega) h1 (by rw[List.size_toArray,← hl];exact hz) hne) ⟨ho,?_⟩
    have ef:=gu (it::its') k.toNat []
    rw[List.nil_append]at ef
    have ef':=ef
    rw[ef']
    refine⟨.ref s.heap.objs.size,_,I.laid (fun b ob q=>Heap.get?_push_of_some _ q) (Nat.le_refl _) ?_,rfl,q1 _ (I.hok.fresh (Nat.le_refl _))⟩
    exact⟨by rw[pO,Nat.mul_comm];exact hz,_,r.rep k.toNat,TupO.new _ _⟩
theorem tJ {F:Fx}:OpD F (rRepT F.K) dRepT:=by
 intro H Z x y dx dy Q s rx ry w
 cases dx with
 | tup ds =>
  cases dy with
  | int k =>
   rw[Rep]at rx
   rw[Rep]at ry
   obtain⟨a,vs,rfl,h1,h2⟩:=rx
   subst ry
   unfold dRepT at w
   dsimp only at w
   split at w
   ·rename_i hk
    refine⟨a,k,vs,rfl,rfl,h1.mono s,hk.1,hk.2.1,by rw[← h2.length,sizeLine_eq];exact hk.2.2,fun p hp=>?_,fun e=>?_⟩
    ·have z:Same Z (upd Z p (.tup (List.replicate k.toNat vs).flatten)):=ap (s.free hp)
     exact w _ _ (Ex.alloc s hp) _ (by rw[Rep];exact⟨p,_,rfl,SqT.of af,(fv h2 k.toNat).mono z⟩)
    ·refine WG.now w s _ ?_
     rw[Rep]
     exact⟨a,vs,rfl,h1,by have:=fv h2 k.toNat;rw[e]at this;exact this⟩
   ·exact w.elim
  | _=>exact w.elim
 | _=>exact w.elim
theorem tK {F:Fx}:OpD F (fun x y H Q=>∃ a b xs ys,x=.ref a∧y=.ref b∧SqL F.K H a xs∧SqL F.K H b ys∧xs.length+ys.length≤sizeLine∧∀ p,H p=none→Q (.ref p) (upd H p (.lst (xs++ys)))) dCatL:=by
 intro H Z x y dx dy Q s rx ry w
 cases dx with
 | lst ds =>
  cases dy with
  | lst es =>
   rw[Rep]at rx
   rw[Rep]at ry
   obtain⟨a,vs,rfl,h1,h2⟩:=rx
   obtain⟨b,us,rfl,k1,k2⟩:=ry
   unfold dCatL at w
   dsimp only at w
   split at w
   ·rename_i hl
    refine⟨a,b,vs,us,rfl,rfl,s.seq h1,s.seq k1,by rw[← h2.length,← k2.length,sizeLine_eq];exact hl,fun p hp=>?_⟩
    have z:Same Z (upd Z p (.lst (vs++us))):=ap (s.free hp)
    exact w _ _ (Ex.alloc s hp) _ (by rw[Rep];exact⟨p,_,rfl,SqL.of af,(h2.append k2).mono z⟩)
   ·exact w.elim
  | _=>exact w.elim
 | _=>exact w.elim
theorem tM {X:Cx}:OpR X (binaryOp .Add) (fun x y H Q=>∃ a b xs ys,x=.ref a∧y=.ref b∧SqL X.K H a xs∧SqL X.K H b ys∧xs.length+ys.length≤sizeLine∧∀ p,H p=none→Q (.ref p) (upd H p (.lst (xs++ys)))):=by
 intro pins s σ H x y v u Q I rx ry h
 obtain⟨a,b,xs,ys,rfl,rfl,ha,hb,hz,q⟩:=h
 cases rx
 cases ry
 obtain⟨its,r,⟨o,n,e,c1,c2,c3⟩,_⟩:=I.list ha
 obtain⟨its2,r2,⟨o2,n2,e2,d1,d2,d3⟩,_⟩:=I.list hb
 have l1:=r.length
 have l2:=r2.length
 obtain⟨cls,dd,data,sl⟩:=o
 obtain⟨cls2,dd2,data2,sl2⟩:=o2
 simp only at c1 c3 d1 d3
 subst c1 c3 d1 d3
 refine concat_meets ⟨_,e,rfl⟩ ⟨_,e2,rfl⟩ noFill_list_add seq_list_add PySem.F.slot_list_add PySem.F.entry_list_add (PySem.F.args_list_add_2 _ _) (rh a b its.toArray its2.toArray n n2 dd dd2 sl sl2 (by rw[List.size_toArray,List.size_toArray];omega)) ⟨e,e2,?_⟩
 have ea:its.toArray++its2.toArray=(its++its2).toArray:=by simp
 rw[ea]
 exact⟨.ref _,_,I.lnew (r.append r2) (by rw[List.length_append];omega),rfl,q _ I.fresh⟩
def rRepL (K:PySem.W.Frag):R2:=fun x y H Q=>∃ a k xs,x=.ref a∧y=.int k∧SqL K H a xs∧0≤k∧k < 1000000∧xs.length*k.toNat≤sizeLine∧∀ p,H p=none→Q (.ref p) (upd H p (.lst (List.replicate k.toNat xs).flatten))
theorem vP {X:Cx}:OpR X (binaryOp .Mult) (rRepL X.K):=by
 intro pins s σ H x y v u Q I rx ry h
 obtain⟨a,k,xs,rfl,rfl,ha,h0,h1,hz,q⟩:=h
 cases rx
 obtain⟨t,rfl⟩:=ry
 obtain⟨its,r,⟨o,n,e,c1,c2,c3⟩,_⟩:=I.list ha
 have hl:=r.length
 obtain⟨cls,dd,data,sl⟩:=o
 simp only at c1 c3
 subst c1 c3
 refine wpAny_binaryOp_repeat_ref (by decide) ⟨_,e,rfl⟩ (fun s'=>typeIs_int s' k t) noFill_list_mul PySem.F.fills_int_mul PySem.F.slot_int_rmul repeat_list PySem.F.slot_int_index.lookup
  (call_meets PySem.F.slot_int_rmul (typeIs_int s k t) PySem.F.entry_int_rmul (PySem.F.args_int_rmul_2 _ _) (j0 k t a its.toArray n dd sl) ⟨e,rfl,⟨_,e,rfl⟩,
   call_meets PySem.F.slot_list_mul ⟨_,e,rfl⟩ PySem.F.entry_list_mul (PySem.F.args_list_mul_2 _ _) (rj a its.toArray n k t dd sl (by omega) (by omega) (by rw[List.size_toArray,← hl];exact hz)) ⟨e,?_⟩⟩)
 have hnew:List.foldl (fun x1 x2=>x1++x2) #[] (List.replicate (if its.toArray.isEmpty=true then 0 else k.toNat) its.toArray)=(List.replicate k.toNat its).flatten.toArray:=by
  have f0:=fun m=>by
   have:=gu its m []
   rwa [List.nil_append]at this
  rw[f0]
  cases its with
  | nil=>simp
  | cons a r'=>rw[if_neg (by simp)]
 rw[hnew]
 exact⟨.ref _,_,I.lnew (r.rep k.toNat) (by rw[pO,Nat.mul_comm];exact hz),rfl,q _ I.fresh⟩
theorem tN {F:Fx}:OpD F (rRepL F.K) dRepL:=by
 intro H Z x y dx dy Q s rx ry w
 cases dx with
 | lst ds =>
  cases dy with
  | int k =>
   rw[Rep]at rx
   rw[Rep]at ry
   obtain⟨a,vs,rfl,h1,h2⟩:=rx
   subst ry
   unfold dRepL at w
   dsimp only at w
   split at w
   ·rename_i hk
    refine⟨a,k,vs,rfl,rfl,s.seq h1,hk.1,hk.2.1,by rw[← h2.length,sizeLine_eq];exact hk.2.2,fun p hp=>?_⟩
    have z:Same Z (upd Z p (.lst (List.replicate k.toNat vs).flatten)):=ap (s.free hp)
    exact w _ _ (Ex.alloc s hp) _ (by rw[Rep];exact⟨p,_,rfl,SqL.of af,(fv h2 k.toNat).mono z⟩)
   ·exact w.elim
  | _=>exact w.elim
 | _=>exact w.elim
mutual
def eqD:D→D→Bool
 | .non,.non=>true
 | .bl a,.bl b=>a==b
 | .bl a,.int b=>(if a then 1 else 0)==b
 | .int a,.bl b=>a==(if b then 1 else 0)
 | .int a,.int b=>a==b
 | .str a,.str b=>a==b
 | .tup xs,.tup ys=>eqDs xs ys
 | .lst xs,.lst ys=>eqDs xs ys
 | _,_=>false
def eqDs:List D→List D→Bool
 | [],[]=>true
 | x::xs,y::ys=>eqD x y&&eqDs xs ys
 | _,_=>false
end
mutual
def good:Nat→D→Bool
 | _,.exc _=>false
 | _,.fn _=>false
 | _,.tab _ _=>false
 | _,.dic _ _=>false
 | _,.ptr _=>false
 | 0,.tup _=>false
 | 0,.lst _=>false
 | n+1,.tup xs=>goods n xs
 | n+1,.lst xs=>goods n xs
 | _,_=>true
def goods:Nat→List D→Bool
 | _,[]=>true
 | n,x::xs=>good n x&&goods n xs
end
def relabN (names:List (Str×NameKind))(env:Env):List (Str×NameKind) :=
 names.map fun (n,k)=>if (k==.free&&env.scope.kind==.function&&env.kindOf n==some .cell) then (n,.cell) else (n,k)
theorem iR {env:Env}:∀ {names:List (Str×NameKind)} {x:Str},names.lookup x=some .free→(relabN names env).lookup x=some .cell∨(relabN names env).lookup x=some .free
 | [],_,h=>by simp at h
 | (n,k)::r,x,h=>by
  have ih:=@iR env r x
  show List.lookup x ((if (k==NameKind.free&&env.scope.kind==.function&&env.kindOf n==some .cell)=true then (n,NameKind.cell) else (n,k))::relabN r env)=_∨List.lookup x ((if (k==NameKind.free&&env.scope.kind==.function&&env.kindOf n==some .cell)=true then (n,NameKind.cell) else (n,k))::relabN r env)=_
  cases hx:x==n with
  | true =>
   simp only[List.lookup_cons,hx]at h
   cases h
   split
   ·exact .inl (by simp[List.lookup_cons,hx])
   ·exact .inr (by simp[List.lookup_cons,hx])
  | false =>
   simp only[List.lookup_cons,hx]at h
   split<;>(simp only[List.lookup_cons,hx];exact ih h)
theorem iT {env:Env}:∀ {names:List (Str×NameKind)} {x:Str},((relabN names env).lookup x=some .cell∨(relabN names env).lookup x=some .free)→∃ y∈names,y.1=x∧(y.2=.free∨y.2=.cell)
 | [],_,h=>by simp[relabN]at h
 | (n,k)::r,x,h=>by
  have ih:=@iT env r x
  change List.lookup x ((if (k==NameKind.free&&env.scope.kind==.function&&env.kindOf n==some .cell)=true then (n,NameKind.cell) else (n,k))::relabN r env)=_∨List.lookup x ((if (k==NameKind.free&&env.scope.kind==.function&&env.kindOf n==some .cell)=true then (n,NameKind.cell) else (n,k))::relabN r env)=_ at h
  cases hx:x==n with
  | true =>
   have e:x=n:=eq_of_beq hx
   refine⟨(n,k),List.mem_cons_self,e.symm,?_⟩
   by_cases hq:(k==NameKind.free&&env.scope.kind==.function&&env.kindOf n==some .cell)=true
   ·simp only[Bool.and_eq_true,beq_iff_eq]at hq
    exact .inl hq.1.1
   ·rw[if_neg hq]at h
    simp only[List.lookup_cons,hx]at h
    rcases h with h | h
    ·cases h;exact .inr rfl
    ·cases h;exact .inl rfl
  | false =>
   have h':(relabN r env).lookup x=some .cell∨(relabN r env).lookup x=some .free:=by
    by_cases hq:(k==NameKind.free&&env.scope.kind==.function&&env.kindOf n==some .cell)=true
    ·rw[if_pos hq]at h;simpa only[List.lookup_cons,hx] using h
    ·rw[if_neg hq]at h;simpa only[List.lookup_cons,hx] using h
   obtain⟨y,hy,e⟩:=ih h'
   exact⟨y,List.mem_cons_of_mem _ hy,e⟩
theorem aF:∀ (names:List (Str×NameKind)) (n:Nat) (acc:List (Str×Addr)),cellsFrom n names acc=cellsFrom n names []++acc
 | [],_,_=>rfl
 | (name,kind)::r,n,acc=>by
  unfold cellsFrom
  split
  ·rw[aF r (n+1) ((name,n)::acc),aF r (n+1) [(name,n)],List.append_assoc];rfl
  ·exact aF r n acc
theorem gD:∀ (names:List (Str×NameKind)) (n:Nat) {x:Str} {c:Addr},(x,c)∈cellsFrom n names []→(x,NameKind.cell)∈names
 | [],_,_,_,h=>nomatch h
 | (name,kind)::r,n,x,c,h=>by
  unfold cellsFrom at h
  split at h
  ·rename_i hk
   rw[aF]at h
   rcases List.mem_append.mp h with h | h
   ·exact List.mem_cons_of_mem _ (gD r _ h)
   ·rw[List.mem_singleton]at h
    cases h
    rw[eq_of_beq hk];exact List.mem_cons_self
  ·exact List.mem_cons_of_mem _ (gD r _ h)
theorem gE:∀ (names:List (Str×NameKind)) (n:Nat) {x:Str},(x,NameKind.cell)∈names→∃ c,(cellsFrom n names []).lookup x=some c
 | [],_,_,h=>nomatch h
 | (name,kind)::r,n,x,h=>by
  by_cases hr:(x,NameKind.cell)∈r
  ·unfold cellsFrom
   split
   ·obtain⟨c,hc⟩:=gE r (n+1) hr
    rw[aF,List.lookup_append,hc];exact⟨c,rfl⟩
   ·exact gE r n hr
  ·rcases List.mem_cons.mp h with e | e
   ·cases e
    unfold cellsFrom
    rw[if_pos (by rfl),aF,List.lookup_append]
    cases (cellsFrom (n+1) r []).lookup name with
    | some c=>exact⟨c,rfl⟩
    | none=>exact⟨n,by simp[List.lookup_cons]⟩
   ·exact absurd e hr
structure CellsB (scope:Scope)(cl cl2:List (Str×Addr))(C:Addr)(h:Heap):Prop where
 old:∀ n c,cl2.lookup n=some c→(cl.lookup n=some c∧(n,NameKind.cell)∉scope.names)∨(C < c∧h.IsCell c none∧(n,NameKind.cell)∈scope.names)
 keep:∀ n,(n,NameKind.cell)∉scope.names→cl2.lookup n=cl.lookup n
 mine:∀ n,(n,NameKind.cell)∈scope.names→∃ c,cl2.lookup n=some c
 inj:∀ x y c,C < c→cl2.lookup x=some c→cl2.lookup y=some c→(x,NameKind.cell)∈scope.names→(y,NameKind.cell)∈scope.names→x=y
section
variable {M:Model}{A:Around}{E:Value→Shared→Prop}{s:Shared}
theorem lK {scope:Scope}{globals:Addr}{cl:List (Str×Addr)}{qual:Str}{env:Env}{Q:Env→Shared→Prop}
  (hQ:∀ h' cl2,h'.Ns s.heap.objs.size (fun _=>none)→(∀ b o,s.heap.get? b=some o→h'.get? b=some o)→CellsB scope cl cl2 s.heap.objs.size h'→Q (newEnv scope s.heap.objs.size globals cl2 qual none .none (some env) builtinsNs) { s with heap:=h' }) :
  wpAny M A (newFunctionEnv scope globals cl [] qual none .none (some env)) Q E s:=by
 simp only[newFunctionEnv,Option.isSome_some,if_true]
 refine wpAny_bind (wpAny_alloc ?_)
 refine wpAny_bind (wpAny_layCells _ (fun name kind cells=>by cases hkc:kind==NameKind.cell<;>simp[hkc]) _ _ _ _ ?_)
 have ok:=cellsFrom_ok scope.names (s.heap.push { cls:=.type "dict",data:=.dict #[] }) (s.heap.objs.size+1) [] ⟨fun _ _ hm=>(nomatch hm),List.Pairwise.nil⟩ (by simp)
 rw[Heap.size_push]at ok
 rw[show ({ s with heap:=s.heap.push { cls:=.type "dict",data:=.dict #[] } }:Shared).heap.objs.size=s.heap.objs.size+1 from Heap.size_push ..]
 simp
 refine wpAny_bind (wpAny_pure (wpAny_pure ?_))
 refine hQ _ _ ((Heap.Ns.new s.heap (.type "dict")).keeps (pushCells_keeps _ _)) (fun b o e=>pushCells_keeps _ _ b o (Heap.get?_push_of_some _ e)) ?_
 have look:∀ n,(cellsFrom (s.heap.objs.size+1) scope.names cl).lookup n=((cellsFrom (s.heap.objs.size+1) scope.names []).lookup n).or (cl.lookup n):=fun n=>by rw[aF,List.lookup_append]
 have no:∀ n,(n,NameKind.cell)∉scope.names→(cellsFrom (s.heap.objs.size+1) scope.names []).lookup n=none:=fun n hn=>by
  cases e:(cellsFrom (s.heap.objs.size+1) scope.names []).lookup n with
  | none=>rfl
  | some c=>exact absurd (gD _ _ (PySem.mem_of_lookup e)) hn
 have keep:∀ n,(n,NameKind.cell)∉scope.names→(cellsFrom (s.heap.objs.size+1) scope.names cl).lookup n=cl.lookup n:=fun n hn=>by rw[look,no n hn];rfl
 have new:∀ n,(n,NameKind.cell)∈scope.names→∃ c,(cellsFrom (s.heap.objs.size+1) scope.names []).lookup n=some c∧(cellsFrom (s.heap.objs.size+1) scope.names cl).lookup n=some c:=fun n hn=>by
  obtain⟨c,hc⟩:=gE scope.names (s.heap.objs.size+1) hn
  grind
 refine⟨fun n c e=>?_,keep,fun n hn=>?_,fun x y c _ ex ey hx hy=>?_⟩
 ·by_cases hn:(n,NameKind.cell)∈scope.names
  ·obtain⟨c',h1,h2⟩:=new n hn
   rw[e]at h2;cases h2
   have:=ok.empty n c (PySem.mem_of_lookup h1)
   grind
  ·grind
 ·grind
 ·obtain⟨c1,h1,h2⟩:=new x hx
  obtain⟨c2,h3,h4⟩:=new y hy
  rw[ex]at h2;cases h2
  rw[ey]at h4;cases h4
  exact name_of_addr ok.apart (PySem.mem_of_lookup h1) (PySem.mem_of_lookup h3)
end
theorem dC {names:List (Str×NameKind)}{x:Str}{k:NameKind}(h:names.lookup x=some k):(x,k)∈names:=PySem.mem_of_lookup h
def blk (X:Cx)(scope:Scope)(cl:List (Str×Addr))(C:Addr)(s:Shared)(H:Hp)(fp:List Addr)(N:List Str):Cx where
 prog:=X.prog
 w:=X.w
 K:=X.K
 mg:=X.mg
 base:=X.base
 A:=X.A
 N:=N
 s₀:=s
 H₀:=H
 env:=compEnvC scope cl C X.env
 outer:=X.stack
 stack:=X.stack
 ex:=fp
 fn:=fun x=>scope.names.lookup x==some .cell
 calm:=true
 pn:=[]
 xe:=fun _ _=>False
def startB (own:Nat)(cap:List Nat)(σ:St):St:=List.replicate own none++cap.map fun i=>(σ[i]?).getD none
structure BlkOk (XN:List Str)(osc scope:Scope)(N:List Str)(own:Nat)(cap:List Nat):Prop where
 kind:scope.kind=.function
 ncell:∀ y∈scope.names,y.2=.cell→scope.names.lookup y.1=some .cell
 nfree:∀ y∈scope.names,y.2=.free→scope.names.lookup y.1=some .free
 nloc:∀ y∈scope.names,y.2=.local→scope.names.lookup y.1=some .local
 free:∀ y∈scope.names,y.2=.free→osc.names.lookup y.1=some .cell∨osc.names.lookup y.1=some .free
 len:N.length=own+cap.length
 capN:∀ j i,cap[j]?=some i→∃ x,N[own+j]?=some x∧XN[i]?=some x∧scope.names.lookup x=some .free
section
variable {X:Cx}{pins:List (Addr×Obj)}{σ:St}{H:Hp}{s:Shared}{scope:Scope}{N:List Str}{own:Nat}{cap:List Nat}{cl:List (Str×Addr)}{fp:List Addr}
theorem vQ {cl2:List (Str×Addr)}(b:BlkOk X.N X.env.scope scope N own cap)(hc:X.calm=true)(I:Inv X pins σ H s)(hf:∀ b∈fp,FpOk X pins H b)(hfo:∀ b∈fp,b < s.heap.objs.size)(c1:∀ n c,cl.lookup n=some c→X.env.cells.lookup n=some c)
  (c2:∀ y∈scope.names,y.2=.free→∃ c,cl.lookup y.1=some c) {h':Heap} {t':Nat} {m:Str→Option Value} (hns:h'.Ns s.heap.objs.size m) (hk:∀ b o,s.heap.get? b=some o→h'.get? b=some o) (cb:CellsB scope cl cl2 s.heap.objs.size h') :
  Inv (blk X scope cl2 s.heap.objs.size s H fp N) [] (startB own cap σ) H { s with heap:=h',toks:=t' }:=by
 have hC:=I.hok.fresh (Nat.le_refl _)
 have lt:∀ n c,cl.lookup n=some c→c < s.heap.objs.size:=fun n c e=>by obtain⟨v,hv⟩:=I.cell n c (c1 n c e);exact hv.lt
 have inj:∀ x y c,cl2.lookup x=some c→cl2.lookup y=some c→x=y:=fun x y c h1 h2=>by
  rcases cb.old x c h1 with ⟨a1,_⟩ | ⟨a1,_,a2⟩<;>rcases cb.old y c h2 with ⟨b1,_⟩ | ⟨b1,_,b2⟩
  ·exact I.ok.inj x y c (c1 x c a1) (c1 y c b1)
  ·exact absurd (lt x c a1) (Nat.lt_asymm b1)
  ·exact absurd (lt y c b1) (Nat.lt_asymm a1)
  ·exact cb.inj x y c a1 h1 h2 a2 b2
 refine⟨⟨I.ok.mod,b.kind,I.ok.glob,I.ok.blt,Nat.le_refl _,inj,fun x hx=>?_,fun x c hx e=>?_,fun _=>I.ok.hd hc,I.ok.frames,.inl rfl,fun b' hb=>?_,I.bs,Nat.le_trans I.ok.bsz I.sz,fun b' o e hb=>?_,fun b' hb hm=>?_,I.stack,I.stkFree⟩,rfl,I.bare,Un.kept hk,⟨m,hns,fun i x v h1 h2 h3=>?_⟩,fun x c e=>?_,hC,fun x c e=>?_,fun p hp=>(nomatch hp),I.hok.kept hk,?_⟩
 ·obtain⟨y,hy,e1,e2⟩:=iT hx
  rcases e2 with e2 | e2
  ·obtain⟨c,e⟩:=c2 y hy e2
   have hn:(y.1,NameKind.cell)∉scope.names:=fun z=>by
    have q1:=b.nfree y hy e2
    have q2:=b.ncell _ z rfl
    rw[q1]at q2;cases q2
   exact⟨c,by rw[← e1];show cl2.lookup y.1=some c;rw[cb.keep _ hn];exact e⟩
  ·obtain⟨c,e⟩:=cb.mine y.1 (by rw[← e2];exact hy)
   exact⟨c,by rw[← e1];exact e⟩
 ·rcases cb.old x c e with ⟨a1,a2⟩ | ⟨a1,_,_⟩
  ·have hx':=hx
   exact absurd (dC (eq_of_beq hx')) a2
  ·exact Nat.le_of_lt a1
 ·refine⟨Nat.ne_of_lt (hfo b' hb),fun x c e=>?_⟩
  rcases cb.old x c e with ⟨a1,_⟩ | ⟨a1,_,_⟩
  ·exact(hf b' hb).2.2.2.2.1 x c (c1 x c a1)
  ·exact fun z=>Nat.lt_asymm a1 (z ▸ hfo b' hb)
 ·rcases(hf b' hb).2.2.2.1 with z | z
  ·exact I.ok.noex b' o e z
  ·have:=Heap.lt_size (I.ok.bs b' o e).1
   exact absurd (Nat.lt_of_lt_of_le this z) (Nat.lt_irrefl _)
 ·rcases List.mem_cons.mp (I.stkSub b' hm) with z | z
  ·exact(hf b' hb).2.1 z
  ·exact(hf b' hb).2.2.1 z
 ·
  unfold startB at h2
  by_cases hi:i < own
  ·rw[List.getElem?_append_left (by simpa using hi),List.getElem?_replicate]at h2
   split at h2<;>cases h2
  ·rw[List.getElem?_append_right (by simpa using hi),List.length_replicate,List.getElem?_map]at h2
   cases e:cap[i - own]? with
   | none=>rw[e]at h2;cases h2
   | some k =>
    rw[e]at h2
    obtain⟨x',f1,f2,f3⟩:=b.capN _ _ e
    rw[show own+(i - own)=i by omega]at f1
    have h1':N[i]?=some x:=h1
    rw[h1']at f1;cases f1
    have h2':σ[k]?=some (some v):=by
     cases q:σ[k]? with
     | none=>simp only[Option.map_some,q,Option.getD_none,Option.some.injEq]at h2;cases h2
     | some o=>simp only[Option.map_some,q,Option.getD_some,Option.some.injEq]at h2;rw[h2]
    obtain⟨m0,_,hl⟩:=I.loc
    have kf:=b.free (x,.free) (dC f3) rfl
    obtain⟨u,r,l⟩:=hl k x v f2 h2' (kf.elim (fun z=>.inr (.inl z)) fun z=>.inr (.inr z))
    refine⟨u,r,?_⟩
    rcases l with ⟨z,_⟩ | ⟨_,c,e1,e2⟩
    ·have z':X.env.scope.names.lookup x=some .local:=z
     rcases kf with y | y
     ·have y':=y
      rw[z']at y';cases y'
     ·have y':=y
      rw[z']at y';cases y'
    ·obtain⟨c',g1⟩:=c2 (x,.free) (dC f3) rfl
     have g2:=c1 x c' g1
     rw[e1]at g2;cases g2
     have hn:(x,NameKind.cell)∉scope.names:=fun z=>by
      have q2:=b.ncell _ z rfl
      have q2':=q2
      rw[f3]at q2';cases q2'
     exact .inr ⟨iR f3,c,by show cl2.lookup x=some c;rw[cb.keep _ hn];exact g1,by obtain⟨o,ho,hd⟩:=e2;exact⟨o,hk _ _ ho,hd⟩⟩
 ·rcases cb.old x c e with ⟨a1,_⟩ | ⟨_,a2,_⟩
  ·obtain⟨v,o,ho,hd⟩:=I.cell x c (c1 x c a1)
   exact⟨v,o,hk _ _ ho,hd⟩
  ·exact⟨none,a2⟩
 ·rcases cb.old x c e with ⟨a1,_⟩ | ⟨a1,_,_⟩
  ·exact I.freeC x c (c1 x c a1)
  ·exact I.hok.fresh (Nat.le_of_lt a1)
 ·unfold startB
  show _=N.length
  rw[List.length_append,List.length_replicate,List.length_map,b.len]
theorem tO {s3 s':Shared}{H3 H':Hp}{σ':St}{pl:List (Addr×Obj)}{D C:Addr}(I:Inv X pins σ H s)(hf:∀ b∈fp,FpOk X pins H b)(hD:D=s.heap.objs.size)(h3:s3={ s with heap:=s.heap.push { cls:=.type "list",data:=.seq #[] } })(hH:H3=upd H D (.lst []))(hC:C=s3.heap.objs.size)
  (J:Inv (blk X scope cl C s3 H3 fp N) pl σ' H' s'):Inv X pins σ H' s'∧FpOk X pins H' C∧∃ m,s'.heap.Ns C m:=by
 subst h3
 have hs:s.heap.objs.size≤C:=by rw[hC];rw[Heap.size_push];exact Nat.le_succ _
 have u1:Un (frs X.stack) fp H H3 s.heap (s.heap.push { cls:=.type "list",data:=.seq #[] }):=by
  rw[hH,hD]
  exact Un.laid (fun b u e=>Heap.get?_push_of_some _ e) (Nat.le_refl _) (I.hok.fresh (Nat.le_refl _))
 have u2:=J.base
 have os:=J.os
 refine⟨I.call' os (u1.trans u2) J.hok J.bare fun b hb=>?_,I.fpOk hs J.free,?_⟩
 ·obtain⟨_,f1,f2,f3,f4,f5⟩:=hf b hb
  exact⟨f3,f1,f4,f5⟩
 ·obtain⟨m,hn,_⟩:=J.loc
  exact⟨m,hn⟩
end
def tTests (ifs:List Expr)(t:TT):TT:=match ifs with
 | []=>fun _ H Q=>Q true H
 | _::_=>t
theorem oy {ifs:List Expr}{t:TT}{σ:St}{H:Hp}{Q:Bool→Hp→Prop}(e:ifs=[])(h:tTests ifs t σ H Q):Q true H:=by subst e;exact h
theorem oz {ifs:List Expr}{t:TT}{σ:St}{H:Hp}{Q:Bool→Hp→Prop}{c:Expr}(e:ifs=[c])(h:tTests ifs t σ H Q):t σ H Q:=by subst e;exact h
theorem rn {M:Model}{A:Around}{ifs:List Expr}{env:Env}{Q:Bool→Shared→Prop}{E:Value→Shared→Prop}{s:Shared}(hifs:ifs.length≤1)(h0:ifs=[]→Q true s)(h1:∀ c,ifs=[c]→wpAny M A (isTrue c env (eval c env)) Q E s):wpAny M A (tests ifs env) Q E s:=by
 match ifs,hifs,h0,h1 with
 | [],_,h0,_=>exact wpAny_pure (h0 rfl)
 | [c],_,_,h1=>exact h1 c rfl
def BlkW (sz:Nat)(J:It)(g:TG)(tc:TT)(te:TE)(D:Addr)(Fin:Hp→List V→Prop)(W:Nat→Nat→St→Hp→List V→Prop):Prop :=
 ∀ i m σ H ys,W i m σ H ys→H D=some (.lst ys)∧((J.stop i H∧Fin H ys)∨(J.go i H∧∀ x H',J.yld i H x H'→g x σ H' fun σ2 H2=>tc σ2 H2 fun ok H3 =>
  if ok=true then te σ2 H3 fun y H4=>H4 D=some (.lst ys)∧ys.length < sz∧∃ m',m' < m∧W (i+1) m' σ2 (upd H4 D (.lst (ys++[y]))) (ys++[y])
  else ∃ m',m' < m∧W (i+1) m' σ2 H3 ys))
section
variable {X:Cx}{elt tg iter:Expr}{ifs:List Expr}{scope:Scope}{N:List Str}{own:Nat}{cap:List Nat}{pos:Pos}{wi:TI}{g:TG}{tc:TT}{te:TE}
set_option maxHeartbeats 4000000 in
theorem tQ {pins:List (Addr×Obj)}{σ:St}{H:Hp}{s:Shared}{it:Addr}{fp:List Addr}{tn:Nat→Heap→Prop}{J:It}{cl:List (Str×Addr)}{E:Value→Shared→Prop}{RR:Value→Addr→Result→Shared→Prop}{Fin:Addr→Hp→List V→Prop}
  (b:BlkOk X.N X.env.scope scope N own cap) (hc:X.calm=true) (hifs:ifs.length≤1)
  (hg:∀ cl C s H fp,PG (blk X scope cl C s H fp N) tg g) (ht:∀ c,ifs=[c]→∀ cl C s H fp,PT (blk X scope cl C s H fp N) c tc) (he:∀ cl C s H fp,PE (blk X scope cl C s H fp N) elt te)
  (hclos:closureFor scope X.env=pure cl) (c1:∀ n c,cl.lookup n=some c→X.env.cells.lookup n=some c) (c2:∀ y∈scope.names,y.2=.free→∃ c,cl.lookup y.1=some c)
  (I:Inv X pins σ H s) (T:Turn X.prog X.w X.K tg J fp it tn) (st:tn 0 s.heap) (hf:∀ b∈fp,FpOk X pins H b)
  (hW:∀ D,H D=none→∃ W,BlkW sizeLine J g (tTests ifs tc) te D (Fin D) W∧∃ m,W 0 m (startB own cap σ) (upd H D (.lst [])) [])
  (fin:∀ D C s' H' ys,Inv X pins σ H' s'→FpOk X pins H' C→(∃ m,s'.heap.Ns C m)→H' D=some (.lst ys)→Fin D H' ys→RR (.ref D) C (.ok .next) s') :
  wpAny (model X.prog X.w) X.A (newList []) (fun acc s3=>wpAny (model X.prog X.w) X.A (newFunctionEnv scope X.env.globals cl [] X.env.qual none .none (some X.env)) (fun cenv s4 =>
   codeAny (model X.prog X.w) X.A (.compStart (.ListComp elt [⟨tg,iter,ifs,0⟩] scope pos) 0 (.ref it) acc { cenv with scope:=relabel scope X.env }) (RR acc cenv.locals) s4) E s3) E s:=by
 have hfo:∀ b∈fp,b < s.heap.objs.size:=fun b hb=>by
  obtain⟨o,e,_⟩:=T.obj 0 _ st b hb
  exact Heap.lt_size e
 have hD:=I.hok.fresh (Nat.le_refl _)
 obtain⟨W,hturn,m0,w0⟩:=hW _ hD
 refine wpAny_newObj_type (lK fun h1 cl2 hns kk cb=>?_)
 have I3:=I.lnew (t':=s.toks) (its:=[]) .nil (Nat.zero_le _)
 have hfp3:∀ b∈fp,FpOk X pins (upd H s.heap.objs.size (.lst [])) b:=fun b hb=>⟨by rw[ac (Nat.ne_of_lt (hfo b hb))];exact(hf b hb).1,(hf b hb).2⟩
 have st1:tn 0 h1:=T.keep 0 _ _ st fun b hb o e=>kk b o (Heap.get?_push_of_some _ e)
 generalize hX:blk X scope cl2 (s.heap.push { cls:=.type "list",data:=.seq #[] }).objs.size { s with heap:=s.heap.push { cls:=.type "list",data:=.seq #[] } } (upd H s.heap.objs.size (.lst [])) fp N=X'
 have I4:Inv X' [] (startB own cap σ) (upd H s.heap.objs.size (.lst [])) { s with heap:=h1 }:=by
  rw[← hX]
  exact vQ b hc I3 hfp3 (fun b hb=>Nat.lt_of_lt_of_le (hfo b hb) (by rw[Heap.size_push];exact Nat.le_succ _)) c1 c2 hns kk cb
 have eP:X'.prog=X.prog:=by rw[← hX];rfl
 have ew:X'.w=X.w:=by rw[← hX];rfl
 have eK:X'.K=X.K:=by rw[← hX];rfl
 have eA:X'.A=X.A:=by rw[← hX];rfl
 have ec:X'.calm=true:=by rw[← hX];rfl
 have ee:X'.env=compEnvC scope cl2 (s.heap.push { cls:=.type "list",data:=.seq #[] }).objs.size X.env:=by rw[← hX];rfl
 have ex:X'.xe=fun _ _=>False:=by rw[← hX];rfl
 have epn:X'.pn=[]:=by rw[← hX];rfl
 have eex:X'.ex=fp:=by rw[← hX];rfl
 have pg:PG X' tg g:=by rw[← hX];exact hg _ _ _ _ _
 have pe:PE X' elt te:=by rw[← hX];exact he _ _ _ _ _
 have pt:∀ c,ifs=[c]→PT X' c tc:=fun c q=>by rw[← hX];exact ht c q _ _ _ _ _
 have fpB:∀ {H':Hp},(∀ b∈fp,H' b=none)→∀ {s'':Shared} {σ':St},Inv X' [] σ' H' s''→∀ b∈fp,FpOk X' [] H' b:=fun {H'} hn {s'' σ'} Iv b hb =>
  ⟨hn b hb,(Iv.ok.exf b (by rw[eex];exact hb)).1,Iv.ok.exfs b (by rw[eex];exact hb),.inl (by rw[eex];exact hb),(Iv.ok.exf b (by rw[eex];exact hb)).2,fun p hp=>by rw[epn]at hp;exact(nomatch hp)⟩
 have loop:codeAny (model X.prog X.w) X.A (.compLoop (.ListComp elt [⟨tg,iter,ifs,0⟩] scope pos) 0 (.ref it) (.ref s.heap.objs.size) (compEnvC scope cl2 (s.heap.push { cls:=.type "list",data:=.seq #[] }).objs.size X.env))
   (RR (.ref s.heap.objs.size) (s.heap.push { cls:=.type "list",data:=.seq #[] }).objs.size) { s with heap:=h1 }:=by
  refine rg hifs (fun n s'=>∃ i σ' H' ys,Inv X' [] σ' H' s'∧tn i s'.heap∧(∀ b∈fp,H' b=none)∧W i n σ' H' ys) (fun n s5 ⟨i,σ5,H5,ys,I5,st5,fr5,w5⟩=>?_) m0
   ⟨0,startB own cap σ,_,[],I4,st1,fun b hb=>(hfp3 b hb).1,w0⟩
  obtain⟨hDy,hgo⟩:=hturn i n σ5 H5 ys w5
  have hs5:=fpB fr5 I5
  rcases hgo with ⟨stop,hfin⟩ | ⟨go,step⟩
  ·have q:=T.done X' eP ew eK ec i [] s5 σ5 H5 (fun _ _=>False) I5 hs5 st5 stop
   rw[eA]at q
   refine wpAny_mono q (fun r s6 ⟨hr,I6⟩=>?_) fun _ _ z=>z
   subst hr
   rw[← hX]at I6
   obtain⟨J1,J2,J3⟩:=tO I hf rfl rfl rfl rfl I6
   exact fin _ _ s6 H5 ys J1 J2 J3 hDy hfin
  ·have q:=T.item X' eP ew eK ec i [] s5 σ5 H5 (fun _ _=>False) I5 hs5 st5 go
   rw[eA]at q
   refine wpAny_mono q (fun r s6 ⟨u,hr,h6⟩=>?_) fun _ _ z=>z
   subst hr
   refine wpAny_mono h6 (fun _ s7 ⟨x,H7,I7,r7,y7,st7,fr7⟩=>?_) fun _ _ z=>z
   have I7':=I7.pinned (fpB fr7 I7) (T.obj _ _ st7)
   rw[List.nil_append]at I7'
   have qg:=pg _ s7 σ5 H7 x u _ I7' r7 (step x H7 y7)
   rw[eP,ew,eA,ee,ex]at qg
   refine wpAny_mono qg (fun _ s8 ⟨σ8,H8,I8,q8⟩=>?_) fun _ _ z=>z
   have again:∀ {s9:Shared} {H9:Hp} {zs:List V},Inv X' (pinsAt fp s7.heap) σ8 H9 s9→(∃ m',m' < n∧W (i+1) m' σ8 H9 zs) →
     ∃ m,m < n∧∃ i σ' H' ys,Inv X' [] σ' H' s9∧tn i s9.heap∧(∀ b∈fp,H' b=none)∧W i m σ' H' ys:=fun {s9 H9 zs} I9 ⟨m',hm,w9⟩=>by
    have I9':Inv X' ([]++pinsAt fp s7.heap) σ8 H9 s9:=by rw[List.nil_append];exact I9
    refine⟨m',hm,i+1,σ8,H9,zs,I9'.unpinned,T.keep _ _ _ st7 fun b hb o e=>(I9.pin (b,o) (List.mem_append_right _ (cX hb e))).1,fun b hb=>?_,w9⟩
    obtain⟨o,e,d⟩:=T.obj _ _ st7 b hb
    exact(I9.pin (b,o) (List.mem_append_right _ (cX hb e))).2.1
   have body:∀ (ok:Bool) (s9:Shared),(∃ H9,Inv X' (pinsAt fp s7.heap) σ8 H9 s9∧(if ok=true then te σ8 H9 fun y H4=>H4 s.heap.objs.size=some (.lst ys)∧ys.length < sizeLine∧∃ m',m' < n∧W (i+1) m' σ8 (upd H4 s.heap.objs.size (.lst (ys++[y]))) (ys++[y]) else ∃ m',m' < n∧W (i+1) m' σ8 H9 ys)) →
     if ok=true then wpAny (model X.prog X.w) X.A (eval elt (compEnvC scope cl2 (s.heap.push { cls:=.type "list",data:=.seq #[] }).objs.size X.env)) (fun x s5=>wpAny (model X.prog X.w) X.A (call (.builtin "list.append") [.ref s.heap.objs.size,x]) (fun _ s6=>∃ m,m < n∧∃ i σ' H' ys,Inv X' [] σ' H' s6∧tn i s6.heap∧(∀ b∈fp,H' b=none)∧W i m σ' H' ys) (fun _ _=>False) s5) (fun _ _=>False) s9
     else ∃ m,m < n∧∃ i σ' H' ys,Inv X' [] σ' H' s9∧tn i s9.heap∧(∀ b∈fp,H' b=none)∧W i m σ' H' ys:=by
    intro ok s9 ⟨H9,I9,h9⟩
    cases ok with
    | false=>exact again I9 h9
    | true =>
     have qe:=pe _ s9 σ8 H9 _ I9 h9
     rw[eP,ew,eA,ee,ex]at qe
     refine wpAny_mono qe (fun u s10 ⟨y,H10,I10,r10,hD10,hlt,m',hm,w10⟩=>?_) fun _ _ z=>z
     have qa:=eg (X:=X') (pinsAt fp s7.heap) s10 σ8 H10 (.ref s.heap.objs.size) [y] (.ref s.heap.objs.size) [u] (fun _ H11=>H11=upd H10 s.heap.objs.size (.lst (ys++[y]))) I10 rfl (.cons r10 .nil)
      ⟨s.heap.objs.size,ys,y,rfl,rfl,hD10,hlt,rfl⟩
     rw[eP,ew,eA,ex]at qa
     refine wpAny_mono qa (fun _ s11 ⟨_,H11,I11,_,e11⟩=>?_) fun _ _ z=>z
     subst e11
     exact again I11 ⟨m',hm,w10⟩
   refine rn hifs (fun q=>body true s8 ⟨H8,I8,oy q q8⟩) fun c q=>?_
   have qt:=pt c q _ s8 σ8 H8 _ I8 (oz q q8)
   rw[eP,ew,eA,ee,ex]at qt
   exact wpAny_mono qt (fun ok s9 ⟨H9,I9,h9⟩=>body ok s9 ⟨H9,I9,h9⟩) fun _ _ z=>z
 exact codeAny_compStart_list loop (T.self _ 0 _ _ _ st1 loop)
def tComp (own:Nat)(cap:List Nat)(wi:TI)(g:TG)(tc:TT)(te:TE):TE:=fun σ H Q=>wi σ H fun J H1=>∀ D,H1 D=none→∃ W,BlkW sizeLine J g tc te D (fun H' _=>Q (.ref D) H') W∧∃ m,W 0 m (startB own cap σ) (upd H1 D (.lst [])) []
theorem pQ (b:BlkOk X.N X.env.scope scope N own cap)(hc:X.calm=true)(hifs:ifs.length≤1)(hi:PI X tg iter wi)
  (hg:∀ cl C s H fp,PG (blk X scope cl C s H fp N) tg g) (ht:∀ c,ifs=[c]→∀ cl C s H fp,PT (blk X scope cl C s H fp N) c tc) (he:∀ cl C s H fp,PE (blk X scope cl C s H fp N) elt te)
  (hs:∀ x,foldedSetIterable iter X.env x=pure x:=by intro _;rfl):PE X (.ListComp elt [⟨tg,iter,ifs,0⟩] scope pos) (tComp own cap wi g (tTests ifs tc) te):=by
 intro pins s σ H Q I h
 obtain⟨cl,hclos,c1,c2⟩:=oq scope X.env fun y hy hf=>I.ok.has y.1 (b.free y hy hf)
 rw[eval_ListComp]
 refine wpAny_comprehension_free rfl hs hclos b.kind b.nloc (thn (hi pins s σ H _ I h) fun v s1 h1=>thn h1 fun itv s2 h2=>?_)
 obtain⟨it,fp,tn,J,H2,e,I2,T,st2,f2,hW⟩:=h2
 subst e
 refine tQ b hc hifs hg ht he hclos c1 c2 I2 T st2 f2 hW fun D C s' H' ys J1 J2 ⟨m,hm⟩ hD hQ=>?_
 refine⟨m,hm,fun h' hsb=>⟨.ref D,H',?_,rfl,hQ⟩⟩
 obtain⟨f0,f1,f2,f3,f4,f5⟩:=J2
 exact J1.turned (fun b o hb e=>(hsb.2 b hb).trans e) f0 f1 f3 f4 f5
end
theorem objThere {P:Program}{w:World}{H:Hp}{h:Heap}{a:Addr}{o:HO}(x:ObjOk P w H h a o):∃ ob,h.get? a=some ob:=by
 cases o with
 | lst xs=>obtain⟨_,_,_,_,e⟩:=x;exact⟨_,e⟩
 | tup xs=>obtain⟨_,_,_,o,e,_⟩:=x;exact⟨o,e⟩
 | dK kvs=>obtain⟨_,_,_,_,o,_,_,e,_⟩:=x;exact⟨o,e⟩
 | dT kvs=>obtain⟨_,_,_,_,o,_,_,e,_⟩:=x;exact⟨o,e⟩
 | set S n=>obtain⟨o,_,_,_,e,_⟩:=x;exact⟨o,e⟩
 | ins C dx fs=>obtain⟨_,_,_,e,_⟩:=x;exact⟨_,e⟩
 | own y=>exact x
 | xd fs=>obtain⟨_,⟨o,_,_,e,_⟩,_⟩:=x;exact⟨o,e⟩
 | rng lo hi=>obtain⟨_,_,_,e⟩:=x;exact⟨_,e⟩
 | frz ob u=>obtain⟨e,_⟩:=x;exact⟨_,e⟩
 | tbl ps=>exact⟨_,(show h.get? a=some _ from x)⟩
 | met f y=>exact⟨_,(show h.get? a=some _ from x)⟩
 | ext φ=>obtain⟨_,e,_⟩:=x;exact e
def Cov (B:Heap)(h h':Heap)(H':Hp)(l:List Env):Prop:=∀ b o,h'.get? b=some o→(H' b≠none∨∃ o',h.get? b=some o')→b∉frs l→B.get? b=some o
def CXE (P:Program)(w:World):CXT:=fun outer H s E e s' =>
 ∃ (ea C t:Addr) (H':Hp) (B:Heap),e=.ref ea∧s'.os=s.os∧AllBare s'.gens∧Un (frs outer) [] H H' s.heap s'.heap∧HOk P w H' s'.heap ∧
  Heap.FlyingW B outer ea (.ref C) (.ref t) s'.heap∧H' ea=none∧Cov B s.heap s'.heap H' outer∧E (.ref C) none H'
section
variable {X:Cx}{pins:List (Addr×Obj)}{σ:St}{H H':Hp}{s s':Shared}{B:Heap}
end
section
variable {P:Program}{w:World}{K:PySem.W.Frag}{mg:Str→Option Value}{base:Heap}{N:List Str}{qual:Str}{scope:Scope}{f:Addr}{cd:Value}{A:Around}{outer:List Env}{s0:Shared}{H0:Hp}{E:XK}
abbrev bodyX (P:Program)(w:World)(K:PySem.W.Frag)(mg:Str→Option Value)(base:Heap)(N:List Str)(qual:Str)(scope:Scope)(f:Addr)(cd:Value)(A:Around)(outer:List Env)(s0:Shared)(H0:Hp)(E:XK):Cx :=
 cxOf (CXE P w) P w K mg base N qual scope f cd A outer s0 H0 E
theorem pR {pins:List (Addr×Obj)}{σ:St}{H':Hp}{s':Shared}{B h2:Heap}{ea C t:Addr}(J:Inv (bodyX P w K mg base N qual scope f cd A outer s0 H0 E) pins σ H' s')
  (cov:Cov B s0.heap s'.heap H' (envOfC qual scope s0.heap.objs.size f cd::outer)) (up:s'.heap.UpToSlots h2) (fl:Heap.FlyingW B outer ea (.ref C) (.ref t) h2) (hn:H' ea=none) (hE:E (.ref C) none H') :
  CXE P w outer H0 s0 E (.ref ea) { s' with heap:=h2 }:=by
 have hB:=fl.1
 have nloc:∀ b o,s0.heap.get? b=some o→b≠s0.heap.objs.size:=fun b o e=>Nat.ne_of_lt (Heap.lt_size e)
 have nstk:∀ b,b≠s0.heap.objs.size→b∉frs outer→b∉frs (envOfC qual scope s0.heap.objs.size f cd::outer):=fun b h1 h2 z=>(List.mem_cons.mp (J.stkSub b z)).elim h1 h2
 have trk:=fun b o e ht=>cov b o e (.inl ht) fun z=>ht (J.stkFree b z)
 have noe:∀ b:Addr,b∉([]:List Addr):=fun _ z=>nomatch z
 have nf:∀ b∈frs outer,∀ o,s'.heap.get? b=some o→∀ vs,o.data≠.fields vs:=fun b hb o e=>by
  obtain⟨_,o',e',d⟩:=J.funs.mem hb
  rw[e]at e';cases e';exact d
 have thr:∀ b o,s0.heap.get? b=some o→∃ o',s'.heap.get? b=some o'∧(b∉frs outer→B.get? b=some o'):=fun b o e=>by
  obtain⟨o',e1⟩:=J.base.there b o e (noe b)
  exact⟨o',e1,fun hb=>cov b o' e1 (.inr ⟨o,e⟩) (nstk b (nloc b o e) hb)⟩
 refine⟨ea,C,t,H',B,rfl,J.os,J.bare,⟨fun b o e n hb hx=>?_,fun b o e n hb hx=>?_,J.base.free,fun b o e hx=>?_,J.base.tups,J.base.frzs,J.base.tbls⟩,fun b u e=>?_,fl,hn,fun b o e hc hb=>?_,hE⟩
 ·have e1:=J.base.keep b o e n hb hx
  exact hB b o (cov b o e1 (.inr ⟨o,e⟩) (nstk b (nloc b o e) hb))
 ·obtain⟨sl,e1⟩:=J.base.slot b o e n hb hx
  obtain⟨sl',e2⟩:=up b _ e1 (nf b hb _ e1)
  exact⟨sl',e2⟩
 ·obtain⟨o',e1,e2⟩:=thr b o e
  by_cases hb:b∈frs outer
  ·obtain⟨sl',e3⟩:=up b _ e1 (nf b hb _ e1)
   exact⟨_,e3⟩
  ·exact⟨o',hB b o' (e2 hb)⟩
 ·refine(J.hok b u e).stay (fun c v hc q=>hB c v (trk c v q ?_)) (fun _ q=>q) fun _ _ q=>q
  rcases hc with z | z
  ·subst z;rw[e];simp
  ·rw[z];simp
 ·have same:∀ o',s'.heap.get? b=some o'→B.get? b=some o'→B.get? b=some o:=fun o' _ q=>by
   have:=hB b o' q
   have e':=e
   rw[e']at this;cases this;exact q
  rcases hc with z | ⟨o',z⟩
  ·cases q:H' b with
   | none=>exact absurd q z
   | some u =>
    obtain⟨o',e1⟩:=objThere (J.hok b u q)
    exact same o' e1 (trk b o' e1 (by rw[q];simp))
  ·obtain⟨o'',e1,e2⟩:=thr b o' z
   exact same o'' e1 (e2 hb)
theorem bd:Passes (CXE P w) (bodyX P w K mg base N qual scope f cd A outer s0 H0 E) E:=by
 intro pins σ H s e s' I h
 obtain⟨ea,C,t,H',B,rfl,os,bare,un,hok,fl,hn,cov,hE⟩:=h
 have J:=I.call' os un hok bare fun b z=>nomatch z
 refine wpAny_leaves_onW I.ok.frames rfl fl fun h2 fl2 up=>?_
 refine pR J (fun b o e hc hb=>cov b o e ?_ hb) up fl2 hn hE
 rcases hc with z | ⟨o',z⟩
 ·exact .inl z
 ·obtain⟨o'',z'⟩:=I.base.there b o' z (fun q=>nomatch q)
  exact .inr ⟨o'',z'⟩
theorem eh {pins:List (Addr×Obj)}{σ:St}{H:Hp}{s:Shared}{h1:Heap}{ea C:Addr}{args:List Value}(I:Inv (bodyX P w K mg base N qual scope f cd A outer s0 H0 E) pins σ H s)(hx:Heap.MadeExcOf s.heap h1 ea (.ref C) args)(hE:E (.ref C) none H) :
  (bodyX P w K mg base N qual scope f cd A outer s0 H0 E).xe (.ref ea) { s with heap:=h1 }:=by
 have hin:∀ env∈(envOfC qual scope s0.heap.objs.size f cd::outer),∀ a,env.frame=some a→a∈frs (envOfC qual scope s0.heap.objs.size f cd::outer):=fun env he a ha=>List.mem_filterMap.mpr ⟨env,he,ha⟩
 refine wpAny_leaves_madeW I.ok.frames rfl (fun b o q=>PySem.W.of_hideAll _ q) (PySem.W.funFrames_hide I.stack hin) hx fun h2 t fl _ _ up=>?_
 have hn:H ea=none:=by
  cases q:H ea with
  | none=>rfl
  | some u =>
   obtain⟨o,e⟩:=objThere (I.hok ea u q)
   rw[hx.new]at e;cases e
 exact pR (s':=s) I (fun b o e _ hb=>PySem.W.hideAll_get _ e hb) ((Heap.UpToSlots.of_keeps hx.keeps).trans up) fl hn hE
end
def Walk (J:It)(vs:List V)(Ok:Hp→Prop):Prop:=∀ (i:Nat) (H:Hp),Ok H→(i < vs.length→J.go i H∧∀ x H',J.yld i H x H'→H'=H∧vs[i]?=some x)∧(vs.length≤i→J.stop i H)
def WalkG (F:Fx)(J:It)(ds:List D)(Z1:Hp):Prop:=∀ (i:Nat) (H Z:Hp),Same Z1 Z→Same Z H→(i < ds.length→J.go i H∧∀ x H',J.yld i H x H'→∃ Z' d,Ex H Z H' Z'∧ds[i]?=some d∧Rep F.K F.C Z' d x)∧(ds.length≤i→J.stop i H)
theorem fw {F:Fx}{J:It}{ds:List D}{vs:List V}{Z1:Hp}(rs:Reps F.K F.C Z1 ds vs)(w:Walk J vs (Same Z1)):WalkG F J ds Z1:=fun i H Z z1 z2=>by
 obtain⟨k1,k2⟩:=w i H (z1.trans z2)
 have hl:=rs.length
 refine⟨fun hi=>?_,fun hi=>k2 (by omega)⟩
 obtain⟨go,y⟩:=k1 (by omega)
 exact⟨go,fun x H' hy=>by
  obtain⟨e0,e2⟩:=y x H' hy
  subst e0
  obtain⟨d,e3,rd⟩:=rs.get' e2
  exact⟨Z,d,Ex.refl z2,e3,rd.mono z1⟩⟩
def tI (F:Fx)(g:SS→R (List D)):TI:=fun σ H Q=>∃ Z S,StOk F H Z S σ∧WG F H Z (g S) fun ds H' Z'=>∀ J,WalkG F J ds Z'→ds.length≤16777216→Q J H'
abbrev FI (X:Cx)(F:Fx)(tg e:Expr)(g:SS→R (List D)):Prop:=PI X tg e (tI F g)
def asSeq:D→R (List D)
 | .tup xs=>.ok xs
 | .lst xs=>.ok xs
 | _=>.stuck
def iSeq (g:SS→R D):SS→R (List D):=fun S=>(g S).bind fun d=>(asSeq d).bind fun ds=>if ds.length≤16777216 then .ok ds else .stuck
theorem _root_.L2.PI.weak {X:Cx}{tg e:Expr}{t t':TI}(h:PI X tg e t)(w:∀ σ H Q,t' σ H Q→t σ H Q):PI X tg e t':=fun pins s σ H Q I q=>h pins s σ H Q I (w σ H Q q)
theorem rq {K:PySem.W.Frag}{a:Addr}{vs:List V}{Z:Hp}(h:SqL K Z a vs):Walk (Itl K a) vs (Same Z):=fun i H hz =>
 ⟨fun hi=>⟨⟨vs,vs[i],hz.seq h,by simp[hi]⟩,fun x H' ⟨e,y⟩=>⟨e,y vs (hz.seq h)⟩⟩,fun hi=>⟨vs,hz.seq h,hi⟩⟩
theorem tR {K:PySem.W.Frag}{a:Addr}{vs:List V}{Z:Hp}(h:SqT K Z a vs):Walk (Itt K a) vs (Same Z):=fun i H hz =>
 ⟨fun hi=>⟨⟨vs,vs[i],h.mono hz,by simp[hi]⟩,fun x H' ⟨e,y⟩=>⟨e,y vs (h.mono hz)⟩⟩,fun hi=>⟨vs,h.mono hz,hi⟩⟩
theorem iU {lo:Int}{n:Nat}{Z:Hp}:Walk (Itr lo n) ((List.range n).map fun i=>.int (lo+(i:Nat))) (Same Z):=fun i H hz=>by
 refine⟨fun hi=>?_,fun hi=>?_⟩
 ·have hi':i < n:=by simpa using hi
  exact⟨hi',fun x H' ⟨e,y⟩=>⟨e,by rw[y];simp[hi']⟩⟩
 ·show n≤i
  simpa using hi
theorem yG {X:Cx}{tg l:Expr}{tl:TE}(hl:PE X l tl):PI X tg l (fun σ H R=>tl σ H fun x H1=>∃ a,x=.ref a∧(((∃ xs,SqL X.K H1 a xs)∧R (Itl X.K a) H1)∨((∃ xs,SqT X.K H1 a xs)∧R (Itt X.K a) H1))):=by
 intro pins s σ H Q I h
 refine thn (hl pins s σ H _ I h) fun v s1 ⟨x,H1,I1,r1,a,e,q⟩=>?_
 subst e
 cases r1
 rcases q with ⟨⟨xs,hq⟩,q⟩ | ⟨⟨xs,hq⟩,q⟩
 ·obtain⟨its,rv,p,hz⟩:=I1.list hq
  refine wpAny_pyIter_list p.isList ⟨s1.heap.objs.size,[s1.heap.objs.size],_,_,H1,rfl,I1.kept fun b o e=>Heap.get?_push_of_some _ e,qS a _,⟨_,Heap.get?_push_size _ rfl,rfl,rfl⟩,fun b hb=>?_,q⟩
  obtain rfl:b=s1.heap.objs.size:=by simpa using hb
  exact I1.fpOk (Nat.le_refl _) (I1.hok.fresh (Nat.le_refl _))
 ·obtain⟨its,rv,p,hz⟩:=I1.tuple hq
  refine wpAny_pyIter_tuple (show s1.heap.IsTuple a its.toArray from p) ⟨s1.heap.objs.size,[s1.heap.objs.size],_,_,H1,rfl,I1.kept fun b o e=>Heap.get?_push_of_some _ e,n5 a _,⟨_,Heap.get?_push_size _ rfl,rfl,rfl⟩,fun b hb=>?_,q⟩
  obtain rfl:b=s1.heap.objs.size:=by simpa using hb
  exact I1.fpOk (Nat.le_refl _) (I1.hok.fresh (Nat.le_refl _))
section
variable {X:Cx}{F:Fx}{tg e:Expr}{g:SS→R D}{gs:SS→R (List D)}
theorem iV (hK:X.K=F.K)(h:FE X F e g):FI X F tg e (iSeq g):=(yG h).weak fun σ H Q ⟨Z,S,ok,w⟩=>ah ok w fun d v H1 Z1 ok1 x1 rv w1=>by
 rw[hK]
 cases d with
 | tup ds =>
  rw[Rep]at rv
  obtain⟨a,vs,rfl,h1,h2⟩:=rv
  have w2:WG F H1 Z1 (if ds.length≤16777216 then R.ok ds else .stuck) _:=w1
  split at w2
  ·rename_i hl
   exact⟨a,rfl,.inr ⟨⟨vs,h1.mono ok1.sub⟩,WG.now w2 ok1.sub _ (fw h2 (tR h1)) hl⟩⟩
  ·exact w2.elim
 | lst ds =>
  rw[Rep]at rv
  obtain⟨a,vs,rfl,h1,h2⟩:=rv
  have w2:WG F H1 Z1 (if ds.length≤16777216 then R.ok ds else .stuck) _:=w1
  split at w2
  ·rename_i hl
   exact⟨a,rfl,.inl ⟨⟨vs,ok1.sub.seq h1⟩,WG.now w2 ok1.sub _ (fw h2 (rq h1)) hl⟩⟩
  ·exact w2.elim
 | _=>exact w1.elim
def rngD (lo:Int)(n:Nat):List D:=(List.range n).map fun i=>.int (lo+(i:Nat))
def rng1:List D→R (List D)
 | [.int j]=>if -16777216≤j∧j≤16777216 then .ok (rngD 0 j.toNat) else .stuck
 | _=>.stuck
def rng2:List D→R (List D)
 | [.int i,.int j]=>if (-16777216≤i∧i≤16777216)∧(-16777216≤j∧j≤16777216)∧j - i≤16777216 then .ok (rngD i (j - i).toNat) else .stuck
 | _=>.stuck
def iRange1 (gs:SS→R (List D)):SS→R (List D):=fun S=>(gs S).bind rng1
def iRange2 (gs:SS→R (List D)):SS→R (List D):=fun S=>(gs S).bind rng2
theorem iW {K:PySem.W.Frag}{C:Nat→Addr}{Z:Hp}(lo:Int):∀ (l:List Nat),Reps K C Z (l.map fun i=>.int (lo+(i:Nat))) (l.map fun i=>.int (lo+(i:Nat)))
 | []=>Reps.nil
 | a::r=>Reps.cons (by rw[Rep]) (iW lo r)
theorem pS {K:PySem.W.Frag}{C:Nat→Addr}{Z:Hp}{j:Int}{vs:List V}(r:Reps K C Z [.int j] vs):vs=[.int j]:=by
 rw[Reps]at r
 obtain⟨v,r',rfl,h1,h2⟩:=r
 rw[Reps]at h2
 rw[Rep]at h1
 rw[h1,h2]
theorem mS {K:PySem.W.Frag}{C:Nat→Addr}{Z:Hp}{i j:Int}{vs:List V}(r:Reps K C Z [.int i,.int j] vs):vs=[.int i,.int j]:=by
 rw[Reps]at r
 obtain⟨v,r',rfl,h1,h2⟩:=r
 rw[Rep]at h1
 rw[h1,pS h2]
theorem vR {ds:List D}{es:List D}(h:rng1 ds=.ok es):∃ j:Int,ds=[.int j]∧(-16777216≤j∧j≤16777216)∧es=rngD 0 j.toNat:=by
 unfold rng1 at h
 split at h
 ·rename_i j
  split at h
  ·rename_i q;cases h;exact⟨j,rfl,q,rfl⟩
  ·cases h
 ·cases h
theorem vT {ds:List D}{es:List D}(h:rng2 ds=.ok es):∃ i j:Int,ds=[.int i,.int j]∧((-16777216≤i∧i≤16777216)∧(-16777216≤j∧j≤16777216)∧j - i≤16777216)∧es=rngD i (j - i).toNat:=by
 unfold rng2 at h
 split at h
 ·rename_i i j
  split at h
  ·rename_i q;cases h;exact⟨i,j,rfl,q,rfl⟩
  ·cases h
 ·cases h
theorem vU {ds:List D}{k:Nat}(h:rng1 ds=.err k):False:=by
 unfold rng1 at h
 split at h
 ·split at h<;>cases h
 ·cases h
theorem vV {ds:List D}{k:Nat}(h:rng2 ds=.err k):False:=by
 unfold rng2 at h
 split at h
 ·split at h<;>cases h
 ·cases h
theorem gF {a:Expr}{p pos:Pos}(hg:Gl X "range")(hm:X.mg "range"=none)(ha:FA X F [a] gs)(hs:starEach [a] X.env=[(false,eval a X.env)]:=by rfl):FI X F tg (.Call (.Name "range" p) [a] [] pos) (iRange1 gs) :=
 (qT hg hm ha hs).weak fun σ H Q ⟨Z,S,ok,w⟩=>aw ok w fun ds vs H1 Z1 ok1 x1 rs w1=>by
  cases e:rng1 ds with
  | err k=>exact(vU e).elim
  | stuck=>rw[e]at w1;exact w1.elim
  | ok es =>
   rw[e]at w1
   obtain⟨j,rfl,hj,rfl⟩:=vR e
   exact⟨j,pS rs,by omega,by omega,WG.now w1 ok1.sub _ (fw (iW 0 _) iU) (by unfold rngD;rw[List.length_map,List.length_range];omega)⟩
theorem rz {a b:Expr}{p pos:Pos}(hg:Gl X "range")(hm:X.mg "range"=none)(ha:FA X F [a,b] gs)(hs:starEach [a,b] X.env=[(false,eval a X.env),(false,eval b X.env)]:=by rfl)(hs2:starEach [b] X.env=[(false,eval b X.env)]:=by rfl) :
  FI X F tg (.Call (.Name "range" p) [a,b] [] pos) (iRange2 gs) :=
 (qU hg hm ha hs hs2).weak fun σ H Q ⟨Z,S,ok,w⟩=>aw ok w fun ds vs H1 Z1 ok1 x1 rs w1=>by
  cases e:rng2 ds with
  | err k=>exact(vV e).elim
  | stuck=>rw[e]at w1;exact w1.elim
  | ok es =>
   rw[e]at w1
   obtain⟨i,j,rfl,hj,rfl⟩:=vT e
   exact⟨i,j,mS rs,⟨by omega,by omega,by omega,by omega⟩,WG.now w1 ok1.sub _ (fw (iW i _) iU) (by unfold rngD;rw[List.length_map,List.length_range];omega)⟩
end
def tGd (F:Fx)(g:D→SS→R SS):TG:=fun v σ H Q=>∃ Z S d,StOk F H Z S σ∧Rep F.K F.C Z d v∧WG F H Z (g d S) fun S' H' Z'=>∀ σ',StOk F H' Z' S' σ'→Q σ' H'
abbrev FG (X:Cx)(F:Fx)(tg:Expr)(g:D→SS→R SS):Prop:=PG X tg (tGd F g)
def gNm (i:Nat):D→SS→R SS:=fun d S=>.ok (S.set i (some (.val d)))
theorem _root_.L2.PG.weak {X:Cx}{tg:Expr}{t t':TG}(h:PG X tg t)(w:∀ v σ H Q,t' v σ H Q→t v σ H Q):PG X tg t':=fun pins s σ H v u Q I r q=>h pins s σ H v u Q I r (w v σ H Q q)
theorem bp {X:Cx}{F:Fx}(i:Nat){x:Str}{pos:Pos}(hN:X.N.Nodup)(hi:X.N[i]?=some x:=by rfl)(hx:Loc X.env.scope x:=by first | exact Or.inl rfl | exact Or.inr rfl)(hf:X.fn x=true∨X.env.scope.names.lookup x=some .local:=by first | exact .inl rfl | exact .inr rfl) :
  FG X F (.Name x pos) (gNm i):=(fm hN hi hx hf).weak fun v σ H Q ⟨Z,S,d,ok,r,w⟩=>WG.now w ok.sub _ (ok.setVal r)
def spF (K:PySem.W.Frag)(C:Nat→Addr)(n:Nat)(f:List D→R D):Sp:=fun vs H Q E =>
 vs.length=n∧∃ Z ds,Same Z H∧Reps K C Z ds vs∧WG ⟨K,C,H,Z,E⟩ H Z (f ds) fun d H' Z'=>∀ v,Rep K C Z' d v→Q v H'
def outD (o:O):R D:=match o with
 | .nx _=>.ok .non
 | .rt d=>.ok d
 | .er k=>.err k
 | _=>.stuck
def startS (n:Nat)(ds:List D):SS:=ds.map (fun d=>some (.val d))++List.replicate (n - ds.length) none
def fnD (n:Nat)(body:SS→O):List D→R D:=fun ds=>outD (body (startS n ds))
theorem dD {F:Fx}{N:List Str}{ds:List D}{vs:List V}(z:Same F.Z0 F.H0)(r:Reps F.K F.C F.Z0 ds vs):StOk F F.H0 F.Z0 (startS N.length ds) (start N vs):=by
 have hl:=r.length
 have at_:∀ {i:Nat} {x:Option Sl},(startS N.length ds)[i]?=some x→(i < ds.length∧∃ d,ds[i]?=some d∧x=some (.val d))∨x=none:=fun {i x} e=>by
  unfold startS at e
  grind
 refine⟨Ex.refl z,?_,fun i d e=>?_,fun i j x y v w A B _ e1 _ _ _ o1 _=>?_⟩
 ·unfold startS L2.start
  simp[hl]
 ·rcases at_ e with ⟨hi,d',e1,e2⟩ | e2
  ·cases e2
   obtain⟨v,e3,rv⟩:=r.get e1
   refine⟨v,[],?_,⟨rfl,rv⟩,Priv.nil⟩
   unfold L2.start
   grind
  ·cases e2
 ·rcases at_ e1 with ⟨_,d',_,e2⟩ | e2
  ·cases e2;rw[o1.1];exact fun a ha=>nomatch ha
  ·cases e2
section
variable {P:Program}{w:World}{K:PySem.W.Frag}{mg:Str→Option Value}{base:Heap}
structure BX (X:Cx)(F:Fx)(k:Nat):Prop where
 room:Room k X.A
 K:X.K=F.K
 calm:X.calm=true
 pass:Passes (CXE X.prog X.w) X F.E
theorem An {x qual:Str}{st:Stmt}{f:Addr}{fd:FuncData}{N ps:List Str}{k:Nat}{C:Nat→Addr}{body:SS→O}(F:Fun K x qual st f fd)(S:FnScope N ps (defScope st))
  (h:∀ (cdv:Value) (A:Around) (outer:List Env) (s:Shared) (H Z:Hp) (E:XK),BX (bodyX P w K mg base N qual (defScope st) f cdv A outer s H E) ⟨K,C,H,Z,E⟩ k →
   PassesOwn (model P w) (bodyX P w K mg base N qual (defScope st) f cdv A outer s H E).A (bodyX P w K mg base N qual (defScope st) f cdv A outer s H E).env (bodyX P w K mg base N qual (defScope st) f cdv A outer s H E).xe →
   FSs (bodyX P w K mg base N qual (defScope st) f cdv A outer s H E) ⟨K,C,H,Z,E⟩ (defBody st) body) :
  FnOk P w K mg base (CXE P w) (k+1) f fd ps (spF K C ps.length (fnD N.length body)):=by
 obtain⟨oc,od,kV,doc,pm,an,cdv,ct,osl,rfl,lk,hcd⟩:=F.ex
 refine kI lk hcd S (fun vs H Q E q=>q.1) fun A outer s H vs Q E hr hsp=>?_
 obtain⟨_,Z,ds,z,r,w⟩:=hsp
 refine⟨_,h cdv A outer s H Z E ⟨hr,rfl,rfl,bd⟩ PassesOwn.leaving,Z,startS N.length ds,dD (F:=⟨K,C,H,Z,E⟩) (N:=N) z r,?_⟩
 unfold fnD at w
 cases e:body (startS N.length ds) with
 | nx S'=>rw[e]at w;exact fun σ' H' Z' _ ok=>w H' Z' ok.ex .non (by rw[Rep])
 | rt d=>rw[e]at w;exact fun v H' Z' x rv=>w H' Z' x v rv
 | er k=>rw[e]at w;exact w
 | bk S'=>rw[e]at w;exact w.elim
 | ct S'=>rw[e]at w;exact w.elim
 | stuck=>rw[e]at w;exact w
end
structure Fn1 (P:Program)(w:World)(K:PySem.W.Frag)(mg:Str→Option Value)(base:Heap)(C:Nat→Addr)(k:Nat)(x:Str)(ps:List Str)(f:List D→R D):Prop where
 ex:∃ a fd,FnOk P w K mg base (CXE P w) k a fd ps (spF K C ps.length f)∧mg x=some (.ref a)∧PySem.W.keepIn K (.ref a)=true∧Binds K fd ps []
def eCall (f:List D→R D)(gs:SS→R (List D)):SS→R D:=fun S=>(gs S).bind f
section
variable {X:Cx}{F:Fx}{x:Str}{p pos:Pos}{e:Expr}{es:List Expr}{gs:SS→R (List D)}{k:Nat}{ps:List Str}{f:List D→R D}
theorem tU (n:Nat)(hn:∀ S ds,gs S=.ok ds→ds.length=n):∀ σ H Q,tE F (eCall f gs) σ H Q→tCall (spF F.K F.C n f) [] F.E (tAl F gs) σ H Q:=fun σ H Q ⟨Z,S,ok,w⟩=>by
 refine⟨Z,S,ok,?_⟩
 cases e:gs S with
 | err k=>unfold eCall at w;rw[e]at w;exact w
 | stuck=>unfold eCall at w;rw[e]at w;exact w
 | ok ds =>
  unfold eCall at w
  rw[e]at w
  intro H1 Z1 x1 vs rs
  have w1:=WG.more (r:=f ds) w x1
  refine⟨by rw[List.append_nil,← rs.length];exact hn S ds e,Z1,ds,x1.sub,by rw[List.append_nil];exact rs,?_⟩
  cases q:f ds with
  | ok d=>rw[q]at w1;exact w1
  | err k=>rw[q]at w1;exact w1
  | stuck=>rw[q]at w1;exact w1
theorem vW (b:BX X F k)(h:Fn1 X.prog X.w F.K X.mg X.base F.C k x ps f)(hg:Gl X x)(ha:FA X F (e::es) gs)(hn:∀ S ds,gs S=.ok ds→ds.length=ps.length)(hdb:(x==("__debug__":Str))=false:=by decide)
  (he:starEach (e::es) X.env=(false,eval e X.env)::starEach es X.env:=by rfl) (hpl:(backTo pos (starEach es X.env)).any (·.1)=false:=by rfl):FE X F (.Call (.Name x p) (e::es) [] pos) (eCall f gs):=by
 obtain⟨a,fd,h1,h2,h3,h4⟩:=h.ex
 have hK:=b.K
 exact(vC (by rw[hK];exact h1) b.room hg h2 (by grind) (by grind) .nil b.pass ha hdb he hpl).weak (tU ps.length hn)
theorem kK {g:SS→R D}{gs:SS→R (List D)}{n:Nat}(h:∀ S ds,gs S=.ok ds→ds.length=n):∀ S ds,aCons g gs S=.ok ds→ds.length=n+1:=fun S ds e=>by
 unfold aCons at e
 cases q:g S with
 | err k=>rw[q]at e;cases e
 | stuck=>rw[q]at e;cases e
 | ok d =>
  rw[q]at e
  cases q2:gs S with
  | err k=>rw[R.bind_ok,q2]at e;cases e
  | stuck=>rw[R.bind_ok,q2]at e;cases e
  | ok r =>
   rw[R.bind_ok,q2]at e
   cases e
   simp[h S r q2]
end
def noErr {α:Type}(r:R α):R α:=match r with
 | .ok a=>.ok a
 | _=>.stuck
def blkS (own:Nat)(cap:List Nat)(S:SS):SS:=List.replicate own none++cap.map fun i=>match S[i]? with
 | some (some (.val d))=>some (.val d)
 | _=>none
def compGo (S:SS)(g:D→SS→R SS)(c:SS→R Bool)(e:SS→R D):List D→R (List D)
 | []=>.ok []
 | d::r=>(g d S).bind fun S1=>(c S1).bind fun t=>if t=true then (e S1).bind fun y=>(compGo S g c e r).bind fun ys=>.ok (y::ys) else compGo S g c e r
def eComp (own:Nat)(cap:List Nat)(it:SS→R (List D))(g:D→SS→R SS)(c:SS→R Bool)(e:SS→R D):SS→R D:=fun S=>(it S).bind fun ds=>(noErr (compGo (blkS own cap S) g c e ds)).bind fun ys=>.ok (.lst ys)
def tTrue:SS→R Bool:=fun _=>.ok true
abbrev noE (F:Fx):Fx:={ F with E:=fun _ _ _=>False }
def Own (own:Nat)(g:D→SS→R SS):Prop:=∀ d S S1,g d S=.ok S1→S1.length=S.length∧∀ i,own≤i→S1[i]?=S[i]?
theorem aR {X:Cx}{F:Fx}{k:Nat}(bx:BX X F k){scope:Scope}{cl:List (Str×Addr)}{C:Addr}{s:Shared}{H:Hp}{fp:List Addr}{N:List Str}:BX (blk X scope cl C s H fp N) (noE F) k :=
 ⟨bx.room,bx.K,rfl,fun pins σ H s e s' _ h=>by
  obtain⟨_,_,_,_,_,_,_,_,_,_,_,_,_,hE⟩:=h
  exact hE.elim⟩
theorem dE {own i:Nat}(h:i < own):Own own (gNm i):=fun d S S1 e=>by
 cases e
 exact⟨by simp,fun j hj=>List.getElem?_set_ne (by omega)⟩
theorem StOk.forget {F:Fx}{H Z:Hp}{S S0:SS}{σ:St}(h:StOk F H Z S σ)(hl:S0.length=S.length)(hs:∀ (i:Nat) (x:Sl),S0[i]?=some (some x)→S[i]?=some (some x)):StOk F H Z S0 σ :=
 ⟨h.ex,hl.trans h.len,fun i x e=>h.sl i x (hs i _ e),fun i j x y v w A B hij e1 e2=>h.dj i j x y v w A B hij (hs i _ e1) (hs j _ e2)⟩
theorem fA {own:Nat}{cap:List Nat}{S:SS}{i:Nat}{x:Sl}(e:(blkS own cap S)[i]?=some (some x)):own≤i∧∃ k d,cap[i - own]?=some k∧S[k]?=some (some (.val d))∧x=.val d:=by
 unfold blkS at e
 by_cases hi:i < own
 ·rw[List.getElem?_append_left (by simpa using hi),List.getElem?_replicate]at e
  split at e<;>cases e
 ·rw[List.getElem?_append_right (by simpa using hi),List.length_replicate,List.getElem?_map]at e
  cases q:cap[i - own]? with
  | none=>rw[q]at e;cases e
  | some k =>
   rw[q]at e
   simp only[Option.map_some,Option.some.injEq]at e
   split at e
   ·rename_i d q2
    cases e
    exact⟨by omega,k,d,rfl,q2,rfl⟩
   ·cases e
theorem rA {F:Fx}{H Z:Hp}{S:SS}{σ:St}{own:Nat}{cap:List Nat}{D:Addr}(ok:StOk F H Z S σ)(hD:H D=none):StOk (noE F) (upd H D (.lst [])) Z (blkS own cap S) (startB own cap σ):=by
 refine⟨ok.ex.trans (Ex.hidden ok.sub hD),by simp[blkS,startB],fun i x e=>?_,fun i j x y v w A B _ e1 _ _ _ o1 _=>?_⟩
 ·obtain⟨hi,k,d',q1,q2,q3⟩:=fA e
  cases q3
  obtain⟨v,e1,r⟩:=ok.val k d' q2
  refine⟨v,[],?_,⟨rfl,r⟩,Priv.nil⟩
  unfold startB
  rw[List.getElem?_append_right (by simpa using hi),List.length_replicate,List.getElem?_map,q1]
  simp[e1]
 ·obtain⟨_,_,_,_,_,q⟩:=fA e1
  cases q
  rw[o1.1];exact fun a ha=>nomatch ha
section
variable {X:Cx}{F:Fx}{tg iter elt:Expr}{ifs:List Expr}{scope:Scope}{N:List Str}{own:Nat}{cap:List Nat}{pos:Pos}{git:SS→R (List D)}{g:D→SS→R SS}{gc:SS→R Bool}{ge:SS→R D}
theorem oA {σ:St}{H Z:Hp}{S:SS}{ifs:List Expr}{P:D→Hp→Hp→Prop}{Q:Addr→Hp→Prop}(hgc:ifs=[]→gc=tTrue)(hgo:Own own g)(ok:StOk F H Z S σ)(w:WG F H Z (eComp own cap git g gc ge S) P)
  (hP:∀ D ys ds H1 Z1 H' Z',Ex H Z H1 Z1→H1 D=none→Ex H1 Z1 H' Z'→Z' D=none→(∀ H'' Z'',Ex H1 Z1 H'' Z''→P (.lst ds) H'' Z'')→H' D=some (.lst ys)→Reps F.K F.C Z' ds ys→Q D H') :
  tI F git σ H fun J H1=>∀ D,H1 D=none→∃ W,BlkW sizeLine J (tGd (noE F) g) (tTests ifs (tT (noE F) gc)) (tE (noE F) ge) D (fun H' _=>Q D H') W∧∃ m,W 0 m (startB own cap σ) (upd H1 D (.lst [])) []:=by
 refine⟨Z,S,ok,?_⟩
 unfold eComp at w
 cases e:git S with
 | err k=>rw[e]at w;exact w
 | stuck=>rw[e]at w;exact w
 | ok ds =>
  rw[e]at w
  intro H1 Z1 x1 J wk hlen D hD
  have w1:=WG.more w x1
  have ok1:=ok.more x1
  have hS:=sizeLine_eq
  refine⟨fun i m σ' H' ys=>m=ds.length - i∧i≤ds.length∧H' D=some (.lst ys)∧ys.length≤i∧∃ Z' acc,Ex H1 Z1 H' Z'∧Z' D=none∧Reps F.K F.C Z' acc ys∧StOk (noE F) H' Z' (blkS own cap S) σ' ∧
   WG F H1 Z1 ((noErr (compGo (blkS own cap S) g gc ge (ds.drop i))).bind fun zs=>R.ok (FF.D.lst (acc++zs))) P,?_,ds.length,rfl,Nat.zero_le _,af,Nat.le_refl _,Z1,[],Ex.hidden ok1.sub hD,ok1.sub.free hD,Reps.nil,rA ok1 hD,w1⟩
  rintro i m σ2 H2 ys ⟨rfl,hle,hDy,hyl,Z2,acc,x2,hZD,ra,ok2,w2⟩
  refine⟨hDy,?_⟩
  obtain⟨k1,k2⟩:=wk i H2 Z2 x2.z x2.sub
  by_cases hlt:i < ds.length
  ·obtain⟨go,y⟩:=k1 hlt
   refine .inr ⟨go,fun x H' hy=>?_⟩
   obtain⟨Z2',d,x',e3,rd⟩:=y x H' hy
   have ok2:=ok2.more x'
   have hZD:Z2' D=none:=by
    cases r:Z2' D with
    | none=>rfl
    | some o =>
     rcases x'.new D (by rw[r];simp) with z | z
     ·exact absurd hZD z
     ·rw[hDy]at z;cases z
   have hDy:=x'.same _ _ hDy
   have x2:=x2.trans x'
   have ra:=ra.mono x'.z
   have hd:ds.drop i=d::ds.drop (i+1):=by
    obtain⟨hi,e4⟩:=List.getElem?_eq_some_iff.mp e3
    rw[List.drop_eq_getElem_cons hi,e4]
   rw[hd]at w2
   unfold compGo at w2
   refine⟨Z2',blkS own cap S,d,ok2,rd,?_⟩
   cases qg:g d (blkS own cap S) with
   | err k=>rw[qg]at w2;exact w2.elim
   | stuck=>rw[qg]at w2;exact w2.elim
   | ok S1 =>
    rw[qg,R.bind_ok]at w2
    intro H3 Z3 x3 σ3 ok3
    obtain⟨gl,gk⟩:=hgo _ _ _ qg
    have back:∀ {H Z:Hp},StOk (noE F) H Z S1 σ3→StOk (noE F) H Z (blkS own cap S) σ3:=fun h=>h.forget gl.symm fun j z q=>by
     rw[gk j (fA q).1];exact q
    have hD3:=x3.same _ _ hDy
    have x13:=x2.trans x3
    have zD:∀ {H Z:Hp},Ex H1 Z1 H Z→Ex H' Z2' H Z→Z D=none:=fun {H Z} _ q=>by
     cases r:Z D with
     | none=>rfl
     | some o =>
      rcases q.new D (by rw[r];simp) with z | z
      ·exact absurd hZD z
      ·rw[hDy]at z;cases z
    have fin:∀ (t:Bool) (H4 Z4:Hp),Ex H' Z2' H4 Z4→StOk (noE F) H4 Z4 S1 σ3→gc S1=.ok t→if t=true then tE (noE F) ge σ3 H4 fun y H5=>H5 D=some (.lst ys)∧ys.length < sizeLine∧∃ m',m' < ds.length - i∧(m'=ds.length - (i+1)∧i+1≤ds.length∧(upd H5 D (.lst (ys++[y]))) D=some (.lst (ys++[y]))∧(ys++[y]).length≤i+1∧∃ Z' acc,Ex H1 Z1 (upd H5 D (.lst (ys++[y]))) Z'∧Z' D=none∧Reps F.K F.C Z' acc (ys++[y])∧StOk (noE F) (upd H5 D (.lst (ys++[y]))) Z' (blkS own cap S) σ3 ∧
      WG F H1 Z1 ((noErr (compGo (blkS own cap S) g gc ge (ds.drop (i+1)))).bind fun zs=>R.ok (FF.D.lst (acc++zs))) P)
      else ∃ m',m' < ds.length - i∧(m'=ds.length - (i+1)∧i+1≤ds.length∧H4 D=some (.lst ys)∧ys.length≤i+1∧∃ Z' acc,Ex H1 Z1 H4 Z'∧Z' D=none∧Reps F.K F.C Z' acc ys∧StOk (noE F) H4 Z' (blkS own cap S) σ3 ∧
      WG F H1 Z1 ((noErr (compGo (blkS own cap S) g gc ge (ds.drop (i+1)))).bind fun zs=>R.ok (FF.D.lst (acc++zs))) P):=by
     intro t H4 Z4 x4 ok4 qc
     rw[qc,R.bind_ok]at w2
     cases t with
     | false =>
      rw[if_neg Bool.false_ne_true]at w2 ⊢
      exact⟨ds.length - (i+1),by omega,rfl,hlt,x4.same _ _ hDy,by omega,Z4,acc,x2.trans x4,zD (x2.trans x4) x4,ra.mono x4.z,back ok4,w2⟩
     | true =>
      rw[if_pos rfl]at w2 ⊢
      refine⟨Z4,S1,ok4,?_⟩
      cases qe:ge S1 with
      | err k=>rw[qe]at w2;exact w2.elim
      | stuck=>rw[qe]at w2;exact w2.elim
      | ok yd =>
       rw[qe,R.bind_ok]at w2
       intro H5 Z5 x5 yv ry
       have hD5:=x5.same _ _ (x4.same _ _ hDy)
       have x25:=x4.trans x5
       have z5:=zD (x2.trans x25) x25
       have ok5:=ok4.more x5
       have n0:=ok1.ex.same.free hD
       have xu:Ex H1 Z1 (upd H5 D (.lst (ys++[yv]))) Z5:=by
        have q:=x2.trans x25
        refine⟨fun b o e=>?_,q.z,fun b o e=>?_,q.new⟩
        ·rw[ac (fun z=>by subst z;rw[hD]at e;cases e)];exact q.same b o e
        ·rw[ac (fun z=>by subst z;rw[z5]at e;cases e)];exact q.sub b o e
       refine⟨hD5,by omega,ds.length - (i+1),by omega,rfl,hlt,af,by simp;omega,Z5,acc++[yd],xu,z5,(ra.mono x25.z).append (Reps.cons ry Reps.nil),?_,?_⟩
       ·have q:=back ok5
        refine⟨⟨fun b o e=>?_,q.ex.z,fun b o e=>?_,q.ex.new⟩,q.len,fun j x e=>?_,fun j k x y v w A B _ e1 _ _ _ o1 _=>?_⟩
        ·rw[ac (fun z=>by subst z;have e':=e;rw[n0]at e';cases e')];exact q.ex.same b o e
        ·rw[ac (fun z=>by subst z;rw[z5]at e;cases e)];exact q.ex.sub b o e
        ·obtain⟨_,_,_,_,_,z⟩:=fA e
         cases z
         obtain⟨v,e1,r⟩:=q.val j _ e
         exact⟨v,[],e1,⟨rfl,r⟩,Priv.nil⟩
        ·obtain⟨_,_,_,_,_,z⟩:=fA e1
         cases z
         rw[o1.1];exact fun a ha=>nomatch ha
       ·cases qr:compGo (blkS own cap S) g gc ge (ds.drop (i+1)) with
        | err k=>rw[qr]at w2;exact w2.elim
        | stuck=>rw[qr]at w2;exact w2.elim
        | ok zs=>rw[qr]at w2;simpa [noErr,List.append_assoc] using w2
    cases qc:gc S1 with
    | err k=>rw[qc]at w2;exact w2.elim
    | stuck=>rw[qc]at w2;exact w2.elim
    | ok t =>
     cases ifs with
     | nil =>
      have:=hgc rfl
      subst this
      cases qc
      exact fin true H3 Z3 x3 ok3 rfl
     | cons c r =>
      refine⟨Z3,S1,ok3,?_⟩
      rw[qc]
      intro H4 Z4 x4
      exact fin t H4 Z4 (x3.trans x4) (ok3.more x4) qc
  ·have ei:i=ds.length:=by omega
   refine .inl ⟨k2 (by omega),?_⟩
   rw[List.drop_eq_nil_of_le (by omega)]at w2
   have w3:WG F H1 Z1 (R.ok (FF.D.lst (acc++[]))) P:=w2
   rw[List.append_nil]at w3
   exact hP D ys acc H1 Z1 H2 Z2 x1 hD x2 hZD w3 hDy ra
theorem kL {σ:St}{H Z:Hp}{S:SS}{ifs:List Expr}{P:D→Hp→Hp→Prop}{Q:Addr→Hp→Prop}(hgc:ifs=[]→gc=tTrue)(hgo:Own own g)(ok:StOk F H Z S σ)(w:WG F H Z (eComp own cap git g gc ge S) P)(hP:∀ D ys ds H' Z',Ex H Z H' Z'→P (.lst ds) H' Z'→H' D=some (.lst ys)→Z' D=some (.lst ys)→Reps F.K F.C Z' ds ys→Q D H') :
  tI F git σ H fun J H1=>∀ D,H1 D=none→∃ W,BlkW sizeLine J (tGd (noE F) g) (tTests ifs (tT (noE F) gc)) (tE (noE F) ge) D (fun H' _=>Q D H') W∧∃ m,W 0 m (startB own cap σ) (upd H1 D (.lst [])) [] :=
 oA hgc hgo ok w fun D ys ds H1 Z1 H2 Z2 x1 hD x2 hZD w3 hDy ra=>by
  have hz:Same Z2 (upd Z2 D (.lst ys)):=ap hZD
  have xf:Ex H1 Z1 H2 (upd Z2 D (.lst ys)):=by
   refine⟨x2.same,x2.z.trans hz,fun b o e=>?_,fun b hb=>?_⟩
   ·by_cases q:b=D
    ·subst q;rw[af]at e;cases e;exact hDy
    ·rw[ac q]at e;exact x2.sub b o e
   ·by_cases q:b=D
    ·subst q;exact .inr hD
    ·rw[ac q]at hb;exact x2.new b hb
  exact hP D ys ds H2 _ (x1.trans xf) (w3 H2 _ xf) hDy af (ra.mono hz)
theorem em {k:Nat}(bx:BX X F k)(b:BlkOk X.N X.env.scope scope N own cap)(hi:FI X F tg iter git)(hgo:Own own g)
  (hg:∀ cl C s H fp,FG (blk X scope cl C s H fp N) (noE F) tg g) (he:∀ cl C s H fp,FE (blk X scope cl C s H fp N) (noE F) elt ge)
  (hs:∀ x,foldedSetIterable iter X.env x=pure x:=by intro _;rfl):FE X F (.ListComp elt [⟨tg,iter,[],0⟩] scope pos) (eComp own cap git g tTrue ge) :=
 (pQ (ifs:=[]) b bx.calm (by simp) hi hg (fun c q=>nomatch q) he hs).weak fun σ H Q ⟨Z,S,ok,w⟩ =>
  kL (fun _=>rfl) hgo ok w fun D ys ds H' Z' _ p h1 h2 r=>p _ (by rw[Rep];exact⟨D,ys,rfl,SqL.of h2,r⟩)
theorem kM {k:Nat}{c:Expr}(bx:BX X F k)(b:BlkOk X.N X.env.scope scope N own cap)(hi:FI X F tg iter git)(hgo:Own own g)
  (hg:∀ cl C s H fp,FG (blk X scope cl C s H fp N) (noE F) tg g) (ht:∀ cl C s H fp,FT (blk X scope cl C s H fp N) (noE F) c gc) (he:∀ cl C s H fp,FE (blk X scope cl C s H fp N) (noE F) elt ge)
  (hs:∀ x,foldedSetIterable iter X.env x=pure x:=by intro _;rfl):FE X F (.ListComp elt [⟨tg,iter,[c],0⟩] scope pos) (eComp own cap git g gc ge) :=
 (pQ b bx.calm (by simp) hi hg (fun c' q=>by cases q;exact ht) he hs).weak fun σ H Q ⟨Z,S,ok,w⟩ =>
  kL (fun q=>nomatch q) hgo ok w fun D ys ds H' Z' _ p h1 h2 r=>p _ (by rw[Rep];exact⟨D,ys,rfl,SqL.of h2,r⟩)
end
mutual
theorem iX:∀ (n:Nat) (d:D),good n d=true→eqD d d=true
 | n,.non,_=>by simp[eqD]
 | n,.bl b,_=>by simp[eqD]
 | n,.int i,_=>by simp[eqD]
 | n,.str x,_=>by simp[eqD]
 | 0,.tup xs,h=>by simp[good]at h
 | 0,.lst xs,h=>by simp[good]at h
 | n+1,.tup xs,h=>by rw[good]at h;rw[eqD];exact gG n xs h
 | n+1,.lst xs,h=>by rw[good]at h;rw[eqD];exact gG n xs h
 | n,.exc k,h=>by cases n<;>simp[good]at h
 | n,.fn k,h=>by cases n<;>simp[good]at h
 | n,.tab ks xs,h=>by cases n<;>simp[good]at h
 | n,.dic ks xs,h=>by cases n<;>simp[good]at h
 | n,.ptr a,h=>by cases n<;>simp[good]at h
theorem gG:∀ (n:Nat) (ds:List D),goods n ds=true→eqDs ds ds=true
 | n,[],_=>by simp[eqDs]
 | n,d::ds,h=>by
  rw[goods,Bool.and_eq_true]at h
  rw[eqDs,iX n d h.1,gG n ds h.2]
  rfl
end
theorem gH {n:Nat}:∀ {ds:List D} {i:Nat} {d:D},goods n ds=true→ds[i]?=some d→good n d=true
 | [],_,_,_,e=>by simp at e
 | x::xs,0,d,h,e=>by
  rw[goods,Bool.and_eq_true]at h
  simp at e;subst e;exact h.1
 | x::xs,i+1,d,h,e=>by
  rw[goods,Bool.and_eq_true]at h
  exact gH h.2 (by simpa using e)
theorem mT:∀ (ds es:List D),eqDs ds es=((List.range (min ds.length es.length)).all (fun j=>eqD (ds.getD j .non) (es.getD j .non))&&ds.length==es.length)
 | [],[]=>by simp[eqDs]
 | [],e::es=>by simp[eqDs]
 | d::ds,[]=>by simp[eqDs]
 | d::ds,e::es=>by
  rw[eqDs,mT ds es]
  have h1:min (d::ds).length (e::es).length=min ds.length es.length+1:=by simp only[List.length_cons];omega
  rw[h1,List.range_succ_eq_map,List.all_cons,List.all_map]
  have h2:((d::ds).length==(e::es).length)=(ds.length==es.length):=by simp
  rw[h2]
  simp only[List.getD_cons_zero,Bool.and_assoc]
  rfl
section
variable {X:Cx}{F:Fx}{pins:List (Addr×Obj)}{σ:St}{H Z:Hp}{s:Shared}
theorem kN {a:Addr}{xs ys:List V}(I:Inv X pins σ H s)(h:SqL X.K H a xs)(h':SqT X.K H a ys):False:=by
 obtain⟨its,r,p,_⟩:=I.list h
 obtain⟨its',r',p',_⟩:=I.tuple h'
 exact SeqAt.ne_of_list_tuple p.isList (show s.heap.IsTuple a its'.toArray from p') rfl
mutual
theorem pT {K:PySem.W.Frag}{C:Nat→Addr}(hK:X.K=K)(I:Inv X pins σ H s)(z:Same Z H):∀ (n:Nat) (d e:D) (v:V),good n d=true→good n e=true→Rep K C Z d v→Rep K C Z e v→d=e
 | n,.non,e,v,g1,g2,h,h'=>by rw[Rep]at h;subst h;cases e<;>rw[Rep]at h'<;>first | rfl | (obtain⟨_,_,q,_⟩:=h';cases q;done) | (obtain⟨_,q,_⟩:=h';cases q;done) | (cases h';done)
 | n,.bl b,e,v,g1,g2,h,h'=>by rw[Rep]at h;subst h;cases e<;>rw[Rep]at h'<;>first | (cases h';rfl) | (obtain⟨_,_,q,_⟩:=h';cases q;done) | (obtain⟨_,q,_⟩:=h';cases q;done) | (cases h';done)
 | n,.int b,e,v,g1,g2,h,h'=>by rw[Rep]at h;subst h;cases e<;>rw[Rep]at h'<;>first | (cases h';rfl) | (obtain⟨_,_,q,_⟩:=h';cases q;done) | (obtain⟨_,q,_⟩:=h';cases q;done) | (cases h';done)
 | n,.str b,e,v,g1,g2,h,h'=>by rw[Rep]at h;subst h;cases e<;>rw[Rep]at h'<;>first | (cases h';rfl) | (obtain⟨_,_,q,_⟩:=h';cases q;done) | (obtain⟨_,q,_⟩:=h';cases q;done) | (cases h';done)
 | 0,.tup xs,e,v,g1,g2,h,h'=>by simp[good]at g1
 | 0,.lst xs,e,v,g1,g2,h,h'=>by simp[good]at g1
 | n,.exc k,e,v,g1,g2,h,h'=>by cases n<;>simp[good]at g1
 | n,.fn k,e,v,g1,g2,h,h'=>by cases n<;>simp[good]at g1
 | n,.tab ks xs,e,v,g1,g2,h,h'=>by cases n<;>simp[good]at g1
 | n,.dic ks xs,e,v,g1,g2,h,h'=>by cases n<;>simp[good]at g1
 | n,.ptr a,e,v,g1,g2,h,h'=>by cases n<;>simp[good]at g1
 | n+1,.tup ds,e,v,g1,g2,h,h'=>by
  rw[Rep]at h
  obtain⟨a,vs,rfl,h1,h2⟩:=h
  cases e with
  | tup es =>
   rw[Rep]at h'
   obtain⟨b,us,q,k1,k2⟩:=h'
   cases q
   have e1:vs=us:=I.tuple_inj (by rw[hK];exact h1.mono z) (by rw[hK];exact k1.mono z)
   subst e1
   rw[good]at g1 g2
   rw[iY hK I z n ds es vs g1 g2 h2 k2]
  | lst es =>
   rw[Rep]at h'
   obtain⟨b,us,q,k1,k2⟩:=h'
   cases q
   exact(kN I (by rw[hK];exact z.seq k1) (by rw[hK];exact h1.mono z)).elim
  | exc k=>simp[good]at g2
  | fn k=>simp[good]at g2
  | tab ks xs=>simp[good]at g2
  | dic ks xs=>simp[good]at g2
  | ptr a=>simp[good]at g2
  | _=>rw[Rep]at h';cases h'
 | n+1,.lst ds,e,v,g1,g2,h,h'=>by
  rw[Rep]at h
  obtain⟨a,vs,rfl,h1,h2⟩:=h
  cases e with
  | lst es =>
   rw[Rep]at h'
   obtain⟨b,us,q,k1,k2⟩:=h'
   cases q
   have e1:vs=us:=I.list_inj (by rw[hK];exact z.seq h1) (by rw[hK];exact z.seq k1)
   subst e1
   rw[good]at g1 g2
   rw[iY hK I z n ds es vs g1 g2 h2 k2]
  | tup es =>
   rw[Rep]at h'
   obtain⟨b,us,q,k1,k2⟩:=h'
   cases q
   exact(kN I (by rw[hK];exact z.seq h1) (by rw[hK];exact k1.mono z)).elim
  | exc k=>simp[good]at g2
  | fn k=>simp[good]at g2
  | tab ks xs=>simp[good]at g2
  | dic ks xs=>simp[good]at g2
  | ptr a=>simp[good]at g2
  | _=>rw[Rep]at h';cases h'
theorem iY {K:PySem.W.Frag}{C:Nat→Addr}(hK:X.K=K)(I:Inv X pins σ H s)(z:Same Z H):∀ (n:Nat) (ds es:List D) (vs:List V),goods n ds=true→goods n es=true→Reps K C Z ds vs→Reps K C Z es vs→ds=es
 | n,[],es,vs,g1,g2,h,h'=>by
  rw[Reps]at h;subst h
  cases es with
  | nil=>rfl
  | cons e es=>rw[Reps]at h';obtain⟨_,_,q,_⟩:=h';cases q
 | n,d::ds,es,vs,g1,g2,h,h'=>by
  rw[Reps]at h
  obtain⟨v,r,rfl,h1,h2⟩:=h
  cases es with
  | nil=>rw[Reps]at h';cases h'
  | cons e es =>
   obtain⟨k1,k2⟩:=h'.uncons
   rw[goods,Bool.and_eq_true]at g1 g2
   rw[pT hK I z n d e v g1.1 g2.1 h1 k1,iY hK I z n ds es r g1.2 g2.2 h2 k2]
end
def flatD:D→Bool
 | .non=>true
 | .bl _=>true
 | .int _=>true
 | .str _=>true
 | _=>false
theorem mU {K:PySem.W.Frag}{C:Nat→Addr}{d:D}{v:V}(f:flatD d=true)(h:Rep K C Z d v):flatV v=true:=by
 cases d<;>first | (rw[Rep]at h;subst h;rfl) | simp[flatD]at f
theorem tV {K:PySem.W.Frag}{C:Nat→Addr}{d e:D}{v u:V}(f1:flatD d=true)(f2:flatD e=true)(h:Rep K C Z d v)(h':Rep K C Z e u):eqV v u=eqD d e:=by
 cases d<;>first | (simp[flatD]at f1;done) | (cases e<;>first | (simp[flatD]at f2;done) | (rw[Rep]at h;rw[Rep]at h';subst h;subst h';simp[eqV,eqD]))
section
variable {X:Cx}{pins:List (Addr×Obj)}{σ:St}{H Z:Hp}{s:Shared}{K:PySem.W.Frag}{C:Nat→Addr}
theorem kd (hK:X.K=K)(I:Inv X pins σ H s)(z:Same Z H){n:Nat}{d:D}{v:V}{x:Value}(g:good n d=true)(h:Rep K C Z d v)(r:RelV v x) :
  (d=.non∧x=.none)∨(∃ b,d=.bl b∧x=.bool b)∨(∃ i t,d=.int i∧x=.int i t)∨(∃ a t,d=.str a∧x=.str a t) ∨
  ∃ m ds vs its a,n=m+1∧goods m ds=true∧Reps K C Z ds vs∧Vals vs its∧v=.ref a∧x=.ref a∧((d=.tup ds∧s.heap.IsTuple a its.toArray)∨(d=.lst ds∧s.heap.IsList a its.toArray)):=by
 subst hK
 cases d with
 | non=>rw[Rep]at h;subst h;cases r;exact .inl ⟨rfl,rfl⟩
 | bl b=>rw[Rep]at h;subst h;cases r;exact .inr (.inl ⟨_,rfl,rfl⟩)
 | int i=>rw[Rep]at h;subst h;obtain⟨t,rfl⟩:=r;exact .inr (.inr (.inl ⟨_,_,rfl,rfl⟩))
 | str a=>rw[Rep]at h;subst h;obtain⟨t,rfl⟩:=r;exact .inr (.inr (.inr (.inl ⟨_,_,rfl,rfl⟩)))
 | tup ds =>
  cases n with
  | zero=>simp[good]at g
  | succ m =>
   rw[Rep]at h
   obtain⟨a,vs,rfl,h1,h2⟩:=h
   cases r
   obtain⟨its,r,p,_⟩:=I.tuple (h1.mono z)
   exact .inr (.inr (.inr (.inr ⟨m,ds,vs,its,a,rfl,g,h2,r,rfl,rfl,.inl ⟨rfl,p⟩⟩)))
 | lst ds =>
  cases n with
  | zero=>simp[good]at g
  | succ m =>
   rw[Rep]at h
   obtain⟨a,vs,rfl,h1,h2⟩:=h
   cases r
   obtain⟨its,r,p,_⟩:=I.list (z.seq h1)
   exact .inr (.inr (.inr (.inr ⟨m,ds,vs,its,a,rfl,g,h2,r,rfl,rfl,.inr ⟨rfl,p.isList⟩⟩)))
 | _=>cases n<;>simp[good]at g
theorem els {n:Nat}{A:Around}(ih:∀ (d e:D) (v u:V) (x y:Value),good n d=true→good n e=true→Rep K C Z d v→Rep K C Z e u→RelV v x→RelV u y→SeqAt.EqAt A s x y (eqD d e)){ds es:List D}{vs us:List V}{its its2:List Value}(g1:goods n ds=true)(g2:goods n es=true)(h2:Reps K C Z ds vs)(k2:Reps K C Z es us)(r:Vals vs its)(r2:Vals us its2)
  (j:Nat) (j1:j < its.toArray.size) (j2:j < its2.toArray.size):SeqAt.EqAt A s its.toArray[j] its2.toArray[j] (eqD (ds.getD j .non) (es.getD j .non)):=by
 have l1:j < ds.length:=by rw[h2.length,r.length];simpa using j1
 have l2:j < es.length:=by rw[k2.length,r2.length];simpa using j2
 have e1:ds[j]?=some ds[j]:=by simp
 have e2:es[j]?=some es[j]:=by simp
 obtain⟨w1,f1,f2⟩:=h2.get e1
 obtain⟨w2,f3,f4⟩:=k2.get e2
 obtain⟨z1,m1,m2⟩:=r.get f1
 obtain⟨z2,m3,m4⟩:=r2.get f3
 have n1:its.toArray[j]=z1:=by simpa [show j < its.length by simpa using j1] using m1
 have n2:its2.toArray[j]=z2:=by simpa [show j < its2.length by simpa using j2] using m3
 rw[n1,n2,show ds.getD j .non=ds[j] by simp[l1],show es.getD j .non=es[j] by simp[l2]]
 exact ih _ _ w1 w2 z1 z2 (gH g1 e1) (gH g2 e2) f2 f4 m2 m4
set_option maxHeartbeats 4000000 in
theorem eqB (hK:X.K=K)(I:Inv X pins σ H s)(z:Same Z H):∀ (n:Nat) (A:Around) (d e:D) (v u:V) (x y:Value),good n d=true→good n e=true→Rep K C Z d v→Rep K C Z e u→RelV v x→RelV u y→A.units+n < cLine→SeqAt.EqAt A s x y (eqD d e)∧SeqAt.RcAt A s x y (eqD d e)∧SeqAt.RcNeAt A s x y (!eqD d e)
 | n,A,d,e,v,u,x,y,g1,g2,h,h',rx,ry,hu=>by
  have u0:A.units < cLine:=by omega
  have hh:=h
  have hh':=h'
  have fl:flatD d=true→flatD e=true→SeqAt.EqAt A s x y (eqD d e):=fun f1 f2=>by rw[← tV f1 f2 h h'];exact yz rx ry (mU f1 h) (mU f2 h')
  rcases kd hK I z g1 h rx with ⟨rfl,rfl⟩ | ⟨_,rfl,rfl⟩ | ⟨_,_,rfl,rfl⟩ | ⟨_,_,rfl,rfl⟩ | ⟨m,ds,vs,its,a,rfl,w1,h2,r,rfl,rfl,⟨rfl,p⟩ | ⟨rfl,p⟩⟩ <;>
  rcases kd hK I z g2 h' ry with ⟨rfl,rfl⟩ | ⟨_,rfl,rfl⟩ | ⟨_,_,rfl,rfl⟩ | ⟨_,_,rfl,rfl⟩ | ⟨m2,es,us,its2,b,e0,w2,k2,r2,rfl,rfl,⟨rfl,q⟩ | ⟨rfl,q⟩⟩ <;>
  simp only[eqD,Bool.not_false,Bool.not_true]at fl ⊢ <;>
  try (refine⟨?_,?_,?_⟩<;>with_reducible first
   | exact fl rfl rfl
   | exact .none_none | exact .none_bool _ | exact .none_int _ _ | exact .none_str _ _ | exact .none_tuple q u0 | exact .none_list q u0
   | exact .bool_none _ | exact .bool_bool _ _ | exact .bool_int _ _ _ | exact .bool_str _ _ _ | exact .bool_tuple _ q u0 | exact .bool_list _ q u0
   | exact .int_none _ _ | exact .int_bool _ _ _ | exact .int_int _ _ _ _ | exact .int_str _ _ _ _ | exact .int_tuple _ _ q u0 | exact .int_list _ _ q u0
   | exact .str_none _ _ | exact .str_bool _ _ _ | exact .str_int _ _ _ _ | exact .str_str _ _ _ _ | exact .str_tuple _ _ q u0 | exact .str_list _ _ q u0
   | exact .tuple_none p u0 | exact .tuple_bool _ p u0 | exact .tuple_int _ _ p u0 | exact .tuple_str _ _ p u0 | exact .tuple_list p q u0
   | exact .list_none p u0 | exact .list_bool _ p u0 | exact .list_int _ _ p u0 | exact .list_str _ _ p u0 | exact .list_tuple p q u0)
  all_goals
   cases e0
   have el:=els (A:=A.in1) (fun d e v u x y g1 g2 h h' rx ry=>(eqB hK I z m A.in1 d e v u x y g1 g2 h h' rx ry (by show A.units+1+m < cLine;omega)).1) w1 w2 h2 k2 r r2
   have s1:its.toArray.size=ds.length:=by rw[List.size_toArray,h2.length,r.length]
   have s2:its2.toArray.size=es.length:=by rw[List.size_toArray,k2.length,r2.length]
   have both:∀ {c:Bool},(a=b→c=true)→SeqAt.RcAt A s (.ref a) (.ref b) c→SeqAt.EqAt A s (.ref a) (.ref b) c:=fun {c} hc w=>by
    by_cases hab:a=b
    ·subst hab;rw[hc rfl];exact .same _
    ·exact .of_refs hab w
   have rf:a=b→eqDs ds es=true:=fun hab=>by
    subst hab
    have t:=pT hK I z (m+1) _ _ _ g1 g2 hh hh'
    have w:=iX (m+1) _ g1
    cases t
    simpa only[eqD] using w
   rw[mT]at rf ⊢
  ·have q1:=SeqAt.RcAt.tuples (A:=A) (e:=fun j=>eqD (ds.getD j .non) (es.getD j .non)) p q u0 el
   have q2:=SeqAt.RcNeAt.tuples (A:=A) (e:=fun j=>eqD (ds.getD j .non) (es.getD j .non)) p q u0 el
   rw[s1,s2]at q1 q2
   exact⟨both rf q1,q1,q2⟩
  ·by_cases hs:ds.length=es.length
   ·have q1:=SeqAt.RcAt.lists (A:=A) (e:=fun j=>eqD (ds.getD j .non) (es.getD j .non)) p q (by rw[s1,s2];exact hs) u0 el
    have q2:=SeqAt.RcNeAt.lists (A:=A) (e:=fun j=>eqD (ds.getD j .non) (es.getD j .non)) p q (by rw[s1,s2];exact hs) u0 el
    rw[s1]at q1 q2
    rw[hs,Nat.min_self,beq_self_eq_true,Bool.and_true,← hs]at rf ⊢
    exact⟨both rf q1,q1,q2⟩
   ·rw[show (ds.length==es.length)=false by simpa using hs,Bool.and_false]at rf ⊢
    have q1:=SeqAt.RcAt.lists_lengths (A:=A) p q (by rw[s1,s2];simpa using hs) u0
    exact⟨both rf q1,q1,SeqAt.RcNeAt.lists_lengths p q (by rw[s1,s2];simpa using hs) u0⟩
end
end
def dAdd (x y:D):R D:=if isInt x=true then dI0 (fun i j=>.int (i+j)) x y else if isTup x=true then dCatT x y else dCatL x y
def dSub:D→D→R D:=dI0 fun i j=>.int (i - j)
def dMul (x y:D):R D:=if isInt x=true then dI cMul (fun i j=>.int (i*j)) x y else if isTup x=true then dRepT x y else dRepL x y
def dDiv:D→D→R D:=dI cDiv fun i j=>.int (i/j)
def dMod:D→D→R D:=dI (fun _ j=>decide (0 < j)) fun i j=>.int (i%j)
def dLt:D→D→R D:=dI0 fun i j=>.bl (decide (i < j))
def dLe:D→D→R D:=dI0 fun i j=>.bl (decide (i≤j))
def dGt:D→D→R D:=dI0 fun i j=>.bl (decide (j < i))
def dGe:D→D→R D:=dI0 fun i j=>.bl (decide (j≤i))
theorem ax {K:PySem.W.Frag}{C:Nat→Addr}{Z:Hp}{i:Int}:Rep K C Z (.int i) (.int i):=by rw[Rep]
theorem aG {K:PySem.W.Frag}{C:Nat→Addr}{Z:Hp}{i:Bool}:Rep K C Z (.bl i) (.bl i):=by rw[Rep]
section
variable {X:Cx}{F:Fx}{a b c:Expr}{ga gb gc:SS→R D}{pos:Pos}
theorem gI (ha:FE X F a ga)(hb:FE X F b gb):FE X F (.BinOp a .Sub b pos) (eOp dSub ga gb):=mQ ym (cI fun _ _ _=>ax) ha hb
theorem lL (ha:FE X F a ga)(hb:FE X F b gb):FE X F (.BinOp a .FloorDiv b pos) (eOp dDiv ga gb):=mQ vw (tG vM fun _ _ _=>ax) ha hb
theorem gJ (ha:FE X F a ga)(hb:FE X F b gb):FE X F (.BinOp a .Mod b pos) (eOp dMod ga gb):=mQ yo (tG (fun i j h=>of_decide_eq_true h) fun _ _ _=>ax) ha hb
theorem xN (ha:FE X F a ga)(hb:FE X F b gb):FT X F (.Compare a [.Lt] [b] pos) (gB (eOp dLt ga gb)):=lI xK (cI fun _ _ _=>aG) ha hb
theorem zy (ha:FE X F a ga)(hb:FE X F b gb):FT X F (.Compare a [.Gt] [b] pos) (gB (eOp dGt ga gb)):=lI zw (cI fun _ _ _=>aG) ha hb
theorem ao (hK:X.K=F.K)(ha:FE X F a ga)(hb:FE X F b gb)(hs:PlainIx b:=by intro _ _;rfl):FE X F (.Subscript a b pos) (eOp dIx ga gb):=zx yy (by rw[hK];exact yF) ha hb hs
theorem vX:OpR X (binaryOp .Add) (fun x y H Q=>rI0 (fun i j=>.int (i+j)) x y H Q∨(rCat2 X.K x y H Q∨∃ a b xs ys,x=.ref a∧y=.ref b∧SqL X.K H a xs∧SqL X.K H b ys∧xs.length+ys.length≤sizeLine∧∀ p,H p=none→Q (.ref p) (upd H p (.lst (xs++ys))))) :=
 yl.or (vN.or tM)
theorem aS (hK:X.K=F.K)(ha:FE X F a ga)(hb:FE X F b gb):FE X F (.BinOp a .Add b pos) (eOp dAdd ga gb) :=
 mQ vX (by rw[hK];exact OpD.or (fun x _=>isInt x) (cI fun _ _ _=>ax) (OpD.or (fun x _=>isTup x) tH tK)) ha hb
theorem c5 (hK:X.K=F.K)(ha:FE X F a ga)(hb:FE X F b gb):FE X F (.BinOp a .Mult b pos) (eOp dMul ga gb) :=
 mQ (yn.or (vO.or vP)) (by rw[hK];exact OpD.or (fun x _=>isInt x) (tG vL fun _ _ _=>ax) (OpD.or (fun x _=>isTup x) tJ tN)) ha hb
end
def dEq (x y:D):R D:=if good 60 x=true∧good 60 y=true then .ok (.bl (eqD x y)) else .stuck
def rEqD (K:PySem.W.Frag)(C:Nat→Addr):R2:=fun x y H Q=>∃ Z d e,Same Z H∧Rep K C Z d x∧Rep K C Z e y∧good 60 d=true∧good 60 e=true∧Q (.bl (eqD d e)) H
section
variable {X:Cx}{F:Fx}{a b c:Expr}{ga gb gc:SS→R D}{pos:Pos}{k:Nat}
theorem oB (hK:X.K=F.K)(hr:Room k X.A):OpR X (compareOp .Eq) (rEqD F.K F.C):=by
 intro pins s σ H x y v u Q I rx ry h
 obtain⟨Z,d,e,z,h1,h2,g1,g2,q⟩:=h
 have hu:X.A.units+60 < cLine:=by have:=hr.un;omega
 exact(eqB hK I z 60 X.A d e x y v u g1 g2 h1 h2 rx ry hu).2.1 X.prog X.w X.xe _ ⟨.bl (eqD d e),H,I,rfl,q⟩
theorem oC:OpD F (rEqD F.K F.C) dEq:=by
 intro H Z x y dx dy Q s rx ry w
 unfold dEq at w
 split at w
 ·rename_i g
  exact⟨Z,dx,dy,s,rx,ry,g.1,g.2,WG.now w s _ aG⟩
 ·exact w.elim
theorem tW (bx:BX X F k)(ha:FE X F a ga)(hb:FE X F b gb):FE X F (.Compare a [.Eq] [b] pos) (eOp dEq ga gb):=tz (oB bx.K bx.room) oC ha hb
theorem ij (bx:BX X F k)(ha:FE X F a ga)(hb:FE X F b gb):FT X F (.Compare a [.Eq] [b] pos) (gB (eOp dEq ga gb)):=lI (oB bx.K bx.room) oC ha hb
end
def eChain (f f':D→D→R D)(ga gb gc:SS→R D):SS→R D:=fun S=>(ga S).bind fun x=>(gb S).bind fun y=>(asB (f x y)).bind fun k=>if k=true then (gc S).bind fun w=>f' y w else .ok (.bl false)
section
variable {X:Cx}{F:Fx}{a b c:Expr}{ga gb gc:SS→R D}{pos:Pos}{r r':R2}{f f':D→D→R D}{op op':CmpOp}
theorem kO (hd:OpD F r f)(hd':OpD F r' f'):∀ σ H Q,tE F (eChain f f' ga gb gc) σ H Q→tChain r r' (tE F ga) (tE F gb) (tE F gc) σ H Q:=fun σ H Q ⟨Z,S,ok,w⟩ =>
 ah ok w fun dx x H1 Z1 ok1 x1 rx w1=>ah ok1 w1 fun dy y H2 Z2 ok2 x2 ry w2=>hd H2 Z2 x y dx dy _ ok2.sub (rx.mono x2.z) ry (by
  cases e:f dx dy with
  | err k=>rw[e]at w2;exact w2
  | stuck=>rw[e]at w2;exact w2
  | ok d =>
   rw[e]at w2
   intro H3 Z3 x3 v rv
   cases d with
   | bl k =>
    rw[Rep]at rv
    subst rv
    have w3:=WG.more w2 x3
    refine⟨k,rfl,?_⟩
    have ok3:=ok2.more x3
    cases k with
    | false=>exact WG.now w3 ok3.sub _ aG
    | true=>exact ah ok3 w3 fun dw wv H4 Z4 ok4 x4 rw' w4=>hd' H4 Z4 y wv dy dw Q ok4.sub (ry.mono (x3.z.trans x4.z)) rw' w4
   | _=>exact w2.elim)
theorem mV (ho:OpR X (compareOp op) r)(ho':OpR X (compareOp op') r')(hd:OpD F r f)(hd':OpD F r' f')(ha:FE X F a ga)(hb:FE X F b gb)(hc:FE X F c gc)(hm:lastMarks [op,op'] [b,c]=false:=by with_unfolding_all rfl) :
  FE X F (.Compare a [op,op'] [b,c] pos) (eChain f f' ga gb gc):=(sS ho ho' ha hb hc hm).weak (kO hd hd')
theorem tX (ho:OpR X (compareOp op) r)(ho':OpR X (compareOp op') r')(hd:OpD F r f)(hd':OpD F r' f')(ha:FE X F a ga)(hb:FE X F b gb)(hc:FE X F c gc)(hm:lastMarks [op,op'] [b,c]=false:=by with_unfolding_all rfl) :
  FT X F (.Compare a [op,op'] [b,c] pos) (gB (eChain f f' ga gb gc)):=(sT ho ho' ha hb hc hm).weak (pP (kO hd hd'))
theorem pU (ha:FE X F a ga)(hb:FE X F b gb)(hc:FE X F c gc)(hm:lastMarks [.LtE,.LtE] [b,c]=false:=by with_unfolding_all rfl):FE X F (.Compare a [.LtE,.LtE] [b,c] pos) (eChain dLe dLe ga gb gc):=mV mH mH (cI fun _ _ _=>aG) (cI fun _ _ _=>aG) ha hb hc hm
theorem vY (ha:FE X F a ga)(hb:FE X F b gb)(hc:FE X F c gc)(hm:lastMarks [.LtE,.LtE] [b,c]=false:=by with_unfolding_all rfl):FT X F (.Compare a [.LtE,.LtE] [b,c] pos) (gB (eChain dLe dLe ga gb gc)):=tX mH mH (cI fun _ _ _=>aG) (cI fun _ _ _=>aG) ha hb hc hm
theorem vZ (ha:FE X F a ga)(hb:FE X F b gb)(hc:FE X F c gc)(hm:lastMarks [.LtE,.Lt] [b,c]=false:=by with_unfolding_all rfl):FE X F (.Compare a [.LtE,.Lt] [b,c] pos) (eChain dLe dLt ga gb gc):=mV mH xK (cI fun _ _ _=>aG) (cI fun _ _ _=>aG) ha hb hc hm
end
def dIs:D→D→R D
 | x,.non=>.ok (.bl (match x with | .non=>true | _=>false))
 | x,.bl b=>.ok (.bl (match x with | .bl a=>a==b | _=>false))
 | _,_=>.stuck
section
variable {X:Cx}{F:Fx}{a b:Expr}{ga gb:SS→R D}{pos:Pos}
end
def cutD (xs:List D)(lo hi:Option Int):List D:=(xs.drop (HT.sIx xs.length 0 lo)).take (HT.sIx xs.length xs.length hi - HT.sIx xs.length 0 lo)
theorem Reps.cut {K:PySem.W.Frag}{C:Nat→Addr}{Z:Hp}{ds:List D}{vs:List V}(r:Reps K C Z ds vs)(lo hi:Option Int):Reps K C Z (cutD ds lo hi) (cutV vs lo hi):=by
 unfold cutD cutV
 rw[r.length]
 exact(r.drop _).take _
def dSl (d:D)(lo hi:Option Int):R D:=match d with
 | .lst xs=>.ok (.lst (cutD xs lo hi))
 | .tup xs=>if HT.sIx xs.length 0 lo=0∧HT.sIx xs.length xs.length hi=xs.length then .stuck else .ok (.tup (cutD xs lo hi))
 | _=>.stuck
def asI (d:D):R (Option Int):=match d with
 | .int i=>.ok (some i)
 | _=>.stuck
def pNo:SS→R (Option Int):=fun _=>.ok none
def pSo (g:SS→R D):SS→R (Option Int):=fun S=>(g S).bind asI
def tP (F:Fx)(g:SS→R (Option Int)):TO:=fun σ H Q=>∃ Z S,StOk F H Z S σ∧WG F H Z (g S) fun o H' _=>Q o H'
section
variable {X:Cx}{F:Fx}{e:Expr}{lo hi:Option Expr}{g:SS→R D}{l h:SS→R (Option Int)}{pos p2:Pos}
theorem zA:PO X none (tP F pNo):=fun pins s σ H Q I ⟨Z,S,ok,w⟩=>vF pins s σ H Q I (WG.now w ok.sub)
theorem zB (he:FE X F e g):PO X (some e) (tP F (pSo g)):=fun pins s σ H Q I ⟨Z,S,ok,w⟩=>vG he pins s σ H Q I (ah ok w fun d v H1 Z1 ok1 x1 rv w1=>by
 cases d with
 | int i=>rw[Rep]at rv;exact⟨i,rv,WG.now w1 ok1.sub⟩
 | _=>exact w1.elim)
theorem pV {α:Type}{σ:St}{H Z:Hp}{S:SS}{k:Option Int→R α}{P:α→Hp→Hp→Prop}{Q:Option Int→Hp→Prop}(ok:StOk F H Z S σ)(w:WG F H Z ((l S).bind k) P)
  (h:∀ o H1 Z1,StOk F H1 Z1 S σ→Ex H Z H1 Z1→WG F H1 Z1 (k o) P→Q o H1):tP F l σ H Q:=by
 refine⟨Z,S,ok,?_⟩
 cases e:l S with
 | ok d =>
  rw[e]at w
  intro H1 Z1 x
  exact h d H1 Z1 (ok.more x) x (WG.more w x)
 | err k=>rw[e]at w;exact w
 | stuck=>rw[e]at w;exact w
end
def CallD (F:Fx)(r:List V→Hp→VK→Prop)(f:List D→R D):Prop:=∀ (H Z:Hp) (xs:List V) (ds:List D) (Q:VK),Same Z H→Reps F.K F.C Z ds xs→WG F H Z (f ds) (fun d H' Z'=>∀ v,Rep F.K F.C Z' d v→Q v H')→r xs H Q
section
variable {X:Cx}{F:Fx}{x:Str}{p pos:Pos}{e:Expr}{es:List Expr}{gs:SS→R (List D)}{id T:String}{r:List V→Hp→VK→Prop}{f:List D→R D}
theorem tY (hd:CallD F r f):∀ σ H Q,tE F (eCall f gs) σ H Q→tCB r (tAl F gs) σ H Q:=fun σ H Q ⟨Z,S,ok,w⟩=>aw ok w fun ds vs H1 Z1 ok1 x1 rs w1=>hd H1 Z1 vs ds Q ok1.sub rs w1
theorem iZ (hc:CallR X (.builtin id) r)(hd:CallD F r f)(hg:Gl X x)(hm:X.mg x=none)(hv:bootBuiltins x=some (.builtin id))(ha:FA X F (e::es) gs)(hn:x ≠ "__name__" := by decide)(hdb:(x==("__debug__":Str))=false:=by decide)
  (he:starEach (e::es) X.env=(false,eval e X.env)::starEach es X.env:=by rfl) (hpl:(backTo pos (starEach es X.env)).any (·.1)=false:=by rfl):FE X F (.Call (.Name x p) (e::es) [] pos) (eCall f gs):=(b0 hc hg hm hv ha hn hdb he hpl).weak (tY hd)
theorem rB (hc:CallR X (.type T) r)(hd:CallD F r f)(hg:Gl X x)(hm:X.mg x=none)(hv:bootBuiltins x=some (.type T))(ha:FA X F (e::es) gs)(hn:x ≠ "__name__" := by decide)(hdb:(x==("__debug__":Str))=false:=by decide)
  (he:starEach (e::es) X.env=(false,eval e X.env)::starEach es X.env:=by rfl) (hpl:(backTo pos (starEach es X.env)).any (·.1)=false:=by rfl):FE X F (.Call (.Name x p) (e::es) [] pos) (eCall f gs):=(d9 hc hg hm hv ha hn hdb he hpl).weak (tY hd)
end
theorem aI {K:PySem.W.Frag}{C:Nat→Addr}{Z:Hp}{d:D}{vs:List V}(r:Reps K C Z [d] vs):∃ v,vs=[v]∧Rep K C Z d v:=by
 rw[Reps]at r
 obtain⟨v,r',rfl,h1,h2⟩:=r
 rw[Reps]at h2
 grind
def dLen:List D→R D
 | [.lst xs]=>.ok (.int xs.length)
 | [.tup xs]=>.ok (.int xs.length)
 | _=>.stuck
theorem rC {F:Fx}:CallD F (fun xs H Q=>∃ p ys,xs=[.ref p]∧(SqL F.K H p ys∨SqT F.K H p ys)∧Q (.int ys.length) H) dLen:=by
 intro H Z xs ds Q s rs w
 unfold dLen at w
 split at w
 ·obtain⟨v,rfl,h⟩:=aI rs
  rw[Rep]at h
  obtain⟨a,vs,rfl,h1,h2⟩:=h
  exact⟨a,vs,rfl,.inl (s.seq h1),by rw[← h2.length];exact WG.now w s _ ax⟩
 ·obtain⟨v,rfl,h⟩:=aI rs
  rw[Rep]at h
  obtain⟨a,vs,rfl,h1,h2⟩:=h
  exact⟨a,vs,rfl,.inr (h1.mono s),by rw[← h2.length];exact WG.now w s _ ax⟩
 ·exact w.elim
def dMax2:List D→R D
 | [.int i,.int j]=>.ok (.int (if j > i then j else i))
 | _=>.stuck
theorem oE {F:Fx}:CallD F (fun xs H Q=>∃ i j,xs=[.int i,.int j]∧Q (.int (if j > i then j else i)) H) dMax2:=by
 intro H Z xs ds Q s rs w
 unfold dMax2 at w
 split at w
 ·exact⟨_,_,mS rs,WG.now w s _ ax⟩
 ·exact w.elim
def dTuple:List D→R D
 | [.lst xs]=>.ok (.tup xs)
 | [.tup xs]=>.ok (.tup xs)
 | _=>.stuck
theorem mW {F:Fx}:CallD F (fun xs H Q=>∃ p ys,xs=[.ref p]∧((SqL F.K H p ys∧∀ l,H l=none→Q (.ref l) (upd H l (.tup ys)))∨(SqT F.K H p ys∧Q (.ref p) H))) dTuple:=by
 intro H Z xs ds Q s rs w
 unfold dTuple at w
 split at w
 ·obtain⟨v,rfl,h⟩:=aI rs
  rw[Rep]at h
  obtain⟨a,vs,rfl,h1,h2⟩:=h
  refine⟨a,vs,rfl,.inl ⟨s.seq h1,fun p hp=>?_⟩⟩
  have z:Same Z (upd Z p (.tup vs)):=ap (s.free hp)
  exact w _ _ (Ex.alloc s hp) _ (by rw[Rep];exact⟨p,_,rfl,SqT.of af,h2.mono z⟩)
 ·obtain⟨v,rfl,h⟩:=aI rs
  have hh:=h
  rw[Rep]at h
  obtain⟨a,vs,rfl,h1,h2⟩:=h
  exact⟨a,vs,rfl,.inr ⟨h1.mono s,WG.now w s _ hh⟩⟩
 ·exact w.elim
def boolsD:List D→Option (List Bool)
 | []=>some []
 | .bl b::r=>(boolsD r).map (b::·)
 | _::_=>none
theorem i0 {K:PySem.W.Frag}{C:Nat→Addr}{Z:Hp}:∀ {ds:List D} {vs:List V} {bs:List Bool},Reps K C Z ds vs→boolsD ds=some bs→vs=bs.map V.bl
 | [],vs,bs,r,e=>by rw[Reps]at r;cases e;exact r
 | d::ds,vs,bs,r,e=>by
  rw[Reps]at r
  obtain⟨v,r',rfl,h1,h2⟩:=r
  cases d with
  | bl b =>
   rw[boolsD]at e
   cases q:boolsD ds with
   | none=>rw[q]at e;cases e
   | some bs' =>
    rw[q]at e
    cases e
    rw[Rep]at h1
    rw[h1,i0 h2 q]
    rfl
  | _=>simp[boolsD]at e
def dAll:List D→R D
 | [.lst xs]=>match boolsD xs with
  | some bs=>.ok (.bl (bs.all id))
  | none=>.stuck
 | _=>.stuck
theorem i3:∀ {bs:List Bool} {us:List Value},Vals (bs.map V.bl) us→us=bs.map Value.bool
 | [],us,h=>by rw[List.map_nil]at h;cases h;rfl
 | b::bs,us,h=>by
  rw[List.map_cons]at h
  cases h with
  | cons r t =>
   have r':=r
   rw[r',i3 t]
   rfl
theorem i4 {X:Cx}(hc:X.calm=true):CallR X (.builtin "all") (fun xs H Q=>∃ (p:Addr) (bs:List Bool),xs=[.ref p]∧SqL X.K H p (bs.map V.bl)∧Q (.bl (bs.all id)) H):=by
 intro pins s σ H xs us Q I r h
 obtain⟨p,bs,rfl,hq,q⟩:=h
 obtain⟨u,rfl,ru⟩:=vals1 r
 cases ru
 obtain⟨its,rv,pl,hz⟩:=I.list hq
 have e:=i3 rv
 subst e
 have hlt:p < s.heap.objs.size:=by obtain⟨o,_,ho,_⟩:=pl;exact Heap.lt_size ho
 refine call_all_walk (wpAny_pyIter_list pl.isList ⟨s.heap.objs.size,_,_,_,_,_,fun i=>bs.getD i false,rfl,Walks.list (show X.A.in1.handled=none from I.ok.hd hc) s.heap.objs.size p (Nat.ne_of_lt hlt) (bs.map Value.bool).toArray,⟨⟨_,Heap.get?_push_size _ rfl,rfl,rfl⟩,?_⟩,?_,fun h' tk hk=>?_⟩)
 ·obtain⟨o,ho,h2,n,h3⟩:=pl.isList
  exact⟨o,Heap.get?_push_of_some _ ho,h2,n,h3⟩
 ·intro i v s' Q' E' hp hq'
  have hp':bs[i]?.map Value.bool=some v:=by simpa using hp
  cases e:bs[i]? with
  | none=>rw[e]at hp';cases hp'
  | some b =>
   rw[e]at hp'
   cases hp'
   refine wpAny_truthy_bool ?_
   have:bs.getD i false=b:=by simp[List.getD,e]
   have hq2:Q' (bs.getD i false) s':=hq'
   rw[this]at hq2
   exact hq2
 ·have hall:(List.range (bs.map Value.bool).toArray.size).all (fun i=>bs.getD i false)=bs.all id:=by
   rw[List.size_toArray,List.length_map]
   rw[Bool.eq_iff_iff,List.all_eq_true,List.all_eq_true]
   constructor
   ·intro h b hb
    obtain⟨i,hi,rfl⟩:=List.mem_iff_getElem.mp hb
    have:=h i (List.mem_range.mpr hi)
    simpa [List.getD,hi] using this
   ·intro h i hi
    have hi':=List.mem_range.mp hi
    have:=h bs[i] (List.getElem_mem hi')
    simpa [List.getD,hi'] using this
  rw[hall]
  exact⟨.bl (bs.all id),H,I.kept fun b o e=>hk b o (by simp;exact Nat.ne_of_lt (Heap.lt_size e)) (Heap.get?_push_of_some _ e),rfl,q⟩
theorem rD {F:Fx}:CallD F (fun xs H Q=>∃ (p:Addr) (bs:List Bool),xs=[.ref p]∧SqL F.K H p (bs.map V.bl)∧Q (.bl (bs.all id)) H) dAll:=by
 intro H Z xs ds Q s rs w
 unfold dAll at w
 split at w
 ·split at w
  ·rename_i bs e
   obtain⟨v,rfl,h⟩:=aI rs
   rw[Rep]at h
   obtain⟨a,vs,rfl,h1,h2⟩:=h
   have e2:=i0 h2 e
   subst e2
   exact⟨a,bs,rfl,s.seq h1,WG.now w s _ aG⟩
  ·exact w.elim
 ·exact w.elim
section
variable {X:Cx}{F:Fx}{p pos:Pos}{e:Expr}{es:List Expr}{gs:SS→R (List D)}{k:Nat}
theorem gK (bx:BX X F k)(hg:Gl X "len")(hm:X.mg "len"=none)(ha:FA X F [e] gs)(he:starEach [e] X.env=(false,eval e X.env)::starEach [] X.env:=by rfl)(hpl:(backTo pos (starEach [] X.env)).any (·.1)=false:=by rfl):FE X F (.Call (.Name "len" p) [e] [] pos) (eCall dLen gs) :=
 iZ (by have:=fu (X:=X);rw[bx.K]at this;exact this) rC hg hm PySem.boot_len ha (he:=he)
theorem v3 {e2:Expr}(bx:BX X F k)(hg:Gl X "max")(hm:X.mg "max"=none)(ha:FA X F [e,e2] gs)(he:starEach [e,e2] X.env=(false,eval e X.env)::starEach [e2] X.env:=by rfl)(hpl:(backTo pos (starEach [e2] X.env)).any (·.1)=false:=by rfl) :
  FE X F (.Call (.Name "max" p) [e,e2] [] pos) (eCall dMax2 gs):=iZ (qX bx.calm) oE hg hm (by decide +kernel) ha (he:=he) (hpl:=hpl)
theorem fB (bx:BX X F k)(hg:Gl X "tuple")(hm:X.mg "tuple"=none)(ha:FA X F [e] gs)(he:starEach [e] X.env=(false,eval e X.env)::starEach [] X.env:=by rfl)(hpl:(backTo pos (starEach [] X.env)).any (·.1)=false:=by rfl):FE X F (.Call (.Name "tuple" p) [e] [] pos) (eCall dTuple gs) :=
 rB (by have:=jW (X:=X);rw[bx.K]at this;exact this) mW hg hm (by decide +kernel) ha (he:=he)
theorem tZ (bx:BX X F k)(hg:Gl X "all")(hm:X.mg "all"=none)(ha:FA X F [e] gs)(he:starEach [e] X.env=(false,eval e X.env)::starEach [] X.env:=by rfl)(hpl:(backTo pos (starEach [] X.env)).any (·.1)=false:=by rfl):FE X F (.Call (.Name "all" p) [e] [] pos) (eCall dAll gs) :=
 iZ (by have:=i4 bx.calm;rw[bx.K]at this;exact this) rD hg hm (by decide +kernel) ha (he:=he)
end
end FF
end
noncomputable section
namespace FF
open PySem PySem.Spec PySem.Calls PyProof.Rows PySem.W
def ExcAt (a C:Addr)(h:Heap):Prop:=∃ o,h.get? a=some o∧o.cls=.ref C∧∃ vs,o.data=.fields vs
structure ExcK (K:Frag)(C:Addr):Prop where
 ga:findIn K (.ref C) "__getattribute__"=some (some (.builtin "BaseException.__getattribute__"))
 gt:findIn K (.ref C) "__getattr__"=some none
 cl:findIn K (.ref C) "__class__"=some (some (.builtin "object.__class__"))
 be:subIn K (.ref C) (.type "BaseException")=some true
 ob:subIn K (.ref C) (.type "object")=some true
 ty:(clsIn K C).isSome=true
section
variable {prog:Program}{w:World}{A:Around}{E:Value→Shared→Prop}{h:Heap}{g:Array GenState}{d:Drawn}{t:Nat}{os:OsState}{a C:Addr}{K:Frag}{o:Obj}{vs:Array Value}
theorem oF {M:Model}(p:ExcAt a C h):Looks M h (typeOf (.ref a)) (.ref C):=by
 obtain⟨o,h1,h2,h3⟩:=p
 exact h2 ▸ (Looks.ld h1).andThen .now
theorem oG {M:Model}(X:K.In h)(k:ExcK K C):Looks M h (isType (.ref C)) true:=by
 have z:=k.ty
 unfold clsIn at z
 split at z
 ·rename_i c' d' cd' sl' ho
  intro A' Q' E' s' kk q
  unfold isType loadHead
  exact wpAny_bind (wpAny_loadPart (kk _ _ (X _ _ ho)) (wpAny_pure q))
 ·cases z
theorem j3 {R:Result→Shared→Prop}(X:K.In h)(k:ExcK K C)(hx:h.get? a=some o)(hc:o.cls=.ref C)(hq:R (.ok (.ret (.ref C))) ⟨h,g,d,t,os⟩) :
  codeAny (model prog w) A (.call (.builtin "getset_descriptor.__get__") ⟨[.builtin "object.__class__",.ref a,.ref C],[]⟩) R ⟨h,g,d,t,os⟩:=by
 have hT5:=F.typeOf_object_class
 have L8:Looks (model prog w) h (isSubtype (.ref C) (.type (".".intercalate ("object.__class__".cutAt '.').dropLast))) true:=by
  rw[F.owner_object_class];exact looks_subIn X k.ob
 refine codeAny_call_builtin F.slot_gs_get.plain F.entry_gs_get (F.slot_gs_get.check _ _ _ _ _ _ _ _ hT5 (F.args_gs_get _ _ _) ?_)
 repeat (any_goals (first | assumption | (with_reducible refine wpAny_loadPart_at hx ?_;rw[hc]) | (with_reducible refine L8.at ?_) | wp_step))
 refine⟨Code.quiet_builtin _ (by simp),codeAny_builtin F.entry_object_class ?_⟩
 repeat (any_goals (first | assumption | (with_reducible refine wpAny_loadPart_at hx ?_;rw[hc]) | wp_step))
theorem iy {tk:Tok}{Q:Fin→Shared→Prop}(X:K.In h)(k:ExcK K C)(hx:h.get? a=some o)(hc:o.cls=.ref C)(hq:Q (.done (.ret (.ref C))) ⟨h,g,d,t,os⟩) :
  wpAny (model prog w) A (Builtin.«object.__getattribute__» ⟨[.ref a,.str "__class__" tk],[]⟩) Q E ⟨h,g,d,t,os⟩:=by
 have f5:=F.typeOf_object_class
 have f6:=F.slot_gs_get.lookup
 have f7:=F.slot_gs_set.lookup
 have L4:Looks (model prog w) h (typeLookup (.ref C) "__class__") _:=looks_findIn X k.cl
 repeat (any_goals (first | assumption | (with_reducible refine wpAny_loadPart_at hx ?_;rw[hc]) | (with_reducible refine L4.at ?_) | wp_step))
 refine j3 X k hx hc ?_
 repeat (any_goals (first | assumption | wp_step))
theorem rE {M:Model}{nameV:Value}{Q:Unit→Shared→Prop}(X:K.In h)(k:ExcK K C)(hx:h.get? a=some o)(hc:o.cls=.ref C)(hq:Q () ⟨h,g,d,t,os⟩):wpAny M A (checkBuiltinCall "BaseException.__getattribute__" ⟨[.ref a,nameV],[]⟩) Q E ⟨h,g,d,t,os⟩:=by
 have hk:builtinKind "BaseException.__getattribute__"=some .slot:=by decide +kernel
 have hsplit:splitId "BaseException.__getattribute__"=some ("BaseException","__getattribute__"):=by decide +kernel
 have L8:Looks M h (isSubtype (.ref C) (.type "BaseException")) true:=looks_subIn X k.be
 have ha:=F.args_bexc_ga (.ref a) nameV
 simp only[checkBuiltinCall,hk,hsplit]
 refine wpAny_bind ?_
 ·unfold isInstance
  repeat (first | (with_reducible refine wpAny_loadPart_at hx ?_;rw[hc]) | (with_reducible refine L8.at ?_) | wp_step)
  exact hq
theorem i5 {tk:Tok}{R:Result→Shared→Prop}(X:K.In h)(k:ExcK K C)(hx:h.get? a=some o)(hc:o.cls=.ref C)(hq:R (.ok (.ret (.ref C))) ⟨h,g,d,t,os⟩) :
  codeAny (model prog w) A (.call (.builtin "BaseException.__getattribute__") ⟨[.ref a,.str "__class__" tk],[]⟩) R ⟨h,g,d,t,os⟩ :=
 codeAny_call_builtin F.attr_ValueError.ga.plain F.entry_bexc_ga (rE X k hx hc (iy X k hx hc hq))
theorem lM {tk:Tok}{Q:Value→Shared→Prop}(X:K.In h)(k:ExcK K C)(hx:h.get? a=some o)(hc:o.cls=.ref C)(hq:Q (.ref C) ⟨h,g,d,t,os⟩) :
  wpAny (model prog w) A (getAttrBy (.ref a) (.str "__class__" tk) false) Q E ⟨h,g,d,t,os⟩:=by
 have f3:=F.attr_ValueError.ga.bind (.ref a)
 have L1:Looks (model prog w) h (typeLookup (.ref C) "__getattribute__") _:=looks_findIn X k.ga
 have L2:Looks (model prog w) h (typeLookup (.ref C) "__getattr__") _:=looks_findIn X k.gt
 have hx2:(Value.builtin "BaseException.__getattribute__" == Value.builtin "object.__getattribute__")=false:=by decide +kernel
 have hx1:(onTheHeap (Value.ref C)&&Value.builtin "BaseException.__getattribute__" == Value.builtin "object.__getattribute__")=false:=by rw[hx2];rfl
 repeat (any_goals (first | assumption | (with_reducible refine wpAny_loadPart_at hx ?_;rw[hc]) | (with_reducible refine L1.at ?_) | (with_reducible refine L2.at ?_) | wp_step))
 refine i5 X k hx hc ?_
 repeat (any_goals (first | assumption | wp_step))
theorem i6 {Q:Option Value→Shared→Prop}(X:K.In h)(k:ExcK K C)(hx:h.get? a=some o)(hc:o.cls=.ref C)(hq:Q (some (.ref C)) ⟨h,g,d,t+1,os⟩) :
  wpAny (model prog w) A (getAttr? (.ref a) "__class__") Q E ⟨h,g,d,t,os⟩:=by
 unfold getAttr? getAttrBy?
 repeat (any_goals (first | assumption | with_reducible apply lM X k hx hc | wp_step))
end
end FF
end
noncomputable section
namespace FF
open PySem PySem.Spec PyProof.Rows L2
theorem t2 {K:PySem.W.Frag}{a C:Addr}(k:ExcK K C):PySem.W.KitX K (.ref a) (.ref C) (ExcAt a C) where
 ty:=fun _ _ _ p=>oF p
 it:=fun _ _ X _=>oG X k
 ne:=fun h tp dd its n sl X htp=>by
  refine Bool.eq_false_iff.mpr fun q=>?_
  have e:C=tp:=Value.ref.inj (beq_iff_eq.mp q)
  subst e
  have z:=k.ty
  unfold PySem.W.clsIn at z
  split at z
  ·rename_i c' d' cd' sl' ho
   have z:=(X _ _ ho).symm.trans htp
   cases z
  ·cases z
 ca:=fun {_ _ _ _ _ s} X p h=>by
  obtain⟨hh,g,d,t,os⟩:=s
  obtain⟨o,h1,h2,_⟩:=p
  exact i6 X k h1 h2 h
def tyD (C:Nat→Addr):D→Value
 | .non=>.type "NoneType"
 | .bl _=>.type "bool"
 | .int _=>.type "int"
 | .str _=>.type "str"
 | .tup _=>.type "tuple"
 | .lst _=>.type "list"
 | .exc k=>.ref (C k)
 | .fn _=>.none
 | .tab _ _=>.none
 | .dic _ _=>.none
 | .ptr _=>.none
def isDct:D→Bool
 | .tab _ _=>true
 | .dic _ _=>true
 | .ptr _=>true
 | _=>false
def cV:V→Value
 | .ty n=>.type n
 | .ref a=>.ref a
 | _=>.none
theorem ik {X:Cx}{C:Nat→Addr}:CallR X (.builtin "isinstance") (fun xs H Q=>∃ (Z:Hp) (d:D) (x y:V) (b:Bool),xs=[x,y]∧Same Z H∧Rep X.K C Z d x∧((∃ n,y=.ty n)∨∃ a,y=.ref a) ∧
  PySem.W.kitOne X.K (tyD C d) (cV y)=some b∧(∀ j,d=.exc j→ExcK X.K (C j))∧(∀ j,d≠.fn j)∧isDct d=false∧Q (.bl b) H):=by
 intro pins s σ H xs us Q I r h
 obtain⟨Z,d,x,y,b,rfl,sm,rp,hy,e,he,hf,hdc,q⟩:=h
 obtain⟨u,c,rfl,ru,rc⟩:=vals2 r
 have hc:c=cV y:=by
  rcases hy with ⟨n,rfl⟩ | ⟨a,rfl⟩<;>exact rc
 subst hc
 have fin:∀ tk,EP X pins σ Q (.bool b) { s with toks:=tk }:=fun tk=>⟨.bl b,H,I.tok tk,rfl,q⟩
 cases d with
 | non=>rw[Rep]at rp;subst rp;cases (show u=Value.none from ru);exact PySem.W.kia_one PySem.W.kitx_none I.kIn True.intro e (fun z=>nomatch z) fin
 | bl k=>rw[Rep]at rp;subst rp;cases (show u=Value.bool k from ru);exact PySem.W.kia_one PySem.W.kitx_bool I.kIn True.intro e (fun z=>nomatch z) fin
 | int i=>rw[Rep]at rp;subst rp;obtain⟨t,rfl⟩:=(show ∃ t,u=Value.int i t from ru);exact PySem.W.kia_one PySem.W.kitx_int I.kIn True.intro e (fun z=>nomatch z) fin
 | str i=>rw[Rep]at rp;subst rp;obtain⟨t,rfl⟩:=(show ∃ t,u=Value.str i t from ru);exact PySem.W.kia_one PySem.W.kitx_str I.kIn True.intro e (fun z=>nomatch z) fin
 | tup ds =>
  rw[Rep]at rp
  obtain⟨a,vs,rfl,h1,h2⟩:=rp
  cases (show u=Value.ref a from ru)
  obtain⟨its,_,⟨o,p1,p2,_⟩,_⟩:=I.tuple (h1.mono sm)
  exact PySem.W.kia_one PySem.W.kitx_tuple I.kIn ⟨o,p1,p2⟩ e (fun z=>nomatch z) fin
 | lst ds =>
  rw[Rep]at rp
  obtain⟨a,vs,rfl,h1,h2⟩:=rp
  cases (show u=Value.ref a from ru)
  obtain⟨its,_,⟨o,n,p1,p2,_⟩,_⟩:=I.list (sm.seq h1)
  exact PySem.W.kia_one PySem.W.kitx_list I.kIn ⟨o,p1,p2⟩ e (fun z=>nomatch z) fin
 | fn k=>exact absurd rfl (hf k)
 | tab _ _=>cases hdc
 | dic _ _=>cases hdc
 | ptr _=>cases hdc
 | exc k =>
  rw[Rep]at rp
  obtain⟨a,rfl,h1⟩:=rp
  cases (show u=Value.ref a from ru)
  obtain⟨o,h2,h3,h5⟩:=(show ObjOk X.prog X.w H s.heap a (excO C k a) from I.hok a _ (sm a _ h1)).1
  exact PySem.W.kia_one (t2 (he k rfl)) I.kIn ⟨o,h2,h3,h5⟩ e (fun z=>nomatch z) fin
def dIsA (q:D→Option Bool)(d:D):R D:=match q d with
 | some b=>.ok (.bl b)
 | none=>.stuck
def eIs (q:D→Option Bool)(g:SS→R D):SS→R D:=fun S=>(g S).bind (dIsA q)
structure IsA (K:PySem.W.Frag)(C:Nat→Addr)(y:V)(q:D→Option Bool):Prop where
 one:(∃ n,y=.ty n)∨∃ a,y=.ref a
 ans:∀ d b,q d=some b→PySem.W.kitOne K (tyD C d) (cV y)=some b
 exc:∀ j b,q (.exc j)=some b→ExcK K (C j)
 fn:∀ j,q (.fn j)=none
 dct:∀ d,isDct d=true→q d=none
section
variable {X:Cx}{F:Fx}{p pos:Pos}{e ec:Expr}{g:SS→R D}{k:Nat}{y:V}{q:D→Option Bool}
theorem yH (bx:BX X F k)(hq:IsA F.K F.C y q):∀ σ H Q,tE F (eIs q g) σ H Q→tCB (fun xs H Q=>∃ (Z:Hp) (d:D) (x y:V) (b:Bool),xs=[x,y]∧Same Z H∧Rep X.K F.C Z d x∧((∃ n,y=.ty n)∨∃ a,y=.ref a) ∧
  PySem.W.kitOne X.K (tyD F.C d) (cV y)=some b∧(∀ j,d=.exc j→ExcK X.K (F.C j))∧(∀ j,d≠.fn j)∧isDct d=false∧Q (.bl b) H) (tCons (tE F g) (tCons (tC y) tNil)) σ H Q:=fun σ H Q ⟨Z,S,ok,w⟩ =>
 ah ok w fun d v H1 Z1 ok1 x1 rv w1=>by
  cases e:q d with
  | none=>unfold dIsA at w1;rw[e]at w1;exact w1.elim
  | some b =>
   unfold dIsA at w1
   rw[e]at w1
   refine⟨Z1,d,v,y,b,rfl,ok1.sub,by rw[bx.K];exact rv,hq.one,by rw[bx.K];exact hq.ans d b e,fun j ej=>?_,fun j ej=>(by rw[ej,hq.fn j]at e;cases e),(by cases hd:isDct d with | false=>rfl | true=>rw[hq.dct d hd]at e;cases e),WG.now w1 ok1.sub _ aG⟩
   subst ej
   rw[bx.K]
   exact hq.exc j b e
theorem aW (bx:BX X F k)(hg:Gl X "isinstance")(hm:X.mg "isinstance"=none)(hq:IsA F.K F.C y q)(ha:FE X F e g)(hc:PE X ec (tC y))(he:starEach [e,ec] X.env=(false,eval e X.env)::starEach [ec] X.env:=by rfl)
  (he2:starEach [ec] X.env=(false,eval ec X.env)::starEach [] X.env:=by rfl) (hpl:(backTo pos (starEach [ec] X.env)).any (·.1)=false:=by rfl) :
  FE X F (.Call (.Name "isinstance" p) [e,ec] [] pos) (eIs q g) :=
 (b0 ik hg hm (by decide +kernel) (aH ha (aH hc cH he2) he) (he:=he) (hpl:=hpl)).weak (yH bx hq)
end
def qTup:D→Option Bool
 | .tup _=>some true
 | .exc _=>none
 | .fn _=>none
 | .tab _ _=>none
 | .dic _ _=>none
 | .ptr _=>none
 | _=>some false
def qInt:D→Option Bool
 | .int _=>some true
 | .bl _=>some true
 | .exc _=>none
 | .fn _=>none
 | .tab _ _=>none
 | .dic _ _=>none
 | .ptr _=>none
 | _=>some false
def qBool:D→Option Bool
 | .bl _=>some true
 | .exc _=>none
 | .fn _=>none
 | .tab _ _=>none
 | .dic _ _=>none
 | .ptr _=>none
 | _=>some false
def qStr:D→Option Bool
 | .str _=>some true
 | .exc _=>none
 | .fn _=>none
 | .tab _ _=>none
 | .dic _ _=>none
 | .ptr _=>none
 | _=>some false
def qList:D→Option Bool
 | .lst _=>some true
 | .exc _=>none
 | .fn _=>none
 | .tab _ _=>none
 | .dic _ _=>none
 | .ptr _=>none
 | _=>some false
theorem fC {K:PySem.W.Frag}{C:Nat→Addr}:IsA K C (.ty "tuple") qTup:=⟨.inl ⟨_,rfl⟩,fun d b e=>by cases d<;>cases e<;>with_unfolding_all rfl,fun j b e=>(nomatch e),fun _=>rfl,fun d h=>by cases d<;>first | rfl | cases h⟩
theorem v4 {K:PySem.W.Frag}{C:Nat→Addr}:IsA K C (.ty "int") qInt:=⟨.inl ⟨_,rfl⟩,fun d b e=>by cases d<;>cases e<;>with_unfolding_all rfl,fun j b e=>(nomatch e),fun _=>rfl,fun d h=>by cases d<;>first | rfl | cases h⟩
theorem t4 {K:PySem.W.Frag}{C:Nat→Addr}:IsA K C (.ty "bool") qBool:=⟨.inl ⟨_,rfl⟩,fun d b e=>by cases d<;>cases e<;>with_unfolding_all rfl,fun j b e=>(nomatch e),fun _=>rfl,fun d h=>by cases d<;>first | rfl | cases h⟩
theorem v5 {K:PySem.W.Frag}{C:Nat→Addr}:IsA K C (.ty "str") qStr:=⟨.inl ⟨_,rfl⟩,fun d b e=>by cases d<;>cases e<;>with_unfolding_all rfl,fun j b e=>(nomatch e),fun _=>rfl,fun d h=>by cases d<;>first | rfl | cases h⟩
theorem t5 {K:PySem.W.Frag}{C:Nat→Addr}:IsA K C (.ty "list") qList:=⟨.inl ⟨_,rfl⟩,fun d b e=>by cases d<;>cases e<;>with_unfolding_all rfl,fun j b e=>(nomatch e),fun _=>rfl,fun d h=>by cases d<;>first | rfl | cases h⟩
def sOwn (i:Nat)(gs:SS→R (List D)):SS→O:=fun S=>rO ((gs S).bind fun ds=>if ds.length≤16777216 then .ok (.nx (S.set i (some (.own ds)))) else .stuck)
def sApp (i:Nat)(gs:SS→R (List D)):SS→O:=fun S=>match S[i]? with
 | some (some (.own ds))=>rO ((gs S).bind fun es=>match es with
  | [d]=>if ds.length < 16777216 then .ok (.nx (S.set i (some (.own (ds++[d]))))) else .stuck
  | _=>.stuck)
 | _=>.stuck
def sExt (i:Nat)(gs:SS→R (List D)):SS→O:=fun S=>match S[i]? with
 | some (some (.own ds))=>rO ((gs S).bind fun es=>match es with
  | [.lst xs]=>if ds.length+xs.length≤16777216 then .ok (.nx (S.set i (some (.own (ds++xs))))) else .stuck
  | [.tup xs]=>if ds.length+xs.length≤16777216 then .ok (.nx (S.set i (some (.own (ds++xs))))) else .stuck
  | _=>.stuck)
 | _=>.stuck
def rExt (K:PySem.W.Frag):V→List V→Hp→VK→Prop:=fun x vs H Q=>∃ l b xs zs,x=.ref l∧vs=[.ref b]∧H l=some (.lst xs)∧(SqL K H b zs∨SqT K H b zs)∧xs.length+zs.length≤sizeLine∧Q .non (upd H l (.lst (xs++zs)))
theorem yI {X:Cx}:MtR X "list.extend" (rExt X.K):=by
 intro pins s σ H x vs v us Q I rx rv h
 obtain⟨l,b,xs,zs,rfl,rfl,hH,hB,hz,q⟩:=h
 cases rx
 obtain⟨u,rfl,ru⟩:=rv.one
 cases ru
 obtain⟨z,its,n,r,hl,e⟩:=I.lstM hH
 rcases hB with hB | hB
 ·obtain⟨its2,r2,⟨⟨c2,d2,dt2,sl2⟩,n2,e2,p2,p3,p4⟩,z2⟩:=I.list hB
  simp only at p2 p3 p4
  subst p2 p3 p4
  have hl2:=r2.length
  have hsz:its.toArray.size+its2.toArray.size≤sizeLine:=by rw[List.size_toArray,List.size_toArray];omega
  refine call_meets F.slot_list_extend ⟨_,e,rfl⟩ F.entry_list_extend (F.args_list_extend_2 _ _) (rk l b its.toArray its2.toArray n n2 _ _ hsz) ⟨e,e2,?_⟩
  refine⟨.non,_,I.lset hH e (by simp) (r.append r2) ?_,rfl,q⟩
  grind
 ·obtain⟨its2,r2,⟨⟨c2,d2,dt2,sl2⟩,e2,p2,n2,p3⟩,z2⟩:=I.tuple hB
  simp only at p2 p3
  subst p2 p3
  have hl2:=r2.length
  have hsz:its.toArray.size+its2.toArray.size≤sizeLine:=by rw[List.size_toArray,List.size_toArray];omega
  refine call_meets F.slot_list_extend ⟨_,e,rfl⟩ F.entry_list_extend (F.args_list_extend_2 _ _) (rm l b its.toArray its2.toArray n n2 _ _ hsz) ⟨e,e2,?_⟩
  refine⟨.non,_,I.lset hH e (by simp) (r.append r2) ?_,rfl,q⟩
  grind
section
variable {X:Cx}{F:Fx}{e:Expr}{es:List Expr}{gs:SS→R (List D)}{pos p0 apos cpos lpos:Pos}{x:Str}
theorem oH (i:Nat){pos':Pos}(hN:X.N.Nodup)(h:FA X F es gs)(hi:X.N[i]?=some x:=by rfl)(hx:Loc X.env.scope x:=by first | exact Or.inl rfl | exact Or.inr rfl)
  (hs:swapsWith (.List es lpos) (some (.Name x pos')) pos.line X.env=pure false:=by rfl) (hf:X.fn x=true∨X.env.scope.names.lookup x=some .local:=by first | exact .inl rfl | exact .inr rfl):FS X F (.Assign [.Name x pos'] (.List es lpos) pos) (sOwn i gs) :=
 (iN hN hi hx (oj h) hs hf).weak fun D σ H ⟨Z,S,ok,w⟩=>aw ok (WO.wg ok w) fun ds vs H1 Z1 ok1 x1 rs w1=>by
  split at w1
  ·rename_i hl
   refine⟨by rw[← rs.length,sizeLine_eq];exact hl,fun p hp=>?_⟩
   have w2:=WG.now w1 ok1.sub
   exact w2 _ _ Z1 (Same.refl _) (ok1.newOwn hp rs)
  ·exact w1.elim
theorem rF (i:Nat)(ha:FA X F [e] gs)(hi:X.N[i]?=some x:=by rfl)(hv:Vis X.env.scope x:=by first | exact Or.inl rfl | exact Or.inr (Or.inl rfl) | exact Or.inr (Or.inr rfl))(hd:(x==("__debug__":Str))=false:=by decide)
  (hcd:(x==("__classdict__":Str))=false:=by decide)
  (hbase:attributeBase (.Name x p0) "append" X.env (eval (.Name x p0) X.env)=eval (.Name x p0) X.env:=by rfl)
  (hfew:((backTo cpos (starEach [e] X.env)).all (fun x=>!x.1)&&(backToKw cpos (keywordEach [] X.env)).all (fun x=>x.1.isSome)
   && decide ([e].length+([]:List Keyword).length+(if ([]:List Keyword).isEmpty then 0 else 1) < 30))=true:=by rfl)
  (hline:(apos.endLine==cpos.line)=true:=by rfl) (hs:starEach [e] X.env=(false,eval e X.env)::starEach [] X.env:=by rfl) (hplain:(backTo cpos (starEach [] X.env)).any (·.1)=false:=by rfl)
  (hsw:swapsWith (.Call (.Attribute (.Name x p0) "append" apos) [e] [] cpos) none pos.line X.env=pure false:=by rfl) :
  FS X F (.Expr (.Call (.Attribute (.Name x p0) "append" apos) [e] [] cpos) pos) (sApp i gs) :=
 (fk (pN PySem.F.plainAttrs_list PySem.F.slot_list_append (by kernel_rfl) (eg (X:=X)) (cG hi hv hd hcd) ha hbase hfew hline hs hplain) hsw).weak fun D σ H ⟨Z,S,ok,w⟩=>by
  unfold sApp at w
  split at w
  ·rename_i ds e0
   obtain⟨a,vs,e1,e2,e3,e4,r⟩:=ok.own i ds e0
   refine⟨.ref a,e1,.inl ⟨rfl,vs,SqL.of e2⟩,aw ok (WO.wg ok w) fun es' us H1 Z1 ok1 x1 rs w1=>?_⟩
   split at w1
   ·rename_i d
    split at w1
    ·rename_i hl
     obtain⟨y,rfl,ry⟩:=aI rs
     have w2:=WG.now w1 ok1.sub
     refine⟨a,vs,y,rfl,rfl,x1.same _ _ e2,by rw[← r.length,sizeLine_eq];exact hl,?_⟩
     exact w2 σ _ Z1 (Same.refl _) (ok1.write e0 e1 ((r.mono x1.z).append (Reps.cons ry Reps.nil)))
    ·exact w1.elim
   ·exact w1.elim
  ·exact w.elim
theorem kP (i:Nat)(bK:X.K=F.K)(ha:FA X F [e] gs)(hi:X.N[i]?=some x:=by rfl)(hv:Vis X.env.scope x:=by first | exact Or.inl rfl | exact Or.inr (Or.inl rfl) | exact Or.inr (Or.inr rfl))(hd:(x==("__debug__":Str))=false:=by decide)
  (hcd:(x==("__classdict__":Str))=false:=by decide)
  (hbase:attributeBase (.Name x p0) "extend" X.env (eval (.Name x p0) X.env)=eval (.Name x p0) X.env:=by rfl)
  (hfew:((backTo cpos (starEach [e] X.env)).all (fun x=>!x.1)&&(backToKw cpos (keywordEach [] X.env)).all (fun x=>x.1.isSome)
   && decide ([e].length+([]:List Keyword).length+(if ([]:List Keyword).isEmpty then 0 else 1) < 30))=true:=by rfl)
  (hline:(apos.endLine==cpos.line)=true:=by rfl) (hs:starEach [e] X.env=(false,eval e X.env)::starEach [] X.env:=by rfl) (hplain:(backTo cpos (starEach [] X.env)).any (·.1)=false:=by rfl)
  (hsw:swapsWith (.Call (.Attribute (.Name x p0) "extend" apos) [e] [] cpos) none pos.line X.env=pure false:=by rfl) :
  FS X F (.Expr (.Call (.Attribute (.Name x p0) "extend" apos) [e] [] cpos) pos) (sExt i gs) :=
 (fk (pN PySem.F.plainAttrs_list PySem.F.slot_list_extend (by kernel_rfl) (yI) (cG hi hv hd hcd) ha hbase hfew hline hs hplain) hsw).weak fun D σ H ⟨Z,S,ok,w⟩=>by
  unfold sExt at w
  split at w
  ·rename_i ds e0
   obtain⟨a,vs,e1,e2,e3,e4,r⟩:=ok.own i ds e0
   refine⟨.ref a,e1,.inl ⟨rfl,vs,SqL.of e2⟩,aw ok (WO.wg ok w) fun es' us H1 Z1 ok1 x1 rs w1=>?_⟩
   split at w1
   ·rename_i xs
    split at w1
    ·rename_i hl
     obtain⟨y,rfl,ry⟩:=aI rs
     rw[Rep]at ry
     obtain⟨b,zs,rfl,h1,h2⟩:=ry
     have w2:=WG.now w1 ok1.sub
     refine⟨a,b,vs,zs,rfl,rfl,x1.same _ _ e2,.inl (by rw[bK];exact ok1.sub.seq h1),by rw[← r.length,← h2.length,sizeLine_eq];exact hl,?_⟩
     exact w2 σ _ Z1 (Same.refl _) (ok1.write e0 e1 ((r.mono x1.z).append h2))
    ·exact w1.elim
   ·rename_i xs
    split at w1
    ·rename_i hl
     obtain⟨y,rfl,ry⟩:=aI rs
     rw[Rep]at ry
     obtain⟨b,zs,rfl,h1,h2⟩:=ry
     have w2:=WG.now w1 ok1.sub
     refine⟨a,b,vs,zs,rfl,rfl,x1.same _ _ e2,.inr (by rw[bK];exact h1.mono ok1.sub),by rw[← r.length,← h2.length,sizeLine_eq];exact hl,?_⟩
     exact w2 σ _ Z1 (Same.refl _) (ok1.write e0 e1 ((r.mono x1.z).append h2))
    ·exact w1.elim
   ·exact w1.elim
  ·exact w.elim
end
section
variable {X:Cx}{F:Fx}{o e:Expr}{g:SS→R D}{gs:SS→R (List D)}{apos cpos:Pos}{k:Nat}
end
def MadeX (X:Cx)(F:Fx):Prop:=∀ (pins:List (Addr×Obj)) (σ:St) (H:Hp) (s:Shared) (h1:Heap) (ea C:Addr) (args:List Value),Inv X pins σ H s→Heap.MadeExcOf s.heap h1 ea (.ref C) args→F.E (.ref C) none H→X.xe (.ref ea) { s with heap:=h1 }
def bmVE:List Value:=[.type "ValueError",.type "Exception",.type "BaseException",.type "object"]
theorem v6 {K:PySem.W.Frag}{h:Heap}{C:Addr}{bmB:List Value}{newId:String}(X:K.In h)(q:PySem.W.excIn K C bmB newId=true) :
  ∃ (bm:List Value) (N:Addr) (nm qn:Str) (bs:List Value) (hdct:Bool) (sn:List Str) (sub:List Value) (ab:Bool) (col:Option Bool) (dd:Option Addr) (k0 k1 k2 k3 k5:Option Value) (mN:Str→Option Value),
   h.get? C=some (excClassObj nm qn C N bs bm hdct sn sub ab col dd k0 k1 k2 k3 k5 newId)∧h.Ns N mN∧mN "__init__"=none∧OwnTail h bmB bm:=by
 unfold PySem.W.excIn at q
 split at q
 ·rename_i dd cd sl ho
  split at q
  ·rename_i C' bm k0 k1 k2 k3 n k5 hm hs
   simp only[Bool.and_eq_true,beq_iff_eq,Bool.not_eq_true']at q
   obtain⟨⟨⟨⟨⟨rfl,rfl⟩,hdel⟩,ht⟩,hok⟩,hni⟩:=q
   obtain⟨nm,bs,mro,ns,qn,hd,sn,sub,ab,col,del⟩:=cd
   dsimp only at hm hdel hok hni
   subst hm hdel
   have hsl:sl = #[k0,k1,k2,k3,some (.builtin n),k5]:=by
    grind
   subst hsl
   exact⟨bm,ns,nm,qn,bs,hd,sn,sub,ab,col,dd,k0,k1,k2,k3,k5,_,X _ _ ho,.of_isNs (PySem.W.isNs_of_in X hok),PySem.W.nsMap_none_of_in X hok hni,PySem.W.tail_of_in X ht⟩
  ·cases q
 ·cases q
def sRaise (j:Nat)(gs:SS→R (List D)):SS→O:=fun S=>rO ((gs S).bind fun ds=>if ds.length≤1000 then .ok (.er j) else .stuck)
section
variable {X:Cx}{F:Fx}{e:Expr}{es:List Expr}{gs:SS→R (List D)}{pos np cpos:Pos}{x:Str}{k j:Nat}
theorem fD (j:Nat)(bx:BX X F k)(hmade:MadeX X F)(hg:Gl X x)(hm:X.mg x=some (.ref (F.C j)))(q:PySem.W.excIn F.K (F.C j) bmVE "ValueError.__new__"=true)(ha:FA X F (e::es) gs)(hd:(x==("__debug__":Str))=false:=by decide)
  (he:starEach (e::es) X.env=(false,eval e X.env)::starEach es X.env:=by rfl) (hpl:(backTo cpos (starEach es X.env)).any (·.1)=false:=by rfl) :
  FS X F (.Raise (some (.Call (.Name x np) (e::es) [] cpos)) none pos) (sRaise j gs):=by
 intro pins s σ H D I h
 obtain⟨Z,S,ok,w⟩:=h
 have q':=q
 rw[← bx.K]at q'
 obtain⟨bm,N,nm,qn,bs,hdct,sn,sub,ab,col,dd,k0,k1,k2,k3,k5,mN,hC0,hN0,hni0,T0⟩:=v6 I.ok.mod.kin q'
 have hb:∀ {pl σ' H' s'},Inv X pl σ' H' s'→∀ b o,X.base.get? b=some o→s'.heap.get? b=some o:=fun I'=>I'.bk
 refine wpAny_Raise_call_subU (nm:=nm) (q:=qn) (N:=N) (bs:=bs) (hdct:=hdct) (sn:=sn) (sub:=sub) (ab:=ab) (col:=col) (dd:=dd) (k0:=k0) (k1:=k1) (k2:=k2) (k3:=k3) (k5:=k5) PySem.F.excBase_ValueError (by decide) PySem.F.excBase_ValueError (T0.hasType PySem.F.excBase_ValueError.hasBase) (I.ok.hd bx.calm) (by rw[he];show (false||(backTo cpos (starEach es X.env)).any (·.1))=false;rw[hpl];rfl) hni0 (d8 I hg hm ⟨rfl,?_⟩ hd)
 have hA:=ha cpos pins s σ H (fun vs H1=>vs.length≤1000∧F.E (.ref (F.C j)) none H1) I (aw ok (WO.wg ok w) fun ds vs H1 Z1 ok1 x1 rs w1=>by
  split at w1
  ·rename_i hl
   exact⟨by rw[← rs.length];exact hl,WG.now w1 ok1.sub H1 ok1.ex.same⟩
  ·exact w1.elim)
 rw[he]at hA ⊢
 refine Calls.evalArgs_plain (thn hA fun us s2 ⟨vs,H2,I2,r2,q2⟩=>⟨rfl,?_,hb I2 _ _ hC0,hN0.keeps (hb I2),T0.keeps (hb I2),fun h' e hm'=>hmade pins σ H2 s2 h' e _ us I2 hm' q2.2⟩)
 rw[← r2.length,sizeLine_eq]
 omega
end
section
variable {X:Cx}{pins:List (Addr×Obj)}{σ:St}{H:Hp}{s:Shared}
end
structure Takes (K:PySem.W.Frag)(C:Nat→Addr)(C0:Addr)(q:Nat→Bool):Prop where
 exc:PySem.W.excIn K C0 bmVE "ValueError.__new__"=true
 sub:∀ k,q k=true→PySem.W.subIn K (.ref (C k)) (.ref C0)=some true
section
variable {F:Fx}{H Z:Hp}{S:SS}{σ:St}
end
section
variable {X:Cx}{F:Fx}{body:List Stmt}{g:SS→O}{c n y:Str}{np np2 kp apos hpos pos:Pos}{k:Nat}{q:Nat→Bool}{C0:Addr}
end
def eNeg (g:SS→R D):SS→R D:=fun S=>(g S).bind fun d=>match d with
 | .int i=>.ok (.int (-i))
 | _=>.stuck
section
variable {X:Cx}{F:Fx}{a:Expr}{g:SS→R D}{pos:Pos}{x:Str}{i:Int}
theorem oJ (h:FE X F a g):FE X F (.UnaryOp .USub a pos) (eNeg g):=(zv yq h).weak fun σ H Q ⟨Z,S,ok,w⟩=>ah ok w fun d v H1 Z1 ok1 x1 rv w1=>by
 cases d with
 | int i=>rw[Rep]at rv;exact⟨i,rv,WG.now w1 ok1.sub _ ax⟩
 | _=>exact w1.elim
theorem lN (h:∃ t,X.mg x=some (.int i t))(hg:Gl X x)(hd:(x==("__debug__":Str))=false:=by decide):FE X F (.Name x pos) (eC (.int i)):=by
 obtain⟨t,e⟩:=h
 exact cZ (iB (v:=.int i) hg e ⟨t,rfl⟩ hd) fun _=>ax
end
end FF
end
noncomputable section
namespace FF
open PySem L2
def tupI (l:List Int):D:=.tup (l.map .int)
def intsOf:List D→Option (List Int)
 | []=>some []
 | .int i::r=>(intsOf r).map (i::·)
 | _::_=>none
def sumI (is:List Int):Int:=is.foldl (· + ·) 0
def dSum:List D→R D
 | [.lst xs]=>match intsOf xs with
  | some is=>.ok (.int (sumI is))
  | none=>.stuck
 | [.tup xs]=>match intsOf xs with
  | some is=>.ok (.int (sumI is))
  | none=>.stuck
 | _=>.stuck
def setAll:List Nat→List D→SS→SS
 | i::r,d::ds,S=>setAll r ds (S.set i (some (.val d)))
 | _,_,S=>S
def gTup (ix:List Nat):D→SS→R SS:=fun d S=>match d with
 | .tup ds=>if ds.length=ix.length then .ok (setAll ix ds S) else .stuck
 | _=>.stuck
end FF
end
noncomputable section
namespace FF
open PySem PySem.Spec PyProof.Rows L2
def TupK (K:PySem.W.Frag)(a:Addr)(l:List Int):Prop :=
 ∃ (o:Obj) (its:Array Value) (n:Nat),K.lookup a=some o∧o.cls=.type "tuple" ∧ o.dict=none∧o.data=.seq its n∧its.size≤sizeLine∧Vals (l.map V.int) its.toList
theorem kQ {K:PySem.W.Frag}{C:Nat→Addr}{Z:Hp}:∀ ns:List Int,Reps K C Z (ns.map .int) (ns.map V.int)
 | []=>by rw[List.map_nil,List.map_nil,Reps]
 | i::ns=>by rw[List.map_cons,List.map_cons,Reps];exact⟨_,_,rfl,ax,kQ ns⟩
theorem v7 {X:Cx}{F:Fx}{x:Str}{pos:Pos}{l:List Int}(h:∃ a,X.mg x=some (.ref a)∧TupK F.K a l)(hg:Gl X x)(hd:(x==("__debug__":Str))=false:=by decide):FE X F (.Name x pos) (eC (tupI l)):=by
 obtain⟨a,e,o,its,n,h1,h2,h2d,h3,h4,h5⟩:=h
 exact cZ (iB (v:=.ref a) hg e rfl hd) fun Z=>by
  unfold tupI
  rw[Rep]
  exact⟨a,_,rfl,.inr ⟨o,its,n,h1,h2,h2d,h3,h4,h5⟩,kQ l⟩
theorem i7 {K:PySem.W.Frag}{C:Nat→Addr}{Z:Hp}:∀ {ds:List D} {vs:List V} {is:List Int},Reps K C Z ds vs→intsOf ds=some is→vs=is.map V.int
 | [],vs,is,r,e=>by rw[Reps]at r;cases e;exact r
 | d::ds,vs,is,r,e=>by
  rw[Reps]at r
  obtain⟨v,r',rfl,h1,h2⟩:=r
  cases d with
  | int i =>
   rw[intsOf]at e
   cases q:intsOf ds with
   | none=>rw[q]at e;cases e
   | some is' =>
    rw[q]at e
    cases e
    rw[Rep]at h1
    rw[h1,i7 h2 q]
    rfl
  | _=>simp[intsOf]at e
section
variable {X:Cx}
end
section
variable {X:Cx}{F:Fx}{p pos:Pos}{e:Expr}{gs:SS→R (List D)}{k:Nat}
end
section
variable {X:Cx}{F:Fx}{o e:Expr}{g:SS→R D}{gs:SS→R (List D)}{apos cpos:Pos}{k:Nat}
end
end FF
namespace HT
open PySem PyProof.Rows
end HT
namespace FF
open PySem PySem.Spec PyProof.Rows L2
section
variable {X:Cx}{F:Fx}{e:Expr}{lo hi:Option Expr}{g:SS→R D}{l h:SS→R (Option Int)}{pos p2:Pos}
end
theorem R.bind_assoc {α β γ:Type}(r:R α)(f:α→R β)(g:β→R γ):(r.bind f).bind g=r.bind fun x=>(f x).bind g:=by cases r<;>rfl
end FF
end
noncomputable section
namespace FF
open PySem L2
def sameK:D→D→Bool
 | .tup _,.tup _=>true
 | .int _,.int _=>true
 | _,_=>false
def eOwnIx (i:Nat)(g:SS→R D):SS→R D:=fun S=>match S[i]? with
 | some (some (.own ds))=>(g S).bind fun k=>match k with
  | .int j=>match atI ds j with
   | some d=>.ok d
   | none=>.stuck
  | _=>.stuck
 | _=>.stuck
end FF
end
noncomputable section
namespace PySem.SeqAt
open AutoSeq1 (wpAny_loadPart')
open MeetsSeq MeetsSeq2 MeetsSeq3 SeqRoads2
end PySem.SeqAt
namespace FF
open PySem PySem.Spec PyProof.Rows L2
section
variable {X:Cx}{F:Fx}{a b:Expr}{ga gb:SS→R D}{pos:Pos}{k:Nat}
end
section
variable {X:Cx}{F:Fx}{a b:Expr}{ga gb:SS→R D}{pos:Pos}{k:Nat}
end
section
variable {X:Cx}{F:Fx}{o e:Expr}{g:SS→R D}{gs:SS→R (List D)}{apos cpos:Pos}{k:Nat}
end
section
variable {X:Cx}{F:Fx}{pos p:Pos}{k:Nat}{gs:SS→R (List D)}{g ge:SS→R D}{e ei:Expr}{x:Str}
theorem mX (i:Nat){p0:Pos}(hK:X.K=F.K)(he:FE X F e g)(hs:PlainIx e:=by intro _ _;rfl)(hi:X.N[i]?=some x:=by rfl)(hv:Vis X.env.scope x:=by first | exact Or.inl rfl | exact Or.inr (Or.inl rfl) | exact Or.inr (Or.inr rfl))(hd:(x==("__debug__":Str))=false:=by decide)
  (hcd:(x==("__classdict__":Str))=false:=by decide):FE X F (.Subscript (.Name x p0) e pos) (eOwnIx i g) :=
 (xM pM (cG hi hv hd hcd) he hs).weak fun σ H Q ⟨Z,S,ok,w⟩=>by
  unfold eOwnIx at w
  split at w
  ·rename_i ds e0
   obtain⟨a,vs,e1,e2,e3,e4,r⟩:=ok.own i ds e0
   refine⟨.ref a,e1,ah ok w fun d v H1 Z1 ok1 x1 rv w1=>?_⟩
   cases d with
   | int j =>
    rw[Rep]at rv
    have w2:WG F H1 Z1 (match atI ds j with | some d=>R.ok d | none=>R.stuck) _:=w1
    cases q:atI ds j with
    | none=>rw[q]at w2;exact w2.elim
    | some d =>
     rw[q]at w2
     obtain⟨v',f1,f2⟩:=(r.mono x1.z).at q
     exact⟨a,vs,j,v',rfl,rv,SqL.of (x1.same _ _ e2),f1,WG.now w2 ok1.sub _ f2⟩
   | _=>exact w1.elim
  ·exact w.elim
theorem Reps.setAt {K:PySem.W.Frag}{C:Nat→Addr}{Z:Hp}{d:D}{v:V}(q:Rep K C Z d v):∀ {ds:List D} {vs:List V} (j:Nat),Reps K C Z ds vs→Reps K C Z (ds.set j d) (vs.set j v)
 | [],vs,j,r=>by rw[Reps]at r;subst r;rw[List.set_nil,List.set_nil,Reps]
 | a::ds,vs,0,r=>by
  rw[Reps]at r
  obtain⟨w,r',rfl,h1,h2⟩:=r
  rw[List.set_cons_zero,List.set_cons_zero,Reps]
  exact⟨_,_,rfl,q,h2⟩
 | a::ds,vs,j+1,r=>by
  rw[Reps]at r
  obtain⟨w,r',rfl,h1,h2⟩:=r
  rw[List.set_cons_succ,List.set_cons_succ,Reps]
  exact⟨_,_,rfl,h1,Reps.setAt q j h2⟩
end
def dNf (x y:D):R D:=if good 60 x=true∧good 60 y=true then .ok (.bl (!eqD x y)) else .stuck
def rNf (K:PySem.W.Frag)(C:Nat→Addr):R2:=fun x y H Q=>∃ Z d e,Same Z H∧Rep K C Z d x∧Rep K C Z e y∧good 60 d=true∧good 60 e=true∧Q (.bl (!eqD d e)) H
section
variable {X:Cx}{F:Fx}{a b:Expr}{ga gb:SS→R D}{pos:Pos}{k:Nat}
theorem zC (hK:X.K=F.K)(hr:Room k X.A):OpR X (compareOp .NotEq) (rNf F.K F.C):=by
 intro pins s σ H x y v u Q I rx ry h
 obtain⟨Z,d,e,z,h1,h2,g1,g2,q⟩:=h
 have hu:X.A.units+60 < cLine:=by have:=hr.un;omega
 exact(eqB hK I z 60 X.A d e x y v u g1 g2 h1 h2 rx ry hu).2.2 X.prog X.w X.xe _ ⟨.bl (!eqD d e),H,I,rfl,q⟩
theorem yJ:OpD F (rNf F.K F.C) dNf:=by
 intro H Z x y dx dy Q s rx ry w
 unfold dNf at w
 split at w
 ·rename_i g
  exact⟨Z,dx,dy,s,rx,ry,g.1,g.2,WG.now w s _ aG⟩
 ·exact w.elim
theorem t6 (bx:BX X F k)(ha:FE X F a ga)(hb:FE X F b gb):FT X F (.Compare a [.NotEq] [b] pos) (gB (eOp dNf ga gb)):=lI (zC bx.K bx.room) yJ ha hb
end
def qTk (es:List Nat)(j:Nat):Bool:=es.contains j
theorem t7 {K:PySem.W.Frag}{C:Nat→Addr}{es:List Nat}(h:PySem.W.excIn K (C 0) bmVE "ValueError.__new__"=true)(hs:∀ j∈es,PySem.W.subIn K (.ref (C j)) (.ref (C 0))=some true):Takes K C (C 0) (qTk es) :=
 ⟨h,fun k e=>hs k (by simpa [qTk] using e)⟩
section
variable {X:Cx}{F:Fx}{o e:Expr}{g:SS→R D}{gs:SS→R (List D)}{apos cpos:Pos}{k:Nat}
end
end FF
end
noncomputable section
namespace FF
open PySem L2
inductive L (σ:Type) where
 | nx (s:σ) | rt (d:D) | er (k:Nat) | stuck
def lB {α σ:Type}(r:R α)(k:α→L σ):L σ:=match r with
 | .ok a=>k a
 | .err e=>.er e
 | .stuck=>.stuck
def lS {τ σ:Type}(l:L τ)(k:τ→L σ):L σ:=match l with
 | .nx s=>k s
 | .rt d=>.rt d
 | .er e=>.er e
 | .stuck=>.stuck
def lFor {α τ:Type}(f:τ→α→L τ):List α→τ→L τ
 | [],s=>.nx s
 | d::r,s=>lS (f s d) fun s'=>lFor f r s'
def lTry {τ σ:Type}(q:Nat→Bool)(l:L τ)(k:τ→L σ)(h:Nat→L σ):L σ:=match l with
 | .nx s=>k s
 | .rt d=>.rt d
 | .er e=>if q e=true then h e else .stuck
 | .stuck=>.stuck
def outL {σ:Type}(l:L σ):R D:=match l with
 | .nx _=>.ok .non
 | .rt d=>.ok d
 | .er k=>.err k
 | .stuck=>.stuck
section
variable {α τ σ:Type}
@[simp] theorem bN (a:α)(k:α→L σ):lB (.ok a) k=k a:=rfl
@[simp] theorem yK (e:Nat)(k:α→L σ):lB (.err e) k=.er e:=rfl
@[simp] theorem zE (k:α→L σ):lB .stuck k=.stuck:=rfl
@[simp] theorem kR (s:τ)(k:τ→L σ):lS (.nx s) k=k s:=rfl
@[simp] theorem zF (d:D)(k:τ→L σ):lS (.rt d) k=.rt d:=rfl
@[simp] theorem zG (e:Nat)(k:τ→L σ):lS (.er e) k=.er e:=rfl
@[simp] theorem zH (k:τ→L σ):lS .stuck k=.stuck:=rfl
@[simp] theorem zI (f:τ→α→L τ)(s:τ):lFor f [] s=.nx s:=rfl
theorem gL (f:τ→α→L τ)(d:α)(r:List α)(s:τ):lFor f (d::r) s=lS (f s d) fun s'=>lFor f r s':=rfl
@[simp] theorem Aj (q:Nat→Bool)(s:τ)(k:τ→L σ)(h:Nat→L σ):lTry q (.nx s) k h=k s:=rfl
@[simp] theorem Ak (q:Nat→Bool)(d:D)(k:τ→L σ)(h:Nat→L σ):lTry q (.rt d:L τ) k h=.rt d:=rfl
@[simp] theorem Al (q:Nat→Bool)(e:Nat)(k:τ→L σ)(h:Nat→L σ):lTry q (.er e:L τ) k h=if q e=true then h e else .stuck:=rfl
@[simp] theorem v8 (s:σ):outL (.nx s)=.ok .non:=rfl
@[simp] theorem v9 (d:D):outL (.rt d:L σ)=.ok d:=rfl
@[simp] theorem wb (k:Nat):outL (.er k:L σ)=.err k:=rfl
end
def rAnd (a b:R Bool):R Bool:=a.bind fun c=>if c=true then b else .ok false
def rOr (a b:R Bool):R Bool:=a.bind fun c=>if c=true then .ok true else b
def rNot (a:R Bool):R Bool:=a.bind fun c=>.ok (!c)
def vAnd (a b:R D):R D:=(asB a).bind fun c=>if c=true then b else .ok (.bl false)
def vOr (a b:R D):R D:=(asB a).bind fun c=>if c=true then .ok (.bl true) else b
def vNot (a:R D):R D:=(asB a).bind fun c=>.ok (.bl (!c))
def rIf (c:R Bool)(a b:R D):R D:=c.bind fun t=>if t=true then a else b
def rCh (f f':D→D→R D)(x y:D)(w:R D):R D:=(asB (f x y)).bind fun k=>if k=true then w.bind fun w=>f' y w else .ok (.bl false)
@[simp] theorem i8 (b:Bool):asB (.ok (.bl b))=.ok b:=rfl
@[simp] theorem yL (b:R Bool):rAnd (.ok true) b=b:=rfl
@[simp] theorem yM (b:R Bool):rAnd (.ok false) b=.ok false:=rfl
@[simp] theorem zJ (b:R Bool):rOr (.ok true) b=.ok true:=rfl
@[simp] theorem zK (b:R Bool):rOr (.ok false) b=b:=rfl
@[simp] theorem lO (b:Bool):rNot (.ok b)=.ok (!b):=rfl
@[simp] theorem yN (b:R D):vAnd (.ok (.bl true)) b=b:=rfl
@[simp] theorem yO (b:R D):vAnd (.ok (.bl false)) b=.ok (.bl false):=rfl
@[simp] theorem zL (b:R D):vOr (.ok (.bl true)) b=.ok (.bl true):=rfl
@[simp] theorem zM (b:R D):vOr (.ok (.bl false)) b=b:=rfl
@[simp] theorem wc (b:Bool):vNot (.ok (.bl b))=.ok (.bl (!b)):=rfl
@[simp] theorem zN (a b:R D):rIf (.ok true) a b=a:=rfl
@[simp] theorem zO (a b:R D):rIf (.ok false) a b=b:=rfl
def bA {α:Type}:List (R D)→(List D→R α)→R α
 | [],k=>k []
 | r::rs,k=>r.bind fun d=>bA rs fun ds=>k (d::ds)
def cGo (c:D→R Bool)(e:D→R D):List D→R (List D)
 | []=>.ok []
 | d::r=>match c d with
  | .ok true=>match e d with
   | .ok y=>match cGo c e r with
    | .ok ys=>.ok (y::ys)
    | _=>.stuck
   | _=>.stuck
  | .ok false=>cGo c e r
  | _=>.stuck
def cMap (e:D→R D)(xs:List D):R D:=(cGo (fun _=>.ok true) e xs).bind fun ys=>.ok (.lst ys)
def cFil (c:D→R Bool)(e:D→R D)(xs:List D):R D:=(cGo c e xs).bind fun ys=>.ok (.lst ys)
def un2 {α:Type}(d:D)(k:D→D→R α):R α:=match d with
 | .tup [a,b]=>k a b
 | _=>.stuck
def lUn2 {σ:Type}(d:D)(k:D→D→L σ):L σ:=match d with
 | .tup [a,b]=>k a b
 | _=>.stuck
def sq (d:D):R (List D):=(asSeq d).bind fun ds=>if ds.length≤16777216 then .ok ds else .stuck
def dList:List D→R D
 | [.lst xs]=>.ok (.lst xs)
 | [.tup xs]=>.ok (.lst xs)
 | _=>.stuck
def enD:List D→Nat→List D
 | [],_=>[]
 | d::r,i=>.tup [.int (i:Int),d]::enD r (i+1)
def dEnum (d:D):R (List D):=(sq d).bind fun ds=>.ok (enD ds 0)
def dRev (d:D):R D:=match d with
 | .lst xs=>.ok (.lst xs.reverse)
 | .tup xs=>.ok (.tup xs.reverse)
 | _=>.stuck
def dMin2:List D→R D
 | [.int i,.int j]=>.ok (.int (if j < i then j else i))
 | _=>.stuck
def onF {α:Type}(fs:List Nat)(f:D)(k:Nat→R α):R α:=match f with
 | .fn i=>if fs.contains i=true then k i else .stuck
 | _=>.stuck
def dNeg (d:D):R D:=match d with
 | .int i=>.ok (.int (-i))
 | _=>.stuck
def oIx (ds:List D)(i:D):R D:=match i with
 | .int j=>match atI ds j with
  | some d=>.ok d
  | none=>.stuck
 | _=>.stuck
def oApp (ds:List D)(v:D):R (List D):=if ds.length < 16777216 then .ok (ds++[v]) else .stuck
def oExt (ds:List D)(v:D):R (List D):=match v with
 | .lst xs=>if ds.length+xs.length≤16777216 then .ok (ds++xs) else .stuck
 | .tup xs=>if ds.length+xs.length≤16777216 then .ok (ds++xs) else .stuck
 | _=>.stuck
def a0 (k:L Unit):List D→R D
 | []=>outL k
 | _=>.stuck
def a1 (k:D→L Unit):List D→R D
 | [a]=>outL (k a)
 | _=>.stuck
def a2 (k:D→D→L Unit):List D→R D
 | [a,b]=>outL (k a b)
 | _=>.stuck
def a3 (k:D→D→D→L Unit):List D→R D
 | [a,b,c]=>outL (k a b c)
 | _=>.stuck
def a4 (k:D→D→D→D→L Unit):List D→R D
 | [a,b,c,d]=>outL (k a b c d)
 | _=>.stuck
def a5 (k:D→D→D→D→D→L Unit):List D→R D
 | [a,b,c,d,e]=>outL (k a b c d e)
 | _=>.stuck
def a6 (k:D→D→D→D→D→D→L Unit):List D→R D
 | [a,b,c,d,e,f]=>outL (k a b c d e f)
 | _=>.stuck
end FF
end
noncomputable section
namespace FF
open PySem PySem.Spec PyProof.Rows L2
section
variable {X:Cx}{F:Fx}{e:Expr}{es:List Expr}{g:SS→R D}{gs:SS→R (List D)}
end
section
variable {α τ σ W:Type}
def WL (F:Fx)(Z:Hp)(J:σ→SS→Prop)(l:L σ)(D:Ends):Prop:=match l with
 | .nx s=>∀ S ρ H Z',J s S→Same Z Z'→StOk F H Z' S ρ→D.nx ρ H
 | .rt d=>∀ v H Z',Ex F.H0 F.Z0 H Z'→Rep F.K F.C Z' d v→D.rt v H
 | .er k=>∀ H,Same F.H0 H→F.E (.ref (F.C k)) none H
 | .stuck=>False
theorem WL.more {F:Fx}{Z Z1:Hp}{J:σ→SS→Prop}{l:L σ}{D:Ends}(w:WL F Z J l D)(z:Same Z Z1):WL F Z1 J l D:=by
 cases l with
 | nx s=>exact fun S ρ H Z' j q=>w S ρ H Z' j (z.trans q)
 | rt d=>exact w
 | er k=>exact w
 | stuck=>exact w
def tL (F:Fx)(S:SS)(J:σ→SS→Prop)(l:L σ):TS:=fun D ρ H=>∃ Z,StOk F H Z S ρ∧WL F Z J l D
abbrev FL (X:Cx)(F:Fx)(S:SS)(sts:List Stmt)(J:σ→SS→Prop)(l:L σ):Prop:=PSs X sts (tL F S J l)
abbrev FL1 (X:Cx)(F:Fx)(S:SS)(st:Stmt)(J:σ→SS→Prop)(l:L σ):Prop:=PS X st (tL F S J l)
def JX (inj:τ→W→SS):τ→SS→Prop:=fun s S=>∃ w,S=inj s w
def JU:Unit→SS→Prop:=fun _ _=>True
abbrev vv (d:D):Option Sl:=some (.val d)
abbrev ow (ds:List D):Option Sl:=some (.own ds)
abbrev nn:Option Sl:=none
variable {X:Cx}{F:Fx}{S:SS}{st:Stmt}{rest:List Stmt}{J:σ→SS→Prop}{J1:τ→SS→Prop}
theorem bh {sts:List Stmt}{t:α→TS}(h:∀ a,PSs X sts (t a)):PSs X sts (fun D ρ H=>∃ a,t a D ρ H):=fun pins s ρ H D I ⟨a,w⟩=>h a pins s ρ H D I w
theorem WL.wg {D:Ends}{r:R α}{k:α→L σ}{H Z:Hp}{ρ:St}(ok:StOk F H Z S ρ)(w:WL F Z J (lB r k) D):WG F H Z r fun a _ Z'=>WL F Z' J (k a) D:=by
 cases r with
 | ok o=>exact fun _ _ x=>WL.more w x.z
 | err k=>exact fun H' s=>w H' (ok.ex.same.trans s)
 | stuck=>exact w
theorem ay {s:σ}(h:J s S):FL X F S [] J (.nx s):=pG.weak fun D ρ H ⟨Z,ok,w⟩=>w S ρ H Z h (Same.refl _) ok
theorem au {g:SS→O}{r:R α}{S':α→SS}{k:α→L σ}(h:FS X F st g)(hg:g S=rO (r.bind fun a=>.ok (.nx (S' a))))(hk:∀ a,FL X F (S' a) rest J (k a)):FL X F S (st::rest) J (lB r k) :=
 (aE h (bh hk)).weak fun D ρ H ⟨Z,ok,w⟩=>⟨Z,S,ok,by
  rw[hg]
  cases r with
  | ok a=>exact fun ρ' H' Z' z ok'=>⟨a,Z',ok',WL.more w z⟩
  | err k=>exact w
  | stuck=>exact w⟩
theorem i9 {g:SS→O}{S':SS}{l:L σ}(h:FS X F st g)(hg:g S=.nx S')(hk:FL X F S' rest J l):FL X F S (st::rest) J l :=
 (aE h hk).weak fun D ρ H ⟨Z,ok,w⟩=>⟨Z,S,ok,by rw[hg];exact fun ρ' H' Z' z ok'=>⟨Z',ok',WL.more w z⟩⟩
theorem ak {g:SS→R D}{r:R D}(h:FS X F st (sRet g))(hr:g S=r):FL X F S (st::rest) J (lB r .rt) :=
 (aE h gq).weak fun D ρ H ⟨Z,ok,w⟩=>⟨Z,S,ok,by
  unfold sRet
  rw[hr]
  cases r with
  | ok a=>exact w
  | err k=>exact w
  | stuck=>exact w⟩
theorem aX {g:SS→R D}{v:D}(h:FS X F st (sRet g))(hr:g S=.ok v):FL X F S (st::rest) J (.rt v):=ak h hr
theorem pW {g:SS→O}{k:Nat}(h:FS X F st g)(hg:g S=.er k):FL X F S (st::rest) J (.er k) :=
 (aE h gq).weak fun D ρ H ⟨Z,ok,w⟩=>⟨Z,S,ok,by rw[hg];exact w⟩
theorem oK (i:Nat){ds:List D}{S':SS}{sts:List Stmt}{l:L σ}(hi:S[i]?=some (some (.own ds)))(hS:S.set i (some (.val (.lst ds)))=S')(h:FL X F S' sts J l):FL X F S sts J l :=
 h.weak fun D ρ H ⟨Z,ok,w⟩=>by
  obtain⟨Z',z,ok'⟩:=ok.freeze hi
  rw[hS]at ok'
  exact⟨Z',ok',WL.more w z⟩
theorem aK {c:Expr}{a b:List Stmt}{pos:Pos}{gt:SS→R Bool}{r:R Bool}{A B:L σ}(hc:FT X F c gt)(hr:gt S=r)(ha:FL X F S a J A)(hb:FL X F S b J B):FL1 X F S (.If c a b pos) J (lB r fun t=>if t=true then A else B) :=
 (xJ hc ha hb).weak fun D ρ H ⟨Z,ok,w⟩=>iC (P:=fun t _ Z'=>WL F Z' J (if t=true then A else B) D) ok (by
  rw[hr]
  have:=WL.wg ok w
  cases r<;>exact this) fun t H1 Z1 ok1 x1 w1=>by
  have w2:=WG.now w1 ok1.sub
  cases t with
  | true=>exact⟨Z1,ok1,w2⟩
  | false=>exact⟨Z1,ok1,w2⟩
theorem lP {l:L σ}(h:FL1 X F S st J l):FL X F S [st] J l:=pH h
theorem aT {l:L τ}{k:τ→L σ}{inj:τ→W→SS}(h:FL1 X F S st (JX inj) l)(hk:∀ s w,FL X F (inj s w) rest J (k s)):FL X F S (st::rest) J (lS l k) :=
 (aE h (bh (fun s=>bh fun w=>hk s w))).weak fun D ρ H ⟨Z,ok,w⟩=>⟨Z,ok,by
  cases l with
  | nx s=>exact fun S' ρ' H' Z' ⟨x,e⟩ z ok'=>⟨s,x,Z',by rw[← e];exact ok',WL.more w z⟩
  | rt d=>exact w
  | er k=>exact w
  | stuck=>exact w⟩
end
section
variable {σ τ W:Type}{X:Cx}{F:Fx}{S:SS}{tg iter:Expr}{body:List Stmt}{pos:Pos}{git:SS→R (List D)}{g:D→SS→R SS}{inj:τ→W→SS}{step:τ→D→L τ}
theorem mY {r:R (List D)}{s0:τ}(w0:W)(hp:PassesOwn (model X.prog X.w) X.A X.env X.xe)(hc:X.calm=true)(hi:FI X F tg iter git)(hr:git S=r)(hg:FG X F tg g)
  (hb:∀ s w x S1,g x (inj s w)=.ok S1→FL X F S1 body (JX inj) (step s x)) (hno:∀ s w x k,g x (inj s w)≠.err k) (hst:∀ s w x,g x (inj s w)=.stuck→step s x=.stuck)
  (hS:S=inj s0 w0) (hs:∀ x,foldedSetIterable iter X.env x=pure x:=by intro _;rfl):FL1 X F S (.For tg iter body [] pos) (JX inj) (lB r fun xs=>lFor step xs s0):=by
 have hbb:PSs X body (fun D ρ H=>∃ (q:τ×W×FF.D×SS) (_:g q.2.2.1 (inj q.1 q.2.1)=.ok q.2.2.2),tL F q.2.2.2 (JX inj) (step q.1 q.2.2.1) D ρ H):=fun pins s ρ H D I ⟨q,e,w⟩=>hb q.1 q.2.1 q.2.2.1 q.2.2.2 e pins s ρ H D I w
 refine(yk hp hc hi hg hbb hs).weak fun D ρ H ⟨Z,ok,w⟩=>?_
 refine⟨Z,S,ok,?_⟩
 have w00:=WL.wg ok w
 rw[hr]
 cases r with
 | err k=>exact w00
 | stuck=>exact w00
 | ok ds =>
  intro H1 Z1 x1
  have w1:=w00 H1 Z1 x1
  intro J wk _
  refine⟨fun i m ρ H=>m=ds.length - i∧i≤ds.length∧∃ Z2 s w,StOk F H Z2 (inj s w) ρ∧Same Z1 Z2∧WL F Z2 (JX inj) (lFor step (ds.drop i) s) D,⟨ds.length,rfl,Nat.zero_le _,Z1,s0,w0,by rw[← hS];exact ok.more x1,Same.refl _,w1⟩,?_⟩
  rintro i m ρ2 H2 ⟨rfl,hle,Z2,s,w2,ok2,z2,wl2⟩
  obtain⟨k1,k2⟩:=wk i H2 Z2 z2 ok2.sub
  by_cases hlt:i < ds.length
  ·obtain⟨go,y⟩:=k1 hlt
   refine .inr ⟨go,fun ρ' H'=>∃ Z3 s3 w3,StOk F H' Z3 (inj s3 w3) ρ'∧Same Z1 Z3∧WL F Z3 (JX inj) (lFor step (ds.drop (i+1)) s3) D,fun ρ' H' ⟨Z3,s3,w3,q⟩=>⟨ds.length - (i+1),by omega,rfl,hlt,Z3,s3,w3,q⟩,fun x H' hy=>?_⟩
   obtain⟨Z2',d,x',e3,rd⟩:=y x H' hy
   have ok2:=ok2.more x'
   have hd:ds.drop i=d::ds.drop (i+1):=by
    obtain⟨hi,e4⟩:=List.getElem?_eq_some_iff.mp e3
    rw[List.drop_eq_getElem_cons hi,e4]
   rw[hd,gL]at wl2
   refine⟨Z2',inj s w2,d,ok2,rd,?_⟩
   cases q:g d (inj s w2) with
   | err k=>exact absurd q (hno s w2 d k)
   | stuck=>rw[hst s w2 d q]at wl2;exact wl2
   | ok S1 =>
    intro H4 Z4 x4 ρ4 ok4
    refine⟨⟨s,w2,d,S1⟩,q,Z4,ok4,?_⟩
    have z14:Same Z1 Z4:=(z2.trans x'.z).trans x4.z
    cases qb:step s d with
    | nx s5 =>
     rw[qb]at wl2
     exact fun S5 ρ5 H5 Z5 ⟨w5,e5⟩ z5 ok5=>⟨Z5,s5,w5,by rw[← e5];exact ok5,z14.trans z5,WL.more wl2 ((x'.z.trans x4.z).trans z5)⟩
    | rt d=>rw[qb]at wl2;exact wl2
    | er k=>rw[qb]at wl2;exact wl2
    | stuck=>rw[qb]at wl2;exact wl2
  ·refine .inl ⟨k2 (by omega),?_⟩
   rw[List.drop_eq_nil_of_le (by omega)]at wl2
   exact wl2 (inj s w2) ρ2 H2 Z2 ⟨w2,rfl⟩ (Same.refl _) ok2
theorem pX (i:Nat){r:R (List D)}{s0:τ}{B:τ→W→D→SS}(w0:W)(hp:PassesOwn (model X.prog X.w) X.A X.env X.xe)(hc:X.calm=true)(hi:FI X F tg iter git)(hr:git S=r)(hg:FG X F tg (gNm i))
  (hS:S=inj s0 w0) (hB:∀ s w x,(inj s w).set i (some (.val x))=B s w x) (hb:∀ s w x,FL X F (B s w x) body (JX inj) (step s x))
  (hs:∀ x,foldedSetIterable iter X.env x=pure x:=by intro _;rfl):FL1 X F S (.For tg iter body [] pos) (JX inj) (lB r fun xs=>lFor step xs s0) :=
 mY w0 hp hc hi hr hg (fun s w x S1 e=>by cases e;rw[hB];exact hb s w x) (fun s w x k e=>nomatch e) (fun s w x e=>nomatch e) hS hs
theorem t8 (i j:Nat){r:R (List D)}{s0:τ}{B:τ→W→D→D→SS}{step:τ→D→D→L τ}(w0:W)(hp:PassesOwn (model X.prog X.w) X.A X.env X.xe)(hc:X.calm=true)(hi:FI X F tg iter git)(hr:git S=r)(hg:FG X F tg (gTup [i,j]))
  (hS:S=inj s0 w0) (hB:∀ s w x y,((inj s w).set i (some (.val x))).set j (some (.val y))=B s w x y) (hb:∀ s w x y,FL X F (B s w x y) body (JX inj) (step s x y))
  (hs:∀ x,foldedSetIterable iter X.env x=pure x:=by intro _;rfl):FL1 X F S (.For tg iter body [] pos) (JX inj) (lB r fun xs=>lFor (fun s p=>lUn2 p fun x y=>step s x y) xs s0):=by
 have two:∀ (p:D) (S0:SS),(∃ x y,p=.tup [x,y]∧gTup [i,j] p S0=.ok ((S0.set i (some (.val x))).set j (some (.val y))))∨(gTup [i,j] p S0=.stuck∧∀ (k:D→D→L τ),lUn2 p k=.stuck):=fun p S0=>by
  cases p with
  | tup ds =>
   match ds with
   | []=>exact .inr ⟨rfl,fun _=>rfl⟩
   | [_]=>exact .inr ⟨rfl,fun _=>rfl⟩
   | [x,y]=>exact .inl ⟨x,y,rfl,rfl⟩
   | _::_::_::_=>exact .inr ⟨by unfold gTup;simp,fun _=>rfl⟩
  | _=>exact .inr ⟨rfl,fun _=>rfl⟩
 refine mY w0 hp hc hi hr hg (fun s w p S1 e=>?_) (fun s w p k e=>?_) (fun s w p e=>?_) hS hs
 ·rcases two p (inj s w) with ⟨x,y,rfl,q⟩ | ⟨q,_⟩
  ·rw[q]at e
   cases e
   rw[hB]
   exact hb s w x y
  ·rw[q]at e;cases e
 ·rcases two p (inj s w) with ⟨x,y,rfl,q⟩ | ⟨q,_⟩<;>rw[q]at e<;>cases e
 ·rcases two p (inj s w) with ⟨x,y,rfl,q⟩ | ⟨_,q⟩
  ·rw[q]at e;cases e
  ·exact q _
end
section
variable {σ τ W:Type}{X:Cx}{F:Fx}{S:SS}{rest:List Stmt}{J:σ→SS→Prop}{k:Nat}
end
section
variable {σ τ W:Type}{S:SS}{X:Cx}{F:Fx}{body:List Stmt}{g:SS→O}{c n y:Str}{np np2 kp apos hpos pos:Pos}{k:Nat}{q:Nat→Bool}{C0:Addr}
end
section
variable {σ τ W:Type}{X:Cx}{F:Fx}{S:SS}{rest:List Stmt}{J:σ→SS→Prop}
end
section
variable {X:Cx}{F:Fx}{e:Expr}{es:List Expr}{g g':SS→R D}{gs:List (SS→R D)}{k:Nat}{f:List D→R D}{pos:Pos}
theorem iE (h:FE X F e g)(hg:∀ S,g S=g' S):FE X F e g':=by
 have:g=g':=funext hg
 rw[← this];exact h
theorem iF {st:Stmt}{g g':SS→O}(h:FS X F st g)(hg:∀ S,g S=g' S):FS X F st g':=by
 have:g=g':=funext hg
 rw[← this];exact h
def aL:List (SS→R D)→SS→R (List D)
 | []=>aNil
 | g::gs=>aCons g (aL gs)
def eBA {α:Type}(f:List D→R α)(gs:List (SS→R D)):SS→R α:=fun S=>bA (gs.map fun g=>g S) f
theorem eo {α β:Type}{r:R α}{f f':α→R β}(h:∀ a,f a=f' a):r.bind f=r.bind f':=by cases r<;>first | exact h _ | rfl
theorem cy {α:Type}(S:SS):∀ (gs:List (SS→R D)) (f:List D→R α),(aL gs S).bind f=eBA f gs S
 | [],f=>rfl
 | g::gs,f=>by
  show ((g S).bind fun d=>(aL gs S).bind fun ds=>R.ok (d::ds)).bind f=(g S).bind fun d=>bA (gs.map fun g=>g S) fun ds=>f (d::ds)
  rw[R.bind_assoc]
  refine eo fun d=>?_
  rw[R.bind_assoc]
  exact cy S gs fun ds=>f (d::ds)
theorem gM {S:SS}:∀ {gs:List (SS→R D)} {ds:List D},aL gs S=.ok ds→ds.length=gs.length
 | [],ds,h=>by cases h;rfl
 | g::gs,ds,h=>kK (fun S' ds' h'=>by
   by_cases q:S'=S
   ·subst q;exact gM h'
   ·exact gM h') S ds h
structure FAL (X:Cx)(F:Fx)(es:List Expr)(gs:List (SS→R D)):Prop where
 out:FA X F es (aL gs)
theorem eB:FAL X F [] []:=⟨yC⟩
theorem ja (ha:FE X F e g)(hr:FAL X F es gs)(hs:starEach (e::es) X.env=(false,eval e X.env)::starEach es X.env:=by rfl):FAL X F (e::es) (g::gs):=⟨vK ha hr.out hs⟩
theorem fe_N (h:FE X F e (eCall f (aL gs))):FE X F e (eBA f gs):=iE h fun S=>cy S gs f
theorem ag {x:Str}{p:Pos}{ps:List Str}(b:BX X F k)(h:Fn1 X.prog X.w F.K X.mg X.base F.C k x ps f)(hg:Gl X x)(ha:FAL X F (e::es) gs)(hn:gs.length=ps.length:=by rfl)(hdb:(x==("__debug__":Str))=false:=by decide)
  (he:starEach (e::es) X.env=(false,eval e X.env)::starEach es X.env:=by rfl) (hpl:(backTo pos (starEach es X.env)).any (·.1)=false:=by rfl):FE X F (.Call (.Name x p) (e::es) [] pos) (eBA f gs) :=
 fe_N (vW b h hg ha.out (fun S ds q=>(gM q).trans hn) hdb he hpl)
theorem aY {x1}(h:FAL X F es gs)(hl:gs.length≤16777216:=by exact Nat.le_of_ble_eq_true rfl):FE X F (.Tuple es x1 pos) (eBA (fun ds=>.ok (.tup ds)) gs) :=
 iE (yD h.out) fun S=>by
  rw[← cy]
  show (aL gs S).bind _=_
  cases q:aL gs S with
  | ok ds=>show (if ds.length≤16777216 then R.ok (FF.D.tup ds) else R.stuck)=_;rw[if_pos (by rw[gM q];exact hl)];rfl
  | err k=>rfl
  | stuck=>rfl
theorem c6 (h:FAL X F es gs)(hl:gs.length≤16777216:=by exact Nat.le_of_ble_eq_true rfl):FE X F (.List es pos) (eBA (fun ds=>.ok (.lst ds)) gs) :=
 iE (yE h.out) fun S=>by
  rw[← cy]
  show (aL gs S).bind _=_
  cases q:aL gs S with
  | ok ds=>show (if ds.length≤16777216 then R.ok (FF.D.lst ds) else R.stuck)=_;rw[if_pos (by rw[gM q];exact hl)];rfl
  | err k=>rfl
  | stuck=>rfl
end
section
variable {X:Cx}{F:Fx}{k:Nat}{e f:Expr}{es:List Expr}{p pos:Pos}{x:Str}
theorem zP {i:Nat}(hm:X.mg x=some (.ref (F.C i)))(hg:Gl X x)(hd:(x==("__debug__":Str))=false:=by decide):FE X F (.Name x pos) (eC (.fn i)) :=
 cZ (iB (v:=.ref (F.C i)) hg hm rfl hd) fun _=>by rw[Rep]
theorem t9 {CX:CXT}{E:XK}{tf:TE}{t:TA}(hf:PE X f tf)(hr:Room k X.A)(hx:Passes CX X E)(ha:PA X (e::es) t)
  (hev:eval (.Call f (e::es) [] pos) X.env=(do callWith pos (← eval f X.env) [] (backTo pos (starEach (e::es) X.env)) (backToKw pos (keywordEach [] X.env))):=by rfl)
  (he:starEach (e::es) X.env=(false,eval e X.env)::starEach es X.env:=by rfl) (hpl:(backTo pos (starEach es X.env)).any (·.1)=false:=by rfl) :
  PE X (.Call f (e::es) [] pos) (fun σ H Q=>tf σ H fun v H1=>∃ a fd ps sp,v=.ref a∧FnOk X.prog X.w X.K X.mg X.base CX k a fd ps sp∧PySem.W.keepIn X.K (.ref a)=true∧Binds X.K fd ps []∧t σ H1 fun vs H2=>sp (vs++[]) H2 Q E):=by
 intro pins s σ H Q I h
 rw[hev]
 refine wpAny_bind (thn (hf pins s σ H _ I h) fun u s1 ⟨v,H1,I1,r,a,fd,ps,sp,ev,FO,hk,hb,q⟩=>?_)
 subst ev
 cases r
 refine PySem.W.callWith_K I1.ok.mod.kin hk (thn (ha pos pins s1 σ H1 _ I1 q) fun us s2 ⟨vs,H2,I2,r2,q2⟩=>⟨I2.kIn,?_⟩) he hpl
 exact lA FO hr hb .nil hx I2 r2 q2
structure FnV (P:Program)(w:World)(K:PySem.W.Frag)(mg:Str→Option Value)(base:Heap)(C:Nat→Addr)(k:Nat)(i:Nat)(f:List D→R D):Prop where
 ex:∃ fd ps,FnOk P w K mg base (CXE P w) k (C i) fd ps (spF K C ps.length f)∧PySem.W.keepIn K (.ref (C i))=true∧Binds K fd ps []∧∀ ds,ds.length≠ps.length→f ds=.stuck
def eCV (fs:List Nat)(t:Nat→List D→R D)(gf:SS→R D)(gs:List (SS→R D)):SS→R D:=fun S=>(gf S).bind fun f=>onF fs f fun i=>bA (gs.map fun g=>g S) (t i)
theorem ua {fs:List Nat}{t:Nat→List D→R D}{gf:SS→R D}{gs:List (SS→R D)}(b:BX X F k)(hT:∀ i∈fs,FnV X.prog X.w F.K X.mg X.base F.C k i (t i))(hf:FE X F f gf)(ha:FAL X F (e::es) gs)
  (hev:eval (.Call f (e::es) [] pos) X.env=(do callWith pos (← eval f X.env) [] (backTo pos (starEach (e::es) X.env)) (backToKw pos (keywordEach [] X.env))):=by rfl)
  (he:starEach (e::es) X.env=(false,eval e X.env)::starEach es X.env:=by rfl) (hpl:(backTo pos (starEach es X.env)).any (·.1)=false:=by rfl) :
  FE X F (.Call f (e::es) [] pos) (eCV fs t gf gs) :=
 (t9 hf b.room b.pass ha.out hev he hpl).weak fun σ H Q ⟨Z,S,ok,w⟩=>by
  refine ah ok w fun d v H1 Z1 ok1 x1 rv w1=>?_
  cases d with
  | fn i =>
   by_cases hi:fs.contains i=true
   ·rw[Rep]at rv
    obtain⟨fd,ps,h1,h2,h3,h4⟩:=(hT i (by simpa using hi)).ex
    refine⟨F.C i,fd,ps,_,rv,by rw[b.K];exact h1,by rw[b.K];exact h2,by rw[b.K];exact h3,?_⟩
    have e0:onF fs (.fn i) (fun i=>bA (gs.map fun g=>g S) (t i))=(aL gs S).bind (t i):=by
     rw[cy]
     show (if fs.contains i=true then _ else R.stuck)=_
     rw[if_pos hi];rfl
    rw[e0]at w1
    refine aw ok1 w1 fun ds vs H2 Z2 ok2 x2 rs w4=>?_
    by_cases hl:ds.length=ps.length
    ·refine⟨by rw[List.append_nil,← rs.length];exact hl,Z2,ds,ok2.sub,by rw[List.append_nil];exact rs,?_⟩
     cases q:t i ds with
     | ok d=>rw[q]at w4;exact w4
     | err k=>rw[q]at w4;exact w4
     | stuck=>rw[q]at w4;exact w4
    ·rw[h4 ds hl]at w4;exact w4.elim
   ·have e0:onF fs (.fn i) (fun i=>bA (gs.map fun g=>g S) (t i))=.stuck:=by
     show (if fs.contains i=true then _ else R.stuck)=_
     rw[if_neg hi]
    rw[e0]at w1
    exact w1.elim
  | _=>exact w1.elim
end
theorem mZ {S:SS}{g:D→SS→R SS}{c:SS→R Bool}{e:SS→R D}:∀ ds,noErr (compGo S g c e ds)=cGo (fun d=>(g d S).bind c) (fun d=>(g d S).bind e) ds
 | []=>rfl
 | d::r=>by
  have ih:=mZ (S:=S) (g:=g) (c:=c) (e:=e) r
  rw[cGo,compGo]
  cases q:g d S with
  | err k=>rfl
  | stuck=>rfl
  | ok S1 =>
   show noErr ((c S1).bind fun t=>if t=true then (e S1).bind fun y=>(compGo S g c e r).bind fun ys=>.ok (y::ys) else compGo S g c e r)=(match c S1 with
    | .ok true=>match e S1 with
     | .ok y=>match cGo _ _ r with
      | .ok ys=>.ok (y::ys)
      | _=>.stuck
     | _=>.stuck
    | .ok false=>cGo _ _ r
    | _=>.stuck)
   cases qc:c S1 with
   | err k=>rfl
   | stuck=>rfl
   | ok t =>
    cases t with
    | false=>exact ih
    | true =>
     cases qe:e S1 with
     | err k=>rfl
     | stuck=>rfl
     | ok y =>
      rw[← ih]
      cases compGo S g c e r<;>rfl
def eCC (own:Nat)(cap:List Nat)(it:SS→R (List D))(g:D→SS→R SS)(c:SS→R Bool)(e:SS→R D):SS→R D:=fun S=>(it S).bind fun ds=>(cGo (fun d=>(g d (blkS own cap S)).bind c) (fun d=>(g d (blkS own cap S)).bind e) ds).bind fun ys=>.ok (.lst ys)
theorem ub {own:Nat}{cap:List Nat}{it:SS→R (List D)}{g:D→SS→R SS}{c:SS→R Bool}{e:SS→R D}(S:SS):eComp own cap it g c e S=eCC own cap it g c e S:=by
 unfold eComp eCC
 exact eo fun ds=>by rw[mZ]
theorem fe_C {X:Cx}{F:Fx}{e:Expr}{own:Nat}{cap:List Nat}{it:SS→R (List D)}{g:D→SS→R SS}{c:SS→R Bool}{el:SS→R D}(h:FE X F e (eComp own cap it g c el)):FE X F e (eCC own cap it g c el):=iE h ub
section
variable {X:Cx}{F:Fx}{st:Stmt}{i:Nat}{g:SS→R D}
def sAppC (i:Nat)(g:SS→R D):SS→O:=fun S=>match S[i]? with
 | some (some (.own ds))=>rO (((g S).bind fun v=>oApp ds v).bind fun ds'=>.ok (.nx (S.set i (some (.own ds')))))
 | _=>.stuck
theorem m5 {α:Type}(r:R D)(f:List D→R α):((r.bind fun d=>(R.ok []:R (List D)).bind fun ds=>R.ok (d::ds)).bind f)=r.bind fun d=>f [d]:=by cases r<;>rfl
theorem fs_A (h:FS X F st (sApp i (aL [g]))):FS X F st (sAppC i g):=iF h fun S=>by
 unfold sApp sAppC
 cases q:S[i]? with
 | none=>rfl
 | some o =>
  cases o with
  | none=>rfl
  | some x =>
   cases x with
   | val d=>rfl
   | mat m=>rfl
   | dic m=>rfl
   | dit m=>rfl
   | own ds =>
    show rO (((g S).bind fun d=>(R.ok []:R (List D)).bind fun ds=>R.ok (d::ds)).bind _)=rO _
    rw[m5,R.bind_assoc]
    refine congrArg rO (eo fun v=>?_)
    unfold oApp
    show (if _ then _ else _)=_
    split<;>rfl
def sExtC (i:Nat)(g:SS→R D):SS→O:=fun S=>match S[i]? with
 | some (some (.own ds))=>rO (((g S).bind fun v=>oExt ds v).bind fun ds'=>.ok (.nx (S.set i (some (.own ds')))))
 | _=>.stuck
theorem fs_X (h:FS X F st (sExt i (aL [g]))):FS X F st (sExtC i g):=iF h fun S=>by
 unfold sExt sExtC
 cases q:S[i]? with
 | none=>rfl
 | some o =>
  cases o with
  | none=>rfl
  | some x =>
   cases x with
   | val d=>rfl
   | mat m=>rfl
   | dic m=>rfl
   | dit m=>rfl
   | own ds =>
    show rO (((g S).bind fun d=>(R.ok []:R (List D)).bind fun ds=>R.ok (d::ds)).bind _)=rO _
    rw[m5,R.bind_assoc]
    refine congrArg rO (eo fun v=>?_)
    unfold oExt
    cases v with
    | lst xs=>by_cases hl:ds.length+xs.length≤16777216<;>simp[hl]
    | tup xs=>by_cases hl:ds.length+xs.length≤16777216<;>simp[hl]
    | _=>rfl
def sOwnC (i:Nat)(gs:List (SS→R D)):SS→O:=fun S=>rO ((eBA .ok gs S).bind fun ds=>.ok (.nx (S.set i (some (.own ds)))))
theorem fs_O {gs:List (SS→R D)}(h:FS X F st (sOwn i (aL gs)))(hl:gs.length≤16777216:=by exact Nat.le_of_ble_eq_true rfl):FS X F st (sOwnC i gs):=iF h fun S=>by
 unfold sOwn sOwnC
 rw[← cy,R.bind_assoc]
 refine congrArg rO ?_
 cases q:aL gs S with
 | ok ds=>show (if ds.length≤16777216 then _ else _)=_;rw[if_pos (by rw[gM q];exact hl)];rfl
 | err k=>rfl
 | stuck=>rfl
end
section
variable {X:Cx}{F:Fx}{e tg:Expr}{g ga:SS→R D}{f:List D→List D→R D}{gs:List (SS→R D)}
theorem pY {g g':SS→R (List D)}(h:FI X F tg e g)(hg:∀ S,g S=g' S):FI X F tg e g':=by
 have:g=g':=funext hg
 rw[← this];exact h
theorem uc (h:FI X F tg e (iRange1 (aL gs))):FI X F tg e (eBA rng1 gs):=pY h fun S=>cy S gs rng1
theorem zQ (h:FI X F tg e (iRange2 (aL gs))):FI X F tg e (eBA rng2 gs):=pY h fun S=>cy S gs rng2
end
theorem zR {k:D→L Unit}{ds:List D}(h:ds.length≠1):a1 k ds=.stuck:=by
 match ds,h with
 | [],_=>rfl
 | [_],h=>exact absurd rfl h
 | _::_::_,_=>rfl
section
variable {σ:Type}{X:Cx}{F:Fx}{S:SS}{st:Stmt}{rest:List Stmt}{J:σ→SS→Prop}
end
section
variable {P:Program}{w:World}{K:PySem.W.Frag}{mg:Str→Option Value}{base:Heap}
theorem we {x qual:Str}{st:Stmt}{f:Addr}{fd:FuncData}{N ps:List Str}{k:Nat}{C:Nat→Addr}{fn:List D→R D}(F:Fun K x qual st f fd)(S:FnScope N ps (defScope st))
  (h:∀ (cdv:Value) (A:Around) (outer:List Env) (s:Shared) (H Z:Hp) (E:XK),BX (bodyX P w K mg base N qual (defScope st) f cdv A outer s H E) ⟨K,C,H,Z,E⟩ k →
   PassesOwn (model P w) (bodyX P w K mg base N qual (defScope st) f cdv A outer s H E).A (bodyX P w K mg base N qual (defScope st) f cdv A outer s H E).env (bodyX P w K mg base N qual (defScope st) f cdv A outer s H E).xe →
   MadeX (bodyX P w K mg base N qual (defScope st) f cdv A outer s H E) ⟨K,C,H,Z,E⟩ →
   ∀ ds,ds.length=ps.length→∃ l:L Unit,fn ds=outL l∧FL (bodyX P w K mg base N qual (defScope st) f cdv A outer s H E) ⟨K,C,H,Z,E⟩ (startS N.length ds) (defBody st) JU l) :
  FnOk P w K mg base (CXE P w) (k+1) f fd ps (spF K C ps.length fn):=by
 obtain⟨oc,od,kV,doc,pm,an,cdv,ct,osl,rfl,lk,hcd⟩:=F.ex
 refine kI lk hcd S (fun vs H Q E q=>q.1) fun A outer s H vs Q E hr hsp=>?_
 obtain⟨hv,Z,ds,z,r,w⟩:=hsp
 obtain⟨l,e,hl⟩:=h cdv A outer s H Z E ⟨hr,rfl,rfl,bd⟩ PassesOwn.leaving (fun pins σ H1 s1 h1 ea C1 args I hx hE=>eh I hx hE) ds (by rw[r.length];exact hv)
 refine⟨_,hl,Z,dD z r,?_⟩
 rw[e]at w
 cases l with
 | nx u=>exact fun S' ρ' H' Z' _ _ ok=>w H' Z' ok.ex .non (by rw[Rep])
 | rt d=>exact fun v H' Z' x rv=>w H' Z' x v rv
 | er k=>exact w
 | stuck=>exact w
end
theorem len1 {ds:List D}(h:ds.length=1):∃ a,ds=[a]:=by
 match ds,h with
 | [a],_=>exact⟨a,rfl⟩
theorem len2 {ds:List D}(h:ds.length=2):∃ a b,ds=[a,b]:=by
 match ds,h with
 | [a,b],_=>exact⟨a,b,rfl⟩
theorem len3 {ds:List D}(h:ds.length=3):∃ a b c,ds=[a,b,c]:=by
 match ds,h with
 | [a,b,c],_=>exact⟨a,b,c,rfl⟩
theorem len4 {ds:List D}(h:ds.length=4):∃ a b c d,ds=[a,b,c,d]:=by
 match ds,h with
 | [a,b,c,d],_=>exact⟨a,b,c,d,rfl⟩
theorem len5 {ds:List D}(h:ds.length=5):∃ a b c d e,ds=[a,b,c,d,e]:=by
 match ds,h with
 | [a,b,c,d,e],_=>exact⟨a,b,c,d,e,rfl⟩
inductive OC where
 | ins (c:Nat) (fs:List (Str×D)) | lst (ds:List D)
abbrev Wd:=Addr→Option OC
def wput (W:Wd)(a:Addr)(o:OC):Wd:=fun b=>if b=a then some o else W b
def WObj (K:PySem.W.Frag)(C:Nat→Addr)(H Z:Hp)(a:Addr):OC→Prop
 | .ins c fs=>∃ dx vs,H a=some (.ins (C c) dx vs)∧H dx=some (.own a)∧Cls K (C c)∧vs.map Prod.fst=fs.map Prod.fst∧Reps K C Z (fs.map Prod.snd) (vs.map Prod.snd)
 | .lst ds=>∃ vs,H a=some (.lst vs)∧Reps K C Z ds vs
def TblOk (H:Hp)(P:Addr)(q:Str):Prop:=∃ ps,H P=some (.tbl ps)∧TriplesOk ps.toList ∧
 ∀ pos cv,codeAmong pos ps.toList=some cv→∃ c oc ws t,cv=.ref c∧H c=some (.frz oc (.own 0))∧oc.data=.fields ws∧ws[1]?=some (.str q t)
def qOf (K:PySem.W.Frag)(f:Addr):Str:=match K.lookup f with
 | some ⟨_,_,.func fd,_⟩=>fd.qualname ++ ".<locals>." ++ "<lambda>"
 | _=>Str.empty
def Tbs (K:PySem.W.Frag)(C:Nat→Addr)(H:Hp):Prop:=∀ i,i < C 900→TblOk H (C (901+2*i)) (qOf K (C (902+2*i)))
theorem Tbs.mono {K:PySem.W.Frag}{C:Nat→Addr}{H H':Hp}(h:Tbs K C H)(x:Same H H'):Tbs K C H':=fun i hi=>by
 obtain⟨ps,e,t,k⟩:=h i hi
 refine⟨ps,x _ _ e,t,fun pos cv q=>?_⟩
 obtain⟨c,oc,ws,t,e1,e2,r⟩:=k pos cv q
 exact⟨c,oc,ws,t,e1,x _ _ e2,r⟩
theorem Tbs.put {K:PySem.W.Frag}{C:Nat→Addr}{H:Hp}{a:Addr}{o:HO}(h:Tbs K C H)(m:Mut (H a)):Tbs K C (upd H a o):=fun i hi=>by
 obtain⟨ps,e,t,k⟩:=h i hi
 refine⟨ps,by rw[ac (fun z=>by rw[← z,e]at m;exact m)];exact e,t,fun pos cv q=>?_⟩
 obtain⟨c,oc,ws,t,e1,e2,r⟩:=k pos cv q
 exact⟨c,oc,ws,t,e1,by rw[ac (fun z=>by rw[← z,e2]at m;exact m)];exact e2,r⟩
structure WdOk (K:PySem.W.Frag)(C:Nat→Addr)(H Z:Hp)(W:Wd):Prop where
 wo:∀ a o,W a=some o→WObj K C H Z a o
 tb:Tbs K C H
instance {K:PySem.W.Frag}{C:Nat→Addr}{H Z:Hp}{W:Wd}:CoeFun (WdOk K C H Z W) (fun _=>∀ a o,W a=some o→WObj K C H Z a o):=⟨WdOk.wo⟩
theorem WObj.mono {K:PySem.W.Frag}{C:Nat→Addr}{H Z H' Z':Hp}{a:Addr}{o:OC}(h:WObj K C H Z a o)(x:Same H H')(z:Same Z Z'):WObj K C H' Z' a o:=by
 cases o with
 | ins c fs=>obtain⟨dx,vs,e1,e2,c,e3,r⟩:=h;exact⟨dx,vs,x _ _ e1,x _ _ e2,c,e3,r.mono z⟩
 | lst ds=>obtain⟨vs,e1,r⟩:=h;exact⟨vs,x _ _ e1,r.mono z⟩
theorem WdOk.mono {K:PySem.W.Frag}{C:Nat→Addr}{H Z H' Z':Hp}{W:Wd}(h:WdOk K C H Z W)(x:Same H H')(z:Same Z Z'):WdOk K C H' Z' W:=⟨fun a o e=>(h.wo a o e).mono x z,h.tb.mono x⟩
structure GX (HW Z H HW' Z' H':Hp):Prop where
 fr:∀ b o,HW b=none→H b=some o→H' b=some o
 z:Same Z Z'
 zh:Same Z' H'
 wh:Same HW' H'
 dm:∀ b,HW b≠none→HW' b≠none
 nw:∀ b,HW' b≠none→HW b≠none∨H b=none
 nz:∀ b,Z' b≠none→Z b≠none∨H b=none
 dj:∀ b,HW' b≠none→Z' b=none
theorem pZ {o:Option HO}(h:o≠none):∃ u,o=some u:=by cases o with | none=>exact absurd rfl h | some u=>exact⟨u,rfl⟩
theorem aq {o:Option HO}{u:HO}(h:o=some u):o≠none:=by rw[h];simp
theorem GX.refl {HW Z H:Hp}(zh:Same Z H)(wh:Same HW H)(dj:∀ b,HW b≠none→Z b=none):GX HW Z H HW Z H :=
 ⟨fun _ _ _ e=>e,Same.refl _,zh,wh,fun _ h=>h,fun _ h=>.inl h,fun _ h=>.inl h,dj⟩
theorem GX.trans {HW Z H HW1 Z1 H1 HW2 Z2 H2:Hp}(a:GX HW Z H HW1 Z1 H1)(b:GX HW1 Z1 H1 HW2 Z2 H2):GX HW Z H HW2 Z2 H2:=by
 have back:∀ c,H1 c=none→H c=none∨HW c≠none:=fun c h=>by
  cases e:HW c with
  | some o=>exact .inr (by simp)
  | none =>
   cases e2:H c with
   | none=>exact .inl rfl
   | some o=>have:=a.fr c o e e2;rw[h]at this;cases this
 refine⟨fun c o h1 h2=>?_,a.z.trans b.z,b.zh,b.wh,fun c h=>b.dm c (a.dm c h),fun c h=>?_,fun c h=>?_,b.dj⟩
 ·have e:=a.fr c o h1 h2
  cases q:HW1 c with
  | none=>exact b.fr c o q e
  | some u =>
   rcases a.nw c (aq q) with z | z
   ·exact absurd h1 z
   ·rw[h2]at z;cases z
 ·rcases b.nw c h with z | z
  ·exact a.nw c z
  ·exact(back c z).symm
 ·rcases b.nz c h with z | z
  ·exact a.nz c z
  ·rcases back c z with q | q
   ·exact .inr q
   ·exact absurd (b.dj c (b.dm c (a.dm c q))) h
def kp (HW Z HW0 H0 H:Hp):Hp:=fun b=>if HW b≠none∨Z b≠none∨(HW0 b=none∧H0 b≠none) then H b else none
theorem oM {HW Z HW0 H0 H:Hp}:Same (kp HW Z HW0 H0 H) H:=fun b o e=>by
 unfold kp at e
 grind
section
variable {HW0 Z0 H0 HW Z H:Hp}
theorem kp_w (g:GX HW0 Z0 H0 HW Z H):Same HW (kp HW Z HW0 H0 H):=fun b o e=>by
 unfold kp
 rw[if_pos (.inl (aq e))]
 exact g.wh b o e
theorem kp_z (g:GX HW0 Z0 H0 HW Z H):Same Z (kp HW Z HW0 H0 H):=fun b o e=>by
 unfold kp
 rw[if_pos (.inr (.inl (aq e)))]
 exact g.zh b o e
theorem kp_0 (g:GX HW0 Z0 H0 HW Z H){b:Addr}{o:HO}(h:HW0 b=none)(e:H0 b=some o):kp HW Z HW0 H0 H b=some o:=by
 unfold kp
 rw[if_pos (.inr (.inr ⟨h,aq e⟩))]
 exact g.fr b o h e
theorem eD (g:GX HW0 Z0 H0 HW Z H){b:Addr}(h:kp HW Z HW0 H0 H b=none):HW b=none∧Z b=none∧(HW0 b≠none∨H0 b=none):=by
 refine⟨?_,?_,?_⟩
 ·cases e:HW b with
  | none=>rfl
  | some o=>rw[kp_w g b o e]at h;cases h
 ·cases e:Z b with
  | none=>rfl
  | some o=>rw[kp_z g b o e]at h;cases h
 ·cases e:HW0 b with
  | some o=>exact .inl (by simp)
  | none =>
   cases e2:H0 b with
   | none=>exact .inr rfl
   | some o=>rw[kp_0 g e e2]at h;cases h
theorem xO {b:Addr}(h1:HW b=none)(h2:Z b=none)(h3:HW0 b≠none∨H0 b=none):kp HW Z HW0 H0 H b=none:=by
 unfold kp
 rw[if_neg]
 rintro (z | z | z)
 ·exact z h1
 ·exact z h2
 ·rcases h3 with q | q
  ·exact q z.1
  ·exact z.2 q
theorem GX.err {H':Hp}(g:GX HW0 Z0 H0 HW Z H)(s:Same (kp HW Z HW0 H0 H) H'):GX HW0 Z0 H0 HW Z H' :=
 ⟨fun b o h e=>s b o (kp_0 g h e),g.z,(kp_z g).trans s,(kp_w g).trans s,g.dm,g.nw,g.nz,g.dj⟩
theorem GX.after {H' Z':Hp}(g:GX HW0 Z0 H0 HW Z H)(x:Ex (kp HW Z HW0 H0 H) Z H' Z'):GX HW0 Z0 H0 HW Z' H':=by
 have e:=g.err x.same
 refine⟨e.fr,g.z.trans x.z,x.sub,e.wh,g.dm,g.nw,fun b h=>?_,fun b h=>?_⟩
 ·rcases x.new b h with q | q
  ·exact g.nz b q
  ·rcases(eD g q).2.2 with z | z
   ·exact absurd (eD g q).1 (g.dm b z)
   ·exact .inr z
 ·cases q:Z' b with
  | none=>rfl
  | some o =>
   rcases x.new b (aq q) with z | z
   ·exact absurd (g.dj b h) z
   ·exact absurd (eD g z).1 h
theorem GX.ex {H' Z':Hp}(zh:Same Z H)(wh:Same HW H)(dj:∀ b,HW b≠none→Z b=none)(x:Ex H Z H' Z'):GX HW Z H HW Z' H' :=
 ⟨fun b o _ e=>x.same b o e,x.z,x.sub,wh.trans x.same,fun _ h=>h,fun _ h=>.inl h,x.new,fun b h=>by
  cases q:Z' b with
  | none=>rfl
  | some o =>
   rcases x.new b (aq q) with z | z
   ·exact absurd (dj b h) z
   ·obtain⟨u,e⟩:=pZ h
    rw[wh b u e]at z;cases z⟩
end
theorem StOk.rebase {F F':Fx}{H Z:Hp}{S:SS}{σ:St}(h:StOk F H Z S σ)(x:Ex F'.H0 F'.Z0 H Z)(hp:∀ a o,H a=some o→Z a=none→F.H0 a=none→F'.H0 a=none)(hK:F'.K=F.K:=by rfl)(hC:F'.C=F.C:=by rfl):StOk F' H Z S σ:=by
 refine⟨x,h.len,fun i y e=>?_,fun i j y z v w A B hij e1 e2 e3 e4 o1 o2=>?_⟩
 ·obtain⟨v,A,e1,o,p⟩:=h.sl i y e
  exact⟨v,A,e1,ow_K o hK hC,⟨p.nd,p.z,fun a ha=>let ⟨u,hu⟩:=o.there a ha;hp a u hu (p.z a ha) (p.h0 a ha)⟩⟩
 ·exact h.dj i j y z v w A B hij e1 e2 e3 e4 (ow_K o1 hK.symm hC.symm) (ow_K o2 hK.symm hC.symm)
structure Gx where
 K:PySem.W.Frag
 C:Nat→Addr
 HW0:Hp
 Z0:Hp
 H0:Hp
 E:XK
abbrev Gx.at (G:Gx)(H0 Z0:Hp):Fx:=⟨G.K,G.C,H0,Z0,G.E⟩
abbrev Gx.fx (G:Gx)(HW Z H:Hp):Fx:=⟨G.K,G.C,kp HW Z G.HW0 G.H0 H,Z,G.E⟩
structure GOk (G:Gx)(W:Wd)(HW Z H:Hp)(S:SS)(ρ:St):Prop where
 gx:GX G.HW0 G.Z0 G.H0 HW Z H
 wd:WdOk G.K G.C HW Z W
 nm:StOk (G.fx HW Z H) H Z S ρ
abbrev Wk (F:Fx)(W:Wd):Prop:=WdOk F.K F.C F.H0 F.Z0 W
section
variable {G:Gx}{W W':Wd}{HW Z H HW' Z' H':Hp}{S S':SS}{ρ ρ':St}
theorem GOk.wk (h:GOk G W HW Z H S ρ):Wk (G.fx HW Z H) W:=h.wd.mono (kp_w h.gx) (Same.refl _)
theorem GOk.after (h:GOk G W HW Z H S ρ)(k:StOk (G.fx HW Z H) H' Z' S' ρ'):GOk G W HW Z' H' S' ρ':=by
 have g:=h.gx.after k.ex
 refine⟨g,h.wd.mono (Same.refl _) k.ex.z,k.rebase ⟨oM,Same.refl _,k.sub,fun _ q=>.inl q⟩ fun a o e z n=>?_⟩
 have q:=eD h.gx n
 exact xO q.1 z q.2.2
theorem GOk.more (h:GOk G W HW Z H S ρ)(x:GX HW Z H HW' Z' H')(w:WdOk G.K G.C HW' Z' W'):GOk G W' HW' Z' H' S ρ:=by
 have g:=h.gx.trans x
 have keep:∀ {y:Sl} {v:V} {A:List Addr},Ow (G.fx HW Z H) H Z y v A→Priv (G.fx HW Z H) Z A→Ow (G.fx HW' Z' H') H' Z' y v A:=fun o p=>ow_K (o.mono x.z fun a ha u e=>x.fr a u (eD h.gx (p.h0 a ha)).1 e)
 refine⟨g,w,⟨⟨oM,Same.refl _,x.zh,fun _ q=>.inl q⟩,h.nm.len,fun i y e=>?_,fun i j y z v w A B hij e1 e2 e3 e4 o1 o2=>?_⟩⟩
 ·obtain⟨v,A,e1,o,p⟩:=h.nm.sl i y e
  refine⟨v,A,e1,keep o p,⟨p.nd,fun a ha=>?_,fun a ha=>?_⟩⟩
  ·obtain⟨u,hu⟩:=o.there a ha
   cases q:Z' a with
   | none=>rfl
   | some r =>
    rcases x.nz a (aq q) with z | z
    ·exact absurd (p.z a ha) z
    ·rw[hu]at z;cases z
  ·obtain⟨u,hu⟩:=o.there a ha
   have n:=eD h.gx (p.h0 a ha)
   refine xO ?_ ?_ n.2.2
   ·cases q:HW' a with
    | none=>rfl
    | some r =>
     rcases x.nw a (aq q) with z | z
     ·exact absurd n.1 z
     ·rw[hu]at z;cases z
   ·cases q:Z' a with
    | none=>rfl
    | some r =>
     rcases x.nz a (aq q) with z | z
     ·grind
     ·rw[hu]at z;cases z
 ·obtain⟨v',A',f1,q1,p1⟩:=h.nm.sl i y e1
  obtain⟨w',B',f2,q2,p2⟩:=h.nm.sl j z e2
  rw[e3]at f1;cases f1
  rw[e4]at f2;cases f2
  rw[o1.det (keep q1 p1),o2.det (keep q2 p2)]
  exact h.nm.dj i j y z v w A' B' hij e1 e2 e3 e4 q1 q2
end
inductive RW where
 | ok (w:Wd) (d:D) | er (w:Wd) (k:Nat) | al (w:Wd) (f:Addr→RW) | stuck
inductive LW (σ:Type) where
 | nx (w:Wd) (s:σ) | rt (w:Wd) (d:D) | er (w:Wd) (k:Nat) | al (w:Wd) (f:Addr→LW σ) | stuck
def WRW (K:PySem.W.Frag)(C:Nat→Addr)(E:XK)(HW Z H:Hp)(P:Wd→D→Hp→Hp→Hp→Prop):RW→Prop
 | .ok w d=>∀ HW' Z' H',GX HW Z H HW' Z' H'→WdOk K C HW' Z' w→P w d HW' Z' H'
 | .er w k=>∀ HW' Z' H',GX HW Z H HW' Z' H'→WdOk K C HW' Z' w→E (.ref (C k)) none H'
 | .al w f=>∀ a,w a=none→WRW K C E HW Z H P (f a)
 | .stuck=>False
theorem WRW.more {K:PySem.W.Frag}{C:Nat→Addr}{E:XK}{HW Z H HW1 Z1 H1:Hp}{P:Wd→D→Hp→Hp→Hp→Prop}(x:GX HW Z H HW1 Z1 H1):∀ {r:RW},WRW K C E HW Z H P r→WRW K C E HW1 Z1 H1 P r
 | .ok w d,h=>fun a b c y=>h a b c (x.trans y)
 | .er w k,h=>fun a b c y=>h a b c (x.trans y)
 | .al w f,h=>fun a e=>WRW.more x (h a e)
 | .stuck,h=>h
def WGL {σ:Type}(G:Gx)(Z1:Hp)(J:σ→SS→Prop)(D:Ends):LW σ→Prop
 | .nx w s=>∀ S ρ HW Z H,J s S→Same Z1 Z→GOk G w HW Z H S ρ→D.nx ρ H
 | .rt w d=>∀ v HW Z H,GX G.HW0 G.Z0 G.H0 HW Z H→WdOk G.K G.C HW Z w→Rep G.K G.C Z d v→D.rt v H
 | .er w k=>∀ HW Z H,Same Z1 Z→GX G.HW0 G.Z0 G.H0 HW Z H→WdOk G.K G.C HW Z w→G.E (.ref (G.C k)) none H
 | .al w f=>∀ a,w a=none→WGL G Z1 J D (f a)
 | .stuck=>False
theorem WGL.more {σ:Type}{G:Gx}{Z1 Z2:Hp}{J:σ→SS→Prop}{D:Ends}(z:Same Z1 Z2):∀ {l:LW σ},WGL G Z1 J D l→WGL G Z2 J D l
 | .nx w s,h=>fun S ρ HW Z H j q=>h S ρ HW Z H j (z.trans q)
 | .rt w d,h=>h
 | .er w k,h=>fun HW Z H q=>h HW Z H (z.trans q)
 | .al w f,h=>fun a e=>WGL.more z (h a e)
 | .stuck,h=>h
def tGL {σ:Type}(G:Gx)(W:Wd)(S:SS)(J:σ→SS→Prop)(l:LW σ):TS:=fun D ρ H=>∃ HW Z,GOk G W HW Z H S ρ∧WGL G Z J D l
abbrev GL {σ:Type}(X:Cx)(G:Gx)(W:Wd)(S:SS)(sts:List Stmt)(J:σ→SS→Prop)(l:LW σ):Prop:=PSs X sts (tGL G W S J l)
abbrev GL1 {σ:Type}(X:Cx)(G:Gx)(W:Wd)(S:SS)(st:Stmt)(J:σ→SS→Prop)(l:LW σ):Prop:=PS X st (tGL G W S J l)
def tGE (G:Gx)(W:Wd)(S:SS)(r:RW):TE:=fun ρ H Q=>∃ HW Z,GOk G W HW Z H S ρ∧WRW G.K G.C G.E HW Z H (fun _ d _ Z' H'=>∀ v,Rep G.K G.C Z' d v→Q v H') r
abbrev GE (X:Cx)(G:Gx)(W:Wd)(S:SS)(e:Expr)(r:RW):Prop:=PE X e (tGE G W S r)
def rwR (W:Wd)(r:R D):RW:=match r with
 | .ok d=>.ok W d
 | .err k=>.er W k
 | .stuck=>.stuck
def rwA {α:Type}(W:Wd)(r:R α)(k:α→RW):RW:=match r with
 | .ok a=>k a
 | .err e=>.er W e
 | .stuck=>.stuck
def lwB {σ:Type}:RW→(Wd→D→LW σ)→LW σ
 | .ok w d,k=>k w d
 | .er w e,_=>.er w e
 | .al w f,k=>.al w fun a=>lwB (f a) k
 | .stuck,_=>.stuck
def rwB:RW→(Wd→D→RW)→RW
 | .ok w d,k=>k w d
 | .er w e,_=>.er w e
 | .al w f,k=>.al w fun a=>rwB (f a) k
 | .stuck,_=>.stuck
def lwS {τ σ:Type}:LW τ→(Wd→τ→LW σ)→LW σ
 | .nx w s,k=>k w s
 | .rt w d,_=>.rt w d
 | .er w e,_=>.er w e
 | .al w f,k=>.al w fun a=>lwS (f a) k
 | .stuck,_=>.stuck
def outW {σ:Type}:LW σ→RW
 | .nx w _=>.ok w .non
 | .rt w d=>.ok w d
 | .er w k=>.er w k
 | .al w f=>.al w fun a=>outW (f a)
 | .stuck=>.stuck
section
variable {X:Cx}{G:Gx}{W:Wd}{S:SS}{e:Expr}{es:List Expr}{st:Stmt}{rest:List Stmt}{σ τ V':Type}{J:σ→SS→Prop}
theorem GOk.wh {HW Z H:Hp}{ρ:St}(h:GOk G W HW Z H S ρ):Same HW H:=h.gx.wh
theorem GOk.zh {HW Z H:Hp}{ρ:St}(h:GOk G W HW Z H S ρ):Same Z H:=h.gx.zh
theorem GOk.ex {HW Z H H' Z':Hp}{ρ:St}(h:GOk G W HW Z H S ρ)(x:Ex H Z H' Z'):GX HW Z H HW Z' H':=GX.ex h.gx.zh h.gx.wh h.gx.dj x
theorem aZ {g:SS→R D}(h:∀ H0 Z0,Wk (G.at H0 Z0) W→FE X (G.at H0 Z0) e g):GE X G W S e (rwR W (g S)):=fun pins s ρ H Q I ⟨HW,Z,ok,w⟩=>by
 refine h _ _ ok.wk pins s ρ H Q I ⟨Z,S,ok.nm,?_⟩
 cases q:g S with
 | ok d=>rw[q]at w;exact fun H' Z' x=>w HW Z' H' (ok.ex x) (ok.wd.mono (Same.refl _) x.z)
 | err k=>rw[q]at w;exact fun H' x=>w HW Z H' ⟨fun b o _ e=>x b o e,Same.refl _,ok.zh.trans x,ok.wh.trans x,fun _ h=>h,fun _ h=>.inl h,fun _ h=>.inl h,ok.gx.dj⟩ ok.wd
 | stuck=>rw[q]at w;exact w
theorem lQ {gs:SS→R (List D)}(h:∀ H0 Z0,Wk (G.at H0 Z0) W→FA X (G.at H0 Z0) es gs) :
  PA X es (fun ρ H Q=>∃ HW Z,GOk G W HW Z H S ρ∧match gs S with
   | .ok ds=>∀ H' Z',Ex H Z H' Z'→∀ vs,Reps G.K G.C Z' ds vs→Q vs H'
   | .err e=>∀ HW' Z' H',GX HW Z H HW' Z' H'→WdOk G.K G.C HW' Z' W→G.E (.ref (G.C e)) none H'
   | .stuck=>False):=fun pos pins s ρ H Q I ⟨HW,Z,ok,w⟩=>by
 refine h _ _ ok.wk pos pins s ρ H Q I ⟨Z,S,ok.nm,?_⟩
 cases q:gs S with
 | ok d=>rw[q]at w;exact w
 | err k=>rw[q]at w;exact fun H' x=>w HW Z H' ⟨fun b o _ e=>x b o e,Same.refl _,ok.zh.trans x,ok.wh.trans x,fun _ h=>h,fun _ h=>.inl h,fun _ h=>.inl h,ok.gx.dj⟩ ok.wd
 | stuck=>rw[q]at w;exact w
theorem gN {s:σ}(h:J s S):GL X G W S [] J (.nx W s):=pG.weak fun D ρ H ⟨HW,Z,ok,w⟩=>w S ρ HW Z H h (Same.refl _) ok
theorem yP {l:LW σ}(h:GL1 X G W S st J l):GL X G W S [st] J l:=pH h
theorem WGL.bind {D:Ends}{J1:τ→SS→Prop}{Z:Hp}{k:Wd→τ→LW σ}{N:St→Hp→Prop}(hN:∀ w s S ρ HW Z' H,J1 s S→Same Z Z'→GOk G w HW Z' H S ρ→WGL G Z' J D (k w s)→N ρ H):∀ {l:LW τ},WGL G Z J D (lwS l k)→WGL G Z J1 { D with nx:=N } l
 | .nx w s,h=>fun S ρ HW Z' H j z ok=>hN w s S ρ HW Z' H j z ok (h.more z)
 | .rt w d,h=>h
 | .er w k,h=>h
 | .al w f,h=>fun a e=>WGL.bind hN (h a e)
 | .stuck,h=>h
theorem jb {l:LW τ}{k:Wd→τ→LW σ}{inj:τ→V'→SS}(h:GL1 X G W S st (JX inj) l)(hk:∀ w s x,GL X G w (inj s x) rest J (k w s)):GL X G W S (st::rest) J (lwS l k) :=
 (aE h (bh fun w=>bh fun s=>bh fun x=>hk w s x)).weak fun D ρ H ⟨HW,Z,ok,w⟩=>⟨HW,Z,ok,WGL.bind (fun w' s S' ρ' HW' Z' H' ⟨x,e⟩ z ok' wk=>⟨w',s,x,HW',Z',e ▸ ok',wk⟩) w⟩
theorem WRW.gl {D:Ends}{HW Z H:Hp}{ρ:St}{k:Wd→FF.D→LW σ}{Q:VK}(ok:GOk G W HW Z H S ρ)(hQ:∀ w d HW' Z' H' v,GOk G w HW' Z' H' S ρ→Same Z Z'→Rep G.K G.C Z' d v→WGL G Z' J D (k w d)→Q v H'):∀ {r:RW},WGL G Z J D (lwB r k)→WRW G.K G.C G.E HW Z H (fun _ d _ Z' H'=>∀ v,Rep G.K G.C Z' d v→Q v H') r
 | .ok w d,h=>fun HW' Z' H' x wd v r=>hQ w d HW' Z' H' v (ok.more x wd) x.z r (h.more x.z)
 | .er w k,h=>fun HW' Z' H' x wd=>h HW' Z' H' x.z (ok.gx.trans x) wd
 | .al w f,h=>fun a e=>WRW.gl ok hQ (h a e)
 | .stuck,h=>h
end
structure BG (X:Cx)(G:Gx)(k:Nat):Prop where
 room:Room k X.A
 K:X.K=G.K
 calm:X.calm=true
 pass:Passes (CXE X.prog X.w) X G.E
section
variable {X:Cx}{G:Gx}{W:Wd}{F:Fx}{k:Nat}
theorem BG.bx (b:BG X G k){H0 Z0:Hp}:BX X (G.at H0 Z0) k:=⟨b.room,b.K,b.calm,b.pass⟩
end
def dFld (c:Nat)(W:Wd)(f:Str)(d:D):R D:=match d with
 | .ptr a=>match W a with
  | some (.ins c' fs)=>if c'=c then match fs.lookup f with
   | some x=>.ok x
   | none=>.stuck
   else .stuck
  | _=>.stuck
 | _=>.stuck
def eFld (c:Nat)(W:Wd)(f:Str)(g:SS→R D):SS→R D:=fun S=>(g S).bind (dFld c W f)
theorem p5 {K:PySem.W.Frag}{C:Nat→Addr}{Z:Hp}{f:Str}:∀ {fs:List (Str×D)} {vs:List (Str×V)} {x:D},vs.map Prod.fst=fs.map Prod.fst→Reps K C Z (fs.map Prod.snd) (vs.map Prod.snd)→fs.lookup f=some x→∃ v,vs.lookup f=some v∧Rep K C Z x v
 | [],_,_,_,_,e=>by simp at e
 | (g,d)::fs,[],_,h,_,_=>by simp at h
 | (g,d)::fs,(g',v)::vs,x,h,r,e=>by
  rw[List.map_cons,List.map_cons,List.cons.injEq]at h
  obtain⟨h1,h2⟩:=h
  have h1:g'=g:=h1
  subst h1
  rw[List.map_cons,List.map_cons,Reps]at r
  obtain⟨v0,r0,q,r1,r2⟩:=r
  rw[List.cons.injEq]at q
  obtain⟨q1,q2⟩:=q
  subst q1 q2
  rw[List.lookup_cons]at e ⊢
  cases hb:(f==g') with
  | true=>rw[hb]at e;cases e;exact⟨v,rfl,r1⟩
  | false=>rw[hb]at e;exact p5 h2 r2 e
section
variable {X:Cx}{F:Fx}{W:Wd}{c:Nat}{f:Str}{e:Expr}{g:SS→R D}{pos:Pos}
theorem b7 (hK:X.K=F.K)(wk:Wk F W)(hn:NoAttr X.K (F.C c) f)(he:FE X F e g)(hb:attributeBase e f X.env (eval e X.env)=eval e X.env:=by rfl):FE X F (.Attribute e f pos) (eFld c W f g) :=
 (yt he hb).weak fun σ H Q ⟨Z,S,ok,w⟩=>by
  refine ah ok w fun d v H1 Z1 ok1 x1 r w1=>?_
  unfold dFld at w1
  split at w1
  ·rename_i a
   split at w1
   ·rename_i c' fs ew
    split at w1
    ·rename_i ec
     subst ec
     split at w1
     ·rename_i x ex
      rw[Rep]at r
      subst r
      obtain⟨dx,vs,e1,e2,cl,e3,rr⟩:=wk a _ ew
      obtain⟨v,ev,rv⟩:=p5 e3 rr ex
      exact⟨a,F.C c',dx,vs,v,rfl,ok1.ex.same _ _ e1,by rw[hK];exact cl,hn,ev,WG.now w1 ok1.sub _ (rv.mono ok1.ex.z)⟩
     ·exact w1.elim
    ·exact w1.elim
   ·exact w1.elim
  ·exact w1.elim
end
def putD (f:Str)(d:D):List (Str×D)→List (Str×D)
 | []=>[(f,d)]
 | (g,x)::r=>if g=f then (g,d)::r else (g,x)::putD f d r
theorem kS {K:PySem.W.Frag}{C:Nat→Addr}{Z:Hp}{f:Str}{d:D}{v:V}(rd:Rep K C Z d v):∀ {fs:List (Str×D)} {vs:List (Str×V)},vs.map Prod.fst=fs.map Prod.fst→Reps K C Z (fs.map Prod.snd) (vs.map Prod.snd) →
  (putF f v vs).map Prod.fst=(putD f d fs).map Prod.fst∧Reps K C Z ((putD f d fs).map Prod.snd) ((putF f v vs).map Prod.snd)
 | [],[],_,_=>⟨rfl,Reps.cons rd Reps.nil⟩
 | [],_::_,h,_=>by simp at h
 | _::_,[],h,_=>by simp at h
 | (g,x)::fs,(g',y)::vs,h,r=>by
  rw[List.map_cons,List.map_cons,List.cons.injEq]at h
  obtain⟨h1,h2⟩:=h
  have h1:g'=g:=h1
  subst h1
  rw[List.map_cons,List.map_cons,Reps]at r
  obtain⟨v0,r0,q,r1,r2⟩:=r
  rw[List.cons.injEq]at q
  obtain⟨q1,q2⟩:=q
  subst q1 q2
  unfold putF putD
  by_cases c:g'=f
  ·rw[if_pos c,if_pos c]
   exact⟨by rw[List.map_cons,List.map_cons,h2],Reps.cons rd r2⟩
  ·rw[if_neg c,if_neg c]
   obtain⟨a,b⟩:=kS rd h2 r2
   exact⟨by rw[List.map_cons,List.map_cons,a],Reps.cons r1 b⟩
def wFld {σ:Type}(c:Nat)(W:Wd)(f:Str)(o d:D)(k:Wd→LW σ):LW σ:=match o with
 | .ptr a=>match W a with
  | some (.ins c' fs)=>if c'=c∧fs.length < 900 then k (wput W a (.ins c (putD f d fs))) else .stuck
  | _=>.stuck
 | _=>.stuck
section
variable {G:Gx}{W:Wd}{HW Z H:Hp}{S:SS}{ρ:St}
theorem GOk.put (h:GOk G W HW Z H S ρ){a:Addr}{o:HO}{oc:OC}(ha:HW a≠none)(hm:Mut (HW a))(hw:∀ H',Same Z Z→H' a=some o→(∀ b,b≠a→H' b=HW b)→WObj G.K G.C H' Z a oc)(hd:∀ b u,HW b=some (.own u)→b≠a) :
  GX HW Z H (upd HW a o) Z (upd H a o)∧GOk G (wput W a oc) (upd HW a o) Z (upd H a o) S ρ:=by
 have gx:GX HW Z H (upd HW a o) Z (upd H a o):=by
  refine⟨fun b u h1 h2=>?_,Same.refl _,fun b u e=>?_,fun b u e=>?_,fun b q=>?_,fun b q=>?_,fun b q=>.inl q,fun b q=>?_⟩
  ·rw[ac (fun z=>ha (by rw[← z];exact h1))];exact h2
  ·rw[ac (fun z=>by rw[z,h.gx.dj a ha]at e;cases e)];exact h.zh b u e
  ·by_cases z:b=a
   ·subst z;rw[af]at e ⊢;exact e
   ·rw[ac z]at e ⊢;exact h.wh b u e
  ·by_cases z:b=a
   ·subst z;rw[af];simp
   ·rw[ac z];exact q
  ·by_cases z:b=a
   ·subst z;exact .inl ha
   ·rw[ac z]at q;exact .inl q
  ·by_cases z:b=a
   ·subst z;exact h.gx.dj b ha
   ·rw[ac z]at q;exact h.gx.dj b q
 refine⟨gx,h.more gx ⟨fun b u e=>?_,h.wd.tb.put hm⟩⟩
 unfold wput at e
 split at e
 ·rename_i z;subst z
  cases e
  exact hw (upd HW b o) (Same.refl _) af fun c hc=>ac hc
 ·rename_i z
  have q:=h.wd b u e
  cases u with
  | ins c fs=>obtain⟨dx,vs,e1,e2,cl,e3,r⟩:=q;exact⟨dx,vs,by rw[ac z];exact e1,by rw[ac (hd dx b e2)];exact e2,cl,e3,r⟩
  | lst ds=>obtain⟨vs,e1,r⟩:=q;exact⟨vs,by rw[ac z];exact e1,r⟩
end
section
variable {X:Cx}{G:Gx}{W:Wd}{S:SS}{o e:Expr}{σ:Type}{J:σ→SS→Prop}{r:RW}{pos pos':Pos}{f:Str}{c:Nat}
theorem wf {go:SS→R D}{po:D}{s:σ}(hK:X.K=G.K)(hn:NoAttr X.K (G.C c) f)(hv:GE X G W S e r)(ho:∀ H0 Z0 W',Wk (G.at H0 Z0) W'→FE X (G.at H0 Z0) o go)(hS:go S=.ok po)(hJ:J s S)
  (hs:swapsWith e (some (.Attribute o f pos')) pos.line X.env=pure false:=by rfl):GL1 X G W S (.Assign [.Attribute o f pos'] e pos) J (lwB r fun w d=>wFld c w f po d fun w'=>.nx w' s):=by
 have ho':PE X o (fun ρ H Q=>∃ W' HW Z,GOk G W' HW Z H S ρ∧tE (G.fx HW Z H) go ρ H Q):=fun pins s ρ H Q I ⟨W',HW,Z,ok,t⟩=>ho _ _ W' ok.wk pins s ρ H Q I t
 refine(yu ho' hv hs).weak fun D ρ H ⟨HW,Z,ok,w⟩=>⟨HW,Z,ok,WRW.gl ok (fun w1 d HW1 Z1 H1 v ok1 z1 rd wl=>?_) w⟩
 refine⟨w1,HW1,Z1,ok1,Z1,S,ok1.nm,?_⟩
 rw[hS]
 intro H2 Z2 x2 vo ro
 unfold wFld at wl
 cases po with
 | ptr a =>
  simp only at wl
  cases ew:w1 a with
  | none=>rw[ew]at wl;exact wl.elim
  | some oc =>
   cases oc with
   | lst ds=>rw[ew]at wl;exact wl.elim
   | ins c' fs =>
   rw[ew]at wl
   simp only at wl
   by_cases ec:c'=c∧fs.length < 900
   ·rw[if_pos ec]at wl
    obtain⟨rfl,hl⟩:=ec
    have ok2:=ok1.more (ok1.ex x2) (ok1.wd.mono (Same.refl _) x2.z)
    rw[Rep]at ro
    subst ro
    obtain⟨dx,vs,e1,e2,cl,e3,rr⟩:=ok2.wd a _ ew
    have lv:vs.length=fs.length:=by have:=congrArg List.length e3;simpa using this
    have rd2:=rd.mono x2.z
    obtain⟨k1,k2⟩:=kS rd2 e3 rr
    obtain⟨gx,ok3⟩:=ok2.put (oc:=.ins c' (putD f d fs)) (aq e1) (by rw[e1];exact True.intro) (fun H' _ ha hb=>⟨dx,_,ha,by rw[hb dx (fun z=>by rw[z,e1]at e2;cases e2)];exact e2,cl,k1,k2⟩) (fun b u q z=>by rw[z,e1]at q;cases q)
    exact⟨a,G.C c',dx,vs,rfl,ok2.wh _ _ e1,by rw[hK];exact cl,hn,by omega,wl S ρ _ Z2 _ hJ x2.z ok3⟩
   ·rw[if_neg ec]at wl;exact wl.elim
 | _=>exact wl.elim
theorem ud {s:σ}(h:GE X G W S e r)(hJ:J s S)(hs:swapsWith e none pos.line X.env=pure false:=by rfl):GL1 X G W S (.Expr e pos) J (lwB r fun w _=>.nx w s) :=
 (fk h hs).weak fun D ρ H ⟨HW,Z,ok,w⟩=>⟨HW,Z,ok,WRW.gl (k:=fun w _=>.nx w s) ok (fun w1 d HW1 Z1 H1 v ok1 z1 rd wl=>wl S ρ HW1 Z1 H1 hJ (Same.refl _) ok1) w⟩
theorem wj (h:GE X G W S e r):GL1 X G W S (.Return (some e) pos) J (lwB r fun w d=>.rt w d) :=
 (sP h).weak fun D ρ H ⟨HW,Z,ok,w⟩=>⟨HW,Z,ok,WRW.gl (k:=fun w d=>.rt w d) ok (fun w1 d HW1 Z1 H1 v ok1 z1 rd wl=>wl v HW1 Z1 H1 ok1.gx ok1.wd rd) w⟩
theorem wm {i:Nat}{x:Str}{px:Pos}(hN:X.N.Nodup)(hi:X.N[i]?=some x)(hx:Loc X.env.scope x)(h:GE X G W S e r)(hf:X.fn x=true∨X.env.scope.names.lookup x=some .local)(hs:swapsWith e (some (.Name x px)) pos.line X.env=pure false:=by rfl) :
  GL1 X G W S (.Assign [.Name x px] e pos) (JX fun (d:D) (_:Unit)=>S.set i (vv d)) (lwB r fun w d=>.nx w d) :=
 (iN hN hi hx h hs).weak fun D ρ H ⟨HW,Z,ok,w⟩=>⟨HW,Z,ok,WRW.gl (k:=fun w d=>.nx w d) ok (fun w1 d HW1 Z1 H1 v ok1 z1 rd wl=>wl _ _ HW1 Z1 H1 ⟨(),rfl⟩ (Same.refl _) ⟨ok1.gx,ok1.wd,ok1.nm.setVal rd⟩) w⟩
end
def spG (K:PySem.W.Frag)(C:Nat→Addr)(n:Nat)(f:Wd→List D→RW):Sp:=fun vs H Q E =>
 vs.length=n∧∃ W HW Z ds,Same Z H∧Same HW H∧(∀ b,HW b≠none→Z b=none)∧WdOk K C HW Z W∧Reps K C Z ds vs∧WRW K C E HW Z H (fun _ d _ Z' H'=>∀ v,Rep K C Z' d v→Q v H') (f W ds)
section
variable {P:Program}{w:World}{K:PySem.W.Frag}{mg:Str→Option Value}{base:Heap}
theorem WGL.start {G:Gx}{Q:VK}{Z1:Hp}:∀ {l:LW Unit},WRW G.K G.C G.E G.HW0 G.Z0 G.H0 (fun _ d _ Z' H'=>∀ v,Rep G.K G.C Z' d v→Q v H') (outW l)→WGL G Z1 JU { nx:=fun _ H'=>Q .non H',rt:=Q } l
 | .nx w s,h=>fun S ρ HW Z H _ _ ok=>h HW Z H ok.gx ok.wd .non (by rw[Rep])
 | .rt w d,h=>fun v HW Z H x wd r=>h HW Z H x wd v r
 | .er w k,h=>fun HW Z H _ gx wd=>h HW Z H gx wd
 | .al w f,h=>fun a e=>WGL.start (h a e)
 | .stuck,h=>h
theorem GOk.start {K:PySem.W.Frag}{C:Nat→Addr}{E:XK}{HW Z H:Hp}{W:Wd}{N:List Str}{ds:List D}{vs:List V}(zh:Same Z H)(wh:Same HW H)(dj:∀ b,HW b≠none→Z b=none)(wd:WdOk K C HW Z W)(r:Reps K C Z ds vs) :
  GOk ⟨K,C,HW,Z,H,E⟩ W HW Z H (startS N.length ds) (start N vs):=by
 have gx:GX HW Z H HW Z H:=GX.refl zh wh dj
 refine⟨gx,wd,?_⟩
 have s:=dD (F:=⟨K,C,H,Z,E⟩) (N:=N) zh r
 exact s.rebase ⟨oM,Same.refl _,zh,fun _ q=>.inl q⟩ fun a o e _ n=>by
  have e:H a=some o:=e
  have n:H a=none:=n
  rw[e]at n;cases n
end
structure FnW (P:Program)(w:World)(K:PySem.W.Frag)(mg:Str→Option Value)(base:Heap)(C:Nat→Addr)(k:Nat)(x:Str)(ps:List Str)(f:Wd→List D→RW):Prop where
 ex:∃ a fd,FnOk P w K mg base (CXE P w) k a fd ps (spG K C ps.length f)∧mg x=some (.ref a)∧PySem.W.keepIn K (.ref a)=true∧Binds K fd ps []
structure MeW (P:Program)(w:World)(K:PySem.W.Frag)(mg:Str→Option Value)(base:Heap)(C:Nat→Addr)(k:Nat)(c:Nat)(m:Str)(ps:List Str)(f:Wd→List D→RW):Prop where
 ex:∃ a fd,FnOk P w K mg base (CXE P w) k a fd ps (spG K C ps.length f)∧Meth K (C c) m a∧Binds K fd ps []
structure MkW (P:Program)(w:World)(K:PySem.W.Frag)(mg:Str→Option Value)(base:Heap)(C:Nat→Addr)(k:Nat)(c:Nat)(x:Str)(ps:List Str)(f:Wd→List D→RW):Prop where
 ex:∃ a fd,FnOk P w K mg base (CXE P w) k a fd ps (spG K C ps.length f)∧Mk K (C c) a∧mg x=some (.ref (C c))∧Binds K fd ps []
 cls:Cls K (C c)
def rwM (c:Nat)(m:Str)(W:Wd)(o:D)(k:RW):RW:=match o with
 | .ptr a=>match W a with
  | some (.ins c' fs)=>if c'=c∧fs.lookup m=none then k else .stuck
  | _=>.stuck
 | _=>.stuck
def rwNew (c:Nat)(W:Wd)(f:Wd→List D→RW)(ds:List D):RW:=.al W fun a=>rwB (f (wput W a (.ins c [])) (.ptr a::ds)) fun w d=>match d with
 | .non=>.ok w (.ptr a)
 | _=>.stuck
theorem iG {f:Str}:∀ {fs:List (Str×D)} {vs:List (Str×V)},vs.map Prod.fst=fs.map Prod.fst→fs.lookup f=none→vs.lookup f=none
 | [],[],_,_=>rfl
 | [],_::_,h,_=>by simp at h
 | _::_,[],h,_=>by simp at h
 | (g,x)::fs,(g',y)::vs,h,e=>by
  rw[List.map_cons,List.map_cons,List.cons.injEq]at h
  obtain⟨h1,h2⟩:=h
  have h1:g'=g:=h1
  subst h1
  rw[List.lookup_cons]at e ⊢
  cases hb:(f==g') with
  | true=>rw[hb]at e;cases e
  | false=>rw[hb]at e;exact iG h2 e
section
variable {X:Cx}{G:Gx}{W:Wd}{S:SS}{o e:Expr}{es:List Expr}{k:Nat}{x m:Str}{ps:List Str}{f:Wd→List D→RW}{gs:SS→R (List D)}{p pos apos:Pos}{c:Nat}
def tArgs (G:Gx)(W:Wd)(S:SS)(gs:SS→R (List D)):TA:=fun ρ H Q=>∃ HW Z,GOk G W HW Z H S ρ∧match gs S with
 | .ok ds=>∀ H' Z',Ex H Z H' Z'→∀ vs,Reps G.K G.C Z' ds vs→Q vs H'
 | .err e=>∀ HW' Z' H',GX HW Z H HW' Z' H'→WdOk G.K G.C HW' Z' W→G.E (.ref (G.C e)) none H'
 | .stuck=>False
theorem xP {call:Expr}(h:MkW X.prog X.w G.K X.mg X.base G.C k c x ps f)(hn:∀ S ds,gs S=.ok ds→ds.length+1=ps.length)(hp:PE X call (tMake (G.C c) (spG G.K G.C ps.length f) [] G.E (tArgs G W S gs))):GE X G W S call (rwA W (gs S) (rwNew c W f)):=by
 refine hp.weak fun ρ H Q ⟨HW,Z,ok,w⟩=>⟨HW,Z,ok,?_⟩
 cases q:gs S with
 | err k=>rw[q]at w;exact w
 | stuck=>rw[q]at w;exact w
 | ok ds =>
  rw[q]at w
  intro H1 Z1 x1 vs rs y dx hy hdx ne
  have g:=ok.ex x1
  have wn:W y=none:=by
   cases e:W y with
   | none=>rfl
   | some oc =>
    have q:=ok.wd y oc e
    have:HW y≠none:=by cases oc with
     | ins c fs=>obtain⟨dx,vs,e1,_⟩:=q;exact aq e1
     | lst ds=>obtain⟨vs,e1,_⟩:=q;exact aq e1
    obtain⟨u,eu⟩:=pZ this
    rw[g.wh y u eu]at hy;cases hy
  have w1:=w y wn
  have g2:GX HW Z1 H1 (upd (upd HW dx (.own y)) y (.ins (G.C c) dx [])) Z1 (upd (upd H1 dx (.own y)) y (.ins (G.C c) dx [])):=by
   have fz:∀ b,H1 b=none→Z1 b=none:=fun b h=>g.zh.free h
   refine⟨fun b u h1 h2=>?_,Same.refl _,fun b u e=>?_,fun b u e=>?_,fun b z=>?_,fun b z=>?_,fun b z=>.inl z,fun b z=>?_⟩
   ·rw[ac (fun z=>by rw[z,hy]at h2;cases h2),ac (fun z=>by rw[z,hdx]at h2;cases h2)];exact h2
   ·have e1:=g.zh b u e
    rw[ac (fun z=>by rw[z,hy]at e1;cases e1),ac (fun z=>by rw[z,hdx]at e1;cases e1)];exact e1
   ·by_cases z:b=y
    ·subst z;rw[af]at e ⊢;exact e
    ·rw[ac z]at e ⊢
     by_cases z2:b=dx
     ·subst z2;rw[af]at e ⊢;exact e
     ·rw[ac z2]at e ⊢;exact g.wh b u e
   ·by_cases q:b=y
    ·subst q;rw[af];simp
    ·rw[ac q]
     by_cases z2:b=dx
     ·subst z2;rw[af];simp
     ·rw[ac z2];exact z
   ·by_cases q:b=y
    ·subst q;exact .inr hy
    ·rw[ac q]at z
     by_cases z2:b=dx
     ·subst z2;exact .inr hdx
     ·rw[ac z2]at z;exact .inl z
   ·by_cases q:b=y
    ·subst q;exact fz b hy
    ·rw[ac q]at z
     by_cases z2:b=dx
     ·subst z2;exact fz b hdx
     ·rw[ac z2]at z;exact g.dj b z
  have gg:=g.trans g2
  have wd2:WdOk G.K G.C (upd (upd HW dx (.own y)) y (.ins (G.C c) dx [])) Z1 (wput W y (.ins c [])):=by
   have sm:Same HW (upd (upd HW dx (.own y)) y (.ins (G.C c) dx [])):=fun b2 u2 e2=>by
    have e3:=g.wh b2 u2 e2
    rw[ac (fun z=>by rw[z,hy]at e3;cases e3),ac (fun z=>by rw[z,hdx]at e3;cases e3)];exact e2
   refine⟨fun b u e=>?_,ok.wd.tb.mono sm⟩
   unfold wput at e
   split at e
   ·rename_i z;subst z;cases e
    exact⟨dx,[],af,by rw[ac ne];exact af,h.cls,rfl,Reps.nil⟩
   ·exact((ok.wd b u e).mono (Same.refl _) x1.z).mono sm (Same.refl _)
  refine⟨?_,_,_,Z1,.ptr y::ds,gg.zh,gg.wh,gg.dj,wd2,?_,?_⟩
  ·rw[List.append_nil,List.length_cons,← rs.length];exact hn S ds q
  ·rw[List.append_nil];exact Reps.cons (by rw[Rep]) rs
  ·have goal:∀ {r:RW},WRW G.K G.C G.E HW Z H (fun _ d _ Z' H'=>∀ v,Rep G.K G.C Z' d v→Q v H') (rwB r fun w d=>match d with | .non=>.ok w (.ptr y) | _=>.stuck) →
     WRW G.K G.C G.E HW Z H (fun _ d _ Z' H'=>∀ v,Rep G.K G.C Z' d v→v=.non∧Q (.ref y) H') r:=fun {r}=>by
    induction r with
    | ok w d =>
     intro h
     cases d with
     | non=>exact fun HW' Z' H' x wd v r=>⟨by rw[Rep]at r;exact r,h HW' Z' H' x wd (.ref y) (by rw[Rep])⟩
     | _=>exact h.elim
    | er w k=>exact fun h=>h
    | al w f ih=>exact fun h a e=>ih a (h a e)
    | stuck=>exact fun h=>h
   exact(goal w1).more gg
theorem wp (b:BG X G k)(h:MkW X.prog X.w G.K X.mg X.base G.C k c x ps f)(hg:Gl X x)(ha:∀ H0 Z0,Wk (G.at H0 Z0) W→FA X (G.at H0 Z0) (e::es) gs)(hn:∀ S ds,gs S=.ok ds→ds.length+1=ps.length)(hdb:(x==("__debug__":Str))=false:=by decide)
  (he:starEach (e::es) X.env=(false,eval e X.env)::starEach es X.env:=by rfl) (hpl:(backTo pos (starEach es X.env)).any (·.1)=false:=by rfl):GE X G W S (.Call (.Name x p) (e::es) [] pos) (rwA W (gs S) (rwNew c W f)):=by
 obtain⟨a,fd,h1,h2,h3,h4⟩:=h.ex
 have hK:=b.K
 exact xP h hn (vD (ds:=[]) (dvs:=[]) (E:=G.E) (by rw[hK];exact h2) (by rw[hK];exact h1) b.room hg h3 (by rw[hK];exact h4) .nil b.pass (lQ (S:=S) ha) hdb he hpl)
end
theorem WRW.bind {K:PySem.W.Frag}{C:Nat→Addr}{E:XK}{HW Z H:Hp}{P P1:Wd→D→Hp→Hp→Hp→Prop}{k:Wd→D→RW}(hp:∀ w d HW' Z' H',GX HW Z H HW' Z' H'→WdOk K C HW' Z' w→WRW K C E HW' Z' H' P (k w d)→P1 w d HW' Z' H'):∀ {r:RW},WRW K C E HW Z H P (rwB r k)→WRW K C E HW Z H P1 r
 | .ok w d,h=>fun a b c x y=>hp w d a b c x y (h.more x)
 | .er w k,h=>h
 | .al w f,h=>fun a e=>WRW.bind hp (h a e)
 | .stuck,h=>h
section
variable {X:Cx}{G:Gx}{W:Wd}{S:SS}{o a b c e:Expr}{es:List Expr}{k:Nat}{x m:Str}{ps:List Str}{f:Wd→List D→RW}{gs:SS→R (List D)}{go gb:SS→R D}{p pos apos:Pos}{cl:Nat}{r r1 r2:RW}
theorem yQ {g:SS→R D}(h:∀ H0 Z0 W',Wk (G.at H0 Z0) W'→FE X (G.at H0 Z0) e g):PE X e (fun ρ H Q=>∃ W' HW Z,GOk G W' HW Z H S ρ∧tE (G.fx HW Z H) g ρ H Q):=fun pins s ρ H Q I ⟨W',HW,Z,ok,t⟩=>h _ _ W' ok.wk pins s ρ H Q I t
theorem p6 {HW Z H:Hp}{ρ:St}{g:SS→R D}{α:Type}{kk:D→RW}{P:Wd→D→Hp→Hp→Hp→Prop}{Q:VK}(ok:GOk G W HW Z H S ρ)(w:WRW G.K G.C G.E HW Z H P (rwA W (g S) kk))
  (h:∀ d v H1 Z1,GOk G W HW Z1 H1 S ρ→GX HW Z H HW Z1 H1→Rep G.K G.C Z1 d v→WRW G.K G.C G.E HW Z1 H1 P (kk d)→Q v H1):tE (G.fx HW Z H) g ρ H Q:=by
 refine⟨Z,S,ok.nm,?_⟩
 cases q:g S with
 | ok d =>
  rw[q]at w
  intro H1 Z1 x v rv
  have gx:=ok.ex x
  exact h d v H1 Z1 (ok.more gx (ok.wd.mono (Same.refl _) x.z)) gx rv (WRW.more gx w)
 | err k=>rw[q]at w;exact fun H' x=>w HW Z H' ⟨fun b o _ e=>x b o e,Same.refl _,ok.zh.trans x,ok.wh.trans x,fun _ h=>h,fun _ h=>.inl h,fun _ h=>.inl h,ok.gx.dj⟩ ok.wd
 | stuck=>rw[q]at w;exact w
theorem ue {HW Z H:Hp}{ρ:St}{po:D}{kk:RW}{P:Wd→D→Hp→Hp→Hp→Prop}{v:V}(ok:GOk G W HW Z H S ρ)(rv:Rep G.K G.C Z po v)(w:WRW G.K G.C G.E HW Z H P (rwM cl m W po kk)) :
  ∃ a dx fs,v=.ref a∧H a=some (.ins (G.C cl) dx fs)∧fs.lookup m=none∧WRW G.K G.C G.E HW Z H P kk:=by
 unfold rwM at w
 cases po with
 | ptr a =>
  simp only at w
  cases ew:W a with
  | none=>rw[ew]at w;exact w.elim
  | some oc =>
   cases oc with
   | lst ds=>rw[ew]at w;exact w.elim
   | ins c' fs =>
    rw[ew]at w
    simp only at w
    by_cases ec:c'=cl∧fs.lookup m=none
    ·rw[if_pos ec]at w
     obtain⟨rfl,hl⟩:=ec
     rw[Rep]at rv
     obtain⟨dx,vs,e1,e2,cl,e3,rr⟩:=ok.wd a _ ew
     exact⟨a,dx,vs,rv,ok.wh _ _ e1,iG e3 hl,w⟩
    ·rw[if_neg ec]at w;exact w.elim
 | _=>exact w.elim
theorem zS {pl:Sem Bool}(bg:BG X G k)(h:MeW X.prog X.w G.K X.mg X.base G.C k cl m ps f)(hc:Cls X.K (G.C cl))(hn:ps.length=1)(ho:∀ H0 Z0,Wk (G.at H0 Z0) W→FE X (G.at H0 Z0) o go)
  (ht:eval (.Call (.Attribute o m apos) [] [] pos) X.env=(do
   let ov ← eval o X.env
   standAt apos.atName
   let (f,first) ← holding [ov] (getMethod ov m pl)
   callWith pos f first (backTo pos (starEach [] X.env)) (backToKw pos (keywordEach [] X.env))):=by rfl) :
  GE X G W S (.Call (.Attribute o m apos) [] [] pos) (rwA W (go S) fun po=>rwM cl m W po (f W [po])):=by
 obtain⟨a,fd,h1,h2,h3⟩:=h.ex
 have hK:=bg.K
 have ho':PE X o (fun ρ H Q=>∃ HW Z,GOk G W HW Z H S ρ∧tE (G.fx HW Z H) go ρ H Q):=fun pins s ρ H Q I ⟨HW,Z,ok,t⟩=>ho _ _ ok.wk pins s ρ H Q I t
 refine(mJ ho' hc (by rw[hK];exact h2) (by rw[hK];exact h1) bg.room (by grind) .nil bg.pass ht).weak fun ρ H Q ⟨HW,Z,ok,w⟩=>⟨HW,Z,ok,?_⟩
 refine p6 (α:=Unit) ok w fun d v H1 Z1 ok1 gx rv w1=>?_
 obtain⟨a,dx,fs,e1,e2,e3,w2⟩:=ue ok1 rv w1
 exact⟨a,dx,fs,e1,e2,e3,hn.symm,W,HW,Z1,[d],ok1.zh,ok1.wh,ok1.gx.dj,ok1.wd,Reps.cons rv Reps.nil,w2⟩
theorem fE {pl:Sem Bool}(bg:BG X G k)(h:MeW X.prog X.w G.K X.mg X.base G.C k cl m ps f)(hc:Cls X.K (G.C cl))(ho:∀ H0 Z0,Wk (G.at H0 Z0) W→FE X (G.at H0 Z0) o go)(ha:∀ H0 Z0,Wk (G.at H0 Z0) W→FA X (G.at H0 Z0) (e::es) gs)(hn:∀ S ds,gs S=.ok ds→ds.length+1=ps.length)
  (hst:starEach (e::es) X.env=(false,eval e X.env)::starEach es X.env:=by rfl) (hpl:(backTo pos (starEach es X.env)).any (·.1)=false:=by rfl)
  (ht:eval (.Call (.Attribute o m apos) (e::es) [] pos) X.env=(do
   let ov ← eval o X.env
   standAt apos.atName
   let (f,first) ← holding [ov] (getMethod ov m pl)
   callWith pos f first (backTo pos (starEach (e::es) X.env)) (backToKw pos (keywordEach [] X.env))):=by rfl) :
  GE X G W S (.Call (.Attribute o m apos) (e::es) [] pos) (rwA W (go S) fun po=>rwM cl m W po (rwA W (gs S) fun ds=>f W (po::ds))):=by
 obtain⟨a,fd,h1,h2,h3⟩:=h.ex
 have hK:=bg.K
 have ho':PE X o (fun ρ H Q=>∃ HW Z,GOk G W HW Z H S ρ∧tE (G.fx HW Z H) go ρ H Q):=fun pins s ρ H Q I ⟨HW,Z,ok,t⟩=>ho _ _ ok.wk pins s ρ H Q I t
 refine(pK ho' hc (by rw[hK];exact h2) (by rw[hK];exact h1) bg.room (by rw[hK];exact h3) .nil bg.pass (lQ (S:=S) ha) hst hpl ht).weak fun ρ H Q ⟨HW,Z,ok,w⟩=>⟨HW,Z,ok,?_⟩
 refine p6 (α:=Unit) ok w fun d v H1 Z1 ok1 gx rv w1=>?_
 obtain⟨a,dx,fs,e1,e2,e3,w2⟩:=ue ok1 rv w1
 refine⟨a,dx,fs,e1,e2,e3,HW,Z1,ok1,?_⟩
 cases q:gs S with
 | err k=>rw[q]at w2;exact w2
 | stuck=>rw[q]at w2;exact w2
 | ok ds =>
  rw[q]at w2
  intro H2 Z2 x2 vs rs
  have g:=ok1.ex x2
  refine⟨by rw[List.append_nil,List.length_cons,← rs.length];exact hn S ds q,W,HW,Z2,d::ds,g.zh,g.wh,g.dj,ok1.wd.mono (Same.refl _) x2.z,?_,WRW.more g w2⟩
  rw[List.append_nil];exact Reps.cons (rv.mono x2.z) rs
theorem yR {op:CmpOp}{rr:R2}{ff:D→D→R D}(ho:OpR X (compareOp op) rr)(hd:∀ H0 Z0,OpD (G.at H0 Z0) rr ff)(ha:GE X G W S a r)(hb:∀ H0 Z0 W',Wk (G.at H0 Z0) W'→FE X (G.at H0 Z0) b gb)(hm:behindInMarks op b=false:=by first | exact nomark _ | rfl) :
  GE X G W S (.Compare a [op] [b] pos) (rwB r fun w d=>rwA w (gb S) fun y=>rwR w (ff d y)) :=
 (pJ ho ha (yQ (S:=S) hb) hm).weak fun ρ H Q ⟨HW,Z,ok,w⟩=>⟨HW,Z,ok,WRW.bind (fun w1 d HW1 Z1 H1 x1 wd1 w2 v rv=>by
  have ok1:=ok.more x1 wd1
  refine⟨w1,HW1,Z1,ok1,p6 (α:=Unit) ok1 w2 fun y vy H2 Z2 ok2 gx2 ry w3=>?_⟩
  refine hd (kp HW1 Z2 G.HW0 G.H0 H2) Z2 H2 Z2 v vy d y Q ok2.zh (rv.mono gx2.z) ry ?_
  cases q:ff d y with
  | ok z=>rw[q]at w3;exact fun H3 Z3 x3=>w3 HW1 Z3 H3 (ok2.ex x3) (ok2.wd.mono (Same.refl _) x3.z)
  | err k=>rw[q]at w3;exact fun H' x=>w3 HW1 Z2 H' ⟨fun b o _ e=>x b o e,Same.refl _,ok2.zh.trans x,ok2.wh.trans x,fun _ h=>h,fun _ h=>.inl h,fun _ h=>.inl h,ok2.gx.dj⟩ ok2.wd
  | stuck=>rw[q]at w3;exact w3) w⟩
def tGT (G:Gx)(W:Wd)(S:SS)(r:RW):TT:=fun ρ H Q=>∃ HW Z,GOk G W HW Z H S ρ∧WRW G.K G.C G.E HW Z H (fun _ d _ _ H'=>∃ t,d=.bl t∧Q t H') r
abbrev GT (X:Cx)(G:Gx)(W:Wd)(S:SS)(e:Expr)(r:RW):Prop:=PT X e (tGT G W S r)
def rwNot (r:RW):RW:=rwB r fun w d=>match d with
 | .bl t=>.ok w (.bl (!t))
 | _=>.stuck
theorem wq {gt:SS→R Bool}(h:∀ H0 Z0,Wk (G.at H0 Z0) W→FT X (G.at H0 Z0) e gt):GT X G W S e (rwR W ((gt S).bind fun t=>.ok (.bl t))):=fun pins s ρ H Q I ⟨HW,Z,ok,w⟩=>by
 refine h _ _ ok.wk pins s ρ H Q I ⟨Z,S,ok.nm,?_⟩
 cases q:gt S with
 | ok t=>rw[q]at w;exact fun H' Z' x=>let ⟨_,e,q⟩:=w HW Z' H' (ok.ex x) (ok.wd.mono (Same.refl _) x.z);by cases e;exact q
 | err k=>rw[q]at w;exact fun H' x=>w HW Z H' ⟨fun b o _ e=>x b o e,Same.refl _,ok.zh.trans x,ok.wh.trans x,fun _ h=>h,fun _ h=>.inl h,fun _ h=>.inl h,ok.gx.dj⟩ ok.wd
 | stuck=>rw[q]at w;exact w
def lwT {σ:Type}(r:RW)(A B:Wd→LW σ):LW σ:=lwB r fun w d=>match d with
 | .bl true=>A w
 | .bl false=>B w
 | _=>.stuck
theorem WRW.glT {σ:Type}{J:σ→SS→Prop}{D:Ends}{HW Z H:Hp}{ρ:St}{A B:Wd→LW σ}{Q:Bool→Hp→Prop}(ok:GOk G W HW Z H S ρ)(hQ:∀ w t HW' Z' H',GOk G w HW' Z' H' S ρ→Same Z Z'→WGL G Z' J D (if t=true then A w else B w)→Q t H'):∀ {r:RW},WGL G Z J D (lwT r A B)→WRW G.K G.C G.E HW Z H (fun _ d _ _ H'=>∃ t,d=.bl t∧Q t H') r
 | .ok w d,h=>fun HW' Z' H' x wd=>by
  cases d with
  | bl t=>exact⟨t,rfl,hQ w t HW' Z' H' (ok.more x wd) x.z (by cases t<;>exact WGL.more x.z h)⟩
  | _=>exact h.elim
 | .er w k,h=>fun HW' Z' H' x wd=>h HW' Z' H' x.z (ok.gx.trans x) wd
 | .al w f,h=>fun a e=>WRW.glT ok hQ (h a e)
 | .stuck,h=>h
theorem yS {σ:Type}{J:σ→SS→Prop}{sa sb:List Stmt}{A B:Wd→LW σ}(hc:GT X G W S c r)(ha:∀ w,GL X G w S sa J (A w))(hb:∀ w,GL X G w S sb J (B w)):GL1 X G W S (.If c sa sb pos) J (lwT r A B) :=
 (xJ hc (bh ha) (bh hb)).weak fun D ρ H ⟨HW,Z,ok,w⟩=>⟨HW,Z,ok,WRW.glT ok (fun w1 t HW1 Z1 H1 ok1 z1 wl=>by
  cases t with
  | true=>exact⟨w1,HW1,Z1,ok1,wl⟩
  | false=>exact⟨w1,HW1,Z1,ok1,wl⟩) w⟩
end
section
variable {X:Cx}{body:List Stmt}{c n y:Str}{np np2 kp apos hpos pos:Pos}{k:Nat}{q:Nat→Bool}{C0:Addr}{C:Nat→Addr}{tb:XK→TS}
end
section
variable {X:Cx}{G:Gx}{W:Wd}{S:SS}{τ σ V':Type}{J:σ→SS→Prop}{body rest:List Stmt}{c n y:Str}{np np2 kp apos hpos pos:Pos}{k:Nat}{q:Nat→Bool}{C0:Addr}
end
section
variable {prog:Program}{w:World}{A:Around}{E:Value→Shared→Prop}{s:Shared}
theorem fF {it t:Addr}{i:Nat}{items:Array Value}{x:Value}{Q:Value→Shared→Prop}(hit:s.heap.IsTupleIter it t i)
  (hl:s.heap.IsTuple t items) (hx:items[i]?=some x)
  (hQ:∀ h',h'.IsTupleIter it t (i+1)→Heap.SameBut it s.heap h'→Q x { s with heap:=h' }) :
  wpAny (model prog w) A (Builtin.SmallTypes.nextOf (.ref it)) Q E s:=by
 obtain⟨o,ho,hc,hd⟩:=id hit
 obtain⟨ol,hol,_,nl,hdl⟩:=hl
 unfold Builtin.SmallTypes.nextOf
 refine wpAny_bind (wpAny_callSpecial?_slot (name:=Str.ofString "__next__") hit.typeIs F.slot_tuple_iterator_next
  (wpAny_call_entry F.slot_tuple_iterator_next hit.typeIs F.entry_tuple_iterator_next ?_ (F.args_tuple_iterator_next_1 _)))
 show wpAny _ _ (field (.ref it) 0 >>= _) _ _ s
 refine wpAny_bind (wpAny_field ho hd (x:=.ref t) rfl ?_)
 rw[if_neg (show ¬ ((Value.ref t==Value.none)=true) from Bool.false_ne_true)]
 refine wpAny_bind (wpAny_field ho hd (x:=.int i 0) rfl ?_)
 refine wpAny_bind (wpAny_seqItems hol hdl ?_)
 simp only[Int.toNat_natCast,hx]
 refine wpAny_bind (wpAny_setField ho hd (by simp) (wpAny_pure ⟨x,rfl,wpAny_pure (hQ _ ?_ (Heap.SameBut.update ..))⟩))
 exact⟨_,Heap.get?_update_self _ ho (Obj.isFreed_of_fields (Obj.data_mapFields hd _)),(Obj.cls_mapFields ..).trans hc,by
  rw[Obj.data_mapFields hd];simp[rawInt]⟩
theorem gO {it t:Addr}{i:Nat}{items:Array Value}{Q:Value→Shared→Prop}(hh:A.handled=none)
  (hit:s.heap.IsTupleIter it t i) (hl:s.heap.IsTuple t items) (hx:items[i]?=none)
  (hE:∀ h' e,Heap.ExtBut it s.heap h'→(∃ o,h'.get? e=some o∧o.cls=.type "StopIteration")→E (.ref e) { s with heap:=h' }) :
  wpAny (model prog w) A (Builtin.SmallTypes.nextOf (.ref it)) Q E s:=by
 obtain⟨o,ho,hc,hd⟩:=id hit
 obtain⟨ol,hol,_,nl,hdl⟩:=hl
 unfold Builtin.SmallTypes.nextOf
 refine wpAny_bind (wpAny_callSpecial?_slot (name:=Str.ofString "__next__") hit.typeIs F.slot_tuple_iterator_next
  (wpAny_call_entry F.slot_tuple_iterator_next hit.typeIs F.entry_tuple_iterator_next ?_ (F.args_tuple_iterator_next_1 _)))
 show wpAny _ _ (field (.ref it) 0 >>= _) _ _ s
 refine wpAny_bind (wpAny_field ho hd (x:=.ref t) rfl ?_)
 rw[if_neg (show ¬ ((Value.ref t==Value.none)=true) from Bool.false_ne_true)]
 refine wpAny_bind (wpAny_field ho hd (x:=.int i 0) rfl ?_)
 refine wpAny_bind (wpAny_seqItems hol hdl ?_)
 simp only[Int.toNat_natCast,hx]
 refine wpAny_bind (wpAny_rule (wpAny_bind (wpAny_setField ho hd (by simp) ?_)))
 refine wpAny_bind ?_
 simp only[newExc,newTuple]
 refine wpAny_bind (wpAny_newObj_type ?_ (by size_fits))
 refine wpAny_bind (m:=firstArgMember _ _) (wpAny_of_eq (a:=Value.none) (by first | rfl | (simp only[firstArgMember];rfl)) ?_)
 refine wpAny_newObj_type ?_ (by size_fits)
 simp only[raiseNew]
 refine wpAny_bind (wpAny_handled ?_)
 first | rw[show A.in1.handled=none from hh] | rw[hh]
 refine wpAny_bind (wpAny_pure (wpAny_throw ?_))
 exact hE _ _ (((Heap.SameBut.update ..).extBut.push _).push _) ⟨_,Heap.get?_push_size _ rfl,rfl⟩
def SIt (h:Heap)(b:Bool)(it a:Addr)(k:Nat):Prop:=if b=true then h.IsTupleIter it a k else h.IsListIter it a k
def SOb (h:Heap)(b:Bool)(a:Addr)(xs:Array Value):Prop:=if b=true then h.IsTuple a xs else h.IsList a xs
theorem SIt.at {h h':Heap}{b:Bool}{it a:Addr}{k:Nat}(x:SIt h b it a k)(f:∀ o,h.get? it=some o→h'.get? it=some o):SIt h' b it a k:=by
 cases b<;>(obtain⟨o,ho,r⟩:=x;exact⟨o,f o ho,r⟩)
theorem SOb.at {h h':Heap}{b:Bool}{a:Addr}{xs:Array Value}(x:SOb h b a xs)(f:∀ o,h.get? a=some o→h'.get? a=some o):SOb h' b a xs:=by
 cases b<;>(obtain⟨o,ho,r⟩:=x;exact⟨o,f o ho,r⟩)
theorem SIt.lt {h:Heap}{b:Bool}{it a:Addr}{k:Nat}(x:SIt h b it a k):∃ o,h.get? it=some o∧∀ v,o.data≠.cell v:=by
 cases b<;>(obtain⟨o,ho,_,hd⟩:=x;exact⟨o,ho,fun v z=>by rw[hd]at z;cases z⟩)
theorem rG {b:Bool}{it a:Addr}{i:Nat}{items:Array Value}{x:Value}{Q:Value→Shared→Prop}(hit:SIt s.heap b it a i)(hl:SOb s.heap b a items)(hx:items[i]?=some x)
  (hQ:∀ h',SIt h' b it a (i+1)→Heap.SameBut it s.heap h'→Q x { s with heap:=h' }):wpAny (model prog w) A (Builtin.SmallTypes.nextOf (.ref it)) Q E s:=by
 cases b with
 | true=>exact fF hit hl hx hQ
 | false=>exact wpAny_nextOf_list_item hit hl hx hQ
theorem m6 {b:Bool}{it a:Addr}{i:Nat}{items:Array Value}{Q:Value→Shared→Prop}(hh:A.handled=none)(hit:SIt s.heap b it a i)(hl:SOb s.heap b a items)(hx:items[i]?=none)
  (hE:∀ h' e,Heap.ExtBut it s.heap h'→(∃ o,h'.get? e=some o∧o.cls=.type "StopIteration")→E (.ref e) { s with heap:=h' }):wpAny (model prog w) A (Builtin.SmallTypes.nextOf (.ref it)) Q E s:=by
 cases b with
 | true=>exact gO hh hit hl hx hE
 | false=>exact wpAny_nextOf_list_end hh hit hl hx hE
def IsZ (h:Heap)(z TI TO:Addr)(f0 f1:Value):Prop:=h.get? z=some { cls:=.type "zip",dict:=none,data:=.fields #[f0,f1,.bool false,.ref TI,.ref TO],slots:=#[] }
structure Zs (h:Heap)(z TI TO i1 i2 l1 l2:Addr)(b1 b2:Bool)(k:Nat)(f0:Value):Prop where
 z:∃ u,IsZ h z TI TO f0 (.bool u)
 ti:IsPair h TI (.ref i1) (.ref i2)
 to:∃ a b,IsPair h TO a b
 h1:SIt h b1 i1 l1 k
 h2:SIt h b2 i2 l2 k
theorem dF {z TI TO i1 i2 l1 l2:Addr}{b1 b2:Bool}{k:Nat}{f0:Value}{Q:Value→Shared→Prop}(hz:Zs s.heap z TI TO i1 i2 l1 l2 b1 b2 k f0)(h:Q (.ref z) s):wpAny (model prog w) A (pyIter (.ref z)) Q E s:=by
 obtain⟨⟨u,e1⟩,_⟩:=hz
 have hT:s.TypeIs (.ref z) "zip" := ⟨_,e1,rfl⟩
 refine wpAny_pyIter_slot hT F.slot_zip_iter (wpAny_call_entry F.slot_zip_iter hT F.entry_zip_iter ?_ (F.args_zip_iter_1 _))
 show wpAny _ _ (ret (.ref z)) _ _ s
 exact wpAny_pure ⟨_,rfl,"zip",_,hT,F.slot_zip_next.lookup,h⟩
end
section
variable {X:Cx}{F:Fx}{st:Stmt}{i:Nat}{g ge:SS→R D}
end
section
variable {X:Cx}{F:Fx}{pins:List (Addr×Obj)}{σ:St}{H Z:Hp}{s:Shared}
open Classical in
end
section
variable {X:Cx}{F:Fx}{a b:Expr}{ga gb:SS→R D}{pos:Pos}{k:Nat}
end
section
variable {X:Cx}{F:Fx}{p pos:Pos}{e e2:Expr}{gs:SS→R (List D)}{k:Nat}
end
section
variable {X:Cx}{F:Fx}{pos p1 p2:Pos}{x y:Str}{kk:Nat}
theorem wt (i j:Nat)(hc:X.calm=true)(hN:X.N.Nodup)(hij:i≠j:=by decide)(hi:X.N[i]?=some x:=by rfl)(hj:X.N[j]?=some y:=by rfl)(hx:Loc X.env.scope x:=by first | exact Or.inl rfl | exact Or.inr rfl)(hy:Loc X.env.scope y:=by first | exact Or.inl rfl | exact Or.inr rfl)
  (hfx:X.fn x=true∨X.env.scope.names.lookup x=some .local:=by first | exact .inl rfl | exact .inr rfl) (hfy:X.fn y=true∨X.env.scope.names.lookup y=some .local:=by first | exact .inl rfl | exact .inr rfl)
  (hK:X.K=F.K:=by first | rfl | assumption) (hn:(assignEach [.Name x p1,.Name y p2] X.env).length=2:=by rfl) (hst:(assignEach [.Name x p1,.Name y p2] X.env).findIdx? (·.1)=none:=by rfl):FG X F (.Tuple [.Name x p1,.Name y p2] kk pos) (gTup [i,j]) :=
 (sQ hc (fq (fm (i:=i) hN hi hx hfx) (fq (fm (i:=j) hN hj hy hfy) pI)) hn hst).weak fun v σ H Q ⟨Z,S,d,ok,rd,w⟩=>by
  cases d with
  | tup ds =>
   match ds with
   | [a,b] =>
    rw[Rep]at rd
    obtain⟨c,vs,rfl,h1,h2⟩:=rd
    rw[Reps]at h2
    obtain⟨v1,r,rfl,q1,h2⟩:=h2
    rw[Reps]at h2
    obtain⟨v2,r,rfl,q2,h2⟩:=h2
    rw[Reps]at h2
    subst h2
    refine⟨c,[v1,v2],rfl,by rw[hK];exact h1.mono ok.sub,rfl,v1,[v2],rfl,v2,[],rfl,rfl,?_⟩
    exact WG.now w ok.sub _ ((ok.setVal (i:=i) q1).setVal (i:=j) q2)
   | []=>exact w.elim
   | [_]=>exact w.elim
   | a::b::c::r =>
    have e:gTup [i,j] (.tup (a::b::c::r)) S=.stuck:=by unfold gTup;simp
    rw[e]at w
    exact w.elim
  | _=>exact w.elim
end
section
variable {X:Cx}{F:Fx}{p p2 pos pos2:Pos}{e:Expr}{gs:SS→R (List D)}{k:Nat}
end
section
variable {X:Cx}{F:Fx}
def gNames:List Nat→TGs
 | []=>gNil
 | i::r=>gCons (gName i) (gNames r)
theorem kT {H Z:Hp}{Q:St→Hp→Prop}:∀ (ix:List Nat) (ds:List D) (vs:List V) (S:SS) (σ:St),ds.length=ix.length→Reps F.K F.C Z ds vs→StOk F H Z S σ→(∀ σ',StOk F H Z (setAll ix ds S) σ'→Q σ' H)→gNames ix vs σ H Q
 | [],[],vs,S,σ,_,rs,ok,h=>by
  rw[Reps]at rs
  subst rs
  exact⟨rfl,h σ ok⟩
 | i::ix,d::ds,vs,S,σ,hl,rs,ok,h=>by
  rw[Reps]at rs
  obtain⟨v,r,rfl,q,rs⟩:=rs
  exact⟨v,r,rfl,kT ix ds r _ _ (by simpa using hl) rs (ok.setVal q) h⟩
 | [],_::_,_,_,_,hl,_,_,_=>by simp at hl
 | _::_,[],_,_,_,hl,_,_,_=>by simp at hl
variable {σ:Type}{S:SS}{rest:List Stmt}{J:σ→SS→Prop}{e:Expr}{ge:SS→R D}{r:R D}{n:Nat}
end
end FF
end
noncomputable section
namespace L2
open PySem PySem.Spec PyProof.Rows
section
variable {X:Cx}{pos:Pos}
end
end L2
namespace FF
open PySem PySem.Spec PyProof.Rows L2
section
variable {X:Cx}{F:Fx}{σ:Type}{S:SS}{st:Stmt}{rest:List Stmt}{J:σ→SS→Prop}
end
section
variable {X:Cx}{pins:List (Addr×Obj)}{σ:St}{H:Hp}{s:Shared}{h':Heap}
theorem m7 {h:Heap}{b:Addr}{o x:Obj}(q:b≠h.objs.size)(e:(h.push x).get? b=some o):h.get? b=some o:=by
 rcases Heap.get?_push_cases e with ⟨z,_⟩ | z
 ·exact absurd z q
 ·exact z
theorem turnedL {t':Nat}{fp:List Addr}(I:Inv X pins σ H s)(hf:∀ b∈fp,FpOk X pins H b)(k:∀ b o,b∉fp→s.heap.get? b=some o→h'.get? b=some o):Inv X pins σ H { s with heap:=h',toks:=t' }:=by
 have nit:∀ b u,H b=some u→b∉fp:=fun b u e z=>by rw[(hf b z).1]at e;cases e
 refine I.step (fun b hb=>?_) (fun b o _ _ hc e _=>k b o hc e) (fun b o _ _ hc e _=>⟨o.slots,k b o hc e⟩) (fun _ _ _ _ n=>n)
  (fun b o hc e=>⟨o,k b o hc e⟩) (fun _ _ e=>e) (fun _ _ _ e=>e) (fun b ps e=>⟨#[],by rw[e];simp⟩) (fun m hm=>?_) (fun b u e=>?_) I.bare
 ·obtain⟨_,f1,f2,f3,f4,f5⟩:=hf b hb
  exact⟨f3,f1,f4,f5⟩
 ·obtain⟨o,es,ep,ho,r⟩:=hm
  exact⟨o,es,ep,k _ o (fun z=>(hf _ z).2.1 rfl) ho,r⟩
 ·refine(I.hok b u e).stay (fun c v hc q=>k c v ?_ q) (fun _ q=>q) fun _ _ q=>q
  grind
theorem turnedP {t':Nat}{fp:List Addr}{x y:V}{u v:Value}(I:Inv X pins σ H s)(hf:∀ b∈fp,FpOk X pins H b)(hlt:∀ b∈fp,b≠s.heap.objs.size)(rx:RelV x u)(ry:RelV y v)(hp:IsPair h' s.heap.objs.size u v)
  (k:∀ b o,b∉fp→s.heap.get? b=some o→h'.get? b=some o):Inv X pins σ (upd H s.heap.objs.size (.tup [x,y])) { s with heap:=h',toks:=t' }:=by
 have I1:Inv X pins σ (upd H s.heap.objs.size (.tup [x,y])) { s with heap:=s.heap.push { cls:=.type "tuple",data:=.seq #[u,v] },toks:=s.toks }:=by
  refine I.laid (fun b u e=>Heap.get?_push_of_some _ e) (Nat.le_refl _) ?_
  exact⟨by show 2≤sizeLine;decide,[u,v],.cons rx (.cons ry .nil),TupO.new _ _⟩
 refine turnedL (s:={ s with heap:=s.heap.push { cls:=.type "tuple",data:=.seq #[u,v] },toks:=s.toks }) (fp:=fp) I1 (fun b hb=>?_) fun b o hb e=>?_
 ·obtain⟨f0,f1⟩:=hf b hb
  exact⟨by rw[ac (hlt b hb)];exact f0,f1⟩
 ·by_cases q:b=s.heap.objs.size
  ·subst q
   have e':=(Heap.get?_push_size s.heap rfl).symm.trans e
   cases e'
   exact hp
  ·have e':s.heap.get? b=some o:=by
    exact m7 q e
   exact k b o hb e'
end
def SqB (K:PySem.W.Frag)(H:Hp)(b:Bool)(a:Addr)(xs:List V):Prop:=if b=true then SqT K H a xs else SqL K H a xs
theorem oN {X:Cx}{pins:List (Addr×Obj)}{σ:St}{H:Hp}{s:Shared}{b:Bool}{a:Addr}{xs:List V}(I:Inv X pins σ H s)(h:SqB X.K H b a xs):∃ its:List Value,Vals xs its∧SOb s.heap b a its.toArray∧xs.length≤sizeLine:=by
 cases b with
 | true =>
  obtain⟨its,rv,p,hz⟩:=I.tuple h
  exact⟨its,rv,p,hz⟩
 | false =>
  obtain⟨its,rv,p,hz⟩:=I.list h
  exact⟨its,rv,p.isList,hz⟩
theorem yT {X:Cx}{pins:List (Addr×Obj)}{σ:St}{H:Hp}{s:Shared}{b:Bool}{a:Addr}{xs ys:List V}(I:Inv X pins σ H s)(h:SqB X.K H b a xs)(h':SqB X.K H b a ys):xs=ys:=by
 cases b with
 | true=>exact I.tuple_inj h h'
 | false=>exact I.list_inj h h'
theorem SqB.mono {K:PySem.W.Frag}{Z H:Hp}{b:Bool}{a:Addr}{xs:List V}(h:SqB K Z b a xs)(z:Same Z H):SqB K H b a xs:=by
 cases b with
 | true=>exact(show SqT K Z a xs from h).mono z
 | false=>exact z.seq h
theorem yU {K:PySem.W.Frag}{C:Nat→Addr}{Z:Hp}{d:D}{ds:List D}{v:V}(e:asSeq d=.ok ds)(r:Rep K C Z d v):∃ b a vs,v=.ref a∧SqB K Z b a vs∧Reps K C Z ds vs:=by
 cases d with
 | tup xs =>
  cases e
  rw[Rep]at r
  obtain⟨a,vs,rfl,h1,h2⟩:=r
  exact⟨true,a,vs,rfl,h1,h2⟩
 | lst xs =>
  cases e
  rw[Rep]at r
  obtain⟨a,vs,rfl,h1,h2⟩:=r
  exact⟨false,a,vs,rfl,h1,h2⟩
 | _=>cases e
section
variable {X:Cx}{F:Fx}{a b:Expr}{ga gb:SS→R D}{k:Nat}
end
section
variable {prog:Program}{w:World}{A:Around}{R:Result→Shared→Prop}{I S:Addr}{res:Value}{n:Nat}
end
section
variable {X:Cx}{pins:List (Addr×Obj)}{σ:St}{H1:Hp}{S z TI TO i1 i2 a1 a2:Addr}{b1 b2:Bool}{xs ys:List V}
end
section
variable {X:Cx}{F:Fx}{a b:Expr}{ga gb:SS→R D}{k:Nat}
end
section
variable {X:Cx}{F:Fx}{e:Expr}{g:SS→R D}{k:Nat}{l:List (Str×Nat)}{x:Str}{p pos:Pos}
end
section
variable {prog:Program}{w:World}{A:Around}{E:Value→Shared→Prop}{s:Shared}
theorem uf {κ:Type}[DecidableEq κ]{knd:PySem.KeyKind prog w κ}{R:Result→Shared→Prop}{d:Addr}{kvs:List (κ×Value)}{ep:Nat}(hh:A.handled=none)(hd:(d==sysModules)=false)(hm:s.heap.DictAt knd d kvs ep)(hlen:kvs.length≤1000)(S:Addr)(res:Value)(c₀:Nat)(hS:s.heap.get? S=some { cls:=.type "list",data:=.seq #[] c₀ })
  (hR:∀ h' tk acc' c',(∀ b o,b≠S→s.heap.get? b=some o→h'.get? b=some o)→h'.get? S=some { cls:=.type "list",dict:=none,data:=.seq acc' c',slots:=#[] } →
   ItemsOf (fun i v=>∃ k x,kvs[i]?=some (k,x)∧knd.is k v=true) acc' kvs.length→R (.ok (.ret res)) { s with heap:=h',toks:=tk }) :
  wpAny (model prog w) A.in1 (Builtin.List.listExtendWith (.ref S) (.ref d) res)
   (fun fin s'=>match fin with | .done f=>R (.ok f) s' | .again c'=>c'.quiet=true∧codeAny (model prog w) A c' R s') (fun e s'=>R (.error e) s') s:=by
 have hT:s.TypeIs (.ref d) "dict" := hm.dictOf.typeIs
 have hSd:S≠d:=fun e=>by
  obtain⟨o,ho,hc⟩:=hT
  subst e
  rw[hS]at ho
  cases ho
  have hc':Value.type "list"=Value.type "dict" := hc
  revert hc';decide
 have hSlt:S < s.heap.objs.size:=Heap.lt_size hS
 have hSI:S≠s.heap.objs.size:=Nat.ne_of_lt hSlt
 have hdI:d≠s.heap.objs.size:=by obtain⟨o,ho,_⟩:=hT;exact Nat.ne_of_lt (Heap.lt_size ho)
 have hSf:S∉[s.heap.objs.size,d]:=fun hm=>by
  simp only[List.mem_cons,List.not_mem_nil,or_false]at hm
  rcases hm with h | h
  ·exact hSI h
  ·exact hSd h
 have W:=(Walks.dictKeys (prog:=prog) (w:=w) (A:=A.in1) (knd:=knd) hh s.heap.objs.size d hdI kvs ep).toS
 have key:∀ (h:Heap) (c₁ tk:Nat),h.IsKeyIter s.heap.objs.size d 0 kvs.length ep→h.DictAt knd d kvs ep→(∀ b o,b≠S→s.heap.get? b=some o→h.get? b=some o) →
   h.get? S=some { cls:=.type "list",data:=.seq #[] c₁ }→codeAny (model prog w) A (.builtin "list.extend.loop" ⟨[.ref S,.ref s.heap.objs.size,res],[]⟩) R { s with heap:=h,toks:=tk }:=by
  intro h c₁ tk hit hD hk hS₁
  refine codeAny_extend_loopS W (by rw[sizeLine_eq];omega) S hSf res kvs.length 0 _ #[] c₁ rfl (Nat.zero_le _) ⟨hit,hD⟩ hS₁ (ItemsOf.nil _) fun s' acc' c' hm hS' hacc=>?_
  rw[Moved.eq_with hm]
  refine hR s'.heap s'.toks acc' c' (fun b o hb e=>hm.heap b o (fun hmem=>?_) (hk b o hb e)) hS' hacc
  rcases List.mem_cons.mp hmem with e' | hmem
  ·exact hb e'
  ·exact absurd (Heap.lt_size e) (by rw[List.mem_singleton.mp hmem];exact Nat.lt_irrefl _)
 unfold Builtin.List.listExtendWith
 refine wpAny_bind (wpAny_typeOf (T := "dict") hT ?_)
 have h1:Builtin.List.listSameRef (.ref S) (.ref d)=false:=by simp[Builtin.List.listSameRef,hSd]
 have h2:(Value.type "dict" == Value.type "list")=false:=by decide
 have h3:(Value.type "dict" == Value.type "tuple")=false:=by decide
 simp only[h1,h2,h3,Bool.or_false,Bool.false_eq_true,if_false]
 refine wpAny_bind (wpAny_pyIter_dict hd hm ?_)
 have hT₁:Shared.TypeIs { s with heap:=s.heap.push { cls:=.type "dict_keyiterator",data:=.fields #[.ref d,.int 0 0,.int kvs.length 0,.int ep 0] } } (.ref d) "dict" := by obtain⟨o,ho,hc⟩:=hT;exact⟨o,Heap.get?_push_of_some _ ho,hc⟩
 refine wpAny_bind (wpAny_holding ?_)
 unfold Builtin.List.listLengthHint
 refine wpAny_bind (wpAny_specialOf hT₁ F.slot_dict_len.lookup ?_)
 generalize hid:("dict.__len__":String)=id0
 wp_delta
 rw[show splitId id0=some ("dict","__len__") from by subst hid;decide +kernel]
 subst hid
 refine wpAny_bind (wpAny_isInstance (T := "dict") (b:=true) hT₁ (by rw[isSubtype_type];kernel_rfl) ?_)
 refine wpAny_ite_split (fun hab=>absurd hab (by decide)) (fun _=>?_)
 refine wpAny_ite_split (fun _=>?_) (fun hab=>absurd (by decide +kernel) hab)
 refine wpAny_bind (wpAny_typeOf (T := "dict") hT₁ ?_)
 refine wpAny_pure ?_
 have hit₁:(s.heap.push { cls:=.type "dict_keyiterator",data:=.fields #[.ref d,.int 0 0,.int kvs.length 0,.int ep 0] }).IsKeyIter s.heap.objs.size d 0 kvs.length ep:=⟨_,Heap.get?_push_size _ rfl,rfl,rfl⟩
 have hD₁:(s.heap.push { cls:=.type "dict_keyiterator",data:=.fields #[.ref d,.int 0 0,.int kvs.length 0,.int ep 0] }).DictAt knd d kvs ep:=hm.at' fun o e=>Heap.get?_push_of_some _ e
 have hS₁:=Heap.get?_push_of_some { cls:=.type "dict_keyiterator",data:=.fields #[.ref d,.int 0 0,.int kvs.length 0,.int ep 0] } hS
 refine wpAny_ite_split (fun _=>?_) (fun _=>wpAny_pure ⟨plainId_quiet F.plain_extend_loop _,key _ c₀ _ hit₁ hD₁ (fun b o _ e=>Heap.get?_push_of_some _ e) hS₁⟩)
 refine wpAny_bind (wpAny_rule ?_)
 refine wpAny_bind ?_
 show wpAny _ _ (updateSeq S (·.push .none) >>= fun _=>updateSeq S (·.pop)) _ _ _
 refine wpAny_bind (wpAny_updateSeq hS₁ rfl ?_)
 have hS₂:=Heap.get?_update_self (Obj.mapSeq (·.push Value.none)) hS₁ rfl
 refine wpAny_updateSeq (hz:=by seq_fits) hS₂ rfl ?_
 have hS₃:=Heap.get?_update_self (Obj.mapSeq (·.pop)) hS₂ rfl
 refine wpAny_pure ⟨plainId_quiet F.plain_extend_loop _,key _ _ _ (hit₁.at fun o e=>?_) (hD₁.at' fun o e=>?_) (fun b o hb e=>?_) hS₃⟩
 ·exact(Heap.get?_update_other _ _ hSI).trans ((Heap.get?_update_other _ _ hSI).trans e)
 ·exact(Heap.get?_update_other _ _ hSd).trans ((Heap.get?_update_other _ _ hSd).trans e)
 ·exact(Heap.get?_update_other _ _ (Ne.symm hb)).trans ((Heap.get?_update_other _ _ (Ne.symm hb)).trans (Heap.get?_push_of_some _ e))
end
section
variable {X:Cx}{F:Fx}{k:Nat}{l:List (Str×Nat)}{x:Str}{p p2 pos:Pos}
end
open AutoSeq1 (wpAny_loadPart')
theorem ug {prog:Program}{w:World}{A:Around}(hh:A.handled=none)(b:Bool)(it a:Addr)(hne:a≠it)(items:Array Value) :
  Draws prog w A it [it,a] items.size (fun i v=>items[i]?=some v) (fun i h=>SIt h b it a i∧SOb h b a items) where
 live:=fun _ _ st=>let ⟨o,ho,_⟩:=st.1.lt;⟨o,ho⟩
 frame:=fun _ _ _ st hk=>⟨st.1.at fun o e=>hk it (by simp) o e,st.2.at fun o e=>hk a (by simp) o e⟩
 item:=fun i s Q E hi st hQ=>by
  refine rG st.1 st.2 (x:=items[i]) (by simp[hi]) fun h' hit' hs'=>?_
  exact hQ _ h' s.toks (by simp[hi]) ⟨hit',st.2.at fun o e=>hs'.extBut _ _ hne e⟩ hs'
 done:=fun s Q E st hE=>m6 hh st.1 st.2 (by simp) hE
theorem jc (l:Addr)(items:Array Value)(n:Nat)(dct:Option Addr)(sl:Array (Option Value)) :
  Meets (Builtin.«enumerate.__new__» ⟨[.type "enumerate",.ref l],[]⟩) (fun _ R s=>s.heap.get? l=some { cls:=.type "tuple",dict:=dct,data:=.seq items n,slots:=sl } ∧
   R (.ok (.ret (.ref (s.heap.push { cls:=.type "tuple_iterator",data:=.fields #[.ref l,.int 0 0] }).objs.size)))
    { s with heap:=(s.heap.push { cls:=.type "tuple_iterator",data:=.fields #[.ref l,.int 0 0] }).push { cls:=.type "enumerate",data:=.fields #[.none,.bool false,.ref s.heap.objs.size,rawInt 0,.none,.none] } }) :=
 .of_wp fun prog w A R s h=>by
  obtain⟨hp,g,d,tk,os⟩:=s;obtain⟨hl,h⟩:=h
  have hsub:=sub_enumerate
  have hL:Heap.IsTuple (Shared.heap ⟨hp,g,d,tk,os⟩) l items:=⟨_,hl,rfl,n,rfl⟩
  wp_walk using wpAny_loadPart' hl
  refine wpAny_stack_any fun st=>wpAny_pure ?_
  split
  ·rename_i c _ _ _ _ _
   cases (c==Value.type "enumerate")
   ·wp_walk using wpAny_loadPart' hl,wpAny_pyIter_tuple hL
    exact⟨_,rfl,h⟩
   ·wp_walk using wpAny_loadPart' hl,wpAny_pyIter_tuple hL
    exact⟨_,rfl,h⟩
  ·wp_walk using wpAny_loadPart' hl,wpAny_pyIter_tuple hL
   exact⟨_,rfl,h⟩
section
variable {prog:Program}{w:World}{A:Around}{E:Value→Shared→Prop}{s:Shared}
theorem j4 {l:Addr}{items:Array Value}{Q:Value→Shared→Prop}(hL:s.heap.IsTuple l items)
  (h:∀ h',IsEnum h' (s.heap.objs.size+1) s.heap.objs.size 0 .none→h'.IsTupleIter s.heap.objs.size l 0→h'.objs.size=s.heap.objs.size+2 →
   (∀ b o,s.heap.get? b=some o→h'.get? b=some o)→Q (.ref (s.heap.objs.size+1)) { s with heap:=h' }) :
  wpAny (model prog w) A (call (.type "enumerate") [.ref l]) Q E s:=by
 obtain⟨⟨c,dct,dt,sl⟩,hl,hc,n,hd⟩:=hL
 replace hc:c=.type "tuple" := hc
 replace hd:dt=.seq items n:=hd
 subst hc hd
 refine callType_new F.called_enumerate (by decide) (F.typeCall_enumerate_1 _) (F.newCall_enumerate_1 _) (fun obj=>F.args_object_init_2 obj _) F.entry_enumerate_new
  (jc l items n dct sl) ⟨hl,?_⟩
 have hz:(s.heap.push { cls:=.type "tuple_iterator",data:=.fields #[.ref l,.int 0 0] }).objs.size=s.heap.objs.size+1:=Heap.size_push ..
 show _∧_
 rw[hz]
 have he:IsEnum ((s.heap.push { cls:=.type "tuple_iterator",data:=.fields #[.ref l,.int 0 0] }).push
   { cls:=.type "enumerate",data:=.fields #[.none,.bool false,.ref s.heap.objs.size,rawInt 0,.none,.none] }) (s.heap.objs.size+1) s.heap.objs.size 0 .none:=by
  have:=Heap.get?_push_size (s.heap.push { cls:=.type "tuple_iterator",data:=.fields #[.ref l,.int 0 0] })
   (o:={ cls:=.type "enumerate",data:=.fields #[.none,.bool false,.ref s.heap.objs.size,rawInt 0,.none,.none] }) rfl
  rw[hz]at this;exact this
 refine⟨⟨_,he,rfl⟩,h _ he ⟨_,Heap.get?_push_of_some _ (Heap.get?_push_size _ rfl),rfl,rfl⟩ (by rw[Heap.size_push,hz]) fun b o x=>Heap.get?_push_of_some _ (Heap.get?_push_of_some _ x)⟩
theorem rH {b:Bool}{l:Addr}{items:Array Value}{Q:Value→Shared→Prop}(hL:SOb s.heap b l items)
  (h:∀ h',IsEnum h' (s.heap.objs.size+1) s.heap.objs.size 0 .none→SIt h' b s.heap.objs.size l 0→(∀ b o,s.heap.get? b=some o→h'.get? b=some o)→Q (.ref (s.heap.objs.size+1)) { s with heap:=h' }) :
  wpAny (model prog w) A (call (.type "enumerate") [.ref l]) Q E s:=by
 cases b with
 | true=>exact j4 hL fun h' a1 a2 _ a3=>h h' a1 a2 a3
 | false=>exact call_enumerate_list hL fun h' a1 a2 _ a3=>h h' a1 a2 a3
theorem kU {e it:Addr}{i:Int}{old:Value}{Q:Value→Shared→Prop}(he:IsEnum s.heap e it i old)(h:Q (.ref e) s):wpAny (model prog w) A (pyIter (.ref e)) Q E s:=by
 have hT:s.TypeIs (.ref e) "enumerate" := ⟨_,he,rfl⟩
 refine wpAny_pyIter_slot hT F.slot_enumerate_iter (wpAny_call_entry F.slot_enumerate_iter hT F.entry_enumerate_iter ?_ (F.args_enumerate_iter_1 _))
 show wpAny _ _ (ret (.ref e)) _ _ s
 exact wpAny_pure ⟨_,rfl,"enumerate",_,hT,F.slot_enumerate_next.lookup,h⟩
end
section
variable {prog:Program}{w:World}{A:Around}{E:Value→Shared→Prop}{s:Shared}
theorem uh {e it a:Addr}{b:Bool}{i:Int}{k:Nat}{old:Value}{items:Array Value}{Q:Option Value→Shared→Prop}(hh:A.handled=none)(he:IsEnum s.heap e it i old)(hit:SIt s.heap b it a k)(hl:SOb s.heap b a items)(hx:items[k]?=none)
  (hQ:∀ h',Heap.ExtBut it s.heap h'→Q none { s with heap:=h' }):wpAny (model prog w) A (pyNext (.ref e)) Q E s:=by
 have hT:s.TypeIs (.ref e) "enumerate" := ⟨_,he,rfl⟩
 unfold pyNext
 refine wpAny_bind (wpAny_attempt (wpAny_callSpecial?_slot (name:=Str.ofString "__next__") hT F.slot_enumerate_next
  (wpAny_call_entry F.slot_enumerate_next hT F.entry_enumerate_next ?_ (F.args_enumerate_next_1 _))))
 show wpAny _ _ (field (.ref e) 2 >>= _) _ _ _
 refine wpAny_bind (wpAny_field he rfl (x:=.ref it) rfl ?_)
 refine wpAny_bind (m6 (show A.in1.handled=none from hh) hit hl hx fun h' x he' hx'=>?_)
 obtain⟨o,ho,hc⟩:=hx'
 refine wpAny_bind (wpAny_isInstance (T := "StopIteration") (b:=true) ⟨o,ho,hc⟩ isSubtype_stop ?_)
 exact wpAny_pure (hQ _ he')
end
def Ite (K:PySem.W.Frag)(b:Bool)(a:Addr):It :=
 ⟨fun i H=>∃ xs x,SqB K H b a xs∧xs[i]?=some x,
  fun i H v H'=>∃ p x,H p=none∧v=.ref p∧(∀ xs,SqB K H b a xs→xs[i]?=some x)∧H'=upd H p (.tup [.int (i:Int),x]),
  fun i H=>∃ xs,SqB K H b a xs∧xs.length≤i⟩
theorem rJ {P:Program}{w:World}{K:PySem.W.Frag}{elts:List Expr}{x1:Nat}{pos:Pos}{e it a:Addr}(b:Bool)(hei:e≠it)(hai:a≠it)(hea:e≠a) :
  Turn P w K (.Tuple elts x1 pos) (Ite K b a) [e,it] e (fun i h=>(∃ old,IsEnum h e it i old)∧SIt h b it a i) where
 mem:=by simp
 obj:=fun i h st c hb=>by
  obtain⟨⟨old,e1⟩,e2⟩:=st
  simp only[List.mem_cons,List.not_mem_nil,or_false]at hb
  rcases hb with rfl | rfl
  ·exact⟨_,e1,fun v z=>by have z':Data.fields _=Data.cell v:=z;cases z'⟩
  ·exact e2.lt
 keep:=fun i h h' st k=>by
  obtain⟨⟨old,e1⟩,e2⟩:=st
  exact⟨⟨old,k e (by simp) _ e1⟩,e2.at fun o q=>k it (by simp) o q⟩
 item:=by
  intro X hP hw hK hc i pins s σ H E I hf st hg
  subst hP hw hK
  obtain⟨xs,x,q1,hx⟩:=hg
  obtain⟨⟨old,e1⟩,e2⟩:=st
  obtain⟨is1,rv1,o1,_⟩:=oN I q1
  obtain⟨u,hu,ru⟩:=rv1.get hx
  have hl:=rv1.length
  have hil:i < xs.length:=(List.getElem?_eq_some_iff.mp hx).1
  have lt:∀ c∈[e,it],c≠s.heap.objs.size:=fun c hb=>by
   simp only[List.mem_cons,List.not_mem_nil,or_false]at hb
   rcases hb with rfl | rfl
   ·exact Nat.ne_of_lt (Heap.lt_size e1)
   ·obtain⟨o,ho,_⟩:=e2.lt;exact Nat.ne_of_lt (Heap.lt_size ho)
  have D:=ug (prog:=X.prog) (w:=X.w) (A:=X.A.in1) (show X.A.in1.handled=none from I.ok.hd hc) b it a hai is1.toArray
  refine wpAny_pyNext_enum_itemD D e1 ⟨e2,o1⟩ (by simp;omega) hei (by simp[hei,hea]) fun v h' tk hP ho hs' hT hsz hk=>?_
  have ev:v=u:=by
   have h1:is1[i]?=some v:=by simpa using hP
   rw[hu]at h1;cases h1;rfl
  subst ev
  refine⟨_,rfl,wpAny_letOwnedTupleGo_enum (s:={ s with heap:=h',toks:=tk+1 }) ho fun h2 he2 sb2=>?_⟩
  have k2:∀ c o,c∉[e,it]→s.heap.get? c=some o→h2.get? c=some o:=fun c o hb q=>by
   simp only[List.mem_cons,List.not_mem_nil,or_false,not_or]at hb
   exact sb2.extBut _ _ hb.1 (hk c o hb.1 hb.2 q)
  have hp2:IsPair h2 s.heap.objs.size (.int i tk) v:=sb2.extBut _ _ (fun q=>lt e (by simp) q.symm) hT
  have I2:Inv X pins σ (upd H s.heap.objs.size (.tup [.int (i:Int),x])) { s with heap:=h2,toks:=tk+1 }:=turnedP I hf lt ⟨tk,rfl⟩ ru hp2 k2
  exact⟨.ref s.heap.objs.size,_,I2,rfl,⟨s.heap.objs.size,x,I.hok.fresh (Nat.le_refl _),rfl,fun xs' q=>by rw[yT I q q1];exact hx,rfl⟩,⟨⟨_,by simpa using he2⟩,hs'.1.at fun o q=>sb2.extBut _ _ (Ne.symm hei) q⟩,fun c hb=>by rw[ac (lt c hb)];exact(hf c hb).1⟩
 done:=by
  intro X hP hw hK hc i pins s σ H E I hf st hg
  subst hP hw hK
  obtain⟨xs,q1,hx⟩:=hg
  obtain⟨⟨old,e1⟩,e2⟩:=st
  obtain⟨is1,rv1,o1,_⟩:=oN I q1
  have hl:=rv1.length
  refine uh (I.ok.hd hc) e1 e2 o1 (by simp;omega) fun h' hk=>⟨rfl,turnedL (t':=s.toks) I hf fun c o hb q=>?_⟩
  simp only[List.mem_cons,List.not_mem_nil,or_false,not_or]at hb
  exact hk c o hb.2 q
 self:=fun _ _ _ _ _ st h=>by obtain⟨⟨old,e1⟩,_⟩:=st;exact kU e1 h
theorem rK:bootBuiltins "enumerate"=some (.type "enumerate"):=by decide +kernel
theorem wu {X:Cx}{elts:List Expr}{x1:Nat}{ps p pos:Pos}{a:Expr}{ta:TA}(hg:Gl X "enumerate")(hm:X.mg "enumerate"=none)(ha:PA X [a] ta)(hs:starEach [a] X.env=[(false,eval a X.env)]:=by rfl) :
  PI X (.Tuple elts x1 ps) (.Call (.Name "enumerate" p) [a] [] pos) (fun σ H R=>ta σ H fun vs H1=>∃ b a1,vs=[.ref a1]∧(∃ xs,SqB X.K H1 b a1 xs)∧R (Ite X.K b a1) H1):=by
 intro pins s σ H R I h
 refine Call_ (gp I hg hm rK (PyProof.Rows.callWith_type1 (thn (ha pos pins s σ H _ I h) fun us s1 ⟨vs,H1,I1,r1,q1⟩=>?_) hs rfl))
 obtain⟨b,a1,e,⟨xs,hx⟩,q⟩:=q1
 subst e
 cases r1 with
 | cons r rr =>
  cases rr
  cases r
  obtain⟨is1,rv1,o1,_⟩:=oN I1 hx
  have lt:a1 < s1.heap.objs.size:=by cases b<;>(obtain⟨_,e,_⟩:=o1;exact Heap.lt_size e)
  refine rH o1 fun h' he hi hk=>kU (s:={ s1 with heap:=h' }) he ?_
  have I2:Inv X pins σ H1 { s1 with heap:=h',toks:=s1.toks }:=I1.kept hk
  refine⟨_,_,_,_,H1,rfl,I2,rJ b (Nat.succ_ne_self _) (Nat.ne_of_lt lt) (Nat.ne_of_gt (Nat.lt_succ_of_lt lt)),⟨⟨_,he⟩,hi⟩,fun c hc=>?_,q⟩
  have hb:s1.heap.objs.size≤c:=by
   simp only[List.mem_cons,List.not_mem_nil,or_false]at hc
   rcases hc with rfl | rfl
   ·exact Nat.le_add_right _ _
   ·exact Nat.le_refl _
  exact I1.fpOk hb (I1.hok.fresh hb)
theorem p7:∀ {xs:List D} {k i:Nat} {x:D},xs[i]?=some x→(enD xs k)[i]?=some (.tup [.int ((k+i:Nat):Int),x])
 | a::xs,k,0,x,h=>by cases h;rfl
 | a::xs,k,i+1,x,h=>by
  have:=p7 (xs:=xs) (k:=k+1) (i:=i) (by simpa using h)
  rw[show k+1+i=k+(i+1) by omega]at this
  simpa [enD] using this
 | [],_,_,_,h=>by simp at h
theorem lR:∀ (xs:List D) (k:Nat),(enD xs k).length=xs.length
 | [],_=>rfl
 | a::xs,k=>by show (enD xs (k+1)).length+1=_;rw[lR xs (k+1)];rfl
theorem rN {F:Fx}{b:Bool}{a:Addr}{xs:List D}{vs:List V}{Z:Hp}(h1:SqB F.K Z b a vs)(r1:Reps F.K F.C Z xs vs):WalkG F (Ite F.K b a) (enD xs 0) Z:=fun i H Z2 z1 z2=>by
 have l:=lR xs 0
 have e1:=r1.length
 refine⟨fun hi=>?_,fun hi=>⟨vs,h1.mono (z1.trans z2),by omega⟩⟩
 have hx:vs[i]?=some vs[i]:=List.getElem?_eq_getElem (by omega)
 refine⟨⟨vs,_,h1.mono (z1.trans z2),hx⟩,fun v H' ⟨p,x,hp,e,qx,eH⟩=>?_⟩
 subst e;subst eH
 obtain⟨dx,f1,g1⟩:=r1.get' (qx _ (h1.mono (z1.trans z2)))
 have z3:Same Z (upd Z2 p (.tup [.int (i:Int),x])):=z1.trans (ap (z2.free hp))
 have f2:=p7 (k:=0) f1
 rw[Nat.zero_add]at f2
 refine⟨upd Z2 p (.tup [.int (i:Int),x]),.tup [.int (i:Int),dx],Ex.alloc z2 hp,f2,?_⟩
 rw[Rep]
 exact⟨p,[.int (i:Int),x],rfl,SqT.of af,Reps.cons ax (Reps.cons (g1.mono z3) Reps.nil)⟩
section
variable {X:Cx}{F:Fx}{a:Expr}{ga:SS→R D}{k:Nat}
theorem ww {S:SS}{α:Type}(f:D→R α):((aL [ga]) S).bind (fun ds=>match ds with | [x]=>f x | _=>R.stuck)=(ga S).bind fun x=>f x:=by
 show (((ga S).bind fun d=>(R.ok []:R (List D)).bind fun ds=>R.ok (d::ds))).bind _=_
 cases ga S<;>rfl
theorem lT {elts:List Expr}{x1:Nat}{ps p pos:Pos}(bx:BX X F k)(hg:Gl X "enumerate")(hm:X.mg "enumerate"=none)(ha:FE X F a ga)(hs:starEach [a] X.env=[(false,eval a X.env)]:=by rfl) :
  FI X F (.Tuple elts x1 ps) (.Call (.Name "enumerate" p) [a] [] pos) (fun S=>(ga S).bind fun x=>dEnum x) :=
 (wu hg hm (FAL.out (ja ha eB (hs:=by rw[hs];rfl))) hs).weak fun σ H Q ⟨Z,S,ok,w⟩=>by
  have w:WG F H Z ((ga S).bind fun x=>dEnum x) _:=w
  rw[← ww]at w
  refine aw ok w fun ds vs H1 Z1 ok1 x1 rs w1=>?_
  obtain⟨dx,rfl⟩:∃ dx,ds=[dx]:=by
   rcases ds with _ | ⟨dx,_ | ⟨dy,r⟩⟩
   ·exact False.elim w1
   ·exact⟨dx,rfl⟩
   ·exact False.elim w1
  focus
   have w2:WG F H1 Z1 (dEnum dx) _:=w1
   unfold dEnum sq at w2
   rw[Reps]at rs
   obtain⟨v1,r,rfl,q1,rs⟩:=rs
   rw[Reps]at rs
   subst rs
   cases e1:asSeq dx with
   | err k=>rw[e1]at w2;cases dx<;>cases e1
   | stuck=>rw[e1]at w2;exact w2.elim
   | ok xs =>
    rw[e1]at w2
    have w3:WG F H1 Z1 (R.bind (if xs.length≤16777216 then R.ok xs else R.stuck) fun xs=>R.ok (enD xs 0)) _:=w2
    split at w3
    ·rename_i hl1
     obtain⟨b1,a1,us1,rfl,s1,t1⟩:=yU e1 q1
     rw[bx.K]
     exact⟨b1,a1,rfl,⟨us1,s1.mono ok1.sub⟩,WG.now w3 ok1.sub _ (rN s1 t1) (by rw[lR];exact hl1)⟩
    ·exact w3.elim
end
section
variable {X:Cx}{F:Fx}{a:Expr}{ga:SS→R D}{k:Nat}{p p2 pos pos2:Pos}
end
section
variable {prog:Program}{w:World}{A:Around}{E:Value→Shared→Prop}{s:Shared}
end
section
variable {X:Cx}{F:Fx}
variable {σ:Type}{S:SS}{rest:List Stmt}{J:σ→SS→Prop}{e:Expr}{ge:SS→R D}{r:R D}{n:Nat}
end
section
variable {X:Cx}{F:Fx}
end
def capB (XN:List Str)(scope:Scope)(N:List Str)(own:Nat):Nat→List Nat→Bool
 | _,[]=>true
 | j,i::r=>(match N[own+j]?,XN[i]? with
  | some x,some y=>x==y&&scope.names.lookup x==some .free
  | _,_=>false)&&capB XN scope N own (j+1) r
def blkB (XN:List Str)(osc scope:Scope)(N:List Str)(own:Nat)(cap:List Nat):Bool :=
 scope.kind==.function&&(scope.names.all fun y=>scope.names.lookup y.1==some y.2)&&(scope.names.all fun y=>!(y.2==.free)||(osc.names.lookup y.1==some .cell||osc.names.lookup y.1==some .free))&&N.length==own+cap.length&&capB XN scope N own 0 cap
theorem p9 {XN:List Str}{scope:Scope}{N:List Str}{own:Nat}:∀ {cap:List Nat} {k:Nat},capB XN scope N own k cap=true→∀ j i,cap[j]?=some i→∃ x,N[own+(k+j)]?=some x∧XN[i]?=some x∧scope.names.lookup x=some .free
 | [],_,_,j,i,e=>by simp at e
 | c::r,k,h,j,i,e=>by
  unfold capB at h
  rw[Bool.and_eq_true]at h
  cases j with
  | zero =>
   simp only[List.getElem?_cons_zero,Option.some.injEq]at e
   subst e
   have h1:=h.1
   split at h1
   ·rename_i x y e1 e2
    rw[Bool.and_eq_true]at h1
    have:=eq_of_beq h1.1
    subst this
    exact⟨x,by rw[Nat.add_zero];exact e1,e2,eq_of_beq h1.2⟩
   ·cases h1
  | succ j =>
   obtain⟨x,a,b⟩:=p9 h.2 j i (by simpa using e)
   exact⟨x,by rw[← a];congr 1;omega,b⟩
theorem BlkOk.of {XN:List Str}{osc scope:Scope}{N:List Str}{own:Nat}{cap:List Nat}(h:blkB XN osc scope N own cap=true):BlkOk XN osc scope N own cap:=by
 unfold blkB at h
 simp only[Bool.and_eq_true,List.all_eq_true]at h
 obtain⟨⟨⟨⟨h1,h2⟩,h3⟩,h4⟩,h5⟩:=h
 have look:=fun y hy=>eq_of_beq (h2 y hy)
 refine⟨eq_of_beq h1,fun y hy e=>by rw[look y hy,e],fun y hy e=>by rw[look y hy,e],fun y hy e=>by rw[look y hy,e],fun y hy e=>?_,eq_of_beq h4,fun j i e=>?_⟩
 ·grind
 ·have:=p9 h5 j i e
  grind
section
variable {X:Cx}{F:Fx}{o e:Expr}{g:SS→R D}{gs:List (SS→R D)}{apos cpos:Pos}{k:Nat}
end
def OkD (P:Program)(w:World)(K:PySem.W.Frag)(mg:Str→Option Value)(base:Heap)(C:Nat→Addr)(k:Nat)(x:Str)(st:Stmt)(ps:List Str)(fn:List D→R D):Prop :=
 ∀ {f:Addr} {fd:FuncData},Fun K x x st f fd→FnOk P w K mg base (CXE P w) (k+1) f fd ps (spF K C ps.length fn)
def OkB (P:Program)(w:World)(K:PySem.W.Frag)(mg:Str→Option Value)(base:Heap)(C:Nat→Addr)(k:Nat)(N:List Str)(x:Str)(st:Stmt)(ds:List D)(l:L Unit):Prop :=
 ∀ (f:Addr) (cdv:Value) (A:Around) (outer:List Env) (s:Shared) (H Z:Hp) (E:XK),BX (bodyX P w K mg base N x (defScope st) f cdv A outer s H E) ⟨K,C,H,Z,E⟩ k →
  PassesOwn (model P w) (bodyX P w K mg base N x (defScope st) f cdv A outer s H E).A (bodyX P w K mg base N x (defScope st) f cdv A outer s H E).env (bodyX P w K mg base N x (defScope st) f cdv A outer s H E).xe →
  MadeX (bodyX P w K mg base N x (defScope st) f cdv A outer s H E) ⟨K,C,H,Z,E⟩→FL (bodyX P w K mg base N x (defScope st) f cdv A outer s H E) ⟨K,C,H,Z,E⟩ (startS N.length ds) (defBody st) JU l
theorem mkSc {N ps:List Str}{sc:Scope}(a:sc.kind=.function:=by rfl)(b:sc.isCoroutine=false:=by rfl)(c:sc.isGenerator=false:=by rfl)(d:N.Nodup:=by decide +kernel)(e:N.take ps.length=ps:=by rfl)
  (f:∀ x∈ps,sc.names.lookup x=some .local∨sc.names.lookup x=some .cell:=by decide +kernel) (g:∀ y∈sc.names,y.2≠.free:=by decide +kernel):FnScope N ps sc:=⟨a,b,c,d,e,f,g⟩
section
variable {P:Program}{w:World}{K:PySem.W.Frag}{mg:Str→Option Value}{base:Heap}{C:Nat→Addr}{k:Nat}{N ps:List Str}{x:Str}{st:Stmt}
theorem okd {fn:List D→R D}(S:FnScope N ps (defScope st))(h:∀ ds,ds.length=ps.length→∃ l,fn ds=outL l∧OkB P w K mg base C k N x st ds l):OkD P w K mg base C k x st ps fn:=fun F =>
 we F S fun cdv A outer s H Z E bx hp md ds hl=>by
  obtain⟨l,e,o⟩:=h ds hl
  exact⟨l,e,o _ cdv A outer s H Z E bx hp md⟩
theorem ok1 {p:Str}{c:D→L Unit}(S:FnScope N [p] (defScope st))(h:∀ a,OkB P w K mg base C k N x st [a] (c a)):OkD P w K mg base C k x st [p] (a1 c):=okd S fun ds hl=>by obtain⟨a,rfl⟩:=len1 hl;exact⟨c a,rfl,h a⟩
theorem ok2 {p q:Str}{c:D→D→L Unit}(S:FnScope N [p,q] (defScope st))(h:∀ a b,OkB P w K mg base C k N x st [a,b] (c a b)):OkD P w K mg base C k x st [p,q] (a2 c):=okd S fun ds hl=>by obtain⟨a,b,rfl⟩:=len2 hl;exact⟨c a b,rfl,h a b⟩
theorem ok3 {p q r:Str}{c:D→D→D→L Unit}(S:FnScope N [p,q,r] (defScope st))(h:∀ a b d,OkB P w K mg base C k N x st [a,b,d] (c a b d)):OkD P w K mg base C k x st [p,q,r] (a3 c):=okd S fun ds hl=>by obtain⟨a,b,d,rfl⟩:=len3 hl;exact⟨c a b d,rfl,h a b d⟩
theorem ok4 {p q r s:Str}{c:D→D→D→D→L Unit}(S:FnScope N [p,q,r,s] (defScope st))(h:∀ a b d e,OkB P w K mg base C k N x st [a,b,d,e] (c a b d e)):OkD P w K mg base C k x st [p,q,r,s] (a4 c):=okd S fun ds hl=>by obtain⟨a,b,d,e,rfl⟩:=len4 hl;exact⟨c a b d e,rfl,h a b d e⟩
theorem ok5 {p q r s t:Str}{c:D→D→D→D→D→L Unit}(S:FnScope N [p,q,r,s,t] (defScope st))(h:∀ a b d e f,OkB P w K mg base C k N x st [a,b,d,e,f] (c a b d e f)):OkD P w K mg base C k x st [p,q,r,s,t] (a5 c):=okd S fun ds hl=>by obtain⟨a,b,d,e,f,rfl⟩:=len5 hl;exact⟨c a b d e f,rfl,h a b d e f⟩
structure Fd (K:PySem.W.Frag)(mg:Str→Option Value)(x:Str)(ps:List Str)(st:Stmt):Prop where
 ex:∃ a fd,Fun K x x st a fd∧mg x=some (.ref a)∧Binds K fd ps []
theorem m8 {f:Addr}{fd:FuncData}{n:Nat}:FnOk P w K mg base (CXE P w) k f fd ps (spF K C n fun _=>.stuck) :=
 ⟨fun vs H Q E h=>by obtain⟨_,_,_,_,_,z⟩:=h;exact z.elim,fun A outer s H args us vs Q E _ _ _ _ h=>by obtain⟨_,_,_,_,_,z⟩:=h;exact z.elim⟩
theorem zT {i:Nat}(F:Fd K mg x ps st)(hf:mg x=some (.ref (C i))):FnV P w K mg base C 0 i fun _=>.stuck:=by
 obtain⟨a,fd,F,h,b⟩:=F.ex
 rw[hf]at h
 cases h
 exact⟨fd,ps,m8,F.kp,b,fun _ _=>rfl⟩
theorem zU {i:Nat}{fn:List D→R D}(F:Fd K mg x ps st)(hf:mg x=some (.ref (C i)))(ok:OkD P w K mg base C k x st ps fn)(hl:∀ ds,ds.length≠ps.length→fn ds=.stuck):FnV P w K mg base C (k+1) i fn:=by
 obtain⟨a,fd,F,h,b⟩:=F.ex
 rw[hf]at h
 cases h
 exact⟨fd,ps,ok F,F.kp,b,hl⟩
theorem g0 (F:Fd K mg x ps st):Fn1 P w K mg base C 0 x ps (fun _=>.stuck):=by obtain⟨a,fd,F,h,b⟩:=F.ex;exact⟨a,fd,m8,h,F.kp,b⟩
theorem g1 {fn:List D→R D}(F:Fd K mg x ps st)(ok:OkD P w K mg base C k x st ps fn):Fn1 P w K mg base C (k+1) x ps fn:=by obtain⟨a,fd,F,h,b⟩:=F.ex;exact⟨a,fd,ok F,h,F.kp,b⟩
section
variable {h:Heap}{f:Addr}{oc:Value}{od an:Option Addr}{osl:Array (Option Value)}{kV doc pm cdv ct:Value}
theorem zV (X:K.In h)(G:h.Ns mainGlobals mg)(hb:∀ (kV doc pm:Value) (an:Option Addr) (cdv ct:Value) (us:List Value),us.length=ps.length→bindArgs (PySem.W.fnOf x x (defArgs st) (defBody st) (defScope st) .none kV doc pm an cdv ct) ⟨us,[]⟩=pure (ps.zip us))
  (a:PySem.W.nsIn K mainGlobals x=some (some (.ref f))) (l:K.lookup f=some ⟨oc,od,.func (PySem.W.fnOf x x (defArgs st) (defBody st) (defScope st) .none kV doc pm an cdv ct),osl⟩) (c:PySem.W.codeIn K cdv x=true) (k:PySem.W.keepIn K (.ref f)=true):Fd K mg x ps st :=
 ⟨f,_,eS l c k,PySem.W.mg_of X G a,(eS l c k).binds hb⟩
end
theorem ln1 {us:List Value}(h:us.length=1):∃ a,us=[a]:=match us,h with | [a],_=>⟨a,rfl⟩
theorem ln2 {us:List Value}(h:us.length=2):∃ a b,us=[a,b]:=match us,h with | [a,b],_=>⟨a,b,rfl⟩
theorem ln3 {us:List Value}(h:us.length=3):∃ a b c,us=[a,b,c]:=match us,h with | [a,b,c],_=>⟨a,b,c,rfl⟩
theorem ln4 {us:List Value}(h:us.length=4):∃ a b c d,us=[a,b,c,d]:=match us,h with | [a,b,c,d],_=>⟨a,b,c,d,rfl⟩
end
abbrev Ng (K:PySem.W.Frag)(x:Str)(v:Option Value):Prop:=PySem.W.nsIn K mainGlobals x=some v
theorem qd {K:PySem.W.Frag}{C:Nat→Addr}{Z:Hp}:∀ ns:List Int,Reps K C Z (ns.map .int) (ns.map V.int)
 | []=>by rw[List.map_nil,List.map_nil,Reps]
 | i::ns=>by rw[List.map_cons,List.map_cons,Reps];exact⟨_,_,rfl,ax,qd ns⟩
section
variable {σ:Type}{X:Cx}{F:Fx}{S:SS}{J:σ→SS→Prop}
end
section
variable {X:Cx}{F:Fx}{e ey ex:Expr}{ge gy gx:SS→R D}{x:Str}{pos:Pos}{k:Nat}
end
section
variable {X:Cx}{F:Fx}{tg iter elt:Expr}{scope:Scope}{N:List Str}{own:Nat}{cap:List Nat}{pos:Pos}{git:SS→R (List D)}
end
section
variable {X:Cx}{F:Fx}{tg iter elt:Expr}{ifs:List Expr}{scope:Scope}{N:List Str}{own:Nat}{cap:List Nat}{pos:Pos}{git:SS→R (List D)}{g:D→SS→R SS}{gc:SS→R Bool}{ge:SS→R D}
end
section
variable {X:Cx}{F:Fx}{p pos p1 p2 p3:Pos}{e:Expr}{g:SS→R D}{k:Nat}
end
end FF
end
noncomputable section
namespace L2
open PySem PySem.Spec PyProof.Rows
section
variable {κ:Type}[DecidableEq κ]
def valV (kvs:List (κ×V))(k:κ):Option V:=(kvs.find? fun kv=>decide (kv.1=k)).map (·.2)
def putK (kvs:List (κ×V))(k:κ)(v:V):List (κ×V) :=
 if (kvs.any fun kv=>decide (kv.1=k))=true then kvs.map (fun kv=>if kv.1=k then (kv.1,v) else kv) else kvs++[(k,v)]
theorem fG {p:κ×V}{r:List (κ×V)}{k:κ}(e:p.1=k):valV (p::r) k=some p.2:=by simp[valV,List.find?_cons,e]
theorem fH {p:κ×V}{r:List (κ×V)}{k:κ}(e:¬ p.1=k):valV (p::r) k=valV r k:=by simp[valV,List.find?_cons,e]
theorem m9 (k:κ):∀ kvs:List (κ×V),(kvs.any fun kv=>decide (kv.1=k))=(valV kvs k).isSome
 | []=>rfl
 | p::r=>by
  rw[List.any_cons]
  by_cases e:p.1=k
  ·simp only[fG e,decide_eq_true e,Bool.true_or,Option.isSome_some]
  ·rw[fH e,decide_eq_false e,Bool.false_or];exact m9 k r
theorem il (kvs:List (κ×V))(k:κ)(v:V):(putK kvs k v).length≤kvs.length+1:=by
 unfold putK
 grind
theorem RelO.isSome_eq {o:Option V}{u:Option Value}(r:RelO o u):o.isSome=u.isSome:=by
 cases o with
 | none=>cases u with
  | none=>rfl
  | some _=>exact(show False from r).elim
 | some _=>cases u with
  | none=>exact(show False from r).elim
  | some _=>rfl
theorem KV.val {kvs:List (κ×V)}{vs:List (κ×Value)}(r:KV kvs vs)(k:κ):RelO (valV kvs k) (valueAt vs k):=by
 unfold KV at r
 induction r with
 | nil=>exact True.intro
 | @cons p q ps qs h t ih =>
  obtain⟨h1,h2⟩:=h
  by_cases e:p.1=k
  ·have e':q.1=k:=h1.symm.trans e
   have b:valueAt (q::qs) k=some q.2:=by simp[valueAt,List.find?_cons,e']
   rw[fG e,b];exact h2
  ·have e':¬ q.1=k:=fun z=>e (h1.trans z)
   have b:valueAt (q::qs) k=valueAt qs k:=by simp[valueAt,List.find?_cons,e']
   rw[fH e,b];exact ih
theorem KV.any {kvs:List (κ×V)}{vs:List (κ×Value)}(r:KV kvs vs)(k:κ):(kvs.any fun kv=>decide (kv.1=k))=vs.any fun kv=>decide (kv.1=k):=by
 unfold KV at r
 induction r with
 | nil=>rfl
 | cons h t ih=>rw[List.any_cons,List.any_cons,ih,h.1]
theorem KV.repl {kvs:List (κ×V)}{vs:List (κ×Value)}(r:KV kvs vs)(k:κ){y:V}{u:Value}(ry:RelV y u) :
  KV (kvs.map fun kv=>if kv.1=k then (kv.1,y) else kv) (vs.map fun kv=>if kv.1=k then (kv.1,u) else kv):=by
 unfold KV at r ⊢
 induction r with
 | nil=>exact .nil
 | @cons p q ps qs h t ih =>
  rw[List.map_cons,List.map_cons]
  refine .cons ?_ ih
  grind
theorem KV.put {kvs:List (κ×V)}{vs:List (κ×Value)}(r:KV kvs vs)(k:κ){y:V}{u:Value}(ry:RelV y u):KV (putK kvs k y) (stored vs k u):=by
 unfold putK stored
 rw[r.any k]
 by_cases e:(vs.any fun kv=>decide (kv.1=k))=true
 ·rw[if_pos e,if_pos e];exact r.repl k ry
 ·rw[if_neg e,if_neg e];exact Paired.snoc r ⟨rfl,ry⟩
theorem KV.length {kvs:List (κ×V)}{vs:List (κ×Value)}(r:KV kvs vs):kvs.length=vs.length:=Paired.length r
end
theorem nc {P:Program}{w:World}{k:Key}{u:Value}(r:RelV (kV k) u):(mixKind P w).is k u=true:=by
 cases k with
 | inl i=>obtain⟨t,e⟩:=(show ∃ t,u=Value.int i t from r);subst e;exact mB P w i t
 | inr x=>obtain⟨t,e⟩:=(show ∃ t,u=Value.str x t from r);subst e;exact mC P w x t
theorem kW {P:Program}{w:World}:∀ {ks:List Key} {us:List Value},Vals (ks.map kV) us→ItemsAre (mixKind P w) ks us
 | [],_,r=>by rw[List.map_nil]at r;cases r;exact .nil
 | k::ks,_,r=>by
  rw[List.map_cons]at r
  cases r with
  | cons h t=>exact .cons (nc h) (kW t)
abbrev KT (H:Hp):List (List Key×V)→List (List Key×Addr×Value)→Prop:=Paired fun p q=>p.1=q.1∧H q.2.1=some (.tup (p.1.map kV))∧RelV p.2 q.2.2
theorem KT.val {H:Hp}{kvs:List (List Key×V)}{xs:List (List Key×Addr×Value)}(r:KT H kvs xs)(k:List Key):RelO (valV kvs k) ((atKey xs k).map (·.2)):=by
 induction r with
 | nil=>exact True.intro
 | @cons p q ps qs h t ih =>
  obtain⟨h1,_,h2⟩:=h
  by_cases e:p.1=k
  ·have e':q.1=k:=h1.symm.trans e
   have b:atKey (q::qs) k=some q.2:=by simp[atKey,List.find?_cons,e']
   rw[fG e,b];exact h2
  ·have e':¬ q.1=k:=fun z=>e (h1.trans z)
   have b:atKey (q::qs) k=atKey qs k:=by simp[atKey,List.find?_cons,e']
   rw[fH e,b];exact ih
theorem KT.repl {H:Hp}{kvs:List (List Key×V)}{xs:List (List Key×Addr×Value)}(r:KT H kvs xs)(k:List Key){y:V}{u:Value}(ry:RelV y u) :
  KT H (kvs.map fun kv=>if kv.1=k then (kv.1,y) else kv) (xs.map (putAt k u)):=by
 induction r with
 | nil=>exact .nil
 | @cons p q ps qs h t ih =>
  rw[List.map_cons,List.map_cons]
  refine .cons ?_ ih
  obtain⟨h1,h2,h3⟩:=h
  unfold putAt
  by_cases e:p.1=k
  ·rw[if_pos e,if_pos (h1.symm.trans e)];exact⟨h1,h2,ry⟩
  ·rw[if_neg e,if_neg (fun z=>e (h1.trans z))];exact⟨h1,h2,h3⟩
theorem KT.put {H:Hp}{kvs:List (List Key×V)}{xs:List (List Key×Addr×Value)}(r:KT H kvs xs)(k:List Key){b:Addr}{y:V}{u:Value}(hb:H b=some (.tup (k.map kV)))(ry:RelV y u) :
  KT H (putK kvs k y) (storedH xs k b u):=by
 have e:(kvs.any fun kv=>decide (kv.1=k))=(atKey xs k).isSome:=by
  rw[m9,(r.val k).isSome_eq,Option.isSome_map]
 unfold putK storedH
 rw[e]
 by_cases q:(atKey xs k).isSome=true
 ·rw[if_pos q,if_pos q];exact r.repl k ry
 ·rw[if_neg q,if_neg q];exact Paired.snoc r ⟨rfl,hb,ry⟩
theorem KT.keeps {H H':Hp}{kvs:List (List Key×V)}{xs:List (List Key×Addr×Value)}(r:KT H kvs xs)(ht:∀ b ys,H b=some (.tup ys)→H' b=some (.tup ys)):KT H' kvs xs :=
 Paired.mapP r fun _ _ z=>⟨z.1,ht _ _ z.2.1,z.2.2⟩
section
variable {P:Program}{w:World}{H:Hp}{h:Heap}{a:Addr}
theorem xQ {u:HO}(ok:HOk P w H h)(e:Rd H a u):ObjOk P w H h a u:=e.ok ok
theorem jd {kvs:List (Key×V)}(ok:HOk P w H h)(e:Rd H a (.dK kvs)):kvs.length≤sizeLine∧(a==sysModules)=false∧∃ vs,KV kvs vs∧h.DictOf (mixKind P w) a vs :=
 show ObjOk P w H h a (.dK kvs) from xQ ok e
theorem zW {kvs:List (Key×V)}(ok:HOk P w H h)(e:H a=some (.dK kvs)):kvs.length≤sizeLine∧(a==sysModules)=false∧∃ vs,KV kvs vs∧h.DictOf (mixKind P w) a vs:=jd ok (.inl e)
theorem je {ks:List Key}(ok:HOk P w H h)(e:H a=some (.tup (ks.map kV))):(tupleKind (mixKind P w)).is h ks a:=by
 obtain⟨_,its,r,o,h1,h2,_,n,h3⟩:=(show ObjOk P w H h a (.tup (ks.map kV)) from ok a _ e)
 exact⟨o,its.toArray,n,h1,h2,h3,by simpa using kW r⟩
theorem ng {kvs:List (List Key×V)}(ok:HOk P w H h)(e:Rd H a (.dT kvs)):kvs.length≤sizeLine∧(a==sysModules)=false ∧
  ∃ xs,KT H kvs xs∧h.DictOfH (tupleKind (mixKind P w)) a xs:=by
 obtain⟨z,y,xs,r,o,es,ep,h1,h2,h3,h4,h5⟩:=(show ObjOk P w H h a (.dT kvs) from xQ ok e)
 refine⟨z,y,xs,r,o,es,ep,h1,h2,h3,h4,fun x hx=>?_,h5⟩
 have all:∀ {l:List (List Key×V)} {m:List (List Key×Addr×Value)},KT H l m→∀ x∈m,(tupleKind (mixKind P w)).is h x.1 x.2.1:=by
  intro l m q
  induction q with
  | nil=>intro x hx;exact nomatch hx
  | @cons p q ps qs hq t ih =>
   intro x hx
   rcases List.mem_cons.mp hx with e | hx
   ·subst e
    exact je ok (by grind)
   ·exact ih x hx
 exact all r x hx
theorem zX {kvs:List (List Key×V)}(ok:HOk P w H h)(e:H a=some (.dT kvs)):kvs.length≤sizeLine∧(a==sysModules)=false ∧
  ∃ xs,KT H kvs xs∧h.DictOfH (tupleKind (mixKind P w)) a xs:=ng ok (.inl e)
end
def DGet (H:Hp)(a:Addr)(y:V)(r:Option V):Prop :=
 (∃ kvs k,Rd H a (.dK kvs)∧y=kV k∧r=valV kvs k)∨∃ kvs k b,Rd H a (.dT kvs)∧y=.ref b∧H b=some (.tup (k.map kV))∧r=valV kvs k
def DPut (H:Hp)(a:Addr)(y v:V)(H':Hp):Prop :=
 (∃ kvs k,H a=some (.dK kvs)∧y=kV k∧kvs.length < sizeLine∧H'=upd H a (.dK (putK kvs k v))) ∨
 ∃ kvs k b,H a=some (.dT kvs)∧y=.ref b∧H b=some (.tup (k.map kV))∧kvs.length < sizeLine∧H'=upd H a (.dT (putK kvs k v))
theorem DGet.k {H:Hp}{a:Addr}{kvs:List (Key×V)}{k:Key}(e:H a=some (.dK kvs)):DGet H a (kV k) (valV kvs k):=.inl ⟨kvs,k,.inl e,rfl,rfl⟩
theorem DPut.k {H:Hp}{a:Addr}{kvs:List (Key×V)}{k:Key}{v:V}(e:H a=some (.dK kvs))(hl:kvs.length < sizeLine):DPut H a (kV k) v (upd H a (.dK (putK kvs k v))):=.inl ⟨kvs,k,e,rfl,hl,rfl⟩
section
variable {X:Cx}{pins:List (Addr×Obj)}{σ:St}{H:Hp}{s:Shared}{a:Addr}{y v:V}{u r:Value}{o:Option V}{A:Around}{E:Value→Shared→Prop}
theorem Inv.big (I:Inv X pins σ H s):sysModules < s.heap.objs.size:=by
 have h:=(I.mod.glob.keeps I.bk).lt
 exact Nat.lt_trans (by decide) h
theorem rP {Q:Value→Shared→Prop}(hu:A.units+1 < cLine)(I:Inv X pins σ H s)(g:DGet H a y (some v))(ry:RelV y u)(h:∀ w' s',Inv X pins σ H s'→RelV v w'→Q w' s') :
  wpAny (model X.prog X.w) A (getItem (.ref a) u) Q E s:=by
 rcases g with ⟨kvs,k,e,ey,l⟩ | ⟨kvs,k,b,e,ey,eb,l⟩
 ·subst ey
  obtain⟨z,hd,vs,rel,dd⟩:=jd I.hok e
  obtain⟨w',hw,rw'⟩:=RelO.some_of (by rw[l];exact rel.val k)
  exact wpAny_getItem_of (nc ry) dd.mapOf hw (h w' _ (I.tok _) rw')
 ·subst ey
  cases (show u=Value.ref b from ry)
  obtain⟨z,hd,xs,rel,dd⟩:=ng I.hok e
  obtain⟨w',hw,rw'⟩:=RelO.some_of (by rw[l];exact rel.val k)
  obtain⟨p,hp,hp2⟩:=Option.map_eq_some_iff.mp hw
  refine wpAny_getItem_heap (tupleKind_room_in1 hu) (je I.hok eb) dd hp ?_
  rw[hp2]
  exact h w' _ (I.tok _) rw'
theorem d_in {Q:Value→Shared→Prop}(hu:A.units+1 < cLine)(I:Inv X pins σ H s)(g:DGet H a y o)(ry:RelV y u)(h:∀ s',Inv X pins σ H s'→Q (.bool o.isSome) s') :
  wpAny (model X.prog X.w) A (compareOp .In u (.ref a)) Q E s:=by
 rcases g with ⟨kvs,k,e,ey,l⟩ | ⟨kvs,k,b,e,ey,eb,l⟩
 ·subst ey
  obtain⟨z,hd,vs,rel,dd⟩:=jd I.hok e
  refine wpAny_in_of (nc ry) hd dd.mapOf ?_
  rw[← (rel.val k).isSome_eq,← l]
  exact h _ (I.tok _)
 ·subst ey
  cases (show u=Value.ref b from ry)
  obtain⟨z,hd,xs,rel,dd⟩:=ng I.hok e
  refine wpAny_in_heap (tupleKind_room_in1 hu) (je I.hok eb) hd dd ?_
  have q:=(rel.val k).isSome_eq
  rw[Option.isSome_map]at q
  rw[← q,← l]
  exact h _ (I.tok _)
theorem wx {Q:Value→Shared→Prop}(hu:A.units+1 < cLine)(I:Inv X pins σ H s)(g:DGet H a y o)(ry:RelV y u)(h:∀ s',Inv X pins σ H s'→Q (.bool (!o.isSome)) s') :
  wpAny (model X.prog X.w) A (compareOp .NotIn u (.ref a)) Q E s:=by
 rcases g with ⟨kvs,k,e,ey,l⟩ | ⟨kvs,k,b,e,ey,eb,l⟩
 ·subst ey
  obtain⟨z,hd,vs,rel,dd⟩:=jd I.hok e
  refine wpAny_notIn_of (nc ry) hd dd.mapOf ?_
  rw[← (rel.val k).isSome_eq,← l]
  exact h _ (I.tok _)
 ·subst ey
  cases (show u=Value.ref b from ry)
  obtain⟨z,hd,xs,rel,dd⟩:=ng I.hok e
  refine wpAny_notIn_heap (tupleKind_room_in1 hu) (je I.hok eb) hd dd ?_
  have q:=(rel.val k).isSome_eq
  rw[Option.isSome_map]at q
  rw[← q,← l]
  exact h _ (I.tok _)
theorem lU {h':Heap}{t':Nat}{ob:HO}(I:Inv X pins σ H s)(mu:Mut (H a))(hs:Heap.SameBut a s.heap h')(he:∃ q,h'.get? a=some q)(new:ObjOk X.prog X.w (upd H a ob) h' a ob) :
  Inv X pins σ (upd H a ob) { s with heap:=h',toks:=t' } :=
 I.write mu (.inl rfl) (fun b q hb z=>(hs.2 b hb).trans z) he new
theorem yV {P:Program}{w:World}{H':Hp}{h':Heap}{kvs:List (Key×V)}{vs:List (Key×Value)}(z:kvs.length≤sizeLine)(hd:(a==sysModules)=false)(rel:KV kvs vs)(dd:h'.DictOf (mixKind P w) a vs) :
  ObjOk P w H' h' a (.dK kvs):=⟨z,hd,vs,rel,dd⟩
theorem rQ {H':Hp}{Q:Unit→Shared→Prop}(hu:A.units+1 < cLine)(I:Inv X pins σ H s)(g:DPut H a y v H')(ry:RelV y u)(rv:RelV v r)(h:∀ s',Inv X pins σ H' s'→Q () s') :
  wpAny (model X.prog X.w) A (setItem (.ref a) u r) Q E s:=by
 rcases g with ⟨kvs,k,e,ey,l,eH⟩ | ⟨kvs,k,b,e,ey,eb,l,eH⟩
 ·subst ey eH
  obtain⟨z,hd,vs,rel,dd⟩:=zW I.hok e
  have hz:vs.length≤sizeLine:=by rw[← rel.length];exact z
  have hl:(putK kvs k v).length≤sizeLine:=by have:=il kvs k v;omega
  refine wpAny_setItem_pairs (nc ry) dd fun h' dd' hs=>h _ ?_
  have he:∃ q,h'.get? a=some q:=let ⟨q,_,_,hq,_⟩:=dd';⟨q,hq⟩
  exact lU I (by rw[e];exact True.intro) hs he (yV hl hd (rel.put k rv) dd')
 ·subst ey eH
  cases (show u=Value.ref b from ry)
  obtain⟨z,hd,xs,rel,dd⟩:=zX I.hok e
  have hz:xs.length≤sizeLine:=by rw[← Paired.length rel];exact z
  have hl:(putK kvs k v).length≤sizeLine:=by have:=il kvs k v;omega
  refine wpAny_setItem_heap (tupleKind_room_in1 hu) (je I.hok eb) dd fun h' dd' hs=>h _ ?_
  obtain⟨q,es,ep,hq,h2,h3,h4,_,h5⟩:=dd'
  refine lU I (by rw[e];exact True.intro) hs ⟨q,hq⟩ ⟨hl,hd,_,(rel.put k eb rv).keeps fun c ys ec=>?_,q,es,ep,hq,h2,h3,h4,h5⟩
  rw[ac (zq ec e (fun z=>nomatch z))]
  exact ec
end
section
variable {X:Cx}{pins:List (Addr×Obj)}{σ:St}{H:Hp}{s:Shared}{a:Addr}{kvs:List (Key×V)}{k:Key}{u:Value}{A:Around}{E:Value→Shared→Prop}
end
def NoSl (i:Expr):Prop:=∀ ov iv,subscripted i false ov iv=operate [ov,iv] (getItem ov iv)
theorem wy {prog:Program}{w:World}{A:Around}{E:Value→Shared→Prop}{s:Shared}{env:Env}{value slice:Expr}{pos:Pos}{T id:String}{Q:Value→Shared→Prop}
  (hl:typeLookup (.type T) "__getitem__"=pure (some (.builtin id))) (hs:NoSl slice)
  (h:wpAny (model prog w) A (eval value env) (fun o s₁=>wpAny (model prog w) A (eval slice env) (fun i s₂=>s₂.TypeIs o T∧wpAny (model prog w) A (getItem o i) Q E s₂) E s₁) E s) :
  wpAny (model prog w) A (eval (.Subscript value slice pos) env) Q E s:=by
 refine Subscript_ (wpAny_mono h (fun o s₁ h₁=>wpAny_mono h₁ (fun i s₂ h₂=>?_) fun _ _ x=>x) fun _ _ x=>x)
 obtain⟨hT,h₂⟩:=h₂
 unfold subscriptTail
 refine wpAny_bind ?_
 rw[getitemInPython_of_ne hT.not_modules]
 refine wpAny_bind (wpAny_specialOf hT hl ?_)
 have fin:wpAny (model prog w) A (subscripted slice false o i) (fun r s₃=>wpAny (model prog w) A (letTemporaryGo value o r >>= fun _=>pure r) Q E s₃) E s₂:=by
  rw[hs o i]
  exact wpAny_operating (wpAny_mono h₂ (fun r s₃ h₃=>wpAny_bind (wpAny_letTemporaryGo (wpAny_pure h₃))) fun _ _ x=>x)
 first
  | exact wpAny_pure (wpAny_bind fin)
  | exact wpAny_bind (wpAny_pure (wpAny_bind fin))
  | exact wpAny_bind fin
theorem nh {X:Cx}{pins:List (Addr×Obj)}{σ:St}{H:Hp}{s:Shared}{a:Addr}{y:V}{o:Option V}(I:Inv X pins σ H s)(g:DGet H a y o):s.TypeIs (.ref a) "dict" := by
 rcases g with ⟨kvs,k,e,_,_⟩ | ⟨kvs,k,b,e,_,_,_⟩
 ·obtain⟨_,_,vs,_,dd⟩:=jd I.hok e
  exact dd.typeIs
 ·obtain⟨_,_,xs,_,dd⟩:=ng I.hok e
  exact dd.typeIs
def tDGet (td ty:TE):TE:=fun σ H Q=>td σ H fun x H1=>ty σ H1 fun y H2=>∃ a v,x=.ref a∧DGet H2 a y (some v)∧Q v H2
def tDIn (ty td:TE):TE:=fun σ H Q=>ty σ H fun y H1=>td σ H1 fun x H2=>∃ a o,x=.ref a∧DGet H2 a y o∧Q (.bl o.isSome) H2
def tDNotIn (ty td:TE):TE:=fun σ H Q=>ty σ H fun y H1=>td σ H1 fun x H2=>∃ a o,x=.ref a∧DGet H2 a y o∧Q (.bl (!o.isSome)) H2
def sDPut (td ty tv:TE):TS:=fun D σ H=>tv σ H fun v H1=>td σ H1 fun x H2=>ty σ H2 fun y H3=>∃ a H4,x=.ref a∧DPut H3 a y v H4∧D.nx σ H4
section
variable {X:Cx}{o i e value:Expr}{pos pos' tpos:Pos}{td ty tv:TE}
theorem qf (hu:X.A.units+1 < cLine)(ho:PE X o td)(hi:PE X i ty)(hs:NoSl i):PE X (.Subscript o i pos) (tDGet td ty):=by
 intro pins s σ H Q I h
 refine wy PySem.F.slot_dict_getitem.lookup hs (thn (ho pins s σ H _ I h) fun u s1 ⟨x,H1,I1,rx,q1⟩=>thn (hi pins s1 σ H1 _ I1 q1) fun iv s2 ⟨y,H2,I2,ry,a,v,ex,g,q2⟩=>?_)
 subst ex
 obtain rfl:u=Value.ref a:=rx
 exact⟨nh I2 g,rP hu I2 g ry fun w' s3 I3 rw'=>⟨v,H2,I3,rw',q2⟩⟩
theorem yW (hu:X.A.units+1 < cLine)(hi:PE X i ty)(ho:PE X o td):PC X .In i o (tDIn ty td):=by
 intro pins s σ H Q I h
 refine thn (hi pins s σ H _ I h) fun iv s1 ⟨y,H1,I1,ry,q1⟩=>thn (ho pins s1 σ H1 _ I1 q1) fun u s2 ⟨x,H2,I2,rx,a,ov,ex,g,q2⟩=>?_
 subst ex
 obtain rfl:u=Value.ref a:=rx
 exact d_in hu I2 g ry fun s3 I3=>⟨.bl ov.isSome,H2,I3,rfl,q2⟩
theorem rR (hu:X.A.units+1 < cLine)(hi:PE X i ty)(ho:PE X o td):PC X .NotIn i o (tDNotIn ty td):=by
 intro pins s σ H Q I h
 refine thn (hi pins s σ H _ I h) fun iv s1 ⟨y,H1,I1,ry,q1⟩=>thn (ho pins s1 σ H1 _ I1 q1) fun u s2 ⟨x,H2,I2,rx,a,ov,ex,g,q2⟩=>?_
 subst ex
 obtain rfl:u=Value.ref a:=rx
 exact wx hu I2 g ry fun s3 I3=>⟨.bl (!ov.isSome),H2,I3,rfl,q2⟩
theorem wA (hu:X.A.units+1 < cLine)(ho:PE X o td)(hi:PE X i ty)(hv:PE X value tv)(hs:swapsWith value (some (.Subscript o i pos')) pos.line X.env=pure false) :
  PS X (.Assign [.Subscript o i pos'] value pos) (sDPut td ty tv):=by
 intro pins s σ H D I h
 refine wpAny_Assign_Subscript (thn (hv pins s σ H _ I h) fun r s1 ⟨v,H1,I1,rv,q1⟩=>thn (ho pins s1 σ H1 _ I1 q1) fun u s2 ⟨x,H2,I2,rx,q2⟩=>thn (hi pins s2 σ H2 _ I2 q2) fun iv s3 ⟨y,H3,I3,ry,a,H4,ex,g,q3⟩=>?_) hs
 subst ex
 obtain rfl:u=Value.ref a:=rx
 exact rQ hu I3 g ry rv fun s4 I4=>⟨σ,H4,I4,q3⟩
end
theorem ui {P:Program}{w:World}{H:Hp}(h:Heap)(hb:sysModules < h.objs.size):ObjOk P w H (h.push { cls:=.type "dict",data:=.dict #[] }) h.objs.size (.dK []) :=
 ⟨Nat.zero_le _,beq_eq_false_iff_ne.mpr (Ne.symm (Nat.ne_of_lt hb)),[],.nil,Heap.DictOf.new h⟩
section
variable {X:Cx}{pos:Pos}
end
section
variable {X:Cx}{pins:List (Addr×Obj)}{σ:St}{H:Hp}{s:Shared}{a:Addr}{y d:V}{u r:Value}{o:Option V}{A:Around}{E:Value→Shared→Prop}
end
section
variable {X:Cx}{o e f:Expr}{apos cpos:Pos}{td ty tx:TE}
end
section
variable {X:Cx}{pins:List (Addr×Obj)}{σ:St}{H:Hp}{s:Shared}{a:Addr}{kvs:List (Key×V)}{A:Around}{E:Value→Shared→Prop}
end
section
variable {X:Cx}{pins:List (Addr×Obj)}{σ:St}{H:Hp}{s:Shared}{a:Addr}{y:V}{u:Value}{A:Around}{E:Value→Shared→Prop}
end
end L2
end
noncomputable section
namespace FF
open PySem PySem.Spec PyProof.Rows L2
def keyOf:D→Option Key
 | .int i=>some (.inl i)
 | .str s=>some (.inr s)
 | _=>none
def dicGet {κ:Type}[DecidableEq κ](m:List (κ×D))(k:κ):Option D:=(m.find? fun p=>decide (p.1=k)).map (·.2)
def dicPut {κ:Type}[DecidableEq κ](m:List (κ×D))(k:κ)(d:D):List (κ×D):=if (m.any fun p=>decide (p.1=k))=true then m.map (fun p=>if p.1=k then (p.1,d) else p) else m++[(k,d)]
def oDIx (m:List (Key×D))(k:D):R D:=match keyOf k with
 | some k=>match dicGet m k with
  | some d=>.ok d
  | none=>.stuck
 | none=>.stuck
def oDSt (m:List (Key×D))(k d:D):R (List (Key×D)):=match keyOf k with
 | some k=>if m.length < 1000000 then .ok (dicPut m k d) else .stuck
 | none=>.stuck
section
variable {κ:Type}{F:Fx}{Z:Hp}{m:List (κ×D)}{kvs:List (κ×V)}{k:κ}{d:D}{v:V}
theorem Pairs.cons (r:Rep F.K F.C Z d v)(h:Pairs F Z m kvs):Pairs F Z ((k,d)::m) ((k,v)::kvs) :=
 ⟨by rw[List.map_cons,List.map_cons,h.1],by rw[List.map_cons,List.map_cons,Reps];exact⟨_,_,rfl,r,h.2⟩⟩
theorem Pairs.nil:Pairs F Z ([]:List (κ×D)) []:=⟨rfl,by rw[List.map_nil,Reps];rfl⟩
theorem Pairs.inv (h:Pairs F Z ((k,d)::m) kvs):∃ v r,kvs=(k,v)::r∧Rep F.K F.C Z d v∧Pairs F Z m r:=by
 cases kvs with
 | nil=>have:=h.1;cases this
 | cons p r =>
  obtain⟨k',v⟩:=p
  obtain⟨h1,h2⟩:=h
  rw[List.map_cons,List.map_cons]at h1
  injection h1 with h1 h3
  rw[List.map_cons,List.map_cons,Reps]at h2
  obtain⟨v',r',e,q1,q2⟩:=h2
  injection e with e1 e2
  subst e1 e2
  cases (show k'=k from h1)
  exact⟨v,r,rfl,q1,h3,q2⟩
theorem Pairs.inv0 (h:Pairs F Z ([]:List (κ×D)) kvs):kvs=[]:=by
 cases kvs with
 | nil=>rfl
 | cons p r=>have:=h.1;cases this
theorem Pairs.mono {Z':Hp}(h:Pairs F Z m kvs)(s:Same Z Z'):Pairs F Z' m kvs:=⟨h.1,h.2.mono s⟩
theorem Pairs.length (h:Pairs F Z m kvs):kvs.length=m.length:=by have:=congrArg List.length h.1;simpa using this
theorem Pairs.append {m':List (κ×D)}{r:List (κ×V)}:∀ {m:List (κ×D)} {kvs:List (κ×V)},Pairs F Z m kvs→Pairs F Z m' r→Pairs F Z (m++m') (kvs++r)
 | [],kvs,h,h'=>by rw[h.inv0];exact h'
 | (k,d)::m,kvs,h,h'=>by
  obtain⟨v,q,rfl,h1,h2⟩:=h.inv
  exact(h2.append h').cons h1
variable [DecidableEq κ]
theorem Pairs.get:∀ {m:List (κ×D)} {kvs:List (κ×V)},Pairs F Z m kvs→dicGet m k=some d→∃ v,valV kvs k=some v∧Rep F.K F.C Z d v
 | [],kvs,h,e=>nomatch e
 | (k',d')::m,kvs,h,e=>by
  obtain⟨v,q,rfl,h1,h2⟩:=h.inv
  unfold dicGet at e
  rw[List.find?_cons]at e
  by_cases hk:k'=k
  ·rw[decide_eq_true (show (k',d').1=k from hk)]at e
   cases e
   exact⟨v,fG hk,h1⟩
  ·rw[decide_eq_false (show ¬ (k',d').1=k from hk)]at e
   obtain⟨u,e1,e2⟩:=h2.get e
   exact⟨u,by rw[fH hk];exact e1,e2⟩
theorem Pairs.any:∀ {m:List (κ×D)} {kvs:List (κ×V)},Pairs F Z m kvs→(kvs.any fun kv=>decide (kv.1=k))=(m.any fun p=>decide (p.1=k))
 | [],kvs,h=>by rw[h.inv0];rfl
 | (k',d')::m,kvs,h=>by
  obtain⟨v,q,rfl,h1,h2⟩:=h.inv
  rw[List.any_cons,List.any_cons,h2.any]
theorem Pairs.upd (r:Rep F.K F.C Z d v):∀ {m:List (κ×D)} {kvs:List (κ×V)},Pairs F Z m kvs→Pairs F Z (m.map fun p=>if p.1=k then (p.1,d) else p) (kvs.map fun kv=>if kv.1=k then (kv.1,v) else kv)
 | [],kvs,h=>by rw[h.inv0];exact Pairs.nil
 | (k',d')::m,kvs,h=>by
  obtain⟨u,q,rfl,h1,h2⟩:=h.inv
  rw[List.map_cons,List.map_cons]
  by_cases hk:k'=k
  ·rw[if_pos (show (k',d').1=k from hk),if_pos (show (k',u).1=k from hk)]
   exact(h2.upd r).cons r
  ·rw[if_neg (show ¬ (k',d').1=k from hk),if_neg (show ¬ (k',u).1=k from hk)]
   exact(h2.upd r).cons h1
theorem Pairs.put (r:Rep F.K F.C Z d v)(h:Pairs F Z m kvs):Pairs F Z (dicPut m k d) (putK kvs k v):=by
 unfold dicPut putK
 rw[h.any]
 split
 ·exact h.upd r
 ·exact h.append (Pairs.nil.cons r)
end
section
variable {F:Fx}{H Z:Hp}{S:SS}{σ:St}
theorem StOk.dic (h:StOk F H Z S σ)(i:Nat)(m:List (Key×D))(e:S[i]?=some (some (.dic m))):∃ a kvs,σ[i]?=some (some (.ref a))∧H a=some (.dK kvs)∧Pairs F Z m kvs:=by
 obtain⟨v,A,e1,⟨a,kvs,rfl,rfl,e2,r⟩,_⟩:=h.sl i _ e
 grind
theorem cS {K:PySem.W.Frag}{C:Nat→Addr}{d:D}{k:Key}{y:V}(e:keyOf d=some k)(r:Rep K C Z d y):y=kV k:=by
 cases d with
 | int i=>cases e;rw[Rep]at r;exact r
 | str s=>cases e;rw[Rep]at r;exact r
 | _=>cases e
end
def eDicIx (i:Nat)(g:SS→R D):SS→R D:=fun S=>match S[i]? with
 | some (some (.dic m))=>(g S).bind fun k=>oDIx m k
 | _=>.stuck
def sDicSt (i:Nat)(gi ge:SS→R D):SS→O:=fun S=>match S[i]? with
 | some (some (.dic m))=>rO (((ge S).bind fun v=>(gi S).bind fun k=>oDSt m k v).bind fun m'=>.ok (.nx (S.set i (some (.dic m')))))
 | _=>.stuck
section
variable {X:Cx}{F:Fx}{pos p:Pos}{k:Nat}{g ge:SS→R D}{e ei:Expr}{x:Str}
theorem zY (i:Nat){p0:Pos}(bx:BX X F k)(he:FE X F e g)(hs:NoSl e:=by intro _ _;rfl)(hi:X.N[i]?=some x:=by rfl)(hv:Vis X.env.scope x:=by first | exact Or.inl rfl | exact Or.inr (Or.inl rfl) | exact Or.inr (Or.inr rfl))(hd:(x==("__debug__":Str))=false:=by decide)
  (hcd:(x==("__classdict__":Str))=false:=by decide):FE X F (.Subscript (.Name x p0) e pos) (eDicIx i g) :=
 (qf (by have:=bx.room.un;omega) (cG hi hv hd hcd) he hs).weak fun σ H Q ⟨Z,S,ok,w⟩=>by
  unfold eDicIx at w
  split at w
  ·rename_i m e0
   obtain⟨a,kvs,e1,e2,r⟩:=ok.dic i m e0
   refine⟨.ref a,e1,ah ok w fun d y H1 Z1 ok1 x1 ry w1=>?_⟩
   unfold oDIx at w1
   split at w1
   ·rename_i kk ek
    split at w1
    ·rename_i d' ed
     obtain⟨v,f1,f2⟩:=(r.mono x1.z).get ed
     rw[cS ek ry]
     refine⟨a,v,rfl,?_,WG.now w1 ok1.sub v f2⟩
     rw[← f1]
     exact DGet.k (x1.same _ _ e2)
    ·exact w1.elim
   ·exact w1.elim
  ·exact w.elim
theorem uj (i:Nat){p0 pos':Pos}(bx:BX X F k)(he:FE X F e ge)(hix:FE X F ei g)(hi:X.N[i]?=some x:=by rfl)(hv:Vis X.env.scope x:=by first | exact Or.inl rfl | exact Or.inr (Or.inl rfl) | exact Or.inr (Or.inr rfl))(hd:(x==("__debug__":Str))=false:=by decide)
  (hcd:(x==("__classdict__":Str))=false:=by decide) (hs:swapsWith e (some (.Subscript (.Name x p0) ei pos')) pos.line X.env=pure false:=by rfl) :
  FS X F (.Assign [.Subscript (.Name x p0) ei pos'] e pos) (sDicSt i g ge) :=
 (wA (by have:=bx.room.un;omega) (cG hi hv hd hcd) hix he hs).weak fun D σ H ⟨Z,S,ok,w⟩=>by
  unfold sDicSt at w
  split at w
  ·rename_i m e0
   have w0:=WO.wg ok w
   rw[R.bind_assoc]at w0
   refine ah ok w0 fun d v H1 Z1 ok1 x1 rv w1=>?_
   obtain⟨a,kvs,e1,e2,r⟩:=ok1.dic i m e0
   rw[R.bind_assoc]at w1
   refine⟨.ref a,e1,ah ok1 w1 fun dk y H2 Z2 ok2 x2 ry w2=>?_⟩
   unfold oDSt at w2
   split at w2
   ·rename_i kk ek
    split at w2
    ·rename_i hl
     rw[cS ek ry]
     have e3:=x2.same _ _ e2
     have r2:=r.mono x2.z
     refine⟨a,_,rfl,DPut.k e3 (by rw[r2.length,sizeLine_eq];omega),?_⟩
     have w3:=WG.now w2 ok2.sub
     exact w3 σ _ Z2 (Same.refl _) (ok2.rewr e0 e1 ⟨a,kvs,rfl,rfl,e3,r2⟩ ⟨a,_,rfl,rfl,af,r2.put (rv.mono x2.z)⟩ fun b hb=>ac (fun z=>hb (by rw[z];exact List.mem_singleton.mpr rfl)))
    ·exact w2.elim
   ·exact w2.elim
  ·exact w.elim
end
abbrev dc (m:List (Key×D)):Option Sl:=some (.dic m)
section
variable {X:Cx}{F:Fx}{pos p:Pos}{keys:List (Option Expr)}{values:List Expr}{ks:List Key}{gs:List (SS→R D)}{g:SS→R D}{e:Expr}{x:Str}
end
def insS (i:Int):List Int→List Int
 | []=>[i]
 | a::r=>if i≤a then i::a::r else a::insS i r
def sortI (is:List Int):List Int:=is.foldr insS []
theorem gP (i:Int):∀ l:List Int,(insS i l).Perm (i::l)
 | []=>.refl _
 | a::r=>by
  unfold insS
  split
  ·exact .refl _
  ·exact((gP i r).cons a).trans (.swap i a r)
theorem bi:∀ is:List Int,(sortI is).Perm is
 | []=>.refl _
 | i::is=>(gP i _).trans ((bi is).cons i)
theorem qh (i:Int):∀ l:List Int,l.Pairwise (·≤·)→(insS i l).Pairwise (·≤·)
 | [],_=>by unfold insS;exact List.pairwise_singleton _ _
 | a::r,h=>by
  unfold insS
  have h1:=List.pairwise_cons.mp h
  split
  ·rename_i q
   exact List.pairwise_cons.mpr ⟨fun b hb=>by rcases List.mem_cons.mp hb with rfl | hb;exact q;exact Int.le_trans q (h1.1 b hb),h⟩
  ·rename_i q
   exact List.pairwise_cons.mpr ⟨fun b hb=>by rcases List.mem_cons.mp ((gP i r).subset hb) with rfl | hb;omega;exact h1.1 b hb,qh i r h1.2⟩
theorem fI:∀ is:List Int,(sortI is).Pairwise (·≤·)
 | []=>.nil
 | i::is=>qh i _ (fI is)
theorem eU:∀ {a b:List Int},a.Perm b→a.Pairwise (·≤·)→b.Pairwise (·≤·)→a=b
 | [],b,p,_,_=>(List.nil_perm.mp p).symm
 | x::xs,[],p,_,_=>nomatch p.length_eq
 | x::xs,y::ys,p,ha,hb=>by
  have h1:=List.pairwise_cons.mp ha
  have h2:=List.pairwise_cons.mp hb
  have e:x=y:=by
   have m1:x∈y::ys:=p.subset List.mem_cons_self
   have m2:y∈x::xs:=p.symm.subset List.mem_cons_self
   rcases List.mem_cons.mp m1 with e | m1
   ·exact e
   ·rcases List.mem_cons.mp m2 with e | m2
    ·exact e.symm
    ·have a1:=h1.1 y m2
     have a2:=h2.1 x m1
     omega
  subst e
  rw[eU (List.Perm.cons_inv p) h1.2 h2.2]
section
variable {X:Cx}{F:Fx}{p pos:Pos}{e:Expr}{gs:SS→R (List D)}{k:Nat}
theorem jf {F:Fx}{Z:Hp}:∀ is:List Int,Reps F.K F.C Z (is.map .int) (is.map V.int)
 | []=>Reps.nil
 | i::is=>Reps.cons ax (jf is)
end
section
variable {X:Cx}{F:Fx}{pos p:Pos}{k:Nat}{ga gb:SS→R D}{a b:Expr}{x:Str}
end
section
variable {prog:Program}{w:World}{A:Around}{E:Value→Shared→Prop}{s:Shared}
end
section
variable {X:Cx}{F:Fx}{e st:Expr}{te:TE}{g:SS→R D}{pos p2:Pos}
end
end FF
end
noncomputable section
namespace HT
open PySem PyProof.Rows
section
open PySem.SeqAt
open PySem.AutoSeq1 (wpAny_loadPart')
open PySem.MeetsSeq PySem.MeetsSeq2 PySem.MeetsSeq3
end
section
variable {prog:Program}{w:World}{A:Around}{E:Value→Shared→Prop}{s:Shared}
end
end HT
end
noncomputable section
namespace FF
open PySem PySem.Spec PyProof.Rows L2
section
variable {X:Cx}{F:Fx}{a b:Expr}{ga gb:SS→R D}{pos:Pos}{k:Nat}
end
section
variable {M:Model}{A:Around}{E:Value→Shared→Prop}{s:Shared}
end
section
variable {P:Program}{w:World}{K:PySem.W.Frag}{mg:Str→Option Value}{base:Heap}{N:List Str}{qual:Str}{scope:Scope}{f:Addr}{cd:Value}{A:Around}{outer:List Env}{s0:Shared}{H0:Hp}{E:XK}
end
section
variable {X:Cx}{E:XK}{scope:Scope}{cl:List (Str×Addr)}{C:Addr}{s:Shared}{H:Hp}{fp:List Addr}{N:List Str}{pins:List (Addr×Obj)}{σ:L2.St}{H1:Hp}{s1:Shared}
end
section
variable {X:Cx}{E:XK}{elt tg iter:Expr}{scope:Scope}{N:List Str}{own:Nat}{cap:List Nat}{pos:Pos}{wi:TI}{g:TG}{tc:TT}{te:TE}
set_option maxHeartbeats 4000000 in
end
section
variable {X:Cx}{F:Fx}{tg iter elt:Expr}{scope:Scope}{N:List Str}{own:Nat}{cap:List Nat}{pos:Pos}{git:SS→R (List D)}{g:D→SS→R SS}{ge:SS→R D}
end
section
variable {X:Cx}{F:Fx}{p pos:Pos}{e:Expr}{kws:List Keyword}{gs:SS→R (List D)}{k:Nat}
end
section
variable {X:Cx}{F:Fx}{tg:Expr}{gs:SS→R (List D)}
end
section
variable {prog:Program}{w:World}{A:Around}{E:Value→Shared→Prop}{R:Result→Shared→Prop}{h₀:Heap}{l I S:Addr}{its:List Value}{ks:Nat→List Int}{s0:Shared}
end
section
variable {X:Cx}{F:Fx}{p pos:Pos}{e:Expr}{gs:SS→R (List D)}{k:Nat}
end
section
variable {X:Cx}{F:Fx}{p pos:Pos}{e:Expr}{gs:SS→R (List D)}{k:Nat}
end
def Rise (xs:Array Nat):Prop:=xs.toList.Pairwise (· < ·)
theorem iH {xs:Array Nat}{k d:Nat}(h:k < xs.size):xs.getD k d=xs[k]:=by simp[Array.getD,h]
theorem iI {xs:Array Nat}(r:Rise xs){i j:Nat}(hij:i < j)(hj:j < xs.size):xs[i]'(by omega) < xs[j]:=by
 have:=List.pairwise_iff_getElem.mp r i j (by simpa using (by omega:i < xs.size)) (by simpa using hj) hij
 simpa using this
theorem jg {xs:Array Nat}(r:Rise xs)(j:Nat):∀ (fuel lo hi:Nat),hi - lo≤fuel→lo≤hi→hi≤xs.size→(∀ k (h:k < xs.size),k < lo→xs[k] < j)→(∀ k (h:k < xs.size),hi≤k→j≤xs[k]) →
  (∀ k (h:k < xs.size),k < SetTable.below.go xs j fuel lo hi→xs[k] < j)∧(∀ k (h:k < xs.size),SetTable.below.go xs j fuel lo hi≤k→j≤xs[k])∧SetTable.below.go xs j fuel lo hi≤xs.size
 | 0,lo,hi,hf,h1,h2,a,b=>by
  have:lo=hi:=by omega
  subst this
  exact⟨a,b,h2⟩
 | fuel+1,lo,hi,hf,h1,h2,a,b=>by
  unfold SetTable.below.go
  by_cases h:lo < hi
  ·rw[if_pos h]
   dsimp only
   have hm:(lo+hi)/2 < xs.size:=by omega
   by_cases c:xs.getD ((lo+hi)/2) j < j
   ·rw[if_pos c]
    rw[iH hm]at c
    refine jg r j fuel _ hi (by omega) (by omega) h2 (fun k hk hkl=>?_) b
    by_cases e:k=(lo+hi)/2
    ·subst e;exact c
    ·exact Nat.lt_trans (iI r (show k < (lo+hi)/2 by omega) hm) c
   ·rw[if_neg c]
    rw[iH hm]at c
    refine jg r j fuel lo _ (by omega) (by omega) (by omega) a (fun k hk hkl=>?_)
    by_cases e:k=(lo+hi)/2
    ·subst e;omega
    ·have:=iI r (show (lo+hi)/2 < k by omega) hk;omega
  ·rw[if_neg h]
   have:lo=hi:=by omega
   subst this
   exact⟨a,b,h2⟩
theorem jh {xs:Array Nat}(r:Rise xs)(j:Nat):(∀ k (h:k < xs.size),k < SetTable.below xs j→xs[k] < j)∧(∀ k (h:k < xs.size),SetTable.below xs j≤k→j≤xs[k])∧SetTable.below xs j≤xs.size :=
 jg r j xs.size 0 xs.size (by omega) (by omega) (Nat.le_refl _) (fun k _ h=>absurd h (Nat.not_lt_zero _)) (fun k h h'=>absurd h (by omega))
theorem rS {xs:Array Nat}(r:Rise xs){j:Nat}(h:xs[SetTable.below xs j]?≠some j):j∉xs.toList:=fun hm=>by
 obtain⟨k,hk,e⟩:=List.getElem_of_mem hm
 have hk':k < xs.size:=by simpa using hk
 have e':xs[k]=j:=by simpa using e
 obtain⟨a,b,c⟩:=jh r j
 have h1:¬ k < SetTable.below xs j:=fun z=>by have:=a k hk' z;omega
 have h2:¬ SetTable.below xs j < k:=fun z=>by
  have hb:SetTable.below xs j < xs.size:=by omega
  have:=b _ hb (Nat.le_refl _)
  have:=iI r z hk'
  omega
 have:SetTable.below xs j=k:=by omega
 rw[this,Array.getElem?_eq_getElem hk',e']at h
 exact h rfl
theorem ni {xs:Array Nat}(r:Rise xs){j:Nat}(hn:j∉xs.toList):Rise (SetTable.insertAt xs (SetTable.below xs j) j):=by
 obtain⟨a,b,c⟩:=jh r j
 unfold Rise
 rw[SetTable.toList_insertAt]
 have lo:∀ y∈xs.toList.take (SetTable.below xs j),y < j:=fun y hy=>by
  obtain⟨k,hk,e⟩:=List.getElem_of_mem hy
  rw[List.length_take]at hk
  have hk':k < xs.size:=by
   have:k < xs.toList.length:=by omega
   simpa using this
  rw[List.getElem_take]at e
  have:=a k hk' (by omega)
  have e':xs[k]=y:=by simpa using e
  omega
 have hi:∀ y∈xs.toList.drop (SetTable.below xs j),j < y:=fun y hy=>by
  obtain⟨k,hk,e⟩:=List.getElem_of_mem hy
  rw[List.length_drop]at hk
  rw[List.getElem_drop]at e
  have hk':SetTable.below xs j+k < xs.size:=by
   have:SetTable.below xs j+k < xs.toList.length:=by omega
   simpa using this
  have:=b _ hk' (by omega)
  have e':xs[SetTable.below xs j+k]=y:=by simpa using e
  have ne:y≠j:=fun z=>hn (by rw[← z];exact List.mem_of_mem_drop hy)
  omega
 refine List.pairwise_append.mpr ⟨r.sublist (List.take_sublist _ _),List.pairwise_cons.mpr ⟨hi,r.sublist (List.drop_sublist _ _)⟩,fun x hx y hy=>?_⟩
 rcases List.mem_cons.mp hy with rfl | hy
 ·exact lo x hx
 ·exact Nat.lt_trans (lo x hx) (hi y hy)
theorem c7 (n:Nat):Rise (Array.range n):=by
 unfold Rise
 rw[Array.toList_range]
 exact List.pairwise_lt_range
theorem eO (t:SetTable)(p:SetTable.Probe):(t.advance p).dummy=p.dummy:=by
 unfold SetTable.advance
 split
 ·rfl
 ·rfl
theorem eV {t:SetTable}(r:Rise t.place)(ha:Nat→Int)(h:Int):∀ (fuel:Nat) (p:SetTable.Probe) {j:Nat} {d:Option Nat},(∀ x,p.dummy=some x→x∉t.place.toList)→SetTable.probe.go t ha h fuel p=some (.empty j d)→d.getD j∉t.place.toList
 | 0,p,j,d,hp,e=>by simp[SetTable.probe.go]at e
 | fuel+1,p,j,d,hp,e=>by
  unfold SetTable.probe.go at e
  have nl:t.slot p.j≠.live (SetTable.below t.place p.j)→p.j∉t.place.toList:=fun hs=>rS r fun z=>hs (by unfold SetTable.slot;simp[z])
  split at e
  ·rename_i hs
   cases e
   cases hd:p.dummy with
   | none=>exact nl (by rw[hs];simp)
   | some x=>exact hp x hd
  ·rename_i hs
   refine eV r ha h fuel _ (fun x hx=>?_) e
   rw[eO]at hx
   cases hx
   exact nl (by rw[hs];simp)
  ·split at e
   ·cases e
   ·refine eV r ha h fuel _ (fun x hx=>?_) e
    rw[eO]at hx
    exact hp x hx
theorem j5 {t:SetTable}(r:Rise t.place){h:Int}{slot:Nat}{w:Bool}(e:t.freeSlot h=some (slot,w)):slot∉t.place.toList:=by
 unfold SetTable.freeSlot at e
 split at e
 ·rename_i j d hp
  cases e
  exact eV r _ h _ _ (fun x hx=>by simp[SetTable.probeStart]at hx) hp
 ·cases e
theorem lV {t:SetTable}(r:Rise t.place)(n:Nat):Rise (t.orStandIn n).place∧(t.orStandIn n).led=t.led:=by
 unfold SetTable.orStandIn
 split
 ·exact⟨r,rfl⟩
 ·exact⟨c7 _,rfl⟩
theorem nj {t:SetTable}{es:Array (Int×Value)}{h:Int}{x:Value}(r:Rise t.place):Rise (layNew t es h x).2.1.place∧(layNew t es h x).2.1.led=t.led:=by
 unfold layNew
 split
 ·rename_i slot w e
  have hn:=j5 r e
  exact lV (t:=(t.put slot).1) (ni r hn) _
 ·exact⟨c7 _,rfl⟩
theorem oO {t:SetTable}{es:Array (Int×Value)}{n:Nat}:Rise (relayAll t es n).2.1.place∧(relayAll t es n).2.1.led=t.led:=by
 unfold relayAll
 split
 ·rename_i t' order e
  dsimp only
  split
  ·unfold SetTable.relaid SetTable.laid at e
   simp only[Option.bind_eq_bind,Option.bind_eq_some_iff,Option.pure_def,Option.some.injEq,Prod.mk.injEq]at e
   obtain⟨ow,_,rfl,_⟩:=e
   refine⟨?_,rfl⟩
   unfold Rise
   dsimp only
   rw[List.map_filterMap]
   refine List.Pairwise.filterMap _ (fun a a' hlt b hb b' hb'=>?_) List.pairwise_lt_range
   simp only[Option.map_map,Option.map_eq_some_iff]at hb hb'
   obtain⟨_,_,rfl⟩:=hb
   obtain⟨_,_,rfl⟩:=hb'
   exact hlt
  ·exact⟨c7 _,rfl⟩
 ·exact⟨c7 _,rfl⟩
section
variable {prog:Program}{w:World}{A:Around}{E:Value→Shared→Prop}{s:Shared}
abbrev byT (w:World):Bool:=w.params.followText "set-order"
def SetR (prog:Program)(w:World)(h:Heap)(a:Addr)(ns:List Int):Prop:=∃ o es ep t,h.get? a=some o∧o.ExactSet∧o.data=.set es ep t∧ElemsOf (intKind prog w) es.toList∧IntsAre (es.toList.map (·.2)) ns ∧
 es.size < scanBound∧t.fits es.size=true∧Rise t.place∧t.led = !byT w
theorem c8 {vs vs':List Value}(p:vs.Perm vs'):∀ {ns:List Int},IntsAre vs ns→∃ ns',IntsAre vs' ns'∧ns.Perm ns':=by
 induction p with
 | nil=>intro ns h;exact⟨ns,h,.refl _⟩
 | cons x _ ih =>
  intro ns h
  cases h with
  | cons n t hr =>
   obtain⟨ns',a,b⟩:=ih hr
   exact⟨n::ns',.cons n t a,b.cons n⟩
 | swap x y l =>
  intro ns h
  cases h with
  | cons n t hr =>
   cases hr with
   | cons m u hr=>exact⟨_,.cons m u (.cons n t hr),.swap m n _⟩
 | trans _ _ ih1 ih2 =>
  intro ns h
  obtain⟨n1,a,b⟩:=ih1 h
  obtain⟨n2,c,d⟩:=ih2 a
  exact⟨n2,c,b.trans d⟩
theorem im:∀ {vs us:List Value} {ns ms:List Int},IntsAre vs ns→IntsAre us ms→IntsAre (vs++us) (ns++ms)
 | _,_,_,_,.nil,h=>h
 | _,_,_,_,.cons n t hr,h=>.cons n t (im hr h)
theorem io:∀ {vs:List Value} {ns:List Int} {v:Value},IntsAre vs ns→v∈vs→∃ n t,n∈ns∧v=.int n t
 | _,_,v,.nil,h=>nomatch h
 | _,_,v,.cons n t hr,h=>by
  rcases List.mem_cons.mp h with rfl | h
  ·exact⟨n,t,.head _,rfl⟩
  ·obtain⟨m,u,a,b⟩:=io hr h
   exact⟨m,u,.tail _ a,b⟩
theorem fJ:∀ {vs:List Value} {ns:List Int} {n:Int},IntsAre vs ns→n∈ns→∃ t,Value.int n t∈vs
 | _,_,n,.nil,h=>nomatch h
 | _,_,n,.cons m t hr,h=>by
  rcases List.mem_cons.mp h with rfl | h
  ·exact⟨t,.head _⟩
  ·obtain⟨u,a⟩:=fJ hr h
   exact⟨u,.tail _ a⟩
theorem nk {a:Addr}{ns ns':List Int}{es:Array (Int×Value)}{t:SetTable}{Q:Unit→Shared→Prop}(hS:SetR prog w s.heap a ns)(el:ElemsOf (intKind prog w) es.toList)(hI:IntsAre (es.toList.map (·.2)) ns')(hb:es.size < scanBound)(hf:t.fits es.size=true)(hr:Rise t.place)(hl:t.led = !byT w)
  (q:∀ h',Heap.SameBut a s.heap h'→SetR prog w h' a ns'→Q () { s with heap:=h' }):wpAny (model prog w) A (storeSet a es t) Q E s:=by
 rcases hS with ⟨o,es0,ep0,t0,ho,hx,hd,-⟩
 have hp:=putSet_of es t hd
 refine wpAny_storeSet_of ho hd (q _ (.update ..) ⟨_,es,ep0+1,t,Heap.get?_update_self _ ho ?_,?_,?_,el,hI,hb,hf,hr,hl⟩) (fits_of_scanBound hb)
 ·rw[hp];rfl
 ·rw[hp];exact hx
 ·rw[hp]
theorem oP {a:Addr}{ns ns':List Int}{es:Array (Int×Value)}{t:SetTable}{dum:Bool}{g:Bool→Sem Unit}{Q:Option Bool→Shared→Prop}(hg:∀ b (s:Shared) (Q:Unit→Shared→Prop),Q () s→wpAny (model prog w) A (g b) Q E s)(hS:SetR prog w s.heap a ns)(el:ElemsOf (intKind prog w) es.toList)(hI:IntsAre (es.toList.map (·.2)) ns')(hb:es.size < scanBound)(hf:t.fits es.size=true)(hr:Rise t.place)(hl:t.led = !byT w)
  (q:∀ h' ms,Heap.SameBut a s.heap h'→SetR prog w h' a ms→ms.Perm ns'→Q (some true) { s with heap:=h' }) :
  wpAny (model prog w) A (do
   storeSet a es t
   if !dum&&t.tooFull then
    let r:=relayAll t es (SetTable.grown es.size)
    g r.2.2
    storeSet a r.1 r.2.1
   return some true) Q E s:=by
 refine wpAny_bind (nk hS el hI hb hf hr hl fun h1 k1 S1=>?_)
 by_cases c:(!dum&&t.tooFull)=true
 ·rw[if_pos c]
  dsimp only
  have pm:=relayAll_perm t es (SetTable.grown es.size)
  obtain⟨ms,mI,mp⟩:=c8 (pm.symm.map (·.2)) hI
  have sz:(relayAll t es (SetTable.grown es.size)).1.size < scanBound:=by
   have:=pm.length_eq
   simp only[Array.length_toList]at this
   omega
  obtain⟨r1,r2⟩:=oO (t:=t) (es:=es) (n:=SetTable.grown es.size)
  exact wpAny_bind (hg _ _ _ (wpAny_bind (nk (s:={ s with heap:=h1 }) S1 (el.perm pm) mI sz (relayAll_fits ..) r1 (r2.trans hl) fun h2 k2 S2=>wpAny_pure (q h2 ms (k1.trans k2) S2 mp.symm))))
 ·rw[if_neg c]
  exact wpAny_bind (wpAny_pure (wpAny_pure (q h1 ns' k1 S1 (.refl _))))
theorem nq {es:List (Int×Value)}{ns:List Int}{k:Int}(hI:IntsAre (es.map (·.2)) ns):(es.findIdx? fun e=>(intKind prog w).is k e.2)=none↔k∉ns:=by
 rw[List.findIdx?_eq_none_iff]
 constructor
 ·intro h z
  obtain⟨u,hu⟩:=fJ hI z
  obtain⟨e,he,e2⟩:=List.mem_map.mp hu
  have:=h e he
  rw[e2,intKind_is]at this
  cases this
 ·intro h e he
  obtain⟨n,u,h1,h2⟩:=io hI (List.mem_map.mpr ⟨e,he,rfl⟩)
  rw[h2]
  by_cases z:(intKind prog w).is k (.int n u)=true
  ·exact absurd ((intKind prog w).inj _ k n z (intKind_is _ _ _ _) ▸ h1) h
  ·simpa using z
theorem uk {a:Addr}{ns:List Int}{k:Int}{tk:Tok}{Q:Bool→Shared→Prop}(hS:SetR prog w s.heap a ns)(hroom:ns.length+1 < scanBound)
  (h:∀ h' ns' b,Heap.SameBut a s.heap h'→SetR prog w h' a ns'→ns'.Perm (if k∈ns then ns else k::ns)→Q b { s with heap:=h' }) :
  wpAny (model prog w) A (setAddHashed a (.int k tk) ((intKind prog w).hash k)) Q E s:=by
 have again:=hS
 rcases hS with ⟨o,es,ep,t,ho,hx,hd,el,hI,hb,hf,hr,hl⟩
 have hlen:es.size=ns.length:=by simpa using hI.length
 unfold setAddHashed setAddHashedIn
 refine wpAny_holding (wpAny_bind (wpAny_setState_of ho hd hf ?_))
 simp only[byScan_of (show (Value.int k tk).scannable=true from rfl) hb el,if_true]
 refine wpAny_bind ?_
 unfold setAddByScan
 refine wpAny_bind (wpAny_rule (wpAny_bind (wpAny_setScan_of (intKind_is _ _ _ _) ho hd hf el ?_)))
 cases f:es.toList.findIdx? fun e=>(intKind prog w).is k e.2 with
 | some j =>
  have m:k∈ns:=Decidable.byContradiction fun z=>by rw[(nq hI).mpr z]at f;cases f
  exact wpAny_pure (wpAny_pure (h s.heap ns false (.refl ..) again (by rw[if_pos m])))
 | none =>
  have m:=(nq hI).mp f
  rw[if_neg m]at h
  have lay:=And.intro (layNew_perm t es ((intKind prog w).hash k) (.int k tk)) (And.intro (layNew_fits t es ((intKind prog w).hash k) (.int k tk)) (nj (t:=t) (es:=es) (h:=(intKind prog w).hash k) (x:=.int k tk) hr))
  dsimp only
  generalize layNew t es ((intKind prog w).hash k) (.int k tk)=z at lay ⊢
  obtain⟨es1,t1,dum,gv⟩:=z
  obtain⟨pm,ft,rs⟩:=lay
  dsimp only at pm ft rs ⊢
  rw[Array.toList_push]at pm
  have sz:=pm.length_eq
  simp only[Array.length_toList,List.length_append,List.length_singleton]at sz
  obtain⟨ms,mI,mp⟩:=c8 (pm.symm.map (·.2)) (ns:=ns++[k]) (by rw[List.map_append];exact im hI (.cons k tk .nil))
  have mk:ms.Perm (k::ns):=mp.symm.trans List.perm_append_comm
  have hg:∀ b (s:Shared) (Q:Unit→Shared→Prop),Q () s→wpAny (model prog w) A (match b with | true=>rule "set.scan.the-table-gave-way" | false=>pure ()) Q E s:=by
   intro b s Q q
   cases b
   ·exact wpAny_pure q
   ·exact wpAny_rule q
  refine wpAny_bind (hg _ _ _ ?_)
  have go:=oP (A:=A) (E:=E) (s:=s) hg (dum:=dum) (Q:=fun r s'=>wpAny (model prog w) A (match r with | some added=>pure added | none=>setAddHashedIn a (.int k tk) ((intKind prog w).hash k) 99999) Q E s') again ((el.push (intKind_is _ _ _ _) rfl).perm pm) mI (by omega) ft rs.1 (rs.2.trans hl) fun h' ns' k' S' p'=>wpAny_pure (h h' ns' true k' S' (p'.trans mk))
  split
  ·refine wpAny_bind ?_
   rw[hashByValue_scannable 8 (show (Value.int k tk).scannable=true from rfl)]
   exact wpAny_pure go
  ·exact wpAny_bind (wpAny_pure go)
end
theorem lW {k:Int}{ns ms:List Int}(hn:ns.Perm ms):(if k∈ns then ns else k::ns).Perm (if k∈ms then ms else k::ms):=by
 by_cases h:k∈ns
 ·rw[if_pos h,if_pos (hn.subset h)];exact hn
 ·rw[if_neg h,if_neg (fun z=>h (hn.symm.subset z))];exact hn.cons k
def addI (ms:List Int)(k:Int):List Int:=if k∈ms then ms else k::ms
def onceI (is:List Int):List Int:=is.foldl addI []
theorem ul (ms:List Int)(k:Int):(addI ms k).length≤ms.length+1:=by unfold addI;split<;>simp<;>omega
theorem fK:∀ (is ms:List Int),(is.foldl addI ms).length≤ms.length+is.length
 | [],ms=>by simp
 | k::is,ms=>by
  have:=fK is (addI ms k)
  have:=ul ms k
  rw[List.foldl_cons,List.length_cons];omega
theorem kX:∀ (is ms:List Int),ms.length≤(is.foldl addI ms).length
 | [],ms=>Nat.le_refl _
 | k::is,ms=>by
  have:=kX is (addI ms k)
  have:ms.length≤(addI ms k).length:=by unfold addI;split<;>simp
  rw[List.foldl_cons];omega
theorem rT (is:List Int)(i:Nat):((is.take i).foldl addI []).length≤(onceI is).length:=by
 have e:onceI is=(is.drop i).foldl addI ((is.take i).foldl addI []):=by
  unfold onceI
  rw[← List.foldl_append,List.take_append_drop]
 rw[e]
 exact kX _ _
section
variable {prog:Program}{w:World}{A:Around}{E:Value→Shared→Prop}{s:Shared}{R:Result→Shared→Prop}
theorem um {S I l:Addr}{items:List Value}{is:List Int}(hh:A.in1.handled=none)(hlI:l≠I)(hSI:S≠I)(hSl:S≠l)(hI:IntsAre items is)(hb:(onceI is).length+1 < scanBound) :
  ∀ (k i:Nat) (s1:Shared) (ns:List Int),items.length - i=k→i≤items.length→s1.heap.IsListIter I l i→s1.heap.IsList l items.toArray→SetR prog w s1.heap S ns→ns.Perm ((is.take i).foldl addI []) →
   (∀ h' tk ns',(∀ b o,b≠S→b≠I→s1.heap.get? b=some o→h'.get? b=some o)→SetR prog w h' S ns'→ns'.Perm (onceI is)→R (.ok (.ret .none)) { s1 with heap:=h',toks:=tk }) →
   codeAny (model prog w) A (.builtin "set.update.loop" ⟨[.ref S,.ref I],[]⟩) R s1:=by
 have W:=Walks.list (prog:=prog) (w:=w) (A:=A.in1) hh I l hlI items.toArray
 have hz:items.toArray.size=items.length:=List.size_toArray ..
 have hlen:=hI.length
 intro k
 induction k with
 | zero =>
  intro i s1 ns hk hi it ls hS hp hR
  have e:i=items.length:=by omega
  subst e
  refine codeAny_builtin PyProof.Rows.F.entry_set_update_loop ?_
  rw[Around.under_plainId PyProof.Rows.F.plain_set_update_loop _]
  show wpAny _ A.in1 (pyNext (.ref I) >>= _) _ _ s1
  refine wpAny_bind (W.done s1 _ _ ⟨by rw[hz];exact it,ls⟩ fun h' tk kk=>?_)
  have hp':ns.Perm (onceI is):=by
   rw[hlen,List.take_length]at hp;exact hp
  obtain⟨o,es,ep,t,ho,rest⟩:=hS
  exact wpAny_pure (hR h' tk ns (fun b o h1 h2 e=>kk b o (by simpa using h2) e) ⟨o,es,ep,t,kk S o (by simpa using hSI) ho,rest⟩ hp')
 | succ k ih =>
  intro i s1 ns hk hi it ls hS hp hR
  have hlt:i < items.length:=by omega
  refine codeAny_builtin PyProof.Rows.F.entry_set_update_loop ?_
  rw[Around.under_plainId PyProof.Rows.F.plain_set_update_loop _]
  show wpAny _ A.in1 (pyNext (.ref I) >>= _) _ _ s1
  refine wpAny_bind (W.item i s1 _ _ (by rw[hz];exact hlt) ⟨it,ls⟩ fun v h' tk hP st' kk=>?_)
  obtain⟨t,rfl⟩:=IntsAre.int_at hI i v (by simpa using hP)
  have hSk:SetR prog w h' S ns:=by
   obtain⟨o,es,ep,tb,ho,rest⟩:=hS
   exact⟨o,es,ep,tb,kk S o (by simpa using hSI) ho,rest⟩
  show wpAny _ A.in1 (holding [Value.int (is.getD i 0) t] (setAdd S (.int (is.getD i 0) t)) >>= _) _ _ _
  refine wpAny_bind (wpAny_holding ?_)
  unfold setAdd
  refine wpAny_holding (wpAny_bind ((intKind prog w).pyHash (k:=is.getD i 0) (intKind_is _ _ _ _) ?_))
  have hroom:ns.length+1 < scanBound:=by
   have h1:=hp.length_eq
   have h2:=rT is i
   omega
  refine uk (s:={ s1 with heap:=h',toks:=tk+1 }) hSk hroom fun h2 ns' b sb hS2 hp2=>?_
  have hp3:ns'.Perm ((is.take (i+1)).foldl addI []):=by
   have hi':i < is.length:=by omega
   rw[List.take_succ,List.getElem?_eq_getElem hi',Option.toList_some,List.foldl_append]
   have e:is.getD i 0=is[i]:=by simp[List.getD,hi']
   rw[e]at hp2
   exact hp2.trans (lW hp)
  obtain⟨oI,e1,e2,e3⟩:=id st'.1
  refine wpAny_pure ⟨plainId_quiet PyProof.Rows.F.plain_set_update_loop _,ih (i+1) _ ns' (by omega) hlt ⟨oI,(sb.2 I (Ne.symm hSI)).trans e1,e2,e3⟩ ?_ hS2 hp3 fun h3 tk3 ns3 k3 a b=>hR h3 tk3 ns3 (fun b o h1 h2 e=>k3 b o h1 h2 ((sb.2 b h1).trans (kk b o (by simpa using h2) e))) a b⟩
  obtain⟨ol,f1,f2⟩:=id st'.2
  exact⟨ol,(sb.2 l (Ne.symm hSl)).trans f1,f2⟩
theorem callT {T nid iid:String}{xs:List Value}{M Q:Value→Shared→Prop}(ft:TypeCalled T nid iid)(hc:checkTypeCall T ⟨xs,[]⟩=pure ())
  (hn:codeAny (model prog w) A.in1 (.call (.builtin nid) ⟨.type T::xs,[]⟩) (wants M E) s)
  (hi:∀ v s1,M v s1→s1.TypeIs v T∧codeAny (model prog w) A.in1 (.call (.builtin iid) ⟨v::xs,[]⟩) (wants (fun r s2=>r=.none∧Q v s2) E) s1):wpAny (model prog w) A (call (.type T) xs) Q E s:=by
 rcases ft with ⟨f1,f2,⟨c,tl,f3⟩,f4,f5,f6,f7⟩
 have go:wpAny (model prog w) (A.under (.call (.type T) ⟨xs,[]⟩)) (callAny (.type T) ⟨xs,[]⟩) (fun fin s'=>match fin with | .done f=>wants Q E (.ok f) s' | .again c'=>c'.quiet=true∧codeAny (model prog w) A c' (wants Q E) s') (fun e s'=>wants Q E (.error e) s') s→wpAny (model prog w) A (call (.type T) xs) Q E s:=fun h=>wpAny_call (codeAny_of_tree h)
 refine go (wpAny_pure ⟨Code.quiet_builtin _ (by decide +kernel),codeAny_builtin PySem.F.entry_type_call ?_⟩)
 rw[Around.under_plain rfl rfl]
 wp_walk
 refine codeAny_mono hn fun r s1 hr=>?_
 rcases r with e | (_ | _ | _ | v)<;>try exact hr
 ·obtain⟨hT,hi⟩:=hi v s1 hr
  refine wpAny_bind (wpAny_isInstance hT f6 ?_)
  rw[if_neg (by decide)]
  refine wpAny_bind (wpAny_holding (wpAny_callSpecial?_slot hT f7 (wpAny_call (codeAny_mono hi fun r2 s2 h2=>?_))))
  rcases r2 with e | (_ | _ | _ | u)<;>try exact h2
  ·obtain⟨rfl,q⟩:=h2
   exact wpAny_pure q
theorem uo (x:Value){Q:Value→Shared→Prop}(h:Q (.ref s.heap.objs.size) { s with heap:=s.heap.push { cls:=.type "set",dict:=none,data:=.set #[] 0 (.fresh 0 0 (!byT w)) } }) :
  codeAny (model prog w) A (.call (.builtin "set.__new__") ⟨[.type "set",x],[]⟩) (wants Q E) s:=by
 refine codeAny_call_builtin PySem.F.plain_set_new PySem.F.entry_set_new (wpAny_of_eq (PySem.F.newCall_set_1 x) ?_)
 unfold Builtin.«set.__new__» Builtin.Frozenset.newClass
 have hs:=sub_set_self
 wp_walk
 exact wpAny_askSetting (wpAny_pure (wpAny_newObj_type (wpAny_pure h) (by size_fits)))
abbrev bare (w:World):Obj:={ cls:=.type "set",dict:=none,data:=.set #[] 0 (.fresh 0 0 (!byT w)) }
theorem rV {h:Heap}{S:Addr}(e:h.get? S=some (bare w)):SetR prog w h S []:=⟨_,#[],0,_,e,⟨rfl,rfl,rfl⟩,rfl,(fun e he=>by simp at he),.nil,by decide,rfl,List.Pairwise.nil,rfl⟩
theorem rW {S l:Addr}{items:List Value}{is:List Int}{Q:Shared→Prop}(hh:A.handled=none)(hS:s.heap.get? S=some (bare w))(hl:s.heap.IsList l items.toArray)(hI:IntsAre items is)(hb:(onceI is).length+1 < scanBound)
  (q:∀ h' tk ns,(∀ b o,b≠S→s.heap.get? b=some o→h'.get? b=some o)→SetR prog w h' S ns→ns.Perm (onceI is)→Q { s with heap:=h',toks:=tk }) :
  codeAny (model prog w) A (.call (.builtin "set.__init__") ⟨[.ref S,.ref l],[]⟩) (wants (fun r s'=>r=.none∧Q s') E) s:=by
 have hT:s.TypeIs (.ref S) "set" := ⟨_,hS,rfl⟩
 have hTl:s.TypeIs (.ref l) "list" := by
  rcases hl with ⟨o,ho,hc,-⟩
  exact⟨o,ho,hc⟩
 refine codeAny_call_builtin PySem.F.called_set.init.plain PySem.F.entry_set_init (check_set_init_1 hT ?_)
 unfold Builtin.«set.__init__» noKeywords
 wp_walk
 refine wpAny_of_eq PySem.F.sub_list_set (wpAny_isInstance hTl PySem.F.sub_list_frozenset ?_)
 rw[if_neg (by decide)]
 refine wpAny_bind (wpAny_typeOf hTl ?_)
 rw[if_neg (by decide)]
 have lt:S < s.heap.objs.size:=Heap.lt_size hS
 have ll:l < s.heap.objs.size:=by
  rcases hl with ⟨o,ho,-⟩
  exact Heap.lt_size ho
 have ne:S≠l:=fun e=>by
  rcases hl with ⟨o,ho,hc,-⟩
  rw[← e,hS,Option.some.injEq]at ho
  rw[← ho]at hc
  exact absurd hc (show ¬ Value.type "set"=Value.type "list" by decide)
 refine wpAny_bind (wpAny_pyIter_list hl (wpAny_bind (wpAny_runValue ?_)))
 refine um (items:=items) (is:=is) (by simpa using hh) (Nat.ne_of_lt ll) (Nat.ne_of_lt lt) ne hI hb _ 0 _ [] rfl (Nat.zero_le _) ?_ ?_ ?_ (.refl _) fun h' tk ns k S' p=>?_
 ·exact⟨_,Heap.get?_push_size _ rfl,rfl,rfl⟩
 ·exact hl.push _
 ·exact rV (Heap.get?_push_of_some _ hS)
 exact wpAny_pure (wpAny_pure ⟨rfl,q h' tk ns (fun b o hb e=>k b o hb (Nat.ne_of_lt (Heap.lt_size e)) (Heap.get?_push_of_some _ e)) S' p⟩)
theorem rX {l:Addr}{items:List Value}{is:List Int}{Q:Value→Shared→Prop}(hh:A.handled=none)(hl:s.heap.IsList l items.toArray)(hI:IntsAre items is)(hb:(onceI is).length+1 < scanBound)
  (h:∀ (h':Heap) (tk:Nat) ns,SetR prog w h' s.heap.objs.size ns→ns.Perm (onceI is)→(∀ b o,b < s.heap.objs.size→s.heap.get? b=some o→h'.get? b=some o)→Q (.ref s.heap.objs.size) { s with heap:=h',toks:=tk }) :
  wpAny (model prog w) A (call (.type "set") [.ref l]) Q E s:=by
 refine callT (M:=fun v s1=>v=.ref s.heap.objs.size∧s1={ s with heap:=s.heap.push (bare w) }) PySem.F.called_set (PySem.F.typeCall_set_1 _) (uo _ ⟨rfl,rfl⟩) ?_
 rintro v s1 ⟨rfl,rfl⟩
 have e:(s.heap.push (bare w)).get? s.heap.objs.size=some (bare w):=Heap.get?_push_size _ rfl
 refine⟨⟨_,e,rfl⟩,rW (s:={ s with heap:=s.heap.push (bare w) }) (by simpa using hh) e (hl.push _) hI hb fun h' tk ns k S p=>h h' tk ns S p fun b o hb e=>k b o (Nat.ne_of_lt hb) (Heap.get?_push_of_some _ e)⟩
end
theorem ji:entryFor table "set.__iter__"=some Builtin.«frozenset.__iter__»:=entryFor_alias (id' := "frozenset.__iter__") (by kernel_rfl) rfl (by decide +kernel) (by kernel_rfl)
theorem aj:Slot "set_iterator" "__next__" "set_iterator.__next__" :=
 .of (owner := "set_iterator") (n := "__next__") (by rw[typeLookup_type,builtinLookup_eq_fast];kernel_rfl) (by decide +kernel) (by decide +kernel) (by decide +kernel)
  (.inl (by decide +kernel)) (by rw[isSubtype_type];kernel_rfl)
theorem aA:entryFor table "set_iterator.__next__"=some Builtin.«set_iterator.__next__»:=entryFor_of_fast (by kernel_rfl)
theorem aD (a:Value):argsOk "set_iterator.__next__" ⟨[a],[]⟩:=by unfold argsOk;kernel_rfl
theorem cz:Slot "set_iterator" "__iter__" "set_iterator.__iter__" :=
 .of (owner := "set_iterator") (n := "__iter__") (by rw[typeLookup_type,builtinLookup_eq_fast];kernel_rfl) (by decide +kernel) (by decide +kernel) (by decide +kernel)
  (.inl (by decide +kernel)) (by rw[isSubtype_type];kernel_rfl)
theorem eW {α:Type}:∀ (xs:List α) (i:Nat) (h:i < xs.length),(xs[i]::xs.eraseIdx i).Perm xs
 | x::xs,0,h=>.refl _
 | x::xs,i+1,h=>(List.Perm.swap x _ _).trans ((eW xs i (by simpa using h)).cons x)
theorem kY {α:Type}(next:Nat→Nat):∀ (fuel k:Nat) (left:List α) (out:Array α),fuel=left.length→(pickOrder.go next fuel k left out).toList.Perm (out.toList++left)
 | 0,k,left,out,h=>by
  have:left=[]:=List.length_eq_zero_iff.mp h.symm
  subst this
  simp[pickOrder.go]
 | fuel+1,k,left,out,h=>by
  have hl:0 < left.length:=by omega
  have hm:next k%left.length < left.length:=Nat.mod_lt _ hl
  unfold pickOrder.go
  rw[List.getElem?_eq_getElem hm]
  refine(kY next fuel (k+1) _ _ (by rw[List.length_eraseIdx_of_lt hm];omega)).trans ?_
  rw[Array.toList_push,List.append_assoc]
  refine List.Perm.append_left _ ?_
  show (left[next k%left.length]::left.eraseIdx (next k%left.length)).Perm left
  exact(eW _ _ hm)
section
variable {prog:Program}{w:World}{A:Around}{E:Value→Shared→Prop}{s:Shared}
theorem rY {src:Source}{n:Nat}{Q:Nat→Shared→Prop}(hn:n≠0)(h:∀ i,i < n→Q i { s with drawn:=s.drawn.bump src }):wpAny (model prog w) A (choose src n) Q E s :=
 fun Γ p hΓ=>⟨hn,h _ (Nat.mod_lt _ (by omega))⟩
theorem qi {α:Type}{Q:List α→Shared→Prop}:∀ (n:Nat) (xs:List α) (s:Shared),n=xs.length→(∀ ys d,ys.Perm xs→Q ys { s with drawn:=d })→wpAny (model prog w) A (drawOrder n xs) Q E s
 | 0,xs,s,hn,h=>by
  have:xs=[]:=List.length_eq_zero_iff.mp hn.symm
  subst this
  exact wpAny_pure (h [] s.drawn (.refl _))
 | n+1,[],s,hn,h=>by cases hn
 | n+1,x::xs,s,hn,h=>by
  unfold drawOrder
  refine wpAny_bind (rY (by simp) fun i hi=>?_)
  rw[List.getElem?_eq_getElem hi]
  refine wpAny_bind (qi n ((x::xs).eraseIdx i) _ (by rw[List.length_eraseIdx_of_lt hi];omega) fun ys d hp=>?_)
  exact wpAny_pure (h _ d ((hp.cons _).trans (eW _ _ hi)))
def itObj (first:Value)(i:Nat)(a:Addr)(n ep:Nat):Obj:={ cls:=.type "set_iterator",data:=.fields #[first,rawInt (i:Int),.ref a,rawInt (n:Int),rawInt (ep:Int)] }
theorem wB {h:Heap}{it:Addr}{first first':Value}{i j:Nat}{a:Addr}{n ep:Nat}(e:h.get? it=some (itObj first i a n ep)):((h.update it (Obj.mapFields (·.setIfInBounds 0 first'))).update it (Obj.mapFields (·.setIfInBounds 1 (rawInt (j:Int))))).get? it=some (itObj first' j a n ep):=by
 have e1:=Heap.get?_update_self (Obj.mapFields (·.setIfInBounds 0 first')) e rfl
 exact Heap.get?_update_self (Obj.mapFields (·.setIfInBounds 1 (rawInt (j:Int)))) e1 rfl
theorem uq {h:Heap}{it:Addr}{first:Value}{i j:Nat}{a:Addr}{n ep:Nat}(e:h.get? it=some (itObj first i a n ep)):(h.update it (Obj.mapFields (·.setIfInBounds 1 (rawInt (j:Int))))).get? it=some (itObj first j a n ep) :=
 Heap.get?_update_self (Obj.mapFields (·.setIfInBounds 1 (rawInt (j:Int)))) e rfl
theorem qk {α:Type}{Q:α→Shared→Prop}(hh:A.handled=none)(h:∀ h' v,Shared.TypeIs { s with heap:=h' } v "StopIteration" → (∀ b o,s.heap.get? b=some o→h'.get? b=some o)→E v { s with heap:=h' }) :
  wpAny (model prog w) A (do raiseNew (← newExc (.type "StopIteration") []):Sem α) Q E s:=by
 unfold newExc newTuple firstArgMember
 refine wpAny_bind (wpAny_bind (wpAny_newObj_type (wpAny_bind (wpAny_pure (wpAny_newObj_type (wpAny_raiseNew_none hh (h _ _ ⟨_,Heap.get?_push_size _ rfl,rfl⟩ fun b o e=>?_)) (by size_fits)))) (by size_fits)))
 exact Heap.get?_push_of_some _ (Heap.get?_push_of_some _ e)
theorem oQ {it a:Addr}{sl i n ep:Nat}{es:Array (Int×Value)}{t:SetTable}{o:Obj}{v:Value}{nx:Nat}{Q:Option Value→Shared→Prop}(hit:s.heap.get? it=some (itObj (rawInt (sl:Int)) i a n ep))(ho:s.heap.get? a=some o)(hd:o.data=.set es ep t)(hf:t.fits es.size=true)(hn:es.size=n)
  (hx:∀ (Q:Option (Value×Nat)→Shared→Prop) (E:Value→Shared→Prop),Q (some (v,nx)) s→wpAny (model prog w) A.in1 (setNext a sl i ep) Q E s)
  (hQ:∀ h',h'.get? it=some (itObj (rawInt (nx:Int)) (i+1) a n ep)→Heap.SameBut it s.heap h'→Q (some v) { s with heap:=h' }):wpAny (model prog w) A (pyNext (.ref it)) Q E s:=by
 have hT:s.TypeIs (.ref it) "set_iterator" := ⟨_,hit,rfl⟩
 unfold pyNext
 refine wpAny_bind (wpAny_attempt (wpAny_callSpecial?_slot (name:=Str.ofString "__next__") hT aj (wpAny_call_entry aj hT aA ?_ (aD _))))
 show wpAny _ _ (fieldsOf (.ref it) >>= _) _ _ s
 refine wpAny_bind (wpAny_fieldsOf hit rfl ?_)
 show wpAny _ _ (setEntries a >>= _) _ _ s
 refine wpAny_bind (wpAny_setEntries_of ho hd hf ?_)
 rw[if_neg (by rw[hn];simp)]
 show wpAny _ _ (setNext a ((sl:Int)).toNat ((i:Int)).toNat ((ep:Int)).toNat >>= _) _ _ s
 simp only[Int.toNat_natCast]
 refine wpAny_bind (hx _ _ ?_)
 have e1:(s.heap.update it (Obj.mapFields (·.setIfInBounds 0 (rawInt (nx:Int))))).get? it=some (itObj (rawInt (nx:Int)) i a n ep):=Heap.get?_update_self (Obj.mapFields (·.setIfInBounds 0 (rawInt (nx:Int)))) hit rfl
 refine wpAny_bind (wpAny_setField hit rfl (by simp) (wpAny_bind (wpAny_setField e1 rfl (by simp) (wpAny_pure ⟨v,rfl,wpAny_pure (hQ _ ?_ ((Heap.SameBut.update ..).trans (Heap.SameBut.update ..)))⟩))))
 have:=wB (first':=rawInt (nx:Int)) (j:=i+1) hit
 exact this
theorem rZ {it a:Addr}{sl i n ep:Nat}{es:Array (Int×Value)}{t:SetTable}{o:Obj}{Q:Option Value→Shared→Prop}(hh:A.handled=none)(hit:s.heap.get? it=some (itObj (rawInt (sl:Int)) i a n ep))(ho:s.heap.get? a=some o)(hd:o.data=.set es ep t)(hf:t.fits es.size=true)(hn:es.size=n)
  (hx:∀ (Q:Option (Value×Nat)→Shared→Prop) (E:Value→Shared→Prop),Q none s→wpAny (model prog w) A.in1 (setNext a sl i ep) Q E s)
  (hQ:∀ h',Heap.ExtBut it s.heap h'→Q none { s with heap:=h' }):wpAny (model prog w) A (pyNext (.ref it)) Q E s:=by
 have hT:s.TypeIs (.ref it) "set_iterator" := ⟨_,hit,rfl⟩
 unfold pyNext
 refine wpAny_bind (wpAny_attempt (wpAny_callSpecial?_slot (name:=Str.ofString "__next__") hT aj (wpAny_call_entry aj hT aA ?_ (aD _))))
 show wpAny _ _ (fieldsOf (.ref it) >>= _) _ _ s
 refine wpAny_bind (wpAny_fieldsOf hit rfl ?_)
 show wpAny _ _ (setEntries a >>= _) _ _ s
 refine wpAny_bind (wpAny_setEntries_of ho hd hf ?_)
 rw[if_neg (by rw[hn];simp)]
 show wpAny _ _ (setNext a ((sl:Int)).toNat ((i:Int)).toNat ((ep:Int)).toNat >>= _) _ _ s
 simp only[Int.toNat_natCast]
 refine wpAny_bind (hx _ _ ?_)
 refine wpAny_bind (wpAny_setField hit rfl (by simp) ?_)
 exact qk hh fun h' v hT k=>wpAny_bind (wpAny_isInstance hT isSubtype_stop (wpAny_pure (hQ h' fun b o hb e=>k b o ((Heap.SameBut.update ..).extBut b o hb e))))
theorem oR {it a tp:Addr}{i n ep:Nat}{es:Array (Int×Value)}{t:SetTable}{o:Obj}{v:Value}{pl:List Value}{q:Nat}{tq:Tok}{Q:Option Value→Shared→Prop}(hit:s.heap.get? it=some (itObj (.ref tp) i a n ep))(ht:IsTup s.heap tp pl.toArray)(hp:pl[i]?=some (.int (q:Int) tq))(ho:s.heap.get? a=some o)(hd:o.data=.set es ep t)(hf:t.fits es.size=true)(hn:es.size=n)(hv:(es[q]?).map (·.2)=some v)
  (hQ:∀ h',h'.get? it=some (itObj (.ref tp) (i+1) a n ep)→Heap.SameBut it s.heap h'→Q (some v) { s with heap:=h' }):wpAny (model prog w) A (pyNext (.ref it)) Q E s:=by
 have hT:s.TypeIs (.ref it) "set_iterator" := ⟨_,hit,rfl⟩
 obtain⟨ot,het,hct,nt,hdt⟩:=id ht
 unfold pyNext
 refine wpAny_bind (wpAny_attempt (wpAny_callSpecial?_slot (name:=Str.ofString "__next__") hT aj (wpAny_call_entry aj hT aA ?_ (aD _))))
 show wpAny _ _ (fieldsOf (.ref it) >>= _) _ _ s
 refine wpAny_bind (wpAny_fieldsOf hit rfl ?_)
 show wpAny _ _ (setEntries a >>= _) _ _ s
 refine wpAny_bind (wpAny_setEntries_of ho hd hf ?_)
 rw[if_neg (by rw[hn];simp)]
 show wpAny _ _ (seqItems? (.ref tp) >>= _) _ _ s
 refine wpAny_bind (wpAny_seqItems het hdt ?_)
 have e1:pl.toArray[((i:Int)).toNat]?=some (.int (q:Int) tq):=by rw[Int.toNat_natCast];simpa using hp
 show wpAny _ _ (match pl.toArray[((i:Int)).toNat]? with | some (.int place _)=>_ | some _=>_ | none=>_) _ _ s
 rw[e1]
 show wpAny _ _ (setNextDrawn a ((q:Int)).toNat ((ep:Int)).toNat >>= _) _ _ s
 simp only[Int.toNat_natCast]
 cases eq:es[q]? with
 | none=>rw[eq]at hv;cases hv
 | some e =>
  rw[eq]at hv
  cases hv
  refine wpAny_bind ?_
  unfold setNextDrawn
  refine wpAny_bind (wpAny_setState_of ho hd hf ?_)
  dsimp only
  rw[if_neg (by simp),eq]
  refine wpAny_pure ?_
  refine wpAny_bind (wpAny_setField hit rfl (by simp) (wpAny_pure ⟨e.2,rfl,wpAny_pure (hQ _ ?_ (Heap.SameBut.update ..))⟩))
  have:=uq (j:=i+1) hit
  exact this
theorem r6 {it a tp:Addr}{i n ep:Nat}{es:Array (Int×Value)}{t:SetTable}{o:Obj}{pl:List Value}{Q:Option Value→Shared→Prop}(hh:A.handled=none)(hit:s.heap.get? it=some (itObj (.ref tp) i a n ep))(ht:IsTup s.heap tp pl.toArray)(hp:pl[i]?=none)(ho:s.heap.get? a=some o)(hd:o.data=.set es ep t)(hf:t.fits es.size=true)(hn:es.size=n)
  (hQ:∀ h',Heap.ExtBut it s.heap h'→Q none { s with heap:=h' }):wpAny (model prog w) A (pyNext (.ref it)) Q E s:=by
 have hT:s.TypeIs (.ref it) "set_iterator" := ⟨_,hit,rfl⟩
 obtain⟨ot,het,hct,nt,hdt⟩:=id ht
 unfold pyNext
 refine wpAny_bind (wpAny_attempt (wpAny_callSpecial?_slot (name:=Str.ofString "__next__") hT aj (wpAny_call_entry aj hT aA ?_ (aD _))))
 show wpAny _ _ (fieldsOf (.ref it) >>= _) _ _ s
 refine wpAny_bind (wpAny_fieldsOf hit rfl ?_)
 show wpAny _ _ (setEntries a >>= _) _ _ s
 refine wpAny_bind (wpAny_setEntries_of ho hd hf ?_)
 rw[if_neg (by rw[hn];simp)]
 show wpAny _ _ (seqItems? (.ref tp) >>= _) _ _ s
 refine wpAny_bind (wpAny_seqItems het hdt ?_)
 have e1:pl.toArray[((i:Int)).toNat]?=none:=by rw[Int.toNat_natCast];simpa using hp
 show wpAny _ _ (match pl.toArray[((i:Int)).toNat]? with | some (.int place _)=>_ | some _=>_ | none=>_) _ _ s
 rw[e1]
 have f1:(s.heap.update it (Obj.mapFields (·.setIfInBounds 0 (rawInt 0)))).get? it=some (itObj (rawInt 0) i a n ep):=Heap.get?_update_self (Obj.mapFields (·.setIfInBounds 0 (rawInt 0))) hit rfl
 refine wpAny_bind (wpAny_setField hit rfl (by simp) (wpAny_bind (wpAny_setField f1 rfl (by simp) ?_)))
 exact qk hh fun h' v hT k=>wpAny_bind (wpAny_isInstance hT isSubtype_stop (wpAny_pure (hQ h' fun b o hb e=>k b o (((Heap.SameBut.update ..).trans (Heap.SameBut.update ..)).extBut b o hb e))))
end
section
variable {prog:Program}{w:World}{A:Around}{E:Value→Shared→Prop}{s:Shared}
theorem lX {a:Addr}{o:Obj}{es:Array (Int×Value)}{ep i sl:Nat}{t:SetTable}{Q:Option (Value×Nat)→Shared→Prop}(hb:byT w=true)(ho:s.heap.get? a=some o)(hd:o.data=.set es ep t)(hf:t.fits es.size=true)
  (h:Q (((pickOrder (w.params.setOrder a ep) es)[i]?).map fun e=>(e.2,sl)) s):wpAny (model prog w) A (setNext a sl i ep) Q E s:=by
 unfold setNext
 refine wpAny_bind (wpAny_setState_of ho hd hf ?_)
 dsimp only
 unfold setsByText
 refine wpAny_bind (wpAny_bind (wpAny_askSetting (wpAny_pure ?_)))
 rw[if_pos (show (model prog w).w.params.followText "set-order"=true from hb)]
 rw[if_neg (by simp)]
 refine wpAny_bind ?_
 unfold setWalk
 refine wpAny_bind (wpAny_setState_of ho hd hf ?_)
 dsimp only
 unfold setsByText
 refine wpAny_bind (wpAny_bind (wpAny_askSetting (wpAny_pure ?_)))
 rw[if_pos (show (model prog w).w.params.followText "set-order"=true from hb)]
 refine wpAny_bind (wpAny_askSetting (wpAny_pure ?_))
 exact wpAny_pure h
def slotAt (t:SetTable):Nat→Nat
 | 0=>0
 | i+1=>t.place.getD i 0+1
theorem ur {t:SetTable}(r:Rise t.place){i:Nat}(h:i≤t.place.size):SetTable.below t.place (slotAt t i)=i:=by
 obtain⟨a,b,c⟩:=jh r (slotAt t i)
 cases i with
 | zero =>
  have:¬ 0 < SetTable.below t.place (slotAt t 0):=fun z=>by
   have:=a 0 (by omega) z
   exact absurd this (Nat.not_lt_zero _)
  omega
 | succ i =>
  have hi:i < t.place.size:=by omega
  have e:slotAt t (i+1)=t.place[i]+1:=by show t.place.getD i 0+1=_;rw[iH hi]
  have h1:¬ SetTable.below t.place (slotAt t (i+1))≤i:=fun z=>by
   have:=b i hi z;omega
  have h2:¬ i+1 < SetTable.below t.place (slotAt t (i+1)):=fun z=>by
   have hz:i+1 < t.place.size:=by omega
   have:=a (i+1) hz z
   have:=iI r (show i < i+1 by omega) hz
   omega
  omega
theorem j6 {a:Addr}{o:Obj}{es:Array (Int×Value)}{ep i k:Nat}{t:SetTable}{Q:Option (Value×Nat)→Shared→Prop}(hb:byT w=false)(hdr:(!t.plain&&decide (es.size > 1))=false)(hl:t.led=true)(r:Rise t.place)(ho:s.heap.get? a=some o)(hd:o.data=.set es ep t)(hf:t.fits es.size=true)(hi:i≤es.size)
  (h:Q ((es[i]?).map fun e=>(e.2,slotAt t (i+1))) s):wpAny (model prog w) A (setNext a (slotAt t i) k ep) Q E s:=by
 have hsz:t.place.size=es.size:=by
  simp only[SetTable.fits,Bool.and_eq_true,beq_iff_eq]at hf
  exact hf.1
 unfold setNext
 refine wpAny_bind (wpAny_setState_of ho hd hf ?_)
 dsimp only
 unfold setsByText
 refine wpAny_bind (wpAny_bind (wpAny_askSetting (wpAny_pure ?_)))
 rw[if_neg (show ¬ (model prog w).w.params.followText "set-order"=true from by show ¬ byT w=true;rw[hb];decide)]
 show wpAny _ _ (if (!t.plain&&decide (es.size > 1))=true then _ else _) _ _ _
 rw[hdr,if_neg (by decide)]
 refine wpAny_bind ?_
 show wpAny _ _ (if (!t.led && !es.isEmpty)=true then _ else pure ()) _ _ _
 rw[hl,if_neg (by simp)]
 refine wpAny_pure ?_
 rw[ur r (by omega)]
 cases e:es[i]? with
 | none =>
  rw[e]at h
  exact wpAny_pure h
 | some x =>
  rw[e]at h
  have hlt:i < t.place.size:=by rw[hsz];exact(Array.getElem?_eq_some_iff.mp e).1
  have ep':t.place[i]?=some t.place[i]:=Array.getElem?_eq_getElem hlt
  have es':slotAt t (i+1)=t.place[i]+1:=by show t.place.getD i 0+1=_;rw[iH hlt]
  rw[ep']
  rw[es']at h
  exact wpAny_pure h
theorem ip {it:Addr}{h h':Heap}(e:Heap.ExtBut it h h'):∀ b o,b∉[it]→h.get? b=some o→h'.get? b=some o:=fun b o hb q=>e b o (by simpa using hb) q
theorem eX:entryFor table "set_iterator.__iter__"=some Builtin.«dict_keyiterator.__iter__»:=entryFor_alias (id' := "dict_keyiterator.__iter__") (by kernel_rfl) rfl (by decide +kernel) (by kernel_rfl)
theorem fL (a:Value):argsOk "set_iterator.__iter__" ⟨[a],[]⟩:=by unfold argsOk;kernel_rfl
theorem fM {it a:Addr}{first:Value}{i n ep:Nat}{Q:Value→Shared→Prop}(hit:s.heap.get? it=some (itObj first i a n ep))(hQ:Q (.ref it) s):wpAny (model prog w) A (pyIter (.ref it)) Q E s:=by
 have hT:s.TypeIs (.ref it) "set_iterator" := ⟨_,hit,rfl⟩
 refine wpAny_pyIter_slot hT cz (wpAny_call_entry cz hT eX ?_ (fL _))
 show wpAny _ _ (ret (.ref it)) _ _ s
 exact wpAny_pure ⟨_,rfl,"set_iterator",_,hT,aj.lookup,hQ⟩
theorem jj (hh:A.handled=none){it a:Addr}{o:Obj}{es:Array (Int×Value)}{ep:Nat}{t:SetTable}{sl:Nat→Nat}{vs:List Value}(hia:it≠a)(hd:o.data=.set es ep t)(hf:t.fits es.size=true)(hn:vs.length=es.size)
  (hx:∀ (i:Nat),i≤es.size→∀ (A:Around) (E:Value→Shared→Prop) (s:Shared) (Q:Option (Value×Nat)→Shared→Prop),s.heap.get? a=some o→Q ((vs[i]?).map fun v=>(v,sl (i+1))) s→wpAny (model prog w) A (setNext a (sl i) i ep) Q E s) :
  Walks prog w A it [it,a] [it] es.size (fun i v=>vs[i]?=some v) (fun i h=>h.get? it=some (itObj (rawInt (sl i:Int)) i a es.size ep)∧h.get? a=some o) where
 sub:=fun b hb=>by simp at hb;simp[hb]
 frame:=fun i h h' st k=>⟨k it (by simp) _ st.1,k a (by simp) _ st.2⟩
 item:=fun i s Q E hi st hQ=>by
  have ei:vs[i]?=some (vs[i]'(by omega)):=List.getElem?_eq_getElem _
  refine oQ (v:=vs[i]'(by omega)) (nx:=sl (i+1)) st.1 st.2 hd hf rfl (fun Q' E' q=>hx i (by omega) _ _ _ _ st.2 (by rw[ei];exact q)) fun h' a1 a2=>?_
  exact hQ _ h' s.toks ei ⟨a1,(a2.2 a (Ne.symm hia)).trans st.2⟩ fun b o hb e=>(a2.2 b (by simpa using hb)).trans e
 done:=fun s Q E st hQ=>by
  have ei:vs[es.size]?=none:=List.getElem?_eq_none (by omega)
  refine rZ hh st.1 st.2 hd hf rfl (fun Q' E' q=>hx es.size (Nat.le_refl _) _ _ _ _ st.2 (by rw[ei];exact q)) fun h' e=>?_
  exact hQ h' s.toks (ip e)
 self:=fun i s Q E st hQ=>fM st.1 hQ
end
section
variable {prog:Program}{w:World}{A:Around}{E:Value→Shared→Prop}{s:Shared}
theorem nr {h h':Heap}{tp:Addr}{xs:Array Value}(t:IsTup h tp xs)(k:∀ o,h.get? tp=some o→h'.get? tp=some o):IsTup h' tp xs:=by
 rcases t with ⟨o,e,r⟩
 exact⟨o,k o e,r⟩
theorem oS (hh:A.handled=none){it a tp:Addr}{o:Obj}{es:Array (Int×Value)}{ep:Nat}{t:SetTable}{ys:List Nat}{vs:List Value}(hia:it≠a)(hit:it≠tp)(hd:o.data=.set es ep t)(hf:t.fits es.size=true)(hn:vs.length=ys.length)
  (hv:∀ (i q:Nat),ys[i]?=some q→(es[q]?).map (fun e=>e.2)=vs[i]?) :
  Walks prog w A it [it,a,tp] [it] vs.length (fun i v=>vs[i]?=some v) (fun i h=>h.get? it=some (itObj (.ref tp) i a es.size ep)∧h.get? a=some o∧IsTup h tp (ys.map fun (q:Nat)=>rawInt (q:Int)).toArray) where
 sub:=fun b hb=>by simp at hb;simp[hb]
 frame:=fun i h h' st k=>⟨k it (by simp) _ st.1,k a (by simp) _ st.2.1,nr st.2.2 fun o e=>k tp (by simp) o e⟩
 item:=fun i s Q E hi st hQ=>by
  have hy:ys[i]?=some (ys[i]'(by omega)):=List.getElem?_eq_getElem _
  have ei:vs[i]?=some (vs[i]'hi):=List.getElem?_eq_getElem _
  refine oR (q:=ys[i]'(by omega)) (v:=vs[i]'hi) st.1 st.2.2 (by rw[List.getElem?_map,hy];rfl) st.2.1 hd hf rfl (by rw[hv i _ hy,ei]) fun h' a1 a2=>?_
  exact hQ _ h' s.toks ei ⟨a1,(a2.2 a (Ne.symm hia)).trans st.2.1,nr st.2.2 fun o e=>(a2.2 tp (Ne.symm hit)).trans e⟩ fun b o hb e=>(a2.2 b (by simpa using hb)).trans e
 done:=fun s Q E st hQ=>by
  refine r6 hh st.1 st.2.2 (by rw[List.getElem?_map,List.getElem?_eq_none (by omega)];rfl) st.2.1 hd hf rfl fun h' e=>?_
  exact hQ h' s.toks (ip e)
 self:=fun i s Q E st hQ=>fM st.1 hQ
def Goes (prog:Program)(w:World)(A:Around)(n0:Nat)(a:Addr)(h:Heap)(it:Addr)(ms:List Int):Prop :=
 ∃ (fp:List Addr) (vs:List Value) (St:Nat→Heap→Prop),Walks prog w A it fp [it] vs.length (fun i v=>vs[i]?=some v) St∧IntsAre vs ms∧St 0 h∧∀ b∈fp,b < h.objs.size∧(b=a∨n0≤b)
theorem dz {vs vs':List Value}{ns:List Int}(p:vs.Perm vs')(h:IntsAre vs ns):∃ ms,IntsAre vs' ms∧ms.Perm ns:=by
 obtain⟨ms,a,b⟩:=c8 p h
 exact⟨ms,a,b.symm⟩
theorem r8 {es:Array (Int×Value)}{ys:List Nat}(p:ys.Perm (List.range es.size)):(es.toList.map (·.2)).Perm (ys.map fun q=>(es.getD q default).2):=by
 have e:es.toList.map (·.2)=(List.range es.size).map fun q=>(es.getD q default).2:=by
  apply List.ext_getElem
  ·simp
  ·intro i h1 h2
   have:i < es.size:=by simpa using h1
   simp[Array.getD,this]
 rw[e]
 exact(p.map _).symm
theorem r9 {a:Addr}{ns:List Int}{Q:Value→Shared→Prop}(hS:SetR prog w s.heap a ns)
  (q:∀ h' d it ms,(∀ b o,s.heap.get? b=some o→h'.get? b=some o)→s.heap.objs.size≤it→ms.Perm ns→(∀ A:Around,A.handled=none→Goes prog w A s.heap.objs.size a h' it ms)→Q (.ref it) { s with heap:=h',drawn:=d }) :
  wpAny (model prog w) A (pyIter (.ref a)) Q E s:=by
 rcases hS with ⟨o,es,ep,t,ho,hx,hd,el,hI,hb,hf,hr,hl⟩
 have hT:s.TypeIs (.ref a) "set" := ⟨o,ho,hx.1⟩
 have la:a < s.heap.objs.size:=Heap.lt_size ho
 refine wpAny_pyIter_slot hT PySem.F.slot_set_iter (wpAny_call_entry PySem.F.slot_set_iter hT ji ?_ (PySem.F.args_set_iter_1 _))
 unfold Builtin.«frozenset.__iter__» Builtin.Frozenset.slot0 slotArgs Builtin.Frozenset.sizeOf Builtin.Frozenset.addrOf setDrawn setEpoch setsByText
 refine wpAny_bind (wpAny_bind (wpAny_pure (wpAny_pure ?_)))
 refine wpAny_bind (wpAny_bind (wpAny_setEntries_of ho hd hf (wpAny_pure ?_)))
 refine wpAny_bind (wpAny_bind (wpAny_setState_of ho hd hf (wpAny_bind (wpAny_bind (wpAny_askSetting (wpAny_pure ?_))))))
 refine wpAny_pure ?_
 have fin:∀ (first:Value) (s1:Shared),s1.heap.get? a=some o→Q (.ref s1.heap.objs.size) { s1 with heap:=s1.heap.push (itObj first 0 a es.size ep) } →
   wpAny (model prog w) A.in1 (do let e ← (do let x ← setState a;pure x.2.1);let v ← newFields "set_iterator" [first,rawInt 0,.ref a,rawInt (es.size:Int),rawInt (e:Int)];ret v) (fun fin s'=>∃ v,fin=.done (.ret v)∧∃ T' r,s'.TypeIs v T'∧typeLookup (.type T') "__next__"=pure (some r)∧Q v s') E s1:=by
  intro first s1 e1 hq
  refine wpAny_bind (wpAny_bind (wpAny_setState_of e1 hd hf (wpAny_pure ?_)))
  refine wpAny_bind (wpAny_newObj_type ?_ (by size_fits))
  exact wpAny_pure ⟨_,rfl,"set_iterator",_,⟨_,Heap.get?_push_size _ rfl,rfl⟩,aj.lookup,hq⟩
 have ne:∀ {h:Heap},a < h.objs.size→h.objs.size≠a:=fun l=>Nat.ne_of_gt l
 show wpAny _ _ (if (!byT w&&(!t.plain&&decide (es.size > 1)))=true then _ else _) _ _ s
 by_cases c:(!byT w&&(!t.plain&&decide (es.size > 1)))=true
 ·rw[if_pos c]
  refine wpAny_bind (qi _ _ s (by simp) fun ys d p=>?_)
  have ly:ys.length=es.size:=by have:=p.length_eq;simpa using this
  refine wpAny_bind (wpAny_newTuple ?_ (by rw[List.length_map,ly];have:=fits_of_scanBound hb;exact this))
  obtain⟨ms,mI,mp⟩:=dz (r8 p) hI
  have e1:(s.heap.push { cls:=.type "tuple",data:=.seq (ys.map fun (q:Nat)=>rawInt (q:Int)).toArray }).get? a=some o:=Heap.get?_push_of_some _ ho
  refine fin _ _ e1 (q _ d _ ms (fun b o e=>Heap.get?_push_of_some _ (Heap.get?_push_of_some _ e)) ?_ mp fun A hh=>?_)
  ·show s.heap.objs.size≤(s.heap.push _).objs.size
   rw[size_push'];exact Nat.le_succ _
  ·refine⟨_,_,_,oS hh (t:=t) (ys:=ys) (es:=es) (ep:=ep) (o:=o) (a:=a) (tp:=s.heap.objs.size) ?_ ?_ hd hf (by simp) ?_,mI,⟨Heap.get?_push_size _ rfl,Heap.get?_push_of_some _ e1,⟨_,Heap.get?_push_of_some _ (Heap.get?_push_size _ rfl),rfl,_,rfl⟩⟩,?_⟩
   ·exact ne (Heap.lt_size e1)
   ·show (s.heap.push _).objs.size≠_
    rw[size_push'];exact Nat.succ_ne_self _
   ·intro i q hq
    have hm:q∈List.range es.size:=p.subset (List.mem_of_getElem? hq)
    have hlt:q < es.size:=List.mem_range.mp hm
    rw[List.getElem?_map,hq]
    simp[Array.getD,hlt]
   ·intro b hb
    show b < ((s.heap.push _).push _).objs.size∧_
    rw[size_push',size_push']
    rcases List.mem_cons.mp hb with rfl | hb
    ·show (s.heap.push _).objs.size < _∧(_∨s.heap.objs.size≤(s.heap.push _).objs.size)
     rw[size_push'];exact⟨Nat.lt_succ_self _,.inr (Nat.le_succ _)⟩
    ·rcases List.mem_cons.mp hb with rfl | hb
     ·exact⟨Nat.lt_succ_of_lt (Nat.lt_succ_of_lt la),.inl rfl⟩
     ·rcases List.mem_cons.mp hb with rfl | hb
      ·exact⟨Nat.lt_succ_of_lt (Nat.lt_succ_self _),.inr (Nat.le_refl _)⟩
      ·cases hb
 ·rw[if_neg c]
  refine wpAny_bind (wpAny_pure ?_)
  have low:∀ b∈[s.heap.objs.size,a],b < (s.heap.push (itObj (rawInt 0) 0 a es.size ep)).objs.size∧(b=a∨s.heap.objs.size≤b):=by
   intro b hb
   rw[size_push']
   rcases List.mem_cons.mp hb with rfl | hb
   ·exact⟨Nat.lt_succ_self _,.inr (Nat.le_refl _)⟩
   ·rcases List.mem_cons.mp hb with rfl | hb
    ·exact⟨Nat.lt_succ_of_lt la,.inl rfl⟩
    ·cases hb
  by_cases bt:byT w=true
  ·have pp:=kY (w.params.setOrder a ep) es.size 0 es.toList #[] (by simp)
   have pq:(pickOrder (w.params.setOrder a ep) es).toList.Perm es.toList:=by unfold pickOrder;simpa using pp
   obtain⟨ms,mI,mp⟩:=dz (pq.symm.map (·.2)) hI
   have lv:((pickOrder (w.params.setOrder a ep) es).toList.map (·.2)).length=es.size:=by rw[List.length_map,pq.length_eq,Array.length_toList]
   refine fin _ _ ho (q _ s.drawn _ ms (fun b o e=>Heap.get?_push_of_some _ e) (Nat.le_refl _) mp fun A hh=>⟨_,_,fun i h=>h.get? s.heap.objs.size=some (itObj (rawInt ((0:Nat):Int)) i a es.size ep)∧h.get? a=some o,?_,mI,?_,low⟩)
   ·have W:=jj hh (prog:=prog) (w:=w) (it:=s.heap.objs.size) (a:=a) (sl:=fun _=>0) (vs:=(pickOrder (w.params.setOrder a ep) es).toList.map (·.2)) (ne la) hd hf lv fun i hi A E s Q e hq=>lX bt e hd hf (by
     have e2:(((pickOrder (w.params.setOrder a ep) es).toList.map (·.2))[i]?).map (fun v=>(v,0))=((pickOrder (w.params.setOrder a ep) es)[i]?).map fun e=>(e.2,0):=by simp[Function.comp_def]
     rw[← e2];exact hq)
    rw[lv]
    exact W
   ·exact⟨Heap.get?_push_size _ rfl,Heap.get?_push_of_some _ ho⟩
  ·have bf:byT w=false:=by simpa using bt
   have lv:(es.toList.map (·.2)).length=es.size:=by simp
   refine fin _ _ ho (q _ s.drawn _ ns (fun b o e=>Heap.get?_push_of_some _ e) (Nat.le_refl _) (.refl _) fun A hh=>⟨_,_,fun i h=>h.get? s.heap.objs.size=some (itObj (rawInt ((slotAt t i:Nat):Int)) i a es.size ep)∧h.get? a=some o,?_,hI,?_,low⟩)
   ·have W:=jj hh (prog:=prog) (w:=w) (it:=s.heap.objs.size) (a:=a) (sl:=slotAt t) (vs:=es.toList.map (·.2)) (ne la) hd hf lv fun i hi A E s Q e hq=>j6 bf (by simpa [bf] using c) (by rw[hl,bf];rfl) hr e hd hf hi (by
     have e2:((es.toList.map (·.2))[i]?).map (fun v=>(v,slotAt t (i+1)))=(es[i]?).map fun e=>(e.2,slotAt t (i+1)):=by simp[Function.comp_def]
     rw[← e2];exact hq)
    rw[lv]
    exact W
   ·exact⟨Heap.get?_push_size _ rfl,Heap.get?_push_of_some _ ho⟩
end
section
variable {prog:Program}{w:World}{A:Around}{E:Value→Shared→Prop}{s:Shared}
abbrev lobj (xs:Array Value)(c:Nat):Obj:={ cls:=.type "list",dict:=none,data:=.seq xs c,slots:=#[] }
theorem ut {S:Addr}{c:Nat}{Q:Unit→Shared→Prop}(hS:s.heap.get? S=some (lobj #[] c))(q:∀ h' c',Heap.SameBut S s.heap h'→h'.get? S=some (lobj #[] c')→Q () { s with heap:=h' }) :
  wpAny (model prog w) A (Builtin.List.listTouch (.ref S)) Q E s:=by
 have e1:=Heap.get?_update_self (Obj.mapSeq (·.push Value.none)) hS rfl
 have e2:=Heap.get?_update_self (Obj.mapSeq (·.pop)) e1 rfl
 have go:wpAny (model prog w) A (updateSeq S (·.push .none) >>= fun _=>updateSeq S (·.pop)) Q E s :=
  wpAny_bind (wpAny_updateSeq hS rfl (wpAny_updateSeq e1 rfl (q _ _ ((Heap.SameBut.update ..).trans (Heap.SameBut.update ..)) e2)))
 exact go
theorem uu {a:Addr}{Q:Bool→Shared→Prop}(hT:s.TypeIs (.ref a) "set")(q:Q false s):wpAny (model prog w) A (Builtin.List.listLengthHint (.ref a)) Q E s:=by
 unfold Builtin.List.listLengthHint
 refine wpAny_bind (wpAny_specialOf hT PySem.F.slot_set_len.lookup ?_)
 have e1:splitId "set.__len__"=some ("set","__len__"):=by decide +kernel
 dsimp only
 rw[e1]
 refine wpAny_bind (wpAny_isInstance hT sub_set_self ?_)
 rw[if_neg (by decide),if_pos (by decide +kernel)]
 exact wpAny_bind (wpAny_typeOf hT (wpAny_pure q))
theorem oT {vs:List Value}{acc:Array Value}(h:ItemsOf (fun i v=>vs[i]?=some v) acc vs.length):acc.toList=vs:=by
 apply List.ext_getElem?
 intro i
 by_cases c:i < acc.size
 ·rw[Array.getElem?_toList,Array.getElem?_eq_getElem c]
  exact(h.2 i _ (Array.getElem?_eq_getElem c)).symm
 ·have:=h.1
  rw[List.getElem?_eq_none (by simp;omega),List.getElem?_eq_none (by omega)]
theorem sd {S a:Addr}{ns:List Int}{c:Nat}{R:Result→Shared→Prop}(hh:A.handled=none)(hn:ns.length≤sizeLine)(hS:SetR prog w s.heap a ns)(hl:s.heap.get? S=some (lobj #[] c))
  (q:∀ h' d tk vs ms c',(∀ b o,b≠S→s.heap.get? b=some o→h'.get? b=some o)→IntsAre vs ms→ms.Perm ns→h'.get? S=some (lobj vs.toArray c')→R (.ok (.ret (.ref S))) { s with heap:=h',drawn:=d,toks:=tk }) :
  codeAny (model prog w) A (.builtin "list.__iadd__" ⟨[.ref S,.ref a],[]⟩) R s:=by
 have hT:s.TypeIs (.ref a) "set" := by
  rcases hS with ⟨o,-,-,-,ho,hx,-⟩
  exact⟨o,ho,hx.1⟩
 have ne:S≠a:=fun e=>by
  rcases hT with ⟨o,ho,hc⟩
  rw[← e,hl,Option.some.injEq]at ho
  rw[← ho]at hc
  exact absurd hc (show ¬ Value.type "list"=Value.type "set" by decide)
 refine codeAny_builtin PySem.F.entry_list_iadd ?_
 rw[Around.under_plainId PySem.F.plain_list_iadd _]
 have go:wpAny (model prog w) A.in1 (Builtin.List.listExtendWith (.ref S) (.ref a) (.ref S)) (fun fin s'=>match fin with | .done f=>R (.ok f) s' | .again c'=>c'.quiet=true∧codeAny (model prog w) A c' R s') (fun e s'=>R (.error e) s') s:=by
  unfold Builtin.List.listExtendWith
  refine wpAny_bind (wpAny_typeOf hT ?_)
  rw[if_neg (by simp[Builtin.List.listSameRef,ne])]
  refine wpAny_bind (r9 hS fun h1 d it ms k1 li mp go=>?_)
  refine wpAny_bind (wpAny_holding (uu (hT.imp fun o h=>⟨k1 _ _ h.1,h.2⟩) ?_))
  rw[if_pos (by decide +kernel)]
  refine wpAny_bind (wpAny_rule (wpAny_bind (ut (s:={ s with heap:=h1,drawn:=d }) (k1 _ _ hl) fun h2 c2 k2 e2=>?_)))
  obtain⟨fp,vs,St,W,vI,st,lo⟩:=go A.in1 (by simpa using hh)
  have lS:S < s.heap.objs.size:=Heap.lt_size hl
  have fS:S∉fp:=fun z=>by
   rcases(lo S z).2 with e | e
   ·exact ne e
   ·exact absurd lS (Nat.not_lt_of_le e)
  have iS:S≠it:=Nat.ne_of_lt (Nat.lt_of_lt_of_le lS li)
  have lv:vs.length=ms.length:=vI.length
  refine wpAny_pure ⟨plainId_quiet PySem.F.plain_extend_loop _,codeAny_extend_loopS W.toS (by rw[lv,mp.length_eq];exact hn) S fS (.ref S) _ 0 _ #[] c2 rfl (Nat.zero_le _) (W.frame 0 h1 h2 st fun b hb o e=>(k2.2 b fun z=>fS (z ▸ hb)).trans e) e2 (ItemsOf.nil _) fun s' acc c' mv e3 it3=>?_⟩
  have ea:acc=vs.toArray:=by rw[← oT it3]
  obtain⟨h3,g3,d3,t3,o3⟩:=s'
  have m1:=mv.gens
  have m2:=mv.drawn
  have m3:=mv.os
  dsimp only at m1 m2 m3
  subst m1;subst m2;subst m3
  rw[ea]at e3
  refine q h3 _ t3 vs ms c' (fun b o hb e=>?_) vI mp e3
  by_cases z:b=it
  ·subst z
   exact absurd (Heap.lt_size e) (Nat.not_lt_of_le li)
  ·exact mv.heap b o (by simp[hb,z]) ((k2.2 b hb).trans (k1 b o e))
 exact go
theorem lY {a:Addr}{ns:List Int}{Q:List Value→Shared→Prop}(hh:A.handled=none)(hn:ns.length≤sizeLine)(hS:SetR prog w s.heap a ns)
  (q:∀ h' d tk vs ms,(∀ b o,s.heap.get? b=some o→h'.get? b=some o)→IntsAre vs ms→ms.Perm ns→Q vs { s with heap:=h',drawn:=d,toks:=tk }):wpAny (model prog w) A (collect (.ref a)) Q E s:=by
 unfold collect
 refine wpAny_bind (wpAny_runValue (codeAny_builtin PySem.F.entry_proto_collect ?_))
 rw[Around.under_plainId PySem.F.plain_proto_collect _]
 unfold Builtin.«proto.collect»
 have hS1:SetR prog w (s.heap.push (lobj #[] 0)) a ns:=by
  rcases hS with ⟨o,es,ep,t,ho,r⟩
  exact⟨o,es,ep,t,Heap.get?_push_of_some _ ho,r⟩
 refine wpAny_bind (wpAny_newList (wpAny_pure ⟨plainId_quiet PySem.F.plain_list_iadd _,sd (by simpa using hh) hn hS1 (Heap.get?_push_size _ rfl) fun h' d tk vs ms c' k vI mp e=>?_⟩))
 refine wpAny_bind (wpAny_load e (wpAny_pure ?_))
 exact q h' d tk vs ms (fun b o z=>k b o (Nat.ne_of_lt (Heap.lt_size z)) (Heap.get?_push_of_some _ z)) vI mp
end
def dSortS:List D→R D
 | [.lst xs]=>match intsOf xs with
  | some is=>if (onceI is).length < 64 then .ok (.lst ((sortI (onceI is)).map .int)) else .stuck
  | none=>.stuck
 | _=>.stuck
section
variable {prog:Program}{w:World}{A:Around}{E:Value→Shared→Prop}{s:Shared}
theorem nu {a:Addr}{ns:List Int}{Q:Value→Shared→Prop}(hh:A.handled=none)(h64:ns.length < 64)(hS:SetR prog w s.heap a ns)
  (q:∀ (h1 h':Heap) d tk vs n,(∀ b o,s.heap.get? b=some o→h1.get? b=some o)→(∀ b o,h1.get? b=some o→h'.get? b=some o)→IntsAre vs (sortI ns)→h'.get? h1.objs.size=some (seqObj "list" vs.toArray n)→Q (.ref h1.objs.size) { s with heap:=h',drawn:=d,toks:=tk }) :
  wpAny (model prog w) A (call (.builtin "sorted") [.ref a]) Q E s:=by
 refine Calls.call_function_entry kind_sorted plain_sorted entry_sorted (args_sorted1 _) ?_
 have go:wpAny (model prog w) A.in1 (collect (.ref a) >>= fun xs=>newList xs >>= fun l=>holding [l] (call (.builtin "list.sort") [l]) >>= fun _=>ret l) (fun fin s'=>∃ v,fin=.done (.ret v)∧Q v s') E s:=by
  refine wpAny_bind (lY (by simpa using hh) (by rw[sizeLine_eq];omega) hS fun h1 d tk vs ms k vI mp=>?_)
  have lv:vs.length < 64:=by rw[vI.length,mp.length_eq];exact h64
  refine wpAny_bind (wpAny_newList ?_ (by rw[sizeLine_eq];omega))
  have e1:(h1.push (seqObj "list" vs.toArray 0)).get? h1.objs.size=some (seqObj "list" vs.toArray 0):=Heap.get?_push_size _ rfl
  refine wpAny_bind (wpAny_holding (wpAny_call_entry slot_list_sort ⟨_,e1,rfl⟩ entry_list_sort (list_sort_tree e1 vI lv fun out ns' a1 a2 a3=>⟨_,rfl,?_⟩) (args_list_sort _)))
  have e2:=eU ((a2.trans mp).trans (bi ns).symm) a3 (fI ns)
  subst e2
  obtain⟨n,hn⟩:=sortedHeap_at (out:=out) e1
  refine wpAny_pure ⟨_,rfl,q h1 _ d tk out.toList n k (fun b o e=>?_) a1 (by simpa using hn)⟩
  have lt:=Heap.lt_size e
  refine(sortedHeap_old (Nat.ne_of_lt lt) ?_).trans (Heap.get?_push_of_some _ e)
  rw[size_push']
  exact Nat.lt_succ_of_lt lt
 exact go
end
section
variable {X:Cx}{F:Fx}{p p2 pos pos2:Pos}{e:Expr}{gs:SS→R (List D)}{k:Nat}
theorem uv {pins:List (Addr×Obj)}{σ:List (Option V)}{H:Hp}{s:Shared}(I:Inv X pins σ H s)(d:Drawn):Inv X pins σ H { s with drawn:=d }:=⟨I.ok,I.os,I.bare,I.base,I.loc,I.cell,I.free,I.freeC,I.pin,I.hok,I.len⟩
def setφ (X:Cx)(a:Addr)(is:List Int):Heap→Prop:=fun h=>∃ ns,SetR X.prog X.w h a ns∧ns.Perm (onceI is)
theorem se {a:Addr}{is:List Int}(h1 h2:Heap)(q:setφ X a is h1)(k:∀ o,h1.get? a=some o→h2.get? a=some o):setφ X a is h2:=by
 rcases q with ⟨ns,⟨o,es,ep,t,ho,r⟩,p⟩
 exact⟨ns,⟨o,es,ep,t,k o ho,r⟩,p⟩
theorem sf (hc:X.calm=true):CallR X (.type "set") (fun xs H Q=>∃ (p:Addr) (is:List Int),xs=[.ref p]∧SqL X.K H p (is.map V.int)∧(onceI is).length < 64∧∀ a,H a=none→Q (.ref a) (upd H a (.ext (setφ X a is)))):=by
 intro pins s σ H xs us Q I r h
 obtain⟨p,is,rfl,hq,hl,q⟩:=h
 obtain⟨u,rfl,ru⟩:=vals1 r
 cases ru
 obtain⟨its,rv,pl,hz⟩:=I.list hq
 refine rX (I.ok.hd hc) pl.isList (om rv) (by show _ < 4096;omega) fun h' tk ns S p kk=>?_
 refine⟨.ref s.heap.objs.size,_,I.laid (o:=.ext (setφ X s.heap.objs.size is)) (t':=tk) (fun b u q=>kk b u (Heap.lt_size q) q) (Nat.le_refl _) ⟨⟨ns,S,p⟩,?_,se⟩,rfl,q _ I.fresh⟩
 rcases S with ⟨o,-,-,-,ho,-⟩
 exact⟨o,ho⟩
theorem oU (hc:X.calm=true):CallR X (.builtin "sorted") (fun xs H Q=>∃ (a:Addr) (is:List Int),xs=[.ref a]∧H a=some (.ext (setφ X a is))∧(onceI is).length < 64∧∀ p,H p=none→Q (.ref p) (upd H p (.lst ((sortI (onceI is)).map V.int)))):=by
 intro pins s σ H xs us Q I r h
 obtain⟨a,is,rfl,hq,hl,q⟩:=h
 obtain⟨u,rfl,ru⟩:=vals1 r
 cases ru
 obtain⟨⟨ns,S,pm⟩,-,-⟩:=(show ObjOk X.prog X.w H s.heap a (.ext (setφ X a is)) from I.hok a _ hq)
 refine nu (I.ok.hd hc) (by rw[pm.length_eq];exact hl) S fun h1 h' d tk vs n k1 k2 vI e=>?_
 have es:sortI ns=sortI (onceI is):=eU ((bi _).trans (pm.trans (bi _).symm)) (fI _) (fI _)
 rw[es]at vI
 have I1:=uv (I.kept (t':=tk) k1) d
 have hz:((sortI (onceI is)).map V.int).length≤sizeLine:=by rw[List.length_map,(bi _).length_eq,sizeLine_eq];omega
 exact⟨.ref h1.objs.size,_,I1.laid (a:=h1.objs.size) (o:=.lst ((sortI (onceI is)).map V.int)) (t':=tk) k2 (Nat.le_refl _) ⟨hz,vs,n,L2.gw vI,e⟩,rfl,q _ I1.fresh⟩
theorem lZ (bx:BX X F k)(hg:Gl X "sorted")(hm:X.mg "sorted"=none)(hg2:Gl X "set")(hm2:X.mg "set"=none)(ha:FA X F [e] gs)(he:starEach [e] X.env=(false,eval e X.env)::starEach [] X.env:=by rfl)(hpl:(backTo pos2 (starEach [] X.env)).any (·.1)=false:=by rfl)
  (he2:starEach [.Call (.Name "set" p2) [e] [] pos2] X.env=(false,eval (.Call (.Name "set" p2) [e] [] pos2) X.env)::starEach [] X.env:=by rfl) (hpl2:(backTo pos (starEach [] X.env)).any (·.1)=false:=by rfl) :
  FE X F (.Call (.Name "sorted" p) [.Call (.Name "set" p2) [e] [] pos2] [] pos) (eCall dSortS gs) :=
 (b0 (oU bx.calm) hg hm boot_sorted (aH (d9 (sf bx.calm) hg2 hm2 (by decide +kernel) ha (he:=he) (hpl:=hpl)) cH he2) (he:=he2) (hpl:=hpl2)).weak fun σ H Q ⟨Z,S,ok,w⟩=>by
  refine aw ok w fun ds vs H1 Z1 ok1 x1 rs w1=>?_
  unfold dSortS at w1
  split at w1
  ·rename_i xs
   split at w1
   ·rename_i is e
    split at w1
    ·rename_i hl
     obtain⟨v,rfl,h⟩:=aI rs
     rw[Rep]at h
     obtain⟨a,us,rfl,h1,h2⟩:=h
     have e2:=i7 h2 e
     subst e2
     refine⟨a,is,rfl,by rw[bx.K];exact ok1.sub.seq h1,hl,fun c hc=>⟨c,is,rfl,af,hl,fun p hp=>?_⟩⟩
     have x1:=Ex.hidden (o:=.ext (setφ X c is)) ok1.sub hc
     exact w1 _ _ (x1.trans (Ex.alloc x1.sub hp)) _ (by rw[Rep];exact⟨p,_,rfl,SqL.of af,jf _⟩)
    ·exact w1.elim
   ·exact w1.elim
  ·exact w1.elim
end
section
variable {X:Cx}{F:Fx}
def eOwnLen (i:Nat):SS→R D:=fun S=>match S[i]? with
 | some (some (.own ds))=>.ok (.int (ds.length:Nat))
 | _=>.stuck
theorem sg (i:Nat){x:Str}{p p0 pos:Pos}{k:Nat}(bx:BX X F k)(hg:Gl X "len")(hm:X.mg "len"=none)(hi:X.N[i]?=some x:=by rfl)(hv:Vis X.env.scope x:=by first | exact Or.inl rfl | exact Or.inr (Or.inl rfl) | exact Or.inr (Or.inr rfl))(hd:(x==("__debug__":Str))=false:=by decide)
  (hcd:(x==("__classdict__":Str))=false:=by decide) (he:starEach [.Name x p0] X.env=(false,eval (.Name x p0) X.env)::starEach [] X.env:=by rfl) (hpl:(backTo pos (starEach [] X.env)).any (·.1)=false:=by rfl):FE X F (.Call (.Name "len" p) [.Name x p0] [] pos) (eOwnLen i) :=
 (b0 fu hg hm PySem.boot_len (aH (cG hi hv hd hcd) cH he) (he:=he) (hpl:=hpl)).weak fun σ H Q ⟨Z,S,ok,w⟩=>by
  unfold eOwnLen at w
  split at w
  ·rename_i ds e0
   obtain⟨a,vs,e1,e2,e3,e4,r⟩:=ok.own i ds e0
   refine⟨.ref a,e1,a,vs,rfl,.inl (SqL.of e2),?_⟩
   rw[← r.length]
   exact WG.now w ok.sub _ ax
  ·exact w.elim
variable {σ':Type}{S:SS}{st:Stmt}{rest:List Stmt}{J:σ'→SS→Prop}
end
inductive Prd {α β:Type}(R:α→β→Prop):List α→List β→Prop
 | nil:Prd R [] []
 | cons {a b l r}:R a b→Prd R l r→Prd R (a::l) (b::r)
section
variable {prog:Program}{w:World}{E:Value→Shared→Prop}
end
theorem Prd.length {α β:Type}{R:α→β→Prop}:∀ {l:List α} {r:List β},Prd R l r→l.length=r.length
 | _,_,.nil=>rfl
 | _,_,.cons _ t=>by rw[List.length_cons,List.length_cons,t.length]
section
variable {prog:Program}{w:World}{A:Around}{E:Value→Shared→Prop}{s:Shared}{R:Result→Shared→Prop}
end
section
variable {X:Cx}{F:Fx}{p p2 pos pos2:Pos}{e:Expr}{gs:SS→R (List D)}{k:Nat}{pins:List (Addr×Obj)}{σ:List (Option V)}{H:Hp}{s:Shared}
end
end FF
end
noncomputable section
set_option maxRecDepth 1000000
namespace FF
open PySem PySem.Spec PyProof.Rows L2
def ltOf:Code→Option Value→Option Bool
 | .call (.builtin id) ⟨[.int a _,.int b _],[]⟩,none=>if id="int.__lt__" then some (decide (a < b)) else none
 | _,_=>none
def ev {α:Type}(σ:Setting):Sem α→Option α
 | .pure a=>some a
 | .rule _ k=>ev σ (k ())
 | .point _ k=>ev σ (k ())
 | .ask k=>ev σ (k σ)
 | .call c h _ _ k=>match ltOf c h with
  | some b=>ev σ (k (.ok (.ret (.bool b))))
  | none=>none
 | _=>none
section
variable {prog:Program}{w:World}{A:Around}{E:Value→Shared→Prop}{s:Shared}
end
def known (f:Nat→Int)(t:Nat→Tok):List Value:=(List.range 64).map fun i=>.int (f i) (t i)
section
variable {prog:Program}{w:World}{A:Around}{E:Value→Shared→Prop}{s:Shared}
end
section
variable {X:Cx}{F:Fx}{p pos:Pos}{e:Expr}{gs:SS→R (List D)}{k:Nat}
end
def oStN (ds:List D)(i v:D):R (List D):=match i with
 | .int j=>match L2.ixN ds.length j with
  | some n=>.ok (ds.set n v)
  | none=>.stuck
 | _=>.stuck
def sStoN (i:Nat)(g ge:SS→R D):SS→O:=fun S=>match S[i]? with
 | some (some (.own ds))=>rO ((((ge S).bind fun v=>(g S).bind fun j=>oStN ds j v)).bind fun ds'=>.ok (.nx (S.set i (some (.own ds')))))
 | _=>.stuck
section
variable {X:Cx}{F:Fx}{pos:Pos}{k:Nat}{g ge:SS→R D}{e ei:Expr}{x:Str}
theorem si (i:Nat){p0 pos':Pos}(bx:BX X F k)(he:FE X F e ge)(hix:FE X F ei g)(hi:X.N[i]?=some x:=by rfl)(hv:Vis X.env.scope x:=by first | exact Or.inl rfl | exact Or.inr (Or.inl rfl) | exact Or.inr (Or.inr rfl))(hd:(x==("__debug__":Str))=false:=by decide)
  (hcd:(x==("__classdict__":Str))=false:=by decide)
  (hasg:∀ v,assign (.Subscript (.Name x p0) ei pos') X.env v=(do
   let ov ← holding [v] (eval (.Name x p0) X.env)
   let iv ← holding [v,ov] (eval ei X.env)
   standAt pos'
   holding [v,ov,iv] (setItem ov iv v)
   release [v,ov,iv] []):=by intro _;rfl)
  (hs:swapsWithSole [.Subscript (.Name x p0) ei pos'] e pos.line X.env=pure false:=by rfl) (hw:swappedStores [.Subscript (.Name x p0) ei pos'] e X.env=pure none:=by rfl)
  (h1:(assignEach [.Subscript (.Name x p0) ei pos'] X.env).map (·.2)=[assign (.Subscript (.Name x p0) ei pos') X.env]:=by rfl) :
  FS X F (.Assign [.Subscript (.Name x p0) ei pos'] e pos) (sStoN i g ge) :=
 (sR he (yj (cG hi hv hd hcd) hix tm hasg) hs hw h1).weak fun D σ H ⟨Z,S,ok,w⟩=>by
  unfold sStoN at w
  cases q:S[i]? with
  | none=>rw[q]at w;exact w.elim
  | some o =>
   cases o with
   | none=>rw[q]at w;exact w.elim
   | some y =>
    cases y with
    | own ds =>
     rw[q]at w
     have w0:WO F Z (rO ((ge S).bind fun v=>((g S).bind fun j=>oStN ds j v).bind fun ds'=>R.ok (O.nx (S.set i (some (.own ds')))))) D:=by
      rw[← R.bind_assoc];exact w
     refine ah ok (WO.wg ok w0) fun d v H1 Z1 ok1 x1 rv w1=>?_
     obtain⟨a,vs,e1,e2,e3,e4,r⟩:=ok1.own i ds q
     have w1':WG F H1 Z1 ((g S).bind fun j=>(oStN ds j d).bind fun ds'=>R.ok (O.nx (S.set i (some (.own ds'))))) fun o _ Z'=>WO F Z' o D:=by
      rw[← R.bind_assoc];exact w1
     refine⟨.ref a,e1,ah ok1 w1' fun d2 v2 H2 Z2 ok2 x2 rv2 w2=>?_⟩
     cases d2 with
     | int j =>
      rw[Rep]at rv2
      cases qj:L2.ixN ds.length j with
      | none =>
       have:oStN ds (.int j) d=.stuck:=by unfold oStN;simp only[qj]
       rw[this]at w2
       exact w2.elim
      | some n =>
       have:oStN ds (.int j) d=.ok (ds.set n d):=by unfold oStN;simp only[qj]
       rw[this]at w2
       refine⟨a,vs,j,n,rfl,rv2,x2.same _ _ e2,by rw[← r.length];exact qj,?_⟩
       have w4:=WG.now w2 ok2.sub
       exact w4 σ _ Z2 (Same.refl _) (ok2.write q e1 (Reps.setAt (rv.mono x2.z) n (r.mono x2.z)))
     | _=>exact w2.elim
    | _=>rw[q]at w;exact w.elim
end
def dAddS:D→D→R D
 | .str a,.str b=>if a.length+b.length≤16777216 then .ok (.str (a++b)) else .stuck
 | _,_=>.stuck
def dStrI:List D→R D
 | [.int i]=>if i.natAbs.log2 < 1920 then .ok (.str (toString i)) else .stuck
 | _=>.stuck
def dLenS:List D→R D
 | [.str y]=>if y.length≤16777216 then .ok (.int (y.length:Nat)) else .stuck
 | _=>.stuck
section
variable {X:Cx}{F:Fx}{p pos:Pos}{e a b:Expr}{ga gb:SS→R D}{gs:SS→R (List D)}{k:Nat}
theorem wC (bx:BX X F k)(hg:Gl X "len")(hm:X.mg "len"=none)(ha:FA X F [e] gs)(he:starEach [e] X.env=(false,eval e X.env)::starEach [] X.env:=by rfl)(hpl:(backTo pos (starEach [] X.env)).any (·.1)=false:=by rfl) :
  FE X F (.Call (.Name "len" p) [e] [] pos) (eCall dLenS gs) :=
 (b0 sU hg hm PySem.boot_len ha (he:=he)).weak fun σ H Q ⟨Z,S,ok,w⟩=>by
  refine aw ok w fun ds vs H1 Z1 ok1 x1 rs w1=>?_
  unfold dLenS at w1
  split at w1
  ·rename_i y
   split at w1
   ·rename_i hl
    obtain⟨v,rfl,h⟩:=aI rs
    rw[Rep]at h
    subst h
    exact⟨.str y,y.length,rfl,⟨by rw[sizeLine_eq];exact hl,rfl⟩,WG.now w1 ok1.sub _ ax⟩
   ·exact w1.elim
  ·exact w1.elim
end
section
variable {X:Cx}{F:Fx}{o e:Expr}{g:SS→R D}{gs:List (SS→R D)}{apos cpos:Pos}{k:Nat}
end
section
variable {X:Cx}{F:Fx}{e:Expr}{lo hi:Option Expr}{g:SS→R D}{l h:SS→R (Option Int)}{pos p2:Pos}
end
section
variable {X:Cx}
end
section
variable {X:Cx}{F:Fx}{e ei:Expr}{gs:SS→R (List D)}{pos p0 apos cpos:Pos}{x:Str}
end
section
variable {X:Cx}{pins:List (Addr×Obj)}{σ:St}
variable {F:Fx}{k:Nat}{f:Addr}{fd:FuncData}{ps:List Str}{t:List D→R D}{ds:List D}{l I S:Addr}{H0 Z0:Hp}{R:Result→Shared→Prop}{d:D}
end
section
variable {X:Cx}{F:Fx}{p pos kp np:Pos}{e:Expr}{g:SS→R D}{k:Nat}{x:Str}{ps:List Str}{t:List D→R D}
end
section
variable {kvs:List TKV}{xs:List TKU}{ks:List Int}
end
section
variable {X:Cx}{pins:List (Addr×Obj)}{σ:St}{H:Hp}{s:Shared}{a b:Addr}{kvs:List TKV}{ks:List Int}{A:Around}{E:Value→Shared→Prop}
end
section
variable {X:Cx}{pos:Pos}{o i e value:Expr}{td ty tv:TE}{pos':Pos}
end
section
variable {F:Fx}{Z Z':Hp}{m:List (List Int×D)}{kvs:List TKV}{ks:List Int}{d:D}{v:V}{b:Addr}
end
abbrev dt (m:List (List Int×D)):Option Sl:=some (.dit m)
section
variable {F:Fx}{H Z:Hp}{S:SS}{σ:St}
end
section
variable {X:Cx}{F:Fx}{pos p p0:Pos}{k:Nat}{g ge:SS→R D}{e ei:Expr}{x:Str}
end
section
variable {σ:Type}{X:Cx}{F:Fx}{S:SS}{J:σ→SS→Prop}
end
section
variable {X:Cx}{F:Fx}
theorem wD {x y:Str}{pos:Pos}(h:∃ t,X.mg x=some (.str y t))(hg:Gl X x)(hd:(x==("__debug__":Str))=false:=by decide):FE X F (.Name x pos) (eC (.str y)):=by
 obtain⟨t,e⟩:=h
 exact cZ (iB (v:=.str y) hg e ⟨t,rfl⟩ hd) fun _=>by rw[Rep]
variable {σ':Type}{S:SS}{st:Stmt}{rest:List Stmt}{J:σ'→SS→Prop}
end
def lwR {α σ:Type}(W:Wd)(r:R α)(k:α→LW σ):LW σ:=match r with
 | .ok a=>k a
 | .err e=>.er W e
 | .stuck=>.stuck
section
variable {X:Cx}{G:Gx}{W:Wd}{S:SS}{a b e:Expr}{es:List Expr}{st:Stmt}{rest:List Stmt}{α σ τ V':Type}{J:σ→SS→Prop}{k:Nat}{r:RW}{pos pos':Pos}
theorem l4 {g:SS→O}(h:∀ H0 Z0,Wk (G.at H0 Z0) W→FS X (G.at H0 Z0) st g):PS X st (fun D ρ H=>∃ HW Z,GOk G W HW Z H S ρ∧WO (G.fx HW Z H) Z (g S) D):=fun pins s ρ H D I ⟨HW,Z,ok,w⟩=>h _ _ ok.wk pins s ρ H D I ⟨Z,S,ok.nm,w⟩
theorem fN {g:SS→O}{r:R α}{S':α→SS}{k:α→LW σ}(h:∀ H0 Z0,Wk (G.at H0 Z0) W→FS X (G.at H0 Z0) st g)(hg:g S=rO (r.bind fun a=>.ok (.nx (S' a))))(hk:∀ a,GL X G W (S' a) rest J (k a)):GL X G W S (st::rest) J (lwR W r k) :=
 (aE (l4 h) (bh hk)).weak fun D ρ H ⟨HW,Z,ok,w⟩=>⟨HW,Z,ok,by
  rw[hg]
  cases r with
  | ok a=>exact fun ρ' H' Z' z ok'=>⟨a,HW,Z',ok.after ok',WGL.more z w⟩
  | err k=>exact fun H' x=>w HW Z H' (Same.refl _) (ok.gx.err x) ok.wd
  | stuck=>exact w⟩
theorem zZ {g:SS→O}{S':SS}{l:LW σ}(h:∀ H0 Z0,Wk (G.at H0 Z0) W→FS X (G.at H0 Z0) st g)(hg:g S=.nx S')(hk:GL X G W S' rest J l):GL X G W S (st::rest) J l :=
 (aE (l4 (S:=S) h) hk).weak fun D ρ H ⟨HW,Z,ok,w⟩=>⟨HW,Z,ok,by rw[hg];exact fun ρ' H' Z' z ok'=>⟨HW,Z',ok.after ok',WGL.more z w⟩⟩
theorem ql {g:SS→R D}{r:R D}(h:∀ H0 Z0,Wk (G.at H0 Z0) W→FS X (G.at H0 Z0) st (sRet g))(hr:g S=r):GL X G W S (st::rest) J (lwR W r fun d=>.rt W d) :=
 (aE (l4 h) gq).weak fun D ρ H ⟨HW,Z,ok,w⟩=>⟨HW,Z,ok,by
  unfold sRet
  rw[hr]
  cases r with
  | ok d=>exact fun v H' Z' x rv=>w v HW Z' H' (ok.gx.after x) (ok.wd.mono (Same.refl _) x.z) rv
  | err k=>exact fun H' x=>w HW Z H' (Same.refl _) (ok.gx.err x) ok.wd
  | stuck=>exact w⟩
theorem nv {g:SS→R D}{d:D}(h:∀ H0 Z0,Wk (G.at H0 Z0) W→FS X (G.at H0 Z0) st (sRet g))(hr:g S=.ok d):GL X G W S (st::rest) J (.rt W d):=ql h hr
theorem yX (i:Nat){ds:List D}{S':SS}{sts:List Stmt}{l:LW σ}(hi:S[i]?=some (some (.own ds)))(hS:S.set i (some (.val (.lst ds)))=S')(h:GL X G W S' sts J l):GL X G W S sts J l :=
 h.weak fun D ρ H ⟨HW,Z,ok,w⟩=>by
  obtain⟨Z',z,ok'⟩:=ok.nm.freeze hi
  rw[hS]at ok'
  exact⟨HW,Z',ok.after ok',WGL.more z w⟩
end
section
variable {X:Cx}{G:Gx}{W:Wd}{S:SS}{τ V':Type}{k:Nat}{tg iter:Expr}{body:List Stmt}{pos:Pos}{git:SS→R (List D)}{inj:τ→V'→SS}{step:Wd→τ→D→LW τ}
end
def MadeG (X:Cx)(G:Gx):Prop:=∀ F:Fx,F.E=G.E→MadeX X F
def spR (K:PySem.W.Frag)(C:Nat→Addr)(n:Nat)(f:Wd→List D→R D):Sp:=fun vs H Q E =>
 vs.length=n∧∃ W Z ds,Same Z H∧WdOk K C H Z W∧Reps K C Z ds vs∧WG ⟨K,C,H,Z,E⟩ H Z (f W ds) fun d H' Z'=>∀ v,Rep K C Z' d v→Q v H'
structure MeR (P:Program)(w:World)(K:PySem.W.Frag)(mg:Str→Option Value)(base:Heap)(C:Nat→Addr)(k:Nat)(c:Nat)(m:Str)(f:Wd→List D→R D):Prop where
 ex:∃ a fd x,FnOk P w K mg base (CXE P w) k a fd [x] (spR K C 1 f)∧Meth K (C c) m a∧Binds K fd [x] []
 cls:Cls K (C c)
def rM (c:Nat)(m:Str)(W:Wd)(o:D)(k:R D):R D:=match o with
 | .ptr a=>match W a with
  | some (.ins c' fs)=>if c'=c∧fs.lookup m=none then k else .stuck
  | _=>.stuck
 | _=>.stuck
def eMe0 (c:Nat)(m:Str)(W:Wd)(f:Wd→List D→R D)(go:SS→R D):SS→R D:=fun S=>(go S).bind fun o=>rM c m W o (f W [o])
section
variable {X:Cx}{F:Fx}{W:Wd}{c k:Nat}{m:Str}{o:Expr}{go:SS→R D}{f:Wd→List D→R D}{pos apos:Pos}
theorem b8 {pl:Sem Bool}(bx:BX X F k)(wk:Wk F W)(h:MeR X.prog X.w F.K X.mg X.base F.C k c m f)(ho:FE X F o go)
  (ht:eval (.Call (.Attribute o m apos) [] [] pos) X.env=(do
   let ov ← eval o X.env
   standAt apos.atName
   let (f,first) ← holding [ov] (getMethod ov m pl)
   callWith pos f first (backTo pos (starEach [] X.env)) (backToKw pos (keywordEach [] X.env))):=by rfl) :
  FE X F (.Call (.Attribute o m apos) [] [] pos) (eMe0 c m W f go):=by
 obtain⟨a,fd,x,h1,h2,h3⟩:=h.ex
 have hK:=bx.K
 refine(mJ ho (by rw[hK];exact h.cls) (by rw[hK];exact h2) (by rw[hK];exact h1) bx.room (by grind) .nil bx.pass ht).weak fun ρ H Q ⟨Z,S,ok,w⟩=>?_
 refine ah ok w fun d v H1 Z1 ok1 x1 rv w1=>?_
 unfold rM at w1
 cases d with
 | ptr p =>
  simp only at w1
  cases ew:W p with
  | none=>rw[ew]at w1;exact w1.elim
  | some oc =>
   cases oc with
   | lst ds=>rw[ew]at w1;exact w1.elim
   | ins c' fs =>
    rw[ew]at w1
    simp only at w1
    by_cases ec:c'=c∧fs.lookup m=none
    ·rw[if_pos ec]at w1
     obtain⟨rfl,hl⟩:=ec
     obtain⟨dx,vs,e1,e2,cl,e3,rr⟩:=wk p _ ew
     have wd1:=wk.mono ok1.ex.same ok1.ex.z
     have rv':=rv
     rw[Rep]at rv'
     refine⟨p,dx,vs,rv',ok1.ex.same _ _ e1,iG e3 hl,rfl,W,Z1,[.ptr p],ok1.sub,wd1,Reps.cons rv Reps.nil,?_⟩
     cases q:f W [.ptr p] with
     | ok z=>rw[q]at w1;exact w1
     | err e=>rw[q]at w1;exact w1
     | stuck=>rw[q]at w1;exact w1
    ·rw[if_neg ec]at w1;exact w1.elim
 | _=>exact w1.elim
end
def OkG (P:Program)(w:World)(K:PySem.W.Frag)(mg:Str→Option Value)(base:Heap)(C:Nat→Addr)(k:Nat)(x qual:Str)(st:Stmt)(ps:List Str)(fn:Wd→List D→RW):Prop :=
 ∀ {f:Addr} {fd:FuncData},Fun K x qual st f fd→FnOk P w K mg base (CXE P w) (k+1) f fd ps (spG K C ps.length fn)
def OkGB (P:Program)(w:World)(K:PySem.W.Frag)(mg:Str→Option Value)(base:Heap)(C:Nat→Addr)(k:Nat)(N:List Str)(qual:Str)(st:Stmt)(W:Wd)(ds:List D)(l:LW Unit):Prop :=
 ∀ (f:Addr) (cdv:Value) (A:Around) (outer:List Env) (s:Shared) (HW Z H:Hp) (E:XK),BG (bodyX P w K mg base N qual (defScope st) f cdv A outer s H E) ⟨K,C,HW,Z,H,E⟩ k →
  PassesOwn (model P w) (bodyX P w K mg base N qual (defScope st) f cdv A outer s H E).A (bodyX P w K mg base N qual (defScope st) f cdv A outer s H E).env (bodyX P w K mg base N qual (defScope st) f cdv A outer s H E).xe →
  MadeG (bodyX P w K mg base N qual (defScope st) f cdv A outer s H E) ⟨K,C,HW,Z,H,E⟩→GL (bodyX P w K mg base N qual (defScope st) f cdv A outer s H E) ⟨K,C,HW,Z,H,E⟩ W (startS N.length ds) (defBody st) JU l
def OkR (P:Program)(w:World)(K:PySem.W.Frag)(mg:Str→Option Value)(base:Heap)(C:Nat→Addr)(k:Nat)(x qual:Str)(st:Stmt)(p:Str)(fn:Wd→List D→R D):Prop :=
 ∀ {f:Addr} {fd:FuncData},Fun K x qual st f fd→FnOk P w K mg base (CXE P w) (k+1) f fd [p] (spR K C 1 fn)
def OkRB (P:Program)(w:World)(K:PySem.W.Frag)(mg:Str→Option Value)(base:Heap)(C:Nat→Addr)(k:Nat)(N:List Str)(qual:Str)(st:Stmt)(W:Wd)(ds:List D)(l:L Unit):Prop :=
 ∀ (f:Addr) (cdv:Value) (A:Around) (outer:List Env) (s:Shared) (H Z:Hp) (E:XK),BX (bodyX P w K mg base N qual (defScope st) f cdv A outer s H E) ⟨K,C,H,Z,E⟩ k→Wk ⟨K,C,H,Z,E⟩ W →
  FL (bodyX P w K mg base N qual (defScope st) f cdv A outer s H E) ⟨K,C,H,Z,E⟩ (startS N.length ds) (defBody st) JU l
def b1 (k:Wd→D→LW Unit):Wd→List D→RW
 | W,[a]=>outW (k W a)
 | _,_=>.stuck
def b2 (k:Wd→D→D→LW Unit):Wd→List D→RW
 | W,[a,b]=>outW (k W a b)
 | _,_=>.stuck
def b3 (k:Wd→D→D→D→LW Unit):Wd→List D→RW
 | W,[a,b,c]=>outW (k W a b c)
 | _,_=>.stuck
def b4 (k:Wd→D→D→D→D→LW Unit):Wd→List D→RW
 | W,[a,b,c,d]=>outW (k W a b c d)
 | _,_=>.stuck
def b5 (k:Wd→D→D→D→D→D→LW Unit):Wd→List D→RW
 | W,[a,b,c,d,e]=>outW (k W a b c d e)
 | _,_=>.stuck
def r1 (k:Wd→D→L Unit):Wd→List D→R D
 | W,[a]=>outL (k W a)
 | _,_=>.stuck
section
variable {P:Program}{w:World}{K:PySem.W.Frag}{mg:Str→Option Value}{base:Heap}{C:Nat→Addr}{k:Nat}{N ps:List Str}{x qual:Str}{st:Stmt}
theorem okg {fn:Wd→List D→RW}(S:FnScope N ps (defScope st))(h:∀ W ds,ds.length=ps.length→∃ l,fn W ds=outW l∧OkGB P w K mg base C k N qual st W ds l):OkG P w K mg base C k x qual st ps fn:=fun {f fd} F=>by
 obtain⟨oc,od,kV,doc,pm,an,cdv,ct,osl,rfl,lk,hcd⟩:=F.ex
 refine kI lk hcd S (fun vs H Q E q=>q.1) fun A outer s H vs Q E hr hsp=>?_
 obtain⟨hl,W,HW,Z,ds,zh,wh,dj,wd,r,wr⟩:=hsp
 obtain⟨l,e,o⟩:=h W ds (by rw[r.length];exact hl)
 rw[e]at wr
 exact⟨_,o _ cdv A outer s HW Z H E ⟨hr,rfl,rfl,bd⟩ PassesOwn.leaving (fun F' e' pins σ H1 s1 h1 ea C1 args I hx hE=>eh I hx (by grind)),HW,Z,GOk.start zh wh dj wd r,WGL.start wr⟩
theorem okr {p:Str}{fn:Wd→List D→R D}(S:FnScope N [p] (defScope st))(h:∀ W d,∃ l,fn W [d]=outL l∧OkRB P w K mg base C k N qual st W [d] l):OkR P w K mg base C k x qual st p fn:=fun {f fd} F=>by
 obtain⟨oc,od,kV,doc,pm,an,cdv,ct,osl,rfl,lk,hcd⟩:=F.ex
 refine kI lk hcd S (fun vs H Q E q=>q.1) fun A outer s H vs Q E hr hsp=>?_
 obtain⟨hl,W,Z,ds,z,wd,r,wr⟩:=hsp
 obtain⟨d,rfl⟩:=len1 (by rw[r.length];exact hl)
 obtain⟨l,e,o⟩:=h W d
 refine⟨_,o _ cdv A outer s H Z E ⟨hr,rfl,rfl,bd⟩ wd,Z,dD z r,?_⟩
 rw[e]at wr
 cases l with
 | nx u=>exact fun S' ρ' H' Z' _ _ ok=>wr H' Z' ok.ex .non (by rw[Rep])
 | rt d=>exact fun v H' Z' x rv=>wr H' Z' x v rv
 | er k=>exact wr
 | stuck=>exact wr
theorem okg1 {p:Str}{c:Wd→D→LW Unit}(S:FnScope N [p] (defScope st))(h:∀ W a,OkGB P w K mg base C k N qual st W [a] (c W a)):OkG P w K mg base C k x qual st [p] (b1 c):=okg S fun W ds hl=>by obtain⟨a,rfl⟩:=len1 hl;exact⟨c W a,rfl,h W a⟩
theorem okg2 {p q:Str}{c:Wd→D→D→LW Unit}(S:FnScope N [p,q] (defScope st))(h:∀ W a b,OkGB P w K mg base C k N qual st W [a,b] (c W a b)):OkG P w K mg base C k x qual st [p,q] (b2 c):=okg S fun W ds hl=>by obtain⟨a,b,rfl⟩:=len2 hl;exact⟨c W a b,rfl,h W a b⟩
theorem okg3 {p q r:Str}{c:Wd→D→D→D→LW Unit}(S:FnScope N [p,q,r] (defScope st))(h:∀ W a b d,OkGB P w K mg base C k N qual st W [a,b,d] (c W a b d)):OkG P w K mg base C k x qual st [p,q,r] (b3 c):=okg S fun W ds hl=>by obtain⟨a,b,d,rfl⟩:=len3 hl;exact⟨c W a b d,rfl,h W a b d⟩
theorem okg4 {p q r s:Str}{c:Wd→D→D→D→D→LW Unit}(S:FnScope N [p,q,r,s] (defScope st))(h:∀ W a b d e,OkGB P w K mg base C k N qual st W [a,b,d,e] (c W a b d e)):OkG P w K mg base C k x qual st [p,q,r,s] (b4 c):=okg S fun W ds hl=>by obtain⟨a,b,d,e,rfl⟩:=len4 hl;exact⟨c W a b d e,rfl,h W a b d e⟩
theorem okr1 {p:Str}{c:Wd→D→L Unit}(S:FnScope N [p] (defScope st))(h:∀ W a,OkRB P w K mg base C k N qual st W [a] (c W a)):OkR P w K mg base C k x qual st p (r1 c):=okr S fun W d=>⟨c W d,rfl,h W d⟩
theorem gQ {f:Addr}{fd:FuncData}{n:Nat}:FnOk P w K mg base (CXE P w) k f fd ps (spG K C n fun _ _=>.stuck) :=
 ⟨fun vs H Q E h=>by obtain⟨_,_,_,_,_,_,_,_,_,_,z⟩:=h;exact z.elim,fun A outer s H args us vs Q E _ _ _ _ h=>by obtain⟨_,_,_,_,_,_,_,_,_,_,z⟩:=h;exact z.elim⟩
theorem kZ {f:Addr}{fd:FuncData}{n:Nat}:FnOk P w K mg base (CXE P w) k f fd ps (spR K C n fun _ _=>.stuck) :=
 ⟨fun vs H Q E h=>by obtain⟨_,_,_,_,_,_,_,z⟩:=h;exact z.elim,fun A outer s H args us vs Q E _ _ _ _ h=>by obtain⟨_,_,_,_,_,_,_,z⟩:=h;exact z.elim⟩
structure Md (K:PySem.W.Frag)(C:Nat→Addr)(c:Nat)(m qual:Str)(ps:List Str)(st:Stmt):Prop where
 ex:∃ a fd,Fun K m qual st a fd∧Meth K (C c) m a∧Binds K fd ps []
structure Kl (K:PySem.W.Frag)(mg:Str→Option Value)(C:Nat→Addr)(c:Nat)(x qual:Str)(ps:List Str)(st:Stmt):Prop where
 ex:∃ a fd,Fun K "__init__" qual st a fd∧Mk K (C c) a∧mg x=some (.ref (C c))∧Binds K fd ps []
 cls:Cls K (C c)
variable {c:Nat}{m:Str}{fn:Wd→List D→RW}{fr:Wd→List D→R D}{p:Str}
theorem w0 (F:Fd K mg x ps st):FnW P w K mg base C 0 x ps (fun _ _=>.stuck):=by obtain⟨a,fd,F,h,b⟩:=F.ex;exact⟨a,fd,gQ,h,F.kp,b⟩
theorem w1 (F:Fd K mg x ps st)(ok:OkG P w K mg base C k x x st ps fn):FnW P w K mg base C (k+1) x ps fn:=by obtain⟨a,fd,F,h,b⟩:=F.ex;exact⟨a,fd,ok F,h,F.kp,b⟩
theorem m0 (F:Md K C c m qual ps st):MeW P w K mg base C 0 c m ps (fun _ _=>.stuck):=by obtain⟨a,fd,F,h,b⟩:=F.ex;exact⟨a,fd,gQ,h,b⟩
theorem m1 (F:Md K C c m qual ps st)(ok:OkG P w K mg base C k m qual st ps fn):MeW P w K mg base C (k+1) c m ps fn:=by obtain⟨a,fd,F,h,b⟩:=F.ex;exact⟨a,fd,ok F,h,b⟩
theorem e0 (F:Md K C c m qual [p] st)(cl:Cls K (C c)):MeR P w K mg base C 0 c m (fun _ _=>.stuck):=by obtain⟨a,fd,F,h,b⟩:=F.ex;exact⟨⟨a,fd,p,kZ,h,b⟩,cl⟩
theorem e1 (F:Md K C c m qual [p] st)(cl:Cls K (C c))(ok:OkR P w K mg base C k m qual st p fr):MeR P w K mg base C (k+1) c m fr:=by obtain⟨a,fd,F,h,b⟩:=F.ex;exact⟨⟨a,fd,p,ok F,h,b⟩,cl⟩
theorem n0 (F:Kl K mg C c x qual ps st):MkW P w K mg base C 0 c x ps (fun _ _=>.stuck):=by obtain⟨a,fd,F1,h,h2,b⟩:=F.ex;exact⟨⟨a,fd,gQ,h,h2,b⟩,F.cls⟩
theorem n1 (F:Kl K mg C c x qual ps st)(ok:OkG P w K mg base C k "__init__" qual st ps fn):MkW P w K mg base C (k+1) c x ps fn:=by obtain⟨a,fd,F1,h,h2,b⟩:=F.ex;exact⟨⟨a,fd,ok F1,h,h2,b⟩,F.cls⟩
end
def rL:List (R D)→R (List D)
 | []=>.ok []
 | r::rs=>r.bind fun d=>(rL rs).bind fun ds=>.ok (d::ds)
theorem fO {τ σ:Type}(f:Wd→D→LW τ)(k:Wd→τ→LW σ):∀ r:RW,lwS (lwB r f) k=lwB r fun w d=>lwS (f w d) k
 | .ok w d=>rfl
 | .er w e=>rfl
 | .al w g=>by
  show LW.al w (fun a=>lwS (lwB (g a) f) k)=LW.al w fun a=>lwB (g a) fun w d=>lwS (f w d) k
  congr 1;funext a;exact fO f k (g a)
 | .stuck=>rfl
theorem uw {τ σ:Type}{c:Nat}{w:Wd}{f:Str}{o d:D}{g:Wd→LW τ}{k:Wd→τ→LW σ}:lwS (wFld c w f o d g) k=wFld c w f o d fun w'=>lwS (g w') k:=by
 unfold wFld
 cases o with
 | ptr a =>
  simp only
  cases w a with
  | none=>rfl
  | some oc =>
   cases oc with
   | lst ds=>rfl
   | ins c' fs =>
    simp only
    by_cases h:c'=c∧fs.length < 900
    ·rw[if_pos h,if_pos h]
    ·rw[if_neg h,if_neg h];rfl
 | _=>rfl
section
variable {X:Cx}{G:Gx}{W:Wd}{S:SS}{a b o e oe ie:Expr}{st:Stmt}{rest:List Stmt}{σ:Type}{J:σ→SS→Prop}{r0 r:RW}{pos pos':Pos}{k:Nat}{gb go gi:SS→R D}
theorem yY (i:Nat){x:Str}{px:Pos}{S':D→SS}{k:Wd→D→LW σ}(hN:X.N.Nodup)(h:GE X G W S e r0)(hr:r0=r)(hS:∀ d,S.set i (vv d)=S' d)(hk:∀ w d,GL X G w (S' d) rest J (k w d))(hi:X.N[i]?=some x:=by rfl)(hx:Loc X.env.scope x:=by first | exact Or.inl rfl | exact Or.inr rfl)
  (hf:X.fn x=true∨X.env.scope.names.lookup x=some .local:=by first | exact .inl rfl | exact .inr rfl) (hs:swapsWith e (some (.Name x px)) pos.line X.env=pure false:=by rfl):GL X G W S (.Assign [.Name x px] e pos::rest) J (lwB r k):=by
 have:=jb (wm hN hi hx h hf hs) (fun w d _=>by rw[hS];exact hk w d)
 rw[fO,hr]at this
 exact this
theorem c9 {k:Wd→LW σ}(h:GE X G W S e r0)(hr:r0=r)(hk:∀ w,GL X G w S rest J (k w))(hs:swapsWith e none pos.line X.env=pure false:=by rfl):GL X G W S (.Expr e pos::rest) J (lwB r fun w _=>k w):=by
 have:=jb (ud (s:=()) h ⟨(),rfl⟩ hs) (fun w _ _=>hk w)
 rw[fO,hr]at this
 exact this
theorem wE (h:GE X G W S e r0)(hr:r0=r):GL X G W S [.Return (some e) pos] J (lwB r fun w d=>.rt w d):=by subst hr;exact yP (wj h)
theorem jk {f:Str}{c:Nat}{po:D}{k:Wd→LW σ}(bg:X.K=G.K)(hn:NoAttr X.K (G.C c) f)(hv:GE X G W S e r0)(hr:r0=r)(ho:∀ H0 Z0 W',Wk (G.at H0 Z0) W'→FE X (G.at H0 Z0) o go)(hS:go S=.ok po)(hk:∀ w,GL X G w S rest J (k w))
  (hs:swapsWith e (some (.Attribute o f pos')) pos.line X.env=pure false:=by rfl):GL X G W S (.Assign [.Attribute o f pos'] e pos::rest) J (lwB r fun w d=>wFld c w f po d k):=by
 have:=jb (wf (s:=()) bg hn hv ho hS ⟨(),rfl⟩ hs) (fun w _ _=>hk w)
 rw[fO,hr]at this
 simp only[uw]at this
 exact this
theorem wF {τ V':Type}{c:Expr}{sa sb:List Stmt}{inj:τ→V'→SS}{A B:Wd→LW τ}{k:Wd→τ→LW σ}(hc:GT X G W S c r0)(hr:r0=r)(ha:∀ w,GL X G w S sa (JX inj) (A w))(hb:∀ w,GL X G w S sb (JX inj) (B w))(hk:∀ w s x,GL X G w (inj s x) rest J (k w s)):GL X G W S (.If c sa sb pos::rest) J (lwS (lwT r A B) k):=by subst hr;exact jb (yS hc ha hb) hk
theorem qm:∀ {gs:List (SS→R D)} {S:SS} {ds:List D},aL gs S=.ok ds→ds.length=gs.length
 | [],S,ds,h=>by cases h;rfl
 | g::gs,S,ds,h=>kK (fun S ds h=>qm h) S ds h
theorem a7 {gs:List (SS→R D)}{S:SS}{ds:List D}{n:Nat}(h:aL gs S=.ok ds)(hn:gs.length+1=n:=by rfl):ds.length+1=n:=by rw[qm h];exact hn
theorem Aa (bg:BG X G k)(ha:GE X G W S a r)(hb:∀ H0 Z0 W',Wk (G.at H0 Z0) W'→FE X (G.at H0 Z0) b gb):GE X G W S (.Compare a [.Eq] [b] pos) (rwB r fun w d=>rwA w (gb S) fun y=>rwR w (dEq d y)) :=
 yR (oB (F:=G.at G.H0 G.Z0) bg.K bg.room) (fun _ _=>oC) ha hb
end
structure MeRs (P:Program)(w:World)(K:PySem.W.Frag)(mg:Str→Option Value)(base:Heap)(C:Nat→Addr)(k:Nat)(c:Nat)(m:Str)(ps:List Str)(f:Wd→List D→R D):Prop where
 ex:∃ a fd,FnOk P w K mg base (CXE P w) k a fd ps (spR K C ps.length f)∧Meth K (C c) m a∧Binds K fd ps []
 cls:Cls K (C c)
def eMe (c:Nat)(m:Str)(W:Wd)(f:Wd→List D→R D)(go:SS→R D)(gs:SS→R (List D)):SS→R D:=fun S=>(go S).bind fun o=>rM c m W o ((gs S).bind fun ds=>f W (o::ds))
section
variable {X:Cx}{F:Fx}{W:Wd}{c k:Nat}{m:Str}{o e:Expr}{es:List Expr}{go:SS→R D}{gs:SS→R (List D)}{f:Wd→List D→R D}{ps:List Str}{pos apos:Pos}
theorem ux {pl:Sem Bool}(bx:BX X F k)(wk:Wk F W)(h:MeRs X.prog X.w F.K X.mg X.base F.C k c m ps f)(ho:FE X F o go)(ha:FA X F (e::es) gs)(hn:∀ S ds,gs S=.ok ds→ds.length+1=ps.length)
  (hst:starEach (e::es) X.env=(false,eval e X.env)::starEach es X.env:=by rfl) (hpl:(backTo pos (starEach es X.env)).any (·.1)=false:=by rfl)
  (ht:eval (.Call (.Attribute o m apos) (e::es) [] pos) X.env=(do
   let ov ← eval o X.env
   standAt apos.atName
   let (f,first) ← holding [ov] (getMethod ov m pl)
   callWith pos f first (backTo pos (starEach (e::es) X.env)) (backToKw pos (keywordEach [] X.env))):=by rfl) :
  FE X F (.Call (.Attribute o m apos) (e::es) [] pos) (eMe c m W f go gs):=by
 obtain⟨a,fd,h1,h2,h3⟩:=h.ex
 have hK:=bx.K
 refine(pK ho (by rw[hK];exact h.cls) (by rw[hK];exact h2) (by rw[hK];exact h1) bx.room (by grind) .nil bx.pass ha hst hpl ht).weak fun ρ H Q ⟨Z,S,ok,w⟩=>?_
 refine ah ok w fun d v H1 Z1 ok1 x1 rv w1=>?_
 unfold rM at w1
 cases d with
 | ptr p =>
  simp only at w1
  cases ew:W p with
  | none=>rw[ew]at w1;exact w1.elim
  | some oc =>
   cases oc with
   | lst ds=>rw[ew]at w1;exact w1.elim
   | ins c' fs =>
    rw[ew]at w1
    simp only at w1
    by_cases ec:c'=c∧fs.lookup m=none
    ·rw[if_pos ec]at w1
     obtain⟨rfl,hl⟩:=ec
     obtain⟨dx,vs,e1,e2,cl,e3,rr⟩:=wk p _ ew
     have rv':=rv
     rw[Rep]at rv'
     refine⟨p,dx,vs,rv',ok1.ex.same _ _ e1,iG e3 hl,Z1,S,ok1,?_⟩
     cases q:gs S with
     | err k=>rw[q]at w1;exact w1
     | stuck=>rw[q]at w1;exact w1
     | ok ds =>
      rw[q]at w1
      intro H2 Z2 x2 us rs
      have ok2:=ok1.more x2
      have w2:=WG.more (r:=f W (.ptr p::ds)) w1 x2
      refine⟨by rw[List.append_nil,List.length_cons,← rs.length];exact hn S ds q,W,Z2,.ptr p::ds,ok2.sub,wk.mono ok2.ex.same ok2.ex.z,by rw[List.append_nil];exact Reps.cons (rv.mono x2.z) rs,?_⟩
      cases q2:f W (.ptr p::ds) with
      | ok z=>rw[q2]at w2;exact w2
      | err e=>rw[q2]at w2;exact w2
      | stuck=>rw[q2]at w2;exact w2
    ·rw[if_neg ec]at w1;exact w1.elim
 | _=>exact w1.elim
end
section
variable {X:Cx}{G:Gx}{W:Wd}{S:SS}{k:Nat}{x:Str}{ps:List Str}{f:Wd→List D→RW}{p pos:Pos}{c:Nat}
theorem uy (b:BG X G k)(h:MkW X.prog X.w G.K X.mg X.base G.C k c x ps f)(hn:ps.length=1)(hg:Gl X x)(hdb:(x==("__debug__":Str))=false:=by decide):GE X G W S (.Call (.Name x p) [] [] pos) (rwNew c W f []):=by
 obtain⟨a,fd,h1,h2,h3,h4⟩:=h.ex
 have hK:=b.K
 exact xP (gs:=fun _=>.ok []) h (fun S ds e=>by cases e;exact hn.symm) ((sY (ds:=[]) (dvs:=[]) (E:=G.E) (by rw[hK];exact h2) (by rw[hK];exact h1) b.room hg h3 (by rw[hK];exact h4) .nil b.pass hdb).weak fun ρ H Q ⟨HW,Z,ok,w⟩=>w H Z (Ex.refl ok.zh) [] Reps.nil)
end
def wApp (W:Wd)(o:D)(k:R (List D)):RW:=match o with
 | .ptr a=>match W a with
  | some (.lst xs)=>rwA W k fun ds=>match ds with
   | [d]=>if xs.length < 16777216 then .ok (wput W a (.lst (xs++[d]))) .non else .stuck
   | _=>.stuck
  | _=>.stuck
 | _=>.stuck
section
variable {X:Cx}{G:Gx}{W:Wd}{S:SS}{oe e:Expr}{go:SS→R D}{gs:SS→R (List D)}{apos cpos:Pos}
theorem wG (ho:∀ H0 Z0,Wk (G.at H0 Z0) W→FE X (G.at H0 Z0) oe go)(ha:∀ H0 Z0,Wk (G.at H0 Z0) W→FA X (G.at H0 Z0) [e] gs)(hbase:attributeBase oe "append" X.env (eval oe X.env)=eval oe X.env:=by rfl)
  (hfew:((backTo cpos (starEach [e] X.env)).all (fun x=>!x.1)&&(backToKw cpos (keywordEach [] X.env)).all (fun x=>x.1.isSome)
   && decide ([e].length+([]:List Keyword).length+(if ([]:List Keyword).isEmpty then 0 else 1) < 30))=true:=by rfl)
  (hline:(apos.endLine==cpos.line)=true:=by rfl) (hs:starEach [e] X.env=(false,eval e X.env)::starEach [] X.env:=by rfl) (hplain:(backTo cpos (starEach [] X.env)).any (·.1)=false:=by rfl) :
  GE X G W S (.Call (.Attribute oe "append" apos) [e] [] cpos) (rwA W (go S) fun po=>wApp W po (gs S)):=by
 have ho':PE X oe (fun ρ H Q=>∃ HW Z,GOk G W HW Z H S ρ∧tE (G.fx HW Z H) go ρ H Q):=fun pins s ρ H Q I ⟨HW,Z,ok,t⟩=>ho _ _ ok.wk pins s ρ H Q I t
 refine(pN PySem.F.plainAttrs_list PySem.F.slot_list_append (by kernel_rfl) (eg (X:=X)) ho' (lQ (S:=S) ha) hbase hfew hline hs hplain).weak fun ρ H Q ⟨HW,Z,ok,w⟩=>⟨HW,Z,ok,?_⟩
 refine p6 (α:=Unit) ok w fun d v H1 Z1 ok1 gx rv w1=>?_
 cases d with
 | ptr p =>
  cases ew:W p with
  | none=>unfold wApp at w1;simp only[ew]at w1;exact w1.elim
  | some oc =>
   cases oc with
   | ins c fs=>unfold wApp at w1;simp only[ew]at w1;exact w1.elim
   | lst xs =>
    unfold wApp at w1
    simp only[ew]at w1
    rw[Rep]at rv
    obtain⟨vs,e1,rr⟩:=ok1.wd p _ ew
    have e2:=ok1.wh _ _ e1
    refine⟨by rw[rv];exact .inl ⟨rfl,vs,SqL.of e2⟩,HW,Z1,ok1,?_⟩
    cases q:gs S with
    | err k=>rw[q]at w1;exact w1
    | stuck=>rw[q]at w1;exact w1
    | ok ds =>
     rw[q]at w1
     intro H2 Z2 x2 us rs
     have ok2:=ok1.more (ok1.ex x2) (ok1.wd.mono (Same.refl _) x2.z)
     have w2:=WRW.more (ok1.ex x2) w1
     match ds,rs,w2 with
     | [d],rs,w2 =>
      obtain⟨y,rfl,ry⟩:=aI rs
      by_cases hl:xs.length < 16777216
      ·have w3:WRW G.K G.C G.E HW Z2 H2 (fun _ d _ Z' H'=>∀ v,Rep G.K G.C Z' d v→Q v H') (RW.ok (wput W p (.lst (xs++[d]))) .non):=by
        have:(if xs.length < 16777216 then RW.ok (wput W p (.lst (xs++[d]))) .non else .stuck)=RW.ok (wput W p (.lst (xs++[d]))) .non:=if_pos hl
        rw[← this];exact w2
       obtain⟨g3,ok3⟩:=ok2.put (a:=p) (o:=.lst (vs++[y])) (oc:=.lst (xs++[d])) (aq e1) (by rw[e1];exact True.intro) (fun H' _ hh _=>⟨_,hh,(rr.mono x2.z).append (Reps.cons ry Reps.nil)⟩) (fun b u z zz=>by rw[zz,e1]at z;cases z)
       exact⟨p,vs,y,rv,rfl,x2.same _ _ e2,by rw[← rr.length,sizeLine_eq];exact hl,w3 _ Z2 _ g3 ok3.wd _ (by rw[Rep])⟩
      ·have:(if xs.length < 16777216 then RW.ok (wput W p (.lst (xs++[d]))) .non else RW.stuck)=.stuck:=if_neg hl
       have w3:WRW G.K G.C G.E HW Z2 H2 (fun _ d _ Z' H'=>∀ v,Rep G.K G.C Z' d v→Q v H') RW.stuck:=by rw[← this];exact w2
       exact w3.elim
     | [],_,w2=>exact w2.elim
     | _::_::_,_,w2=>exact w2.elim
 | _=>exact w1.elim
end
def OkRs (P:Program)(w:World)(K:PySem.W.Frag)(mg:Str→Option Value)(base:Heap)(C:Nat→Addr)(k:Nat)(x qual:Str)(st:Stmt)(ps:List Str)(fn:Wd→List D→R D):Prop :=
 ∀ {f:Addr} {fd:FuncData},Fun K x qual st f fd→FnOk P w K mg base (CXE P w) (k+1) f fd ps (spR K C ps.length fn)
def OkRBm (P:Program)(w:World)(K:PySem.W.Frag)(mg:Str→Option Value)(base:Heap)(C:Nat→Addr)(k:Nat)(N:List Str)(qual:Str)(st:Stmt)(W:Wd)(ds:List D)(l:L Unit):Prop :=
 ∀ (f:Addr) (cdv:Value) (A:Around) (outer:List Env) (s:Shared) (H Z:Hp) (E:XK),BX (bodyX P w K mg base N qual (defScope st) f cdv A outer s H E) ⟨K,C,H,Z,E⟩ k→Wk ⟨K,C,H,Z,E⟩ W →
  PassesOwn (model P w) (bodyX P w K mg base N qual (defScope st) f cdv A outer s H E).A (bodyX P w K mg base N qual (defScope st) f cdv A outer s H E).env (bodyX P w K mg base N qual (defScope st) f cdv A outer s H E).xe →
  MadeX (bodyX P w K mg base N qual (defScope st) f cdv A outer s H E) ⟨K,C,H,Z,E⟩→FL (bodyX P w K mg base N qual (defScope st) f cdv A outer s H E) ⟨K,C,H,Z,E⟩ (startS N.length ds) (defBody st) JU l
def r2 (k:Wd→D→D→L Unit):Wd→List D→R D
 | W,[a,b]=>outL (k W a b)
 | _,_=>.stuck
def r3 (k:Wd→D→D→D→L Unit):Wd→List D→R D
 | W,[a,b,c]=>outL (k W a b c)
 | _,_=>.stuck
section
variable {P:Program}{w:World}{K:PySem.W.Frag}{mg:Str→Option Value}{base:Heap}{C:Nat→Addr}{k:Nat}{N ps:List Str}{x qual:Str}{st:Stmt}
theorem okrs {fn:Wd→List D→R D}(S:FnScope N ps (defScope st))(h:∀ W ds,ds.length=ps.length→∃ l,fn W ds=outL l∧OkRBm P w K mg base C k N qual st W ds l):OkRs P w K mg base C k x qual st ps fn:=fun {f fd} F=>by
 obtain⟨oc,od,kV,doc,pm,an,cdv,ct,osl,rfl,lk,hcd⟩:=F.ex
 refine kI lk hcd S (fun vs H Q E q=>q.1) fun A outer s H vs Q E hr hsp=>?_
 obtain⟨hl,W,Z,ds,z,wd,r,wr⟩:=hsp
 obtain⟨l,e,o⟩:=h W ds (by rw[r.length];exact hl)
 refine⟨_,o _ cdv A outer s H Z E ⟨hr,rfl,rfl,bd⟩ wd PassesOwn.leaving (fun pins σ H1 s1 h1 ea C1 args I hx hE=>eh I hx hE),Z,dD z r,?_⟩
 rw[e]at wr
 cases l with
 | nx u=>exact fun S' ρ' H' Z' _ _ ok=>wr H' Z' ok.ex .non (by rw[Rep])
 | rt d=>exact fun v H' Z' x rv=>wr H' Z' x v rv
 | er k=>exact wr
 | stuck=>exact wr
theorem okrs2 {p q:Str}{c:Wd→D→D→L Unit}(S:FnScope N [p,q] (defScope st))(h:∀ W a b,OkRBm P w K mg base C k N qual st W [a,b] (c W a b)):OkRs P w K mg base C k x qual st [p,q] (r2 c):=okrs S fun W ds hl=>by obtain⟨a,b,rfl⟩:=len2 hl;exact⟨c W a b,rfl,h W a b⟩
variable {c:Nat}{m:Str}{fr:Wd→List D→R D}
theorem es0 (F:Md K C c m qual ps st)(cl:Cls K (C c)):MeRs P w K mg base C 0 c m ps (fun _ _=>.stuck):=by obtain⟨a,fd,F,h,b⟩:=F.ex;exact⟨⟨a,fd,kZ,h,b⟩,cl⟩
theorem es1 (F:Md K C c m qual ps st)(cl:Cls K (C c))(ok:OkRs P w K mg base C k m qual st ps fr):MeRs P w K mg base C (k+1) c m ps fr:=by obtain⟨a,fd,F,h,b⟩:=F.ex;exact⟨⟨a,fd,ok F,h,b⟩,cl⟩
end
section
variable {X:Cx}{G:Gx}{W:Wd}{S:SS}{a b:Expr}{r:RW}{gb:SS→R D}{pos:Pos}{k:Nat}
end
def lamX (P:Program)(w:World)(K:PySem.W.Frag)(mg:Str→Option Value)(base:Heap)(N:List Str)(qual:Str)(scope:Scope)(f:Addr)(cd:Value)(cl:List (Str×Addr))(A:Around)(outer:List Env)(s:Shared)(H:Hp)(E:XK):Cx where
 prog:=P
 w:=w
 K:=K
 mg:=mg
 base:=base
 A:=A.deeper (PySem.W.envX qual scope s.heap.objs.size f cd cl)
 N:=N
 s₀:=s
 H₀:=H
 env:=PySem.W.envX qual scope s.heap.objs.size f cd cl
 outer:=outer
 stack:=PySem.W.envX qual scope s.heap.objs.size f cd cl::outer
 ex:=[]
 calm:=true
 fn:=fun _=>false
 pn:=[]
 xe:=fun e s'=>wpAny (model P w) (A.deeper (PySem.W.envX qual scope s.heap.objs.size f cd cl)) (leaving (PySem.W.envX qual scope s.heap.objs.size f cd cl) e) (fun _ s''=>CXE P w outer H s E e s'') (fun e' s''=>CXE P w outer H s E e' s'') s'
section
variable {P:Program}{w:World}{K:PySem.W.Frag}{mg:Str→Option Value}{base:Heap}{N:List Str}{qual:Str}{scope:Scope}{f:Addr}{cd:Value}{cl:List (Str×Addr)}{A:Around}{outer:List Env}{s0:Shared}{H0:Hp}{E:XK}
theorem uz {pins:List (Addr×Obj)}{σ:St}{H':Hp}{s':Shared}{B h2:Heap}{ea C t:Addr}(J:Inv (lamX P w K mg base N qual scope f cd cl A outer s0 H0 E) pins σ H' s')
  (cov:Cov B s0.heap s'.heap H' (PySem.W.envX qual scope s0.heap.objs.size f cd cl::outer)) (up:s'.heap.UpToSlots h2) (fl:Heap.FlyingW B outer ea (.ref C) (.ref t) h2) (hn:H' ea=none) (hE:E (.ref C) none H') :
  CXE P w outer H0 s0 E (.ref ea) { s' with heap:=h2 }:=by
 have hB:=fl.1
 have nloc:∀ b o,s0.heap.get? b=some o→b≠s0.heap.objs.size:=fun b o e=>Nat.ne_of_lt (Heap.lt_size e)
 have nstk:∀ b,b≠s0.heap.objs.size→b∉frs outer→b∉frs (PySem.W.envX qual scope s0.heap.objs.size f cd cl::outer):=fun b h1 h2 z=>(List.mem_cons.mp (J.stkSub b z)).elim h1 h2
 have trk:=fun b o e ht=>cov b o e (.inl ht) fun z=>ht (J.stkFree b z)
 have noe:∀ b:Addr,b∉([]:List Addr):=fun _ z=>nomatch z
 have nf:∀ b∈frs outer,∀ o,s'.heap.get? b=some o→∀ vs,o.data≠.fields vs:=fun b hb o e=>by
  obtain⟨_,o',e',d⟩:=J.funs.mem hb
  grind
 have thr:∀ b o,s0.heap.get? b=some o→∃ o',s'.heap.get? b=some o'∧(b∉frs outer→B.get? b=some o'):=fun b o e=>by
  obtain⟨o',e1⟩:=J.base.there b o e (noe b)
  exact⟨o',e1,fun hb=>cov b o' e1 (.inr ⟨o,e⟩) (nstk b (nloc b o e) hb)⟩
 refine⟨ea,C,t,H',B,rfl,J.os,J.bare,⟨fun b o e n hb hx=>?_,fun b o e n hb hx=>?_,J.base.free,fun b o e hx=>?_,J.base.tups,J.base.frzs,J.base.tbls⟩,fun b u e=>?_,fl,hn,fun b o e hc hb=>?_,hE⟩
 ·have e1:=J.base.keep b o e n hb hx
  exact hB b o (cov b o e1 (.inr ⟨o,e⟩) (nstk b (nloc b o e) hb))
 ·obtain⟨sl,e1⟩:=J.base.slot b o e n hb hx
  obtain⟨sl',e2⟩:=up b _ e1 (nf b hb _ e1)
  exact⟨sl',e2⟩
 ·obtain⟨o',e1,e2⟩:=thr b o e
  by_cases hb:b∈frs outer
  ·obtain⟨sl',e3⟩:=up b _ e1 (nf b hb _ e1)
   exact⟨_,e3⟩
  ·exact⟨o',hB b o' (e2 hb)⟩
 ·refine(J.hok b u e).stay (fun c v hc q=>hB c v (trk c v q ?_)) (fun _ q=>q) fun _ _ q=>q
  grind
 ·have same:∀ o',s'.heap.get? b=some o'→B.get? b=some o'→B.get? b=some o:=fun o' _ q=>by
   have:=hB b o' q
   grind
  rcases hc with z | ⟨o',z⟩
  ·cases q:H' b with
   | none=>exact absurd q z
   | some u =>
    obtain⟨o',e1⟩:=objThere (J.hok b u q)
    grind
  ·grind
theorem ny:Passes (CXE P w) (lamX P w K mg base N qual scope f cd cl A outer s0 H0 E) E:=by
 intro pins σ H s e s' I h
 obtain⟨ea,C,t,H',B,rfl,os,bare,un,hok,fl,hn,cov,hE⟩:=h
 have J:=I.call' os un hok bare fun b z=>nomatch z
 refine wpAny_leaves_onW I.ok.frames rfl fl fun h2 fl2 up=>?_
 refine uz J (fun b o e hc hb=>cov b o e ?_ hb) up fl2 hn hE
 rcases hc with z | ⟨o',z⟩
 ·exact .inl z
 ·obtain⟨o'',z'⟩:=I.base.there b o' z (fun q=>nomatch q)
  exact .inr ⟨o'',z'⟩
end
end FF
namespace L2
open PySem PySem.Spec PyProof.Rows
theorem Ab {CX:CXT}{P:Program}{w:World}{K:PySem.W.Frag}{mg:Str→Option Value}{base:Heap}{k:Nat}{f:Addr}{name qual:Str}{params:Arguments}{body:List Stmt}{scope:Scope}{dV kV doc pm cdv ct oc:Value}{an od:Option Addr}
  {osl:Array (Option Value)} {N ps:List Str} {A:Around} {outer:List Env} {s:Shared} {H:Hp} {args:Args} {us:List Value} {vs:List V} {Q:VK} {E:XK} {t:TS} (lk:K.lookup f=some ⟨oc,od,.func (PySem.W.fnOf name qual params body scope dV kV doc pm an cdv ct),osl⟩) (hcd:PySem.W.codeIn K cdv qual=true) (S:FnScope N ps scope)
  (hl:vs.length=ps.length) (hr:RoomW (k+1) A) (e0:Env0 P w K mg base A outer s H) (hb:BindsTo s (PySem.W.fnOf name qual params body scope dV kV doc pm an cdv ct) args (ps.zip us)) (r:Vals vs us)
  (ht:PSs (cxOf CX P w K mg base N qual scope f cdv A outer s H E) body t) (hq:t { nx:=fun _ H'=>Q .non H',rt:=Q } (start N vs) H) :
  codeAny (model P w) A (.call (.ref f) args) (CR CX outer P w H s Q E) s:=by
 have KX:K.In s.heap:=e0.mod.kin.keeps fun b o e=>(e0.bs b o e).1
 have lim:=e0.mod.nolimit.keeps fun b o e=>(e0.bs b o e).1
 have hkind:∀ y∈ps.zip us,scope.names.lookup y.1=some .local∨(scope.names.lookup y.1=some .cell∧((cellsFrom (s.heap.objs.size+1) scope.names []).lookup y.1).isSome=true):=fun ⟨n,v⟩ hy=>by
  rcases S.par n (List.of_mem_zip hy).1 with q | q
  ·exact .inl q
  ·exact .inr ⟨q,PySem.W.cellsFrom_some _ _ _ (.inl q)⟩
 refine codeAny_call_function hr.depth (KX _ _ lk) rfl S.co S.gen rfl (PySem.W.codeRec_of KX hcd) (hb _ _ _ _ ?_)
 refine wpAny_newFunctionEnv_cells S.kind hkind fun env he s1 x=>?_
 subst he
 refine⟨lim.keeps x.toInCall.keep,codeAny_func ?_⟩
 have I:Inv (cxOf CX P w K mg base N qual scope f cdv A outer s H E) [] (start N vs) H s1:=kH S hr.hd e0 hl r x
 refine wpAny_mono (ht [] s1 (start N vs) H _ I hq) (fun fl s' hs=>?_) fun e s' hs=>hs
 have fin:∀ {σ':St} {H':Hp} {v:V} {u:Value},Inv (cxOf CX P w K mg base N qual scope f cdv A outer s H E) [] σ' H' s'→RelV v u→Q v H'→CE outer P w H s Q u s' :=
  fun {σ' H' v u} J rv q=>⟨v,H',J.os,J.bare,J.base,J.hok,rv,q⟩
 cases fl with
 | ret u =>
  obtain⟨v,σ',H',J,rv,q⟩:=hs
  exact fin J rv q
 | next =>
  obtain⟨σ',H',J,q⟩:=hs
  exact fin (v:=V.non) J rfl q
 | brk =>
  obtain⟨_,_,_,q⟩:=hs
  exact False.elim q
 | cont =>
  obtain⟨_,_,_,q⟩:=hs
  exact False.elim q
end L2
end
noncomputable section
namespace FF
open PySem PySem.Spec PyProof.Rows L2
structure Lam (h:Heap)(H:Hp)(qual:Str)(params:Arguments)(scope:Scope)(body:Expr)(N:List Str)(f:Addr)(vs:List V):Prop where
 ex:∃ pm c ctv cl oc ws t,H f=some (.frz (PySem.W.kla_obj "<lambda>" qual params body scope cl pm c ctv) (.own 0))∧H c=some (.frz oc (.own 0))∧oc.data=.fields ws∧ws[1]?=some (.str qual t) ∧
  (∀ x y a,cl.lookup x=some a→cl.lookup y=some a→x=y)∧(∀ x a,cl.lookup x=some a→(∃ v,h.IsCell a v)∧H a=none) ∧
  (∀ x,scope.names.lookup x=some .free→∃ a,cl.lookup x=some a) ∧
  (∀ (i:Nat) (x:Str) (v:V),N[i]?=some x→vs[i]?=some v→scope.names.lookup x=some .free∧∃ u a,RelV v u∧cl.lookup x=some a∧h.IsCell a (some u))
section
variable {X:Cx}{pins:List (Addr×Obj)}{σ:St}{H:Hp}{s:Shared}{qual:Str}{params:Arguments}{scope:Scope}{body:Expr}{N:List Str}{f:Addr}{vs:List V}
theorem nA {H0 H:Hp}{h0 h:Heap}{fs:List Addr}{a:Addr}{v:Option Value}(u:Un fs [] H0 H h0 h)(n:H0 a=none)(c:h0.IsCell a v):h.IsCell a v:=by
 obtain⟨o,e,d⟩:=c
 obtain⟨sl,e2⟩:=u.any e n (by simp)
 exact⟨_,e2,d⟩
theorem Lam.later {H0:Hp}{h0 h:Heap}{fs:List Addr}(L:Lam h0 H0 qual params scope body N f vs)(u:Un fs [] H0 H h0 h):Lam h H qual params scope body N f vs:=by
 obtain⟨pm,c,ctv,cl,oc,ws,t,e1,e2,e3,e4,e5,e6,e7,e8⟩:=L.ex
 refine⟨pm,c,ctv,cl,oc,ws,t,u.frzs _ _ _ e1,u.frzs _ _ _ e2,e3,e4,e5,fun x a q=>?_,e7,fun i x v q1 q2=>?_⟩
 ·obtain⟨⟨v,k⟩,n⟩:=e6 x a q
  obtain⟨o,ho,_⟩:=id k
  exact⟨⟨v,nA u n k⟩,u.free a o ho n (by simp)⟩
 ·obtain⟨k,w,a,r,q,z⟩:=e8 i x v q1 q2
  exact⟨k,w,a,r,q,nA u (e6 x a q).2 z⟩
theorem k6 {N:List Str}{vs:List V}(h:vs.length=N.length):L2.start N vs=vs.map some:=by
 unfold L2.start
 simp_all
theorem wH {P:Program}{w:World}{K:PySem.W.Frag}{mg:Str→Option Value}{base:Heap}{cd:Value}{cl:List (Str×Addr)}{A:Around}{outer:List Env}{E:XK}{h1:Heap}{tk:Nat}{m:Str→Option Value}
  (hd:A.handled=none) (e0:Env0 P w K mg base A outer s H) (sk:scope.kind=.function) (snc:∀ x∈scope.names,x.2≠.cell) (hvl:vs.length=N.length) (hns:h1.Ns s.heap.objs.size m) (hk:∀ b o,s.heap.get? b=some o→h1.get? b=some o)
  (e5:∀ x y a,cl.lookup x=some a→cl.lookup y=some a→x=y) (e6:∀ x a,cl.lookup x=some a→(∃ v,s.heap.IsCell a v)∧H a=none) (e7:∀ x,scope.names.lookup x=some .free→∃ a,cl.lookup x=some a)
  (e8:∀ (i:Nat) (x:Str) (v:V),N[i]?=some x→vs[i]?=some v→scope.names.lookup x=some .free∧∃ u a,RelV v u∧cl.lookup x=some a∧s.heap.IsCell a (some u)) :
  Inv (lamX P w K mg base N qual scope f cd cl A outer s H E) [] (L2.start N vs) H { s with heap:=h1,toks:=tk }:=by
 have ck:∀ {a:Addr} {v:Option Value},s.heap.IsCell a v→h1.IsCell a v:=fun ⟨o,e,d⟩=>⟨o,hk _ _ e,d⟩
 have noA:∀ b:Addr,b∉(lamX P w K mg base N qual scope f cd cl A outer s H E).ex:=fun b z=>absurd (show b∈([]:List Addr) from z) (by simp)
 refine⟨⟨e0.mod,sk,rfl,rfl,Nat.le_refl _,e5,fun y hy=>?_,fun y c hf _=>absurd (show false=true from hf) Bool.false_ne_true,fun _=>hd,Around.frames_deeper e0.frames,.inr ⟨rfl,rfl⟩,fun b z=>absurd z (noA b),e0.bs,e0.bsz,fun b _ _=>noA b,fun b z=>absurd z (noA b),e0.funs,e0.frf⟩,
  rfl,e0.bare,Un.kept hk,⟨m,hns,fun i y v h1 h2 h3=>?_⟩,fun y c h=>?_,e0.hok.fresh (Nat.le_refl _),fun y c h=>(e6 y c h).2,fun p hp=>absurd (show p∈([]:List (Addr×Obj)) from hp) (by simp),e0.hok.kept hk,?_⟩
 ·have hy:=hy
  rcases hy with hy | hy
  ·exact absurd rfl (snc _ (PySem.mem_of_lookup hy))
  ·exact e7 y hy
 ·rw[k6 hvl,List.getElem?_map]at h2
  cases q:vs[i]? with
  | none=>rw[q]at h2;cases h2
  | some v' =>
   rw[q]at h2
   cases h2
   obtain⟨k,u,a,r,q2,z⟩:=e8 i y v h1 q
   exact⟨u,r,.inr ⟨.inr k,a,q2,ck z⟩⟩
 ·obtain⟨⟨v,z⟩,_⟩:=e6 y c h
  exact⟨v,ck z⟩
 ·show (L2.start N vs).length=N.length
  rw[k6 hvl,List.length_map,hvl]
theorem wI {E:XK}{k:Nat}{Q:VK}(I:Inv X pins σ H s)(hc:X.calm=true)(L:Lam s.heap H qual params scope body N f vs)(hr:Room (k+1) X.A)(hx:Passes (CXE X.prog X.w) X E)
  (sk:scope.kind=.function) (sco:scope.isCoroutine=false) (sgen:scope.isGenerator=false) (snc:∀ x∈scope.names,x.2≠.cell) (hvl:vs.length=N.length)
  (hbind:∀ cl pm c ctv,bindArgs (PySem.W.kla_fn "<lambda>" qual params body scope cl pm c ctv) ⟨[],[]⟩=pure [])
  (hb:∀ cd cl,Room k (X.A.deeper (PySem.W.envX qual scope s.heap.objs.size f cd cl))→∃ t,PE (lamX X.prog X.w X.K X.mg X.base N qual scope f cd cl X.A X.stack s H E) body t∧t (L2.start N vs) H Q) :
  wpAny (model X.prog X.w) X.A (call (.ref f) []) (EP X pins σ Q) X.xe s:=by
 obtain⟨pm,c,ctv,cl,oc,ws,tq,e1,e2,e3,e4,e5,e6,e7,e8⟩:=L.ex
 have ho:=(I.hok f _ e1).1
 have hoc:=(I.hok c _ e2).1
 refine wpAny_call (codeAny_mono (R:=CR (CXE X.prog X.w) X.stack X.prog X.w H s Q E) ?_ fun r s' hq=>?_)
 ·refine PySem.W.kla_callFunE (by have:=hr.dp;omega) ho rfl sco sgen rfl ⟨c,oc,ws,tq,rfl,hoc,e3,e4⟩ ?_
  rw[hbind]
  refine wpAny_pure (wpAny_newFunctionEnv snc (fun x hx=>nomatch hx) (fun h₁ hns hsb=>?_) sk)
  have hk₁:=fun b o e=>hsb.extBut b o (Nat.ne_of_lt (Heap.lt_size e)) (Heap.get?_push_of_some _ e)
  refine⟨I.nolimit.keeps hk₁,?_⟩
  obtain⟨t,hp,ht⟩:=hb (.ref c) cl (hr.deeper _)
  have I₁:Inv (lamX X.prog X.w X.K X.mg X.base N qual scope f (.ref c) cl X.A X.stack s H E) [] (L2.start N vs) H { s with heap:=h₁,toks:=s.toks+([]:List (Str×Value)).length } :=
   wH (I.ok.hd hc) I.env0 sk snc hvl hns hk₁ e5 e6 e7 e8
  refine PySem.W.kla_codeExpr (wpAny_mono (hp [] _ _ _ _ I₁ ht) (fun v s' hv=>?_) fun e s' he=>he)
  obtain⟨v',H',J,rv,q⟩:=hv
  exact⟨v',H',J.os,J.bare,J.base,J.hok,rv,q⟩
 ·cases r with
  | error e=>exact hx pins σ H s e s' I hq
  | ok fl =>
   cases fl with
   | ret u=>exact I.after hq
   | next=>exact False.elim hq
   | brk=>exact False.elim hq
   | cont=>exact False.elim hq
theorem jl {E:XK}{k:Nat}{i:Nat}{x:Str}{p pos:Pos}{T:St→Hp→VK→Prop}(hc:X.calm=true)(hr:Room (k+1) X.A)(hx:Passes (CXE X.prog X.w) X E)
  (sk:scope.kind=.function) (sco:scope.isCoroutine=false) (sgen:scope.isGenerator=false) (snc:∀ x∈scope.names,x.2≠.cell) (hvl:vs.length=N.length)
  (hbind:∀ cl pm c ctv,bindArgs (PySem.W.kla_fn "<lambda>" qual params body scope cl pm c ctv) ⟨[],[]⟩=pure []) (hN:X.N[i]?=some x) (hv:Vis X.env.scope x)
  (hL:∀ pins σ H s,Inv X pins σ H s→Lam s.heap H qual params scope body N f vs)
  (hT:∀ σ H Q,T σ H Q→σ[i]?=some (some (.ref f)))
  (hb:∀ pins σ H s Q,Inv X pins σ H s→T σ H Q→∀ cd cl,Room k (X.A.deeper (PySem.W.envX qual scope s.heap.objs.size f cd cl))→∃ t,PE (lamX X.prog X.w X.K X.mg X.base N qual scope f cd cl X.A X.stack s H E) body t∧t (L2.start N vs) H Q)
  (hd:(x==("__debug__":Str))=false:=by decide) (hcd:(x==("__classdict__":Str))=false:=by decide):PE X (.Call (.Name x p) [] [] pos) T:=by
 intro pins s σ H Q I h
 refine wpAny_Call_Name_kw ?_
 refine thn (cG hN hv hd hcd pins s σ H (fun v H'=>v=.ref f∧H'=H) I ⟨.ref f,hT _ _ _ h,rfl,rfl⟩) fun u s1 ⟨v,H1,I1,r,e1,e2⟩=>?_
 subst e1 e2
 cases r
 obtain⟨pm,c,ctv,cl,oc,ws,tq,e1,_⟩:=(hL pins σ H1 s1 I1).ex
 refine PySem.W.callWith_F0 ⟨_,_,_,_,(I1.hok f _ e1).1⟩ ?_
 exact wI I1 hc (hL pins σ H1 s1 I1) hr hx sk sco sgen snc hvl hbind (hb pins σ H1 s1 Q I1 h)
end
def CodeK (K:PySem.W.Frag)(c P:Addr):Prop :=
 ∃ o vs file tf flags tg inF text tt,K.lookup c=some o∧o.cls=.type "code" ∧ o.data=.fields vs∧vs[11]?=some (.ref P)∧vs.getD 11 .none=.ref P∧vs.getD 18 .none=.str file tf ∧
  vs.getD 7 .none=.int flags tg∧vs.getD 9 .none=.bool inF∧vs.getD 10 .none=.int text tt∧c≠P
theorem CodeK.hd {K:PySem.W.Frag}{c P:Addr}{h:Heap}(x:CodeK K c P)(k:K.In h):PySem.W.CodeHd h c P :=
 let ⟨o,vs,file,tf,flags,tg,inF,text,tt,e,r⟩:=x;⟨o,vs,file,tf,flags,tg,inF,text,tt,k _ _ e,r⟩
def BMn (mg:Str→Option Value)(base:Heap):Prop:=∃ bm ob,mg "__builtins__"=some (.ref bm)∧bm≠builtinsNs∧base.get? bm=some ob∧ob.cls=.type "module" ∧ ob.dict=some builtinsNs∧ob.data=.plain
structure LamX (X:Cx)(K:PySem.W.Frag)(C:Nat→Addr)(i:Nat):Prop where
 lt:i < C 900
 q:qOf K (C (902+2*i))=X.env.qual ++ "<lambda>"
 cd:∃ c,X.env.code=.ref c∧CodeK K c (C (901+2*i))
 bm:BMn X.mg X.base
 inj:∀ j,j < C 900→C (901+2*j)=C (901+2*i)→j=i
theorem sj {pos:Pos}(m:List Value)(l:List Value)(h:TriplesOk l):codeAmong pos (l++m)=(codeAmong pos l).or (codeAmong pos m):=by
 fun_induction TriplesOk l with
 | case1=>simp[codeAmong]
 | case2 a t b u x rest ih =>
  simp only[List.cons_append,codeAmong]
  grind
 | case3 l h1 h2=>exact h.elim
section
variable {X:Cx}{G:Gx}{W:Wd}{HW Z H:Hp}{S:SS}{ρ:St}{pins:List (Addr×Obj)}{s:Shared}{params:Arguments}{scope:Scope}{body:Expr}{lpos:Pos}{clos:List (Str×Addr)}
theorem yZ {Q:Value→Shared→Prop}(i:Nat)(I:Inv X pins ρ H s)(ok:GOk G W HW Z H S ρ)(hK:X.K=G.K)(lx:LamX X G.K G.C i)(hcl:closureFor scope X.env=pure clos)(hdef:defaultsOf params X.env=([],[]))
  (h:∀ f c ctv oc ws t pm s1 H1 HW1,Inv X pins ρ H1 s1→GX HW Z H HW1 Z H1→WdOk G.K G.C HW1 Z W→H1 f=some (.frz (PySem.W.kla_obj "<lambda>" (X.env.qual ++ "<lambda>") params body scope clos pm c ctv) (.own 0)) →
   H1 c=some (.frz oc (.own 0))→oc.data=.fields ws→ws[1]?=some (.str (X.env.qual ++ "<lambda>") t)→Q (.ref f) s1) :
  wpAny (model X.prog X.w) X.A (eval (.Lambda params body scope lpos) X.env) Q X.xe s:=by
 obtain⟨c,hcode,ck⟩:=lx.cd
 obtain⟨ps,hP,tp,hits⟩:=ok.wd.tb i lx.lt
 rw[lx.q]at hits
 have tbo:=ok.wd.tb
 have q0:=lx.q
 generalize hPe:G.C (901+2*i)=P at hP ck
 have hP':=ok.wh _ _ hP
 have heP:=I.hok P _ hP'
 have CH:=ck.hd (hK ▸ I.kIn)
 have hg:=I.ok.mod.glob.keeps I.bk
 have hbs:∀ b o,X.base.get? b=some o→b≠P:=fun b o e z=>by
  have:=(I.bs b o e).2
  rw[z,hP']at this;cases this
 have hgP:mainGlobals≠P:=by obtain⟨o,es,ep,e,_⟩:=I.ok.mod.glob;exact hbs _ _ e
 obtain⟨bm,ob,b1,b2,b3,b4,b5,b6⟩:=lx.bm
 have hbG:bm≠mainGlobals:=fun q=>by
  obtain⟨o,es,ep,e,hd,_⟩:=I.ok.mod.glob
  rw[q,e]at b3;cases b3;rw[hd]at b6;cases b6
 have hb:s.heap.BuiltinsAt X.mg P:=⟨bm,ob,b1,b2,hbG,hbs _ _ b3,I.bk _ _ b3,b4,b5,b6⟩
 refine PySem.W.kla_eval hdef ?_
 cases hq:codeAmong lpos ps.toList with
 | some cv =>
  obtain⟨c',oc,ws,t,rfl,hc',d1,d2⟩:=hits lpos cv hq
  refine PySem.W.kla_makeFunctionHit hcl I.ok.glob hg hcode CH heP tp hq hb fun ctv h' tk hk hsz=>?_
  have hf:=I.hok.fresh hsz
  have hcH:=ok.wh _ _ hc'
  refine h _ c' ctv oc ws t _ _ _ HW (I.laid (o:=.frz (PySem.W.kla_obj "<lambda>" (X.env.qual ++ "<lambda>") params body scope clos ((X.mg "__name__").getD .none) c' ctv) (.own 0)) (fun b u e=>Heap.get?_push_of_some _ (hk b u e)) hsz ⟨Heap.get?_push_size _ rfl,⟨_,Heap.get?_push_size _ rfl⟩⟩) ?_ ok.wd af ?_ d1 d2
  ·exact ok.ex ⟨fun b u e=>by rw[ac (ar e hf)];exact e,Same.refl _,fun b u e=>by have e1:=ok.zh b u e;rw[ac (ar e1 hf)];exact e1,fun _ q=>.inl q⟩
  ·rw[ac (ar hcH hf)];exact hcH
 | none =>
  refine PySem.W.kla_makeFunction hcl I.ok.glob hg hcode CH heP tp hq hgP hb fun c' ctv h' tk hx hge hlt hrec htb=>?_
  obtain⟨c2,oc,ws,t,ec,hoc,d1,d2⟩:=hrec
  cases ec
  have hszf:=Nat.le_trans hge (Nat.le_of_lt hlt)
  have hc0:H c'=none:=I.hok.fresh hge
  have hf0:=I.hok.fresh hszf
  have ncf:=Nat.ne_of_lt hlt
  have ncP:P≠c':=ar hP' hc0
  have nfP:=ar hP' hf0
  let fo:HO:=.frz (PySem.W.kla_obj "<lambda>" (X.env.qual ++ "<lambda>") params body scope clos ((X.mg "__name__").getD .none) c' ctv) (.own 0)
  let H1:Hp:=upd (upd (upd H P (.tbl (ps++#[rawInt lpos.line,rawInt lpos.col,.ref c']))) c' (.frz oc (.own 0))) h'.objs.size fo
  let HW1:Hp:=upd (upd HW P (.tbl (ps++#[rawInt lpos.line,rawInt lpos.col,.ref c']))) c' (.frz oc (.own 0))
  have a1:H1 h'.objs.size=some fo:=af
  have a2:H1 c'=some (.frz oc (.own 0)):=by show upd _ _ _ c'=_;rw[ac ncf,af]
  have a3:H1 P=some (.tbl (ps++#[rawInt lpos.line,rawInt lpos.col,.ref c'])):=by show upd _ _ _ P=_;rw[ac nfP,ac ncP,af]
  have a4:∀ b,b≠P→H b≠none→H1 b=H b:=fun b h1 h2=>by
   show upd _ _ _ b=_
   rw[ac (fun z=>h2 (by rw[z];exact hf0)),ac (fun z=>h2 (by rw[z];exact hc0)),ac h1]
  have w2:HW1 c'=some (.frz oc (.own 0)):=af
  have w3:HW1 P=some (.tbl (ps++#[rawInt lpos.line,rawInt lpos.col,.ref c'])):=by show upd _ _ _ P=_;rw[ac ncP,af]
  have wc0:=ok.wh.free hc0
  have w4:∀ b,b≠P→HW b≠none→HW1 b=HW b:=fun b h1 h2=>by
   show upd _ _ _ b=_
   rw[ac (fun z=>h2 (by rw[z];exact wc0)),ac h1]
  have g1:∀ b o,b≠P→s.heap.get? b=some o→(h'.push (PySem.W.kla_obj "<lambda>" (X.env.qual ++ "<lambda>") params body scope clos ((X.mg "__name__").getD .none) c' ctv)).get? b=some o:=fun b o hb e=>Heap.get?_push_of_some _ (hx b o hb e)
  have nP:∀ b,H b=none→b≠P:=fun b n z=>by rw[z,hP']at n;cases n
  have nsz:∀ b o,s.heap.get? b=some o→b≠c'∧b≠h'.objs.size:=fun b o e=>⟨Nat.ne_of_lt (Nat.lt_of_lt_of_le (Heap.lt_size e) hge),Nat.ne_of_lt (Nat.lt_of_lt_of_le (Heap.lt_size e) hszf)⟩
  have un:Un X.fs [] H H1 s.heap (h'.push (PySem.W.kla_obj "<lambda>" (X.env.qual ++ "<lambda>") params body scope clos ((X.mg "__name__").getD .none) c' ctv)):=by
   refine⟨fun b o e n _ _=>g1 b o (nP b n) e,fun b o e n _ _=>⟨o.slots,g1 b o (nP b n) e⟩,fun b o e n _=>?_,fun b o e _=>?_,fun b xs e=>?_,fun b o u e=>?_,fun b qs e=>?_⟩
   ·show upd _ _ _ b=_
    rw[ac (nsz b o e).2,ac (nsz b o e).1,ac (nP b n)];exact n
   ·by_cases hb:b=P
    ·exact⟨_,by rw[hb];exact Heap.get?_push_of_some _ htb⟩
    ·exact⟨o,g1 b o hb e⟩
   ·rw[a4 b (fun z=>by rw[z,hP']at e;cases e) (by rw[e];simp)];exact e
   ·rw[a4 b (fun z=>by rw[z,hP']at e;cases e) (by rw[e];simp)];exact e
   ·by_cases hb:b=P
    ·subst hb;rw[hP']at e;cases e;exact⟨_,a3⟩
    ·exact⟨#[],by rw[a4 b hb (by rw[e];simp),e];simp⟩
  have hok:HOk X.prog X.w H1 (h'.push (PySem.W.kla_obj "<lambda>" (X.env.qual ++ "<lambda>") params body scope clos ((X.mg "__name__").getD .none) c' ctv)):=fun b u e=>by
   by_cases hb1:b=h'.objs.size
   ·subst hb1;rw[a1]at e;cases e
    exact⟨Heap.get?_push_size _ rfl,⟨_,Heap.get?_push_size _ rfl⟩⟩
   ·by_cases hb2:b=c'
    ·subst hb2;rw[a2]at e;cases e
     exact⟨Heap.get?_push_of_some _ hoc,⟨_,Heap.get?_push_of_some _ hoc⟩⟩
    ·by_cases hb3:b=P
     ·subst hb3;rw[a3]at e;cases e
      exact Heap.get?_push_of_some _ htb
     ·have e0:H b=some u:=by
       have:H1 b=H b:=by show upd _ _ _ b=_;rw[ac hb1,ac hb2,ac hb3]
       rw[← this];exact e
      refine(I.hok b u e0).stay (fun d v hd q=>g1 d v ?_ q) (fun d q=>?_) fun d xs q=>?_
      ·rcases hd with z | z
       ·rw[z];exact hb3
       ·intro z2;rw[z2,hP']at z;cases z
      ·rw[a4 d (fun z=>by rw[z,hP']at q;cases q) (by rw[q];simp)];exact q
      ·rw[a4 d (fun z=>by rw[z,hP']at q;cases q) (by rw[q];simp)];exact q
  have gx:GX HW Z H HW1 Z H1:=by
   refine⟨fun b o n e=>?_,Same.refl _,fun b o e=>?_,fun b o e=>?_,fun b n=>?_,fun b n=>?_,fun b n=>.inl n,fun b n=>?_⟩
   ·rw[a4 b (fun z=>by rw[z,hP]at n;cases n) (by rw[e];simp)];exact e
   ·have e1:=ok.zh b o e
    rw[a4 b (fun z=>by rw[z]at e;rw[ok.gx.dj P (aq hP)]at e;cases e) (by rw[e1];simp)];exact e1
   ·by_cases hb:b=P
    ·subst hb;rw[w3]at e;rw[a3];exact e
    ·by_cases hb2:b=c'
     ·subst hb2;rw[w2]at e;rw[a2];exact e
     ·have e0:HW b=some o:=by
       have:HW1 b=HW b:=by show upd _ _ _ b=_;rw[ac hb2,ac hb]
       rw[← this];exact e
      have e1:=ok.wh b o e0
      rw[a4 b hb (by rw[e1];simp)];exact e1
   ·by_cases hb:b=P
    ·rw[hb,w3];simp
    ·rw[w4 b hb n];exact n
   ·by_cases hb:b=P
    ·exact .inl (by rw[hb,hP];simp)
    ·by_cases hb2:b=c'
     ·exact .inr (by rw[hb2];exact hc0)
     ·have:HW1 b=HW b:=by show upd _ _ _ b=_;rw[ac hb2,ac hb]
      rw[this]at n;exact .inl n
   ·by_cases hb:b=P
    ·rw[hb];exact ok.gx.dj P (aq hP)
    ·by_cases hb2:b=c'
     ·rw[hb2];exact ok.zh.free hc0
     ·have:HW1 b=HW b:=by show upd _ _ _ b=_;rw[ac hb2,ac hb]
      rw[this]at n;exact ok.gx.dj b n
  have keepW:∀ b u,HW b=some u→(∀ qs,u≠.tbl qs)→HW1 b=some u:=fun b u e hn=>by
   rw[w4 b (fun z=>by rw[z,hP]at e;cases e;exact hn _ rfl) (by rw[e];simp)];exact e
  have wd:WdOk G.K G.C HW1 Z W:=by
   refine⟨fun b o e=>?_,fun j hj=>?_⟩
   ·have q:=ok.wd b o e
    cases o with
    | ins n fs=>obtain⟨dx,vs,e1,e2,cl,e3,r⟩:=q;exact⟨dx,vs,keepW _ _ e1 (fun _ z=>nomatch z),keepW _ _ e2 (fun _ z=>nomatch z),cl,e3,r⟩
    | lst ds=>obtain⟨vs,e1,r⟩:=q;exact⟨vs,keepW _ _ e1 (fun _ z=>nomatch z),r⟩
   ·obtain⟨qs,f1,f2,f3⟩:=tbo j hj
    by_cases hb:G.C (901+2*j)=P
    ·rw[hb]at f1 ⊢
     have ej:qs=ps:=by rw[hP]at f1;cases f1;rfl
     subst ej
     refine⟨_,w3,?_,fun pos cv q=>?_⟩
     ·rw[Array.toList_append];exact TriplesOk_snoc _ _ _ _ f2
     ·rw[Array.toList_append,sj _ _ f2]at q
      cases hh:codeAmong pos qs.toList with
      | some v =>
       rw[hh]at q
       cases q
       obtain⟨c3,oc3,ws3,t3,k1,k2,k3,k4⟩:=f3 pos cv hh
       exact⟨c3,oc3,ws3,t3,k1,keepW _ _ k2 (fun _ z=>nomatch z),k3,k4⟩
      | none =>
       rw[hh]at q
       have q':=q
       simp only[codeAmong,rawInt]at q'
       split at q'
       ·cases q'
        refine⟨c',oc,ws,t,rfl,w2,d1,?_⟩
        rw[d2]
        rw[lx.inj j hj (hb.trans hPe.symm),q0]
       ·cases q'
    ·refine⟨qs,by rw[w4 _ hb (by rw[f1];simp)];exact f1,f2,fun pos cv q=>?_⟩
     obtain⟨c3,oc3,ws3,t3,k1,k2,k3,k4⟩:=f3 pos cv q
     exact⟨c3,oc3,ws3,t3,k1,keepW _ _ k2 (fun _ z=>nomatch z),k3,k4⟩
  exact h _ c' ctv oc ws t _ _ H1 HW1 (I.un un hok) gx wd a1 a2 d1 d2
end
theorem BG.mono {X:Cx}{G:Gx}{j k:Nat}(b:BG X G k)(h:j≤k):BG X G j:=⟨b.room.mono h,b.K,b.calm,b.pass⟩
def LamB (P:Program)(w:World)(K:PySem.W.Frag)(mg:Str→Option Value)(base:Heap)(C:Nat→Addr)(k:Nat)(N:List Str)(qual:Str)(scope:Scope)(body:Expr)(ds:List D)(rf:Wd→RW):Prop :=
 ∀ (f:Addr) (cd:Value) (cl:List (Str×Addr)) (A:Around) (outer:List Env) (s:Shared) (HW Z H:Hp) (E:XK) (W:Wd),BG (lamX P w K mg base N qual scope f cd cl A outer s H E) ⟨K,C,HW,Z,H,E⟩ k →
  GE (lamX P w K mg base N qual scope f cd cl A outer s H E) ⟨K,C,HW,Z,H,E⟩ W (startS N.length ds) body (rf W)
structure LamSc (scope:Scope)(params:Arguments)(body:Expr)(qual:Str):Prop where
 sk:scope.kind=.function
 sco:scope.isCoroutine=false
 sgen:scope.isGenerator=false
 snc:∀ x∈scope.names,x.2≠.cell
 hb:∀ cl pm c ctv,bindArgs (PySem.W.kla_fn "<lambda>" qual params body scope cl pm c ctv) ⟨[],[]⟩=pure []
section
variable {X:Cx}{G:Gx}{W:Wd}{S:SS}{k:Nat}{N:List Str}{qual:Str}{params:Arguments}{scope:Scope}{body:Expr}{ds:List D}{vs:List V}{rf:Wd→RW}{f:Addr}{x:Str}{p pos:Pos}
theorem wJ (i:Nat)(bg:BG X G (k+1))(hex:X.ex=[])(L:Lam X.s₀.heap X.H₀ qual params scope body N f vs)(sc:LamSc scope params body qual)(hr:Reps G.K G.C G.Z0 ds vs)(hl:vs.length=N.length)
  (hS:S[i]?=some (some (.val (.ptr f)))) (hb:LamB X.prog X.w X.K X.mg X.base G.C k N qual scope body ds rf) (hi:X.N[i]?=some x) (hv:Vis X.env.scope x)
  (hd:(x==("__debug__":Str))=false) (hcd:(x==("__classdict__":Str))=false):GE X G W S (.Call (.Name x p) [] [] pos) (rf W):=by
 have hK:=bg.K
 refine jl bg.calm bg.room bg.pass sc.sk sc.sco sc.sgen sc.snc hl sc.hb hi hv
  (fun pins σ H s I=>L.later (by have:=I.base;rw[hex]at this;exact this)) (fun σ H Q ⟨HW,Z,ok,w⟩=>?_) (fun pins σ H s Q I ⟨HW,Z,ok,w⟩ cd cl room=>?_) hd hcd
 ·obtain⟨v,A,e,o,_⟩:=ok.nm.sl i _ hS
  have r:=o.2
  rw[Rep]at r
  rw[e,r]
 ·have b':BG (lamX X.prog X.w X.K X.mg X.base N qual scope f cd cl X.A X.stack s H G.E) ⟨X.K,G.C,HW,Z,H,G.E⟩ k:=⟨room,rfl,rfl,ny⟩
  refine⟨_,hb f cd cl X.A X.stack s HW Z H G.E W b',HW,Z,GOk.start ok.zh ok.wh ok.gx.dj (by rw[hK];exact ok.wd) (by rw[hK];exact hr.mono ok.gx.z),?_⟩
  rw[hK];exact w
inductive Cap (X:Cx)(S:SS)(scope:Scope):List Str→List D→Prop
 | nil:Cap X S scope [] []
 | cons (i:Nat) {x:Str} {d:D} {N:List Str} {ds:List D} (h1:X.N[i]?=some x) (h2:S[i]?=some (some (.val d))) (h3:X.env.scope.names.lookup x=some .cell) (h4:scope.names.lookup x=some .free) (r:Cap X S scope N ds):Cap X S scope (x::N) (d::ds)
theorem Cap.vals {HW Z H:Hp}{ρ:St}{pins:List (Addr×Obj)}{s:Shared}(ok:GOk G W HW Z H S ρ)(I:Inv X pins ρ H s):∀ {N:List Str} {ds:List D},Cap X S scope N ds→∃ vs,Reps G.K G.C Z ds vs∧vs.length=N.length ∧
  ∀ (i:Nat) (x:Str) (v:V),N[i]?=some x→vs[i]?=some v→scope.names.lookup x=some .free∧∃ u a,RelV v u∧X.env.cells.lookup x=some a∧s.heap.IsCell a (some u)
 | _,_,.nil=>⟨[],Reps.nil,rfl,fun i x v e _=>by simp at e⟩
 | _,_,.cons i h1 h2 h3 h4 r=>by
  obtain⟨vs,rs,hl,k⟩:=Cap.vals ok I r
  obtain⟨v,A,e,o,_⟩:=ok.nm.sl i _ h2
  obtain⟨m,hn,hv⟩:=I.loc
  obtain⟨u,ru,lk⟩:=hv i _ v h1 e (.inr (.inl h3))
  refine⟨v::vs,Reps.cons o.2 rs,by rw[List.length_cons,List.length_cons,hl],fun j y w e1 e2=>?_⟩
  cases j with
  | zero =>
   simp at e1 e2
   subst e1 e2
   refine⟨h4,u,?_⟩
   rcases lk with ⟨z,_⟩ | ⟨_,a,ea,z⟩
   ·have z:X.env.scope.names.lookup _=some .local:=z
    rw[h3]at z;cases z
   ·exact⟨a,ru,ea,z⟩
  | succ j=>exact k j y w (by simpa using e1) (by simpa using e2)
def closOf (cells:List (Str×Addr))(fr:List Str):List (Str×Addr):=fr.map fun x=>(x,(cells.lookup x).getD 0)
theorem fP {cells:List (Str×Addr)}{y:Str}{a:Addr}:∀ {fr:List Str},fr.all (fun x=>(cells.lookup x).isSome)=true→(closOf cells fr).lookup y=some a→cells.lookup y=some a
 | [],_,e=>by simp[closOf]at e
 | x::fr,h,e=>by
  rw[List.all_cons,Bool.and_eq_true]at h
  unfold closOf at e
  rw[List.map_cons,List.lookup_cons]at e
  cases q:(y==x) with
  | true =>
   rw[q]at e
   have hy:y=x:=eq_of_beq q
   subst hy
   cases q2:cells.lookup y with
   | none=>rw[q2]at h;exact absurd h.1 (by simp)
   | some b=>rw[q2]at e;exact e
  | false=>rw[q]at e;exact fP h.2 e
theorem jm {cells:List (Str×Addr)}{y:Str}:∀ {fr:List Str},y∈fr→∃ a,(closOf cells fr).lookup y=some a
 | x::fr,h=>by
  unfold closOf
  rw[List.map_cons,List.lookup_cons]
  cases q:(y==x) with
  | true=>exact⟨_,rfl⟩
  | false =>
   rcases List.mem_cons.mp h with z | z
   ·rw[z]at q;simp at q
   ·exact jm z
theorem uA {cells:List (Str×Addr)}{y:Str}{fr:List Str}{a:Addr}(h:fr.all (fun x=>(cells.lookup x).isSome)=true)(hy:y∈fr)(e:cells.lookup y=some a):(closOf cells fr).lookup y=some a:=by
 obtain⟨b,q⟩:=jm hy
 have:=fP h q
 grind
def tLam (G:Gx)(W:Wd)(S:SS)(qual:Str)(params:Arguments)(scope:Scope)(body:Expr)(clos:List (Str×Addr)):TE:=fun ρ H Q=>∃ HW Z,GOk G W HW Z H S ρ∧∀ f c ctv oc ws t pm H1 HW1,GX HW Z H HW1 Z H1→WdOk G.K G.C HW1 Z W →
 H1 f=some (.frz (PySem.W.kla_obj "<lambda>" qual params body scope clos pm c ctv) (.own 0))→H1 c=some (.frz oc (.own 0))→oc.data=.fields ws→ws[1]?=some (.str qual t)→Q (.ref f) H1
theorem y3 {clos:List (Str×Addr)}{lpos:Pos}(i:Nat)(hK:X.K=G.K)(lx:LamX X G.K G.C i)(hcl:closureFor scope X.env=pure clos)(hdef:defaultsOf params X.env=([],[])) :
  PE X (.Lambda params body scope lpos) (tLam G W S (X.env.qual ++ "<lambda>") params scope body clos):=fun pins s ρ H Q I ⟨HW,Z,ok,w⟩ =>
 yZ i I ok hK lx hcl hdef fun f c ctv oc ws t pm s1 H1 HW1 I1 gx wd a1 a2 a3 a4=>⟨.ref f,H1,I1,rfl,w f c ctv oc ws t pm H1 HW1 gx wd a1 a2 a3 a4⟩
end
section
variable {X:Cx}{F:Fx}{o e a b:Expr}{g ga gb:SS→R D}{gs:SS→R (List D)}{apos cpos p pos:Pos}{ec:Expr}{k:Nat}{y:V}{q:D→Option Bool}
end
section
variable {P:Program}{w:World}{K:PySem.W.Frag}{mg:Str→Option Value}{base:Heap}{C:Nat→Addr}{k:Nat}{N:List Str}{x p:Str}{st:Stmt}
end
section
variable {X:Cx}{body:List Stmt}{c n cl yp:Str}{np np2 cp rp apos hpos pos:Pos}{fh:List D→R D}{k:Nat}{q:Nat→Bool}{C0:Addr}{C:Nat→Addr}{tb:XK→TS}
end
section
variable {X:Cx}{G:Gx}{W:Wd}{S:SS}{σ:Type}{J:σ→SS→Prop}{body:List Stmt}{c n cl yp:Str}{np np2 cp rp apos hpos pos:Pos}{k:Nat}{q:Nat→Bool}{C0:Addr}{fh:List D→R D}
end
section
variable {X:Cx}{G:Gx}{W:Wd}{S:SS}{σ:Type}{J:σ→SS→Prop}{e:Expr}{r:RW}{rest:List Stmt}{x:Str}{pos pos' lpos p0 apos cpos:Pos}
theorem wK (i:Nat){S':D→SS}{k:Wd→D→LW σ}(hN:X.N.Nodup)(h:GE X G W S e r)(hS:∀ d,S.set i (some (.own [d]))=S' d)(hk:∀ w d,GL X G w (S' d) rest J (k w d))(hi:X.N[i]?=some x:=by rfl)(hx:Loc X.env.scope x:=by first | exact Or.inl rfl | exact Or.inr rfl)
  (hs:swapsWith (.List [e] lpos) (some (.Name x pos')) pos.line X.env=pure false:=by rfl) (hf:X.fn x=true∨X.env.scope.names.lookup x=some .local:=by first | exact .inl rfl | exact .inr rfl)
  (he:starEach [e] X.env=(false,eval e X.env)::starEach [] X.env:=by rfl):GL X G W S (.Assign [.Name x pos'] (.List [e] lpos) pos::rest) J (lwB r k) :=
 (aE (iN hN hi hx (oj (aH h cH he)) hs hf) (bh fun w=>bh fun d=>hk w d)).weak fun D ρ H ⟨HW,Z,ok,w⟩ =>
  ⟨HW,Z,ok,WRW.gl (J:=J) (D:=D) (k:=k) ok (fun w1 d HW1 Z1 H1 v ok1 z1 rd wl=>⟨by show 1≤sizeLine;decide,fun p hp=>⟨w1,d,HW1,Z1,hS d ▸ ok1.after (ok1.nm.newOwn hp (Reps.cons rd Reps.nil)),wl⟩⟩) w⟩
theorem iJ (i:Nat){ds:List D}{S':List D→SS}{k:Wd→List D→LW σ}(h0:S[i]?=some (some (.own ds)))(h:GE X G W S e r)(hS:∀ xs,S.set i (some (.own xs))=S' xs)(hk:∀ w xs,GL X G w (S' xs) rest J (k w xs))
  (hi:X.N[i]?=some x:=by rfl) (hv:Vis X.env.scope x:=by first | exact Or.inl rfl | exact Or.inr (Or.inl rfl) | exact Or.inr (Or.inr rfl)) (hd:(x==("__debug__":Str))=false:=by decide)
  (hcd:(x==("__classdict__":Str))=false:=by decide)
  (hbase:attributeBase (.Name x p0) "append" X.env (eval (.Name x p0) X.env)=eval (.Name x p0) X.env:=by rfl)
  (hfew:((backTo cpos (starEach [e] X.env)).all (fun x=>!x.1)&&(backToKw cpos (keywordEach [] X.env)).all (fun x=>x.1.isSome)
   && decide ([e].length+([]:List Keyword).length+(if ([]:List Keyword).isEmpty then 0 else 1) < 30))=true:=by rfl)
  (hline:(apos.endLine==cpos.line)=true:=by rfl) (hs:starEach [e] X.env=(false,eval e X.env)::starEach [] X.env:=by rfl) (hplain:(backTo cpos (starEach [] X.env)).any (·.1)=false:=by rfl)
  (hsw:swapsWith (.Call (.Attribute (.Name x p0) "append" apos) [e] [] cpos) none pos.line X.env=pure false:=by rfl) :
  GL X G W S (.Expr (.Call (.Attribute (.Name x p0) "append" apos) [e] [] cpos) pos::rest) J (lwB r fun w d=>lwR w (oApp ds d) fun xs=>k w xs) :=
 (aE (fk (pN PySem.F.plainAttrs_list PySem.F.slot_list_append (by kernel_rfl) (eg (X:=X)) (cG hi hv hd hcd) (aH h cH hs) hbase hfew hline hs hplain) hsw) (bh fun w=>bh fun xs=>hk w xs)).weak fun D ρ H ⟨HW,Z,ok,w⟩=>by
  obtain⟨a,vs,e1,e2,_⟩:=ok.nm.own i ds h0
  refine⟨.ref a,e1,.inl ⟨rfl,vs,SqL.of e2⟩,HW,Z,ok,WRW.gl (J:=J) (D:=D) (k:=fun w d=>lwR w (oApp ds d) fun xs=>k w xs) ok (fun w1 d HW1 Z1 H1 v ok1 z1 rd wl=>?_) w⟩
  obtain⟨a1,vs1,e1',e2',_,_,r1⟩:=ok1.nm.own i ds h0
  rw[e1]at e1';cases e1'
  unfold oApp at wl
  by_cases hl:ds.length < 16777216
  ·rw[if_pos hl]at wl
   exact⟨a,vs1,v,rfl,rfl,e2',by rw[← r1.length,sizeLine_eq];exact hl,w1,_,HW1,Z1,hS _ ▸ ok1.after (ok1.nm.write h0 e1 (r1.append (Reps.cons rd Reps.nil))),wl⟩
  ·rw[if_neg hl]at wl;exact wl.elim
end
structure LamK (K:PySem.W.Frag)(C:Nat→Addr)(i:Nat):Prop where
 lt:i < C 900
 inj:∀ j,j < C 900→C (901+2*j)=C (901+2*i)→j=i
 cd:∃ c oc od fd sl,K.lookup (C (902+2*i))=some ⟨oc,od,.func fd,sl⟩∧fd.code=.ref c∧CodeK K c (C (901+2*i))
def OkGL (P:Program)(w:World)(K:PySem.W.Frag)(mg:Str→Option Value)(base:Heap)(C:Nat→Addr)(k i:Nat)(x:Str)(st:Stmt)(ps:List Str)(fn:Wd→List D→RW):Prop :=
 ∀ {f:Addr} {fd:FuncData},Fun K x x st f fd→f=C (902+2*i)→LamK K C i→BMn mg base→FnOk P w K mg base (CXE P w) (k+1) f fd ps (spG K C ps.length fn)
def OkGBL (P:Program)(w:World)(K:PySem.W.Frag)(mg:Str→Option Value)(base:Heap)(C:Nat→Addr)(k i:Nat)(N:List Str)(x:Str)(st:Stmt)(W:Wd)(ds:List D)(l:LW Unit):Prop :=
 ∀ (f:Addr) (cdv:Value) (A:Around) (outer:List Env) (s:Shared) (HW Z H:Hp) (E:XK),BG (bodyX P w K mg base N x (defScope st) f cdv A outer s H E) ⟨K,C,HW,Z,H,E⟩ k →
  PassesOwn (model P w) (bodyX P w K mg base N x (defScope st) f cdv A outer s H E).A (bodyX P w K mg base N x (defScope st) f cdv A outer s H E).env (bodyX P w K mg base N x (defScope st) f cdv A outer s H E).xe →
  MadeG (bodyX P w K mg base N x (defScope st) f cdv A outer s H E) ⟨K,C,HW,Z,H,E⟩→LamX (bodyX P w K mg base N x (defScope st) f cdv A outer s H E) K C i →
  GL (bodyX P w K mg base N x (defScope st) f cdv A outer s H E) ⟨K,C,HW,Z,H,E⟩ W (startS N.length ds) (defBody st) JU l
section
variable {P:Program}{w:World}{K:PySem.W.Frag}{mg:Str→Option Value}{base:Heap}{C:Nat→Addr}{k i:Nat}{N ps:List Str}{x:Str}{st:Stmt}{fn:Wd→List D→RW}
theorem okgl (S:FnScope N ps (defScope st))(h:∀ W ds,ds.length=ps.length→∃ l,fn W ds=outW l∧OkGBL P w K mg base C k i N x st W ds l):OkGL P w K mg base C k i x st ps fn:=fun {f fd} F hf lk bm=>by
 obtain⟨oc,od,kV,doc,pm,an,cdv,ct,osl,rfl,lo,hcd⟩:=F.ex
 obtain⟨c,oc',od',fd',sl',l1,l2,l3⟩:=lk.cd
 rw[← hf,lo]at l1
 cases l1
 have l2:=l2
 refine kI lo hcd S (fun vs H Q E q=>q.1) fun A outer s H vs Q E hr hsp=>?_
 obtain⟨hl,W,HW,Z,ds,zh,wh,dj,wd,r,wr⟩:=hsp
 obtain⟨l,e,o⟩:=h W ds (by rw[r.length];exact hl)
 rw[e]at wr
 have lx:LamX (bodyX P w K mg base N x (defScope st) f cdv A outer s H E) K C i:=⟨lk.lt,by rw[← hf];unfold qOf;rw[lo];rfl,⟨c,l2,l3⟩,bm,lk.inj⟩
 exact⟨_,o _ cdv A outer s HW Z H E ⟨hr,rfl,rfl,bd⟩ PassesOwn.leaving (fun F' e' pins σ H1 s1 h1 ea C1 args I hx hE=>eh I hx (by grind)) lx,HW,Z,GOk.start zh wh dj wd r,WGL.start wr⟩
theorem okgl1 {p:Str}{c:Wd→D→LW Unit}(S:FnScope N [p] (defScope st))(h:∀ W a,OkGBL P w K mg base C k i N x st W [a] (c W a)):OkGL P w K mg base C k i x st [p] (b1 c):=okgl S fun W ds hl=>by obtain⟨a,rfl⟩:=len1 hl;exact⟨c W a,rfl,h W a⟩
end
def codeKB (K:PySem.W.Frag)(c P:Addr):Bool:=match K.lookup c with
 | some ⟨.type n,_,.fields vs,_⟩=>(n == "code")&&(match (vs[11]?:Option Value),vs.getD 18 .none,vs.getD 7 .none,vs.getD 9 .none,vs.getD 10 .none with
  | some (.ref P'),.str _ _,.int _ _,.bool _,.int _ _=>(P'==P) && !(c==P)
  | _,_,_,_,_=>false)
 | _=>false
theorem uB {K:PySem.W.Frag}{c P:Addr}(h:codeKB K c P=true):CodeK K c P:=by
 unfold codeKB at h
 split at h
 ·rename_i n d vs sl e
  rw[Bool.and_eq_true]at h
  obtain⟨h1,h2⟩:=h
  have hn:n="code" := eq_of_beq h1
  subst hn
  split at h2
  ·rename_i P' f tf fl tg b tx tt e1 e2 e3 e4 e5
   rw[Bool.and_eq_true]at h2
   have hP:P'=P:=eq_of_beq h2.1
   subst hP
   have hc:c≠P':=fun z=>by rw[z]at h2;simp at h2
   refine⟨_,vs,f,tf,fl,tg,b,tx,tt,e,rfl,rfl,e1,?_,e2,e3,e4,e5,hc⟩
   simp_all
  ·cases h2
 ·cases h
end FF
namespace L2
open PySem PySem.Spec PyProof.Rows
def OnlyT (tabs:List (Addr×Addr))(H:Hp):Prop:=(∀ b,H b=none∨(∃ o xs,H b=some (.frz o (.lst xs)))∨(b∈tabs.map (·.2)∧H b=some (.tbl #[])))∧∀ q∈tabs,H q.2=some (.tbl #[])
theorem so {P:Program}{w:World}{K:PySem.W.Frag}{mg mb:Str→Option Value}{CX:CXT}{k:Nat}{fa a:Addr}{fd:FuncData}{x:Str}{sp:Sp}{s₁:Shared}{vs:List Value}{ns:List Int}{tabs:List (Addr×Addr)}
  (hT:PySem.W.TabsAt tabs s₁.heap) (hKT:∀ q∈tabs,K.lookup q.2=none) (bmn:FF.BMn mg s₁.heap)
  (KX:K.In s₁.heap) (hns:s₁.heap.Ns mainGlobals mg) (hb:s₁.heap.Ns builtinsNs mb) (hbb:∀ x:Str,x ≠ "__name__" → mb x=bootBuiltins x) (hlim:s₁.heap.NoLimit) (hg:s₁.gens = #[])
  (ha:s₁.heap.get? a=some { cls:=.type "list",data:=.seq vs.toArray }) (hi:IntsAre vs ns) (hl:ns.length≤sizeLine) (hr:Room k callerA)
  (F:∀ base:Heap,K.In base→base.Ns mainGlobals mg→FF.BMn mg base→FnOk P w K mg base CX k fa fd [x] sp) (hbind:∀ (s:Shared) (u:Value),BindsTo s fd ⟨[u],[]⟩ [(x,u)])
  (hsp:∀ H:Hp,OnlyT tabs H→SqL K H a (ns.map V.int)→sp [.ref a] H (fun v _=>v=.bl true) fun _ _ _=>False)
  (hCX:∀ H e s',CX [] H s₁ (fun _ _ _=>False) e s'→False) :
  codeAny (model P w) callerA (.call (.ref fa) ⟨[.ref a],[]⟩) (fun r s'=>r=.ok (.ret (.bool true))∧OldK s₁.heap s'.heap∧s'.os=s₁.os∧AllBare s'.gens) s₁:=by
 have rv:=gw hi
 have lenV:=hi.length
 have core:∀ H:Hp,OnlyT tabs H→SqL K H a (ns.map V.int)→HOk P w H s₁.heap→(∀ b,H b≠none→b=a∨b∈tabs.map (·.2))→(H a≠none→K.lookup a=none) →
   codeAny (model P w) callerA (.call (.ref fa) ⟨[.ref a],[]⟩) (fun r s'=>r=.ok (.ret (.bool true))∧OldK s₁.heap s'.heap∧s'.os=s₁.os∧AllBare s'.gens) s₁:=by
  intro H hO hS hok hA hK
  have base_of:∀ {b:Addr} {o:Obj},s₁.heap.get? b=some o→H b=none→(hidT s₁.heap H).get? b=some o:=fun e n=>sO e n
  have tabO:∀ b∈tabs.map (·.2),s₁.heap.get? b=some (PySem.W.tabObj #[]):=fun b hb'=>by
   obtain⟨q,hq,rfl⟩:=List.mem_map.mp hb'
   exact(hT q hq).2
  have noD:∀ {b:Addr} {o:Obj},s₁.heap.get? b=some o→(∀ ys n,o.data≠.seq ys n)→(∀ ys,o.data≠.fields ys)→H b=none:=fun {b o} e d1 d2=>by
   cases q:H b with
   | none=>rfl
   | some u =>
    rcases hA b (by rw[q];simp) with e' | e'
    ·subst e'
     rw[ha]at e;cases e
     exact absurd rfl (d1 _ _)
    ·rw[tabO b e']at e;cases e
     exact absurd rfl (d2 _)
  have noA:∀ {b:Addr} {o:Obj} {es:Array DictEntry} {ep:Nat},s₁.heap.get? b=some o→o.data=.dict es ep→H b=none:=fun {b o es ep} e d=>noD e (fun _ _ z=>by rw[d]at z;cases z) (fun _ z=>by rw[d]at z;cases z)
  have nsK:∀ {b:Addr} {m:Str→Option Value},s₁.heap.Ns b m→(hidT s₁.heap H).Ns b m:=fun {b m} ⟨o,es,ep,e,d,r⟩=>⟨o,es,ep,base_of e (noA e d),d,r⟩
  have hKb:=fun b o e=>base_of (KX b o e) (by
   cases q:H b with
   | none=>rfl
   | some u =>
    rcases hA b (by rw[q];simp) with e' | e'
    ·subst e'
     rw[hK (by rw[q];simp)]at e;cases e
    ·obtain⟨q',hq',rfl⟩:=List.mem_map.mp e'
     rw[hKT q' hq']at e;cases e)
  have hM:Mod K mg (hidT s₁.heap H):=⟨hKb,nsK hns,⟨mb,nsK hb,hbb⟩,let ⟨mc,h1,h2⟩:=hlim;⟨mc,nsK h1,h2⟩⟩
  have hbm:FF.BMn mg (hidT s₁.heap H):=by
   obtain⟨bm,ob,b1,b2,b3,b4,b5,b6⟩:=bmn
   exact⟨bm,ob,b1,b2,base_of b3 (noD b3 (fun _ _ z=>by rw[b6]at z;cases z) (fun _ z=>by rw[b6]at z;cases z)),b4,b5,b6⟩
  have e0:Env0 P w K mg (hidT s₁.heap H) callerA [] s₁ H:=⟨rfl,hM,fun b o e=>vq e,Nat.le_of_eq (qQ _ _),trivial,fun b hb=>absurd (show b∈([]:List Addr) from hb) (by simp),hok,.of_eq hg⟩
  refine codeAny_mono ((F _ hKb (nsK hns) hbm).run callerA [] s₁ H ⟨[.ref a],[]⟩ [.ref a] [.ref a] _ _ hr.w e0 (hbind s₁ (.ref a)) (.cons rfl .nil) (hsp H hO hS)) fun r s' h=>?_
  cases r with
  | error e=>exact(hCX H e s' h).elim
  | ok fl =>
   cases fl with
   | next=>exact False.elim h
   | brk=>exact False.elim h
   | cont=>exact False.elim h
   | ret u =>
    obtain⟨v,H',os,bare,un,hok',r',q⟩:=h
    have q':=q
    subst q'
    obtain rfl:u=Value.bool true:=r'
    have both:∀ b o,s₁.heap.get? b=some o→s'.heap.get? b=some o∨(isCodeTable s₁.heap b∧o=PySem.W.tabObj #[]∧∃ ps,s'.heap.get? b=some (PySem.W.tabObj ps)):=fun b o e=>by
     cases q:H b with
     | none=>exact .inl (un.keep b o e q (by intro z;exact absurd (show b∈([]:List Addr) from z) (by simp)) (by simp))
     | some u =>
      rcases hO.1 b with z | ⟨ob,xs,z⟩ | ⟨hm,z⟩
      ·rw[q]at z;cases z
      ·have z2:=un.frzs b ob _ z
       obtain⟨e1,_⟩:=hok b _ z
       obtain⟨e2,_⟩:=hok' b _ z2
       rw[e]at e1;cases e1
       exact .inl e2
      ·obtain⟨more,z2⟩:=un.tbls b _ z
       have e2:=hok' b _ z2
       obtain⟨qq,hq,rfl⟩:=List.mem_map.mp hm
       have e3:=(hT qq hq).2
       rw[e]at e3
       exact .inr ⟨((hT qq hq).1.tab (hT qq hq).2).isCodeTable,Option.some.inj e3,_,e2⟩
    refine⟨rfl,⟨fun b o e=>?_,fun b o e=>?_⟩,os,bare⟩
    ·rcases both b o e with z | ⟨z1,rfl,ps,z2⟩
     ·exact .inl z
     ·exact .inr (.inl ⟨z1,rfl,#[],ps,rfl,by rw[Array.empty_append];exact z2⟩)
    ·rcases both b o e with z | ⟨z1,rfl,ps,z2⟩
     ·exact⟨_,z⟩
     ·exact⟨_,z2⟩
 have nta:a∉tabs.map (·.2):=fun z=>by
  obtain⟨q,hq,e⟩:=List.mem_map.mp z
  have:=(hT q hq).2
  rw[e,ha]at this;cases this
 have tobj:∀ b∈tabs.map (·.2),s₁.heap.get? b=some { cls:=.none,data:=.fields #[] }:=fun b hb'=>by
  obtain⟨q,hq,rfl⟩:=List.mem_map.mp hb'
  exact(hT q hq).2
 cases hk:K.lookup a with
 | some o =>
  have e:=KX a o hk
  rw[ha]at e
  cases e
  refine core (fun b=>if b∈tabs.map (·.2) then some (.tbl #[]) else none) ⟨fun b=>?_,fun q hq=>if_pos (List.mem_map_of_mem hq)⟩ (.inr ⟨_,vs.toArray,_,hk,rfl,rfl,rfl,by rw[List.size_toArray,lenV];exact hl,by simpa using rv⟩) (fun b u z=>?_) (fun b z=>?_) fun z=>absurd (if_neg nta) z
  ·by_cases hb:b∈tabs.map (·.2)
   ·exact .inr (.inr ⟨hb,if_pos hb⟩)
   ·exact .inl (if_neg hb)
  ·by_cases hb:b∈tabs.map (·.2)
   ·have z':=(if_pos hb).symm.trans z
    cases z'
    exact tobj b hb
   ·have z':=(if_neg hb).symm.trans z
    cases z'
  ·by_cases hb:b∈tabs.map (·.2)
   ·exact .inr hb
   ·exact absurd (if_neg hb) z
 | none =>
  refine core (fun b=>if b=a then some (.frz { cls:=.type "list",data:=.seq vs.toArray } (.lst (ns.map V.int))) else if b∈tabs.map (·.2) then some (.tbl #[]) else none) ⟨fun b=>?_,fun q hq=>?_⟩ (.inl (.inr ⟨{ cls:=.type "list",data:=.seq vs.toArray },if_pos rfl⟩)) (fun b u z=>?_) (fun b z=>?_) fun _=>hk
  ·by_cases hb:b=a
   ·exact .inr (.inl ⟨_,_,if_pos hb⟩)
   ·by_cases hb2:b∈tabs.map (·.2)
    ·exact .inr (.inr ⟨hb2,(if_neg hb).trans (if_pos hb2)⟩)
    ·exact .inl ((if_neg hb).trans (if_neg hb2))
  ·have hm:=List.mem_map_of_mem (f:=(·.2)) hq
   exact(if_neg fun (z:q.2=a)=>nta (by rw[← z];exact hm)).trans (if_pos hm)
  ·by_cases hb:b=a
   ·have z':=(if_pos hb).symm.trans z
    cases z'
    subst hb
    exact⟨ha,by rw[List.length_map];exact hl,vs,_,rv,ha⟩
   ·have z1:=(if_neg hb).symm.trans z
    by_cases hb2:b∈tabs.map (·.2)
    ·have z':=(if_pos hb2).symm.trans z1
     cases z'
     exact tobj b hb2
    ·have z':=(if_neg hb2).symm.trans z1
     cases z'
  ·by_cases hb:b=a
   ·exact .inl hb
   ·by_cases hb2:b∈tabs.map (·.2)
    ·exact .inr hb2
    ·exact absurd ((if_neg hb).trans (if_neg hb2)) z
theorem uC {l:PySem.W.OpenLaw}{n k:Nat}{q:Program}{loose:List Str}{XP:(Str→Option Value)→Heap→Prop}{YP:World→Heap→Prop}{d:DefRec}{K:Params→PySem.W.Frag}{CX:World→CXT}{sp:World→Sp}{x:Str}{tabs:World→List (Addr×Addr)}
  (hT:∀ (w:World) (loose:List Str) (mean:ExcName→Option Value) (mg mb:Str→Option Value) (h:Heap),Top q loose mean mg mb h→(K w.params).In h→PySem.W.TabsAt (tabs w) h) (hKT:∀ (w:World),∀ q∈tabs w,(K w.params).lookup q.2=none)
  (hn:l.most=some n) (hn2:n≤sizeLine) (hdf:d.params.defaults=[]) (hr:Room k callerA)
  (hY:∀ (w:World) (h:Heap),YP w h→(K w.params).In h)
  (F:∀ (w:World) (mg:Str→Option Value) (fa:Addr) (h:Heap),(K w.params).In h→h.Ns mainGlobals mg→mg d.name=some (.ref fa) →
   ∃ fd:FuncData,(∀ (s:Shared) (u:Value),BindsTo s fd ⟨[u],[]⟩ [(x,u)]) ∧
    ∀ base:Heap,(K w.params).In base→base.Ns mainGlobals mg→FF.BMn mg base→FnOk l.prog w (K w.params) mg base (CX w) k fa fd [x] (sp w))
  (hsp:∀ (w:World) (H:Hp) (a:Addr) (ns:List Int),ns.length≤n→OnlyT (tabs w) H→SqL (K w.params) H a (ns.map V.int)→sp w [.ref a] H (fun v _=>v=.bl true) fun _ _ _=>False)
  (hCX:∀ (w:World) (H:Hp) (s:Shared) (e:Value) (s':Shared),CX w [] H s (fun _ _ _=>False) e s'→False) :
  PySem.W.WalkO q loose XP YP l.row.toRowW d [] (fun f vs=>PySem.call f vs):=by
 refine Att.attach_call hn hdf fun w s₀ s₁ mg mb fa o pm cd doc a vs ns G Y ho hd hcd hmg hobj hints hlen hg=>?_
 have KX:=hY w _ Y
 obtain⟨fd,hb,hF⟩:=F w mg fa _ KX G.T.g hmg
 exact so (hT w _ _ mg mb _ G.T KX) (hKT w) G.T.bmain KX G.T.g G.T.b G.T.builtins G.T.nolimit hg hobj hints (Nat.le_trans hlen hn2) hr hF hb (fun H hO hS=>hsp w H a ns hlen hO hS) fun H e s'=>hCX w H s₁ e s'
end L2
end
noncomputable section
namespace FF
open PySem PySem.Spec PyProof.Rows L2
def tabOf (K:PySem.W.Frag)(x:Str):Addr×Addr:=(PySem.W.tabIn K x).getD (0,0)
def tabOkB (K:PySem.W.Frag)(x:Str):Bool:=match PySem.W.tabIn K x with
 | some (c,P)=>codeKB K c P&&(K.lookup P).isNone
 | none=>false
theorem jn {K:PySem.W.Frag}{x:Str}(h:tabOkB K x=true):PySem.W.tabIn K x=some (tabOf K x)∧CodeK K (tabOf K x).1 (tabOf K x).2∧K.lookup (tabOf K x).2=none:=by
 unfold tabOkB at h
 unfold tabOf
 cases q:PySem.W.tabIn K x with
 | none=>rw[q]at h;cases h
 | some p =>
  rw[q]at h
  have h:=h
  rw[Bool.and_eq_true]at h
  exact⟨rfl,uB h.1,Option.isNone_iff_eq_none.mp h.2⟩
theorem y4 {K:PySem.W.Frag}{x:Str}{c P f:Addr}(h:PySem.W.tabIn K x=some (c,P))(hf:PySem.W.nsIn K mainGlobals x=some (some (.ref f))):∃ oc od fd sl,K.lookup f=some ⟨oc,od,.func fd,sl⟩∧fd.code=.ref c:=by
 unfold PySem.W.tabIn at h
 rw[hf]at h
 grind
theorem wL {q:Program}{loose:List Str}{mean:ExcName→Option Value}{mg mb:Str→Option Value}{h:Heap}{K:PySem.W.Frag}{xs:List Str}(hB:∀ x∈xs,tabOkB K x=true)(hR:∀ x∈xs,((recsOf q).find? (fun e=>e.name==x)).isSome=true)
  (T:Top q loose mean mg mb h) (X:K.In h):PySem.W.TabsAt (xs.map (tabOf K)) h:=fun p hp=>by
 obtain⟨x,hx,rfl⟩:=List.mem_map.mp hp
 obtain⟨d,hd⟩:=Option.isSome_iff_exists.mp (hR x hx)
 exact PySem.W.tab_of T X hd (jn (hB x hx)).1
theorem uD {K:PySem.W.Frag}{C:Nat→Addr}{x:Str}{f:Addr}(h0:C 900=1)(h1:C 901=(tabOf K x).2)(h2:C 902=f)(hB:tabOkB K x=true)(hf:PySem.W.nsIn K mainGlobals x=some (some (.ref f))):LamK K C 0:=by
 obtain⟨a,b,_⟩:=jn hB
 obtain⟨oc,od,fd,sl,l1,l2⟩:=y4 (c:=(tabOf K x).1) (P:=(tabOf K x).2) a hf
 exact⟨by rw[h0];exact Nat.one_pos,fun j hj _=>by rw[h0]at hj;exact Nat.lt_one_iff.mp hj,_,oc,od,fd,sl,by rw[show 902+2*0=902 from rfl,h2];exact l1,l2,by rw[show 901+2*0=901 from rfl,h1];exact b⟩
theorem su {K:PySem.W.Frag}{C:Nat→Addr}{HW:Hp}(h:∀ i,i < C 900→HW (C (901+2*i))=some (.tbl #[])):Tbs K C HW:=fun i hi=>⟨#[],h i hi,trivial,fun pos cv q=>by simp[codeAmong]at q⟩
theorem uE {K:PySem.W.Frag}{C:Nat→Addr}{H:Hp}{a:Addr}{ns:List Int}{tabs:List (Addr×Addr)}{f:Wd→List D→RW}(hO:OnlyT tabs H)(hS:SqL K H a (ns.map V.int))(hC:∀ i,i < C 900→C (901+2*i)∈tabs.map (·.2))
  (hw:∀ HW Z,WRW K C (fun _ _ _=>False) HW Z H (fun _ d _ Z' H'=>∀ v,Rep K C Z' d v→v=.bl true) (f (fun _=>none) [.lst (ns.map .int)])) :
  spG K C 1 f [.ref a] H (fun v _=>v=.bl true) fun _ _ _=>False:=by
 refine⟨rfl,fun _=>none,fun b=>match H b with | some (.tbl ps)=>some (.tbl ps) | _=>none,fun b=>match H b with | some (.frz o u)=>some (.frz o u) | _=>none,[.lst (ns.map .int)],fun b o e=>?_,fun b o e=>?_,fun b h=>?_,⟨fun _ _ e=>(nomatch e),su fun i hi=>?_⟩,?_,hw _ _⟩
 ·grind
 ·grind
 ·grind
 ·obtain⟨q,hq,e⟩:=List.mem_map.mp (hC i hi)
  have z:=hO.2 q hq
  grind
 ·rw[Reps]
  refine⟨_,_,rfl,?_,Reps.nil⟩
  rw[Rep]
  refine⟨a,_,rfl,?_,qd ns⟩
  rcases hS with (z | ⟨o,z⟩) | z
  ·rcases hO.1 a with q | ⟨o,xs,q⟩ | ⟨_,q⟩<;>(rw[z]at q;cases q)
  ·exact .inl (.inr ⟨o,by simp only[z]⟩)
  ·exact .inr z
theorem jo {X:Cx}{G:Gx}{W:Wd}{S:SS}{e:Expr}{r0 r:RW}(h:GE X G W S e r0)(hr:r0=r):GE X G W S e r:=hr ▸ h
end FF
namespace FF
open PySem PySem.Spec PyProof.Rows L2
def isStar:Expr→Bool
 | .Starred ..=>true
 | _=>false
theorem xR {e:Expr}{es:List Expr}{env:Env}(h:isStar e=false):starEach (e::es) env=(false,eval e env)::starEach es env:=by
 cases e<;>first | rfl | cases h
def dDx (d k:D):R D:=match d with
 | .dic ks xs=>match keyOf k with
  | some k=>match dicGet (ks.zip xs) k with
   | some d=>.ok d
   | none=>.stuck
  | none=>.stuck
 | _=>.stuck
section
variable {X:Cx}{F:Fx}{o e:Expr}{go g:SS→R D}{pos:Pos}{k:Nat}
theorem DGet.kf {H:Hp}{a:Addr}{o:Obj}{kvs:List (Key×V)}{k:Key}(e:H a=some (.frz o (.dK kvs))):DGet H a (kV k) (valV kvs k):=.inl ⟨kvs,k,.inr ⟨o,e⟩,rfl,rfl⟩
theorem iK {Z:Hp}{ks:List Key}{xs:List D}{v:V}(h:Rep F.K F.C Z (.dic ks xs) v):∃ a kvs o,v=.ref a∧Z a=some (.frz o (.dK kvs))∧Pairs F Z (ks.zip xs) kvs:=by
 rw[Rep]at h
 obtain⟨a,kvs,h1,⟨o,h2⟩,h3,h4⟩:=h
 have l1:ks.length=kvs.length:=by rw[← h3,List.length_map]
 have l2:xs.length=kvs.length:=by have:=h4.length;rw[List.length_map]at this;exact this
 refine⟨a,kvs,o,h1,h2,?_,?_⟩
 ·rw[List.map_fst_zip (by omega)];exact h3
 ·rw[List.map_snd_zip (by omega)];exact h4
theorem wM (bx:BX X F k)(ho:FE X F o go)(he:FE X F e g)(hs:NoSl e:=by intro _ _;rfl):FE X F (.Subscript o e pos) (eOp dDx go g) :=
 (qf (by have:=bx.room.un;omega) ho he hs).weak fun σ H Q ⟨Z,S,ok,w⟩=>by
  refine ah ok w fun d x H1 Z1 ok1 x1 rx w1=>ah ok1 w1 fun dk y H2 Z2 ok2 x2 ry w2=>?_
  cases d with
  | dic ks xs =>
   obtain⟨a,kvs,o,rfl,ez,r⟩:=iK rx
   unfold dDx at w2
   simp only at w2
   cases ek:keyOf dk with
   | none=>rw[ek]at w2;exact w2.elim
   | some kk =>
    rw[ek]at w2
    simp only at w2
    cases ed:dicGet (ks.zip xs) kk with
    | none=>rw[ed]at w2;exact w2.elim
    | some d' =>
     rw[ed]at w2
     obtain⟨v,f1,f2⟩:=(r.mono x2.z).get ed
     rw[cS ek ry]
     refine⟨a,v,rfl,?_,WG.now w2 ok2.sub v f2⟩
     rw[← f1]
     exact DGet.kf (ok2.sub _ _ (x2.z _ _ ez))
  | _=>exact w2.elim
def dDin (x d:D):R D:=match d with
 | .dic ks xs=>match keyOf x with
  | some k=>.ok (.bl (dicGet (ks.zip xs) k).isSome)
  | none=>.stuck
 | _=>.stuck
def dDnin (x d:D):R D:=match d with
 | .dic ks xs=>match keyOf x with
  | some k=>.ok (.bl (!(dicGet (ks.zip xs) k).isSome))
  | none=>.stuck
 | _=>.stuck
theorem Pairs.some {κ:Type}[DecidableEq κ]{Z:Hp}{k:κ}:∀ {m:List (κ×D)} {kvs:List (κ×V)},Pairs F Z m kvs→(valV kvs k).isSome=(dicGet m k).isSome
 | [],kvs,h=>by rw[h.inv0];rfl
 | (k',d')::m,kvs,h=>by
  obtain⟨v,q,rfl,h1,h2⟩:=h.inv
  have ih:=Pairs.some (k:=k) h2
  unfold valV dicGet at ih ⊢
  rw[List.find?_cons,List.find?_cons]
  by_cases c:k'=k
  ·simp[c]
  ·simpa [c] using ih
theorem wN (bx:BX X F k)(ho:FE X F o go)(he:FE X F e g):∀ σ H Q,tE F (eOp dDin g go) σ H Q→tDIn (tE F g) (tE F go) σ H Q:=fun σ H Q ⟨Z,S,ok,w⟩=>by
 refine ah ok w fun dk y H1 Z1 ok1 x1 ry w1=>ah ok1 w1 fun d x H2 Z2 ok2 x2 rx w2=>?_
 cases d with
 | dic ks xs =>
  obtain⟨a,kvs,o,rfl,ez,r⟩:=iK rx
  unfold dDin at w2
  simp only at w2
  cases ek:keyOf dk with
  | none=>rw[ek]at w2;exact w2.elim
  | some kk =>
   rw[ek]at w2
   rw[cS ek ry]
   refine⟨a,valV kvs kk,rfl,DGet.kf (ok2.sub _ _ ez),?_⟩
   rw[r.some]
   exact WG.now w2 ok2.sub _ aG
 | _=>exact w2.elim
theorem uF (bx:BX X F k)(ho:FE X F o go)(he:FE X F e g):∀ σ H Q,tE F (eOp dDnin g go) σ H Q→tDNotIn (tE F g) (tE F go) σ H Q:=fun σ H Q ⟨Z,S,ok,w⟩=>by
 refine ah ok w fun dk y H1 Z1 ok1 x1 ry w1=>ah ok1 w1 fun d x H2 Z2 ok2 x2 rx w2=>?_
 cases d with
 | dic ks xs =>
  obtain⟨a,kvs,o,rfl,ez,r⟩:=iK rx
  unfold dDnin at w2
  simp only at w2
  cases ek:keyOf dk with
  | none=>rw[ek]at w2;exact w2.elim
  | some kk =>
   rw[ek]at w2
   rw[cS ek ry]
   refine⟨a,valV kvs kk,rfl,DGet.kf (ok2.sub _ _ ez),?_⟩
   rw[r.some]
   exact WG.now w2 ok2.sub _ aG
 | _=>exact w2.elim
theorem wO (bx:BX X F k)(he:FE X F e g)(ho:FE X F o go)(hm:behindInMarks .In o=false:=by rfl):FE X F (.Compare e [.In] [o] pos) (eOp dDin g go):=(xZ (yW (by have:=bx.room.un;omega) he ho) hm).weak (wN bx ho he)
theorem uG (bx:BX X F k)(he:FE X F e g)(ho:FE X F o go)(hm:behindInMarks .NotIn o=false:=by rfl):FT X F (.Compare e [.NotIn] [o] pos) (gB (eOp dDnin g go)):=(ya (rR (by have:=bx.room.un;omega) he ho) hm).weak (pP (uF bx ho he))
end
def dicD (m:List (Key×D)):D:=.dic (m.map (·.1)) (m.map (·.2))
section
variable {X:Cx}{F:Fx}{S:SS}{σ:Type}{J:σ→SS→Prop}
theorem StOk.freezeD {H Z:Hp}{ρ:St}(h:StOk F H Z S ρ){i:Nat}{m:List (Key×D)}(e:S[i]?=some (some (.dic m))):∃ a kvs,H a=some (.dK kvs)∧Same Z (upd Z a (.dK kvs))∧∀ o:Obj,Same Z (upd Z a (.frz o (.dK kvs)))∧StOk F (upd H a (.frz o (.dK kvs))) (upd Z a (.frz o (.dK kvs))) (S.set i (some (.val (dicD m)))) ρ:=by
 obtain⟨v,A,e1,ow,p⟩:=h.sl i _ e
 obtain⟨a,kvs,rfl,rfl,e2,r⟩:=id ow
 have zn:Z a=none:=p.z a (.head _)
 refine⟨a,kvs,e2,ap zn,fun o=>?_⟩
 have hz:Same Z (upd Z a (.frz o (.dK kvs))):=ap zn
 refine⟨hz,h.frzAllH e e1 ow (fun b hb=>ac fun z=>hb (by rw[z];exact .head _)) hz (fun b u q=>?_) (fun b q=>?_) (by rw[dicD,Rep];exact⟨a,kvs,rfl,⟨o,af⟩,r.1,r.2.mono hz⟩)⟩
 ·by_cases z:b=a
  ·subst z;rw[af]at q ⊢;exact q
  ·rw[ac z]at q ⊢;exact h.sub b u q
 ·by_cases z:b=a
  ·subst z;exact .inr (.head _)
  ·rw[ac z]at q;exact .inl q
theorem wQ {pins:List (Addr×Obj)}{s:Shared}{ρ:St}{H:Hp}{a:Addr}{kvs:List (Key×V)}(I:Inv X pins ρ H s)(e:H a=some (.dK kvs)):∃ o,Inv X pins ρ (upd H a (.frz o (.dK kvs))) s:=by
 obtain⟨hz,hs,vs,kv,o,es,ep,e1,dd⟩:=I.hok a _ e
 exact⟨o,lU I (by rw[e];trivial) ⟨rfl,fun _ _=>rfl⟩ ⟨o,e1⟩ ⟨e1,hz,hs,vs,kv,o,es,ep,e1,dd⟩⟩
end
def Itx (x:Str):It where
 go:=fun i _=>i < x.cps.size
 yld:=fun i H v H'=>H'=H∧∃ c,x.cps[i]?=some c∧v=.str ⟨#[c]⟩
 stop:=fun i _=>x.cps.size≤i
theorem oV {P:Program}{w:World}{K:PySem.W.Frag}{tg:Expr}(x:Str)(t:Tok)(it:Addr):Turn P w K tg (Itx x) [it] it (fun i h=>h.IsStrIter it "str_ascii_iterator" x t i) where
 mem:=by simp
 obj:=fun i h st b hb=>by
  have e:b=it:=by simpa using hb
  subst e
  obtain⟨o,ho,_,hd⟩:=st
  grind
 keep:=fun i h h' st k=>let ⟨o,ho,r⟩:=st;⟨o,k it (by simp) o ho,r⟩
 item:=by
  intro X hP hw hK hc i pins s σ H E I hf st hg
  subst hP hw hK
  have hg:i < x.cps.size:=hg
  obtain⟨f0,f1,f2,f3,f4,f5⟩:=hf it (by simp)
  refine wpAny_pyNext_ascii_item st (c:=x.cps[i]) (by simp) fun h' st' sb=>?_
  have I1:=I.turned (t':=s.toks+1) (fun b o hb e=>(sb.2 b hb).trans e) f0 f1 f3 f4 f5
  obtain⟨o,e,c,d⟩:=id st'
  exact⟨_,rfl,mF e c d (by decide) ⟨.str ⟨#[x.cps[i]]⟩,H,I1,⟨_,rfl⟩,⟨rfl,x.cps[i],by simp[hg],rfl⟩,st',fun b hb=>(hf b hb).1⟩⟩
 done:=by
  intro X hP hw hK hc i pins s σ H E I hf st hg
  subst hP hw hK
  have hg:x.cps.size≤i:=hg
  obtain⟨f0,f1,f2,f3,f4,f5⟩:=hf it (by simp)
  exact wpAny_pyNext_ascii_end (I.ok.hd hc) st (by grind) fun h' eb=>⟨rfl,I.turned (t':=s.toks) (fun b o hb e=>eb b o hb e) f0 f1 f3 f4 f5⟩
 self:=fun _ _ _ _ _ st h=>wpAny_pyIter_striter_ascii st h
theorem sv {P:Program}{w:World}{K:PySem.W.Frag}{tg:Expr}(x:Str)(t:Tok)(it:Addr):Turn P w K tg (Itx x) [it] it (fun i h=>h.IsStrIter it "str_iterator" x t i) where
 mem:=by simp
 obj:=fun i h st b hb=>by
  have e:b=it:=by simpa using hb
  subst e
  obtain⟨o,ho,_,hd⟩:=st
  exact⟨o,ho,fun v z=>by rw[hd]at z;cases z⟩
 keep:=fun i h h' st k=>let ⟨o,ho,r⟩:=st;⟨o,k it (by simp) o ho,r⟩
 item:=by
  intro X hP hw hK hc i pins s σ H E I hf st hg
  subst hP hw hK
  have hg:i < x.cps.size:=hg
  obtain⟨f0,f1,f2,f3,f4,f5⟩:=hf it (by simp)
  refine wpAny_pyNext_wide_item st (c:=x.cps[i]) (by simp[hg]) fun h' st' sb=>?_
  have I1:=I.turned (t':=s.toks+1) (fun b o hb e=>(sb.2 b hb).trans e) f0 f1 f3 f4 f5
  obtain⟨o,e,c,d⟩:=id st'
  exact⟨_,rfl,mF e c d (by decide) ⟨.str ⟨#[x.cps[i]]⟩,H,I1,⟨_,rfl⟩,⟨rfl,x.cps[i],by simp[hg],rfl⟩,st',fun b hb=>(hf b hb).1⟩⟩
 done:=by
  intro X hP hw hK hc i pins s σ H E I hf st hg
  subst hP hw hK
  have hg:x.cps.size≤i:=hg
  obtain⟨f0,f1,f2,f3,f4,f5⟩:=hf it (by simp)
  exact wpAny_pyNext_wide_end (I.ok.hd hc) st (by simp[hg]) fun h' eb=>⟨rfl,I.turned (t':=s.toks) (fun b o hb e=>eb b o hb e) f0 f1 f3 f4 f5⟩
 self:=fun _ _ _ _ _ st h=>wpAny_pyIter_striter_wide st h
def signs (x:Str):List D:=x.cps.toList.map fun c=>.str ⟨#[c]⟩
def asTxt:D→R (List D)
 | .str x=>if x.cps.size≤16777216 then .ok (signs x) else .stuck
 | _=>.stuck
def iTxt (g:SS→R D):SS→R (List D):=fun S=>(g S).bind asTxt
theorem uH {F:Fx}{x:Str}{Z:Hp}:WalkG F (Itx x) (signs x) Z:=fun i H Z' z1 z2=>by
 have hl:(signs x).length=x.cps.size:=by simp[signs]
 refine⟨fun hi=>⟨by rw[hl]at hi;exact hi,fun v H' ⟨e,c,h1,h2⟩=>?_⟩,fun hi=>by rw[hl]at hi;exact hi⟩
 subst e h2
 refine⟨Z',.str ⟨#[c]⟩,Ex.refl z2,?_,by rw[Rep]⟩
 simp only[signs,List.getElem?_map,Array.getElem?_toList,h1]
 rfl
theorem y6 {X:Cx}{tg l:Expr}{tl:TE}(hl:PE X l tl):PI X tg l (fun σ H R=>tl σ H fun v H1=>∃ x,v=.str x∧R (Itx x) H1):=by
 intro pins s σ H R I h
 refine thn (hl pins s σ H _ I h) fun v s1 ⟨y,H1,I1,r1,x,e,q⟩=>?_
 subst e
 obtain⟨t,rfl⟩:=r1
 have fin:∀ b∈[s1.heap.objs.size],FpOk X pins H1 b:=fun b hb=>by
  have e:b=s1.heap.objs.size:=by simpa using hb
  subst e
  exact I1.fpOk (Nat.le_refl _) (I1.hok.fresh (Nat.le_refl _))
 cases ha:x.cps.all (· < 128)
 ·exact wpAny_pyIter_wide ha ⟨s1.heap.objs.size,[s1.heap.objs.size],_,_,H1,rfl,I1.kept fun b o e=>Heap.get?_push_of_some _ e,sv x t _,⟨_,Heap.get?_push_size _ rfl,rfl,rfl⟩,fin,q⟩
 ·exact wpAny_pyIter_ascii ha ⟨s1.heap.objs.size,[s1.heap.objs.size],_,_,H1,rfl,I1.kept fun b o e=>Heap.get?_push_of_some _ e,oV x t _,⟨_,Heap.get?_push_size _ rfl,rfl,rfl⟩,fin,q⟩
section
variable {X:Cx}{F:Fx}{tg a b e o:Expr}{g ga gb go:SS→R D}{gs:SS→R (List D)}{p pos:Pos}{k:Nat}
theorem y8 (h:FE X F e g):FI X F tg e (iTxt g):=(y6 h).weak fun σ H Q ⟨Z,S,ok,w⟩=>ah ok w fun d v H1 Z1 ok1 x1 rv w1=>by
 cases d with
 | str x =>
  rw[Rep]at rv
  have w2:WG F H1 Z1 (if x.cps.size≤16777216 then R.ok (signs x) else .stuck) _:=w1
  split at w2
  ·rename_i hl
   exact⟨x,rv,WG.now w2 ok1.sub _ uH (by simp[signs];exact hl)⟩
  ·exact w2.elim
 | _=>exact w1.elim
def dInS:D→D→R D
 | .str i,.str j=>.ok (.bl (!(Builtin.Str.occurrences j i 0 j.length 1).isEmpty))
 | _,_=>.stuck
theorem wR:OpD F (fun x y H Q=>∃ i j,x=.str i∧y=.str j∧Q (.bl (!(Builtin.Str.occurrences j i 0 j.length 1).isEmpty)) H) dInS:=by
 intro H Z x y dx dy Q s rx ry w
 unfold dInS at w
 split at w
 ·rename_i i j
  rw[Rep]at rx ry
  subst rx;subst ry
  exact⟨i,j,rfl,rfl,WG.now w s _ aG⟩
 ·exact w.elim
theorem y9 (ha:FE X F a ga)(hb:FE X F b gb)(hm:behindInMarks .In b=false:=by rfl):FE X F (.Compare a [.In] [b] pos) (eOp dInS ga gb):=tz qW wR ha hb hm
def emptyO:Obj:={ cls:=.type "dict",data:=.dict #[] }
theorem uI:PE X (.Dict [] [] pos) (fun _ H Q=>∀ p,H p=none→Q (.ref p) (upd H p (.frz emptyO (.dK [])))):=fun pins s σ H Q I h =>
 wpAny_Dict_empty ⟨.ref s.heap.objs.size,_,I.laid (o:=.frz emptyO (.dK [])) (fun _ _ q=>Heap.get?_push_of_some _ q) (Nat.le_refl _) ⟨Heap.get?_push_size _ rfl,ui s.heap I.big⟩,rfl,h _ (I.hok.fresh (Nat.le_refl _))⟩
theorem uJ:FE X F (.Dict [] [] pos) (fun _=>.ok (.dic [] [])):=uI.weak fun σ H Q ⟨Z,S,ok,w⟩=>fun q hq =>
 w _ _ (Ex.alloc ok.sub hq) _ (by rw[Rep];exact⟨q,[],rfl,⟨emptyO,af⟩,rfl,Reps.nil⟩)
end
theorem oW {X:Cx}:CallR X (.type "dict") (fun xs H Q=>∃ a kvs,xs=[.ref a]∧Rd H a (.dK kvs)∧∀ p,H p=none→Q (.ref p) (upd H p (.dK kvs))):=by
 intro pins s σ H xs us Q I r h
 obtain⟨a,kvs,rfl,e,q⟩:=h
 obtain⟨u,rfl,ru⟩:=r.one
 cases ru
 obtain⟨hz,hs,vs,kv,hd⟩:=jd I.hok e
 refine kt_call_dict hs hd (by have:=kv.length;omega) fun h' hm sb=>?_
 have hf:=I.hok.fresh (Nat.le_refl _)
 have kp:∀ b u,s.heap.get? b=some u→h'.get? b=some u:=fun b u e=>(sb.2 b (Nat.ne_of_lt (Heap.lt_size e))).trans (Heap.get?_push_of_some _ e)
 exact⟨.ref s.heap.objs.size,_,I.laid (o:=.dK kvs) kp (Nat.le_refl _) ⟨hz,beq_eq_false_iff_ne.mpr (Ne.symm (Nat.ne_of_lt I.big)),vs,kv,hm⟩,rfl,q _ hf⟩
section
variable {X:Cx}{F:Fx}{e ei:Expr}{g:SS→R D}{gs:SS→R (List D)}{p pos pos' p0 apos cpos:Pos}{k:Nat}{x:Str}
def sDicOf (i:Nat)(gs:SS→R (List D)):SS→O:=fun S=>rO ((gs S).bind fun ds=>match ds with
 | [.dic ks xs]=>if ks.length=xs.length then .ok (.nx (S.set i (some (.dic (ks.zip xs))))) else .stuck
 | _=>.stuck)
theorem uK (i:Nat)(bx:BX X F k)(hN:X.N.Nodup)(hg:Gl X "dict")(hm:X.mg "dict"=none)(ha:FA X F [e] gs)(hi:X.N[i]?=some x:=by rfl)(hx:Loc X.env.scope x:=by first | exact Or.inl rfl | exact Or.inr rfl)
  (hs:swapsWith (.Call (.Name "dict" p) [e] [] cpos) (some (.Name x pos')) pos.line X.env=pure false:=by rfl) (hf:X.fn x=true∨X.env.scope.names.lookup x=some .local:=by first | exact .inl rfl | exact .inr rfl)
  (he:starEach [e] X.env=(false,eval e X.env)::starEach [] X.env:=by rfl) (hpl:(backTo cpos (starEach [] X.env)).any (·.1)=false:=by rfl) :
  FS X F (.Assign [.Name x pos'] (.Call (.Name "dict" p) [e] [] cpos) pos) (sDicOf i gs) :=
 (iN hN hi hx (d9 oW hg hm (by decide +kernel) ha (he:=he)) hs hf).weak fun D σ H ⟨Z,S,ok,w⟩=>aw ok (WO.wg ok w) fun ds vs H1 Z1 ok1 x1 rs w1=>by
  split at w1
  ·rename_i ks xs
   split at w1
   ·rename_i hl
    obtain⟨v,rfl,rv⟩:=aI rs
    obtain⟨a,kvs,o,rfl,ez,r⟩:=iK rv
    refine⟨a,kvs,rfl,.inr ⟨o,ok1.sub _ _ ez⟩,fun q hq=>?_⟩
    have w2:=WG.now w1 ok1.sub
    exact w2 _ _ Z1 (Same.refl _) (ok1.putNew (Ex.hidden ok1.sub hq) ⟨q,kvs,rfl,rfl,af,r⟩ ⟨by simp,fun b hb=>by cases List.mem_singleton.mp hb;exact ok1.sub.free hq,fun b hb=>by cases List.mem_singleton.mp hb;exact ok1.ex.same.free hq⟩ fun b hb=>by cases List.mem_singleton.mp hb;exact hq)
   ·exact w1.elim
  ·exact w1.elim
end
def leT (a b:Str):Bool:=!ltCps b.cps.toList a.cps.toList
def insT (x:Str):List Str→List Str
 | []=>[x]
 | y::r=>if leT x y=true then x::y::r else y::insT x r
def sortT:List Str→List Str
 | []=>[]
 | x::r=>insT x (sortT r)
theorem l5 {a b:Str}:leT a b=true↔a.cps.toList≤b.cps.toList:=by
 unfold leT
 rw[ltCps_eq,Bool.not_eq_true',decide_eq_false_iff_not]
 exact List.not_lt
theorem sw {a b:Str}(h:¬ leT a b=true):leT b a=true:=by
 rw[l5]at h ⊢
 rcases List.le_total a.cps.toList b.cps.toList with z | z
 ·exact absurd z h
 ·exact z
theorem uL {a b:Str}(h1:leT a b=true)(h2:leT b a=true):a=b:=by
 rw[l5]at h1 h2
 have e:=List.le_antisymm h1 h2
 cases a with | mk x=>cases b with | mk y=>exact congrArg Str.mk (Array.toList_inj.mp e)
theorem k7 {a b c:Str}(h1:leT a b=true)(h2:leT b c=true):leT a c=true:=by
 rw[l5]at h1 h2 ⊢
 exact List.le_trans h1 h2
theorem gR (x:Str):∀ l,(insT x l).Perm (x::l)
 | []=>.refl _
 | y::r=>by
  unfold insT
  split
  ·exact .refl _
  ·exact((gR x r).cons y).trans (.swap x y r)
theorem eY:∀ l,(sortT l).Perm l
 | []=>.refl _
 | x::r=>(gR x _).trans ((eY r).cons x)
theorem qo (x:Str):∀ l,l.Pairwise (fun a b=>leT a b=true)→(insT x l).Pairwise fun a b=>leT a b=true
 | [],_=>by unfold insT;simp
 | y::r,h=>by
  have h1:=List.pairwise_cons.mp h
  unfold insT
  split
  ·rename_i c
   exact List.pairwise_cons.mpr ⟨fun z hz=>by
    rcases List.mem_cons.mp hz with e | hz
    ·rw[e];exact c
    ·exact k7 c (h1.1 z hz),h⟩
  ·rename_i c
   refine List.pairwise_cons.mpr ⟨fun z hz=>?_,qo x r h1.2⟩
   rcases List.mem_cons.mp ((gR x r).mem_iff.mp hz) with e | hz
   ·rw[e];exact sw c
   ·exact h1.1 z hz
theorem nB:∀ l,(sortT l).Pairwise fun a b=>leT a b=true
 | []=>.nil
 | x::r=>qo x _ (nB r)
theorem jp:∀ (l:List Str),sortedS l=true→l.Pairwise fun a b=>leT a b=true
 | [],_=>.nil
 | [x],_=>by simp
 | x::y::r,h=>by
  have h':(leT x y&&risingS y r)=true:=h
  rw[Bool.and_eq_true]at h'
  have ih:=jp (y::r) h'.2
  refine List.pairwise_cons.mpr ⟨fun z hz=>?_,ih⟩
  rcases List.mem_cons.mp hz with e | hz
  ·rw[e];exact h'.1
  ·exact k7 h'.1 ((List.pairwise_cons.mp ih).1 z hz)
theorem k8:∀ {a b:List Str},a.Perm b→a.Pairwise (fun a b=>leT a b=true)→b.Pairwise (fun a b=>leT a b=true)→a=b
 | [],b,p,_,_=>(List.nil_perm.mp p).symm
 | x::xs,[],p,_,_=>nomatch p.length_eq
 | x::xs,y::ys,p,ha,hb=>by
  have h1:=List.pairwise_cons.mp ha
  have h2:=List.pairwise_cons.mp hb
  have e:x=y:=by
   have m1:x∈y::ys:=p.subset List.mem_cons_self
   have m2:y∈x::xs:=p.symm.subset List.mem_cons_self
   rcases List.mem_cons.mp m1 with e | m1
   ·exact e
   ·rcases List.mem_cons.mp m2 with e | m2
    ·exact e.symm
    ·exact uL (h1.1 y m2) (h2.1 x m1)
  subst e
  exact congrArg (x::·) (k8 (p.cons_inv) h1.2 h2.2)
section
variable {prog:Program}{w:World}{A:Around}{E:Value→Shared→Prop}{s:Shared}{κ:Type}[DecidableEq κ]{knd:PySem.KeyKind prog w κ}
theorem oX {S d:Addr}{kvs:List (κ×Value)}{ep c:Nat}{R:Result→Shared→Prop}(hh:A.handled=none)(hd:(d==sysModules)=false)(hm:s.heap.DictAt knd d kvs ep)(hlen:kvs.length≤1000)(hl:s.heap.get? S=some (lobj #[] c))
  (q:∀ h' tk acc' c',(∀ b o,b≠S→s.heap.get? b=some o→h'.get? b=some o)→h'.get? S=some { cls:=.type "list",dict:=none,data:=.seq acc' c',slots:=#[] } →
   ItemsOf (fun i v=>∃ k x,kvs[i]?=some (k,x)∧knd.is k v=true) acc' kvs.length→R (.ok (.ret (.ref S))) { s with heap:=h',toks:=tk }) :
  codeAny (model prog w) A (.builtin "list.__iadd__" ⟨[.ref S,.ref d],[]⟩) R s:=by
 refine codeAny_builtin PySem.F.entry_list_iadd ?_
 rw[Around.under_plainId PySem.F.plain_list_iadd _]
 have go:wpAny (model prog w) A.in1 (Builtin.List.listExtendWith (.ref S) (.ref d) (.ref S)) (fun fin s'=>match fin with | .done f=>R (.ok f) s' | .again c'=>c'.quiet=true∧codeAny (model prog w) A c' R s') (fun e s'=>R (.error e) s') s :=
  uf (by grind) hd hm hlen S (.ref S) c hl q
 exact go
theorem j7 {d:Addr}{kvs:List (κ×Value)}{ep:Nat}{Q:List Value→Shared→Prop}(hh:A.handled=none)(hd:(d==sysModules)=false)(hm:s.heap.DictAt knd d kvs ep)(hlen:kvs.length≤1000)
  (q:∀ h' tk (acc:Array Value),(∀ b o,s.heap.get? b=some o→h'.get? b=some o)→ItemsOf (fun i v=>∃ k x,kvs[i]?=some (k,x)∧knd.is k v=true) acc kvs.length→Q acc.toList { s with heap:=h',toks:=tk }):wpAny (model prog w) A (collect (.ref d)) Q E s:=by
 unfold collect
 refine wpAny_bind (wpAny_runValue (codeAny_builtin PySem.F.entry_proto_collect ?_))
 rw[Around.under_plainId PySem.F.plain_proto_collect _]
 unfold Builtin.«proto.collect»
 have hm1:(s.heap.push (lobj #[] 0)).DictAt knd d kvs ep:=hm.at' fun o e=>Heap.get?_push_of_some _ e
 refine wpAny_bind (wpAny_newList (wpAny_pure ⟨plainId_quiet PySem.F.plain_list_iadd _,oX (by grind) hd hm1 hlen (Heap.get?_push_size _ rfl) fun h' tk acc' c' hk hS hacc=>?_⟩))
 refine wpAny_bind (wpAny_load hS (wpAny_pure ?_))
 exact q h' tk acc' (fun b o e=>hk b o (Nat.ne_of_lt (Heap.lt_size e)) (Heap.get?_push_of_some _ e)) hacc
theorem l6 {d:Addr}{kvs:List (Key×Value)}{ss:List Str}{ep:Nat}{Q:Value→Shared→Prop}(hh:A.handled=none)(hd:(d==sysModules)=false)(hm:s.heap.DictAt (mixKind prog w) d kvs ep)(hs:kvs.map (·.1)=ss.map .inr)(h64:ss.length < 64)
  (q:∀ (h1 h':Heap) tk vs n,(∀ b o,s.heap.get? b=some o→h1.get? b=some o)→(∀ b o,h1.get? b=some o→h'.get? b=some o)→StrsAre vs (sortT ss)→h'.get? h1.objs.size=some (seqObj "list" vs.toArray n)→Q (.ref h1.objs.size) { s with heap:=h',toks:=tk }) :
  wpAny (model prog w) A (call (.builtin "sorted") [.ref d]) Q E s:=by
 have lk:kvs.length=ss.length:=by have:=congrArg List.length hs;simpa using this
 refine Calls.call_function_entry kind_sorted plain_sorted entry_sorted (args_sorted1 _) ?_
 have go:wpAny (model prog w) A.in1 (collect (.ref d) >>= fun xs=>newList xs >>= fun l=>holding [l] (call (.builtin "list.sort") [l]) >>= fun _=>ret l) (fun fin s'=>∃ v,fin=.done (.ret v)∧Q v s') E s:=by
  refine wpAny_bind (j7 (by simpa using hh) hd hm (by omega) fun h1 tk acc k1 it=>?_)
  have vS:StrsAre acc.toList ss:=by
   have:∀ (ss:List Str) (vs:List Value),vs.length=ss.length→(∀ (j:Nat) (y:Str) (v:Value),ss[j]?=some y→vs[j]?=some v→∃ t,v=.str y t)→StrsAre vs ss:=by
    intro ss
    induction ss with
    | nil=>intro vs hl _;cases vs with
     | nil=>exact .nil
     | cons _ _=>simp at hl
    | cons y l ih =>
     intro vs hl h
     cases vs with
     | nil=>simp at hl
     | cons v vs =>
      obtain⟨t,e⟩:=h 0 y v rfl rfl
      subst e
      exact .cons y t (ih vs (by simpa using hl) fun j q u e1 e2=>h (j+1) q u (by simpa using e1) (by simpa using e2))
   refine this ss acc.toList (by have:=it.1;simp;omega) fun j y v e1 e2=>?_
   obtain⟨k,x,f1,f2⟩:=it.2 j v (by simpa using e2)
   have f3:(kvs.map (·.1))[j]?=some k:=by rw[List.getElem?_map,f1];rfl
   rw[hs,List.getElem?_map,e1]at f3
   cases f3
   exact Value.isStrOf_shape f2
  have lv:acc.toList.length < 64:=by have:=it.1;simp;omega
  refine wpAny_bind (wpAny_newList ?_ (by rw[sizeLine_eq];omega))
  have e1:(h1.push (seqObj "list" acc.toList.toArray 0)).get? h1.objs.size=some (seqObj "list" acc.toList.toArray 0):=Heap.get?_push_size _ rfl
  refine wpAny_bind (wpAny_holding (wpAny_call_entry slot_list_sort ⟨_,e1,rfl⟩ entry_list_sort (list_sort_treeK strKind_oneLt e1 vS.keysOf (fun v₁ v₂ rest e=>keyKind_strs (by rw[← e];exact vS)) lv fun st' a1 a2=>⟨_,rfl,?_⟩) (args_list_sort _)))
  obtain⟨ss',b1,b2,b3⟩:=sorted_out_str vS a1 a2
  have e2:=k8 (b2.trans (eY ss).symm) (jp _ b3) (nB ss)
  subst e2
  obtain⟨n,hn⟩:=sortedHeap_at (out:=(arrOf st').map (·.2)) e1
  refine wpAny_pure ⟨_,rfl,q h1 _ _ ((arrOf st').map (·.2)).toList n k1 (fun b o e=>?_) b1 (by rw[Array.toArray_toList];exact hn)⟩
  have lt:=Heap.lt_size e
  refine(sortedHeap_old (Nat.ne_of_lt lt) ?_).trans (Heap.get?_push_of_some _ e)
  rw[size_push']
  exact Nat.lt_succ_of_lt lt
 exact go
end
def textsOf:List Key→Option (List Str)
 | []=>some []
 | .inr x::r=>(textsOf r).map (x::·)
 | .inl _::_=>none
theorem iq:∀ {ks:List Key} {ss:List Str},textsOf ks=some ss→ks=ss.map .inr
 | [],ss,h=>by cases h;rfl
 | .inl _::_,ss,h=>nomatch h
 | .inr x::r,ss,h=>by
  unfold textsOf at h
  cases q:textsOf r with
  | none=>rw[q]at h;cases h
  | some l=>rw[q]at h;cases h;rw[iq q];rfl
def dSortD:List D→R D
 | [.dic ks _]=>match textsOf ks with
  | some ss=>if ss.length < 64 then .ok (.lst ((sortT ss).map .str)) else .stuck
  | none=>.stuck
 | _=>.stuck
theorem k9:∀ {vs:List Value} {ss:List Str},StrsAre vs ss→Vals (ss.map V.str) vs
 | _,_,.nil=>.nil
 | _,_,.cons y t h=>.cons ⟨t,rfl⟩ (k9 h)
theorem lb {K:PySem.W.Frag}{C:Nat→Addr}{Z:Hp}:∀ ss:List Str,Reps K C Z (ss.map .str) (ss.map V.str)
 | []=>Reps.nil
 | x::r=>Reps.cons (by rw[Rep]) (lb r)
theorem qp {κ:Type}:∀ {kvs:List (κ×V)} {vs:List (κ×Value)},KV kvs vs→kvs.map (·.1)=vs.map (·.1)
 | _,_,.nil=>rfl
 | _,_,.cons r t=>by rw[List.map_cons,List.map_cons,r.1,qp t]
theorem l7 {X:Cx}(hc:X.calm=true):CallR X (.builtin "sorted") (fun xs H Q=>∃ a kvs ss,xs=[.ref a]∧Rd H a (.dK kvs)∧kvs.map (·.1)=ss.map .inr∧ss.length < 64∧∀ p,H p=none→Q (.ref p) (upd H p (.lst ((sortT ss).map V.str)))):=by
 intro pins s σ H xs us Q I r h
 obtain⟨a,kvs,ss,rfl,e,hk,h64,q⟩:=h
 obtain⟨u,rfl,ru⟩:=r.one
 cases ru
 obtain⟨hz,hs,vs,kv,o,es,ep,dd⟩:=jd I.hok e
 have hk2:vs.map (·.1)=ss.map .inr:=by
  rw[← hk]
  exact(qp kv).symm
 refine l6 (ep:=ep) (I.ok.hd hc) hs ⟨o,es,dd⟩ hk2 h64 fun h1 h' tk ws n k1 k2 vS e1=>?_
 have I1:=I.kept (t':=tk) k1
 exact⟨.ref h1.objs.size,_,I1.laid (a:=h1.objs.size) (o:=.lst ((sortT ss).map V.str)) (t':=tk) k2 (Nat.le_refl _) ⟨by rw[List.length_map,(eY ss).length_eq,sizeLine_eq];omega,ws,n,k9 vS,e1⟩,rfl,q _ (I1.hok.fresh (Nat.le_refl _))⟩
section
variable {X:Cx}{F:Fx}{e:Expr}{gs:SS→R (List D)}{p pos:Pos}{k:Nat}
theorem oY (bx:BX X F k)(hg:Gl X "sorted")(hm:X.mg "sorted"=none)(ha:FA X F [e] gs)(he:starEach [e] X.env=(false,eval e X.env)::starEach [] X.env:=by rfl)(hpl:(backTo pos (starEach [] X.env)).any (·.1)=false:=by rfl) :
  FE X F (.Call (.Name "sorted" p) [e] [] pos) (eCall dSortD gs) :=
 (b0 (id := "sorted") (l7 bx.calm) hg hm (by decide +kernel) ha (he:=he) (hpl:=hpl)).weak fun σ H Q ⟨Z,S,ok,w⟩=>by
  refine aw ok w fun ds vs H1 Z1 ok1 x1 rs w1=>?_
  unfold dSortD at w1
  split at w1
  ·rename_i ks xs
   split at w1
   ·rename_i ss et
    split at w1
    ·rename_i hl
     obtain⟨v,rfl,rv⟩:=aI rs
     rw[Rep]at rv
     obtain⟨a,kvs,rfl,⟨o,ez⟩,e3,e4⟩:=rv
     have et:=iq et
     refine⟨a,kvs,ss,rfl,.inr ⟨o,ok1.sub _ _ ez⟩,e3.trans et,hl,fun q hq=>?_⟩
     have w2:=w1
     exact w2 _ _ (Ex.alloc ok1.sub hq) _ (by rw[Rep];exact⟨q,_,rfl,SqL.of af,lb _⟩)
    ·exact w1.elim
   ·exact w1.elim
  ·exact w1.elim
end
section
variable {X:Cx}{F:Fx}{e:Expr}{es:List Expr}{g:SS→R D}{gs:List (SS→R D)}{x:Str}{pos pos' lpos p0 apos cpos:Pos}{k:Nat}
end
section
variable {X:Cx}{G:Gx}{W:Wd}{S:SS}{σ:Type}{J:σ→SS→Prop}{st:Stmt}{rest:List Stmt}{α:Type}
end
end FF
namespace FF
open PySem PySem.Spec PyProof.Rows L2
section
variable {X:Cx}{G:Gx}{W:Wd}{S:SS}{σ:Type}{J:σ→SS→Prop}{st:Stmt}{rest sts:List Stmt}{α:Type}
end
section
variable {P:Program}{w:World}{K:PySem.W.Frag}{mg:Str→Option Value}{base:Heap}{C:Nat→Addr}{k i:Nat}{N ps:List Str}{x:Str}{st:Stmt}{fn:Wd→List D→RW}
end
def dicOf:D→R (List (Key×D))
 | .dic ks xs=>if ks.length=xs.length then .ok (ks.zip xs) else .stuck
 | _=>.stuck
def sDicOfC (i:Nat)(g:SS→R D):SS→O:=fun S=>rO (((g S).bind dicOf).bind fun m=>.ok (.nx (S.set i (some (.dic m)))))
section
variable {X:Cx}{F:Fx}{st:Stmt}{g:SS→R D}{i:Nat}
theorem sx (h:FS X F st (sDicOf i (aL [g]))):FS X F st (sDicOfC i g):=iF h fun S=>by
 unfold sDicOf sDicOfC
 rw[show aL [g] S=(g S).bind fun d=>R.ok [d] from rfl]
 cases q:g S with
 | ok d =>
  cases d with
  | dic ks xs =>
   show rO (if ks.length=xs.length then R.ok (O.nx (S.set i (some (.dic (ks.zip xs))))) else .stuck)=rO ((if ks.length=xs.length then R.ok (ks.zip xs) else .stuck).bind _)
   by_cases c:ks.length=xs.length
   ·simp_all
   ·simp_all
  | _=>rfl
 | err k=>rfl
 | stuck=>rfl
end
section
variable {X:Cx}{G:Gx}{W:Wd}{S:SS}{σ:Type}{J:σ→SS→Prop}
theorem wS (i:Nat){m:List (Key×D)}{S':SS}{sts:List Stmt}{l:LW σ}(hi:S[i]?=some (some (.dic m)))(hS:S.set i (some (.val (dicD m)))=S')(h:GL X G W S' sts J l):GL X G W S sts J l :=
 fun pins s ρ H D I ⟨HW,Z,ok,w⟩=>by
  obtain⟨a,kvs,e,_,k⟩:=ok.nm.freezeD hi
  obtain⟨o,I'⟩:=wQ I e
  obtain⟨z,ok'⟩:=k o
  rw[hS]at ok'
  exact h pins s ρ _ D I' ⟨HW,_,ok.after ok',WGL.more z w⟩
end
section
variable {X:Cx}{G:Gx}{W:Wd}{S:SS}{a b:Expr}{rest:List Expr}{r:RW}{r2:Wd→RW}{gb:SS→R D}{pos:Pos}{k:Nat}
theorem WRW.ge {HW Z H:Hp}{ρ:St}{P:Wd→D→Hp→Hp→Hp→Prop}{k:Wd→D→RW}{Q:VK}(ok:GOk G W HW Z H S ρ)(hQ:∀ w d HW' Z' H' v,GOk G w HW' Z' H' S ρ→Same Z Z'→Rep G.K G.C Z' d v→WRW G.K G.C G.E HW' Z' H' P (k w d)→Q v H'):∀ {r:RW},WRW G.K G.C G.E HW Z H P (rwB r k)→WRW G.K G.C G.E HW Z H (fun _ d _ Z' H'=>∀ v,Rep G.K G.C Z' d v→Q v H') r
 | .ok w d,h=>fun HW' Z' H' x wd v r=>hQ w d HW' Z' H' v (ok.more x wd) x.z r (WRW.more x h)
 | .er w k,h=>h
 | .al w f,h=>fun a e=>WRW.ge ok hQ (h a e)
 | .stuck,h=>h
end
section
variable {X:Cx}{F:Fx}{o e:Expr}{g:SS→R D}{gs:List (SS→R D)}{apos cpos:Pos}{k:Nat}
end
section
variable {X:Cx}{F:Fx}{o e:Expr}{g:SS→R D}{gs:List (SS→R D)}{apos cpos:Pos}{k:Nat}
open Builtin Builtin.Str in
end
section
variable {X:Cx}{F:Fx}{e e':Expr}{g:SS→R D}{gs:List (SS→R D)}{es:List Expr}{pos:Pos}
end
end FF
end
noncomputable section
namespace L2
open PySem PySem.Spec PyProof.Rows
section
variable {X:Cx}{pins:List (Addr×Obj)}{σ:List (Option V)}{H H':Hp}{s:Shared}{h':Heap}
end
end L2
namespace FF
open PySem PySem.Spec PyProof.Rows L2
section
variable {X:Cx}{F:Fx}{tg a b e o:Expr}{g ga gb go:SS→R D}{gs:SS→R (List D)}{p pos apos cpos:Pos}{k:Nat}
end
end FF
namespace FF
open PySem PySem.Spec PyProof.Rows L2
section
variable {X:Cx}{F:Fx}{a b:Expr}{ga gb:SS→R D}{pos:Pos}{k:Nat}
end
set_option maxHeartbeats 1000000 in
section
variable {prog:Program}{w:World}{A:Around}{E:Value→Shared→Prop}{R:Result→Shared→Prop}
end
end FF
namespace FF
open PySem PySem.Spec PyProof.Rows L2
inductive Prs (K:PySem.W.Frag)(H:Hp):List V→List (Key×V)→Prop
 | nil:Prs K H [] []
 | cons {b:Addr} {k:Key} {v:V} {ps:List V} {kvs:List (Key×V)} (h:SqT K H b [kV k,v]) (t:Prs K H ps kvs):Prs K H (.ref b::ps) ((k,v)::kvs)
theorem Prs.length {K:PySem.W.Frag}{H:Hp}:∀ {ps:List V} {kvs:List (Key×V)},Prs K H ps kvs→ps.length=kvs.length
 | _,_,.nil=>rfl
 | _,_,.cons h t=>by rw[List.length_cons,List.length_cons,t.length]
section
variable {X:Cx}{F:Fx}{e o:Expr}{go:SS→R D}{gs:SS→R (List D)}{p pos apos cpos:Pos}{k:Nat}
end
section
variable {X:Cx}{F:Fx}{o:Expr}{go:SS→R D}{p pos apos cpos:Pos}{k:Nat}
end
def lwUn2 {σ:Type}(d:D)(k:D→D→LW σ):LW σ:=match d with
 | .tup [a,b]=>k a b
 | _=>.stuck
section
variable {X:Cx}{G:Gx}{W:Wd}{S:SS}{a b e:Expr}{es:List Expr}{st:Stmt}{rest:List Stmt}{α σ τ V':Type}{J:σ→SS→Prop}{n:Nat}{r r0:RW}{pos pos':Pos}{gb:SS→R D}
theorem wT {tg:Expr}{ix:List Nat}{es:List Expr}{kk:Nat}{tp:Pos}(bg:BG X G n)(h:GE X G W S e r)(hg:PGs X es (gNames ix))(hn:(assignEach es X.env).length=ix.length)(hst:(assignEach es X.env).findIdx? (·.1)=none)
  (hs:swapsWithSole [.Tuple es kk tp] e pos.line X.env=pure false) (hw:swappedStores [.Tuple es kk tp] e X.env=pure none) (h1:(assignEach [.Tuple es kk tp] X.env).map (·.2)=[assign (.Tuple es kk tp) X.env]) :
  GL1 X G W S (.Assign [.Tuple es kk tp] e pos) (JX fun (ds:List D) (_:Unit)=>setAll ix ds S) (lwB r fun w d=>match d with
   | .tup ds=>if ds.length=ix.length then .nx w ds else .stuck
   | _=>.stuck) :=
 (sR h (sQ bg.calm hg hn hst) hs hw h1).weak fun D ρ H ⟨HW,Z,ok,w⟩=>⟨HW,Z,ok,WRW.gl ok (fun w1 d HW1 Z1 H1 v ok1 z1 rd wl=>by
  cases d with
  | tup ds =>
   simp only at wl
   by_cases hl:ds.length=ix.length
   ·rw[if_pos hl]at wl
    have rd':=rd
    rw[Rep]at rd'
    obtain⟨c,vs,rfl,h1,h2⟩:=rd'
    refine⟨c,vs,rfl,by rw[bg.K];exact h1.mono ok1.zh,by rw[← h2.length,hl],?_⟩
    refine kT ix ds vs S ρ hl h2 ok1.nm fun σ' ok'=>?_
    exact wl _ _ HW1 Z1 H1 ⟨(),rfl⟩ (Same.refl _) ⟨ok1.gx,ok1.wd,ok'⟩
   ·rw[if_neg hl]at wl
    exact wl.elim
  | _=>exact wl.elim) w⟩
theorem zb (i j:Nat){x y:Str}{p1 p2 tp:Pos}{kk:Nat}{S':D→D→SS}{k:Wd→D→D→LW σ}(bg:BG X G n)(hN:X.N.Nodup)(he:GE X G W S e r0)(hr:r0=r)(hS:∀ a b,(S.set i (vv a)).set j (vv b)=S' a b)(hk:∀ w a b,GL X G w (S' a b) rest J (k w a b))
  (hi:X.N[i]?=some x:=by rfl) (hj:X.N[j]?=some y:=by rfl) (hx:Loc X.env.scope x:=by first | exact Or.inl rfl | exact Or.inr rfl) (hy:Loc X.env.scope y:=by first | exact Or.inl rfl | exact Or.inr rfl)
  (hfx:X.fn x=true∨X.env.scope.names.lookup x=some .local:=by first | exact .inl rfl | exact .inr rfl) (hfy:X.fn y=true∨X.env.scope.names.lookup y=some .local:=by first | exact .inl rfl | exact .inr rfl)
  (hn:(assignEach [.Name x p1,.Name y p2] X.env).length=2:=by rfl) (hst:(assignEach [.Name x p1,.Name y p2] X.env).findIdx? (·.1)=none:=by rfl)
  (hs:swapsWithSole [.Tuple [.Name x p1,.Name y p2] kk tp] e pos.line X.env=pure false:=by rfl) (hw:swappedStores [.Tuple [.Name x p1,.Name y p2] kk tp] e X.env=pure none:=by rfl)
  (h1:(assignEach [.Tuple [.Name x p1,.Name y p2] kk tp] X.env).map (·.2)=[assign (.Tuple [.Name x p1,.Name y p2] kk tp) X.env]:=by rfl):GL X G W S (.Assign [.Tuple [.Name x p1,.Name y p2] kk tp] e pos::rest) J (lwB r fun w d=>lwUn2 d fun a b=>k w a b):=by
 have:=jb (rest:=rest) (J:=J) (k:=fun w (ds:List D)=>match ds with
  | [a,b]=>k w a b
  | _=>.stuck) (wT (tg:=.Tuple [.Name x p1,.Name y p2] kk tp) (ix:=[i,j]) (pos:=pos) bg he (fq (fm hN hi hx hfx) (fq (fm hN hj hy hfy) pI)) hn hst hs hw h1) (fun w ds _=>by
   match ds with
   | [a,b]=>have:=hk w a b;rw[← hS]at this;exact this
   | []=>intro pins s σ' H D I ⟨HW,Z,ok,w⟩;exact w.elim
   | [_]=>intro pins s σ' H D I ⟨HW,Z,ok,w⟩;exact w.elim
   | _::_::_::_=>intro pins s σ' H D I ⟨HW,Z,ok,w⟩;exact w.elim)
 rw[fO,hr]at this
 have e:(fun w d=>lwS (τ:=List D) (match d with
   | .tup ds=>if ds.length=[i,j].length then .nx w ds else .stuck
   | _=>.stuck) (fun w (ds:List D)=>match ds with
  | [a,b]=>k w a b
  | _=>.stuck))=fun w d=>lwUn2 d fun a b=>k w a b:=by
  funext w d
  cases d with
  | tup ds =>
   match ds with
   | [a,b]=>rfl
   | []=>rfl
   | [_]=>rfl
   | _::_::_::l=>show lwS (if _=_ then _ else _) _=_;rw[if_neg (by simp)];rfl
  | _=>rfl
 rw[e]at this
 exact this
end
section
variable {X:Cx}{F:Fx}{S:SS}{σ τ W:Type}{J:σ→SS→Prop}{st:Stmt}{rest:List Stmt}
end
section
variable {X:Cx}{F:Fx}{pos p:Pos}{keys:List (Option Expr)}{values:List Expr}{ks:List Key}{gs:List (SS→R D)}{e:Expr}{te:TE}
end
def isBI (s:String):Option (Option Value)→Bool
 | some (some (.builtin t))=>t==s
 | _=>false
def isNo:Option (Option Value)→Bool
 | some none=>true
 | _=>false
def excKB (K:PySem.W.Frag)(a:Addr):Bool:=isBI "BaseException.__getattribute__" (PySem.W.findIn K (.ref a) "__getattribute__")&&isNo (PySem.W.findIn K (.ref a) "__getattr__")&&isBI "object.__class__" (PySem.W.findIn K (.ref a) "__class__")&&PySem.W.subIn K (.ref a) (.type "BaseException")==some true&&PySem.W.subIn K (.ref a) (.type "object")==some true&&(PySem.W.clsIn K a).isSome
def excAllB (K:PySem.W.Frag)(C:Nat→Addr)(es is:List Nat):Bool:=PySem.W.excIn K (C 0) bmVE "ValueError.__new__" && es.all fun j=>excKB K (C j)&&PySem.W.excIn K (C j) bmVE "ValueError.__new__" && PySem.W.subIn K (.ref (C j)) (.ref (C 0))==some true&&PySem.W.kitOne K (.ref (C j)) (.type "ValueError")==some true&&is.all fun i=>PySem.W.kitOne K (.ref (C j)) (.ref (C i))==some (i==j||i==0)
section
variable {K:PySem.W.Frag}{C:Nat→Addr}{es is:List Nat}{a:Addr}
theorem qu {s:String}{r:Option (Option Value)}(h:isBI s r=true):r=some (some (.builtin s)):=by
 unfold isBI at h
 grind
theorem wU (h:excKB K a=true):ExcK K a:=by
 unfold excKB at h
 simp only[Bool.and_eq_true,beq_iff_eq]at h
 obtain⟨⟨⟨⟨⟨a1,a2⟩,a3⟩,a4⟩,a5⟩,a6⟩:=h
 refine⟨qu a1,?_,qu a3,a4,a5,a6⟩
 unfold isNo at a2
 grind
theorem lc (h:excAllB K C es is=true){j:Nat}(hj:j∈es):ExcK K (C j)∧PySem.W.excIn K (C j) bmVE "ValueError.__new__"=true∧PySem.W.subIn K (.ref (C j)) (.ref (C 0))=some true∧PySem.W.kitOne K (.ref (C j)) (.type "ValueError")=some true∧∀ i∈is,PySem.W.kitOne K (.ref (C j)) (.ref (C i))=some (i==j||i==0):=by
 unfold excAllB at h
 simp only[Bool.and_eq_true,List.all_eq_true,beq_iff_eq]at h
 obtain⟨⟨⟨⟨b1,b2⟩,b3⟩,b4⟩,b5⟩:=h.2 j hj
 exact⟨wU b1,b2,b3,b4,b5⟩
theorem uM (h:excAllB K C es is=true):PySem.W.excIn K (C 0) bmVE "ValueError.__new__"=true:=by
 unfold excAllB at h
 grind
theorem uN (h:excAllB K C es is=true):Takes K C (C 0) (qTk es):=t7 (uM h) fun _ hj=>(lc h hj).2.2.1
theorem jq (h:excAllB K C es is=true)(j:Nat)(hj:j∈es):PySem.W.excIn K (C j) bmVE "ValueError.__new__"=true:=(lc h hj).2.1
end
section
variable {X:Cx}{F:Fx}{e:Expr}{es:List Expr}{g:SS→R D}{gs:List (SS→R D)}
theorem fac (ha:FE X F e g)(hr:FAL X F es gs)(hs:isStar e=false:=by rfl):FAL X F (e::es) (g::gs):=ja ha hr (xR hs)
theorem fac1 (ha:FE X F e g)(hs:isStar e=false:=by rfl):FAL X F [e] [g]:=ja ha eB (xR hs)
end
def dSwL (d:D)(lo hi:Option Int):R D:=match d with
 | .lst xs=>.ok (.lst (cutD xs lo hi))
 | _=>.stuck
def eSwL (g:SS→R D)(l h:SS→R (Option Int)):SS→R D:=fun S=>(g S).bind fun d=>(l S).bind fun lo=>(h S).bind fun hi=>dSwL d lo hi
section
variable {X:Cx}{F:Fx}{e:Expr}{lo hi:Option Expr}{g:SS→R D}{l h:SS→R (Option Int)}{pos p2:Pos}
theorem zc (hK:X.K=F.K)(he:FE X F e g)(hl:PO X lo (tP F l))(hh:PO X hi (tP F h)):FE X F (.Subscript e (.Slice lo hi none p2) pos) (eSwL g l h) :=
 (tj vJ he hl hh).weak fun σ H Q ⟨Z,S,ok,w⟩=>ah ok w fun d v H1 Z1 ok1 x1 rv w1=>pV ok1 w1 fun o H2 Z2 ok2 x2 w2=>pV ok2 w2 fun o' H3 Z3 ok3 x3 w3=>by
  have rv3:=rv.mono (x2.z.trans x3.z)
  cases d with
  | lst ds =>
   rw[Rep]at rv3
   obtain⟨a,vs,rfl,h1,h2⟩:=rv3
   refine⟨a,vs,rfl,by rw[hK];exact ok3.sub.seq h1,fun p hp=>?_⟩
   have z:Same Z3 (upd Z3 p (.lst (cutV vs o o'))):=ap (ok3.sub.free hp)
   exact w3 _ _ (Ex.alloc ok3.sub hp) _ (by rw[Rep];exact⟨p,_,rfl,SqL.of af,(h2.cut o o').mono z⟩)
  | _=>exact w3.elim
end
section
variable {prog:Program}{w:World}{A:Around}{E:Value→Shared→Prop}{s:Shared}{cs:List Obj}{o:Obj}{vs:Array Value}{i j m:Nat}{x:Value}
variable {l₁ l₂:Addr}{k:Int}{xs ys:Array Value}{y:Value}{u:Bool}{rest:List Obj}{f:Value}
end
section
variable {X:Cx}{F:Fx}{a b:Expr}{ga gb:SS→R D}{k:Nat}
def H5 (H:Hp)(n:Nat)(t:Nat→List V)(b:Nat):Option HO:=if b=n+5 then some (.lst [.ref (n+6),.ref (n+7),.ref (n+8),.ref (n+9)]) else if n+6≤b∧b≤n+9 then some (.tup (t (b - (n+6)))) else H b
end
section
variable {τ W:Type}{X:Cx}{F:Fx}{S:SS}{c:Expr}{body:List Stmt}{pos:Pos}{inj:τ→W→SS}{gt:SS→R Bool}{r:τ→R Bool}{step:τ→L τ}
end
end FF
end
noncomputable section

end
noncomputable section
namespace FF
open PySem PySem.Spec PyProof.Rows L2
mutual
def lfD:D→Bool
 | .lst _=>false
 | .tup ds=>lfs ds
 | .tab _ ds=>lfs ds
 | .dic _ ds=>lfs ds
 | _=>true
def lfs:List D→Bool
 | []=>true
 | d::ds=>lfD d&&lfs ds
end
def isL:HO→Bool
 | .lst _=>true
 | .frz _ (.lst _)=>true
 | _=>false
def ap1:D→D→Bool
 | .int _,.tup _=>true
 | .str _,.tup _=>true
 | .tup (.int _::_),.tup (.str _::_)=>true
 | _,_=>false
def apL (xs ds:List D):Bool:=xs.length != ds.length||match xs,ds with
 | x::_,d::_=>ap1 x d
 | _,_=>false
def lfW (W:Wd)(xs:List D):Prop:=∀ a o,W a=some o→match o with
 | .ins _ fs=>∀ d∈fs.map Prod.snd,lfD d=true∨∃ ds,d=.lst ds∧lfs ds=true∧apL xs ds=true
 | .lst ds=>lfs ds=true
section
variable {K:PySem.W.Frag}{C:Nat→Addr}{Z1 Z2:Hp}
theorem qv {a:Addr}{xs:List V}(h:∀ b o,Z1 b=some o→isL o=false→Z2 b=some o)(x:SqT K Z1 a xs):SqT K Z2 a xs:=by
 rcases x with (x | ⟨o,x⟩) | x
 ·exact .inl (.inl (h _ _ x rfl))
 ·exact .inl (.inr ⟨o,h _ _ x rfl⟩)
 ·exact .inr x
mutual
theorem qw (h:∀ b o,Z1 b=some o→isL o=false→Z2 b=some o):∀ (d:D) (v:V),lfD d=true→Rep K C Z1 d v→Rep K C Z2 d v
 | .non,v,_,r=>by rw[Rep]at r ⊢;exact r
 | .bl b,v,_,r=>by rw[Rep]at r ⊢;exact r
 | .int i,v,_,r=>by rw[Rep]at r ⊢;exact r
 | .str x,v,_,r=>by rw[Rep]at r ⊢;exact r
 | .fn k,v,_,r=>by rw[Rep]at r ⊢;exact r
 | .ptr a,v,_,r=>by rw[Rep]at r ⊢;exact r
 | .tup ds,v,l,r=>by
  rw[lfD]at l
  rw[Rep]at r ⊢
  obtain⟨a,vs,h1,h2,h3⟩:=r
  exact⟨a,vs,h1,qv h h2,a8 h ds vs l h3⟩
 | .lst ds,v,l,r=>by rw[lfD]at l;cases l
 | .exc k,v,_,r=>by
  rw[Rep]at r ⊢
  obtain⟨a,h1,h2⟩:=r
  exact⟨a,h1,h _ _ h2 rfl⟩
 | .tab ks ds,v,l,r=>by
  rw[lfD]at l
  rw[Rep]at r ⊢
  obtain⟨a,kvs,h1,h2,h3,h5,h4⟩:=r
  exact⟨a,kvs,h1,h _ _ h2 rfl,h3,fun x hx=>qv h (h5 x hx),a8 h ds _ l h4⟩
 | .dic ks ds,v,l,r=>by
  rw[lfD]at l
  rw[Rep]at r ⊢
  obtain⟨a,kvs,h1,⟨o,h2⟩,h3,h4⟩:=r
  exact⟨a,kvs,h1,⟨o,h _ _ h2 rfl⟩,h3,a8 h ds _ l h4⟩
theorem a8 (h:∀ b o,Z1 b=some o→isL o=false→Z2 b=some o):∀ (ds:List D) (vs:List V),lfs ds=true→Reps K C Z1 ds vs→Reps K C Z2 ds vs
 | [],vs,_,r=>by rw[Reps]at r ⊢;exact r
 | d::ds,vs,l,r=>by
  rw[lfs,Bool.and_eq_true]at l
  rw[Reps]at r ⊢
  obtain⟨v,q,h1,h2,h3⟩:=r
  exact⟨v,q,h1,qw h d v l.1 h2,a8 h ds q l.2 h3⟩
end
theorem nC:∀ (ds:List D) (vs:List V),(∀ d∈ds,∀ v,Rep K C Z1 d v→Rep K C Z2 d v)→Reps K C Z1 ds vs→Reps K C Z2 ds vs
 | [],vs,_,r=>by rw[Reps]at r ⊢;exact r
 | d::ds,vs,k,r=>by
  rw[Reps]at r ⊢
  obtain⟨v,q,h1,h2,h3⟩:=r
  exact⟨v,q,h1,k d (by simp) v h2,nC ds q (fun d hd=>k d (by simp[hd])) h3⟩
theorem uO {HW HW':Hp}{W:Wd}{xs:List D}(nl:∀ a o,K.lookup a=some o→o.cls≠.type "list")(h:∀ b o,Z1 b=some o→isL o=false→Z2 b=some o)(x:Same HW HW')(l:lfW W xs)
  (hf:∀ c k fs ds b,W c=some (.ins k fs)→.lst ds∈fs.map Prod.snd→apL xs ds=true→Rep K C Z1 (.lst ds) (.ref b)→∀ o,Z1 b=some o→Z2 b=some o) (wd:WdOk K C HW Z1 W):WdOk K C HW' Z2 W:=⟨fun a o e=>by
 have q:=wd.wo a o e
 have lo:=l a o e
 cases o with
 | ins c fs =>
  obtain⟨dx,vs,e1,e2,c,e3,r⟩:=q
  refine⟨dx,vs,x _ _ e1,x _ _ e2,c,e3,nC _ _ (fun d hd v rv=>?_) r⟩
  rcases lo d hd with z | ⟨ds,rfl,z,za⟩
  ·exact qw h d v z rv
  ·have rv0:=rv
   rw[Rep]at rv ⊢
   obtain⟨b,us,rfl,h1,h2⟩:=rv
   refine⟨b,us,rfl,?_,a8 h _ _ z h2⟩
   rcases h1 with (h1 | ⟨o,h1⟩) | ⟨o,its,n,e1,e2,_⟩
   ·exact .inl (.inl (hf a _ fs ds b e hd za rv0 _ h1))
   ·exact .inl (.inr ⟨o,hf a _ fs ds b e hd za rv0 _ h1⟩)
   ·exact absurd e2 (nl b o e1)
 | lst ds=>obtain⟨vs,e1,r⟩:=q;exact⟨vs,x _ _ e1,a8 h _ _ lo r⟩,wd.tb.mono x⟩
open Classical in
noncomputable def noLs (P:Addr→Prop) (Z:Hp):Hp:=fun b=>if P b∨∀ o,Z b=some o→isL o=false then Z b else none
theorem dG {P:Addr→Prop}{Z:Hp}:Same (noLs P Z) Z:=fun b o e=>by unfold noLs at e;split at e;exact e;cases e
theorem l8 {P:Addr→Prop}{Z:Hp}:∀ b o,Z b=some o→isL o=false→noLs P Z b=some o:=fun b o e l=>by unfold noLs;rw[if_pos (.inr fun o' e'=>by rw[e]at e';cases e';exact l)];exact e
theorem wV {P:Addr→Prop}{Z:Hp}{b:Addr}(h:P b):noLs P Z b=Z b:=by unfold noLs;rw[if_pos (.inl h)]
end
theorem zd {X:Cx}{pins:List (Addr×Obj)}{σ:St}{H Z:Hp}{s:Shared}{C:Nat→Addr}(I:Inv X pins σ H s)(z:Same Z H){x d:D}{v:V}(h:ap1 x d=true)(r1:Rep X.K C Z x v)(r2:Rep X.K C Z d v):False:=by
 unfold ap1 at h
 split at h
 ·rw[Rep]at r1;rw[Rep]at r2;obtain⟨a,vs,e,_⟩:=r2;rw[r1]at e;cases e
 ·rw[Rep]at r1;rw[Rep]at r2;obtain⟨a,vs,e,_⟩:=r2;rw[r1]at e;cases e
 ·rw[Rep]at r1
  rw[Rep]at r2
  obtain⟨a,vs,e,q,rs⟩:=r1
  obtain⟨a',vs',e',q',rs'⟩:=r2
  rw[e]at e';cases e'
  have:=I.tuple_inj (q.mono z) (q'.mono z)
  subst this
  rw[Reps]at rs
  rw[Reps]at rs'
  obtain⟨v,r,e1,h1,_⟩:=rs
  obtain⟨v',r',e2,h2,_⟩:=rs'
  rw[e1]at e2;cases e2
  rw[Rep]at h1
  rw[Rep]at h2
  rw[h1]at h2;cases h2
 ·cases h
theorem uP {X:Cx}{pins:List (Addr×Obj)}{σ:St}{H Z:Hp}{s:Shared}{C:Nat→Addr}(I:Inv X pins σ H s)(z:Same Z H){xs ds:List D}{vs:List V}(h:apL xs ds=true)(r1:Reps X.K C Z xs vs)(r2:Reps X.K C Z ds vs):False:=by
 unfold apL at h
 have l:xs.length=ds.length:=r1.length.trans r2.length.symm
 rw[l]at h
 simp only[bne_self_eq_false,Bool.false_or]at h
 split at h
 ·rw[Reps]at r1
  rw[Reps]at r2
  obtain⟨v,r,e1,h1,_⟩:=r1
  obtain⟨v',r',e2,h2,_⟩:=r2
  rw[e1]at e2;cases e2
  exact zd I z h h1 h2
 ·cases h
theorem thaw {X:Cx}{pins:List (Addr×Obj)}{σ:St}{H H1:Hp}{s s1:Shared}{a:Addr}{vs:List V}(I:Inv X pins σ H s)(I1:Inv X pins σ H1 s1)(hn:H a=none)(hr:Rd H1 a (.lst vs)):Inv X pins σ (upd H1 a (.lst vs)) s1:=by
 have na:∀ b o,H1 b=some o→isL o=false→b≠a:=fun b o e l z=>by
  subst z
  rcases hr with h | ⟨_,h⟩<;>(rw[e]at h;cases h;cases l)
 have nb:∀ b,H1 b=none→b≠a:=fun b e z=>by
  subst z
  rcases hr with h | ⟨_,h⟩<;>(rw[e]at h;cases h)
 have B:=I1.base
 have B0:=I.base
 have st:∀ b o,ObjOk X.prog X.w H1 s1.heap b o→ObjOk X.prog X.w (upd H1 a (.lst vs)) s1.heap b o:=fun b o x=>x.stay (fun _ _ _ q=>q) (fun c q=>by rw[ac (na _ _ q rfl)];exact q) fun c xs q=>by rw[ac (na _ _ q rfl)];exact q
 refine { I1 with base:=⟨B.keep,B.slot,fun b o q n hx=>?_,B.there,fun b xs q=>?_,fun b o u q=>?_,fun b ps q=>?_⟩,free:=?_,freeC:=fun x c e=>?_,pin:=fun p hp=>?_,hok:=fun b o e=>?_ }
 ·rw[ac (nb b (B.free b o q n hx))];exact B.free b o q n hx
 ·rw[ac (fun z=>by subst z;rw[B0.tups _ _ q]at hn;cases hn)];exact B.tups b xs q
 ·rw[ac (fun z=>by subst z;rw[B0.frzs _ _ _ q]at hn;cases hn)];exact B.frzs b o u q
 ·rw[ac (fun z=>by subst z;obtain⟨m,e⟩:=B0.tbls _ _ q;rw[e]at hn;cases hn)];exact B.tbls b ps q
 ·rw[ac (nb _ I1.free)];exact I1.free
 ·rw[ac (nb _ (I1.freeC x c e))];exact I1.freeC x c e
 ·have z:=I1.pin p hp
  exact⟨z.1,by rw[ac (nb _ z.2.1)];exact z.2.1,z.2.2⟩
 ·by_cases hb:b=a
  ·subst hb;rw[af]at e;cases e
   exact st _ _ (hr.ok I1.hok)
  ·rw[ac hb]at e
   exact st _ _ (I1.hok b o e)
def NoL (K:PySem.W.Frag):Prop:=∀ a o,K.lookup a=some o→o.cls≠.type "list"
section
variable {X:Cx}{G:Gx}{W:Wd}{S:SS}{k:Nat}{N:List Str}{qual:Str}{params:Arguments}{scope:Scope}{body:Expr}{ds xs:List D}{vs:List V}{rf:Wd→RW}{f:Addr}{x:Str}{p pos:Pos}
theorem uQ (i:Nat)(bg:BG X G (k+1))(hex:X.ex=[])(L:Lam X.s₀.heap X.H₀ qual params scope body N f vs)(sc:LamSc scope params body qual)(hr:Reps G.K G.C G.Z0 ds vs)(hl:vs.length=N.length)
  (hS:S[i]?=some (some (.val (.ptr f)))) (hb:LamB X.prog X.w X.K X.mg X.base G.C k N qual scope body ds rf) (hi:X.N[i]?=some x) (hv:Vis X.env.scope x)
  (hd:(x==("__debug__":Str))=false) (hcd:(x==("__classdict__":Str))=false) (nl:NoL G.K) (t0:rf W=.ok W (.lst xs)) (lx:lfs xs=true) (ld:lfs ds=true) (lw:lfW W xs) :
  GE X G W S (.Call (.Name x p) [] [] pos) (.al W fun a=>.ok (wput W a (.lst xs)) (.ptr a)):=by
 have hK:=bg.K
 intro pins s ρ H Q I ⟨HW,Z,ok,w⟩
 let P:Hp→Addr→Prop:=fun Z b=>∃ c k fs ds,W c=some (.ins k fs)∧.lst ds∈fs.map Prod.snd∧Rep G.K G.C Z (.lst ds) (.ref b)
 have key:=jl (p:=p) (pos:=pos) (T:=fun ρ H Q=>∃ HW Z,GOk G W HW Z H S ρ∧∀ HW1 Z1 H1,GX HW (noLs (P Z) Z) H HW1 Z1 H1→WdOk G.K G.C HW1 Z1 W→∀ v,Rep G.K G.C Z1 (.lst xs) v→Q v H1)
  bg.calm bg.room bg.pass sc.sk sc.sco sc.sgen sc.snc hl sc.hb hi hv
  (fun pins σ H s I=>L.later (by have:=I.base;rw[hex]at this;exact this)) (fun σ H Q ⟨HW,Z,ok,w⟩=>by
   obtain⟨v,A,e,o,_⟩:=ok.nm.sl i _ hS
   have r:=o.2
   rw[Rep]at r
   rw[e,r]) (fun pins σ H s Q I ⟨HW,Z,ok,w⟩ cd cl room=>by
   have b':BG (lamX X.prog X.w X.K X.mg X.base N qual scope f cd cl X.A X.stack s H G.E) ⟨X.K,G.C,HW,noLs (P Z) Z,H,G.E⟩ k:=⟨room,rfl,rfl,ny⟩
   refine⟨_,hb f cd cl X.A X.stack s HW (noLs (P Z) Z) H G.E W b',HW,noLs (P Z) Z,GOk.start (dG.trans ok.zh) ok.wh (fun b e=>?_) (by rw[hK];exact uO nl l8 (Same.refl _) lw (fun c k fs ds b e1 e2 _ e3 o e4=>by rw[wV ⟨c,k,fs,ds,e1,e2,e3⟩];exact e4) ok.wd) (by rw[hK];exact a8 l8 _ _ ld (hr.mono ok.gx.z)),?_⟩
   ·cases q:noLs (P Z) Z b with
    | none=>rfl
    | some o=>have:=dG b o q;rw[ok.gx.dj b e]at this;cases this
   ·rw[hK,t0]
    exact w) hd hcd
 refine thn (key pins s ρ H (fun v H1=>∃ HW1 Z1,GX HW (noLs (P Z) Z) H HW1 Z1 H1∧WdOk G.K G.C HW1 Z1 W∧Rep G.K G.C Z1 (.lst xs) v) I ⟨HW,Z,ok,fun HW1 Z1 H1 gx wd v r=>⟨HW1,Z1,gx,wd,r⟩⟩) fun u s1 ⟨v,H1,I1,ru,HW1,Z1,gx,wd,r⟩=>?_
 rw[Rep]at r
 obtain⟨a,us,rfl,hq,hx⟩:=r
 have rd:Rd Z1 a (.lst us):=by
  rcases hq with h | ⟨o,its,n,e1,e2,_⟩
  ·exact h
  ·exact absurd e2 (nl a o e1)
 have az:∃ o,Z1 a=some o∧isL o=true:=by
  rcases rd with h | ⟨o,h⟩
  ·exact⟨_,h,rfl⟩
  ·exact⟨_,h,rfl⟩
 obtain⟨oa,ea,la⟩:=az
 have hKx:Reps X.K G.C Z1 xs us:=by rw[hK];exact hx
 have nZ:noLs (P Z) Z a=none:=by
  cases q:noLs (P Z) Z a with
  | none=>rfl
  | some o =>
   have q1:=gx.z a o q
   rw[ea]at q1;cases q1
   have q2:=dG a _ q
   unfold noLs at q
   split at q
   ·rename_i hp
    rcases hp with ⟨c,kk,fs,ds',e1,e2,e3⟩ | hp
    ·exfalso
     have lo:=lw c _ e1
     rcases lo _ e2 with z | ⟨ds2,z0,z,za⟩
     ·rw[lfD]at z;cases z
     ·cases z0
      rw[Rep]at e3
      obtain⟨b,ws,e4,e5,e6⟩:=e3
      cases e4
      have e7:Rd Z a (.lst ws):=by
       rcases e5 with h | ⟨o,its,n,f1,f2,_⟩
       ·exact h
       ·exact absurd f2 (nl a o f1)
      have:us=ws:=by
       rcases rd with h | ⟨o,h⟩<;>rcases e7 with h' | ⟨o',h'⟩<;>(rw[ea]at h;rw[q2]at h';rw[h]at h';cases h'<;>rfl)
      subst this
      exact uP I1 gx.zh za hKx (by rw[hK];exact a8 (fun b o f1 f2=>gx.z b o (l8 b o f1 f2)) _ _ z e6)
    ·rw[hp _ q2]at la;cases la
   ·cases q
 have nH:H a=none:=by
  rcases gx.nz a (aq ea) with z | z
  ·exact absurd nZ z
  ·exact z
 have nZ':Z a=none:=by
  cases q:Z a with
  | none=>rfl
  | some o=>have:=ok.zh a o q;rw[nH]at this;cases this
 have nW1:HW1 a=none:=by
  cases q:HW1 a with
  | none=>rfl
  | some o=>have:=gx.dj a (aq q);rw[ea]at this;cases this
 have rd1:Rd H1 a (.lst us):=by
  rcases rd with h | ⟨o,h⟩
  ·exact .inl (gx.zh _ _ h)
  ·exact .inr ⟨o,gx.zh _ _ h⟩
 refine⟨.ref a,upd H1 a (.lst us),thaw I I1 nH rd1,ru,?_⟩
 let Z':Hp:=fun b=>if b=a then none else match Z b with
  | some o=>some o
  | none=>Z1 b
 have zin:∀ b o,Z1 b=some o→b≠a→Z' b=some o:=fun b o e hb=>by
  show (if b=a then none else _)=_
  rw[if_neg hb]
  cases q:Z b with
  | none=>exact e
  | some o' =>
   cases q2:noLs (P Z) Z b with
   | some o2 =>
    have q3:=dG b o2 q2
    rw[q]at q3;cases q3
    have:=gx.z b o' q2
    rw[e]at this;exact this.symm
   | none =>
    rcases gx.nz b (aq e) with z | z
    ·exact absurd q2 z
    ·rw[ok.zh b o' q]at z;cases z
 have zil:∀ b o,Z1 b=some o→isL o=false→Z' b=some o:=fun b o e l=>zin b o e fun z=>by subst z;rw[ea]at e;cases e;rw[la]at l;cases l
 have wz:∀ b,HW b≠none→Z b=none:=ok.gx.dj
 have hw1:Same HW1 (upd HW1 a (.lst us)):=fun b o e=>by rw[ac (fun z=>by subst z;rw[nW1]at e;cases e)];exact e
 have wa:W a=none:=by
  cases q:W a with
  | none=>rfl
  | some o =>
   have:=wd.wo a o q
   cases o with
   | ins c fs=>obtain⟨dx,vs,e1,_⟩:=this;rw[nW1]at e1;cases e1
   | lst ds=>obtain⟨vs,e1,_⟩:=this;rw[nW1]at e1;cases e1
 refine w a wa (upd HW1 a (.lst us)) Z' (upd H1 a (.lst us)) ⟨fun b o h e=>?_,fun b o e=>?_,fun b o e=>?_,fun b o e=>?_,fun b h=>?_,fun b h=>?_,fun b h=>?_,fun b h=>?_⟩ ⟨fun b o e=>?_,(wd.tb.mono hw1)⟩ _ (by rw[Rep])
 ·rw[ac (fun z=>by subst z;rw[nH]at e;cases e)];exact gx.fr b o h e
 ·have hb:b≠a:=fun z=>by subst z;rw[nZ']at e;cases e
  show (if b=a then none else _)=_
  rw[if_neg hb,e]
 ·have e:(if b=a then none else (match Z b with | some o=>some o | none=>Z1 b))=some o:=e
  by_cases hb:b=a
  ·rw[if_pos hb]at e;cases e
  ·rw[if_neg hb]at e
   rw[ac hb]
   cases q:Z b with
   | some o' =>
    rw[q]at e;cases e
    refine gx.fr b o ?_ (ok.zh b o q)
    cases q2:HW b with
    | none=>rfl
    | some u=>have:=wz b (aq q2);rw[q]at this;cases this
   | none=>rw[q]at e;exact gx.zh b o e
 ·by_cases hb:b=a
  ·subst hb;rw[af]at e ⊢;exact e
  ·rw[ac hb]at e ⊢;exact gx.wh b o e
 ·by_cases hb:b=a
  ·subst hb;rw[af];simp
  ·rw[ac hb];exact gx.dm b h
 ·by_cases hb:b=a
  ·subst hb;exact .inr nH
  ·rw[ac hb]at h;exact gx.nw b h
 ·by_cases hb:b=a
  ·subst hb;exact .inr nH
  ·cases q:Z b with
   | some o=>exact .inl (by simp)
   | none =>
    have h:(if b=a then none else (match Z b with | some o=>some o | none=>Z1 b))≠none:=h
    rw[if_neg hb,q]at h
    rcases gx.nz b h with z | z
    ·refine absurd ?_ z
     cases q2:noLs (P Z) Z b with
     | none=>rfl
     | some o=>have:=dG b o q2;rw[q]at this;cases this
    ·exact .inr z
 ·show (if b=a then none else (match Z b with | some o=>some o | none=>Z1 b))=none
  by_cases hb:b=a
  ·rw[if_pos hb]
  ·rw[if_neg hb]
   rw[ac hb]at h
   have q:Z b=none:=by
    rcases gx.nw b h with z | z
    ·exact wz b z
    ·cases q:Z b with
     | none=>rfl
     | some o=>rw[ok.zh b o q]at z;cases z
   rw[q];exact gx.dj b h
 ·unfold wput at e
  by_cases hb:b=a
  ·rw[if_pos hb]at e;cases e
   subst hb
   exact⟨us,af,a8 zil _ _ lx hx⟩
  ·rw[if_neg hb]at e
   refine(uO nl zil hw1 lw (fun c kk fs ds' b' e1 e2 za e3 o e4=>zin b' o e4 fun z=>?_) wd).wo b o e
   subst z
   rw[Rep]at e3
   obtain⟨b2,ws,f1,f2,f3⟩:=e3
   cases f1
   have e7:Rd Z1 b' (.lst ws):=by
    rcases f2 with h | ⟨o,its,n,g1,g2,_⟩
    ·exact h
    ·exact absurd g2 (nl b' o g1)
   have:us=ws:=by
    rcases rd with h | ⟨o,h⟩<;>rcases e7 with h' | ⟨o',h'⟩<;>(rw[h]at h';cases h'<;>rfl)
   subst this
   exact uP I1 gx.zh za hKx (by rw[hK];exact f3)
end
def dIsWL (W:Wd):D→R D
 | .ptr a=>match W a with
  | some (.lst _)=>.ok (.bl true)
  | _=>.stuck
 | _=>.stuck
def dListW (W:Wd):D→R D
 | .ptr a=>match W a with
  | some (.lst ds)=>.ok (.lst ds)
  | _=>.stuck
 | _=>.stuck
section
variable {X:Cx}{F:Fx}{W:Wd}{k:Nat}{e ec:Expr}{g:SS→R D}{p pos:Pos}
theorem wW (bx:BX X F k)(wk:Wk F W)(hg:Gl X "isinstance")(hm:X.mg "isinstance"=none)(ha:FE X F e g)(hc:PE X ec (tC (.ty "list")))(he:starEach [e,ec] X.env=(false,eval e X.env)::starEach [ec] X.env:=by rfl)
  (he2:starEach [ec] X.env=(false,eval ec X.env)::starEach [] X.env:=by rfl) (hpl:(backTo pos (starEach [ec] X.env)).any (·.1)=false:=by rfl) :
  FE X F (.Call (.Name "isinstance" p) [e,ec] [] pos) (fun S=>(g S).bind (dIsWL W)) :=
 (b0 (ik (C:=F.C)) hg hm (by decide +kernel) (aH ha (aH hc cH he2) he) (he:=he) (hpl:=hpl)).weak fun σ H Q ⟨Z,S,ok,w⟩ =>
  ah ok w fun d v H1 Z1 ok1 x1 rv w1=>by
   unfold dIsWL at w1
   cases d with
   | ptr a =>
    simp only at w1
    cases ew:W a with
    | none=>rw[ew]at w1;exact w1.elim
    | some oc =>
     rw[ew]at w1
     cases oc with
     | ins c fs=>exact w1.elim
     | lst ds =>
      obtain⟨vs,e1,rr⟩:=wk a _ ew
      rw[Rep]at rv
      have e2:=ok1.ex.same _ _ e1
      exact⟨H1,.lst ds,v,.ty "list",true,rfl,Same.refl _,by rw[Rep,bx.K];exact⟨a,vs,rv,SqL.of e2,(rr.mono ok1.ex.z).mono ok1.sub⟩,.inl ⟨_,rfl⟩,
       (t5 (K:=X.K) (C:=F.C)).ans (.lst ds) true rfl,fun j ej=>(nomatch ej),fun j ej=>(nomatch ej),rfl,WG.now w1 ok1.sub _ aG⟩
   | _=>exact w1.elim
theorem sy (bx:BX X F k)(wk:Wk F W)(hg:Gl X "list")(hm:X.mg "list"=none)(ha:FE X F e g)(he:starEach [e] X.env=(false,eval e X.env)::starEach [] X.env:=by rfl)(hpl:(backTo pos (starEach [] X.env)).any (·.1)=false:=by rfl) :
  FE X F (.Call (.Name "list" p) [e] [] pos) (fun S=>(g S).bind (dListW W)) :=
 (d9 (lF (X:=X)) hg hm (by decide +kernel) (aH ha cH he) (he:=he) (hpl:=hpl)).weak fun σ H Q ⟨Z,S,ok,w⟩ =>
  ah ok w fun d v H1 Z1 ok1 x1 rv w1=>by
   unfold dListW at w1
   cases d with
   | ptr a =>
    simp only at w1
    cases ew:W a with
    | none=>rw[ew]at w1;exact w1.elim
    | some oc =>
     rw[ew]at w1
     cases oc with
     | ins c fs=>exact w1.elim
     | lst ds =>
      obtain⟨vs,e1,rr⟩:=wk a _ ew
      rw[Rep]at rv
      refine⟨a,vs,by rw[rv],.inl (SqL.of (ok1.ex.same _ _ e1)),fun l hl=>?_⟩
      have z:Same Z1 (upd Z1 l (.lst vs)):=ap (ok1.sub.free hl)
      exact w1 _ _ (Ex.alloc ok1.sub hl) _ (by rw[Rep];exact⟨l,vs,rfl,SqL.of af,(rr.mono ok1.ex.z).mono z⟩)
   | _=>exact w1.elim
end
structure LamAt (X:Cx)(G:Gx)(i:Nat)(x:Str)(f:Addr)(ds:List D)(rf:Wd→RW):Prop where
 deed:∀ p pos W S,S[i]?=some (some (.val (.ptr f)))→GE X G W S (.Call (.Name x p) [] [] pos) (rf W)
 new:∀ p pos W S xs,S[i]?=some (some (.val (.ptr f)))→rf W=.ok W (.lst xs)→lfs xs=true→lfs ds=true→lfW W xs→GE X G W S (.Call (.Name x p) [] [] pos) (.al W fun a=>.ok (wput W a (.lst xs)) (.ptr a))
structure StayC (rf:Wd→RW)(ds:List D)(W:Wd)(q:D)(xs:List D):Prop where
 t0:rf W=.ok W (.lst xs)
 t1:∀ a,W a=none→rf (wput W a (.lst (xs++[q])))=.ok (wput W a (.lst (xs++[q]))) (.lst xs)
 lx:lfs xs=true
 ld:lfs ds=true
 lw:lfW W xs
 len:xs.length < 16777216
 eq:dEq (.lst xs) (.lst xs)=.ok (.bl true)
open Classical in
noncomputable def cStay (rf:Wd→RW) (ds:List D) (q:D) (W:Wd):LW Unit:=if ∃ xs,StayC rf ds W q xs then .rt W (.bl true) else .stuck
theorem uR {rf:Wd→RW}{ds:List D}{W:Wd}{q:D}{xs:List D}(h:StayC rf ds W q xs):cStay rf ds q W=.rt W (.bl true):=by unfold cStay;rw[if_pos ⟨xs,h⟩]
theorem wX {X:Cx}{G:Gx}{W:Wd}{S:SS}{sts:List Stmt}{rf:Wd→RW}{ds:List D}{q:D}(h:∀ xs,StayC rf ds W q xs→∃ l:Addr→LW Unit,GL X G W S sts JU (.al W l)∧∀ a,W a=none→l a=.rt (wput W a (.lst (xs++[q]))) (.bl true)):GL X G W S sts JU (cStay rf ds q W):=by
 intro pins s ρ H D I ⟨HW,Z,ok,w⟩
 unfold cStay at w
 split at w
 ·rename_i hx
  obtain⟨xs,hx⟩:=hx
  obtain⟨l,hl,he⟩:=h xs hx
  refine hl pins s ρ H D I ⟨HW,Z,ok,fun a ha=>?_⟩
  rw[he a ha]
  exact fun v HW1 Z1 H1 gx wd r=>w v HW1 Z1 H1 gx ⟨fun b o e=>wd.wo b o (by unfold wput;rw[if_neg (fun z=>by subst z;rw[ha]at e;cases e)];exact e),wd.tb⟩ r
 ·exact w.elim
def StaysB (P:Program)(w:World)(K:PySem.W.Frag)(mg:Str→Option Value)(base:Heap)(C:Nat→Addr)(k:Nat)(NT:List Str)(told dn:Str)(st:Stmt)(ds:List D)(rf:Wd→RW)(lt:Wd→LW Unit):Prop :=
 ∀ (f:Addr) (cdv:Value) (A:Around) (outer:List Env) (s:Shared) (HW Z H:Hp) (E:XK) (fl:Addr),BG (bodyX P w K mg base NT told (defScope st) f cdv A outer s H E) ⟨K,C,HW,Z,H,E⟩ k →
  LamAt (bodyX P w K mg base NT told (defScope st) f cdv A outer s H E) ⟨K,C,HW,Z,H,E⟩ 0 dn fl ds rf →
  ∀ W,GL (bodyX P w K mg base NT told (defScope st) f cdv A outer s H E) ⟨K,C,HW,Z,H,E⟩ W (startS NT.length [.ptr fl]) (defBody st) JU (lt W)
section
variable {X:Cx}{G:Gx}{W:Wd}{S:SS}{k:Nat}{params:Arguments}{scope:Scope}{body:Expr}{ds:List D}{rf:Wd→RW}{p pos:Pos}
theorem dH {told dn:Str}{st:Stmt}{NT fr:List Str}{lt:Wd→LW Unit}{lpos:Pos}(i:Nat)(bg:BG X G (k+2))(lx:LamX X G.K G.C i)(nl:NoL G.K)(FT:Fd G.K X.mg told [dn] st)(scT:FnScope NT [dn] (defScope st))(hN0:NT[0]?=some dn)(hg:Gl X told)
  (cap:Cap X S scope fr ds) (sc:LamSc scope params body (X.env.qual ++ "<lambda>"))
  (hb:LamB X.prog X.w X.K X.mg X.base G.C k fr (X.env.qual ++ "<lambda>") scope body ds rf) (hT:StaysB X.prog X.w X.K X.mg X.base G.C (k+1) NT told dn st ds rf lt)
  (hcl:closureFor scope X.env=pure (closOf X.env.cells fr):=by rfl) (hall:fr.all (fun x=>(X.env.cells.lookup x).isSome)=true:=by rfl) (hfr:scope.names.all (fun p=>p.2 != .free||fr.contains p.1)=true:=by rfl)
  (hdef:defaultsOf params X.env=([],[]):=by rfl) (hdb:(told==("__debug__":Str))=false:=by decide) (hdd:(dn==("__debug__":Str))=false:=by decide) (hdc:(dn==("__classdict__":Str))=false:=by decide)
  (he:starEach [.Lambda params body scope lpos] X.env=(false,eval (.Lambda params body scope lpos) X.env)::starEach [] X.env:=by rfl) (hpl:(backTo pos (starEach [] X.env)).any (·.1)=false:=by rfl) :
  GE X G W S (.Call (.Name told p) [.Lambda params body scope lpos] [] pos) (outW (lt W)):=by
 have hK:=bg.K
 obtain⟨a,fd,F,hm,hbd⟩:=FT.ex
 obtain⟨oc,od,kV,doc,pm,an,cdv,ct,osl,rfl,lk,hcd⟩:=F.ex
 intro pins s ρ H Q I ⟨HW,Z,ok,w⟩
 refine wpAny_Call_Name_kw (d8 I hg hm ?_ hdb)
 refine PySem.W.callWith_K I.ok.mod.kin (by rw[hK];exact F.kp) (thn (aH (y3 i hK lx hcl hdef) cH he pos pins s ρ H
  (fun vs H1=>∃ f c ctv oc ws t pm HW1,vs=[.ref f]∧GX HW Z H HW1 Z H1∧WdOk G.K G.C HW1 Z W∧H1 f=some (.frz (PySem.W.kla_obj "<lambda>" (X.env.qual ++ "<lambda>") params body scope (closOf X.env.cells fr) pm c ctv) (.own 0))∧H1 c=some (.frz oc (.own 0))∧oc.data=.fields ws∧ws[1]?=some (.str (X.env.qual ++ "<lambda>") t)) I
  ⟨HW,Z,ok,fun f c ctv oc ws t pm H1 HW1 gx wd a1 a2 a3 a4=>⟨f,c,ctv,oc,ws,t,pm,HW1,rfl,gx,wd,a1,a2,a3,a4⟩⟩) fun us s1 ⟨vs1,H1,I1,r1,q1⟩=>⟨I1.kIn,?_⟩) he hpl
 obtain⟨f,c,ctv,oc',ws,t,pm',HW1,rfl,gx,wd,a1,a2,a3,a4⟩:=q1
 have ok1:=ok.more gx wd
 obtain⟨vs,rs,hl,kk⟩:=Cap.vals ok1 I1 cap
 have memfr:∀ x,scope.names.lookup x=some .free→x∈fr:=fun x e=>by
  have m:=List.all_eq_true.mp hfr _ (PySem.mem_of_lookup e)
  simpa using m
 have L:Lam s1.heap H1 (X.env.qual ++ "<lambda>") params scope body fr f vs:=by
  refine⟨pm',c,ctv,closOf X.env.cells fr,oc',ws,t,a1,a2,a3,a4,fun x y b e1 e2=>I1.ok.inj x y b (fP hall e1) (fP hall e2),fun x b e=>?_,fun x e=>jm (memfr x e),fun j x v e1 e2=>?_⟩
  ·have e':=fP hall e
   exact⟨I1.cell x b e',I1.freeC x b e'⟩
  ·obtain⟨z,u,b,r,e,q⟩:=kk j x v e1 e2
   exact⟨z,u,b,r,uA hall (memfr x z) e,q⟩
 obtain⟨u,rfl,ru⟩:=r1.one
 have r':Vals [.ref f] [u]:=.cons ru .nil
 have hlen:([u]++([]:List Value)).length=[dn].length:=rfl
 have hbind:=(hbd s1 [u] (hK ▸ I1.kIn) hlen)
 have hWR:=w.more gx
 have bT:BG (bodyX X.prog X.w X.K X.mg X.base NT told (defScope st) a cdv X.A X.stack s1 H1 G.E) ⟨X.K,G.C,HW1,Z,H1,G.E⟩ (k+1):=⟨bg.room.deeper _,rfl,rfl,bd⟩
 have hv:=((scT.par dn (by simp)).imp id .inl:Vis (defScope st) dn)
 have hrun:=Ab
  (by rw[hK];exact lk) (by rw[hK];exact hcd) scT rfl bg.room.w I1.env0 (by simpa using hbind) r'
  (hT a cdv X.A X.stack s1 HW1 Z H1 G.E f bT ⟨fun p pos W S hS=>wJ 0 bT rfl L sc (by rw[hK];exact rs) hl hS hb hN0 hv hdd hdc,
   fun p pos W S xs hS t0 l1 l2 l3=>uQ 0 bT rfl L sc (by rw[hK];exact rs) hl hS hb hN0 hv hdd hdc (by rw[hK];exact nl) t0 l1 l2 l3⟩ W)
  ⟨HW1,Z,GOk.start ok1.zh ok1.wh ok1.gx.dj (by rw[hK];exact wd) (Reps.cons (by rw[Rep]) Reps.nil),WGL.start (by rw[hK];exact hWR)⟩
 refine wpAny_call (codeAny_mono hrun fun r s' hq=>?_)
 cases r with
 | error e=>exact bg.pass pins ρ H1 s1 e s' I1 hq
 | ok fl =>
  cases fl with
  | ret u=>exact I1.after hq
  | next=>exact False.elim hq
  | brk=>exact False.elim hq
  | cont=>exact False.elim hq
end
section
variable {X:Cx}{G:Gx}{W:Wd}{S:SS}{a b:Expr}{r:RW}{rb:Wd→RW}{pos:Pos}
theorem wY {kt}(ha:GE X G W S a r)(hb:∀ w,GE X G w S b (rb w))(he:starEach [a,b] X.env=(false,eval a X.env)::starEach [b] X.env:=by rfl)(he2:starEach [b] X.env=(false,eval b X.env)::starEach [] X.env:=by rfl) :
  GE X G W S (.Tuple [a,b] kt pos) (rwB r fun w d=>rwB (rb w) fun w2 d2=>.ok w2 (.tup [d,d2])):=by
 have hb':PE X b (fun ρ H Q=>∃ w,tGE G w S (rb w) ρ H Q):=fun pins s ρ H Q I ⟨w,t⟩=>hb w pins s ρ H Q I t
 refine(sX (aH ha (aH hb' cH he2) he)).weak fun ρ H Q ⟨HW,Z,ok,w⟩=>⟨HW,Z,ok,WRW.ge ok (fun w1 d HW1 Z1 H1 v ok1 z1 rd wl=>⟨w1,HW1,Z1,ok1,WRW.ge ok1 (fun w2 d2 HW2 Z2 H2 v2 ok2 z2 rd2 wl2=>⟨by rw[sizeLine_eq];show 2≤_;decide,fun p hp=>?_⟩) wl⟩) w⟩
 have xx:Ex H2 Z2 (upd H2 p (.tup [v,v2])) (upd Z2 p (.tup [v,v2])):=Ex.alloc ok2.zh hp
 refine wl2 HW2 _ _ (ok2.ex xx) (ok2.wd.mono (Same.refl _) xx.z) _ ?_
 rw[Rep]
 exact⟨p,[v,v2],rfl,SqT.of af,Reps.cons (rd.mono (z2.trans xx.z)) (Reps.cons (rd2.mono xx.z) Reps.nil)⟩
end
def noLB (K:PySem.W.Frag):Bool:=K.all fun p=>p.2.cls != .type "list"
theorem ze {K:PySem.W.Frag}(h:noLB K=true):NoL K:=by
 unfold noLB at h
 intro a o e
 induction K with
 | nil=>cases e
 | cons p r ih =>
  rw[List.all_cons,Bool.and_eq_true]at h
  obtain⟨b,u⟩:=p
  rw[List.lookup_cons]at e
  cases q:(a==b) with
  | true=>rw[q]at e;cases e;simpa using h.1
  | false=>rw[q]at e;exact ih h.2 e
def cSt (rf:Wd→RW)(q:D)(w:Wd)(td:D):LW Unit :=
 lwS (lwT (σ:=Unit) (rwR w (((asB (dIsWL w td)).bind fun b=>.ok (!b)).bind fun t=>.ok (.bl t))) (fun w1=>.rt w1 (.bl false)) (fun w1=>.nx w1 ())) fun w2 _ =>
 lwR w2 (dListW w2 td) fun kp =>
 lwB (rwA w2 (.ok td) fun po=>wApp w2 po (.ok [q])) fun w3 _ =>
 lwB (rwB (rf w3) fun w d=>rwA w (.ok kp) fun y=>rwR w (dEq d y)) fun w d=>.rt w d
theorem zf {rf:Wd→RW}{ds xs:List D}{W:Wd}{q:D}(c:StayC rf ds W q xs){a:Addr}(h:W a=none):cSt rf q (wput W a (.lst xs)) (.ptr a)=.rt (wput W a (.lst (xs++[q]))) (.bl true):=by
 have e1:wput W a (.lst xs) a=some (.lst xs):=by unfold wput;rw[if_pos rfl]
 have e2:wput (wput W a (.lst xs)) a (.lst (xs++[q]))=wput W a (.lst (xs++[q])):=by funext b;unfold wput;split<;>rfl
 unfold cSt
 have d1:dIsWL (wput W a (.lst xs)) (.ptr a)=.ok (.bl true):=by unfold dIsWL;simp only[e1]
 have d2:dListW (wput W a (.lst xs)) (.ptr a)=.ok (.lst xs):=by unfold dListW;simp only[e1]
 rw[d1]
 show lwR _ (dListW (wput W a (.lst xs)) (.ptr a)) _=_
 rw[d2]
 show lwB (wApp (wput W a (.lst xs)) (.ptr a) (.ok [q])) _=_
 unfold wApp
 simp only[e1]
 show lwB (if xs.length < 16777216 then _ else _) _=_
 rw[if_pos c.len,e2]
 show lwB (rwB (rf (wput W a (.lst (xs++[q])))) _) _=_
 rw[c.t1 a h]
 show lwB (rwR _ (dEq (.lst xs) (.lst xs))) _=_
 rw[c.eq]
 rfl
end FF
end
noncomputable section
namespace Lw
open PySem FF
def esL:List Nat:=[1,2,11]
namespace F
abbrev an:Nat:=20
abbrev af:Nat:=21
abbrev az:Nat:=22
abbrev al:Nat:=23
abbrev aj:Nat:=24
abbrev ao:Nat:=25
abbrev ah:Nat:=26
abbrev ap:Nat:=43
abbrev aw:Nat:=27
abbrev aa:Nat:=28
abbrev av:Nat:=45
abbrev ax:Nat:=46
abbrev ay:Nat:=47
abbrev aq:Nat:=49
abbrev ad:Nat:=50
abbrev aC:Nat:=29
abbrev ar:Nat:=72
abbrev ab:Nat:=76
abbrev ag:Nat:=79
abbrev ac:Nat:=80
abbrev aA:Nat:=280
abbrev ak:Nat:=334
abbrev aB:Nat:=30
abbrev ae:Nat:=31
abbrev ai:Nat:=32
abbrev au:Nat:=33
end F
def fvL:List Nat:=[21]
def eZ (t:Nat→List D→R D)(thing:D):L Unit :=
 lB (vAnd (dIsA qInt thing) (vNot (dIsA qBool thing))) .rt
def da (t:Nat→List D→R D)(thing:D):L Unit :=
 lB (vAnd (t F.an [thing]) (rCh dLe dLe (.int 0) thing (.ok (.int 9)))) .rt
def eE (t:Nat→List D→R D)(thing:D):L Unit :=
 lB (vAnd (t F.an [thing]) (rCh dLe dLe (.int 0) thing (.ok (.int 3)))) .rt
def cT (t:Nat→List D→R D)(size_:D)(thing:D)(is_end:D):L Unit :=
 lS (lB (σ:=Unit) (rNot (asB (dIsA qTup thing))) fun b=>if b=true then lB (onF fvL is_end fun i=>t i [thing]) .rt else .nx ()) fun _ =>
 lS (lB (σ:=Unit) (rOr (asB (dEq size_ (.int 0))) (asB ((dLen [thing]).bind fun x=>dNf x (.int 4)))) fun b1=>if b1=true then .rt (.bl false) else .nx ()) fun _ =>
 lB (((sq thing).bind fun xs=>cMap (fun part=>(dSub size_ (.int 1)).bind fun x1=>t F.al [x1,part,is_end]) xs).bind fun x2=>dAll [x2]) .rt
def aO (t:Nat→List D→R D)(thing:D)(is_end:D):L Unit :=
 lS (lB (σ:=Unit) (rOr (rNot (asB (dIsA qTup thing))) (asB ((dLen [thing]).bind fun x=>dNf x (.int 2)))) fun b=>if b=true then .rt (.bl false) else .nx ()) fun _ =>
 lB (vAnd ((dIx thing (.int 0)).bind fun x3=>t F.az [x3]) ((dIx thing (.int 0)).bind fun x1=>(dIx thing (.int 1)).bind fun x2=>t F.al [x1,x2,is_end])) .rt
def a9 (t:Nat→List D→R D)(four:D):L Unit :=
 lB (dIx four (.int 0)) fun first =>
 lS (lB (σ:=Unit) (rAnd (rNot (asB (dIsA qTup first))) (asB (dEq four (.tup [first,first,first,first])))) fun b=>if b=true then .rt first else .nx ()) fun _ =>
 .rt four
def bE (t:Nat→List D→R D)(tree_:D):L Unit :=
 lS (lB (σ:=Unit) (rNot (asB (dIsA qTup tree_))) fun b=>if b=true then .rt tree_ else .nx ()) fun _ =>
 lB ((((sq tree_).bind fun xs=>cMap (fun part=>t F.ah [part]) xs).bind fun x=>dTuple [x]).bind fun x1=>t F.ao [x1]) .rt
def b9 (t:Nat→List D→R D)(tree_:D)(side:D)(x:D)(y:D):L Unit :=
 lS (lB (σ:=Unit) (rNot (asB (dIsA qTup tree_))) fun b=>if b=true then .rt tree_ else .nx ()) fun _ =>
 lB (dDiv side (.int 2)) fun half =>
 lB (((dDiv y half).bind fun x1=>dMul (.int 2) x1).bind fun x2=>(dDiv x half).bind fun x3=>dAdd x2 x3) fun number =>
 lB ((dIx tree_ number).bind fun x4=>(dMod x half).bind fun x5=>(dMod y half).bind fun x6=>t F.ap [x4,half,x5,x6]) .rt
def bP (t:Nat→List D→R D)(thing:D):L Unit :=
 lB (t F.aj [thing,(.fn F.af)]) .rt
def aP (t:Nat→List D→R D)(thing:D):L Unit :=
 lB (rNot (asB (t F.aw [thing]))) fun b=>if b=true then .er 1 else .nx ()
def eF (t:Nat→List D→R D)(picture:D):L Unit :=
 lB ((dIx picture (.int 0)).bind fun x=>dIx (tupI [1,2,4,8]) x) .rt
def db (t:Nat→List D→R D)(side:D)(thing:D):L Unit :=
 lB (vAnd (t F.an [thing]) (rCh dLe dLt (.int 0) thing (.ok side))) .rt
def bQ (t:Nat→List D→R D)(picture:D)(x:D)(y:D):L Unit :=
 lB (t F.av [picture]) fun side =>
 lB (rOr (rNot (asB (t F.ax [side,x]))) (rNot (asB (t F.ax [side,y])))) fun b=>if b=true then .er 2 else .nx ()
def cA (t:Nat→List D→R D)(picture:D)(y:D):L Unit :=
 lB (t F.av [picture]) fun side =>
 lB (((rng1 [side]).bind fun xs=>cMap (fun x=>(dIx picture (.int 1)).bind fun x1=>t F.ap [x1,side,x,y]) xs).bind fun x2=>dTuple [x2]) .rt
def bR (t:Nat→List D→R D)(picture:D):L Unit :=
 lB (t F.aa [picture]) fun _ =>
 lB ((((t F.av [picture]).bind fun x=>rng1 [x]).bind fun xs=>cMap (fun y=>t F.aq [picture,y]) xs).bind fun x1=>dTuple [x1]) .rt
def l9 (t:Nat→List D→R D)(picture:D):L Unit :=
 lB (t F.aa [picture]) fun _ =>
 lB ((dIx picture (.int 0)).bind fun x=>((dIx picture (.int 1)).bind fun x1=>t F.ah [x1]).bind fun x2=>.ok (.tup [x,x2])) .rt
def cc (t:Nat→List D→R D)(worths:List D)(row:D):L (List D) :=
 lB (oExt worths row) fun worths1 =>
 .nx worths1
def cB (t:Nat→List D→R D)(rows:D):L Unit :=
 lS (lB (sq rows) fun xs=>lFor (τ:=List D) (fun s x=>cc t s x) xs []) fun worths1 =>
 .rt (.lst worths1)
def cC (t:Nat→List D→R D)(picture:D):L Unit :=
 lB (((t F.ad [picture]).bind fun x=>t F.ar [x]).bind fun x1=>dSortS [x1]) .rt
def bS (t:Nat→List D→R D)(runs:List D)(worth:D):L (List D) :=
 lB (rAnd (asB (dGt (.int (runs.length:Nat)) (.int 0))) (asB (((oIx runs (.int (-1))).bind fun x=>dIx x (.int 0)).bind fun x1=>dEq x1 worth))) fun b=>if b=true then lB (((((oIx runs (.int (-1))).bind fun x2=>dIx x2 (.int 1)).bind fun x3=>dAdd x3 (.int 1)).bind fun x4=>.ok (.tup [worth,x4])).bind fun x5=>oStN runs (.int (-1)) x5) fun runs1=>.nx runs1 else lB (oApp runs (.tup [worth,(.int 1)])) fun runs2 =>
 .nx runs2
def eG (t:Nat→List D→R D)(picture:D)(y:D):L Unit :=
 lB (t F.aa [picture]) fun _ =>
 lB (t F.ay [picture,(.int 0),y]) fun _ =>
 lS (lB (((t F.ad [picture]).bind fun x=>dIx x y).bind fun x1=>sq x1) fun xs=>lFor (τ:=List D) (fun s x=>bS t s x) xs []) fun runs2 =>
 .rt (.lst runs2)
def ce (t:Nat→List D→R D)(rows:D)(couples:List D)(y:D)(row:D):L (List D) :=
 lB ((((dAdd y (.int 1)).bind fun x=>(dLen [rows]).bind fun x1=>rng2 [x,x1]).bind fun xs=>cFil (fun other=>(asB ((dIx rows other).bind fun x2=>dEq x2 row))) (fun other=>.ok (.tup [y,other])) xs).bind fun x3=>oExt couples x3) fun couples1 =>
 .nx couples1
def cD (t:Nat→List D→R D)(picture:D):L Unit :=
 lB (t F.ad [picture]) fun rows =>
 lS (lB (dEnum rows) fun xs1=>lFor (τ:=List D) (fun s p=>lUn2 p fun x0 x1=>ce t rows s x0 x1) xs1 []) fun couples1 =>
 .rt (.lst couples1)
def gS (t:Nat→List D→R D)(thing:D):L Unit :=
 lS (lB (σ:=Unit) (rOr (rNot (asB (dIsA qStr thing))) (rNot (asB ((dLenS [thing]).bind fun x=>rCh dLe dLe (.int 1) x (.ok (.int 5)))))) fun b=>if b=true then .rt (.bl false) else .nx ()) fun _ =>
 lB (((asTxt thing).bind fun xs=>cMap (fun sign=>dInS sign (.str "abcdefghijklmnopqrstuvwxyz")) xs).bind fun x1=>dAll [x1]) .rt
def bU (t:Nat→List D→R D)(thing:D):L Unit :=
 lB (rNot (asB (t F.aA [thing]))) fun b=>if b=true then .er 11 else .nx ()
def fQ (t:Nat→List D→R D)(Ap:D)(At:D):L Unit :=
 lS (lB (σ:=Unit) (asB ((dLen [Ap]).bind fun x=>dLt At x)) fun b=>if b=true then lB (dIx Ap At) .rt else .nx ()) fun _ =>
 lS (lB (σ:=Unit) (asB (dEq Ap (.lst []))) fun b1=>if b1=true then .rt (.int 0) else .nx ()) fun _ =>
 lB (((((dLen [Ap]).bind fun x1=>dMod At x1).bind fun x2=>dIx Ap x2).bind fun x3=>dMul x3 (.int 31)).bind fun x4=>dAdd x4 At) .rt
def fR (t:Nat→List D→R D)(Ap:D)(At:D)(AA:D):L Unit :=
 lB ((((t F.aB [Ap,At]).bind fun x=>((dAdd At (.int 1)).bind fun x1=>dMul (.int 6151) x1).bind fun x2=>dAdd x x2).bind fun x3=>dMul x3 (.int 40692)).bind fun x4=>dMod x4 (.int 2147483399)) fun Au =>
 lB ((((dMul Au Au).bind fun x5=>(dDiv Au (.int 31)).bind fun x6=>dAdd x5 x6).bind fun x7=>dMod x7 (.int 2147483629)).bind fun x8=>dMod x8 AA) .rt
def dJ (t:Nat→List D→R D)(Ap:D)(As:D)(Ar:D):L Unit :=
 lB (t F.ae [Ap,As,(.int 6)]) fun Aw =>
 lS (lB (σ:=Unit) (rOr (asB (dEq Ar (.int 0))) (asB (dLt Aw (.int 2)))) fun b=>if b=true then lB ((((dAdd As (.int 1)).bind fun x=>t F.ae [Ap,x,(.int 10)]).bind fun x1=>.ok (.lst [(.int 0),(.int 1),(.int 1),(.int 2),(.int 9),x1])).bind fun x2=>((dAdd As (.int 2)).bind fun x3=>t F.ae [Ap,x3,(.int 6)]).bind fun x4=>dIx x2 x4) .rt else .nx ()) fun _ =>
 lS (lB (σ:=Unit) (asB (dEq Aw (.int 2))) fun b1=>if b1=true then lB ((((dAdd As (.int 3)).bind fun x5=>(dSub Ar (.int 1)).bind fun x6=>t F.ai [Ap,x5,x6]).bind fun x7=>.ok (.tup [x7])).bind fun x8=>dMul x8 (.int 4)) .rt else .nx ()) fun _ =>
 lB (((rng1 [(.int 4)]).bind fun xs=>cMap (fun At=>(((dMul (.int 5) As).bind fun x9=>dAdd x9 (.int 7)).bind fun x10=>(dMul (.int 11) At).bind fun x11=>dAdd x10 x11).bind fun x12=>(dSub Ar (.int 1)).bind fun x13=>t F.ai [Ap,x12,x13]) xs).bind fun x14=>dTuple [x14]) .rt
def cE (t:Nat→List D→R D)(Ap:D)(As:D)(AB:D):L Unit :=
 lB ((((t F.ae [Ap,As,(.int 7)]).bind fun x=>dIx (.lst [(.int 0),(.int 0),(.int 0),(.int 1),(.int 1),(.int 2),(.int 3)]) x).bind fun x1=>dSub AB x1).bind fun x2=>dMax2 [(.int 0),x2]) fun Ar =>
 lB (((dAdd As (.int 1)).bind fun x3=>t F.ai [Ap,x3,Ar]).bind fun x4=>.ok (.tup [Ar,x4])) .rt
def pf:Nat→Nat→List D→R D
 | 0,_=>fun _=>.stuck
 | n+1,i=>match i with
  | 20=>a1 (eZ (pf n))
  | 21=>a1 (da (pf n))
  | 22=>a1 (eE (pf n))
  | 23=>a3 (cT (pf n))
  | 24=>a2 (aO (pf n))
  | 25=>a1 (a9 (pf n))
  | 26=>a1 (bE (pf n))
  | 43=>a4 (b9 (pf n))
  | 27=>a1 (bP (pf n))
  | 28=>a1 (aP (pf n))
  | 45=>a1 (eF (pf n))
  | 46=>a2 (db (pf n))
  | 47=>a3 (bQ (pf n))
  | 49=>a2 (cA (pf n))
  | 50=>a1 (bR (pf n))
  | 29=>a1 (l9 (pf n))
  | 72=>a1 (cB (pf n))
  | 76=>a1 (cC (pf n))
  | 79=>a2 (eG (pf n))
  | 80=>a1 (cD (pf n))
  | 280=>a1 (gS (pf n))
  | 334=>a1 (bU (pf n))
  | 30=>a2 (fQ (pf n))
  | 31=>a3 (fR (pf n))
  | 32=>a3 (dJ (pf n))
  | 33=>a3 (cE (pf n))
  | _=>fun _=>.stuck
theorem nD (n:Nat)(a0:D):pf (n+1) F.an [a0]=outL (eZ (pf n) a0):=rfl
theorem nE (n:Nat)(a0:D):pf (n+1) F.af [a0]=outL (da (pf n) a0):=rfl
theorem oZ (n:Nat)(a0:D):pf (n+1) F.az [a0]=outL (eE (pf n) a0):=rfl
theorem jr (n:Nat)(a0 a1 a2:D):pf (n+1) F.al [a0,a1,a2]=outL (cT (pf n) a0 a1 a2):=rfl
theorem gT (n:Nat)(a0 a1:D):pf (n+1) F.aj [a0,a1]=outL (aO (pf n) a0 a1):=rfl
theorem iz (n:Nat)(a0:D):pf (n+1) F.ao [a0]=outL (a9 (pf n) a0):=rfl
theorem fT (n:Nat)(a0:D):pf (n+1) F.ah [a0]=outL (bE (pf n) a0):=rfl
theorem ir (n:Nat)(a0 a1 a2 a3:D):pf (n+1) F.ap [a0,a1,a2,a3]=outL (b9 (pf n) a0 a1 a2 a3):=rfl
theorem j8 (n:Nat)(a0:D):pf (n+1) F.aw [a0]=outL (bP (pf n) a0):=rfl
theorem gU (n:Nat)(a0:D):pf (n+1) F.aa [a0]=outL (aP (pf n) a0):=rfl
theorem o4 (n:Nat)(a0:D):pf (n+1) F.av [a0]=outL (eF (pf n) a0):=rfl
theorem nF (n:Nat)(a0 a1:D):pf (n+1) F.ax [a0,a1]=outL (db (pf n) a0 a1):=rfl
theorem j9 (n:Nat)(a0 a1 a2:D):pf (n+1) F.ay [a0,a1,a2]=outL (bQ (pf n) a0 a1 a2):=rfl
theorem ma (n:Nat)(a0 a1:D):pf (n+1) F.aq [a0,a1]=outL (cA (pf n) a0 a1):=rfl
theorem ke (n:Nat)(a0:D):pf (n+1) F.ad [a0]=outL (bR (pf n) a0):=rfl
theorem wZ (n:Nat)(a0:D):pf (n+1) F.aC [a0]=outL (l9 (pf n) a0):=rfl
theorem me (n:Nat)(a0:D):pf (n+1) F.ar [a0]=outL (cB (pf n) a0):=rfl
theorem mf (n:Nat)(a0:D):pf (n+1) F.ab [a0]=outL (cC (pf n) a0):=rfl
theorem o5 (n:Nat)(a0 a1:D):pf (n+1) F.ag [a0,a1]=outL (eG (pf n) a0 a1):=rfl
theorem mh (n:Nat)(a0:D):pf (n+1) F.ac [a0]=outL (cD (pf n) a0):=rfl
theorem kg (n:Nat)(a0:D):pf (n+1) F.ak [a0]=outL (bU (pf n) a0):=rfl
theorem sA (n:Nat)(a0 a1:D):pf (n+1) F.aB [a0,a1]=outL (fQ (pf n) a0 a1):=rfl
theorem sB (n:Nat)(a0 a1 a2:D):pf (n+1) F.ae [a0,a1,a2]=outL (fR (pf n) a0 a1 a2):=rfl
theorem lg (n:Nat)(a0 a1 a2:D):pf (n+1) F.ai [a0,a1,a2]=outL (dJ (pf n) a0 a1 a2):=rfl
theorem mi (n:Nat)(a0 a1 a2:D):pf (n+1) F.au [a0,a1,a2]=outL (cE (pf n) a0 a1 a2):=rfl
namespace M
abbrev Steps_init:Nat:=1
abbrev Steps_here:Nat:=2
abbrev Steps_go_on:Nat:=3
abbrev Steps_marks:Nat:=4
abbrev Album_init:Nat:=5
abbrev Album_begin:Nat:=6
abbrev Album_pictures:Nat:=7
abbrev Album_go_on:Nat:=8
abbrev Album_put:Nat:=9
abbrev Album_picture_of:Nat:=10
abbrev Album_names:Nat:=11
abbrev Album_same_as:Nat:=12
abbrev Album_marks:Nat:=13
abbrev law_k87:Nat:=14
end M
def bV (t:Nat→List D→R D)(tr:Nat→Wd→List D→R D)(tw:Nat→Wd→List D→RW)(W:Wd)(self:D)(first:D):LW Unit :=
 lwB (rwR W (.ok (.lst [first]))) fun w d=>wFld 12 w "pages" self d fun w1 =>
 lwB (rwR w1 (.ok (.int 0))) fun w2 d1=>wFld 12 w2 "place" self d1 fun w3 =>
 .nx w3 ()
def bW (t:Nat→List D→R D)(tr:Nat→Wd→List D→R D)(W:Wd)(self:D):L Unit :=
 lB ((dFld 12 W "pages" self).bind fun x=>(dFld 12 W "place" self).bind fun x1=>dIx x x1) .rt
def bq (t:Nat→List D→R D)(tr:Nat→Wd→List D→R D)(tw:Nat→Wd→List D→RW)(W:Wd)(self:D)(page:D):LW Unit :=
 lwB (rwR W ((dFld 12 W "place" self).bind fun x=>dAdd x (.int 1))) fun w d=>wFld 12 w "place" self d fun w1 =>
 lwB (rwR w1 (((dFld 12 w1 "pages" self).bind fun x1=>((dFld 12 w1 "place" self).bind asI).bind fun i=>dSwL x1 none i).bind fun x2=>dAdd x2 (.lst [page]))) fun w2 d1=>wFld 12 w2 "pages" self d1 fun w3 =>
 .nx w3 ()
def br (t:Nat→List D→R D)(tr:Nat→Wd→List D→R D)(W:Wd)(self:D):L Unit :=
 lB ((dFld 12 W "place" self).bind fun x=>((((dFld 12 W "pages" self).bind fun x1=>dLen [x1]).bind fun x2=>dSub x2 (.int 1)).bind fun x3=>(dFld 12 W "place" self).bind fun x4=>dSub x3 x4).bind fun x5=>.ok (.tup [x,x5])) .rt
def bX (t:Nat→List D→R D)(tr:Nat→Wd→List D→R D)(tw:Nat→Wd→List D→RW)(W:Wd)(self:D):LW Unit :=
 lwB (rwA W (.ok self) fun o=>rwM 13 "begin" W o (rwA W (rL [(.ok (.dic [] []))]) fun ds=>tw M.Album_begin W (o::ds))) fun w _ =>
 .nx w ()
def bu (t:Nat→List D→R D)(tr:Nat→Wd→List D→R D)(tw:Nat→Wd→List D→RW)(W:Wd)(self:D)(held:D):LW Unit :=
 lwB (rwA W (rL [(.ok (.tup [(.str ""),held]))]) (rwNew 12 W (tw M.Steps_init))) fun w d=>wFld 13 w "steps" self d fun w1 =>
 .nx w1 ()
def aJ (t:Nat→List D→R D)(tr:Nat→Wd→List D→R D)(W:Wd)(self:D):L Unit :=
 lB (((dFld 13 W "steps" self).bind fun x=>rM 12 "here" W x (tr M.Steps_here W [x])).bind fun x1=>dIx x1 (.int 1)) .rt
def bv (t:Nat→List D→R D)(tr:Nat→Wd→List D→R D)(tw:Nat→Wd→List D→RW)(W:Wd)(self:D)(word:D)(name:D)(picture:D):LW Unit :=
 lwR W ((rM 13 "pictures" W self (tr M.Album_pictures W [self])).bind fun x=>dicOf x) fun held =>
 lwR W (oDSt held name picture) fun held1 =>
 lwB (rwA W (dFld 13 W "steps" self) fun o=>rwM 12 "go_on" W o (rwA W (rL [(.ok (.tup [word,(dicD held1)]))]) fun ds=>tw M.Steps_go_on W (o::ds))) fun w _ =>
 .nx w ()
def cF (t:Nat→List D→R D)(tr:Nat→Wd→List D→R D)(tw:Nat→Wd→List D→RW)(W:Wd)(self:D)(name:D)(picture:D):LW Unit :=
 lwR W (t F.aC [picture]) fun told =>
 lwB (rwR W (t F.ak [name])) fun w _ =>
 lwR w ((rM 13 "pictures" w self (tr M.Album_pictures w [self])).bind fun x=>dDin name x) fun had =>
 lwB (rwA w (.ok self) fun o=>rwM 13 "go_on" w o (rwA w (rL [(.ok (.str "put")),(.ok name),(.ok told)]) fun ds=>tw M.Album_go_on w (o::ds))) fun w1 _ =>
 .rt w1 had
def aB (t:Nat→List D→R D)(tr:Nat→Wd→List D→R D)(W:Wd)(self:D)(name:D):L Unit :=
 lS (lB (σ:=Unit) (rOr (rNot (asB (t F.aA [name]))) (asB ((rM 13 "pictures" W self (tr M.Album_pictures W [self])).bind fun x=>dDnin name x))) fun b=>if b=true then .er 11 else .nx ()) fun _ =>
 lB ((rM 13 "pictures" W self (tr M.Album_pictures W [self])).bind fun x1=>dDx x1 name) .rt
def bw (t:Nat→List D→R D)(tr:Nat→Wd→List D→R D)(W:Wd)(self:D):L Unit :=
 lB ((rM 13 "pictures" W self (tr M.Album_pictures W [self])).bind fun x=>dSortD [x]) .rt
def aQ (t:Nat→List D→R D)(tr:Nat→Wd→List D→R D)(W:Wd)(self:D)(name:D):L Unit :=
 lB (rM 13 "picture_of" W self ((rL [(.ok name)]).bind fun ds=>tr M.Album_picture_of W (self::ds))) fun told =>
 lB (((rM 13 "names" W self (tr M.Album_names W [self])).bind fun x=>sq x).bind fun xs=>cFil (fun other=>(rAnd (asB (dNf other name)) (asB ((rM 13 "picture_of" W self ((rL [(.ok other)]).bind fun ds1=>tr M.Album_picture_of W (self::ds1))).bind fun x1=>dEq x1 told)))) (fun other=>.ok other) xs) .rt
def bz (t:Nat→List D→R D)(tr:Nat→Wd→List D→R D)(W:Wd)(self:D):L Unit :=
 lB ((dFld 13 W "steps" self).bind fun x=>rM 12 "marks" W x (tr M.Steps_marks W [x])) .rt
noncomputable def eI (t:Nat→List D→R D) (tr:Nat→Wd→List D→R D) (tw:Nat→Wd→List D→RW) (W:Wd) (Ap:D):LW Unit :=
 lwB (rwB (rwR W (t F.au [Ap,(.int 0),(.int 3)])) fun w1 d=>rwB (rwNew 13 w1 (tw M.Album_init) []) fun w2 d1=>.ok w2 (.tup [d,d1])) fun w d2=>lwUn2 d2 fun Ao Aq =>
 lwB (rwA w (.ok Aq) fun o=>rwM 13 "put" w o (rwA w (rL [(.ok (.str "a")),(.ok Ao)]) fun ds=>tw M.Album_put w (o::ds))) fun w3 _ =>
 lwB (rwA w3 (.ok Aq) fun o1=>rwM 13 "put" w3 o1 (rwA w3 (rL [(.ok (.str "b")),(.ok Ao)]) fun ds=>tw M.Album_put w3 (o1::ds))) fun w4 _ =>
 lwB (outW (cStay (fun w5=>rwR w5 (t F.ab [Ao])) [Ao] (.str "?") w4)) fun w6 AC =>
 lwB (outW (cStay (fun w7=>rwR w7 (t F.ag [Ao,(.int 0)])) [Ao] (.str "?") w6)) fun w8 d3=>lwR w8 (oApp [AC] d3) fun Ax =>
 lwB (outW (cStay (fun w9=>rwR w9 (t F.ac [Ao])) [Ao] (.str "?") w8)) fun w10 d4=>lwR w10 (oApp Ax d4) fun Ay =>
 lwB (outW (cStay (fun w11=>rwR w11 (rM 13 "names" w11 Aq (tr M.Album_names w11 [Aq]))) [Aq] (.str "?") w10)) fun w12 d5=>lwR w12 (oApp Ay d5) fun Az =>
 lwB (outW (cStay (fun w13=>rwR w13 (rM 13 "same_as" w13 Aq ((rL [(.ok (.str "a"))]).bind fun ds=>tr M.Album_same_as w13 (Aq::ds)))) [Aq] (.str "?") w12)) fun w14 d6=>lwR w14 (oApp Az d6) fun Av =>
 lwR w14 (vAnd ((dMul (.lst [(.bl true)]) (.int 5)).bind fun x2=>dEq (.lst Av) x2) (vAnd ((rM 13 "names" w14 Aq (tr M.Album_names w14 [Aq])).bind fun x1=>dEq x1 (.lst [(.str "a"),(.str "b")])) ((rM 13 "marks" w14 Aq (tr M.Album_marks w14 [Aq])).bind fun x=>dEq x (.tup [(.int 2),(.int 0)])))) fun d=>.rt w14 d
def pr:Nat→Nat→Wd→List D→R D
 | 0,_=>fun _ _=>.stuck
 | n+1,i=>match i with
  | 2=>r1 (bW (pf n) (pr n))
  | 4=>r1 (br (pf n) (pr n))
  | 7=>r1 (aJ (pf n) (pr n))
  | 10=>r2 (aB (pf n) (pr n))
  | 11=>r1 (bw (pf n) (pr n))
  | 12=>r2 (aQ (pf n) (pr n))
  | 13=>r1 (bz (pf n) (pr n))
  | _=>fun _ _=>.stuck
noncomputable def pw:Nat→Nat→Wd→List D→RW
 | 0,_=>fun _ _=>.stuck
 | n+1,i=>match i with
  | 1=>b2 (bV (pf n) (pr n) (pw n))
  | 3=>b2 (bq (pf n) (pr n) (pw n))
  | 5=>b1 (bX (pf n) (pr n) (pw n))
  | 6=>b2 (bu (pf n) (pr n) (pw n))
  | 8=>b4 (bv (pf n) (pr n) (pw n))
  | 9=>b3 (cF (pf n) (pr n) (pw n))
  | 14=>match n with
   | m+2=>b1 (eI (pf m) (pr m) (pw m))
   | _=>fun _ _=>.stuck
  | _=>fun _ _=>.stuck
theorem kh (n:Nat)(W:Wd)(a0 a1:D):pw (n+1) M.Steps_init W [a0,a1]=outW (bV (pf n) (pr n) (pw n) W a0 a1):=rfl
theorem ki (n:Nat)(W:Wd)(a0:D):pr (n+1) M.Steps_here W [a0]=outL (bW (pf n) (pr n) W a0):=rfl
theorem js (n:Nat)(W:Wd)(a0 a1:D):pw (n+1) M.Steps_go_on W [a0,a1]=outW (bq (pf n) (pr n) (pw n) W a0 a1):=rfl
theorem jt (n:Nat)(W:Wd)(a0:D):pr (n+1) M.Steps_marks W [a0]=outL (br (pf n) (pr n) W a0):=rfl
theorem kj (n:Nat)(W:Wd)(a0:D):pw (n+1) M.Album_init W [a0]=outW (bX (pf n) (pr n) (pw n) W a0):=rfl
theorem ju (n:Nat)(W:Wd)(a0 a1:D):pw (n+1) M.Album_begin W [a0,a1]=outW (bu (pf n) (pr n) (pw n) W a0 a1):=rfl
theorem fU (n:Nat)(W:Wd)(a0:D):pr (n+1) M.Album_pictures W [a0]=outL (aJ (pf n) (pr n) W a0):=rfl
theorem jv (n:Nat)(W:Wd)(a0 a1 a2 a3:D):pw (n+1) M.Album_go_on W [a0,a1,a2,a3]=outW (bv (pf n) (pr n) (pw n) W a0 a1 a2 a3):=rfl
theorem mj (n:Nat)(W:Wd)(a0 a1 a2:D):pw (n+1) M.Album_put W [a0,a1,a2]=outW (cF (pf n) (pr n) (pw n) W a0 a1 a2):=rfl
theorem eM (n:Nat)(W:Wd)(a0 a1:D):pr (n+1) M.Album_picture_of W [a0,a1]=outL (aB (pf n) (pr n) W a0 a1):=rfl
theorem jw (n:Nat)(W:Wd)(a0:D):pr (n+1) M.Album_names W [a0]=outL (bw (pf n) (pr n) W a0):=rfl
theorem gW (n:Nat)(W:Wd)(a0 a1:D):pr (n+1) M.Album_same_as W [a0,a1]=outL (aQ (pf n) (pr n) W a0 a1):=rfl
theorem jx (n:Nat)(W:Wd)(a0:D):pr (n+1) M.Album_marks W [a0]=outL (bz (pf n) (pr n) W a0):=rfl
theorem o6 (n:Nat)(W:Wd)(a0:D):pw (n+3) M.law_k87 W [a0]=outW (eI (pf n) (pr n) (pw n) W a0):=rfl
end Lw
end
noncomputable section
set_option maxHeartbeats 4000000
namespace Lw
open PySem PySem.Spec PyProof.Rows L2 FF
def top (i:Nat):Stmt:=PySem.Challenge.pw_fourfold_k87_whole_told_lists.main.body.getD i (.Pass ⟨0,0,0,0⟩)
abbrev e9:Stmt:=top 9
theorem nG:FnScope ["thing"] ["thing"] (defScope e9):=mkSc
abbrev fb:Stmt:=top 10
theorem nI:FnScope ["thing"] ["thing"] (defScope fb):=mkSc
abbrev gX:Stmt:=top 11
theorem o7:FnScope ["thing"] ["thing"] (defScope gX):=mkSc
abbrev gY:Stmt:=top 12
theorem o8:FnScope ["size","thing","is_end"] ["size","thing","is_end"] (defScope gY):=mkSc
abbrev bI:Stmt:=top 13
theorem gZ:FnScope ["thing","is_end"] ["thing","is_end"] (defScope bI):=mkSc
abbrev cg:Stmt:=top 14
theorem dA:FnScope ["four","first"] ["four"] (defScope cg):=mkSc
abbrev dL:Stmt:=top 15
theorem ml:FnScope ["tree"] ["tree"] (defScope dL):=mkSc
abbrev fc:Stmt:=top 16
theorem dM:FnScope ["tree","side","x","y","half","number"] ["tree","side","x","y"] (defScope fc):=mkSc
abbrev de:Stmt:=top 19
theorem kl:FnScope ["thing"] ["thing"] (defScope de):=mkSc
abbrev bJ:Stmt:=top 20
theorem g4:FnScope ["thing"] ["thing"] (defScope bJ):=mkSc
abbrev g5:Stmt:=top 21
theorem o9:FnScope ["picture"] ["picture"] (defScope g5):=mkSc
abbrev fe:Stmt:=top 22
theorem nJ:FnScope ["side","thing"] ["side","thing"] (defScope fe):=mkSc
abbrev df:Stmt:=top 23
theorem eQ:FnScope ["picture","x","y","side"] ["picture","x","y"] (defScope df):=mkSc
abbrev dN:Stmt:=top 24
theorem fV:FnScope ["picture","y","side"] ["picture","y"] (defScope dN):=mkSc
abbrev dg:Stmt:=top 25
theorem km:FnScope ["picture"] ["picture"] (defScope dg):=mkSc
abbrev pb:Stmt:=top 26
theorem xa:FnScope ["picture"] ["picture"] (defScope pb):=mkSc
abbrev dO:Stmt:=top 28
theorem dh:FnScope ["rows","worths","row"] ["rows"] (defScope dO):=mkSc
abbrev dP:Stmt:=top 30
theorem mm:FnScope ["picture"] ["picture"] (defScope dP):=mkSc
abbrev g6:Stmt:=top 31
theorem fg:FnScope ["picture","y","runs","worth"] ["picture","y"] (defScope g6):=mkSc
abbrev dQ:Stmt:=top 32
theorem bY:FnScope ["picture","rows","couples","y","row"] ["picture"] (defScope dQ):=mkSc
abbrev g7:Stmt:=top 38
theorem pc:FnScope ["thing"] ["thing"] (defScope g7):=mkSc
abbrev di:Stmt:=top 39
theorem kn:FnScope ["thing"] ["thing"] (defScope di):=mkSc
abbrev jy:Stmt:=top 42
theorem sC:FnScope ["_law_script","_law_k"] ["_law_script","_law_k"] (defScope jy):=mkSc
abbrev jz:Stmt:=top 43
theorem lh:FnScope ["_law_script","_law_k","_law_many","_law_drawn"] ["_law_script","_law_k","_law_many"] (defScope jz):=mkSc
abbrev jA:Stmt:=top 44
theorem lj:FnScope ["_law_script","_law_at","_law_size","_law_way"] ["_law_script","_law_at","_law_size"] (defScope jA):=mkSc
abbrev dR:Stmt:=top 45
theorem fW:FnScope ["_law_script","_law_at","_law_most","_law_size"] ["_law_script","_law_at","_law_most"] (defScope dR):=mkSc
structure Txt (K:PySem.W.Frag)(mg:Str→Option Value)(C:Nat→Addr)(wP:Params):Prop where
 b_all:mg "all"=none
 b_bool:mg "bool"=none
 b_dict:mg "dict"=none
 b_enumerate:mg "enumerate"=none
 b_int:mg "int"=none
 b_isinstance:mg "isinstance"=none
 b_len:mg "len"=none
 b_list:mg "list"=none
 b_max:mg "max"=none
 b_range:mg "range"=none
 b_set:mg "set"=none
 b_sorted:mg "sorted"=none
 b_str:mg "str"=none
 b_tuple:mg "tuple"=none
 k_GREATEST_WORTH:∃ t,mg "GREATEST_WORTH"=some (.int 9 t)
 k_LARGEST_SIZE:∃ t,mg "LARGEST_SIZE"=some (.int 3 t)
 k_LONGEST_NAME:∃ t,mg "LONGEST_NAME"=some (.int 5 t)
 s_LETTERS:∃ t,mg "LETTERS"=some (.str "abcdefghijklmnopqrstuvwxyz" t)
 t_SIDES:∃ a,mg "SIDES"=some (.ref a)∧TupK K a [1,2,4,8]
 f_is_worth:mg "is_worth"=some (.ref (C F.af))
 c_FourError:mg "FourError"=some (.ref (C 0))
 c_NoPicture:mg "NoPicture"=some (.ref (C 1))
 c_NoSpot:mg "NoSpot"=some (.ref (C 2))
 c_NoName:mg "NoName"=some (.ref (C 11))
 x_NoPicture:PySem.W.excIn K (C 1) bmVE "ValueError.__new__"=true
 x_NoSpot:PySem.W.excIn K (C 2) bmVE "ValueError.__new__"=true
 x_NoName:PySem.W.excIn K (C 11) bmVE "ValueError.__new__"=true
 takes:Takes K C (C 0) (qTk esL)
 o_Steps:Cls K (C 12)
 o_Album:Cls K (C 13)
 n_Steps_pages:NoAttr K (C 12) "pages"
 n_Steps_place:NoAttr K (C 12) "place"
 n_Album_steps:NoAttr K (C 13) "steps"
structure Tab (P:Program)(w:World)(K:PySem.W.Frag)(mg:Str→Option Value)(base:Heap)(C:Nat→Addr)(k:Nat)(t:Nat→List FF.D→FF.R FF.D):Prop where
 g20:Fn1 P w K mg base C k "is_whole" ["thing"] (t F.an)
 g21:Fn1 P w K mg base C k "is_worth" ["thing"] (t F.af)
 g22:Fn1 P w K mg base C k "is_size" ["thing"] (t F.az)
 g23:Fn1 P w K mg base C k "is_tree" ["size","thing","is_end"] (t F.al)
 g24:Fn1 P w K mg base C k "is_sized_tree" ["thing","is_end"] (t F.aj)
 g25:Fn1 P w K mg base C k "put_together" ["four"] (t F.ao)
 g26:Fn1 P w K mg base C k "lean_tree" ["tree"] (t F.ah)
 g43:Fn1 P w K mg base C k "worth_in" ["tree","side","x","y"] (t F.ap)
 g27:Fn1 P w K mg base C k "is_picture" ["thing"] (t F.aw)
 g28:Fn1 P w K mg base C k "check_picture" ["thing"] (t F.aa)
 g45:Fn1 P w K mg base C k "side_of" ["picture"] (t F.av)
 g46:Fn1 P w K mg base C k "is_along" ["side","thing"] (t F.ax)
 g47:Fn1 P w K mg base C k "check_spot" ["picture","x","y"] (t F.ay)
 g49:Fn1 P w K mg base C k "shown_row" ["picture","y"] (t F.aq)
 g50:Fn1 P w K mg base C k "shown_rows" ["picture"] (t F.ad)
 g29:Fn1 P w K mg base C k "lean" ["picture"] (t F.aC)
 g72:Fn1 P w K mg base C k "worths_of" ["rows"] (t F.ar)
 g76:Fn1 P w K mg base C k "worths_in" ["picture"] (t F.ab)
 g79:Fn1 P w K mg base C k "runs_in" ["picture","y"] (t F.ag)
 g80:Fn1 P w K mg base C k "like_rows" ["picture"] (t F.ac)
 g280:Fn1 P w K mg base C k "is_name" ["thing"] (t F.aA)
 g334:Fn1 P w K mg base C k "check_name" ["thing"] (t F.ak)
 g30:Fn1 P w K mg base C k "_law_cell" ["_law_script","_law_k"] (t F.aB)
 g31:Fn1 P w K mg base C k "_law_pick" ["_law_script","_law_k","_law_many"] (t F.ae)
 g32:Fn1 P w K mg base C k "_law_tree" ["_law_script","_law_at","_law_size"] (t F.ai)
 g33:Fn1 P w K mg base C k "_law_picture" ["_law_script","_law_at","_law_most"] (t F.au)
 v:∀ i∈fvL,FnV P w K mg base C k i (t i)
section
variable {P:Program}{w:World}{K:PySem.W.Frag}{mg:Str→Option Value}{base:Heap}{C:Nat→Addr}{k:Nat}{t:Nat→List FF.D→FF.R FF.D}(T:Txt K mg C w.params)(G:Tab P w K mg base C k t)
include T G
theorem nK:OkD P w K mg base C k "is_whole" e9 ["thing"] (a1 (eZ t)):=ok1 nG fun thing _ _ _ _ _ _ _ _ bx _ _=>by
 show FL _ _ [vv thing] _ _ _
 refine ak (ai (eT (aW bx rfl T.b_isinstance v4 (aa 0) (bO rfl T.b_int (by decide +kernel) rfl)) (gC (yB (aW bx rfl T.b_isinstance t4 (aa 0) (bO rfl T.b_bool (by decide +kernel) rfl)))))) ?_
 rfl
theorem iu:OkD P w K mg base C k "is_worth" fb ["thing"] (a1 (da t)):=ok1 nI fun thing _ _ _ _ _ _ _ _ bx _ _=>by
 show FL _ _ [vv thing] _ _ _
 refine ak (ai (eT (ag bx G.g20 rfl (fac1 (aa 0))) (gC (pU ae (aa 0) (lN T.k_GREATEST_WORTH rfl))))) ?_
 rfl
theorem pd:OkD P w K mg base C k "is_size" gX ["thing"] (a1 (eE t)):=ok1 o7 fun thing _ _ _ _ _ _ _ _ bx _ _=>by
 show FL _ _ [vv thing] _ _ _
 refine ak (ai (eT (ag bx G.g20 rfl (fac1 (aa 0))) (gC (pU ae (aa 0) (lN T.k_LARGEST_SIZE rfl))))) ?_
 rfl
theorem ph:OkD P w K mg base C k "is_tree" gY ["size","thing","is_end"] (a3 (cT t)):=ok3 o8 fun size_ thing is_end _ _ _ _ _ _ _ _ bx _ _=>by
 show FL _ _ [vv size_,vv thing,vv is_end] _ _ _
 refine aT (inj:=fun (_:Unit) (w:Unit)=>[vv size_,vv thing,vv is_end]) (aK (bb (bH (aW bx rfl T.b_isinstance fC (aa 1) (bO rfl T.b_tuple (by decide +kernel) rfl)))) ?_ ?_ ?_) (fun _ w=>?_)
 rfl
 ·refine ak (ai (ua bx G.v (aa 2) (fac1 (aa 1)))) ?_
  rfl
 ·exact ay ⟨(),rfl⟩
 refine aT (inj:=fun (_:Unit) (w1:Unit)=>[vv size_,vv thing,vv is_end]) (aK (ft_w (kJ (ij bx (aa 0) ae) (gA (t6 bx (fe_N (gK bx rfl T.b_len (FAL.out (fac1 (aa 1))))) ae)))) ?_ ?_ ?_) (fun _ w1=>?_)
 rfl
 ·refine aX (ai mP) ?_
  rfl
 ·exact ay ⟨(),rfl⟩
 refine ak (ai (fe_N (tZ bx rfl T.b_all (FAL.out (fac1 (fe_C (em (N:=["part","is_end","size"]) (own:=1) (cap:=[2,0]) bx (BlkOk.of (by kernel_rfl)) (iV bx.K (aa 1)) (dE (by decide)) (fun _ _ _ _ _=>bp 0 (show List.Nodup (α:=Str) ["part","is_end","size"] by decide +kernel)) (fun _ _ _ _ _=>(ag (aR bx) G.g23 rfl (fac (gI (aa 2) ae) (fac (aa 0) (fac1 (aa 1))))))))))))) ?_
 rfl
theorem g8:OkD P w K mg base C k "is_sized_tree" bI ["thing","is_end"] (a2 (aO t)):=ok2 gZ fun thing is_end _ _ _ _ _ _ _ _ bx _ _=>by
 show FL _ _ [vv thing,vv is_end] _ _ _
 refine aT (inj:=fun (_:Unit) (w:Unit)=>[vv thing,vv is_end]) (aK (ft_w (kJ (bb (bH (aW bx rfl T.b_isinstance fC (aa 0) (bO rfl T.b_tuple (by decide +kernel) rfl)))) (gA (t6 bx (fe_N (gK bx rfl T.b_len (FAL.out (fac1 (aa 0))))) ae)))) ?_ ?_ ?_) (fun _ w=>?_)
 rfl
 ·refine aX (ai mP) ?_
  rfl
 ·exact ay ⟨(),rfl⟩
 refine ak (ai (eT (ag bx G.g22 rfl (fac1 (ao bx.K (aa 0) ae))) (gC (ag bx G.g23 rfl (fac (ao bx.K (aa 0) ae) (fac (ao bx.K (aa 0) ae) (fac1 (aa 1)))))))) ?_
 rfl
theorem iA:OkD P w K mg base C k "put_together" cg ["four"] (a1 (a9 t)):=ok1 dA fun four _ _ _ _ _ _ _ _ bx _ _=>by
 show FL _ _ [vv four,nn] _ _ _
 refine au (S':=fun first=>[vv four,vv first]) (bc 1 dA.nd (ao bx.K (aa 0) ae)) ?_ (fun first=>?_)
 rfl
 refine aT (inj:=fun (_:Unit) (w:Unit)=>[vv four,vv first]) (aK (ft_w (ou (bb (bH (aW bx rfl T.b_isinstance fC (aa 1) (bO rfl T.b_tuple (by decide +kernel) rfl)))) (lJ (ij bx (aa 0) (aY (fac (aa 1) (fac (aa 1) (fac (aa 1) (fac1 (aa 1)))))))))) ?_ ?_ ?_) (fun _ w=>?_)
 rfl
 ·refine aX (ai (aa 1)) ?_
  rfl
 ·exact ay ⟨(),rfl⟩
 refine aX (ai (aa 0)) ?_
 rfl
theorem mn:OkD P w K mg base C k "lean_tree" dL ["tree"] (a1 (bE t)):=ok1 ml fun tree_ _ _ _ _ _ _ _ _ bx _ _=>by
 show FL _ _ [vv tree_] _ _ _
 refine aT (inj:=fun (_:Unit) (w:Unit)=>[vv tree_]) (aK (bb (bH (aW bx rfl T.b_isinstance fC (aa 0) (bO rfl T.b_tuple (by decide +kernel) rfl)))) ?_ ?_ ?_) (fun _ w=>?_)
 rfl
 ·refine aX (ai (aa 0)) ?_
  rfl
 ·exact ay ⟨(),rfl⟩
 refine ak (ai (ag bx G.g25 rfl (fac1 (fe_N (fB bx rfl T.b_tuple (FAL.out (fac1 (fe_C (em (N:=["part"]) (own:=1) (cap:=[]) bx (BlkOk.of (by kernel_rfl)) (iV bx.K (aa 0)) (dE (by decide)) (fun _ _ _ _ _=>bp 0 (show List.Nodup (α:=Str) ["part"] by decide +kernel)) (fun _ _ _ _ _=>(ag (aR bx) G.g26 rfl (fac1 (aa 0))))))))))))) ?_
 rfl
theorem nL:OkD P w K mg base C k "worth_in" fc ["tree","side","x","y"] (a4 (b9 t)):=ok4 dM fun tree_ side x y _ _ _ _ _ _ _ _ bx _ _=>by
 show FL _ _ [vv tree_,vv side,vv x,vv y,nn,nn] _ _ _
 refine aT (inj:=fun (_:Unit) (w:Unit)=>[vv tree_,vv side,vv x,vv y,nn,nn]) (aK (bb (bH (aW bx rfl T.b_isinstance fC (aa 0) (bO rfl T.b_tuple (by decide +kernel) rfl)))) ?_ ?_ ?_) (fun _ w=>?_)
 rfl
 ·refine aX (ai (aa 0)) ?_
  rfl
 ·exact ay ⟨(),rfl⟩
 refine au (S':=fun half=>[vv tree_,vv side,vv x,vv y,vv half,nn]) (bc 4 dM.nd (lL (aa 1) ae)) ?_ (fun half=>?_)
 rfl
 refine au (S':=fun number=>[vv tree_,vv side,vv x,vv y,vv half,vv number]) (bc 5 dM.nd (aS bx.K (c5 bx.K ae (lL (aa 3) (aa 4))) (lL (aa 2) (aa 4)))) ?_ (fun number=>?_)
 rfl
 refine ak (ai (ag bx G.g43 rfl (fac (ao bx.K (aa 0) (aa 5)) (fac (aa 4) (fac (gJ (aa 2) (aa 4)) (fac1 (gJ (aa 3) (aa 4)))))))) ?_
 rfl
theorem ko:OkD P w K mg base C k "is_picture" de ["thing"] (a1 (bP t)):=ok1 kl fun thing _ _ _ _ _ _ _ _ bx _ _=>by
 show FL _ _ [vv thing] _ _ _
 refine ak (ai (ag bx G.g24 rfl (fac (aa 0) (fac1 (zP T.f_is_worth rfl))))) ?_
 rfl
theorem g9:OkD P w K mg base C k "check_picture" bJ ["thing"] (a1 (aP t)):=ok1 g4 fun thing _ _ _ _ _ _ _ _ bx _ made=>by
 show FL _ _ [vv thing] _ _ _
 refine lP (aK (bb (bH (ag bx G.g27 rfl (fac1 (aa 0))))) ?_ ?_ ?_)
 rfl
 ·refine pW (fD 1 bx made rfl T.c_NoPicture T.x_NoPicture (FAL.out (fac1 bG))) ?_
  rfl
 ·exact ay True.intro
theorem pi:OkD P w K mg base C k "side_of" g5 ["picture"] (a1 (eF t)):=ok1 o9 fun picture _ _ _ _ _ _ _ _ bx _ _=>by
 show FL _ _ [vv picture] _ _ _
 refine ak (ai (ao bx.K (v7 T.t_SIDES rfl) (ao bx.K (aa 0) ae))) ?_
 rfl
theorem nM:OkD P w K mg base C k "is_along" fe ["side","thing"] (a2 (db t)):=ok2 nJ fun side thing _ _ _ _ _ _ _ _ bx _ _=>by
 show FL _ _ [vv side,vv thing] _ _ _
 refine ak (ai (eT (ag bx G.g20 rfl (fac1 (aa 1))) (gC (vZ ae (aa 1) (aa 0))))) ?_
 rfl
theorem kq:OkD P w K mg base C k "check_spot" df ["picture","x","y"] (a3 (bQ t)):=ok3 eQ fun picture x y _ _ _ _ _ _ _ _ bx _ made=>by
 show FL _ _ [vv picture,vv x,vv y,nn] _ _ _
 refine au (S':=fun side=>[vv picture,vv x,vv y,vv side]) (bc 3 eQ.nd (ag bx G.g45 rfl (fac1 (aa 0)))) ?_ (fun side=>?_)
 rfl
 refine lP (aK (ft_w (kJ (bb (bH (ag bx G.g46 rfl (fac (aa 3) (fac1 (aa 1)))))) (gA (bb (bH (ag bx G.g46 rfl (fac (aa 3) (fac1 (aa 2))))))))) ?_ ?_ ?_)
 rfl
 ·refine pW (fD 2 bx made rfl T.c_NoSpot T.x_NoSpot (FAL.out (fac1 bG))) ?_
  rfl
 ·exact ay True.intro
theorem mo:OkD P w K mg base C k "shown_row" dN ["picture","y"] (a2 (cA t)):=ok2 fV fun picture y _ _ _ _ _ _ _ _ bx _ _=>by
 show FL _ _ [vv picture,vv y,nn] _ _ _
 refine au (S':=fun side=>[vv picture,vv y,vv side]) (bc 2 fV.nd (ag bx G.g45 rfl (fac1 (aa 0)))) ?_ (fun side=>?_)
 rfl
 refine ak (ai (fe_N (fB bx rfl T.b_tuple (FAL.out (fac1 (fe_C (em (N:=["x","side","y","picture"]) (own:=1) (cap:=[2,1,0]) bx (BlkOk.of (by kernel_rfl)) (uc (gF rfl T.b_range (FAL.out (fac1 (aa 2))))) (dE (by decide)) (fun _ _ _ _ _=>bp 0 (show List.Nodup (α:=Str) ["x","side","y","picture"] by decide +kernel)) (fun _ _ _ _ _=>(ag (aR bx) G.g43 rfl (fac (ao (aR bx).K (aa 3) ae) (fac (aa 1) (fac (aa 0) (fac1 (aa 2)))))))))))))) ?_
 rfl
theorem kr:OkD P w K mg base C k "shown_rows" dg ["picture"] (a1 (bR t)):=ok1 km fun picture _ _ _ _ _ _ _ _ bx _ _=>by
 show FL _ _ [vv picture] _ _ _
 refine au (S':=fun _=>[vv picture]) (iD (ag bx G.g28 rfl (fac1 (aa 0)))) ?_ (fun _=>?_)
 rfl
 refine ak (ai (fe_N (fB bx rfl T.b_tuple (FAL.out (fac1 (fe_C (em (N:=["y","picture"]) (own:=1) (cap:=[0]) bx (BlkOk.of (by kernel_rfl)) (uc (gF rfl T.b_range (FAL.out (fac1 (ag bx G.g45 rfl (fac1 (aa 0))))))) (dE (by decide)) (fun _ _ _ _ _=>bp 0 (show List.Nodup (α:=Str) ["y","picture"] by decide +kernel)) (fun _ _ _ _ _=>(ag (aR bx) G.g49 rfl (fac (aa 1) (fac1 (aa 0)))))))))))) ?_
 rfl
theorem xb:OkD P w K mg base C k "lean" pb ["picture"] (a1 (l9 t)):=ok1 xa fun picture _ _ _ _ _ _ _ _ bx _ _=>by
 show FL _ _ [vv picture] _ _ _
 refine au (S':=fun _=>[vv picture]) (iD (ag bx G.g28 rfl (fac1 (aa 0)))) ?_ (fun _=>?_)
 rfl
 refine ak (ai (aY (fac (ao bx.K (aa 0) ae) (fac1 (ag bx G.g26 rfl (fac1 (ao bx.K (aa 0) ae))))))) ?_
 rfl
theorem mq:OkD P w K mg base C k "worths_of" dO ["rows"] (a1 (cB t)):=ok1 dh fun rows _ _ _ _ _ _ _ _ bx hpo _=>by
 show FL _ _ [vv rows,nn,nn] _ _ _
 refine i9 (S':=[vv rows,ow [],nn]) (fs_O (oH 1 dh.nd (FAL.out eB))) ?_ ?_
 rfl
 refine aT (inj:=fun (s:List D) (w:Option Sl)=>[vv rows,ow s,w]) (pX 2 (B:=fun (s:List D) (w:Option Sl) x=>[vv rows,ow s,vv x]) nn hpo rfl (iV bx.K (aa 0)) ?_ (bp 2 dh.nd) rfl (fun _ _ _=>rfl) (fun s w x=>?_)) (fun worths1 w1=>?_)
 rfl
 ·refine au (S':=fun worths=>[vv rows,ow worths,vv x]) (fs_X (kP 1 bx.K (FAL.out (fac1 (aa 2))))) ?_ (fun worths=>?_)
  rfl
  exact ay ⟨vv x,rfl⟩
 refine oK 1 (S':=[vv rows,vv (.lst worths1),w1]) rfl rfl ?_
 refine aX (ai (aa 1)) ?_
 rfl
theorem mr:OkD P w K mg base C k "worths_in" dP ["picture"] (a1 (cC t)):=ok1 mm fun picture _ _ _ _ _ _ _ _ bx _ _=>by
 show FL _ _ [vv picture] _ _ _
 refine ak (ai (fe_N (lZ bx rfl T.b_sorted rfl T.b_set (FAL.out (fac1 (ag bx G.g72 rfl (fac1 (ag bx G.g50 rfl (fac1 (aa 0)))))))))) ?_
 rfl
theorem pj:OkD P w K mg base C k "runs_in" g6 ["picture","y"] (a2 (eG t)):=ok2 fg fun picture y _ _ _ _ _ _ _ _ bx hpo _=>by
 show FL _ _ [vv picture,vv y,nn,nn] _ _ _
 refine au (S':=fun _=>[vv picture,vv y,nn,nn]) (iD (ag bx G.g28 rfl (fac1 (aa 0)))) ?_ (fun _=>?_)
 rfl
 refine au (S':=fun _=>[vv picture,vv y,nn,nn]) (iD (ag bx G.g47 rfl (fac (aa 0) (fac ae (fac1 (aa 1)))))) ?_ (fun _=>?_)
 rfl
 refine i9 (S':=[vv picture,vv y,ow [],nn]) (fs_O (oH 2 fg.nd (FAL.out eB))) ?_ ?_
 rfl
 refine aT (inj:=fun (s:List D) (w:Option Sl)=>[vv picture,vv y,ow s,w]) (pX 3 (B:=fun (s:List D) (w:Option Sl) x2=>[vv picture,vv y,ow s,vv x2]) nn hpo rfl (iV bx.K (ao bx.K (ag bx G.g50 rfl (fac1 (aa 0))) (aa 1))) ?_ (bp 3 fg.nd) rfl (fun _ _ _=>rfl) (fun s w x2=>?_)) (fun runs2 w1=>?_)
 rfl
 ·refine lP (aK (ft_w (ou (zy (sg 2 bx rfl T.b_len) ae) (lJ (ij bx (ao bx.K (mX 2 bx.K (oJ ae)) ae) (aa 3))))) ?_ ?_ ?_)
  rfl
  ·refine au (S':=fun runs=>[vv picture,vv y,ow runs,vv x2]) (si 2 bx (aY (fac (aa 3) (fac1 (aS bx.K (ao bx.K (mX 2 bx.K (oJ ae)) ae) ae)))) (oJ ae)) ?_ (fun runs=>?_)
   rfl
   exact ay ⟨vv x2,rfl⟩
  ·refine au (S':=fun runs1=>[vv picture,vv y,ow runs1,vv x2]) (fs_A (rF 2 (FAL.out (fac1 (aY (fac (aa 3) (fac1 ae))))))) ?_ (fun runs1=>?_)
   rfl
   exact ay ⟨vv x2,rfl⟩
 refine oK 2 (S':=[vv picture,vv y,vv (.lst runs2),w1]) rfl rfl ?_
 refine aX (ai (aa 2)) ?_
 rfl
theorem mt:OkD P w K mg base C k "like_rows" dQ ["picture"] (a1 (cD t)):=ok1 bY fun picture _ _ _ _ _ _ _ _ bx hpo _=>by
 show FL _ _ [vv picture,nn,nn,nn,nn] _ _ _
 refine au (S':=fun rows=>[vv picture,vv rows,nn,nn,nn]) (bc 1 bY.nd (ag bx G.g50 rfl (fac1 (aa 0)))) ?_ (fun rows=>?_)
 rfl
 refine i9 (S':=[vv picture,vv rows,ow [],nn,nn]) (fs_O (oH 2 bY.nd (FAL.out eB))) ?_ ?_
 rfl
 refine aT (inj:=fun (s:List D) (w:Option Sl×Option Sl)=>[vv picture,vv rows,ow s,w.1,w.2]) (t8 3 4 (B:=fun (s:List D) (w:Option Sl×Option Sl) x x1=>[vv picture,vv rows,ow s,vv x,vv x1]) (nn,nn) hpo rfl (lT bx rfl T.b_enumerate (aa 1)) ?_ (wt 3 4 rfl bY.nd) rfl (fun _ _ _ _=>rfl) (fun s w x x1=>?_)) (fun couples1 w1=>?_)
 rfl
 ·refine au (S':=fun couples=>[vv picture,vv rows,ow couples,vv x,vv x1]) (fs_X (kP 2 bx.K (FAL.out (fac1 (fe_C (kM (N:=["other","y","row","rows"]) (own:=1) (cap:=[3,4,1]) bx (BlkOk.of (by kernel_rfl)) (zQ (rz rfl T.b_range (FAL.out (fac (aS bx.K (aa 3) ae) (fac1 (fe_N (gK bx rfl T.b_len (FAL.out (fac1 (aa 1)))))))))) (dE (by decide)) (fun _ _ _ _ _=>bp 0 (show List.Nodup (α:=Str) ["other","y","row","rows"] by decide +kernel)) (fun _ _ _ _ _=>(ij (aR bx) (ao (aR bx).K (aa 3) (aa 0)) (aa 2))) (fun _ _ _ _ _=>(aY (fac (aa 1) (fac1 (aa 0))))))))))) ?_ (fun couples=>?_)
  rfl
  exact ay ⟨(vv x,vv x1),rfl⟩
 refine oK 2 (S':=[vv picture,vv rows,vv (.lst couples1),w1.1,w1.2]) rfl rfl ?_
 refine aX (ai (aa 2)) ?_
 rfl
theorem pv:OkD P w K mg base C k "is_name" g7 ["thing"] (a1 (gS t)):=ok1 pc fun thing _ _ _ _ _ _ _ _ bx _ _=>by
 show FL _ _ [vv thing] _ _ _
 refine aT (inj:=fun (_:Unit) (w:Unit)=>[vv thing]) (aK (ft_w (kJ (bb (bH (aW bx rfl T.b_isinstance v5 (aa 0) (bO rfl T.b_str (by decide +kernel) rfl)))) (gA (bb (vY ae (fe_N (wC bx rfl T.b_len (FAL.out (fac1 (aa 0))))) (lN T.k_LONGEST_NAME rfl)))))) ?_ ?_ ?_) (fun _ w=>?_)
 rfl
 ·refine aX (ai mP) ?_
  rfl
 ·exact ay ⟨(),rfl⟩
 refine ak (ai (fe_N (tZ bx rfl T.b_all (FAL.out (fac1 (fe_C (em (N:=["sign"]) (own:=1) (cap:=[]) bx (BlkOk.of (by kernel_rfl)) (y8 (aa 0)) (dE (by decide)) (fun _ _ _ _ _=>bp 0 (show List.Nodup (α:=Str) ["sign"] by decide +kernel)) (fun _ _ _ _ _=>(y9 (aa 0) (wD T.s_LETTERS rfl)))))))))) ?_
 rfl
theorem ku:OkD P w K mg base C k "check_name" di ["thing"] (a1 (bU t)):=ok1 kn fun thing _ _ _ _ _ _ _ _ bx _ made=>by
 show FL _ _ [vv thing] _ _ _
 refine lP (aK (bb (bH (ag bx G.g280 rfl (fac1 (aa 0))))) ?_ ?_ ?_)
 rfl
 ·refine pW (fD 11 bx made rfl T.c_NoName T.x_NoName (FAL.out (fac1 bG))) ?_
  rfl
 ·exact ay True.intro
theorem sD:OkD P w K mg base C k "_law_cell" jy ["_law_script","_law_k"] (a2 (fQ t)):=ok2 sC fun Ap At _ _ _ _ _ _ _ _ bx _ _=>by
 show FL _ _ [vv Ap,vv At] _ _ _
 refine aT (inj:=fun (_:Unit) (w:Unit)=>[vv Ap,vv At]) (aK (xN (aa 1) (fe_N (gK bx rfl T.b_len (FAL.out (fac1 (aa 0)))))) ?_ ?_ ?_) (fun _ w=>?_)
 rfl
 ·refine ak (ai (ao bx.K (aa 0) (aa 1))) ?_
  rfl
 ·exact ay ⟨(),rfl⟩
 refine aT (inj:=fun (_:Unit) (w1:Unit)=>[vv Ap,vv At]) (aK (ij bx (aa 0) (c6 eB)) ?_ ?_ ?_) (fun _ w1=>?_)
 rfl
 ·refine aX (ai ae) ?_
  rfl
 ·exact ay ⟨(),rfl⟩
 refine ak (ai (aS bx.K (c5 bx.K (ao bx.K (aa 0) (gJ (aa 1) (fe_N (gK bx rfl T.b_len (FAL.out (fac1 (aa 0))))))) ae) (aa 1))) ?_
 rfl
theorem sE:OkD P w K mg base C k "_law_pick" jz ["_law_script","_law_k","_law_many"] (a3 (fR t)):=ok3 lh fun Ap At AA _ _ _ _ _ _ _ _ bx _ _=>by
 show FL _ _ [vv Ap,vv At,vv AA,nn] _ _ _
 refine au (S':=fun Au=>[vv Ap,vv At,vv AA,vv Au]) (bc 3 lh.nd (gJ (c5 bx.K (aS bx.K (ag bx G.g30 rfl (fac (aa 0) (fac1 (aa 1)))) (c5 bx.K ae (aS bx.K (aa 1) ae))) ae) ae)) ?_ (fun Au=>?_)
 rfl
 refine ak (ai (gJ (gJ (aS bx.K (c5 bx.K (aa 3) (aa 3)) (lL (aa 3) ae)) ae) (aa 2))) ?_
 rfl
theorem sF:OkD P w K mg base C k "_law_tree" jA ["_law_script","_law_at","_law_size"] (a3 (dJ t)):=ok3 lj fun Ap As Ar _ _ _ _ _ _ _ _ bx _ _=>by
 show FL _ _ [vv Ap,vv As,vv Ar,nn] _ _ _
 refine au (S':=fun Aw=>[vv Ap,vv As,vv Ar,vv Aw]) (bc 3 lj.nd (ag bx G.g31 rfl (fac (aa 0) (fac (aa 1) (fac1 ae))))) ?_ (fun Aw=>?_)
 rfl
 refine aT (inj:=fun (_:Unit) (w:Unit)=>[vv Ap,vv As,vv Ar,vv Aw]) (aK (ft_w (kJ (ij bx (aa 2) ae) (gA (xN (aa 3) ae)))) ?_ ?_ ?_) (fun _ w=>?_)
 rfl
 ·refine ak (ai (ao bx.K (c6 (by exact(fac ae (fac ae (fac ae (fac ae (fac ae (fac1 (ag bx G.g31 rfl (fac (aa 0) (fac (aS bx.K (aa 1) ae) (fac1 ae)))))))))))) (ag bx G.g31 rfl (fac (aa 0) (fac (aS bx.K (aa 1) ae) (fac1 ae)))))) ?_
  rfl
 ·exact ay ⟨(),rfl⟩
 refine aT (inj:=fun (_:Unit) (w1:Unit)=>[vv Ap,vv As,vv Ar,vv Aw]) (aK (ij bx (aa 3) ae) ?_ ?_ ?_) (fun _ w1=>?_)
 rfl
 ·refine ak (ai (c5 bx.K (aY (fac1 (ag bx G.g32 rfl (fac (aa 0) (fac (aS bx.K (aa 1) ae) (fac1 (gI (aa 2) ae))))))) ae)) ?_
  rfl
 ·exact ay ⟨(),rfl⟩
 refine ak (ai (fe_N (fB bx rfl T.b_tuple (FAL.out (fac1 (fe_C (em (N:=["_law_k","_law_script","_law_size","_law_at"]) (own:=1) (cap:=[0,2,1]) bx (BlkOk.of (by kernel_rfl)) (uc (gF rfl T.b_range (FAL.out (fac1 ae)))) (dE (by decide)) (fun _ _ _ _ _=>bp 0 (show List.Nodup (α:=Str) ["_law_k","_law_script","_law_size","_law_at"] by decide +kernel)) (fun _ _ _ _ _=>(ag (aR bx) G.g32 rfl (fac (aa 1) (fac (aS (aR bx).K (aS (aR bx).K (c5 (aR bx).K ae (aa 3)) ae) (c5 (aR bx).K ae (aa 0))) (fac1 (gI (aa 2) ae))))))))))))) ?_
 rfl
theorem mw:OkD P w K mg base C k "_law_picture" dR ["_law_script","_law_at","_law_most"] (a3 (cE t)):=ok3 fW fun Ap As AB _ _ _ _ _ _ _ _ bx _ _=>by
 show FL _ _ [vv Ap,vv As,vv AB,nn] _ _ _
 refine au (S':=fun Ar=>[vv Ap,vv As,vv AB,vv Ar]) (bc 3 fW.nd (fe_N (v3 bx rfl T.b_max (FAL.out (by exact(fac ae (fac1 (gI (aa 2) (ao bx.K (c6 (by exact(fac ae (fac ae (fac ae (fac ae (fac ae (fac ae (fac1 ae))))))))) (ag bx G.g31 rfl (fac (aa 0) (fac (aa 1) (fac1 ae))))))))))))) ?_ (fun Ar=>?_)
 rfl
 refine ak (ai (aY (fac (aa 3) (fac1 (ag bx G.g32 rfl (fac (aa 0) (fac (aS bx.K (aa 1) ae) (fac1 (aa 3))))))))) ?_
 rfl
end
def mth (s:Stmt)(j:Nat):Stmt:=match s with
 | .ClassDef _ _ _ b _ _ _ _ _ _ _=>b.getD j (.Pass ⟨0,0,0,0⟩)
 | _=>.Pass ⟨0,0,0,0⟩
abbrev dl:Stmt:=mth (top 34) 0
theorem kx:FnScope ["self","first"] ["self","first"] (defScope dl):=mkSc
abbrev dq:Stmt:=mth (top 34) 1
theorem ky:FnScope ["self"] ["self"] (defScope dq):=mkSc
abbrev cJ:Stmt:=mth (top 34) 2
theorem jB:FnScope ["self","page"] ["self","page"] (defScope cJ):=mkSc
abbrev cK:Stmt:=mth (top 34) 5
theorem jC:FnScope ["self"] ["self"] (defScope cK):=mkSc
abbrev dr:Stmt:=mth (top 40) 0
theorem kz:FnScope ["self"] ["self"] (defScope dr):=mkSc
abbrev cL:Stmt:=mth (top 40) 1
theorem jD:FnScope ["self","held"] ["self","held"] (defScope cL):=mkSc
abbrev bj:Stmt:=mth (top 40) 2
theorem fX:FnScope ["self"] ["self"] (defScope bj):=mkSc
abbrev cM:Stmt:=mth (top 40) 3
theorem dS:FnScope ["self","word","name","picture","held"] ["self","word","name","picture"] (defScope cM):=mkSc
abbrev dU:Stmt:=mth (top 40) 4
theorem du:FnScope ["self","name","picture","told","had"] ["self","name","picture"] (defScope dU):=mkSc
abbrev aU:Stmt:=mth (top 40) 5
theorem eN:FnScope ["self","name"] ["self","name"] (defScope aU):=mkSc
abbrev cN:Stmt:=mth (top 40) 9
theorem jE:FnScope ["self"] ["self"] (defScope cN):=mkSc
abbrev bL:Stmt:=mth (top 40) 10
theorem cU:FnScope ["self","name","told"] ["self","name"] (defScope bL):=mkSc
abbrev cO:Stmt:=mth (top 40) 13
theorem jF:FnScope ["self"] ["self"] (defScope cO):=mkSc
abbrev aC:Stmt:=top 47
theorem fi:FnScope ["_law_script","_law_picture_here","_law_album","_law_good"] ["_law_script"] (defScope aC):=mkSc
abbrev eJ:Stmt:=top 46
theorem aV:FnScope ["_law_deed","_law_told","_law_kept"] ["_law_deed"] (defScope eJ):=mkSc
structure TabQ (P:Program)(w:World)(K:PySem.W.Frag)(mg:Str→Option Value)(base:Heap)(C:Nat→Addr)(k:Nat)(t:Nat→List FF.D→FF.R FF.D)(tr:Nat→Wd→List FF.D→FF.R FF.D)(tw:Nat→Wd→List FF.D→RW):Prop where
 k_Steps:MkW P w K mg base C k 12 "Steps" ["self","first"] (tw M.Steps_init)
 r_Steps_here:MeR P w K mg base C k 12 "here" (tr M.Steps_here)
 m_Steps_go_on:MeW P w K mg base C k 12 "go_on" ["self","page"] (tw M.Steps_go_on)
 r_Steps_marks:MeR P w K mg base C k 12 "marks" (tr M.Steps_marks)
 k_Album:MkW P w K mg base C k 13 "Album" ["self"] (tw M.Album_init)
 m_Album_begin:MeW P w K mg base C k 13 "begin" ["self","held"] (tw M.Album_begin)
 r_Album_pictures:MeR P w K mg base C k 13 "pictures" (tr M.Album_pictures)
 m_Album_go_on:MeW P w K mg base C k 13 "go_on" ["self","word","name","picture"] (tw M.Album_go_on)
 m_Album_put:MeW P w K mg base C k 13 "put" ["self","name","picture"] (tw M.Album_put)
 r_Album_picture_of:MeRs P w K mg base C k 13 "picture_of" ["self","name"] (tr M.Album_picture_of)
 r_Album_names:MeR P w K mg base C k 13 "names" (tr M.Album_names)
 r_Album_same_as:MeRs P w K mg base C k 13 "same_as" ["self","name"] (tr M.Album_same_as)
 r_Album_marks:MeR P w K mg base C k 13 "marks" (tr M.Album_marks)
 nl:NoL K
 td_L_stays:Fd K mg "_law_stays" ["_law_deed"] eJ
section
variable {P:Program}{w:World}{K:PySem.W.Frag}{mg:Str→Option Value}{base:Heap}{C:Nat→Addr}{k:Nat}{t:Nat→List FF.D→FF.R FF.D}{tr:Nat→Wd→List FF.D→FF.R FF.D}{tw:Nat→Wd→List FF.D→RW}(T:Txt K mg C w.params)(G:Tab P w K mg base C k t)(Q:TabQ P w K mg base C k t tr tw)
include T G Q
theorem bF (ds:List FF.D)(rf:Wd→RW):StaysB P w K mg base C (k+1) ["_law_deed","_law_told","_law_kept"] "_law_stays" "_law_deed" eJ ds rf (cStay rf ds (.str "?")):=fun _ _ _ _ _ _ _ _ _ fl bg lam W=>by
 refine wX fun xs c=>⟨fun a=>cSt rf (.str "?") (wput W a (.lst xs)) (.ptr a),?_,fun a h=>zf c h⟩
 show GL _ _ W [vv (.ptr fl),nn,nn] _ _ (lwB (.al W fun a=>.ok (wput W a (.lst xs)) (.ptr a)) (cSt rf (.str "?")))
 refine yY 1 (S':=fun td=>[vv (.ptr fl),vv td,nn]) aV.nd (lam.new _ _ W _ xs rfl c.t0 c.lx c.ld c.lw) rfl (fun _=>rfl) (fun w td=>?_)
 refine wF (inj:=fun (_:Unit) (j:Unit)=>[vv (.ptr fl),vv td,nn]) (wq (fun H0 Z0 wk=>(bb (bH (wW bg.bx wk rfl T.b_isinstance (aa 1) (bO rfl T.b_list (by decide +kernel) rfl)))))) ?_ (fun w1=>?_) (fun w1=>?_) (fun w2 _ j=>?_)
 rfl
 ·refine nv (fun H0 Z0 wk=>ai mP) ?_
  rfl
 ·exact gN ⟨(),rfl⟩
 refine fN (S':=fun kp=>[vv (.ptr fl),vv td,vv kp]) (fun H0 Z0 wk=>bc 2 aV.nd (sy bg.bx wk rfl T.b_list (aa 1))) ?_ (fun kp=>?_)
 rfl
 refine c9 (wG (fun H0 Z0 wk=>aa 1) (fun H0 Z0 wk=>FAL.out (fac1 bG))) ?_ (fun w3=>?_)
 rfl
 refine wE (Aa bg (lam.deed _ _ w3 _ rfl) (fun H0 Z0 W' wk=>aa 2)) ?_
 rfl
theorem cP:OkG P w K mg base C k "__init__" "Steps.__init__" dl ["self","first"] (b2 (bV t tr tw)):=okg2 kx fun W self first _ _ _ _ _ _ _ _ _ bg hpo made=>by
 show GL _ _ W [vv self,vv first] _ _ _
 refine jk bg.K T.n_Steps_pages (aZ (fun H0 Z0 wk=>(c6 (fac1 (aa 1))))) ?_ (fun H0 Z0 W' wk=>(aa 0)) ?_ (fun w1=>?_)
 rfl
 rfl
 refine jk bg.K T.n_Steps_place (aZ (fun H0 Z0 wk=>ae)) ?_ (fun H0 Z0 W' wk=>(aa 0)) ?_ (fun w3=>?_)
 rfl
 rfl
 exact gN True.intro
theorem cQ:OkR P w K mg base C k "here" "Steps.here" dq "self" (r1 (bW t tr)):=okr1 ky fun W self _ _ _ _ _ _ _ _ bx wk=>by
 show FL _ _ [vv self] _ _ _
 refine ak (ai (ao bx.K (b7 bx.K wk T.n_Steps_pages (aa 0)) (b7 bx.K wk T.n_Steps_place (aa 0)))) ?_
 rfl
theorem ci:OkG P w K mg base C k "go_on" "Steps.go_on" cJ ["self","page"] (b2 (bq t tr tw)):=okg2 jB fun W self page _ _ _ _ _ _ _ _ _ bg hpo made=>by
 show GL _ _ W [vv self,vv page] _ _ _
 refine jk bg.K T.n_Steps_place (aZ (fun H0 Z0 wk=>(aS bg.bx.K (b7 bg.bx.K wk T.n_Steps_place (aa 0)) ae))) ?_ (fun H0 Z0 W' wk=>(aa 0)) ?_ (fun w1=>?_)
 rfl
 rfl
 refine jk bg.K T.n_Steps_pages (aZ (fun H0 Z0 wk=>(aS bg.bx.K (zc bg.bx.K (b7 bg.bx.K wk T.n_Steps_pages (aa 0)) zA (zB (b7 bg.bx.K wk T.n_Steps_place (aa 0)))) (c6 (fac1 (aa 1)))))) ?_ (fun H0 Z0 W' wk=>(aa 0)) ?_ (fun w3=>?_)
 rfl
 rfl
 exact gN True.intro
theorem cj:OkR P w K mg base C k "marks" "Steps.marks" cK "self" (r1 (br t tr)):=okr1 jC fun W self _ _ _ _ _ _ _ _ bx wk=>by
 show FL _ _ [vv self] _ _ _
 refine ak (ai (aY (fac (b7 bx.K wk T.n_Steps_place (aa 0)) (fac1 (gI (gI (fe_N (gK bx rfl T.b_len (FAL.out (fac1 (b7 bx.K wk T.n_Steps_pages (aa 0)))))) ae) (b7 bx.K wk T.n_Steps_place (aa 0))))))) ?_
 rfl
theorem cR:OkG P w K mg base C k "__init__" "Album.__init__" dr ["self"] (b1 (bX t tr tw)):=okg1 kz fun W self _ _ _ _ _ _ _ _ _ bg hpo made=>by
 show GL _ _ W [vv self] _ _ _
 refine c9 (fE bg Q.m_Album_begin T.o_Album (fun H0 Z0 wk=>(aa 0)) (fun H0 Z0 wk=>(FAL.out (fac1 uJ))) (fun S ds h=>a7 h)) ?_ (fun w=>?_)
 rfl
 exact gN True.intro
theorem cm:OkG P w K mg base C k "begin" "Album.begin" cL ["self","held"] (b2 (bu t tr tw)):=okg2 jD fun W self held _ _ _ _ _ _ _ _ _ bg hpo made=>by
 show GL _ _ W [vv self,vv held] _ _ _
 refine jk bg.K T.n_Album_steps (wp bg Q.k_Steps rfl (fun H0 Z0 wk=>(FAL.out (fac1 (aY (fac bG (fac1 (aa 1))))))) (fun S ds h=>a7 h)) ?_ (fun H0 Z0 W' wk=>(aa 0)) ?_ (fun w1=>?_)
 rfl
 rfl
 exact gN True.intro
theorem ba:OkR P w K mg base C k "pictures" "Album.pictures" bj "self" (r1 (aJ t tr)):=okr1 fX fun W self _ _ _ _ _ _ _ _ bx wk=>by
 show FL _ _ [vv self] _ _ _
 refine ak (ai (ao bx.K (b8 bx wk Q.r_Steps_here (b7 bx.K wk T.n_Album_steps (aa 0))) ae)) ?_
 rfl
theorem cn:OkG P w K mg base C k "go_on" "Album.go_on" cM ["self","word","name","picture"] (b4 (bv t tr tw)):=okg4 dS fun W self word name picture _ _ _ _ _ _ _ _ _ bg hpo made=>by
 show GL _ _ W [vv self,vv word,vv name,vv picture,nn] _ _ _
 refine fN (S':=fun held=>[vv self,vv word,vv name,vv picture,dc held]) (fun H0 Z0 wk=>(sx (uK 4 bg.bx dS.nd rfl T.b_dict (FAL.out (fac1 (b8 bg.bx wk Q.r_Album_pictures (aa 0))))))) ?_ (fun held=>?_)
 rfl
 refine fN (S':=fun held1=>[vv self,vv word,vv name,vv picture,dc held1]) (fun H0 Z0 wk=>(uj 4 bg.bx (aa 3) (aa 2))) ?_ (fun held1=>?_)
 rfl
 refine wS 4 (S':=[vv self,vv word,vv name,vv picture,vv (dicD held1)]) rfl rfl ?_
 refine c9 (fE bg Q.m_Steps_go_on T.o_Steps (fun H0 Z0 wk=>(b7 bg.bx.K wk T.n_Album_steps (aa 0))) (fun H0 Z0 wk=>(FAL.out (fac1 (aY (fac (aa 1) (fac1 (aa 4))))))) (fun S ds h=>a7 h)) ?_ (fun w=>?_)
 rfl
 exact gN True.intro
theorem dv:OkG P w K mg base C k "put" "Album.put" dU ["self","name","picture"] (b3 (cF t tr tw)):=okg3 du fun W self name picture _ _ _ _ _ _ _ _ _ bg hpo made=>by
 show GL _ _ W [vv self,vv name,vv picture,nn,nn] _ _ _
 refine fN (S':=fun told=>[vv self,vv name,vv picture,vv told,nn]) (fun H0 Z0 wk=>bc 3 du.nd (ag bg.bx G.g29 rfl (fac1 (aa 2)))) ?_ (fun told=>?_)
 rfl
 refine c9 (aZ (fun H0 Z0 wk=>(ag bg.bx G.g334 rfl (fac1 (aa 1))))) ?_ (fun w=>?_)
 rfl
 refine fN (S':=fun had=>[vv self,vv name,vv picture,vv told,vv had]) (fun H0 Z0 wk=>bc 4 du.nd (wO bg.bx (aa 1) (b8 bg.bx wk Q.r_Album_pictures (aa 0)))) ?_ (fun had=>?_)
 rfl
 refine c9 (fE bg Q.m_Album_go_on T.o_Album (fun H0 Z0 wk=>(aa 0)) (fun H0 Z0 wk=>(FAL.out (fac bG (fac (aa 1) (fac1 (aa 3)))))) (fun S ds h=>a7 h)) ?_ (fun w1=>?_)
 rfl
 refine nv (fun H0 Z0 wk=>ai (aa 4)) ?_
 rfl
theorem aM:OkRs P w K mg base C k "picture_of" "Album.picture_of" aU ["self","name"] (r2 (aB t tr)):=okrs2 eN fun W self name _ _ _ _ _ _ _ _ bx wk hpo made=>by
 show FL _ _ [vv self,vv name] _ _ _
 refine aT (inj:=fun (_:Unit) (w:Unit)=>[vv self,vv name]) (aK (ft_w (kJ (bb (bH (ag bx G.g280 rfl (fac1 (aa 1))))) (gA (uG bx (aa 1) (b8 bx wk Q.r_Album_pictures (aa 0)))))) ?_ ?_ ?_) (fun _ w=>?_)
 rfl
 ·refine pW (fD 11 bx made rfl T.c_NoName T.x_NoName (FAL.out (fac1 bG))) ?_
  rfl
 ·exact ay ⟨(),rfl⟩
 refine ak (ai (wM bx (b8 bx wk Q.r_Album_pictures (aa 0)) (aa 1))) ?_
 rfl
theorem cq:OkR P w K mg base C k "names" "Album.names" cN "self" (r1 (bw t tr)):=okr1 jE fun W self _ _ _ _ _ _ _ _ bx wk=>by
 show FL _ _ [vv self] _ _ _
 refine ak (ai (fe_N (oY bx rfl T.b_sorted (FAL.out (fac1 (b8 bx wk Q.r_Album_pictures (aa 0))))))) ?_
 rfl
theorem bn:OkRs P w K mg base C k "same_as" "Album.same_as" bL ["self","name"] (r2 (aQ t tr)):=okrs2 cU fun W self name _ _ _ _ _ _ _ _ bx wk hpo made=>by
 show FL _ _ [vv self,vv name,nn] _ _ _
 refine au (S':=fun told=>[vv self,vv name,vv told]) (bc 2 cU.nd (ux bx wk Q.r_Album_picture_of (aa 0) (FAL.out (fac1 (aa 1))) (fun S ds h=>a7 h))) ?_ (fun told=>?_)
 rfl
 refine ak (ai (fe_C (kM (N:=["other","name","told","self"]) (own:=1) (cap:=[1,2,0]) bx (BlkOk.of (by kernel_rfl)) (iV bx.K (b8 bx wk Q.r_Album_names (aa 0))) (dE (by decide)) (fun _ _ _ _ _=>bp 0 (show List.Nodup (α:=Str) ["other","name","told","self"] by decide +kernel)) (fun _ _ _ _ _=>(ft_w (ou (t6 (aR bx) (aa 0) (aa 1)) (lJ (ij (aR bx) (ux (aR bx) wk Q.r_Album_picture_of (aa 3) (FAL.out (fac1 (aa 0))) (fun S ds h=>a7 h)) (aa 2)))))) (fun _ _ _ _ _=>(aa 0))))) ?_
 rfl
theorem cr:OkR P w K mg base C k "marks" "Album.marks" cO "self" (r1 (bz t tr)):=okr1 jF fun W self _ _ _ _ _ _ _ _ bx wk=>by
 show FL _ _ [vv self] _ _ _
 refine ak (ai (b8 bx wk Q.r_Steps_marks (b7 bx.K wk T.n_Album_steps (aa 0)))) ?_
 rfl
theorem py:OkGL P w K mg base C (k+2) 0 "law" aC ["_law_script"] (b1 (eI t tr tw)):=okgl1 fi fun W Ap _ _ _ _ _ _ _ _ _ bg2 hpo made lx=>by
 have bg:=bg2.mono (Nat.le_add_right k 2)
 show GL _ _ W [vv Ap,nn,nn,nn] _ _ _
 refine zb 1 2 (S':=fun Ao Aq=>[vv Ap,vv Ao,vv Aq,nn]) bg fi.nd (wY (aZ (fun H0 Z0 wk=>(ag bg.bx G.g33 rfl (fac (aa 0) (fac ae (fac1 ae)))))) (fun w1=>(uy bg Q.k_Album rfl rfl))) ?_ (fun _ _=>rfl) (fun w Ao Aq=>?_)
 rfl
 refine c9 (fE bg Q.m_Album_put T.o_Album (fun H0 Z0 wk=>(aa 2)) (fun H0 Z0 wk=>(FAL.out (fac bG (fac1 (aa 1))))) (fun S ds h=>a7 h)) ?_ (fun w3=>?_)
 rfl
 refine c9 (fE bg Q.m_Album_put T.o_Album (fun H0 Z0 wk=>(aa 2)) (fun H0 Z0 wk=>(FAL.out (fac bG (fac1 (aa 1))))) (fun S ds h=>a7 h)) ?_ (fun w4=>?_)
 rfl
 refine wK 3 (S':=fun AC=>[vv Ap,vv Ao,vv Aq,ow [AC]]) fi.nd (dH (k:=k) (fr:=["_law_picture_here"]) (ds:=[Ao]) (rf:=(fun w5=>rwR w5 (t F.ab [Ao]))) (lt:=cStay (fun w5=>rwR w5 (t F.ab [Ao])) [Ao] (.str "?")) 0 bg2 lx Q.nl Q.td_L_stays aV rfl rfl (.cons 1 rfl rfl rfl rfl .nil) ⟨rfl,rfl,rfl,by decide,fun _ _ _ _=>rfl⟩ (fun _ _ _ _ _ _ _ _ _ _ w5 bg=>jo (aZ (fun H0 Z0 wk=>(ag bg.bx G.g76 rfl (fac1 (aa 0))))) rfl) (bF T G Q [Ao] (fun w5=>rwR w5 (t F.ab [Ao])))) (fun _=>rfl) (fun w6 AC=>?_)
 refine iJ 3 (S':=fun Ax=>[vv Ap,vv Ao,vv Aq,ow Ax]) rfl (dH (k:=k) (fr:=["_law_picture_here"]) (ds:=[Ao]) (rf:=(fun w7=>rwR w7 (t F.ag [Ao,(.int 0)]))) (lt:=cStay (fun w7=>rwR w7 (t F.ag [Ao,(.int 0)])) [Ao] (.str "?")) 0 bg2 lx Q.nl Q.td_L_stays aV rfl rfl (.cons 1 rfl rfl rfl rfl .nil) ⟨rfl,rfl,rfl,by decide,fun _ _ _ _=>rfl⟩ (fun _ _ _ _ _ _ _ _ _ _ w7 bg=>jo (aZ (fun H0 Z0 wk=>(ag bg.bx G.g79 rfl (fac (aa 0) (fac1 ae))))) rfl) (bF T G Q [Ao] (fun w7=>rwR w7 (t F.ag [Ao,(.int 0)])))) (fun _=>rfl) (fun w8 Ax=>?_)
 refine iJ 3 (S':=fun Ay=>[vv Ap,vv Ao,vv Aq,ow Ay]) rfl (dH (k:=k) (fr:=["_law_picture_here"]) (ds:=[Ao]) (rf:=(fun w9=>rwR w9 (t F.ac [Ao]))) (lt:=cStay (fun w9=>rwR w9 (t F.ac [Ao])) [Ao] (.str "?")) 0 bg2 lx Q.nl Q.td_L_stays aV rfl rfl (.cons 1 rfl rfl rfl rfl .nil) ⟨rfl,rfl,rfl,by decide,fun _ _ _ _=>rfl⟩ (fun _ _ _ _ _ _ _ _ _ _ w9 bg=>jo (aZ (fun H0 Z0 wk=>(ag bg.bx G.g80 rfl (fac1 (aa 0))))) rfl) (bF T G Q [Ao] (fun w9=>rwR w9 (t F.ac [Ao])))) (fun _=>rfl) (fun w10 Ay=>?_)
 refine iJ 3 (S':=fun Az=>[vv Ap,vv Ao,vv Aq,ow Az]) rfl (dH (k:=k) (fr:=["_law_album"]) (ds:=[Aq]) (rf:=(fun w11=>rwR w11 (rM 13 "names" w11 Aq (tr M.Album_names w11 [Aq])))) (lt:=cStay (fun w11=>rwR w11 (rM 13 "names" w11 Aq (tr M.Album_names w11 [Aq]))) [Aq] (.str "?")) 0 bg2 lx Q.nl Q.td_L_stays aV rfl rfl (.cons 2 rfl rfl rfl rfl .nil) ⟨rfl,rfl,rfl,by decide,fun _ _ _ _=>rfl⟩ (fun _ _ _ _ _ _ _ _ _ _ w11 bg=>jo (aZ (fun H0 Z0 wk=>(b8 bg.bx wk Q.r_Album_names (aa 0)))) rfl) (bF T G Q [Aq] (fun w11=>rwR w11 (rM 13 "names" w11 Aq (tr M.Album_names w11 [Aq]))))) (fun _=>rfl) (fun w12 Az=>?_)
 refine iJ 3 (S':=fun Av=>[vv Ap,vv Ao,vv Aq,ow Av]) rfl (dH (k:=k) (fr:=["_law_album"]) (ds:=[Aq]) (rf:=(fun w13=>rwR w13 (rM 13 "same_as" w13 Aq ((rL [(.ok (.str "a"))]).bind fun ds=>tr M.Album_same_as w13 (Aq::ds))))) (lt:=cStay (fun w13=>rwR w13 (rM 13 "same_as" w13 Aq ((rL [(.ok (.str "a"))]).bind fun ds=>tr M.Album_same_as w13 (Aq::ds)))) [Aq] (.str "?")) 0 bg2 lx Q.nl Q.td_L_stays aV rfl rfl (.cons 2 rfl rfl rfl rfl .nil) ⟨rfl,rfl,rfl,by decide,fun _ _ _ _=>rfl⟩ (fun _ _ _ _ _ _ _ _ _ _ w13 bg=>jo (aZ (fun H0 Z0 wk=>(ux bg.bx wk Q.r_Album_same_as (aa 0) (FAL.out (fac1 bG)) (fun S ds h=>a7 h)))) rfl) (bF T G Q [Aq] (fun w13=>rwR w13 (rM 13 "same_as" w13 Aq ((rL [(.ok (.str "a"))]).bind fun ds=>tr M.Album_same_as w13 (Aq::ds)))))) (fun _=>rfl) (fun w14 Av=>?_)
 refine yX 3 (S':=[vv Ap,vv Ao,vv Aq,vv (.lst Av)]) rfl rfl ?_
 refine ql (fun H0 Z0 wk=>ai (eT (tW bg.bx (aa 3) (c5 bg.bx.K (c6 (fac1 mP)) ae)) (eT (tW bg.bx (b8 bg.bx wk Q.r_Album_names (aa 2)) (c6 (fac bG (fac1 bG)))) (gC (tW bg.bx (b8 bg.bx wk Q.r_Album_marks (aa 2)) (aY (fac ae (fac1 ae)))))))) ?_
 rfl
end
end Lw
end
noncomputable section
section
namespace Lw
open PySem FF
inductive Q (α:Type) where
 | lf (a:α) | nd (a b c d:Q α)
 deriving DecidableEq
section
variable {α β γ:Type}
def Q.dep:Q α→Nat
 | .lf _=>0
 | .nd a b c d=>1+max (max a.dep b.dep) (max c.dep d.dep)
def Q.at:Nat→Q α→Nat→Nat→α
 | _,.lf a,_,_=>a
 | 0,.nd a _ _ _,x,y=>Q.at 0 a x y
 | n+1,.nd a b c d,x,y=>if y < 2^n then (if x < 2^n then a.at n x y else b.at n (x - 2^n) y) else (if x < 2^n then c.at n x (y - 2^n) else d.at n (x - 2^n) (y - 2^n))
def Q.All (p:α→Prop):Q α→Prop
 | .lf a=>p a
 | .nd a b c d=>a.All p∧b.All p∧c.All p∧d.All p
def sh (f:Nat→Nat→α)(a b:Nat):Nat→Nat→α:=fun x y=>f (x+a) (y+b)
@[simp] theorem qy (n:Nat)(a:α)(x y:Nat):Q.at n (.lf a) x y=a:=by cases n<;>rfl
variable [DecidableEq α][DecidableEq β][DecidableEq γ]
def put4 (a b c d:Q α):Q α:=match a with
 | .lf v=>if b=.lf v∧c=.lf v∧d=.lf v then .lf v else .nd a b c d
 | _=>.nd a b c d
def T (f:Nat→Nat→α):Nat→Q α
 | 0=>.lf (f 0 0)
 | n+1=>put4 (T f n) (T (sh f (2^n) 0) n) (T (sh f 0 (2^n)) n) (T (sh f (2^n) (2^n)) n)
def Q.lean:Q α→Q α
 | .lf a=>.lf a
 | .nd a b c d=>put4 a.lean b.lean c.lean d.lean
theorem fY (n:Nat):(2^(n+1):Nat)=2^n+2^n:=by rw[Nat.pow_succ];omega
theorem sG (v:α):put4 (.lf v) (.lf v) (.lf v) (.lf v)=.lf v:=by simp[put4]
theorem xc (n:Nat)(a b c d:Q α)(x y:Nat):(put4 a b c d).at (n+1) x y=(Q.nd a b c d).at (n+1) x y:=by
 unfold put4
 split
 ·split
  ·rename_i h
   obtain⟨rfl,rfl,rfl⟩:=h
   simp only[Q.at,qy,ite_self]
  ·rfl
 ·rfl
theorem uS (n:Nat)(a b c d:Q α)(ha:a.dep≤n)(hb:b.dep≤n)(hc:c.dep≤n)(hd:d.dep≤n):(put4 a b c d).dep≤n+1:=by
 unfold put4
 split
 ·split
  ·exact Nat.zero_le _
  ·simp only[Q.dep] at *;omega
 ·simp only[Q.dep] at *;omega
theorem bB:∀ (n:Nat) (f g:Nat→Nat→α),(∀ x y,x < 2^n→y < 2^n→f x y=g x y)→T f n=T g n
 | 0,f,g,h=>by rw[T,T,h 0 0 (by decide) (by decide)]
 | n+1,f,g,h=>by
  rw[fY]at h
  rw[T,T,bB n f g fun x y hx hy=>h x y (by omega) (by omega),bB n (sh f (2^n) 0) (sh g (2^n) 0) fun x y hx hy=>h _ _ (by omega) (by omega),
   bB n (sh f 0 (2^n)) (sh g 0 (2^n)) fun x y hx hy=>h _ _ (by omega) (by omega),bB n (sh f (2^n) (2^n)) (sh g (2^n) (2^n)) fun x y hx hy=>h _ _ (by omega) (by omega)]
theorem qA (v:α):∀ n,T (fun _ _=>v) n=.lf v
 | 0=>rfl
 | n+1=>by
  rw[T]
  show put4 (T (fun _ _=>v) n) (T (fun _ _=>v) n) (T (fun _ _=>v) n) (T (fun _ _=>v) n)=_
  rw[qA v n,sG]
theorem lm:∀ (n:Nat) (f:Nat→Nat→α),(T f n).dep≤n
 | 0,f=>Nat.le_refl _
 | n+1,f=>uS n _ _ _ _ (lm n _) (lm n _) (lm n _) (lm n _)
theorem T_at:∀ (n:Nat) (f:Nat→Nat→α) (x y:Nat),x < 2^n→y < 2^n→(T f n).at n x y=f x y
 | 0,f,x,y,hx,hy=>by
  have:x=0:=by simp at hx;exact hx
  have:y=0:=by simp at hy;exact hy
  subst x;subst y
  rfl
 | n+1,f,x,y,hx,hy=>by
  rw[fY]at hx hy
  rw[T,xc,Q.at]
  by_cases h1:y < 2^n
  ·rw[if_pos h1]
   by_cases h2:x < 2^n
   ·rw[if_pos h2,T_at n f x y h2 h1]
   ·rw[if_neg h2,T_at n _ _ _ (by omega) h1]
    unfold sh
    rw[show x - 2^n+2^n=x by omega,Nat.add_zero]
  ·rw[if_neg h1]
   by_cases h2:x < 2^n
   ·rw[if_pos h2,T_at n _ _ _ h2 (by omega)]
    unfold sh
    rw[show y - 2^n+2^n=y by omega,Nat.add_zero]
   ·rw[if_neg h2,T_at n _ _ _ (by omega) (by omega)]
    unfold sh
    rw[show x - 2^n+2^n=x by omega,show y - 2^n+2^n=y by omega]
theorem nN {p:α→Prop}:∀ (n:Nat) (f:Nat→Nat→α),(∀ x y,x < 2^n→y < 2^n→p (f x y))→(T f n).All p
 | 0,f,h=>h 0 0 (by decide) (by decide)
 | n+1,f,h=>by
  rw[fY]at h
  have ha:=nN n f fun x y hx hy=>h x y (by omega) (by omega)
  have hb:=nN n (sh f (2^n) 0) fun x y hx hy=>h _ _ (by omega) (by omega)
  have hc:=nN n (sh f 0 (2^n)) fun x y hx hy=>h _ _ (by omega) (by omega)
  have hd:=nN n (sh f (2^n) (2^n)) fun x y hx hy=>h _ _ (by omega) (by omega)
  rw[T]
  unfold put4
  split
  ·rename_i v e
   split
   ·rw[e]at ha;exact ha
   ·exact⟨ha,hb,hc,hd⟩
  ·exact⟨ha,hb,hc,hd⟩
theorem hG {p:α→Prop}:∀ (n:Nat) (t:Q α) (x y:Nat),t.All p→p (t.at n x y)
 | n,.lf a,x,y,h=>by rw[qy];exact h
 | 0,.nd a _ _ _,x,y,h=>hG 0 a x y h.1
 | n+1,.nd a b c d,x,y,h=>by
  rw[Q.at]
  split
  ·split
   ·exact hG n a _ _ h.1
   ·exact hG n b _ _ h.2.1
  ·split
   ·exact hG n c _ _ h.2.2.1
   ·exact hG n d _ _ h.2.2.2
theorem uT (n:Nat)(a b c d:Q α):T ((Q.nd a b c d).at (n+1)) (n+1)=put4 (T (a.at n) n) (T (b.at n) n) (T (c.at n) n) (T (d.at n) n):=by
 rw[T]
 congr 1
 ·exact bB n _ _ fun x y hx hy=>by rw[Q.at,if_pos hy,if_pos hx]
 ·exact bB n _ _ fun x y hx hy=>by
   unfold sh
   rw[Q.at,if_pos (by omega),if_neg (by omega)]
   simp
 ·exact bB n _ _ fun x y hx hy=>by
   unfold sh
   rw[Q.at,if_neg (by omega),if_pos (by omega)]
   simp
 ·exact bB n _ _ fun x y hx hy=>by
   unfold sh
   rw[Q.at,if_neg (by omega),if_neg (by omega)]
   simp
theorem hU:∀ (n:Nat) (t:Q α),t.dep≤n→t.lean=T (t.at n) n
 | n,.lf a,_=>by
  rw[Q.lean]
  exact(qA a n).symm.trans (bB _ _ _ fun x y _ _=>(qy _ _ _ _).symm)
 | 0,.nd a b c d,h=>by simp[Q.dep]at h
 | n+1,.nd a b c d,h=>by
  have h':1+max (max a.dep b.dep) (max c.dep d.dep)≤n+1:=h
  rw[uT,Q.lean,hU n a (by omega),hU n b (by omega),hU n c (by omega),hU n d (by omega)]
theorem fZ {n:Nat}{t:Q α}(h:t.dep≤n):t.lean.dep≤n:=by rw[hU n t h];exact lm n _
structure En (e:α→D):Prop where
 tup:∀ a,isTup (e a)=false
 gd:∀ n a,good n (e a)=true
 eq:∀ a b,eqD (e a) (e b)=decide (a=b)
 tD:∀ a xs,eqD (e a) (.tup xs)=false
 dT:∀ a xs,eqD (.tup xs) (e a)=false
end
section
variable {α:Type}[DecidableEq α]{e:α→D}
def Q.d (e:α→D):Q α→D
 | .lf a=>e a
 | .nd a b c d=>.tup [a.d e,b.d e,c.d e,d.d e]
theorem Q.gd (E:En e):∀ (n:Nat) (t:Q α),t.dep≤n→good n (t.d e)=true
 | n,.lf a,_=>E.gd n a
 | 0,.nd a b c d,h=>by simp[Q.dep]at h
 | n+1,.nd a b c d,h=>by
  have h':1+max (max a.dep b.dep) (max c.dep d.dep)≤n+1:=h
  rw[Q.d,good,goods,goods,goods,goods,goods,Q.gd E n a (by omega),Q.gd E n b (by omega),Q.gd E n c (by omega),Q.gd E n d (by omega)]
  rfl
theorem Q.eqd (E:En e):∀ (s t:Q α),eqD (s.d e) (t.d e)=decide (s=t)
 | .lf a,.lf b=>by rw[Q.d,Q.d,E.eq];simp
 | .lf a,.nd ..=>by rw[Q.d,Q.d,E.tD];simp
 | .nd ..,.lf b=>by rw[Q.d,Q.d,E.dT];simp
 | .nd a b c d,.nd a' b' c' d'=>by
  rw[Q.d,Q.d,eqD,eqDs,eqDs,eqDs,eqDs,eqDs,Q.eqd E a a',Q.eqd E b b',Q.eqd E c c',Q.eqd E d d']
  simp[Bool.eq_iff_iff]
end
theorem En.int:En FF.D.int:=⟨fun _=>rfl,fun n a=>by cases n<;>rfl,fun a b=>by simp[eqD,Bool.beq_eq_decide_eq],fun a xs=>by simp[eqD],fun a xs=>by simp[eqD]⟩
theorem jG {xs:List D}(h:xs.length≤16777216):sq (.tup xs)=.ok xs:=by unfold sq asSeq;rw[R.bind_ok,if_pos h]
theorem uU {xs:List D}(h:xs.length≤16777216):sq (.lst xs)=.ok xs:=by unfold sq asSeq;rw[R.bind_ok,if_pos h]
theorem sq4 (a b c d:D):sq (.tup [a,b,c,d])=.ok [a,b,c,d]:=jG (by simp)
theorem uV {e:D→R D}{f:D→D}:∀ {xs:List D},(∀ d∈xs,e d=.ok (f d))→cGo (fun _=>.ok true) e xs=.ok (xs.map f)
 | [],_=>rfl
 | x::xs,h=>by
  rw[cGo]
  simp only
  rw[h x (.head _),uV fun d hd=>h d (.tail _ hd)]
  rfl
theorem xg {e:D→R D}{xs:List D}(f:D→D)(h:∀ d∈xs,e d=.ok (f d)):cMap e xs=.ok (.lst (xs.map f)):=by
 unfold cMap;rw[uV h];rfl
theorem qB {α:Type}{e:D→R D}{l:List α}(c g:α→D)(h:∀ a∈l,e (c a)=.ok (g a)):cMap e (l.map c)=.ok (.lst (l.map g)):=by
 unfold cMap
 have:∀ {l:List α},(∀ a∈l,e (c a)=.ok (g a))→cGo (fun _=>.ok true) e (l.map c)=.ok (l.map g):=by
  intro l
  induction l with
  | nil=>intro _;rfl
  | cons a l ih =>
   intro h
   rw[List.map_cons,cGo]
   grind
 rw[this h];rfl
theorem cMap4 {e:D→R D}{a b c d a' b' c' d':D}(ha:e a=.ok a')(hb:e b=.ok b')(hc:e c=.ok c')(hd:e d=.ok d'):cMap e [a,b,c,d]=.ok (.lst [a',b',c',d']):=by
 unfold cMap;simp only[cGo,ha,hb,hc,hd];rfl
theorem xh {α:Type}{c:D→R Bool}{e:D→R D}{l:List α}(k g:α→D)(p:α→Bool)(h:∀ a∈l,c (k a)=.ok (p a)∧(p a=true→e (k a)=.ok (g a))):cFil c e (l.map k)=.ok (.lst ((l.filter p).map g)):=by
 unfold cFil
 have:∀ {l:List α},(∀ a∈l,c (k a)=.ok (p a)∧(p a=true→e (k a)=.ok (g a)))→cGo c e (l.map k)=.ok ((l.filter p).map g):=by
  intro l
  induction l with
  | nil=>intro _;rfl
  | cons a l ih =>
   intro h
   have h1:=h a (.head _)
   have h2:=ih fun b hb=>h b (.tail _ hb)
   rw[List.map_cons,cGo,h1.1]
   grind
 rw[this h];rfl
@[simp] theorem pz (xs:List D):dTuple [.lst xs]=.ok (.tup xs):=rfl
@[simp] theorem pA (xs:List D):dTuple [.tup xs]=.ok (.tup xs):=rfl
@[simp] theorem sH (xs:List D):dList [.tup xs]=.ok (.lst xs):=rfl
@[simp] theorem sI (xs:List D):dList [.lst xs]=.ok (.lst xs):=rfl
@[simp] theorem f8 (xs:List D):dLen [.tup xs]=.ok (.int xs.length):=rfl
@[simp] theorem nO (xs:List D):dLen [.lst xs]=.ok (.int xs.length):=rfl
@[simp] theorem aN (a b:Int):dAdd (.int a) (.int b)=.ok (.int (a+b)):=rfl
@[simp] theorem dW (a b:Int):dSub (.int a) (.int b)=.ok (.int (a - b)):=rfl
@[simp] theorem xi (a b:Int):dLt (.int a) (.int b)=.ok (.bl (decide (a < b))):=rfl
@[simp] theorem xj (a b:Int):dLe (.int a) (.int b)=.ok (.bl (decide (a≤b))):=rfl
@[simp] theorem qC (a b:Int):dGt (.int a) (.int b)=.ok (.bl (decide (b < a))):=rfl
@[simp] theorem xk (a b:Int):dGe (.int a) (.int b)=.ok (.bl (decide (b≤a))):=rfl
@[simp] theorem mx (a b:Int):dEq (.int a) (.int b)=.ok (.bl (decide (a=b))):=by
 show R.ok (D.bl (a==b))=_
 rw[Bool.beq_eq_decide_eq]
@[simp] theorem my (a b:Int):dNf (.int a) (.int b)=.ok (.bl (!decide (a=b))):=by
 show R.ok (D.bl (!(a==b)))=_
 rw[Bool.beq_eq_decide_eq]
theorem cu {a b:Int}(h:(-(2^64) < b∧b < 2^64)∨(-(2^64) < a∧a < 2^64)):dMul (.int a) (.int b)=.ok (.int (a*b)):=by
 have:cMul a b=true:=by unfold cMul;simp;rcases h with h | h;exact .inr h;exact .inl h
 show (if cMul a b=true then R.ok (D.int (a*b)) else R.stuck)=_
 rw[if_pos this]
theorem nQ {a b:Int}(h0:0 < b)(h1:b < 1073741824):dDiv (.int a) (.int b)=.ok (.int (a/b)):=by
 have:cDiv a b=true:=by unfold cDiv;simp;exact⟨h0,h1⟩
 show (if cDiv a b=true then R.ok (D.int (a/b)) else R.stuck)=_
 rw[if_pos this]
theorem dX {a b:Int}(h0:0 < b):dMod (.int a) (.int b)=.ok (.int (a%b)):=by
 show (if decide (0 < b)=true then R.ok (D.int (a%b)) else R.stuck)=_
 grind
theorem f9 {x y:D}(hx:good 60 x=true)(hy:good 60 y=true):dEq x y=.ok (.bl (eqD x y)):=by unfold dEq;rw[if_pos ⟨hx,hy⟩]
theorem lD {α:Type}{xs:List α}{i:Nat}{x:α}(h:xs[i]?=some x):L2.atI xs ((i:Nat):Int)=some x:=by
 have hi:i < xs.length:=(List.getElem?_eq_some_iff.mp h).1
 unfold L2.atI L2.ixN
 grind
theorem ixT {xs:List D}{i:Nat}{x:D}(h:xs[i]?=some x):dIx (.tup xs) (.int ((i:Nat):Int))=.ok x:=by
 show (match L2.atI xs (i:Int) with | some d=>R.ok d | none=>R.stuck)=_
 rw[lD h]
theorem ixL {xs:List D}{i:Nat}{x:D}(h:xs[i]?=some x):dIx (.lst xs) (.int ((i:Nat):Int))=.ok x:=by
 show (match L2.atI xs (i:Int) with | some d=>R.ok d | none=>R.stuck)=_
 rw[lD h]
@[simp] theorem ix20 (a b:D):dIx (.tup [a,b]) (.int 0)=.ok a:=rfl
@[simp] theorem ix21 (a b:D):dIx (.tup [a,b]) (.int 1)=.ok b:=rfl
@[simp] theorem ix40 (a b c d:D):dIx (.tup [a,b,c,d]) (.int 0)=.ok a:=rfl
@[simp] theorem ix41 (a b c d:D):dIx (.tup [a,b,c,d]) (.int 1)=.ok b:=rfl
@[simp] theorem ix42 (a b c d:D):dIx (.tup [a,b,c,d]) (.int 2)=.ok c:=rfl
@[simp] theorem ix43 (a b c d:D):dIx (.tup [a,b,c,d]) (.int 3)=.ok d:=rfl
@[simp] theorem hV (xs:List D):dIsA qTup (.tup xs)=.ok (.bl true):=rfl
@[simp] theorem sJ (i:Int):dIsA qTup (.int i)=.ok (.bl false):=rfl
theorem jH {α:Type}(p:α→Bool):∀ l:List α,boolsD (l.map fun d=>D.bl (p d))=some (l.map p)
 | []=>rfl
 | a::r=>by simp only[List.map_cons,boolsD,jH p r,Option.map_some]
theorem uW {α:Type}(p:α→Bool)(l:List α):dAll [.lst (l.map fun d=>D.bl (p d))]=.ok (.bl (l.all p)):=by
 show (match boolsD (l.map fun d=>D.bl (p d)) with | some bs=>R.ok (D.bl (bs.all id)) | none=>R.stuck)=_
 rw[jH]
 simp[List.all_map,Function.comp_def]
theorem qD (f:Int→Int→Bool)(F' G':D→D→R D){x y w:Int}{g:Int→Int→Bool}(h1:F' (.int x) (.int y)=.ok (.bl (f x y)))(h2:G' (.int y) (.int w)=.ok (.bl (g y w))):rCh F' G' (.int x) (.int y) (.ok (.int w))=.ok (.bl (f x y&&g y w)):=by
 unfold rCh
 rw[h1]
 cases f x y with
 | true=>show G' (.int y) (.int w)=_;rw[h2];rfl
 | false=>rfl
@[simp] theorem uX (x y w:Int):rCh dLe dLe (.int x) (.int y) (.ok (.int w))=.ok (.bl (decide (x≤y)&&decide (y≤w))):=qD (fun a b=>decide (a≤b)) _ _ (g:=fun a b=>decide (a≤b)) rfl rfl
@[simp] theorem uY (x y w:Int):rCh dLe dLt (.int x) (.int y) (.ok (.int w))=.ok (.bl (decide (x≤y)&&decide (y < w))):=qD (fun a b=>decide (a≤b)) _ _ (g:=fun a b=>decide (a < b)) rfl rfl
theorem xl (a b:Bool):vAnd (.ok (.bl a)) (.ok (.bl b))=.ok (.bl (a&&b)):=by cases a<;>rfl
theorem zg (a b:Bool):vOr (.ok (.bl a)) (.ok (.bl b))=.ok (.bl (a||b)):=by cases a<;>rfl
theorem qE (a b:Bool):rAnd (.ok a) (.ok b)=.ok (a&&b):=by cases a<;>rfl
theorem pB (a b:Bool):rOr (.ok a) (.ok b)=.ok (a||b):=by cases a<;>rfl
def isW:D→Bool
 | .int _=>true
 | _=>false
def noX:D→Bool
 | .tab _ _=>false
 | .dic _ _=>false
 | .ptr _=>false
 | .exc _=>false
 | .fn _=>false
 | _=>true
def inTo (hi:Int):D→Bool
 | .int i=>decide (0≤i)&&decide (i≤hi)
 | _=>false
theorem cw {n:Nat}{d:D}(h:good n d=true):noX d=true:=by
 cases d<;>first | rfl | (cases n<;>simp[good]at h)
theorem jI {n:Nat}(hn:1≤n){d:D}(h:noX d=true):pf n F.an [d]=.ok (.bl (isW d)):=by
 obtain⟨m,rfl⟩:∃ m,n=m+1:=⟨n - 1,by omega⟩
 rw[nD]
 cases d<;>first | rfl | (cases h)
theorem uZ {n:Nat}(hn:2≤n){d:D}(h:noX d=true):pf n F.af [d]=.ok (.bl (inTo 9 d)):=by
 obtain⟨m,rfl⟩:∃ m,n=m+1:=⟨n - 1,by omega⟩
 rw[nE,da,jI (by omega) h]
 cases d<;>first | rfl | (cases h;done) | skip
 simp[isW,inTo]
theorem xm {n:Nat}(hn:2≤n){d:D}(h:noX d=true):pf n F.az [d]=.ok (.bl (inTo 3 d)):=by
 obtain⟨m,rfl⟩:∃ m,n=m+1:=⟨n - 1,by omega⟩
 rw[oZ,eE,jI (by omega) h]
 cases d<;>first | rfl | (cases h;done) | skip
 simp[isW,inTo]
def STP:=And.intro @bN (And.intro @yK (And.intro @kR (And.intro @zF (And.intro @zG (And.intro @v9 (And.intro @v8 (And.intro @wb (And.intro @R.bind_ok (And.intro @R.bind_err (And.intro @i8 (And.intro @lO (And.intro @qE (And.intro @pB (And.intro @yL (And.intro @yM (And.intro @zJ (And.intro @zK (And.intro @yN (And.intro @yO (And.intro @zL (And.intro @zM (And.intro @xl (And.intro @zg (And.intro @wc (And.intro @zN (And.intro @zO (And.intro @Bool.not_true (And.intro @Bool.not_false (And.intro @Bool.false_or (And.intro @Bool.true_or (And.intro @Bool.or_false (And.intro @Bool.or_true (And.intro @Bool.true_and (And.intro @Bool.false_and (And.intro @Bool.and_true (And.intro @Bool.and_false (And.intro @Bool.false_eq_true (@Bool.true_eq_false))))))))))))))))))))))))))))))))))))))
def OPP:=And.intro @aN (And.intro @dW (And.intro @xi (And.intro @xj (And.intro @qC (And.intro @xk (And.intro @mx (And.intro @my (And.intro @f8 (And.intro @nO (And.intro @pz (And.intro @pA (And.intro @sH (And.intro @sI (And.intro @ix20 (And.intro @ix21 (And.intro @ix40 (And.intro @ix41 (And.intro @ix42 (And.intro @ix43 (And.intro @hV (And.intro @sJ (And.intro @uX (@uY)))))))))))))))))))))))
def slim:Nat→D→Bool
 | n+1,.tup xs=>decide (xs.length≤1000)&&xs.all (slim n)
 | n+1,.lst xs=>decide (xs.length≤1000)&&xs.all (slim n)
 | _,_=>true
def treeOk (p:D→Bool):Nat→Int→D→Bool
 | n+1,s,.tup xs=>decide (s≠0)&&(decide (xs.length=4)&&xs.all (treeOk p n (s - 1)))
 | _,_,d=>p d
theorem bZ {n:Nat}:∀ {xs:List D},goods n xs=true→∀ d∈xs,good n d=true
 | x::xs,h,d,hd=>by
  rw[goods,Bool.and_eq_true]at h
  cases hd with
  | head=>exact h.1
  | tail _ hd=>exact bZ h.2 d hd
theorem cW {n:Nat}:∀ {xs:List D},(∀ d∈xs,good n d=true)→goods n xs=true
 | [],_=>rfl
 | x::xs,h=>by rw[goods,h x (.head _),cW fun d hd=>h d (.tail _ hd)];rfl
theorem ex1 {n k:Nat}(h:k+1≤n):∃ m,n=m+1∧k≤m:=⟨n - 1,by omega,by omega⟩
theorem dY {d:D}(h:isTup d=false)(h':noX d=true):dIsA qTup d=.ok (.bl false):=by cases d<;>first | rfl | (cases h;done) | (cases h';done)
theorem xn {i c:Nat}{p:D→Bool}(hi:fvL.contains i=true)(hp:∀ m d,c≤m→noX d=true→pf m i [d]=.ok (.bl (p d))):∀ (n m:Nat) (s:Int) (d:D),good n d=true→slim n d=true→n+c+1≤m→pf m F.al [.int s,d,.fn i]=.ok (.bl (treeOk p n s d)):=by
 have flat:∀ (n m:Nat) (s:Int) (d:D),isTup d=false→noX d=true→c+1≤m→treeOk p n s d=p d→pf m F.al [.int s,d,.fn i]=.ok (.bl (treeOk p n s d)):=fun n m s d ht hx hm e=>by
  obtain⟨m,rfl,hm⟩:=ex1 hm
  rw[jr,cT,dY ht hx,e]
  have:onF fvL (.fn i) (fun i=>pf m i [d])=.ok (.bl (p d)):=by
   show (if fvL.contains i=true then pf m i [d] else R.stuck)=_
   grind
  simp[this]
 intro n
 induction n with
 | zero =>
  intro m s d hg hs hm
  have ht:isTup d=false:=by cases d<;>first | rfl | (simp[good]at hg)
  exact flat 0 m s d ht (cw hg) (by omega) (by cases d<;>rfl)
 | succ n ih =>
  intro m s d hg hs hm
  by_cases ht:isTup d=true
  ·cases d with
   | tup xs =>
    rw[good]at hg
    rw[slim,Bool.and_eq_true,decide_eq_true_eq,List.all_eq_true]at hs
    obtain⟨m,rfl,hm⟩:=ex1 (show n+c+1+1≤m by omega)
    rw[jr,cT]
    have hc:cMap (fun part=>(dSub (.int s) (.int 1)).bind fun x1=>pf m F.al [x1,part,.fn i]) xs=.ok (.lst (xs.map fun d=>.bl (treeOk p n (s - 1) d))) :=
     xg _ fun d hd=>by rw[dW,R.bind_ok];exact ih m (s - 1) d (bZ hg d hd) (hs.2 d hd) (by omega)
    simp only[hV,i8,lO,Bool.not_true,bN,kR,mx,f8,R.bind_ok,my,pB,jG (show xs.length≤16777216 by omega),hc,uW,treeOk]
    by_cases h0:s=0
    ·simp[h0]
    ·by_cases h4:xs.length=4
     ·simp[h0,h4]
     ·have h4':¬ ((xs.length:Int)=4):=by omega
      simp[h0,h4,h4']
   | _=>cases ht
  ·have ht':isTup d=false:=by simpa using ht
   exact flat (n+1) m s d ht' (cw hg) (by omega) (by cases d<;>first | rfl | (cases ht';done))
def sizedOk (p:D→Bool)(n:Nat):D→Bool
 | .tup [s,t]=>inTo 3 s&&(match s with
  | .int i=>treeOk p n i t
  | _=>false)
 | _=>false
theorem u3 {i c:Nat}{p:D→Bool}(hc:2≤c)(hi:fvL.contains i=true)(hp:∀ m d,c≤m→noX d=true→pf m i [d]=.ok (.bl (p d)))(n m:Nat)(d:D)(hg:good (n+1) d=true)(hs:slim (n+1) d=true)(hm:n+c+2≤m):pf m F.aj [d,.fn i]=.ok (.bl (sizedOk p n d)):=by
 obtain⟨m,rfl,hm⟩:=ex1 (show n+c+1+1≤m by omega)
 rw[gT,aO]
 by_cases ht:isTup d=true
 ·cases d with
  | tup xs =>
   rw[good]at hg
   rw[slim,Bool.and_eq_true,decide_eq_true_eq,List.all_eq_true]at hs
   by_cases h2:xs.length=2
   ·match xs,h2 with
    | [a,b],_ =>
     have ga:=bZ hg a (by simp)
     have gb:=bZ hg b (by simp)
     have sb:=hs.2 b (by simp)
     have hz:pf m F.az [a]=.ok (.bl (inTo 3 a)):=xm (by omega) (cw ga)
     simp only[hV,i8,lO,Bool.not_true,f8,R.bind_ok,my,ix20,ix21,pB,List.length_cons,List.length_nil,hz]
     cases a with
     | int v =>
      rw[xn hi hp n m v b gb sb (by omega)]
      by_cases hv:inTo 3 (.int v)=true
      ·simp[hv,sizedOk]
      ·have hv':inTo 3 (.int v)=false:=by simpa using hv
       simp[hv',sizedOk]
     | _=>simp[sizedOk,inTo]
   ·have h2':¬ ((xs.length:Int)=2):=by omega
    have e:sizedOk p n (.tup xs)=false:=by
     match xs,h2 with
     | [],_=>rfl
     | [_],_=>rfl
     | _::_::_::_,_=>rfl
    simp[h2',e]
  | _=>cases ht
 ·have ht':isTup d=false:=by simpa using ht
  rw[dY ht' (cw hg)]
  have e:sizedOk p n d=false:=by cases d<;>first | rfl | (cases ht';done)
  simp[e]
def scr (ns:List Int):D:=.lst (ns.map .int)
def cell (ns:List Int)(k:Nat):Int:=if k < ns.length then ns.getD k 0 else if ns=[] then 0 else ns.getD (k%ns.length) 0*31+k
def pk (ns:List Int)(k:Nat)(m:Int):Int :=
 let d:=(cell ns k+6151*((k:Int)+1))*40692%2147483399
 (d*d+d/31)%2147483629%m
theorem qF {ns:List Int}{k:Nat}{m:Int}(h:0 < m):0≤pk ns k m:=Int.emod_nonneg _ (by omega)
theorem qG {ns:List Int}{k:Nat}{m:Int}(h:0 < m):pk ns k m < m:=Int.emod_lt_of_pos _ h
theorem hZ (n:Nat):∀ ns:List Int,goods n (ns.map .int)=true
 | []=>rfl
 | i::r=>by rw[List.map_cons,goods,hZ n r];cases n<;>rfl
theorem xo {n:Nat}(hn:1≤n)(ns:List Int)(k:Nat):pf n F.aB [scr ns,.int k]=.ok (.int (cell ns k)):=by
 obtain⟨n,rfl,hn⟩:=ex1 hn
 rw[sA,fQ]
 unfold scr cell
 by_cases h:k < ns.length
 ·have h':((k:Int) < (ns.length:Int)):=by omega
  have e0:=ixL (xs:=ns.map .int) (i:=k) (x:=.int (ns.getD k 0)) (by rw[List.getElem?_map,List.getElem?_eq_getElem h];simp[List.getD,h])
  simp only[STP,if_true,if_false,ite_true,ite_false,reduceIte,reduceCtorEq,OPP,List.length_map,decide_eq_true h',e0,if_pos h]
 ·have h':¬ ((k:Int) < (ns.length:Int)):=by omega
  cases ns with
  | nil =>
   have e1:dEq (.lst []) (.lst [])=.ok (.bl true):=rfl
   have h2:¬ ((k:Int) < ((0:Nat):Int)):=by omega
   simp only[STP,if_true,if_false,ite_true,ite_false,reduceIte,reduceCtorEq,OPP,List.map_nil,List.length_nil,decide_eq_false h2,e1,if_neg (Nat.not_lt_zero k)]
  | cons a r =>
   have hl:0 < (a::r).length:=by simp
   have hk:k%(a::r).length < (a::r).length:=Nat.mod_lt _ hl
   have e1:dEq (.lst ((a::r).map .int)) (.lst [])=.ok (.bl false):=by
    rw[f9 (by rw[good];exact hZ _ _) rfl]
    simp[eqD,eqDs]
   have e2:dMod (.int (k:Int)) (.int ((a::r).length:Int))=.ok (.int ((k%(a::r).length:Nat):Int)):=by
    rw[dX (by omega)];rfl
   have e3:dIx (.lst ((a::r).map .int)) (.int ((k%(a::r).length:Nat):Int))=.ok (.int ((a::r).getD (k%(a::r).length) 0)) :=
    ixL (by rw[List.getElem?_map,List.getElem?_eq_getElem hk,List.getD,List.getElem?_eq_getElem hk];rfl)
   have e4:=cu (a:=(a::r).getD (k%(a::r).length) 0) (b:=31) (.inl (by decide))
   simp only[STP,if_true,if_false,ite_true,ite_false,reduceIte,reduceCtorEq,OPP,List.length_map,decide_eq_false h',e1,e2,e3,e4,if_neg h]
theorem iL {n:Nat}(hn:2≤n)(ns:List Int)(k:Nat){m:Int}(hm:0 < m):pf n F.ae [scr ns,.int k,.int m]=.ok (.int (pk ns k m)):=by
 obtain⟨n,rfl,hn⟩:=ex1 hn
 rw[sB,fR,xo (by omega)]
 simp only[R.bind_ok,aN]
 rw[cu (.inr (by decide))]
 simp only[R.bind_ok,aN]
 rw[cu (.inl (by decide))]
 simp only[R.bind_ok]
 rw[dX (by decide)]
 simp only[bN]
 have h0:0≤(cell ns k+6151*((k:Int)+1))*40692%2147483399:=Int.emod_nonneg _ (by decide)
 have h1:(cell ns k+6151*((k:Int)+1))*40692%2147483399 < 2147483399:=Int.emod_lt_of_pos _ (by decide)
 rw[cu (.inl ⟨by omega,by omega⟩),nQ (by decide) (by decide)]
 simp only[R.bind_ok,aN]
 rw[dX (by decide)]
 simp only[R.bind_ok]
 rw[dX hm]
 rfl
theorem qH {n:Nat}(hn:2≤n)(ns:List Int)(k:Nat){a m:Int}(ha:a=(k:Int))(hm:0 < m):pf n F.ae [scr ns,.int a,.int m]=.ok (.int (pk ns k m)):=by subst ha;exact iL hn ns k hm
def W9 (v:Int):Prop:=0≤v∧v≤9
def dleaf (ns:List Int)(k:Nat):Int:=[0,1,1,2,9,pk ns (k+1) 10].getD (pk ns (k+2) 6).toNat 0
def dt (ns:List Int):Nat→Nat→Q Int
 | 0,k=>.lf (dleaf ns k)
 | n+1,k=>if pk ns k 6 < 2 then .lf (dleaf ns k) else if pk ns k 6=2 then .nd (dt ns n (k+3)) (dt ns n (k+3)) (dt ns n (k+3)) (dt ns n (k+3)) else
  .nd (dt ns n (5*k+7)) (dt ns n (5*k+18)) (dt ns n (5*k+29)) (dt ns n (5*k+40))
theorem qI (ns:List Int)(k:Nat):W9 (dleaf ns k):=by
 unfold dleaf W9
 have h0:=qF (ns:=ns) (k:=k+2) (m:=6) (by decide)
 have h1:=qG (ns:=ns) (k:=k+2) (m:=6) (by decide)
 have g0:=qF (ns:=ns) (k:=k+1) (m:=10) (by decide)
 have g1:=qG (ns:=ns) (k:=k+1) (m:=10) (by decide)
 obtain⟨j,hj⟩:∃ j:Nat,pk ns (k+2) 6=(j:Int):=⟨(pk ns (k+2) 6).toNat,by omega⟩
 rw[hj]at h1 ⊢
 have:j < 6:=by omega
 rcases j with _ | _ | _ | _ | _ | _ | j<;>first | (simp;done) | (simp;omega) | omega
theorem u4 (ns:List Int):∀ n k,(dt ns n k).dep≤n
 | 0,k=>Nat.le_refl _
 | n+1,k=>by
  rw[dt]
  have h1:=u4 ns n
  split
  ·exact Nat.zero_le _
  ·split
   ·have:=h1 (k+3);simp only[Q.dep];omega
   ·have a:=h1 (5*k+7);have b:=h1 (5*k+18);have c:=h1 (5*k+29);have d:=h1 (5*k+40);simp only[Q.dep];omega
theorem u5 (ns:List Int):∀ n k,(dt ns n k).All W9
 | 0,k=>qI ns k
 | n+1,k=>by
  rw[dt]
  have h1:=u5 ns n
  split
  ·exact qI ns k
  ·split
   ·exact⟨h1 _,h1 _,h1 _,h1 _⟩
   ·exact⟨h1 _,h1 _,h1 _,h1 _⟩
theorem nR {n:Nat}(hn:2≤n)(ns:List Int)(k:Nat):((((dAdd (.int (k:Int)) (.int 1)).bind fun x=>pf n F.ae [scr ns,x,(.int 10)]).bind fun x1=>.ok (.lst [(.int 0),(.int 1),(.int 1),(.int 2),(.int 9),x1])).bind fun x2=>((dAdd (.int (k:Int)) (.int 2)).bind fun x3=>pf n F.ae [scr ns,x3,(.int 6)]).bind fun x4=>dIx x2 x4)=.ok (.int (dleaf ns k)):=by
 simp only[aN,R.bind_ok]
 rw[qH hn ns (k+1) (by omega) (by decide),qH hn ns (k+2) (by omega) (by decide)]
 simp only[R.bind_ok]
 have h0:=qF (ns:=ns) (k:=k+2) (m:=6) (by decide)
 have h1:=qG (ns:=ns) (k:=k+2) (m:=6) (by decide)
 unfold dleaf
 obtain⟨j,hj⟩:∃ j:Nat,pk ns (k+2) 6=(j:Int):=⟨(pk ns (k+2) 6).toNat,by omega⟩
 rw[hj]at h1 ⊢
 have:j < 6:=by omega
 rcases j with _ | _ | _ | _ | _ | _ | j<;>first | rfl | omega
theorem rep4 (x:D):dMul (.tup [x]) (.int 4)=.ok (.tup [x,x,x,x]):=rfl
theorem rng4:rng1 [.int 4]=.ok [.int 0,.int 1,.int 2,.int 3]:=rfl
theorem u6 (ns:List Int):∀ (s k n:Nat),s+3≤n→pf n F.ai [scr ns,.int k,.int s]=.ok ((dt ns s k).d .int):=by
 intro s
 induction s with
 | zero =>
  intro k n hn
  obtain⟨n,rfl,hn⟩:=ex1 (show 2+1≤n by omega)
  rw[lg,dJ,iL (by omega) ns k (by decide)]
  simp only[bN]
  rw[nR (by omega)]
  simp[dt,Q.d]
 | succ s ih =>
  intro k n hn
  obtain⟨n,rfl,hn⟩:=ex1 (show s+3+1≤n by omega)
  rw[lg,dJ,iL (by omega) ns k (by decide)]
  simp only[bN]
  rw[nR (by omega)]
  have hs:¬ (((s+1:Nat):Int)=0):=by omega
  have hs1:((s+1:Nat):Int) - 1=(s:Int):=by omega
  have ih':∀ (a:Int) (j:Nat),a=(j:Int)→pf n F.ai [scr ns,.int a,.int (s:Int)]=.ok ((dt ns s j).d .int):=fun a j e=>by subst e;exact ih j n (by omega)
  rw[dt]
  by_cases h2:pk ns k 6 < 2
  ·simp only[STP,if_true,if_false,ite_true,ite_false,reduceIte,reduceCtorEq,OPP,decide_eq_false hs,decide_eq_true h2,if_pos h2,Q.d]
  ·by_cases h3:pk ns k 6=2
   ·have e:=ih' ((k:Int)+3) (k+3) (by omega)
    simp only[STP,if_true,if_false,ite_true,ite_false,reduceIte,reduceCtorEq,OPP,decide_eq_false hs,decide_eq_false h2,decide_eq_true h3,if_neg h2,if_pos h3,hs1,e,rep4,Q.d]
   ·have step:∀ (i:Nat) ,(((dMul (.int 5) (.int (k:Int))).bind fun x9=>dAdd x9 (.int 7)).bind fun x10=>(dMul (.int 11) (.int (i:Int))).bind fun x11=>dAdd x10 x11).bind (fun x12=>pf n F.ai [scr ns,x12,.int (s:Int)])=.ok ((dt ns s (5*k+7+11*i)).d .int):=fun i=>by
     rw[cu (.inr (by decide)),cu (.inr (by decide))]
     simp only[R.bind_ok,aN]
     exact ih' _ _ (by omega)
    have e:cMap (fun At=>(((dMul (.int 5) (.int (k:Int))).bind fun x9=>dAdd x9 (.int 7)).bind fun x10=>(dMul (.int 11) At).bind fun x11=>dAdd x10 x11).bind fun x12=>pf n F.ai [scr ns,x12,.int (s:Int)]) [.int 0,.int 1,.int 2,.int 3]=.ok (.lst [(dt ns s (5*k+7)).d .int,(dt ns s (5*k+18)).d .int,(dt ns s (5*k+29)).d .int,(dt ns s (5*k+40)).d .int]):=cMap4 (step 0) (step 1) (step 2) (step 3)
    simp only[STP,if_true,if_false,ite_true,ite_false,reduceIte,reduceCtorEq,OPP,decide_eq_false hs,decide_eq_false h2,decide_eq_false h3,if_neg h2,if_neg h3,hs1,rng4]
    rw[e]
    rfl
structure Pc (sz:Nat)(t:Q Int):Prop where
 h3:sz≤3
 dep:t.dep≤sz
 all:t.All W9
def picD (sz:Nat)(t:Q Int):D:=.tup [.int (sz:Int),t.d .int]
theorem xp (ns:List Int)(k most n:Nat)(hm:most≤3)(hn:7≤n):∃ sz t,sz≤most∧Pc sz t∧pf n F.au [scr ns,.int k,.int most]=.ok (picD sz t):=by
 obtain⟨n,rfl,hn⟩:=ex1 (show 6+1≤n by omega)
 have h0:=qF (ns:=ns) (k:=k) (m:=7) (by decide)
 have h1:=qG (ns:=ns) (k:=k) (m:=7) (by decide)
 obtain⟨j,hj⟩:∃ j:Nat,pk ns k 7=(j:Int):=⟨(pk ns k 7).toNat,by omega⟩
 rw[hj]at h1
 have hj7:j < 7:=by omega
 obtain⟨c,hc3,hc⟩:∃ c:Nat,c≤3∧dIx (.lst [(.int 0),(.int 0),(.int 0),(.int 1),(.int 1),(.int 2),(.int 3)]) (.int (j:Int))=.ok (.int (c:Int)):=by
  rcases j with _ | _ | _ | _ | _ | _ | _ | j
  ·exact⟨0,by omega,rfl⟩
  ·exact⟨0,by omega,rfl⟩
  ·exact⟨0,by omega,rfl⟩
  ·exact⟨1,by omega,rfl⟩
  ·exact⟨1,by omega,rfl⟩
  ·exact⟨2,by omega,rfl⟩
  ·exact⟨3,by omega,rfl⟩
  ·omega
 refine⟨most - c,dt ns (most - c) (k+1),by omega,⟨by omega,u4 _ _ _,u5 _ _ _⟩,?_⟩
 have hx:dMax2 [.int 0,.int ((most:Int) - (c:Int))]=.ok (.int ((most - c:Nat):Int)):=by
  show R.ok (D.int (if (most:Int) - c > 0 then (most:Int) - c else 0))=_
  congr 2
  split<;>omega
 rw[mi,cE,iL (by omega) ns k (by decide),R.bind_ok,hj,hc]
 simp only[R.bind_ok,dW,hx,bN,aN]
 have e:((k:Int)+1)=((k+1:Nat):Int):=by omega
 rw[e,u6 ns (most - c) (k+1) n (by omega)]
 rfl
section
variable {α:Type}[DecidableEq α]{e:α→D}
theorem eL:∀ {n m:Nat} {d:D},good n d=true→n≤m→good m d=true
 | n,m,.non,_,_=>by cases m<;>rfl
 | n,m,.bl _,_,_=>by cases m<;>rfl
 | n,m,.int _,_,_=>by cases m<;>rfl
 | n,m,.str _,_,_=>by cases m<;>rfl
 | n,m,.exc _,h,_=>by cases n<;>simp[good]at h
 | n,m,.fn _,h,_=>by cases n<;>simp[good]at h
 | 0,m,.tup _,h,_=>by simp[good]at h
 | 0,m,.lst _,h,_=>by simp[good]at h
 | n+1,0,.tup _,_,l=>by omega
 | n+1,0,.lst _,_,l=>by omega
 | n+1,m+1,.tup xs,h,l=>by
  rw[good]at h ⊢
  exact cW fun d hd=>eL (n:=n) (bZ h d hd) (by omega)
 | n+1,m+1,.lst xs,h,l=>by
  rw[good]at h ⊢
  exact cW fun d hd=>eL (n:=n) (bZ h d hd) (by omega)
theorem zi (E:En e){n:Nat}(hn:1≤n){a b c d:Q α}(ha:a.dep≤50)(hb:b.dep≤50)(hc:c.dep≤50)(hd:d.dep≤50):pf n F.ao [.tup [a.d e,b.d e,c.d e,d.d e]]=.ok ((put4 a b c d).d e):=by
 obtain⟨n,rfl,hn⟩:=ex1 hn
 rw[iz,a9]
 cases a with
 | nd a1 a2 a3 a4=>simp only[STP,if_true,if_false,ite_true,ite_false,reduceIte,reduceCtorEq,OPP,Q.d,put4]
 | lf v =>
  have e1:dIsA qTup (Q.d e (.lf v))=.ok (.bl false):=dY (E.tup v) (cw (E.gd 0 v))
  have gv:good 59 (e v)=true:=E.gd 59 v
  have e2:dEq (.tup [Q.d e (.lf v),b.d e,c.d e,d.d e]) (.tup [Q.d e (.lf v),Q.d e (.lf v),Q.d e (.lf v),Q.d e (.lf v)])=.ok (.bl (decide (b=.lf v)&&(decide (c=.lf v)&&decide (d=.lf v)))):=by
   rw[f9]
   ·rw[eqD,eqDs,eqDs,eqDs,eqDs,eqDs,Q.eqd E,Q.eqd E,Q.eqd E,Q.eqd E]
    simp
   ·rw[good,goods,goods,goods,goods,goods,eL (Q.gd E 50 b hb) (by decide),eL (Q.gd E 50 c hc) (by decide),eL (Q.gd E 50 d hd) (by decide),Q.d,gv]
    rfl
   ·rw[good,goods,goods,goods,goods,goods,Q.d,gv]
    rfl
  simp only[STP,if_true,if_false,ite_true,ite_false,reduceIte,reduceCtorEq,OPP,e1,e2]
  unfold put4
  by_cases hb':b=.lf v
  ·by_cases hc':c=.lf v
   ·by_cases hd':d=.lf v
    ·simp[hb',hc',hd']
    ·simp[hb',hc',hd',Q.d]
   ·simp[hb',hc',Q.d]
  ·simp[hb',Q.d]
theorem dZ (E:En e):∀ (t:Q α) (n:Nat),t.dep≤40→t.dep+2≤n→pf n F.ah [t.d e]=.ok (t.lean.d e)
 | .lf a,n,_,hn=>by
  obtain⟨n,rfl,hn⟩:=ex1 (show 1+1≤n by omega)
  rw[fT,bE]
  have e1:dIsA qTup (Q.d e (.lf a))=.ok (.bl false):=dY (E.tup a) (cw (E.gd 0 a))
  simp only[STP,if_true,if_false,ite_true,ite_false,reduceIte,reduceCtorEq,e1,Q.lean]
 | .nd a b c d,n,hd,hn=>by
  have hd':1+max (max a.dep b.dep) (max c.dep d.dep)≤40:=hd
  have hn':1+max (max a.dep b.dep) (max c.dep d.dep)+2≤n:=hn
  obtain⟨n,rfl,hn⟩:=ex1 (show max (max a.dep b.dep) (max c.dep d.dep)+2+1≤n by omega)
  rw[fT,bE]
  have ka:=dZ E a n (by omega) (by omega)
  have kb:=dZ E b n (by omega) (by omega)
  have kc:=dZ E c n (by omega) (by omega)
  have kd:=dZ E d n (by omega) (by omega)
  have hm:cMap (fun part=>pf n F.ah [part]) [a.d e,b.d e,c.d e,d.d e]=.ok (.lst [a.lean.d e,b.lean.d e,c.lean.d e,d.lean.d e]):=cMap4 ka kb kc kd
  have hp:=zi E (n:=n) (by omega) (a:=a.lean) (b:=b.lean) (c:=c.lean) (d:=d.lean) (fZ (n:=50) (by omega)) (fZ (n:=50) (by omega)) (fZ (n:=50) (by omega)) (fZ (n:=50) (by omega))
  rw[Q.d]
  simp only[STP,if_true,if_false,ite_true,ite_false,reduceIte,reduceCtorEq,OPP,sq4,hm,hp,Q.lean]
theorem qJ:∀ {n:Nat} {d:D},isTup d=false→isLst d=false→slim n d=true
 | 0,d,_,_=>by cases d<;>rfl
 | n+1,d,h,h'=>by cases d<;>first | rfl | (cases h;done) | (cases h';done)
theorem jJ (hl:∀ a,isLst (e a)=false)(E:En e):∀ (n:Nat) (t:Q α),slim n (t.d e)=true
 | n,.lf a=>qJ (E.tup a) (hl a)
 | 0,.nd ..=>rfl
 | n+1,.nd a b c d=>by
  rw[Q.d,Lw.slim]
  simp only[List.all_cons,List.all_nil,jJ hl E n a,jJ hl E n b,jJ hl E n c,jJ hl E n d,List.length_cons,List.length_nil]
  rfl
theorem jK {p:D→Bool}(E:En e):∀ (m:Nat) (s:Nat) (t:Q α),t.dep≤m→t.dep≤s→t.All (fun a=>p (e a)=true)→treeOk p m s (t.d e)=true
 | m,s,.lf a,_,_,h=>by
  have:treeOk p m s (e a)=p (e a):=by
   have:=E.tup a
   cases m with
   | zero=>cases e a<;>rfl
   | succ m=>cases q:e a<;>first | rfl | (rw[q]at this;cases this)
  exact this.trans h
 | 0,s,.nd a b c d,h,_,_=>by simp[Q.dep]at h
 | m+1,0,.nd a b c d,_,h,_=>by simp[Q.dep]at h
 | m+1,s+1,.nd a b c d,h,h',hall=>by
  have h1:1+max (max a.dep b.dep) (max c.dep d.dep)≤m+1:=h
  have h2:1+max (max a.dep b.dep) (max c.dep d.dep)≤s+1:=h'
  rw[Q.d,Lw.treeOk,show ((s+1:Nat):Int) - 1=(s:Int) by omega]
  have h0:((s+1:Nat):Int)≠0:=by omega
  simp only[List.all_cons,List.all_nil,jK E m s a (by omega) (by omega) hall.1,jK E m s b (by omega) (by omega) hall.2.1,jK E m s c (by omega) (by omega) hall.2.2.1,jK E m s d (by omega) (by omega) hall.2.2.2,List.length_cons,List.length_nil,decide_eq_true h0]
  rfl
end
theorem gh {α:Type}{p q:α→Prop}(h:∀ a,p a→q a):∀ {t:Q α},t.All p→t.All q
 | .lf a,x=>h a x
 | .nd _ _ _ _,x=>⟨gh h x.1,gh h x.2.1,gh h x.2.2.1,gh h x.2.2.2⟩
theorem in9 {v:Int}(h:W9 v):inTo 9 (.int v)=true:=by simp[inTo,h.1,h.2]
theorem u7:fvL.contains F.af=true:=by decide
theorem u8 {n m:Nat}{d:D}(hg:good (m+1) d=true)(hs:slim (m+1) d=true)(hn:m+5≤n):pf n F.aw [d]=.ok (.bl (sizedOk (inTo 9) m d)):=by
 obtain⟨n,rfl,hn⟩:=ex1 (show m+4+1≤n by omega)
 rw[j8,bP,u3 (c:=2) (p:=inTo 9) (by decide) u7 (fun m d h1 h2=>uZ h1 h2) m n d hg hs (by omega)]
 rfl
theorem sK {n m:Nat}{d:D}(hg:good (m+1) d=true)(hs:slim (m+1) d=true)(hn:m+6≤n):pf n F.aa [d]=if sizedOk (inTo 9) m d=true then .ok .non else .err 1:=by
 obtain⟨n,rfl,hn⟩:=ex1 (show m+5+1≤n by omega)
 rw[gU,aP,u8 hg hs (by omega)]
 cases sizedOk (inTo 9) m d<;>rfl
section
variable {sz:Nat}{t:Q Int}
theorem Pc.good (p:Pc sz t):good 4 (picD sz t)=true:=by
 unfold picD
 rw[FF.good,goods,goods,goods,Q.gd En.int 3 t (Nat.le_trans p.dep p.h3)]
 rfl
theorem Pc.slim (p:Pc sz t):slim 4 (picD sz t)=true:=by
 unfold picD
 rw[Lw.slim]
 simp only[List.all_cons,List.all_nil,jJ (fun _=>rfl) En.int,qJ (d:=.int (sz:Int)) rfl rfl,List.length_cons,List.length_nil]
 rfl
theorem Pc.sized (p:Pc sz t):sizedOk (inTo 9) 3 (picD sz t)=true:=by
 have h3:=p.h3
 have h1:inTo 3 (.int (sz:Int))=true:=by simp[inTo];omega
 unfold picD sizedOk
 simp only[h1,jK En.int 3 sz t (Nat.le_trans p.dep p.h3) p.dep (gh (fun a h=>in9 h) p.all)]
 rfl
theorem Pc.check (p:Pc sz t){n:Nat}(hn:9≤n):pf n F.aa [picD sz t]=.ok .non:=by rw[sK p.good p.slim hn,p.sized];rfl
theorem Pc.lean (p:Pc sz t){n:Nat}(hn:10≤n):pf n F.aC [picD sz t]=.ok (picD sz (T (t.at sz) sz)):=by
 obtain⟨n,rfl,hn⟩:=ex1 (show 9+1≤n by omega)
 have h3:=p.h3
 have hd:=p.dep
 have e1:=p.check (n:=n) (by omega)
 have e2:=dZ En.int t n (by omega) (by omega)
 rw[wZ,l9,e1,← hU sz t p.dep]
 unfold picD
 simp only[STP,if_true,if_false,ite_true,ite_false,reduceIte,reduceCtorEq,OPP,e2]
theorem pc_T {f:Nat→Nat→Int}(h3:sz≤3)(h:∀ x y,x < 2^sz→y < 2^sz→W9 (f x y)):Pc sz (T f sz):=⟨h3,lm sz f,nN sz f h⟩
theorem Pc.at (p:Pc sz t)(x y:Nat):W9 (t.at sz x y):=hG sz t x y p.all
theorem Pc.side (p:Pc sz t){n:Nat}(hn:1≤n):pf n F.av [picD sz t]=.ok (.int ((2^sz:Nat):Int)):=by
 obtain⟨n,rfl,hn⟩:=ex1 (show 0+1≤n by omega)
 have h3:=p.h3
 rw[o4,eF]
 unfold picD
 have:sz=0∨sz=1∨sz=2∨sz=3:=by omega
 rcases this with rfl | rfl | rfl | rfl<;>rfl
end
section
variable {α:Type}[DecidableEq α]{e:α→D}
theorem p8 {s:Nat}(h:s≤3):2^s≤8:=by
 have:s=0∨s=1∨s=2∨s=3:=by omega
 rcases this with rfl | rfl | rfl | rfl<;>decide
theorem pos2 (s:Nat):0 < 2^s:=Nat.pow_pos (by decide)
theorem jL {a b:Nat}(h0:0 < b)(h1:b < 1073741824):dDiv (.int (a:Int)) (.int (b:Int))=.ok (.int ((a/b:Nat):Int)):=by
 rw[nQ (by omega) (by omega)];rfl
theorem nS {a b:Nat}(h0:0 < b):dMod (.int (a:Int)) (.int (b:Int))=.ok (.int ((a%b:Nat):Int)):=by
 rw[dX (by omega)];rfl
theorem jM (E:En e):∀ (s:Nat) (t:Q α) (n x y:Nat),s≤3→t.dep≤s→x < 2^s→y < 2^s→t.dep+1≤n→pf n F.ap [t.d e,.int ((2^s:Nat):Int),.int (x:Int),.int (y:Int)]=.ok (e (t.at s x y))
 | s,.lf a,n,x,y,_,_,_,_,hn=>by
  obtain⟨n,rfl,hn⟩:=ex1 (show 0+1≤n by omega)
  rw[ir,b9,qy]
  have e1:dIsA qTup (Q.d e (.lf a))=.ok (.bl false):=dY (E.tup a) (cw (E.gd 0 a))
  simp only[STP,if_true,if_false,ite_true,ite_false,reduceIte,reduceCtorEq,e1]
  rfl
 | 0,.nd ..,_,_,_,_,h,_,_,_=>by simp[Q.dep]at h
 | s+1,.nd a b c d,n,x,y,h3,hd,hx,hy,hn=>by
  have hd':1+max (max a.dep b.dep) (max c.dep d.dep)≤s+1:=hd
  have hn':1+max (max a.dep b.dep) (max c.dep d.dep)+1≤n:=hn
  obtain⟨n,rfl,hn⟩:=ex1 (show 0+1≤n by omega)
  have hs:=p8 (show s≤3 by omega)
  have hp:=pos2 s
  rw[fY]at hx hy
  rw[ir,b9,Q.d]
  have e1:dDiv (.int ((2^(s+1):Nat):Int)) (.int 2)=.ok (.int ((2^s:Nat):Int)):=by
   have:=jL (a:=2^(s+1)) (b:=2) (by decide) (by decide)
   rw[show (2^(s+1)/2:Nat)=2^s by rw[fY];omega]at this
   exact this
  have e2:=jL (a:=y) (b:=2^s) hp (by omega)
  have e3:=jL (a:=x) (b:=2^s) hp (by omega)
  have e4:=nS (a:=x) (b:=2^s) hp
  have e5:=nS (a:=y) (b:=2^s) hp
  have e6:dMul (.int 2) (.int ((y/2^s:Nat):Int))=.ok (.int (2*((y/2^s:Nat):Int))):=cu (.inr (by decide))
  rw[Q.at]
  by_cases h1:y < 2^s
  ·have y0:y/2^s=0:=Nat.div_eq_of_lt h1
   have y1:y%2^s=y:=Nat.mod_eq_of_lt h1
   by_cases h2:x < 2^s
   ·have x0:x/2^s=0:=Nat.div_eq_of_lt h2
    have x1:x%2^s=x:=Nat.mod_eq_of_lt h2
    have k:=jM E s a n x y (by omega) (by omega) h2 h1 (by omega)
    simp only[STP,if_true,if_false,ite_true,ite_false,reduceIte,reduceCtorEq,OPP,e1,e2,e3,e4,e5,e6,if_pos h1,if_pos h2]
    rw[y0,x0,x1,y1]
    show outL (lB ((dIx (.tup [a.d e,b.d e,c.d e,d.d e]) (.int 0)).bind _) _)=_
    simp only[STP,if_true,if_false,ite_true,ite_false,reduceIte,reduceCtorEq,OPP,k]
   ·have x0:x/2^s=1:=by
     have:x=(x - 2^s)+2^s:=by omega
     rw[this,Nat.add_div_right _ hp,Nat.div_eq_of_lt (by omega)]
    have x1:x%2^s=x - 2^s:=by rw[Nat.mod_eq_sub_mod (by omega),Nat.mod_eq_of_lt (by omega)]
    have k:=jM E s b n (x - 2^s) y (by omega) (by omega) (by omega) h1 (by omega)
    simp only[STP,if_true,if_false,ite_true,ite_false,reduceIte,reduceCtorEq,OPP,e1,e2,e3,e4,e5,e6,if_pos h1,if_neg h2]
    rw[y0,x0,x1,y1]
    show outL (lB ((dIx (.tup [a.d e,b.d e,c.d e,d.d e]) (.int 1)).bind _) _)=_
    simp only[STP,if_true,if_false,ite_true,ite_false,reduceIte,reduceCtorEq,OPP,k]
  ·have y0:y/2^s=1:=by
    have:y=(y - 2^s)+2^s:=by omega
    rw[this,Nat.add_div_right _ hp,Nat.div_eq_of_lt (by omega)]
   have y1:y%2^s=y - 2^s:=by rw[Nat.mod_eq_sub_mod (by omega),Nat.mod_eq_of_lt (by omega)]
   by_cases h2:x < 2^s
   ·have x0:x/2^s=0:=Nat.div_eq_of_lt h2
    have x1:x%2^s=x:=Nat.mod_eq_of_lt h2
    have k:=jM E s c n x (y - 2^s) (by omega) (by omega) h2 (by omega) (by omega)
    simp only[STP,if_true,if_false,ite_true,ite_false,reduceIte,reduceCtorEq,OPP,e1,e2,e3,e4,e5,e6,if_neg h1,if_pos h2]
    rw[y0,x0,x1,y1]
    show outL (lB ((dIx (.tup [a.d e,b.d e,c.d e,d.d e]) (.int 2)).bind _) _)=_
    simp only[STP,if_true,if_false,ite_true,ite_false,reduceIte,reduceCtorEq,OPP,k]
   ·have x0:x/2^s=1:=by
     have:x=(x - 2^s)+2^s:=by omega
     rw[this,Nat.add_div_right _ hp,Nat.div_eq_of_lt (by omega)]
    have x1:x%2^s=x - 2^s:=by rw[Nat.mod_eq_sub_mod (by omega),Nat.mod_eq_of_lt (by omega)]
    have k:=jM E s d n (x - 2^s) (y - 2^s) (by omega) (by omega) (by omega) (by omega) (by omega)
    simp only[STP,if_true,if_false,ite_true,ite_false,reduceIte,reduceCtorEq,OPP,e1,e2,e3,e4,e5,e6,if_neg h1,if_neg h2]
    rw[y0,x0,x1,y1]
    show outL (lB ((dIx (.tup [a.d e,b.d e,c.d e,d.d e]) (.int 3)).bind _) _)=_
    simp only[STP,if_true,if_false,ite_true,ite_false,reduceIte,reduceCtorEq,OPP,k]
end
def rowT {α:Type}(e:α→D)(f:Nat→Nat→α)(w y:Nat):D:=.tup ((List.range w).map fun x=>e (f x y))
def rowsT {α:Type}(e:α→D)(f:Nat→Nat→α)(w h:Nat):D:=.tup ((List.range h).map fun y=>rowT e f w y)
theorem qK {s:Nat}(h:s≤16777216):rng1 [.int (s:Int)]=.ok ((List.range s).map fun i=>D.int ((i:Nat):Int)):=by
 show (if -16777216≤(s:Int)∧(s:Int)≤16777216 then R.ok (rngD 0 (s:Int).toNat) else R.stuck)=_
 rw[if_pos ⟨by omega,by omega⟩]
 unfold rngD
 simp
theorem pC {α:Type}{e:α→D}{f g:Nat→Nat→α}{w y:Nat}(h:∀ x,x < w→f x y=g x y):rowT e f w y=rowT e g w y:=by
 unfold rowT
 congr 1
 exact List.map_congr_left fun x hx=>by rw[h x (List.mem_range.mp hx)]
theorem nT {α:Type}{e:α→D}{f g:Nat→Nat→α}{w k:Nat}(h:∀ x y,x < w→y < k→f x y=g x y):rowsT e f w k=rowsT e g w k:=by
 unfold rowsT
 congr 1
 exact List.map_congr_left fun y hy=>pC fun x hx=>h x y hx (List.mem_range.mp hy)
theorem nU {α:Type}{e:α→D}{f:Nat→Nat→α}{w k y:Nat}(h:y < k):dIx (rowsT e f w k) (.int (y:Int))=.ok (rowT e f w y):=ixT (by simp[h])
theorem lq {α:Type}{e:α→D}(hE:∀ n a,good n (e a)=true)(f:Nat→Nat→α)(w y n:Nat):good (n+1) (rowT e f w y)=true:=by
 unfold rowT
 rw[good]
 exact cW fun d hd=>by
  obtain⟨x,_,rfl⟩:=List.mem_map.mp hd
  exact hE n _
section
variable {sz:Nat}{t:Q Int}
theorem Pc.row (p:Pc sz t){n:Nat}(hn:5≤n){y:Nat}(hy:y < 2^sz):pf n F.aq [picD sz t,.int (y:Int)]=.ok (rowT .int (t.at sz) (2^sz) y):=by
 obtain⟨n,rfl,hn⟩:=ex1 (show 4+1≤n by omega)
 have h3:=p.h3
 have hd:=p.dep
 have h8:=p8 h3
 have e1:=p.side (n:=n) (by omega)
 have hm:cMap (fun x=>(dIx (picD sz t) (.int 1)).bind fun x1=>pf n F.ap [x1,.int ((2^sz:Nat):Int),x,.int (y:Int)]) ((List.range (2^sz)).map fun i=>D.int ((i:Nat):Int))=.ok (.lst ((List.range (2^sz)).map fun x=>D.int (t.at sz x y))) :=
  qB _ _ fun x hx=>by
   unfold picD
   rw[ix21,R.bind_ok]
   exact jM En.int sz t n x y h3 hd (List.mem_range.mp hx) hy (by omega)
 rw[ma,cA]
 simp only[STP,if_true,if_false,ite_true,ite_false,reduceIte,reduceCtorEq,e1,qK (show 2^sz≤16777216 by omega),hm,OPP]
 rfl
theorem Pc.rows (p:Pc sz t){n:Nat}(hn:10≤n):pf n F.ad [picD sz t]=.ok (rowsT .int (t.at sz) (2^sz) (2^sz)):=by
 obtain⟨n,rfl,hn⟩:=ex1 (show 9+1≤n by omega)
 have h8:=p8 p.h3
 have e1:=p.side (n:=n) (by omega)
 have e2:=p.check (n:=n) (by omega)
 have hm:cMap (fun y=>pf n F.aq [picD sz t,y]) ((List.range (2^sz)).map fun i=>D.int ((i:Nat):Int))=.ok (.lst ((List.range (2^sz)).map fun y=>rowT .int (t.at sz) (2^sz) y)) :=
  qB _ _ fun y hy=>p.row (by omega) (List.mem_range.mp hy)
 rw[ke,bR]
 simp only[STP,if_true,if_false,ite_true,ite_false,reduceIte,reduceCtorEq,e1,e2,qK (show 2^sz≤16777216 by omega),hm,OPP]
 rfl
theorem sL {n:Nat}(hn:2≤n)(s x:Int):pf n F.ax [.int s,.int x]=.ok (.bl (decide (0≤x)&&decide (x < s))):=by
 obtain⟨n,rfl,hn⟩:=ex1 (show 1+1≤n by omega)
 rw[nF,db,jI (by omega) rfl]
 simp only[STP,if_true,if_false,ite_true,ite_false,reduceIte,reduceCtorEq,OPP,isW]
def inB (s:Nat)(x y:Int):Bool:=(decide (0≤x)&&decide (x < (s:Int)))&&(decide (0≤y)&&decide (y < (s:Int)))
theorem Pc.spot_any (p:Pc sz t){n:Nat}(hn:3≤n)(x y:Int):pf n F.ay [picD sz t,.int x,.int y]=if inB (2^sz) x y=true then .ok .non else .err 2:=by
 obtain⟨n,rfl,hn⟩:=ex1 (show 2+1≤n by omega)
 rw[j9,bQ,p.side (by omega)]
 simp only[STP,if_true,if_false,ite_true,ite_false,reduceIte,reduceCtorEq,sL (show 2≤n by omega)]
 unfold inB
 cases (decide (0≤x)&&decide (x < ((2^sz:Nat):Int)))<;>cases (decide (0≤y)&&decide (y < ((2^sz:Nat):Int)))<;>rfl
theorem xq {s x y:Nat}(hx:x < s)(hy:y < s):inB s x y=true:=by unfold inB;simp;omega
end
def Wo (f:Nat→Nat→Int)(sz:Nat):Prop:=∀ x y,x < 2^sz→y < 2^sz→W9 (f x y)
theorem u9 {xs ys:List D}(h:xs.length+ys.length≤16777216):oExt xs (.lst ys)=.ok (xs++ys):=by unfold oExt;simp[h]
theorem va {xs ys:List D}(h:xs.length+ys.length≤16777216):oExt xs (.tup ys)=.ok (xs++ys):=by unfold oExt;simp[h]
theorem xr {xs:List D}{y:D}(h:xs.length < 16777216):oApp xs y=.ok (xs++[y]):=by unfold oApp;simp[h]
section
variable {α:Type}[DecidableEq α]{e:α→D}
end
theorem jN {α:Type}(c:α→D){step:List D→D→L (List D)}(g:α→List D)(m:Nat):∀ (l:List α) (acc:List D),(∀ a∈l,∀ acc:List D,acc.length≤10000→step acc (c a)=.nx (acc++g a))→(∀ a∈l,(g a).length≤m)→acc.length+l.length*m≤10000→lFor step (l.map c) acc=.nx (acc++l.flatMap g)
 | [],acc,_,_,_=>by simp
 | a::l,acc,h,hm,hl=>by
  have hl':acc.length+(l.length+1)*m≤10000:=hl
  rw[Nat.add_mul]at hl'
  have ha:=hm a (.head _)
  rw[List.map_cons,gL,h a (.head _) acc (by omega),kR,jN c g m l (acc++g a) (fun b hb=>h b (.tail _ hb)) (fun b hb=>hm b (.tail _ hb)) (by rw[List.length_append];omega),List.flatMap_cons,List.append_assoc]
theorem jO:∀ is:List Int,intsOf (is.map .int)=some is
 | []=>rfl
 | i::r=>by rw[List.map_cons,intsOf,jO r];rfl
def vals (f:Nat→Nat→Int)(w k:Nat):List Int:=(List.range k).flatMap fun y=>(List.range w).map fun x=>f x y
theorem vb {f:Nat→Nat→Int}{w k:Nat}{v:Int}:v∈vals f w k↔∃ x y,x < w∧y < k∧v=f x y:=by
 unfold vals
 simp only[List.mem_flatMap,List.mem_map,List.mem_range]
 constructor
 ·rintro ⟨y,hy,x,hx,rfl⟩;exact⟨x,y,hx,hy,rfl⟩
 ·rintro ⟨x,y,hx,hy,rfl⟩;exact⟨y,hy,x,hx,rfl⟩
def seqD (b:Bool)(xs:List D):D:=if b then .tup xs else .lst xs
theorem zj {b:Bool}{xs:List D}(h:xs.length≤16777216):sq (seqD b xs)=.ok xs:=by cases b;exact uU h;exact jG h
def rowsS {α:Type}(b:Bool)(e:α→D)(f:Nat→Nat→α)(w h:Nat):D:=seqD b ((List.range h).map fun y=>rowT e f w y)
section
variable {sz:Nat}{tr:Q Int}
end
theorem nV {n:Nat}(hn:1≤n)(f:Nat→Nat→Int)(w h:Nat)(hw:w≤8)(hh:h≤8)(b:Bool):pf n F.ar [rowsS b .int f w h]=.ok (.lst ((vals f w h).map .int)):=by
 obtain⟨n,rfl,hn⟩:=ex1 (show 0+1≤n by omega)
 have h8:h*w≤64:=Nat.mul_le_mul hh hw
 have:=jN (fun y=>rowT .int f w y) (step:=fun s x=>cc (pf n) s x) (fun y=>(List.range w).map fun x=>D.int (f x y)) w (List.range h) [] (fun y hy acc ha=>by
  unfold cc rowT
  rw[va (by simp;omega)]
  rfl) (fun y hy=>by simp) (by simp;omega)
 have hsq:sq (rowsS b .int f w h)=.ok ((List.range h).map fun y=>rowT .int f w y):=zj (by simp;omega)
 rw[me,cB]
 simp only[STP,if_true,if_false,ite_true,ite_false,reduceIte,reduceCtorEq,hsq,this]
 unfold vals
 simp[List.map_flatMap,Function.comp_def]
section
variable {sz:Nat}{tr:Q Int}
end
theorem vc {a b:Nat}(h:a≤b)(hb:b≤1000000):rng2 [.int (a:Int),.int (b:Int)]=.ok ((List.range (b - a)).map fun i=>D.int (((a+i:Nat)):Int)):=by
 show (if (-16777216≤(a:Int)∧(a:Int)≤16777216)∧(-16777216≤(b:Int)∧(b:Int)≤16777216)∧(b:Int) - (a:Int)≤16777216 then R.ok (rngD (a:Int) ((b:Int) - (a:Int)).toNat) else R.stuck)=_
 rw[if_pos ⟨by omega,by omega,by omega⟩]
 unfold rngD
 rw[show ((b:Int) - (a:Int)).toNat=b - a by omega]
 congr 1
structure Sh (sz:Nat)(g:Nat→Nat→Int)(t:Q Int):Prop where
 p:Pc sz t
 w:∀ x y,x < 2^sz→y < 2^sz→t.at sz x y=g x y
theorem Sh.wo {sz:Nat}{g:Nat→Nat→Int}{t:Q Int}(h:Sh sz g t):Wo g sz:=fun x y hx hy=>by rw[← h.w x y hx hy];exact h.p.at x y
theorem sh_T {sz:Nat}{g:Nat→Nat→Int}(h3:sz≤3)(h:Wo g sz):Sh sz g (T g sz):=⟨pc_T h3 h,fun x y hx hy=>T_at sz g x y hx hy⟩
theorem Pc.sh {sz:Nat}{t:Q Int}(p:Pc sz t):Sh sz (t.at sz) t:=⟨p,fun _ _ _ _=>rfl⟩
section
variable {sz:Nat}{g:Nat→Nat→Int}{t:Q Int}
theorem Sh.lean (q:Sh sz g t){n:Nat}(hn:10≤n):pf n F.aC [picD sz t]=.ok (picD sz (T g sz)):=by rw[q.p.lean hn,bB sz _ _ q.w]
theorem Sh.rows (q:Sh sz g t){n:Nat}(hn:10≤n):pf n F.ad [picD sz t]=.ok (rowsT .int g (2^sz) (2^sz)):=by rw[q.p.rows hn,nT q.w]
end
section
variable {sz:Nat}{g:Nat→Nat→Int}{t:Q Int}
end
theorem nW {x:D}(h:good 60 x=true):dEq x x=.ok (.bl true):=by rw[f9 h h,FF.iX 60 x h]
section
variable {α:Type}[DecidableEq α]
end
section
variable {sz:Nat}{r:PySem.Str}{i:Nat}{f:Int→Int→Int}
variable {g g':Nat→Nat→Int}{t t':Q Int}
end
section
variable {α:Type}[DecidableEq α]
end
section
variable {p q r s:Nat}{m:Nat→(Nat→Nat→Int)→Nat→Nat→Int}
variable {sz:Nat}{g:Nat→Nat→Int}{t:Q Int}
end
section
variable {sz:Nat}{g g' g'':Nat→Nat→Int}{t t' t'':Q Int}
end
def rowI (g:Nat→Nat→Int)(w y:Nat):List Int:=(List.range w).map fun x=>g x y
theorem zk (g:Nat→Nat→Int)(w y:Nat):rowT .int g w y=.tup ((rowI g w y).map .int):=by unfold rowT rowI;rw[List.map_map];rfl
section
variable {sz:Nat}{g:Nat→Nat→Int}{t:Q Int}
theorem Sh.worths (q:Sh sz g t){n:Nat}(hn:1≤n):pf n F.ar [rowsT .int g (2^sz) (2^sz)]=.ok (.lst ((vals g (2^sz) (2^sz)).map .int)):=nV hn g _ _ (p8 q.p.h3) (p8 q.p.h3) true
end
section
variable {sz:Nat}{g:Nat→Nat→Int}{t:Q Int}
end
structure Bk where
 l:Nat
 t:Nat
 w:Nat
 v:Int
 deriving DecidableEq
def bks:Nat→Q Int→Nat→Nat→List Bk
 | n,.lf v,l,t=>[⟨l,t,2^n,v⟩]
 | 0,.nd _ _ _ _,_,_=>[]
 | n+1,.nd a b c d,l,t=>bks n a l t++(bks n b (l+2^n) t++(bks n c l (t+2^n)++bks n d (l+2^n) (t+2^n)))
theorem vd {σ:Type}(a b:D)(k:D→D→L σ):lUn2 (.tup [a,b]) k=k a b:=rfl
section
variable {sz:Nat}{g:Nat→Nat→Int}{t:Q Int}
def bs (sz:Nat)(g:Nat→Nat→Int):List Bk:=bks sz (T g sz) 0 0
end
theorem lr {α:Type}(a b:α→D):∀ l:List α,eqDs (l.map a) (l.map b)=l.all fun i=>eqD (a i) (b i)
 | []=>by simp[eqDs]
 | x::l=>by rw[List.map_cons,List.map_cons,eqDs,lr a b l,List.all_cons]
section
variable {sz sz':Nat}{g g':Nat→Nat→Int}{t t':Q Int}
end
section
variable {sz:Nat}{g g':Nat→Nat→Int}{t t':Q Int}
end
section
variable {sz:Nat}{g g':Nat→Nat→Int}{t t':Q Int}
end
theorem h7:∀ (k:Nat) (l:List Int),l.Nodup→(∀ v∈l,0≤v∧v < k)→l.length≤k
 | 0,l,_,h=>by
  cases l with
  | nil=>exact Nat.le_refl _
  | cons a l=>have:=h a (.head _);omega
 | k+1,l,nd,h=>by
  by_cases m:(k:Int)∈l
  ·have e:=List.length_erase_of_mem m
   have:=h7 k (l.erase k) (nd.erase _) fun v hv=>by
    have h1:=(List.Nodup.mem_erase_iff nd).mp hv
    have:=h v h1.2
    have:=h1.1
    omega
   omega
  ·have:=h7 k l nd fun v hv=>by
    have:=h v hv
    have:v≠k:=fun e=>m (e ▸ hv)
    omega
   omega
theorem ia:∀ (is ms:List Int),ms.Nodup→(is.foldl addI ms).Nodup∧∀ v,v∈is.foldl addI ms↔v∈ms∨v∈is
 | [],ms,h=>⟨h,fun v=>by simp⟩
 | k::is,ms,h=>by
  have h':(addI ms k).Nodup:=by
   unfold addI
   split
   ·exact h
   ·rename_i c;exact List.nodup_cons.mpr ⟨c,h⟩
  obtain⟨a,b⟩:=ia is (addI ms k) h'
  refine⟨a,fun v=>?_⟩
  rw[List.foldl_cons,b v]
  unfold addI
  split
  ·rename_i c
   simp only[List.mem_cons]
   exact⟨fun z=>z.elim .inl fun z=>.inr (.inr z),fun z=>z.elim .inl fun z=>z.elim (fun e=>.inl (e ▸ c)) .inr⟩
  ·simp only[List.mem_cons]
   exact⟨fun z=>z.elim (fun z=>z.elim (fun e=>.inr (.inl e)) .inl) fun z=>.inr (.inr z),fun z=>z.elim (fun z=>.inl (.inr z)) fun z=>z.elim (fun e=>.inl (.inl e)) .inr⟩
theorem ve (is:List Int)(v:Int):v∈onceI is↔v∈is:=by
 have:=(ia is [] List.nodup_nil).2 v
 unfold onceI
 simpa using this
theorem nX {is:List Int}(h:∀ v∈is,W9 v):(onceI is).length≤10:=by
 refine h7 10 _ (ia is [] List.nodup_nil).1 fun v hv=>?_
 have:=h v ((ve is v).mp hv)
 unfold W9 at this
 omega
def setL (is:List Int):List Int:=sortI (onceI is)
theorem sM {is:List Int}(h:∀ v∈is,W9 v):dSortS [.lst (is.map .int)]=.ok (.lst ((setL is).map .int)):=by
 unfold dSortS
 simp only[jO]
 have:=nX h
 rw[if_pos (by omega)]
 rfl
section
variable {sz:Nat}{g g':Nat→Nat→Int}{t t':Q Int}
theorem Sh.vals9 (q:Sh sz g t):∀ v∈vals g (2^sz) (2^sz),W9 v:=fun v hv=>by
 obtain⟨x,y,hx,hy,rfl⟩:=vb.mp hv
 exact q.wo x y hx hy
theorem Sh.worthsin (q:Sh sz g t){n:Nat}(hn:11≤n):pf n F.ab [picD sz t]=.ok (.lst ((setL (vals g (2^sz) (2^sz))).map .int)):=by
 obtain⟨n,rfl,hn⟩:=ex1 (show 10+1≤n by omega)
 rw[mf,cC,q.rows (by omega),R.bind_ok,q.worths (by omega),R.bind_ok,sM q.vals9]
 rfl
end
theorem xS (f:Nat→D):∀ (n k:Nat),enD ((List.range' k n).map f) k=(List.range' k n).map fun i=>.tup [.int (i:Int),f i]
 | 0,k=>rfl
 | n+1,k=>by rw[List.range'_succ,List.map_cons,enD,xS f n (k+1),List.map_cons]
theorem xt (f:Nat→D)(n:Nat)(hn:n≤1000):dEnum (.tup ((List.range n).map f))=.ok ((List.range n).map fun i:Nat=>.tup [.int (i:Int),f i]):=by
 unfold dEnum
 rw[jG (by simp;omega),R.bind_ok,List.range_eq_range',xS]
def cpD (p:Nat×Nat):D:=.tup [.int (p.1:Int),.int (p.2:Int)]
def sameR (g:Nat→Nat→Int)(s y o:Nat):Bool:=decide (∀ x,x < s→g x o=g x y)
def likes (g:Nat→Nat→Int)(s:Nat)(y:Nat):List (Nat×Nat):=(((List.range (s - (y+1))).map fun i=>y+1+i).filter (sameR g s y)).map fun o=>(y,o)
def likesL (g:Nat→Nat→Int)(s:Nat):List (Nat×Nat):=(List.range s).flatMap (likes g s)
theorem xv (g:Nat→Nat→Int)(s y o:Nat):dEq (rowT .int g s o) (rowT .int g s y)=.ok (.bl (sameR g s y o)):=by
 rw[f9 (lq En.int.gd g s o 59) (lq En.int.gd g s y 59)]
 unfold rowT sameR
 rw[eqD,lr]
 congr 2
 rw[Bool.eq_iff_iff]
 simp only[List.all_eq_true,List.mem_range,eqD,beq_iff_eq,decide_eq_true_eq]
theorem ib (g:Nat→Nat→Int)(s y:Nat):(likes g s y).length≤s:=by
 unfold likes
 rw[List.length_map]
 refine Nat.le_trans (List.length_filter_le _ _) ?_
 rw[List.length_map,List.length_range]
 omega
section
variable {sz:Nat}{g g':Nat→Nat→Int}{t t':Q Int}
theorem Sh.likerows (q:Sh sz g t){n:Nat}(hn:11≤n):pf n F.ac [picD sz t]=.ok (.lst ((likesL g (2^sz)).map cpD)):=by
 obtain⟨n,rfl,hn⟩:=ex1 (show 10+1≤n by omega)
 have h8:=p8 q.p.h3
 have en:dEnum (rowsT .int g (2^sz) (2^sz))=.ok ((List.range (2^sz)).map fun y:Nat=>.tup [.int (y:Int),rowT .int g (2^sz) y]):=xt _ _ (by omega)
 have ln:dLen [rowsT .int g (2^sz) (2^sz)]=.ok (.int ((2^sz:Nat):Int)):=by unfold rowsT;rw[f8];simp
 rw[mh,cD,q.rows (by omega),bN,en,bN]
 have step:∀ y∈List.range (2^sz),∀ acc:List D,acc.length≤10000→ce (pf n) (rowsT .int g (2^sz) (2^sz)) acc (.int (y:Int)) (rowT .int g (2^sz) y)=.nx (acc++(likes g (2^sz) y).map cpD):=by
  intro y hy acc ha
  have hy':=List.mem_range.mp hy
  have i1:(y:Int)+1=((y+1:Nat):Int):=by omega
  have cf:cFil (fun other=>asB ((dIx (rowsT .int g (2^sz) (2^sz)) other).bind fun x2=>dEq x2 (rowT .int g (2^sz) y))) (fun other=>.ok (.tup [.int (y:Int),other])) ((List.range (2^sz - (y+1))).map fun i=>D.int (((y+1+i:Nat)):Int))=.ok (.lst ((likes g (2^sz) y).map cpD)):=by
   have:=xh (l:=(List.range (2^sz - (y+1))).map fun i=>y+1+i) (c:=fun other=>asB ((dIx (rowsT .int g (2^sz) (2^sz)) other).bind fun x2=>dEq x2 (rowT .int g (2^sz) y))) (e:=fun other=>.ok (.tup [.int (y:Int),other])) (fun o:Nat=>D.int (o:Int)) (fun o=>cpD (y,o)) (sameR g (2^sz) y) fun o ho=>by
    obtain⟨i,hi,rfl⟩:=List.mem_map.mp ho
    have:=List.mem_range.mp hi
    rw[nU (by omega),R.bind_ok,xv]
    exact⟨rfl,fun _=>rfl⟩
   rw[List.map_map]at this
   unfold likes
   rw[List.map_map]
   exact this
  rw[ce,aN,R.bind_ok,ln,R.bind_ok,i1,vc (by omega) (by omega),R.bind_ok,cf,R.bind_ok,u9 (by have:=ib g (2^sz) y;rw[List.length_map];omega),bN]
 rw[jN (fun y:Nat=>D.tup [.int (y:Int),rowT .int g (2^sz) y]) (fun y=>(likes g (2^sz) y).map cpD) 8 _ [] (fun y hy acc ha=>by rw[vd];exact step y hy acc ha) (fun y _=>by have:=ib g (2^sz) y;rw[List.length_map];omega) (by rw[List.length_range,List.length_nil];omega),kR]
 unfold likesL
 rw[List.map_flatMap]
 rfl
end
def ruD (p:Int×Nat):D:=.tup [.int p.1,.int (p.2:Int)]
def stepR (acc:List (Int×Nat))(v:Int):List (Int×Nat):=match acc.getLast? with
 | some (w,n)=>if w=v then acc.dropLast++[(v,n+1)] else acc++[(v,1)]
 | none=>[(v,1)]
theorem jP (r:List (Int×Nat))(w:Int)(n:Nat)(v:Int):stepR (r++[(w,n)]) v=if w=v then r++[(v,n+1)] else r++[(w,n)]++[(v,1)]:=by
 unfold stepR
 have e:(r++[(w,n)]).getLast?=some (w,n):=by simp
 rw[e]
 simp
theorem jQ (l:List (Int×Nat)):l=[]∨∃ r w n,l=r++[(w,n)]:=by
 by_cases h:l=[]
 ·exact .inl h
 ·exact .inr ⟨l.dropLast,(l.getLast h).1,(l.getLast h).2,(List.dropLast_concat_getLast h).symm⟩
theorem xw (xs:List D)(x:D):oIx (xs++[x]) (.int (-1))=.ok x:=by
 unfold oIx
 have:L2.atI (xs++[x]) (-1)=some x:=by
  unfold L2.atI L2.ixN
  rw[if_neg (by decide),if_pos (by simp;omega)]
  show (xs++[x])[((-1:Int)+((xs++[x]).length:Int)).toNat]?=_
  rw[show ((-1:Int)+((xs++[x]).length:Int)).toNat=xs.length by simp;omega]
  simp
 simp only[this]
theorem xy (xs:List D)(x y:D):oStN (xs++[x]) (.int (-1)) y=.ok (xs++[y]):=by
 unfold oStN
 have:L2.ixN (xs++[x]).length (-1)=some xs.length:=by
  unfold L2.ixN
  rw[if_neg (by decide),if_pos (by simp;omega)]
  congr 1
  simp
  omega
 simp only[this]
 congr 1
 simp
theorem vf (t:Nat→List D→R D){acc:List (Int×Nat)}(hl:acc.length≤1000)(v:Int):bS t (acc.map ruD) (.int v)=.nx ((stepR acc v).map ruD):=by
 unfold bS
 rcases jQ acc with rfl | ⟨r,w,n,rfl⟩
 ·rfl
 ·have e0:dGt (.int (((r++[(w,n)]).map ruD).length:Nat)) (.int 0)=.ok (.bl true):=by
   rw[qC,decide_eq_true]
   simp
   try omega
  have e1:oIx ((r++[(w,n)]).map ruD) (.int (-1))=.ok (ruD (w,n)):=by rw[List.map_append];exact xw _ _
  have e2:dIx (ruD (w,n)) (.int 0)=.ok (.int w):=rfl
  have e3:dIx (ruD (w,n)) (.int 1)=.ok (.int (n:Int)):=rfl
  rw[e0,i8,e1,R.bind_ok,e2,R.bind_ok,mx,i8,qE,Bool.true_and,bN,jP]
  by_cases c:w=v
  ·rw[decide_eq_true c,if_pos rfl,if_pos c,R.bind_ok,e3,R.bind_ok,aN,R.bind_ok,R.bind_ok,List.map_append,show ([(w,n)]:List (Int×Nat)).map ruD=[ruD (w,n)] from rfl,xy,bN,List.map_append]
   rfl
  ·rw[decide_eq_false c,if_neg (by decide),if_neg c,xr (by rw[List.length_map];omega),bN,List.map_append (l₂:=[(v,1)])]
   rfl
theorem lu (acc:List (Int×Nat))(v:Int):(stepR acc v).length≤acc.length+1∧1≤(stepR acc v).length:=by
 rcases jQ acc with rfl | ⟨r,w,n,rfl⟩
 ·exact⟨Nat.le_refl _,Nat.le_refl _⟩
 ·rw[jP]
  split<;>simp
theorem nY (t:Nat→List D→R D):∀ (l:List Int) (acc:List (Int×Nat)),acc.length+l.length≤1000→lFor (τ:=List D) (fun s x=>bS t s x) (l.map .int) (acc.map ruD)=.nx ((l.foldl stepR acc).map ruD)
 | [],acc,_=>rfl
 | v::l,acc,h=>by
  rw[List.length_cons]at h
  have:=lu acc v
  rw[List.map_cons,gL,vf t (by omega) v,kR,nY t l (stepR acc v) (by omega),List.foldl_cons]
def rleL (g:Nat→Nat→Int)(s y:Nat):List (Int×Nat):=(rowI g s y).foldl stepR []
theorem fK:∀ (l:List Int) (acc:List (Int×Nat)),(l.foldl stepR acc).length≤acc.length+l.length∧(l≠[]→1≤(l.foldl stepR acc).length)∧(1≤acc.length→1≤(l.foldl stepR acc).length)
 | [],acc=>⟨by simp,fun h=>absurd rfl h,fun h=>h⟩
 | v::l,acc=>by
  have h1:=lu acc v
  have h2:=fK l (stepR acc v)
  rw[List.foldl_cons,List.length_cons]
  exact⟨by omega,fun _=>h2.2.2 h1.2,fun _=>h2.2.2 h1.2⟩
theorem gj (g:Nat→Nat→Int)(s y:Nat):(rowI g s y).length=s:=by unfold rowI;rw[List.length_map,List.length_range]
theorem xz (g:Nat→Nat→Int){s:Nat}(y:Nat)(hs:0 < s):(rleL g s y).length≤s∧1≤(rleL g s y).length:=by
 have h:=fK (rowI g s y) []
 rw[gj,List.length_nil]at h
 refine⟨by unfold rleL;omega,h.2.1 fun z=>?_⟩
 have:=congrArg List.length z
 rw[gj]at this
 simp at this
 omega
section
variable {sz:Nat}{g:Nat→Nat→Int}{t:Q Int}
theorem Sh.runsin (q:Sh sz g t){n:Nat}(hn:11≤n){y:Nat}(hy:y < 2^sz):pf n F.ag [picD sz t,.int (y:Int)]=.ok (.lst ((rleL g (2^sz) y).map ruD)):=by
 obtain⟨n,rfl,hn⟩:=ex1 (show 10+1≤n by omega)
 have h8:=p8 q.p.h3
 have cs:=q.p.spot_any (n:=n) (by omega) (0:Int) (y:Int)
 rw[show inB (2^sz) (0:Int) (y:Int)=true from xq (x:=0) (pos2 sz) hy,if_pos rfl]at cs
 have sr:sq (rowT .int g (2^sz) y)=.ok ((rowI g (2^sz) y).map .int):=by
  rw[zk]
  exact jG (by rw[List.length_map,gj];omega)
 have lp:=nY (pf n) (rowI g (2^sz) y) [] (by rw[gj,List.length_nil];omega)
 rw[o5,eG,q.p.check (by omega),bN,cs,bN,q.rows (by omega),R.bind_ok,nU hy,R.bind_ok,sr,bN]
 rw[show ([]:List D)=([]:List (Int×Nat)).map ruD from rfl,lp,kR]
 rfl
end
theorem xA (l:List (Int×Nat)):good 60 (.lst (l.map ruD))=true:=by
 show goods 59 _=true
 refine cW fun d hd=>?_
 obtain⟨k,_,rfl⟩:=List.mem_map.mp hd
 rfl
theorem xB (l:List (Nat×Nat)):good 60 (.lst (l.map cpD))=true:=by
 show goods 59 _=true
 refine cW fun d hd=>?_
 obtain⟨k,_,rfl⟩:=List.mem_map.mp hd
 rfl
theorem n3 {f:Nat→List (Nat×Nat)}{b:Nat}(h:∀ y,(f y).length≤b):∀ l:List Nat,(l.flatMap f).length≤l.length*b
 | []=>by simp
 | y::l=>by
  have:=n3 h l
  have:=h y
  rw[List.flatMap_cons,List.length_append,List.length_cons,Nat.succ_mul]
  omega
theorem pD {sz:Nat}(h:sz≤3)(g:Nat→Nat→Int):(likesL g (2^sz)).length≤1000:=by
 have h8:=p8 h
 have:=n3 (f:=likes g (2^sz)) (fun y=>ib g (2^sz) y) (List.range (2^sz))
 rw[List.length_range]at this
 have:2^sz*2^sz≤8*8:=Nat.mul_le_mul h8 h8
 unfold likesL
 omega
abbrev Dm:=List (L2.Key×D)
section
variable {m k:Dm}{x y:L2.Key}{d:D}
theorem xC:(m.any fun p=>decide (p.1=x))=true↔x∈m.map (·.1):=by grind
theorem xD (h:x∉m.map (·.1)):dicPut m x d=m++[(x,d)]:=by
 unfold dicPut
 rw[if_neg fun z=>h (xC.mp z)]
theorem dF (m:Dm):(m.map (·.1)).zip (m.map (·.2))=m:=by
 induction m with
 | nil=>rfl
 | cons p m ih=>rw[List.map_cons,List.map_cons,List.zip_cons_cons,ih]
theorem Ac {s:Str}(h:dicGet m (.inr s)=some d):dDx (dicD m) (.str s)=.ok d:=by
 show (match dicGet ((m.map (·.1)).zip (m.map (·.2))) (.inr s) with
   | some d=>R.ok d
   | none=>.stuck)=_
 rw[dF,h]
theorem vg {s:Str}:dDin (.str s) (dicD m)=.ok (.bl (dicGet m (.inr s)).isSome):=by
 show R.ok (D.bl (dicGet ((m.map (·.1)).zip (m.map (·.2))) (.inr s)).isSome)=_
 rw[dF]
theorem xE {s:Str}:dDnin (.str s) (dicD m)=.ok (.bl (!(dicGet m (.inr s)).isSome)):=by
 show R.ok (D.bl (!(dicGet ((m.map (·.1)).zip (m.map (·.2))) (.inr s)).isSome))=_
 rw[dF]
theorem n4:dicOf (dicD m)=.ok m:=by
 show (if (m.map (·.1)).length=(m.map (·.2)).length then R.ok ((m.map (·.1)).zip (m.map (·.2))) else .stuck)=_
 rw[if_pos (by simp),dF]
theorem qL {s:Str}(hl:m.length≤1000):oDSt m (.str s) d=.ok (dicPut m (.inr s) d):=by
 show (if m.length < 1000000 then R.ok (dicPut m (.inr s) d) else .stuck)=_
 rw[if_pos (by omega)]
end
theorem xF (l:List Str)(h:l.length≤1000):sq (.lst (l.map .str))=.ok (l.map .str):=uU (by rw[List.length_map];omega)
def All (P:Wd→D→Prop):RW→Prop
 | .ok w d=>P w d
 | .er _ _=>False
 | .al w f=>∀ a,w a=none→All P (f a)
 | .stuck=>False
theorem All.lwB {P P':Wd→D→Prop}{k:Wd→D→LW Unit}(hk:∀ w d,P w d→All P' (outW (k w d))):∀ {r:RW},All P r→All P' (outW (lwB r k))
 | .ok w d,h=>hk w d h
 | .er _ _,h=>h.elim
 | .al w f,h=>fun a e=>All.lwB hk (h a e)
 | .stuck,h=>h.elim
theorem All.rwB {P P':Wd→D→Prop}{k:Wd→D→RW}(hk:∀ w d,P w d→All P' (k w d)):∀ {r:RW},All P r→All P' (rwB r k)
 | .ok w d,h=>hk w d h
 | .er _ _,h=>h.elim
 | .al w f,h=>fun a e=>All.rwB hk (h a e)
 | .stuck,h=>h.elim
abbrev tx (s:String):D:=.str (PySem.Str.ofString s)
abbrev nSt:Str:=PySem.Str.ofString "steps"
abbrev nPg:Str:=PySem.Str.ofString "pages"
abbrev nPl:Str:=PySem.Str.ofString "place"
theorem cx (w:Wd)(d:D):rwR w (.ok d)=.ok w d:=rfl
theorem fj {α:Type}(w:Wd)(a:α)(k:α→RW):rwA w (.ok a) k=k a:=rfl
theorem d0 {α σ:Type}(w:Wd)(a:α)(k:α→LW σ):lwR w (.ok a) k=k a:=rfl
theorem bM {σ:Type}(w:Wd)(d:D)(k:Wd→D→LW σ):lwB (.ok w d) k=k w d:=rfl
theorem bo (w:Wd)(a:Nat)(o:OC):wput w a o a=some o:=if_pos rfl
theorem bC {w:Wd}{a b:Nat}{o:OC}(h:b≠a):wput w a o b=w b:=if_neg h
theorem bD {c:Nat}{w:Wd}{f:Str}{a:Nat}{fs:List (Str×D)}{x:D}(h:w a=some (.ins c fs))(hf:fs.lookup f=some x):dFld c w f (.ptr a)=.ok x:=by
 show (match w a with | some (.ins c' fs)=>if c'=c then match fs.lookup f with | some x=>R.ok x | none=>.stuck else .stuck | _=>.stuck)=_
 grind
theorem gm {c:Nat}{w:Wd}{f:Str}{a:Nat}{fs:List (Str×D)}{d:D}{σ:Type}{k:Wd→LW σ}(h:w a=some (.ins c fs))(hl:fs.length < 900):wFld c w f (.ptr a) d k=k (wput w a (.ins c (putD f d fs))):=by
 show (match w a with | some (.ins c' fs)=>if c'=c∧fs.length < 900 then k (wput w a (.ins c (putD f d fs))) else .stuck | _=>.stuck)=_
 grind
theorem dB {c:Nat}{w:Wd}{m:Str}{a:Nat}{fs:List (Str×D)}{k:R D}(h:w a=some (.ins c fs))(hf:fs.lookup m=none):rM c m w (.ptr a) k=k:=by
 show (match w a with | some (.ins c' fs)=>if c'=c∧fs.lookup m=none then k else .stuck | _=>.stuck)=_
 grind
theorem jR {c:Nat}{w:Wd}{m:Str}{a:Nat}{fs:List (Str×D)}{k:RW}(h:w a=some (.ins c fs))(hf:fs.lookup m=none):rwM c m w (.ptr a) k=k:=by
 show (match w a with | some (.ins c' fs)=>if c'=c∧fs.lookup m=none then k else .stuck | _=>.stuck)=_
 grind
theorem vh (i:Int):asI (.int i)=.ok (some i):=rfl
theorem xG {xs:List D}{a:Nat}(h:a≤xs.length):cutD xs none (some ((a:Nat):Int))=xs.take a:=by
 unfold cutD
 have e:HT.sIx xs.length xs.length (some (a:Int))=a:=by
  show (if ((a:Int) < 0) then (((a:Int)+(xs.length:Int)).toNat) else min ((a:Int).toNat) xs.length)=a
  grind
 rw[e,HT.sZ]
 simp
def stO (pg:List D)(i:Int):OC:=.ins 12 [(nPg,.lst pg),(nPl,.int i)]
structure PW (w:Wd)(p s:Nat)(pg:List D)(i:Nat):Prop where
 hp:w p=some (.ins 13 [(nSt,.ptr s)])
 hs:w s=some (stO pg i)
 ne:p≠s
def On (w:Wd)(p s:Nat):Prop:=∀ c,c≠p→c≠s→w c=none
theorem On.put {w:Wd}{p s c:Nat}{o:OC}(h:On w p s)(hc:c=p∨c=s):On (wput w c o) p s:=fun b h1 h2=>by
 rw[bC (by rcases hc with rfl | rfl<;>assumption)];exact h b h1 h2
theorem PW.new {w:Wd}{p s i a:Nat}{pg:List D}{o:OC}(h:PW w p s pg i)(ha:w a=none):PW (wput w a o) p s pg i :=
 ⟨by rw[bC (fun z=>by rw[← z,h.hp]at ha;cases ha)];exact h.hp,by rw[bC (fun z=>by rw[← z,h.hs]at ha;cases ha)];exact h.hs,h.ne⟩
def onW (w:Wd)(s:Nat)(pg:List D)(i:Nat)(d:D):Wd:=wput (wput w s (stO pg ((i:Int)+1))) s (stO (pg.take (i+1)++[d]) ((i:Int)+1))
section
variable {w:Wd}{p s i n:Nat}{pg:List D}{d:D}
theorem xH (h:PW w p s pg i)(hi:pg[i]?=some d):pr (n+1) M.Steps_here w [.ptr s]=.ok d:=by
 rw[ki,bW,bD (x:=.lst pg) h.hs rfl,R.bind_ok,bD (x:=.int (i:Int)) h.hs rfl,R.bind_ok,ixL hi]
 rfl
theorem vi (h:PW w p s pg i):pr (n+1) M.Steps_marks w [.ptr s]=.ok (.tup [.int (i:Int),.int ((pg.length:Int) - 1 - (i:Int))]):=by
 rw[jt,br,bD (x:=.int (i:Int)) h.hs rfl,R.bind_ok,bD (x:=.lst pg) h.hs rfl,R.bind_ok,nO,R.bind_ok,dW,R.bind_ok,R.bind_ok,dW]
 rfl
theorem sN (h:PW w p s pg i):pr (n+2) M.Album_marks w [.ptr p]=.ok (.tup [.int (i:Int),.int ((pg.length:Int) - 1 - (i:Int))]):=by
 rw[jx,bz,bD (x:=.ptr s) h.hp rfl,R.bind_ok,dB h.hs rfl,vi h]
 rfl
theorem Ad (h:PW w p s pg i)(hi:i < pg.length)(hl:pg.length≤1000)(d:D):pw (n+1) M.Steps_go_on w [.ptr s,d]=.ok (onW w s pg i d) .non:=by
 have e1:wput w s (stO pg ((i:Int)+1)) s=some (stO pg ((i:Int)+1)):=bo _ _ _
 have c1:cutD pg none (some ((i:Int)+1))=pg.take (i+1):=by
  have:=xG (xs:=pg) (a:=i+1) (by omega)
  rw[← this];rfl
 have sl:dSwL (.lst pg) none (some ((i:Int)+1))=.ok (.lst (pg.take (i+1))):=by show R.ok (D.lst (cutD pg none (some ((i:Int)+1))))=_;rw[c1]
 have ad:dAdd (.lst (pg.take (i+1))) (.lst [d])=.ok (.lst (pg.take (i+1)++[d])):=by
  show (if (pg.take (i+1)).length+[d].length≤16777216 then _ else _)=_
  rw[if_pos (by rw[List.length_take,List.length_singleton];omega)]
 rw[js,bq,bD (x:=.int (i:Int)) h.hs rfl,R.bind_ok,aN]
 simp only[cx,bM]
 rw[gm h.hs (by show 2 < 900;decide)]
 show outW (lwB (rwR (wput w s (stO pg ((i:Int)+1))) (((dFld 12 (wput w s (stO pg ((i:Int)+1))) nPg (.ptr s)).bind fun x1=>((dFld 12 (wput w s (stO pg ((i:Int)+1))) nPl (.ptr s)).bind asI).bind fun i=>dSwL x1 none i).bind fun x2=>dAdd x2 (.lst [d]))) _)=_
 rw[bD (x:=.lst pg) e1 rfl,R.bind_ok,bD (x:=.int ((i:Int)+1)) e1 rfl,R.bind_ok,vh,R.bind_ok,sl,R.bind_ok,ad]
 simp only[cx,bM]
 rw[gm e1 (by show 2 < 900;decide)]
 rfl
theorem PW.on (h:PW w p s pg i)(d:D):PW (onW w s pg i d) p s (pg.take (i+1)++[d]) (i+1) :=
 ⟨by unfold onW;rw[bC h.ne,bC h.ne];exact h.hp,by unfold onW;rw[bo];rfl,h.ne⟩
variable {wd nm x y z:D}{j:Nat}
theorem iM (h:PW w p s pg i)(hi:pg[i]?=some (.tup [wd,d])):pr (n+2) M.Album_pictures w [.ptr p]=.ok d:=by
 rw[fU,aJ,bD (x:=.ptr s) h.hp rfl,R.bind_ok,dB h.hs rfl,xH h hi]
 rfl
theorem zl (h:PW w p s pg i)(hi:pg[i]?=some (.tup [wd,d]))(hl:pg.length≤1000){m m':List (L2.Key×D)}(hm:dicOf d=.ok m)(hs:oDSt m nm x=.ok m')(v:D):pw (n+3) M.Album_go_on w [.ptr p,v,nm,x]=.ok (onW w s pg i (.tup [v,dicD m'])) .non:=by
 rw[jv,bv,dB h.hp rfl,iM (n:=n) h hi,R.bind_ok,hm,d0,hs,d0,bD (x:=.ptr s) h.hp rfl,fj,jR h.hs rfl]
 show outW (lwB (pw (n+2) M.Steps_go_on w [.ptr s,.tup [v,dicD m']]) _)=_
 rw[Ad h (List.getElem?_eq_some_iff.mp hi).1 hl]
 rfl
theorem qM (h:PW w p s pg i)(hi:pg[i]?=some (.tup [wd,d]))(hl:pg.length≤1000){m m':List (L2.Key×D)}(hx:pf (n+3) F.aC [x]=.ok y)(hn:pf (n+3) F.ak [nm]=.ok z){b:D}(hd:dDin nm d=.ok b)(hm:dicOf d=.ok m)(hs:oDSt m nm y=.ok m') :
  pw (n+4) M.Album_put w [.ptr p,nm,x]=.ok (onW w s pg i (.tup [tx "put",dicD m'])) b:=by
 rw[mj,cF,hx,d0,hn,cx,bM,dB h.hp rfl,iM (n:=n+1) h hi,R.bind_ok,hd,d0,fj,jR h.hp rfl]
 show outW (lwB (pw (n+3) M.Album_go_on w [.ptr p,tx "put",nm,y]) _)=_
 rw[zl h hi hl hm hs]
 rfl
theorem zm (h:PW w p s pg i)(hi:pg[i]?=some (.tup [wd,d]))(hn:pf (n+2) F.aA [nm]=.ok (.bl true))(hd:dDnin nm d=.ok (.bl false))(hx:dDx d nm=.ok x):pr (n+3) M.Album_picture_of w [.ptr p,nm]=.ok x:=by
 rw[eM,aB,hn,dB h.hp rfl,iM (n:=n) h hi,R.bind_ok,hd,R.bind_ok,hx];rfl
theorem vj (h:PW w p s pg i)(hi:pg[i]?=some (.tup [wd,d]))(hd:dSortD [d]=.ok x):pr (n+3) M.Album_names w [.ptr p]=.ok x:=by
 rw[jw,bw,dB h.hp rfl,iM (n:=n) h hi,R.bind_ok,hd];rfl
end
theorem vk {W:Wd}{s n:Nat}(h:W s=some (.ins 12 []))(d:D):pw (n+1) M.Steps_init W [.ptr s,d]=.ok (wput (wput W s (.ins 12 [(nPg,.lst [d])])) s (stO [d] 0)) .non:=by
 rw[kh,bV,cx,bM,gm h (by decide),cx,bM]
 rw[gm (bo W s (.ins 12 (putD "pages" (.lst [d]) []))) (by show 1 < 900;decide)]
 rfl
theorem vm {W:Wd}{p n:Nat}{d:D}(h:W p=some (.ins 13 []))(ho:∀ c,c≠p→W c=none):All (fun w r=>r=.non∧∃ s,PW w p s [.tup [tx "",d]] 0∧On w p s) (pw (n+2) M.Album_begin W [.ptr p,d]):=by
 rw[ju,bu]
 show All _ (outW (lwB (rwNew 12 W (pw (n+1) M.Steps_init) [.tup [tx "",d]]) _))
 refine All.lwB (P:=fun w r=>∃ s,s≠p∧r=.ptr s∧w p=some (.ins 13 [])∧w s=some (stO [.tup [tx "",d]] 0)∧On w p s) (fun w r hw=>?_) ?_
 ·obtain⟨s,ne,rfl,h1,h2,h3⟩:=hw
  rw[gm h1 (by decide)]
  exact⟨rfl,s,⟨by rw[bo];rfl,by rw[bC ne];exact h2,ne.symm⟩,h3.put (.inl rfl)⟩
 ·intro s hs
  have ne:s≠p:=fun z=>by rw[z,h]at hs;cases hs
  show All _ (rwB (pw (n+1) M.Steps_init (wput W s (.ins 12 [])) [.ptr s,.tup [tx "",d]]) _)
  rw[vk (bo _ _ _)]
  exact⟨s,ne,rfl,by rw[bC ne.symm,bC ne.symm,bC ne.symm];exact h,bo _ _ _,On.put (On.put (On.put (fun c h1 _=>ho c h1) (.inr rfl)) (.inr rfl)) (.inr rfl)⟩
theorem vn {W:Wd}{p n:Nat}(h:W p=some (.ins 13 []))(ho:∀ c,c≠p→W c=none):All (fun w r=>r=.non∧∃ s,PW w p s [.tup [tx "",.dic [] []]] 0∧On w p s) (pw (n+3) M.Album_init W [.ptr p]):=by
 rw[kj,bX,fj,jR h rfl]
 show All _ (outW (lwB (pw (n+2) M.Album_begin W [.ptr p,.dic [] []]) _))
 refine All.lwB (P:=fun w r=>r=.non∧∃ s,PW w p s [.tup [tx "",.dic [] []]] 0∧On w p s) (fun w r hw=>?_) (vm h ho)
 exact⟨rfl,hw.2⟩
abbrev kA:Str:=PySem.Str.ofString "a"
abbrev kB:Str:=PySem.Str.ofString "b"
theorem ic {α:Type}(f:α→D)(h:∀ a,lfD (f a)=true):∀ l:List α,lfs (l.map f)=true
 | []=>by rw[List.map_nil,lfs]
 | a::l=>by rw[List.map_cons,lfs,h a,ic f h l];rfl
theorem d7 (i:Int):lfD (.int i)=true:=by simp[lfD]
theorem pE (x:Str):lfD (.str x)=true:=by simp[lfD]
theorem pF (a:Nat):lfD (.ptr a)=true:=by simp[lfD]
theorem lf_2 {a b:D}(h1:lfD a=true)(h2:lfD b=true):lfD (.tup [a,b])=true:=by rw[lfD,lfs,lfs,lfs,h1,h2];rfl
theorem lf_q:∀ t:Q Int,lfD (t.d .int)=true
 | .lf a=>d7 a
 | .nd a b c d=>by rw[Q.d,lfD,lfs,lfs,lfs,lfs,lfs,lf_q a,lf_q b,lf_q c,lf_q d];rfl
theorem mz (sz:Nat)(t:Q Int):lfD (picD sz t)=true:=lf_2 (d7 _) (lf_q t)
theorem jS {d:D}(h:lfD d=true):lfs [d]=true:=by rw[lfs,lfs,h];rfl
theorem jT {α:Type}(f:α→D){p:D}{ds:List D}(h:∀ a,ap1 (f a) p=true)(l:List α):apL (l.map f) (p::ds)=true:=by
 unfold apL
 cases l with
 | nil=>rfl
 | cons a l=>rw[List.map_cons];show (_||ap1 (f a) p)=true;rw[h a,Bool.or_true]
def isT' (b:Bool):R D→Bool
 | .ok (.bl c)=>c==b
 | _=>false
theorem xI {b:Bool}{r:R D}(h:isT' b r=true):r=.ok (.bl b):=by
 unfold isT' at h
 grind
theorem isn {s:Str}(h:s=kA∨s=kB)(n:Nat):pf (n+1) F.aA [.str s]=.ok (.bl true):=by
 show outL (gS (fun _ _=>.stuck) (.str s))=_
 rcases h with rfl | rfl<;>exact xI (by decide +kernel)
theorem ckn {s:Str}(h:s=kA∨s=kB)(n:Nat):pf (n+2) F.ak [.str s]=.ok .non:=by
 rw[kg,bU,isn h];rfl
def dma (y:D):Dm:=[(.inr kA,y)]
def dmb (y:D):Dm:=[(.inr kA,y),(.inr kB,y)]
def pg2 (y:D):List D:=[.tup [tx "",.dic [] []],.tup [tx "put",dicD (dma y)],.tup [tx "put",dicD (dmb y)]]
structure Alb (w:Wd)(p s:Nat)(y:D):Prop where
 h:PW w p s (pg2 y) 2
 on:On w p s
section
variable {w:Wd}{p s n:Nat}{sz:Nat}{g:Nat→Nat→Int}{t:Q Int}
theorem Ae (q:Sh sz g t)(h:PW w p s [.tup [tx "",.dic [] []]] 0)(o:On w p s):∃ w' b,pw 37 M.Album_put w [.ptr p,tx "a",picD sz t]=.ok w' b∧PW w' p s [.tup [tx "",.dic [] []],.tup [tx "put",dicD (dma (picD sz (T g sz)))]] 1∧On w' p s :=
 ⟨_,_,qM (n:=33) h rfl (by decide) (q.lean (by decide)) (ckn (.inl rfl) 34) (vg (m:=[])) (n4 (m:=[])) (qL (by decide)),h.on _,(o.put (.inr rfl)).put (.inr rfl)⟩
theorem Af (q:Sh sz g t)(h:PW w p s [.tup [tx "",.dic [] []],.tup [tx "put",dicD (dma (picD sz (T g sz)))]] 1)(o:On w p s):∃ w' b,pw 37 M.Album_put w [.ptr p,tx "b",picD sz t]=.ok w' b∧Alb w' p s (picD sz (T g sz)):=by
 have e:dicPut (dma (picD sz (T g sz))) (.inr kB) (picD sz (T g sz))=dmb (picD sz (T g sz)):=xD fun h=>absurd (Sum.inr.inj (List.mem_singleton.mp h)) (by decide)
 have:=qM (n:=33) (nm:=tx "b") h rfl (by show 2≤1000;decide) (q.lean (by decide)) (ckn (.inr rfl) 34) vg n4 (qL (s:=kB) (d:=picD sz (T g sz)) (by show 1≤1000;decide))
 rw[e]at this
 exact⟨_,_,this,h.on _,(o.put (.inr rfl)).put (.inr rfl)⟩
theorem nms (h:PW w p s (pg2 (picD sz (T g sz))) 2)(n:Nat):pr (n+3) M.Album_names w [.ptr p]=.ok (.lst ([kA,kB].map .str)):=vj h rfl (by rfl)
theorem pofs (h:PW w p s (pg2 (picD sz (T g sz))) 2)(n:Nat){k:Str}(hk:k=kA∨k=kB):pr (n+3) M.Album_picture_of w [.ptr p,.str k]=.ok (picD sz (T g sz)):=by
 have e:dicGet (dmb (picD sz (T g sz))) (.inr k)=some (picD sz (T g sz)):=by rcases hk with rfl | rfl<;>rfl
 exact zm h rfl (isn hk _) (by rw[xE,e];rfl) (Ac e)
theorem sam (h:PW w p s (pg2 (picD sz (T g sz))) 2)(hg:good 60 (picD sz (T g sz))=true):pr 37 M.Album_same_as w [.ptr p,tx "a"]=.ok (.lst ([kB].map .str)):=by
 have e1:∀ k,k=kA∨k=kB→rM 13 "picture_of" w (.ptr p) ((rL [(.ok (.str k))]).bind fun ds=>pr 36 M.Album_picture_of w (.ptr p::ds))=.ok (picD sz (T g sz)):=fun k hk=>by
  rw[dB h.hp rfl]
  exact pofs h 33 hk
 rw[gW,aQ,e1 kA (.inl rfl),bN,dB h.hp rfl,nms h 33,R.bind_ok,xF _ (by decide),R.bind_ok]
 have f1:dNf (.str kA) (tx "a")=.ok (.bl false):=by rfl
 have f2:dNf (.str kB) (tx "a")=.ok (.bl true):=by rfl
 have f3:=nW hg
 have c:cFil (fun other=>(rAnd (asB (dNf other (tx "a"))) (asB ((rM 13 "picture_of" w (.ptr p) ((rL [(.ok other)]).bind fun ds1=>pr 36 M.Album_picture_of w (.ptr p::ds1))).bind fun x1=>dEq x1 (picD sz (T g sz)))))) (fun other=>.ok other) ([kA,kB].map .str)=.ok (.lst ([kB].map .str)):=by
  have a1:rAnd (asB (dNf (.str kA) (tx "a"))) (asB ((rM 13 "picture_of" w (.ptr p) ((rL [(.ok (.str kA))]).bind fun ds1=>pr 36 M.Album_picture_of w (.ptr p::ds1))).bind fun x1=>dEq x1 (picD sz (T g sz))))=.ok false:=by rw[f1];rfl
  have a2:rAnd (asB (dNf (.str kB) (tx "a"))) (asB ((rM 13 "picture_of" w (.ptr p) ((rL [(.ok (.str kB))]).bind fun ds1=>pr 36 M.Album_picture_of w (.ptr p::ds1))).bind fun x1=>dEq x1 (picD sz (T g sz))))=.ok true:=by rw[f2,e1 kB (.inr rfl),R.bind_ok,f3];rfl
  unfold cFil
  simp only[List.map_cons,List.map_nil,cGo,a1,a2]
  rfl
 rw[c];rfl
theorem jU (a:Alb w p s (picD sz (T g sz))){xs:List D}(h:apL xs (pg2 (picD sz (T g sz)))=true):lfW w xs:=fun c o e=>by
 by_cases h1:c=p
 ·subst h1
  rw[a.h.hp]at e;cases e
  intro d hd
  rw[List.mem_singleton.mp hd]
  exact .inl (pF _)
 by_cases h2:c=s
 ·subst h2
  rw[a.h.hs]at e;cases e
  intro d hd
  rcases List.mem_cons.mp hd with rfl | hd
  ·refine .inr ⟨_,rfl,?_,h⟩
   have y:=mz sz (T g sz)
   unfold pg2 dma dmb dicD
   simp only[List.map_cons,List.map_nil,lfs,lfD,y,Bool.and_true,Bool.and_self,pE]
  ·rw[List.mem_singleton.mp hd];exact .inl (d7 _)
 ·rw[a.on c h1 h2]at e;cases e
end
theorem gn {rf:Wd→RW}{ds xs:List D}{W:Wd}{q:D}(t:∀ w,(w=W∨∃ a o,W a=none∧w=wput W a o)→rf w=.ok w (.lst xs))(lx:lfs xs=true)(ld:lfs ds=true)(lw:lfW W xs)(ln:xs.length≤1000)(g:good 60 (.lst xs)=true):outW (cStay rf ds q W)=.ok W (.bl true):=by
 rw[uR (xs:=xs) ⟨t W (.inl rfl),fun a h=>t _ (.inr ⟨a,_,h,rfl⟩),lx,ld,lw,by omega,nW g⟩];rfl
theorem vp {σ:Type}(a b:D)(k:D→D→LW σ):lwUn2 (.tup [a,b]) k=k a b:=rfl
theorem kC (ns:List Int):All (fun _ d=>d=.bl true) (pw 40 M.law_k87 (fun _=>none) [.lst (ns.map .int)]):=by
 obtain⟨sz,tr,_,p0,hp⟩:=xp ns 0 3 37 (by decide) (by decide)
 have h3:=p0.h3
 have h8:=p8 h3
 have q:=p0.sh
 rw[o6 37]
 unfold eI
 rw[show pf 37 F.au [.lst (ns.map .int),.int 0,.int 3]=.ok (picD sz tr) from hp,cx]
 refine All.lwB (P:=fun w d=>∃ p s,d=.tup [picD sz tr,.ptr p]∧PW w p s [.tup [tx "",.dic [] []]] 0∧On w p s) (fun w d hw=>?_) ?_
 ·obtain⟨p,s,rfl,g0,o0⟩:=hw
  obtain⟨w1,b1,e1,g1,o1⟩:=Ae q g0 o0
  obtain⟨w2,b2,e2,A⟩:=Af q g1 o1
  have rl:∀ x:D,rL [(.ok x),(.ok (picD sz tr))]=.ok [x,picD sz tr]:=fun x=>rfl
  have gd:good 60 (picD sz (T (tr.at sz) sz))=true:=eL (sh_T h3 q.wo).p.good (by decide)
  have PN:∀ w,(w=w2∨∃ a o,w2 a=none∧w=wput w2 a o)→PW w p s (pg2 (picD sz (T (tr.at sz) sz))) 2:=fun w h=>by
   rcases h with rfl | ⟨a,o,ha,rfl⟩
   ·exact A.h
   ·exact A.h.new ha
  have lsz:=nX q.vals9
  have s1:=gn (rf:=fun w5=>rwR w5 (pf 37 F.ab [picD sz tr])) (ds:=[picD sz tr]) (q:=tx "?") (W:=w2) (fun w _=>by rw[q.worthsin (by decide),cx]) (ic _ d7 _) (jS (mz _ _)) (jU A (jT _ (fun _=>rfl) _)) (by rw[List.length_map];unfold setL;rw[(bi _).length_eq];omega) (hZ 59 _)
  have s2:=gn (xs:=(rleL (tr.at sz) (2^sz) 0).map ruD) (rf:=fun w5=>rwR w5 (pf 37 F.ag [picD sz tr,.int 0])) (ds:=[picD sz tr]) (q:=tx "?") (W:=w2) (fun w _=>by rw[show (.int 0:D)=.int ((0:Nat):Int) from rfl,q.runsin (by decide) (pos2 sz),cx]) (ic _ (fun _=>lf_2 (d7 _) (d7 _)) _) (jS (mz _ _)) (jU A (jT _ (fun _=>rfl) _)) (by have:=(xz (tr.at sz) 0 (pos2 sz)).1;rw[List.length_map];omega) (xA _)
  have s3:=gn (xs:=(likesL (tr.at sz) (2^sz)).map cpD) (rf:=fun w5=>rwR w5 (pf 37 F.ac [picD sz tr])) (ds:=[picD sz tr]) (q:=tx "?") (W:=w2) (fun w _=>by rw[q.likerows (by decide),cx]) (ic _ (fun _=>lf_2 (d7 _) (d7 _)) _) (jS (mz _ _)) (jU A (jT _ (fun _=>rfl) _)) (by rw[List.length_map];exact pD h3 _) (xB _)
  have s4:=gn (rf:=fun w5=>rwR w5 (rM 13 "names" w5 (.ptr p) (pr 37 M.Album_names w5 [.ptr p]))) (ds:=[.ptr p]) (q:=tx "?") (W:=w2) (fun w h=>by rw[dB (PN w h).hp rfl,nms (PN w h) 34,cx]) (ic _ pE _) (jS (pF _)) (jU A (jT _ (fun _=>rfl) _)) (by decide) rfl
  have s5:=gn (rf:=fun w5=>rwR w5 (rM 13 "same_as" w5 (.ptr p) ((rL [(.ok (.str "a"))]).bind fun ds=>pr 37 M.Album_same_as w5 (.ptr p::ds)))) (ds:=[.ptr p]) (q:=tx "?") (W:=w2) (fun w h=>by rw[dB (PN w h).hp rfl,show rL [(.ok (.str "a"))]=.ok [tx "a"] from rfl,R.bind_ok,sam (PN w h) gd,cx]) (ic _ pE _) (jS (pF _)) (jU A (jT _ (fun _=>rfl) _)) (by decide) rfl
  rw[vp,fj,jR g0.hp rfl,rl,fj,e1,bM,fj,jR g1.hp rfl,rl,fj,e2,bM]
  rw[s1,bM,s2,bM]
  rw[show oApp [(.bl true:D)] (.bl true)=.ok [.bl true,.bl true] from rfl,d0,s3,bM]
  rw[show oApp [(.bl true:D),.bl true] (.bl true)=.ok [.bl true,.bl true,.bl true] from rfl,d0,s4,bM]
  rw[show oApp [(.bl true:D),.bl true,.bl true] (.bl true)=.ok [.bl true,.bl true,.bl true,.bl true] from rfl,d0,s5,bM]
  rw[show oApp [(.bl true:D),.bl true,.bl true,.bl true] (.bl true)=.ok [.bl true,.bl true,.bl true,.bl true,.bl true] from rfl,d0]
  rw[dB A.h.hp rfl,nms A.h 34,dB A.h.hp rfl,sN (n:=35) A.h,R.bind_ok,R.bind_ok]
  exact rfl
 ·show All _ (rwB (rwNew 13 (fun _=>none) (pw 37 M.Album_init) []) fun w2 d1=>.ok w2 (.tup [picD sz tr,d1]))
  refine All.rwB (P:=fun w d=>∃ p s,d=.ptr p∧PW w p s [.tup [tx "",.dic [] []]] 0∧On w p s) (fun w d hw=>?_) ?_
  ·obtain⟨p,s,rfl,g0⟩:=hw
   exact⟨p,s,rfl,g0⟩
  ·intro p hp
   exact All.rwB (P:=fun w d=>d=.non∧∃ s,PW w p s [.tup [tx "",.dic [] []]] 0∧On w p s) (fun w d ⟨e,s,h⟩=>by subst e;exact⟨p,s,rfl,h⟩) (vn (n:=34) (bo _ _ _) fun c hc=>bC hc)
end Lw
end
end
noncomputable section
set_option maxHeartbeats 4000000
namespace Lw
open PySem PySem.Spec PyProof.Rows L2 FF
def cname:Nat→Str
 | 0 => "FourError"
 | 1 => "NoPicture"
 | 2 => "NoSpot"
 | 11 => "NoName"
 | 12 => "Steps"
 | 13 => "Album"
 | 21 => "is_worth"
 | 902 => "law"
 | _ => "?"
def CofN (K:PySem.W.Frag)(i:Nat):Addr:=match PySem.W.nsIn K mainGlobals (cname i) with
 | some (some (.ref a))=>a
 | _=>0
def Cof (K:PySem.W.Frag):Nat→Addr
 | 900=>1
 | 901=>(tabOf K "law").2
 | i=>CofN K i
theorem cof {K:PySem.W.Frag}{i:Nat}{x:Str}{a:Addr}(h:Ng K x (some (.ref a)))(hx:cname i=x:=by rfl)(hi:Cof K i=CofN K i:=by rfl):Cof K i=a:=by rw[hi];unfold CofN;rw[hx,h]
structure Fds (K:PySem.W.Frag)(mg:Str→Option Value):Prop where
 F20:Fd K mg "is_whole" ["thing"] e9
 F21:Fd K mg "is_worth" ["thing"] fb
 F22:Fd K mg "is_size" ["thing"] gX
 F23:Fd K mg "is_tree" ["size","thing","is_end"] gY
 F24:Fd K mg "is_sized_tree" ["thing","is_end"] bI
 F25:Fd K mg "put_together" ["four"] cg
 F26:Fd K mg "lean_tree" ["tree"] dL
 F43:Fd K mg "worth_in" ["tree","side","x","y"] fc
 F27:Fd K mg "is_picture" ["thing"] de
 F28:Fd K mg "check_picture" ["thing"] bJ
 F45:Fd K mg "side_of" ["picture"] g5
 F46:Fd K mg "is_along" ["side","thing"] fe
 F47:Fd K mg "check_spot" ["picture","x","y"] df
 F49:Fd K mg "shown_row" ["picture","y"] dN
 F50:Fd K mg "shown_rows" ["picture"] dg
 F29:Fd K mg "lean" ["picture"] pb
 F72:Fd K mg "worths_of" ["rows"] dO
 F76:Fd K mg "worths_in" ["picture"] dP
 F79:Fd K mg "runs_in" ["picture","y"] g6
 F80:Fd K mg "like_rows" ["picture"] dQ
 F280:Fd K mg "is_name" ["thing"] g7
 F334:Fd K mg "check_name" ["thing"] di
 F30:Fd K mg "_law_cell" ["_law_script","_law_k"] jy
 F31:Fd K mg "_law_pick" ["_law_script","_law_k","_law_many"] jz
 F32:Fd K mg "_law_tree" ["_law_script","_law_at","_law_size"] jA
 F33:Fd K mg "_law_picture" ["_law_script","_law_at","_law_most"] dR
 F_law_k87:Fd K mg "law" ["_law_script"] aC
 D_L_stays:Fd K mg "_law_stays" ["_law_deed"] eJ
structure Mds (K:PySem.W.Frag)(mg:Str→Option Value):Prop where
 K_Steps:Kl K mg (Cof K) 12 "Steps" "Steps.__init__" ["self","first"] dl
 M_Steps_here:Md K (Cof K) 12 "here" "Steps.here" ["self"] dq
 M_Steps_go_on:Md K (Cof K) 12 "go_on" "Steps.go_on" ["self","page"] cJ
 M_Steps_marks:Md K (Cof K) 12 "marks" "Steps.marks" ["self"] cK
 K_Album:Kl K mg (Cof K) 13 "Album" "Album.__init__" ["self"] dr
 M_Album_begin:Md K (Cof K) 13 "begin" "Album.begin" ["self","held"] cL
 M_Album_pictures:Md K (Cof K) 13 "pictures" "Album.pictures" ["self"] bj
 M_Album_go_on:Md K (Cof K) 13 "go_on" "Album.go_on" ["self","word","name","picture"] cM
 M_Album_put:Md K (Cof K) 13 "put" "Album.put" ["self","name","picture"] dU
 M_Album_picture_of:Md K (Cof K) 13 "picture_of" "Album.picture_of" ["self","name"] aU
 M_Album_names:Md K (Cof K) 13 "names" "Album.names" ["self"] cN
 M_Album_same_as:Md K (Cof K) 13 "same_as" "Album.same_as" ["self","name"] bL
 M_Album_marks:Md K (Cof K) 13 "marks" "Album.marks" ["self"] cO
 N_Steps_pages:NoAttr K (Cof K 12) "pages"
 N_Steps_place:NoAttr K (Cof K 12) "place"
 N_Album_steps:NoAttr K (Cof K 13) "steps"
theorem Ag {K:PySem.W.Frag}{c:Nat}{x m qual:Str}{ps:List Str}{st:Stmt}{Ck f:Addr}{oc:Value}{od an:Option Addr}{osl:Array (Option Value)}{kV doc pm cdv ct:Value}(hx:cname c=x)
  (hb:∀ (kV doc pm:Value) (an:Option Addr) (cdv ct:Value) (us:List Value),us.length=ps.length→bindArgs (PySem.W.fnOf m qual (defArgs st) (defBody st) (defScope st) .none kV doc pm an cdv ct) ⟨us,[]⟩=pure (ps.zip us))
  (z:Ng K x (some (.ref Ck))) (a:PySem.W.findIn K (.ref Ck) m=some (some (.ref f))) (i:PySem.W.isFn K (.ref f)=true) (l:K.lookup f=some ⟨oc,od,.func (PySem.W.fnOf m qual (defArgs st) (defBody st) (defScope st) .none kV doc pm an cdv ct),osl⟩) (c':PySem.W.codeIn K cdv qual=true) (k:PySem.W.keepIn K (.ref f)=true) (hi:Cof K c=CofN K c:=by rfl):Md K (Cof K) c m qual ps st :=
 ⟨f,_,eS l c' k,by rw[cof z hx hi];exact⟨a,i,k⟩,(eS l c' k).binds hb⟩
theorem Ah {K:PySem.W.Frag}{h:Heap}{mg:Str→Option Value}{c:Nat}{x qual:Str}{ps:List Str}{st:Stmt}{Ck f:Addr}{oc:Value}{od an:Option Addr}{osl:Array (Option Value)}{kV doc pm cdv ct:Value}(X:K.In h)(G:h.Ns mainGlobals mg)(hx:cname c=x)
  (hb:∀ (kV doc pm:Value) (an:Option Addr) (cdv ct:Value) (us:List Value),us.length=ps.length→bindArgs (PySem.W.fnOf "__init__" qual (defArgs st) (defBody st) (defScope st) .none kV doc pm an cdv ct) ⟨us,[]⟩=pure (ps.zip us))
  (z:Ng K x (some (.ref Ck))) (a:PySem.W.findIn K (.ref Ck) "__init__"=some (some (.ref f))) (i:PySem.W.isFn K (.ref f)=true) (l:K.lookup f=some ⟨oc,od,.func (PySem.W.fnOf "__init__" qual (defArgs st) (defBody st) (defScope st) .none kV doc pm an cdv ct),osl⟩) (c':PySem.W.codeIn K cdv qual=true) (k:PySem.W.keepIn K (.ref f)=true)
  (pg:PySem.W.plainGet K Ck Str.empty=true) (hd:PySem.W.hasDictIn K Ck=true) (po:PySem.W.plainOver K Ck=true) (sa:PySem.W.findIn K (.ref Ck) "__setattr__"=some (some (.builtin "object.__setattr__"))) (mk:PySem.W.makesIn K Ck=true) (kc:PySem.W.keepIn K (.ref Ck)=true) (hi:Cof K c=CofN K c:=by rfl):Kl K mg (Cof K) c x qual ps st :=
 ⟨⟨f,_,eS l c' k,by rw[cof z hx hi];exact⟨mk,a,i,kc⟩,by rw[cof z hx hi];exact PySem.W.mg_of X G z,(eS l c' k).binds hb⟩,by rw[cof z hx hi];exact⟨pg,hd,po,sa⟩⟩
theorem Ai {K:PySem.W.Frag}{c:Nat}{x a:Str}{Ck:Addr}(hx:cname c=x)(z:Ng K x (some (.ref Ck)))(n:PySem.W.findIn K (.ref Ck) a=some none)(hi:Cof K c=CofN K c:=by rfl):NoAttr K (Cof K c) a:=by rw[cof z hx hi];exact n
theorem tab {P:Program}{w:World}{K:PySem.W.Frag}{mg:Str→Option Value}{base:Heap}{C:Nat→Addr}(T:Txt K mg C w.params)(S:Fds K mg):∀ n,Tab P w K mg base C n (pf n)
 | 0=>⟨g0 S.F20,g0 S.F21,g0 S.F22,g0 S.F23,g0 S.F24,g0 S.F25,g0 S.F26,g0 S.F43,g0 S.F27,g0 S.F28,g0 S.F45,g0 S.F46,g0 S.F47,g0 S.F49,g0 S.F50,g0 S.F29,g0 S.F72,g0 S.F76,g0 S.F79,g0 S.F80,g0 S.F280,g0 S.F334,g0 S.F30,g0 S.F31,g0 S.F32,g0 S.F33,
  fun i hi=>by
  simp only[fvL,List.mem_cons,List.not_mem_nil,or_false]at hi
  rcases hi with rfl
  ·exact zT S.F21 T.f_is_worth⟩
 | n+1=>by
  have G:=tab T S n (P:=P) (w:=w) (base:=base)
  exact⟨g1 S.F20 (nK T G),g1 S.F21 (iu T G),g1 S.F22 (pd T G),g1 S.F23 (ph T G),g1 S.F24 (g8 T G),g1 S.F25 (iA T G),g1 S.F26 (mn T G),g1 S.F43 (nL T G),g1 S.F27 (ko T G),g1 S.F28 (g9 T G),g1 S.F45 (pi T G),g1 S.F46 (nM T G),g1 S.F47 (kq T G),g1 S.F49 (mo T G),g1 S.F50 (kr T G),g1 S.F29 (xb T G),g1 S.F72 (mq T G),g1 S.F76 (mr T G),g1 S.F79 (pj T G),g1 S.F80 (mt T G),g1 S.F280 (pv T G),g1 S.F334 (ku T G),g1 S.F30 (sD T G),g1 S.F31 (sE T G),g1 S.F32 (sF T G),g1 S.F33 (mw T G),
  fun i hi=>by
  simp only[fvL,List.mem_cons,List.not_mem_nil,or_false]at hi
  rcases hi with rfl
  ·exact zU S.F21 T.f_is_worth (iu T G) (fun ds h=>zR h)⟩
structure Lms (K:PySem.W.Frag)(mg:Str→Option Value):Prop where
 x0:mg "law"=some (.ref (Cof K 902))
 l0:LamK K (Cof K) 0
 nl:NoL K
theorem tabQ {P:Program}{w:World}{K:PySem.W.Frag}{mg:Str→Option Value}{base:Heap}(T:Txt K mg (Cof K) w.params)(S:Fds K mg)(S2:Mds K mg)(LM:Lms K mg)(bm:BMn mg base)(n:Nat):TabQ P w K mg base (Cof K) n (pf n) (pr n) (pw n):=Nat.strongRecOn n fun n ih=>match n,ih with
 | 0,_=>⟨n0 S2.K_Steps,e0 S2.M_Steps_here T.o_Steps,m0 S2.M_Steps_go_on,e0 S2.M_Steps_marks T.o_Steps,n0 S2.K_Album,m0 S2.M_Album_begin,e0 S2.M_Album_pictures T.o_Album,m0 S2.M_Album_go_on,m0 S2.M_Album_put,es0 S2.M_Album_picture_of T.o_Album,e0 S2.M_Album_names T.o_Album,es0 S2.M_Album_same_as T.o_Album,e0 S2.M_Album_marks T.o_Album,LM.nl,S.D_L_stays⟩
 | 1,ih=>by
  have G:=tab T S 0 (P:=P) (w:=w) (base:=base)
  have Q:=ih 0 (by omega)
  exact⟨n1 S2.K_Steps (cP T G Q),e1 S2.M_Steps_here T.o_Steps (cQ T G Q),m1 S2.M_Steps_go_on (ci T G Q),e1 S2.M_Steps_marks T.o_Steps (cj T G Q),n1 S2.K_Album (cR T G Q),m1 S2.M_Album_begin (cm T G Q),e1 S2.M_Album_pictures T.o_Album (ba T G Q),m1 S2.M_Album_go_on (cn T G Q),m1 S2.M_Album_put (dv T G Q),es1 S2.M_Album_picture_of T.o_Album (aM T G Q),e1 S2.M_Album_names T.o_Album (cq T G Q),es1 S2.M_Album_same_as T.o_Album (bn T G Q),e1 S2.M_Album_marks T.o_Album (cr T G Q),LM.nl,S.D_L_stays⟩
 | 2,ih=>by
  have G:=tab T S 1 (P:=P) (w:=w) (base:=base)
  have Q:=ih 1 (by omega)
  exact⟨n1 S2.K_Steps (cP T G Q),e1 S2.M_Steps_here T.o_Steps (cQ T G Q),m1 S2.M_Steps_go_on (ci T G Q),e1 S2.M_Steps_marks T.o_Steps (cj T G Q),n1 S2.K_Album (cR T G Q),m1 S2.M_Album_begin (cm T G Q),e1 S2.M_Album_pictures T.o_Album (ba T G Q),m1 S2.M_Album_go_on (cn T G Q),m1 S2.M_Album_put (dv T G Q),es1 S2.M_Album_picture_of T.o_Album (aM T G Q),e1 S2.M_Album_names T.o_Album (cq T G Q),es1 S2.M_Album_same_as T.o_Album (bn T G Q),e1 S2.M_Album_marks T.o_Album (cr T G Q),LM.nl,S.D_L_stays⟩
 | m+3,ih=>by
  have G:=tab T S (m+2) (P:=P) (w:=w) (base:=base)
  have Q:=ih (m+2) (by omega)
  have G0:=tab T S m (P:=P) (w:=w) (base:=base)
  have Q0:=ih m (by omega)
  exact⟨n1 S2.K_Steps (cP T G Q),e1 S2.M_Steps_here T.o_Steps (cQ T G Q),m1 S2.M_Steps_go_on (ci T G Q),e1 S2.M_Steps_marks T.o_Steps (cj T G Q),n1 S2.K_Album (cR T G Q),m1 S2.M_Album_begin (cm T G Q),e1 S2.M_Album_pictures T.o_Album (ba T G Q),m1 S2.M_Album_go_on (cn T G Q),m1 S2.M_Album_put (dv T G Q),es1 S2.M_Album_picture_of T.o_Album (aM T G Q),e1 S2.M_Album_names T.o_Album (cq T G Q),es1 S2.M_Album_same_as T.o_Album (bn T G Q),e1 S2.M_Album_marks T.o_Album (cr T G Q),LM.nl,S.D_L_stays⟩
theorem zo {l:PySem.W.OpenLaw}{w:World}{K:PySem.W.Frag}{h:Heap}{mg:Str→Option Value}{fa f1 f26 C0 C1 C2 C11:Addr}(X:K.In h)(G:h.Ns mainGlobals mg)(hfa:mg "law"=some (.ref fa))(S:Fds K mg)(S2:Mds K mg)
  {od26 an26:Option Addr} {sl26:Array (Option Value)} {oc26 kV26 dc26 pm26 cd26 ct26:Value} {tk_GREATEST_WORTH tk_LARGEST_SIZE tk_LONGEST_NAME tk_LETTERS:Tok} {ta_SIDES:Addr} {tn_SIDES:Nat} {ts_SIDES:Array (Option Value)} {tt_SIDES_0 tt_SIDES_1 tt_SIDES_2 tt_SIDES_3:Tok}
  (z0:Ng K "is_worth" (some (.ref f1)))
  (z1:Ng K "law" (some (.ref f26)))
  (z2:K.lookup f26=some ⟨oc26,od26,.func (PySem.W.fnOf "law" "law" (defArgs aC) (defBody aC) (defScope aC) .none kV26 dc26 pm26 an26 cd26 ct26),sl26⟩)
  (z3:PySem.W.codeIn K cd26 "law"=true)
  (z4:PySem.W.keepIn K (.ref f26)=true)
  (z5:tabOkB K "law"=true)
  (z6:noLB K=true)
  (z7:Ng K "all" none)
  (z8:Ng K "bool" none)
  (z9:Ng K "dict" none)
  (z10:Ng K "enumerate" none)
  (z11:Ng K "int" none)
  (z12:Ng K "isinstance" none)
  (z13:Ng K "len" none)
  (z14:Ng K "list" none)
  (z15:Ng K "max" none)
  (z16:Ng K "range" none)
  (z17:Ng K "set" none)
  (z18:Ng K "sorted" none)
  (z19:Ng K "str" none)
  (z20:Ng K "tuple" none)
  (z21:Ng K "GREATEST_WORTH" (some (.int 9 tk_GREATEST_WORTH)))
  (z22:Ng K "LARGEST_SIZE" (some (.int 3 tk_LARGEST_SIZE)))
  (z23:Ng K "LONGEST_NAME" (some (.int 5 tk_LONGEST_NAME)))
  (z24:Ng K "LETTERS" (some (.str "abcdefghijklmnopqrstuvwxyz" tk_LETTERS)))
  (z25:Ng K "SIDES" (some (.ref ta_SIDES)))
  (z26:K.lookup ta_SIDES=some ⟨.type "tuple",none,.seq #[.int 1 tt_SIDES_0,.int 2 tt_SIDES_1,.int 4 tt_SIDES_2,.int 8 tt_SIDES_3] tn_SIDES,ts_SIDES⟩)
  (z27:Ng K "FourError" (some (.ref C0)))
  (z28:Ng K "NoPicture" (some (.ref C1)))
  (z29:Ng K "NoSpot" (some (.ref C2)))
  (z30:Ng K "NoName" (some (.ref C11)))
  (z31:excAllB K (Cof K) esL []=true) :
  ∃ fd:FuncData,(∀ (s:Shared) (v:Value),BindsTo s fd ⟨[v],[]⟩ [("_law_script",v)])∧∀ base:Heap,K.In base→base.Ns mainGlobals mg→BMn mg base→FnOk l.prog w K mg base (CXE l.prog w) 40 fa fd ["_law_script"] (spG K (Cof K) 1 (pw 40 Lw.M.law_k87)):=by
 have e:=hfa.symm.trans (PySem.W.mg_of X G z1)
 cases e
 have q_FourError:Cof K 0=C0:=cof z27
 have q_NoPicture:Cof K 1=C1:=cof z28
 have q_NoSpot:Cof K 2=C2:=cof z29
 have q_NoName:Cof K 11=C11:=cof z30
 have T:Txt K mg (Cof K) w.params:=⟨PySem.W.mg_none_of X G z7,
  PySem.W.mg_none_of X G z8,
  PySem.W.mg_none_of X G z9,
  PySem.W.mg_none_of X G z10,
  PySem.W.mg_none_of X G z11,
  PySem.W.mg_none_of X G z12,
  PySem.W.mg_none_of X G z13,
  PySem.W.mg_none_of X G z14,
  PySem.W.mg_none_of X G z15,
  PySem.W.mg_none_of X G z16,
  PySem.W.mg_none_of X G z17,
  PySem.W.mg_none_of X G z18,
  PySem.W.mg_none_of X G z19,
  PySem.W.mg_none_of X G z20,
  ⟨_,PySem.W.mg_of X G z21⟩,
  ⟨_,PySem.W.mg_of X G z22⟩,
  ⟨_,PySem.W.mg_of X G z23⟩,
  ⟨_,PySem.W.mg_of X G z24⟩,
  ⟨_,PySem.W.mg_of X G z25,_,_,_,z26,rfl,rfl,rfl,by show 4≤sizeLine;decide,(.cons ⟨_,rfl⟩ (.cons ⟨_,rfl⟩ (.cons ⟨_,rfl⟩ (.cons ⟨_,rfl⟩ .nil))))⟩,
  (by rw[cof (i:=F.af) z0];exact PySem.W.mg_of X G z0),
  (by rw[q_FourError];exact PySem.W.mg_of X G z27),
  (by rw[q_NoPicture];exact PySem.W.mg_of X G z28),
  (by rw[q_NoSpot];exact PySem.W.mg_of X G z29),
  (by rw[q_NoName];exact PySem.W.mg_of X G z30),
  jq z31 1 (by decide),
  jq z31 2 (by decide),
  jq z31 11 (by decide),
  uN z31,
  S2.K_Steps.cls,
  S2.K_Album.cls,
  S2.N_Steps_pages,
  S2.N_Steps_place,
  S2.N_Album_steps⟩
 have FL:=eS (st:=aC) z2 z3 z4
 have e902:Cof K 902=_:=cof z1
 have LM:Lms K mg:=⟨by rw[e902];exact PySem.W.mg_of X G z1,uD rfl rfl e902 z5 z1,ze z6⟩
 exact⟨PySem.W.fnOf "law" "law" (defArgs aC) (defBody aC) (defScope aC) .none kV26 dc26 pm26 an26 cd26 ct26,fun s v=>.of_eq rfl,fun base _ _ bm=>py T (tab T S 37) (tabQ T S S2 LM bm 37) FL e902.symm LM.l0 bm⟩
theorem qN {K:PySem.W.Frag}{C:Nat→Addr}{E:L2.XK}{HW Z H:Hp}{P:Wd→FF.D→Hp→Hp→Hp→Prop}:∀ {r:RW},All (fun _ d=>d=.bl true) r→(∀ w d HW' Z' H',d=.bl true→P w d HW' Z' H')→WRW K C E HW Z H P r
 | .ok w d,h,k=>fun HW' Z' H' _ _=>k w d HW' Z' H' h
 | .er _ _,h,_=>h.elim
 | .al w f,h,k=>fun a e=>qN (h a e) k
 | .stuck,h,_=>h.elim
theorem walk {l:PySem.W.OpenLaw}{q:Program}{loose:List Str}{XP:(Str→Option Value)→Heap→Prop}{YP:World→Heap→Prop}{d:DefRec}{K:Params→PySem.W.Frag}(hB:∀ w:World,∀ x∈(["law"]:List Str),tabOkB (K w.params) x=true)(hR:∀ x∈(["law"]:List Str),((recsOf q).find? (fun e=>e.name==x)).isSome=true)(hn:l.most=some 63)(hdf:d.params.defaults=[])
  (hY:∀ (w:World) (h:Heap),YP w h→(K w.params).In h)
  (F:∀ (w:World) (mg:Str→Option Value) (fa:Addr) (h:Heap),(K w.params).In h→h.Ns mainGlobals mg→mg d.name=some (.ref fa) →
   ∃ fd:FuncData,(∀ (s:Shared) (u:Value),BindsTo s fd ⟨[u],[]⟩ [("_law_script",u)])∧∀ base:Heap,(K w.params).In base→base.Ns mainGlobals mg→BMn mg base→FnOk l.prog w (K w.params) mg base (CXE l.prog w) 40 fa fd ["_law_script"] (spG (K w.params) (Cof (K w.params)) 1 (pw 40 Lw.M.law_k87))) :
  PySem.W.WalkO q loose XP YP l.row.toRowW d [] (fun f vs=>PySem.call f vs) :=
 L2.uC (tabs:=fun w=>(["law"]:List Str).map (tabOf (K w.params))) (n:=63) (k:=40) (x := "_law_script") (CX:=fun w=>CXE l.prog w) (sp:=fun w=>spG (K w.params) (Cof (K w.params)) 1 (pw 40 Lw.M.law_k87))
  (fun w _ _ _ _ _ T X=>wL (hB w) hR T X) (fun w q hq=>by obtain⟨x,hx,rfl⟩:=List.mem_map.mp hq;exact(jn (hB w x hx)).2.2) hn (by decide) hdf ⟨rfl,by decide,by decide⟩ hY F
  (fun w H a ns hl hO hS=>uE hO hS (fun i hi=>match i,hi with
   | 0,_=>.head _
   | n+1,h=>absurd (show Nat.lt (n+1) 1 from h) (Nat.not_lt_of_le (Nat.le_add_left 1 n))) (fun HW Z=>qN (kC ns) (fun w d HW Z H' e v rv=>by subst e;rw[Rep]at rv;exact rv)))
  fun w H s e s' z=>by obtain⟨_,_,_,_,_,_,_,_,_,_,_,_,_,z⟩:=z;exact z
end Lw
open PySem PySem.W PyProof.Rows
def PySem.W.Fast.tw14687722035054055937:Nat:=0
def PySem.W.Fast.tw14399875903628469557:Nat:=0
def PySem.W.Fast.tw13306214379738813780:Nat:=0
def PySem.W.Fast.tw11456749778286416014:Nat:=0
def PySem.W.Fast.tw5309227305722166564:Nat:=0
def PySem.W.Fast.tw15684706433528252795:Nat:=0
def PySem.W.Fast.tw5818807482140352559:Nat:=0
def PySem.W.Fast.tw4902162062549754546:Nat:=0
def PySem.W.Fast.tw16752022671384611326:Nat:=0
def PySem.W.Fast.tw16256481249444378574:Nat:=0
def PySem.W.Fast.tw16482971462175683074:Nat:=0
def PySem.W.Fast.tw9565225245009319749:Nat:=0
def PySem.W.Fast.tw3377230260350258100:Nat:=0
def PySem.W.Fast.tw5572627633124787980:Nat:=0
def PySem.W.Fast.tw13518596136031967625:Nat:=0
def PySem.W.Fast.tw10337115496970635442:Nat:=0
def PySem.W.Fast.tw8987649283860242961:Nat:=0
def PySem.W.Fast.tw116541589677928171:Nat:=0
def PySem.W.Fast.tw7271215047237975372:Nat:=0
def PySem.W.Fast.tw3810361933847532717:Nat:=0
def PySem.W.Fast.tw4298705224953038219:Nat:=0
def PySem.W.Fast.tw4206323711874183165:Nat:=0
def PySem.W.Fast.tw3328668705890176062:Nat:=0
def PySem.W.Fast.tw17553173119785001401:Nat:=0
def PySem.W.Fast.tw7056718162825148800:Nat:=0
def PySem.W.Fast.tw7614640728075435956:Nat:=0
def PySem.W.Fast.tw18153543281360701771:Nat:=0
def PySem.W.Fast.tw8618340933360539487:Nat:=0
def PySem.W.Fast.tw161067946393971503:Nat:=0
def PySem.W.Fast.tw3353074421731307593:Nat:=0
def PySem.W.Fast.tw4221405285998530183:Nat:=0
def PySem.W.Fast.tw7853596708145213392:Nat:=0
def PySem.W.Fast.tw7066080920275902041:Nat:=0
def PySem.W.Fast.tw8955367248132041494:Nat:=0
def PySem.W.Fast.tw11787497639759880530:Nat:=0
def PySem.W.Fast.tw12858008166819441248:Nat:=0
def PySem.W.Fast.tw7959957791941550938:Nat:=0
def PySem.W.Fast.tw7235599654660024220:Nat:=0
def PySem.W.Fast.tw14289993548562995873:Nat:=0
def PySem.W.Fast.tw6552490121415643678:Nat:=0
def PySem.W.Fast.tw5617277779862087969:Nat:=0
def PySem.W.Fast.tw18077698562786102083:Nat:=0
def PySem.W.Fast.tw5520851004277779759:Nat:=0
def PySem.W.Fast.tw18071869574553481937:Nat:=0
def PySem.W.Fast.tw12618340442123036200:Nat:=0
def PySem.W.Fast.tw12919478193750849779:Nat:=0
def PySem.W.Fast.tw9547613287803879906:Nat:=0
def PySem.W.Fast.tw4077833586436982418:Nat:=0
def PySem.W.Fast.tw5154032923646177227:Nat:=0
def PySem.W.Fast.tw6111982339708623834:Nat:=0
def PySem.W.Fast.tw4752609139524769684:Nat:=0
def PySem.W.Fast.tw7364484357173347575:Nat:=0
def PySem.W.Fast.tw9980976517867594108:Nat:=0
def PySem.W.Fast.tw2580788064623306848:Nat:=0
def PySem.W.Fast.tw8891206145002160396:Nat:=0
def PySem.W.Fast.tw17657292800258695766:Nat:=0
def PySem.W.Fast.tw16181498537399037331:Nat:=0
def PySem.W.Fast.tw3436371234371243732:Nat:=0
def PySem.W.Fast.tw5030341269575615822:Nat:=0
def PySem.W.Fast.tw13463745719049052749:Nat:=0
def PySem.W.Fast.tw17337797805920453613:Nat:=0
def PySem.W.Fast.tw12956790418288837594:Nat:=0
def PySem.W.Fast.tw10784681875829822644:Nat:=0
def PySem.W.Fast.tw943870622719833500:Nat:=0
def PySem.W.Fast.tw16650766552256354105:Nat:=0
def PySem.W.Fast.tw13615915042977394060:Nat:=0
def PySem.W.Fast.tw2589957324423221774:Nat:=0
def PySem.W.Fast.tw9719908841593120199:Nat:=0
def PySem.W.Fast.tw13359738971929777451:Nat:=0
def PySem.W.Fast.tw2566863470670108016:Nat:=0
def PySem.W.Fast.tw9868934563601637928:Nat:=0
def PySem.W.Fast.tw7445983074993729384:Nat:=0
def PySem.W.Fast.tw5135795806760621203:Nat:=0
def PySem.W.Fast.tw8381552860976039971:Nat:=0
def PySem.W.Fast.tw989025877209373121:Nat:=0
def PySem.W.Fast.tw183811146874626891:Nat:=0
def PySem.W.Fast.tw11897171722441899763:Nat:=0
def PySem.W.Fast.tw9826561417737860950:Nat:=0
def PySem.W.Fast.tw936604999146547223:Nat:=0
def PySem.W.Fast.tw12159547630871928277:Nat:=0
def PySem.W.Fast.tw7636105068340819574:Nat:=0
def PySem.W.Fast.tw13266957951362498189:Nat:=0
def PySem.W.Fast.tw6904605053799022854:Nat:=0
def PySem.W.Fast.tw1615692690349509669:Nat:=0
def PySem.W.Fast.tw16116839747315253879:Nat:=0
def PySem.W.Fast.tw5415734946689571393:Nat:=0
def PySem.W.Fast.tw2654266499056018903:Nat:=0
def PySem.W.Fast.tw279890426478266401:Nat:=0
def PySem.W.Fast.tw9005968593147009812:Nat:=0
def PySem.W.Fast.tw12909139655524696157:Nat:=0
def PySem.W.Fast.tw16165348356093982244:Nat:=0
def PySem.W.Fast.tw1135884430890843305:Nat:=0
def PySem.W.Fast.tw16688068009755183757:Nat:=0
def PySem.W.Fast.tw9352664442472824430:Nat:=0
def PySem.W.Fast.tw16821580276924985163:Nat:=0
def PySem.W.Fast.tw11433924095063259968:Nat:=0
def PySem.W.Fast.tw17110380468452968234:Nat:=0
def PySem.W.Fast.tw17745415223005878047:Nat:=0
def PySem.W.Fast.tw7089390445046235571:Nat:=0
def PySem.W.Fast.tw1200834461454902824:Nat:=0
def PySem.W.Fast.tw5878295549872648048:Nat:=0
def PySem.W.Fast.tw12037898602772384214:Nat:=0
def PySem.W.Fast.tw13940002881914751351:Nat:=0
def PySem.W.Fast.tw10365984922162357652:Nat:=0
def PySem.W.Fast.tw12570797886907625645:Nat:=0
def PySem.W.Fast.tw1212799356397762223:Nat:=0
def PySem.W.Fast.tw1814339686946380525:Nat:=0
def PySem.W.Fast.tw18159391925573708006:Nat:=0
def PySem.W.Fast.tw9352805729694363990:Nat:=0
def PySem.W.Fast.tw2039571872761432934:Nat:=0
def PySem.W.Fast.tw8482248189855477342:Nat:=0
def PySem.W.Fast.tw8614052316636902252:Nat:=0
def PySem.W.Fast.tw90233158913505911:Nat:=0
def PySem.W.Fast.tw1128598952906673331:Nat:=0
def PySem.W.Fast.tw2624849471580162521:Nat:=0
def PySem.W.Fast.tw3680935842226538192:Nat:=0
def PySem.W.Fast.tw1557449261262278226:Nat:=0
set_option maxRecDepth 100000 in
set_option maxHeartbeats 0 in
theorem PySem.Challenge.cw_fourfold_k87_whole_told_lists_holds : PySem.Challenge.rw_fourfold_k87_whole_told_lists.Holds := by
 w_on;o_law;k_head;(case hw=>w_witness2)
 k_fill
 refine Lw.walk (l:=PySem.Challenge.rw_fourfold_k87_whole_told_lists) ?B ?R rfl rfl (fun w h Y=>by first | exact PySem.W.km_in_of Y | exact PySem.W.kIn_of Y) ?F
 case B =>
  intro w x hx
  simp only[List.mem_cons,List.not_mem_nil,or_false]at hx
  rcases hx with rfl<;>kernel_rfl
 case R =>
  intro x hx
  simp only[List.mem_cons,List.not_mem_nil,or_false]at hx
  rcases hx with rfl<;>rfl
 case F =>
  intro w mg fa h KX G hmg
  refine' Lw.zo KX G hmg ?S ?S2 ?z0 ?z1 ?z2 ?z3 ?z4 ?z5 ?z6 ?z7 ?z8 ?z9 ?z10 ?z11 ?z12 ?z13 ?z14 ?z15 ?z16 ?z17 ?z18 ?z19 ?z20 ?z21 ?z22 ?z23 ?z24 ?z25 ?z26 ?z27 ?z28 ?z29 ?z30 ?z31
  case S =>
   constructor
   all_goals
    refine' FF.zV KX G (fun _ _ _ _ _ _ us hl=>by first | (obtain⟨_,rfl⟩:=FF.ln1 hl;rfl) | (obtain⟨_,_,rfl⟩:=FF.ln2 hl;rfl) | (obtain⟨_,_,_,rfl⟩:=FF.ln3 hl;rfl) | (obtain⟨_,_,_,_,rfl⟩:=FF.ln4 hl;rfl) | (obtain⟨_,_,_,_,_,rfl⟩:=FF.ln5 hl;rfl) | (cases List.length_eq_zero_iff.mp hl;rfl)) ?a ?l ?c ?k
    (case a=>k_is);(case l=>k_is);(case c=>k_is);(case k=>k_is)
  case S2 =>
   constructor
   all_goals first | (refine' Lw.Ag rfl (fun _ _ _ _ _ _ us hl=>by first | (obtain⟨_,rfl⟩:=FF.ln1 hl;rfl) | (obtain⟨_,_,rfl⟩:=FF.ln2 hl;rfl) | (obtain⟨_,_,_,rfl⟩:=FF.ln3 hl;rfl) | (obtain⟨_,_,_,_,rfl⟩:=FF.ln4 hl;rfl) | (obtain⟨_,_,_,_,_,rfl⟩:=FF.ln5 hl;rfl)) ?z ?a ?i ?l ?c ?k;(case z=>show _=_;k_is);(case a=>k_is);(case i=>k_is);(case l=>k_is);(case c=>k_is);(case k=>k_is)) | (refine' Lw.Ai rfl ?z ?n;(case z=>show _=_;k_is);(case n=>k_is)) | (refine' Lw.Ah KX G rfl (fun _ _ _ _ _ _ us hl=>by first | (obtain⟨_,rfl⟩:=FF.ln1 hl;rfl) | (obtain⟨_,_,rfl⟩:=FF.ln2 hl;rfl) | (obtain⟨_,_,_,rfl⟩:=FF.ln3 hl;rfl) | (obtain⟨_,_,_,_,rfl⟩:=FF.ln4 hl;rfl) | (obtain⟨_,_,_,_,_,rfl⟩:=FF.ln5 hl;rfl)) ?z ?a ?i ?l ?c ?k ?pg ?hd ?po ?sa ?mk ?kc;(case z=>show _=_;k_is);(case a=>k_is);(case i=>k_is);(case l=>k_is);(case c=>k_is);(case k=>k_is);(case pg=>k_is);(case hd=>k_is);(case po=>k_is);(case sa=>k_is);(case mk=>k_is);(case kc=>k_is))
  (case z0=>show _=_;k_is)
  (case z1=>show _=_;k_is)
  (case z2=>k_is)
  (case z3=>k_is)
  (case z4=>k_is)
  (case z5=>kernel_rfl)
  (case z6=>kernel_rfl)
  (case z7=>show _=_;k_is)
  (case z8=>show _=_;k_is)
  (case z9=>show _=_;k_is)
  (case z10=>show _=_;k_is)
  (case z11=>show _=_;k_is)
  (case z12=>show _=_;k_is)
  (case z13=>show _=_;k_is)
  (case z14=>show _=_;k_is)
  (case z15=>show _=_;k_is)
  (case z16=>show _=_;k_is)
  (case z17=>show _=_;k_is)
  (case z18=>show _=_;k_is)
  (case z19=>show _=_;k_is)
  (case z20=>show _=_;k_is)
  (case z21=>show _=_;k_is)
  (case z22=>show _=_;k_is)
  (case z23=>show _=_;k_is)
  (case z24=>show _=_;k_is)
  (case z25=>show _=_;k_is)
  (case z26=>k_is)
  (case z27=>show _=_;k_is)
  (case z28=>show _=_;k_is)
  (case z29=>show _=_;k_is)
  (case z30=>show _=_;k_is)
  (case z31=>kernel_rfl)
end
