import PyProof.Rows.All
import Wide.All
import OpenK.AllK
import Wide.FinOn
import PyProof.EqAt
import PyProof.EqKinds
import PyProof.TupleCall
import PyProof.TupleKey
import PyProof.NeKinds
import PyProof.ExcArgsOwn
import PyProof.ExcAttrAll.ValueError
import PyProof.IsiH_tuple
import PyProof.Rows.TopTwo
import PyProof.ExcBaseAll.ValueError
import PyProof.RulesAs
import PyProof.RulesDel
import PyProof.Rows.Catch
import PyProof.WalkInts
import PyProof.SumWalkG
import PyProof.Rows.TupAssign
import PyProof.FactsAll.tuple_1
import PyProof.FactsAll.tuple_2
import PyProof.FactsAll.tuple_3
import PyProof.ZipIter
import PyProof.Rows.ZipGen
import PyProof.Draws
import PyProof.EnumMake
import PyProof.LayNew
import OpenK.KTop
import PyProof.DictWalks
import PyProof.ListRange
import PyProof.Rows.SortWalk
import PyProof.Rows.Range3
import PyProof.MinMaxWalk
import PyProof.SetKind
import PyProof.Rows.SetFrom
import PyProof.CollectWalk
import PyProof.FactsAll.set_1
import PyProof.FactsAll.set_2
import PyProof.StrCalls
import PyProof.StrBlock
import PyProof.StrBlockH
import PyProof.FactsAll.list_3
import KE.KMinKey
import PyProof.DictRoadsH
import KE.KLam
import KE.KDictOf
import PyProof.StrWalks
import PyProof.Rows.SortStr
import PyProof.StrCalls2
import PyProof.FString
import PyProof.AttrMissSeq
import KE.KItemsList
import KE.KEqDict
import PyProof.Commute
import PyProof.FactsAll.list_4
import Lean
import PySem.Challenge.RW_fourfold_k31_whole_kin
set_option Elab.async false
set_option linter.all false
set_option maxRecDepth 100000
noncomputable section
namespace L2
open PySem PySem.Spec PyProof.Rows
abbrev Key:=Sum Int Str
def keyIs:Key→Value→Bool
 | .inl k,v=>Value.isInt k v
 | .inr x,v=>Value.isStrOf x v
def keyH (w:World):Key→Int
 | .inl k=>hashInt k
 | .inr x=>hashStr w x
theorem aK:∀ {k:Key} {v:Value},keyIs k v=true→(∃ i t,k=Sum.inl i∧v=Value.int i t)∨(∃ x t,k=Sum.inr x∧v=Value.str x t)
 | .inl i,v,h=>by
  obtain⟨t,e⟩:=Value.isInt_shape h
  exact .inl ⟨i,t,rfl,e⟩
 | .inr x,v,h=>by
  obtain⟨t,e⟩:=Value.isStrOf_shape h
  exact .inr ⟨x,t,rfl,e⟩
theorem qi (i:Int)(t:Tok):keyIs (.inl i) (.int i t)=true:=by simp[keyIs,Value.isInt]
theorem qj (x:Str)(t:Tok):keyIs (.inr x) (.str x t)=true:=by simp[keyIs,Value.isStrOf]
theorem xl (a b:Int):decide ((Sum.inl a:Key)=Sum.inl b)=(a==b):=by grind
theorem xm (a b:Str):decide ((Sum.inr a:Key)=Sum.inr b)=decide (a=b):=by grind
theorem xn (a:Int)(b:Str):decide ((Sum.inl a:Key)=Sum.inr b)=false:=decide_eq_false (fun q=>nomatch q)
theorem xo (a:Str)(b:Int):decide ((Sum.inr a:Key)=Sum.inl b)=false:=decide_eq_false (fun q=>nomatch q)
def mixKind (prog:Program)(w:World):PySem.KeyKind prog w Key where
 is:=keyIs
 hash:=keyH w
 inj:=fun v a b ha hb=>by
  rcases aK ha with ⟨i,t,rfl,rfl⟩ | ⟨x,t,rfl,rfl⟩
  ·rcases aK hb with ⟨j,u,rfl,e⟩ | ⟨y,u,rfl,e⟩
   ·injection e with e1 _;rw[e1]
   ·exact nomatch e
  ·rcases aK hb with ⟨j,u,rfl,e⟩ | ⟨y,u,rfl,e⟩
   ·exact nomatch e
   ·injection e with e1 _;rw[e1]
 byValue:=fun k v h=>by
  rcases aK h with ⟨i,t,rfl,rfl⟩ | ⟨x,t,rfl,rfl⟩<;>rfl
 pyHash:=fun hv h=>by
  rcases aK hv with ⟨i,t,rfl,rfl⟩ | ⟨x,t,rfl,rfl⟩
  ·exact wpAny_pyHash_int h
  ·exact wpAny_pyHash_str h
 eqBool:=fun hu hv h=>by
  rcases aK hu with ⟨i,t,rfl,rfl⟩ | ⟨x,t,rfl,rfl⟩
  ·rcases aK hv with ⟨j,u,rfl,rfl⟩ | ⟨y,u,rfl,rfl⟩
   ·rw[xl]at h;exact wpAny_eqBool_int h
   ·rw[xn]at h;exact SeqAt.EqAt.int_str i t y u _ _ _ _ h
  ·rcases aK hv with ⟨j,u,rfl,rfl⟩ | ⟨y,u,rfl,rfl⟩
   ·rw[xo]at h;exact SeqAt.EqAt.str_int x t j u _ _ _ _ h
   ·rw[xm]at h;exact wpAny_eqBool_str h
 «strs»:=fun k x t v h=>by
  rcases aK h with ⟨i,u,rfl,e⟩ | ⟨y,u,rfl,e⟩
  ·exact nomatch e
  ·injection e with e1 _
   subst e1
   cases v<;>rfl
theorem lI (prog:Program)(w:World)(i:Int)(t:Tok):(mixKind prog w).is (.inl i) (.int i t)=true:=qi i t
theorem lJ (prog:Program)(w:World)(x:Str)(t:Tok):(mixKind prog w).is (.inr x) (.str x t)=true:=qj x t
end L2
namespace L2
open PySem PySem.Spec PyProof.Rows
inductive V where
 | non | bl (b:Bool) | int (i:Int) | str (x:Str) | byt (b:Array UInt8) | flt (b:UInt64) | ref (a:Addr) | ty (n:String)
 deriving DecidableEq
def RelV:V→Value→Prop
 | .non,u=>u=Value.none
 | .bl b,u=>u=Value.bool b
 | .int i,u=>∃ t,u=Value.int i t
 | .str x,u=>∃ t,u=Value.str x t
 | .byt b,u=>∃ t,u=Value.bytes b t
 | .flt b,u=>∃ t,u=Value.float b t
 | .ref a,u=>u=Value.ref a
 | .ty n,u=>u=Value.type n
abbrev Vals:List V→List Value→Prop:=Paired RelV
theorem Vals.length {xs:List V}{us:List Value}(r:Vals xs us):xs.length=us.length:=Paired.length r
theorem Vals.get:∀ {xs:List V} {us:List Value} {i:Nat} {x:V},Vals xs us→xs[i]?=some x→∃ u,us[i]?=some u∧RelV x u
 | _,_,_,_,.nil,e=>by simp at e
 | _,_,0,_,.cons r _,e=>by simp at e;subst e;exact⟨_,rfl,r⟩
 | _,_,i+1,x,.cons _ t,e=>by
  obtain⟨u,h1,h2⟩:=Vals.get t (by simpa using e)
  exact⟨u,by simpa using h1,h2⟩
theorem Vals.set {x:V}{u:Value}(r:RelV x u):∀ {xs:List V} {us:List Value} (i:Nat),Vals xs us→Vals (xs.set i x) (us.set i u)
 | _,_,_,.nil=>.nil
 | _,_,0,.cons _ t=>.cons r t
 | _,_,i+1,.cons q t=>.cons q (Vals.set r i t)
theorem Vals.append:∀ {xs ys:List V} {us ws:List Value},Vals xs us→Vals ys ws→Vals (xs++ys) (us++ws)
 | _,_,_,_,.nil,s=>s
 | _,_,_,_,.cons r t,s=>.cons r (Vals.append t s)
theorem Vals.take:∀ {xs:List V} {us:List Value} (n:Nat),Vals xs us→Vals (xs.take n) (us.take n)
 | _,_,0,_=>.nil
 | _,_,_+1,.nil=>.nil
 | _,_,n+1,.cons r t=>.cons r (Vals.take n t)
theorem Vals.drop:∀ {xs:List V} {us:List Value} (n:Nat),Vals xs us→Vals (xs.drop n) (us.drop n)
 | _,_,0,r=>r
 | _,_,_+1,.nil=>.nil
 | _,_,n+1,.cons _ t=>Vals.drop n t
theorem Vals.none_of:∀ {xs:List V} {us:List Value} {i:Nat},Vals xs us→xs[i]?=none→us[i]?=none:=fun {xs us i} r e=>by
 have h1:=r.length
 have h2:xs.length≤i:=List.getElem?_eq_none_iff.mp e
 exact List.getElem?_eq_none_iff.mpr (by omega)
def RelO:Option V→Option Value→Prop
 | some v,some u=>RelV v u
 | none,none=>True
 | _,_=>False
def KV {κ:Type}:List (κ×V)→List (κ×Value)→Prop:=Paired fun (p:κ×V) (q:κ×Value)=>p.1=q.1∧RelV p.2 q.2
def kV:Key→V
 | .inl i=>.int i
 | .inr x=>.str x
inductive HO where
 | lst (xs:List V)
 | tup (xs:List V)
 | dK (kvs:List (Key×V)) | dT (kvs:List (List Key×V))
 | set (S:Int→Bool) (n:Nat)
 | ins (C dx:Addr) (fs:List (Str×V))
 | own (x:Addr)
 | xd (fs:List (Str×V))
 | met (f x:Addr)
 | rng (lo hi:Int)
 | frz (o:Obj) (u:HO)
 | tbl (ps:Array Value)
 | ext (φ:Heap→Prop)
abbrev Hp:=Addr→Option HO
def upd (H:Hp)(a:Addr)(o:HO):Hp:=fun b=>if b=a then some o else H b
theorem aj {H:Hp}{a:Addr}{o:HO}:upd H a o a=some o:=by unfold upd;rw[if_pos rfl]
theorem ag {H:Hp}{a b:Addr}{o:HO}(h:b≠a):upd H a o b=H b:=by unfold upd;rw[if_neg h]
theorem yG {H:Hp}{a b:Addr}{o u:HO}(h:H a=some o)(h':H b=some u)(d:o≠u):a≠b:=by grind
theorem aN {H:Hp}{a b:Addr}{o:HO}(h:H a=some o)(h':H b=none):a≠b:=by grind
def TupO (h:Heap)(a:Addr)(its:Array Value):Prop:=∃ o,h.get? a=some o∧o.cls=.type "tuple" ∧ o.dict=none∧∃ n,o.data=.seq its n
theorem TupO.is {h:Heap}{a:Addr}{its:Array Value}(p:TupO h a its):IsTup h a its:=let ⟨o,e,c,_,d⟩:=p;⟨o,e,c,d⟩
theorem TupO.lt {h:Heap}{a:Addr}{its:Array Value}(p:TupO h a its):a < h.objs.size:=p.is.lt
theorem TupO.new (h:Heap)(its:Array Value):TupO (h.push { cls:=.type "tuple",data:=.seq its }) h.objs.size its:=⟨_,Heap.get?_push_size _ rfl,rfl,rfl,_,rfl⟩
section
variable (P:Program)(w:World)
def ObjOk (H:Hp)(h:Heap)(a:Addr):HO→Prop
 | .lst xs=>xs.length≤sizeLine∧∃ (its:List Value) (n:Nat),Vals xs its∧h.get? a=some { cls:=.type "list",data:=.seq its.toArray n }
 | .tup xs=>xs.length≤sizeLine∧∃ its:List Value,Vals xs its∧TupO h a its.toArray
 | .dK kvs=>kvs.length≤sizeLine∧(a==sysModules)=false∧∃ vs,KV kvs vs∧h.DictOf (mixKind P w) a vs
 | .dT kvs=>kvs.length≤sizeLine∧(a==sysModules)=false∧∃ xs:List (List Key×Addr×Value),
   Paired (fun (p:List Key×V) (q:List Key×Addr×Value)=>p.1=q.1∧H q.2.1=some (.tup (p.1.map kV))∧RelV p.2 q.2.2) kvs xs ∧
   ∃ o es ep,h.get? a=some o∧o.ExactDict∧o.data=.dict es ep∧es.toList=xs.map (entryOfKey (tupleKind (mixKind P w)))∧(xs.map (·.1)).Nodup
 | .set S n=>h.SetOf (intKind P w) a S n
 | .ins C dx fs=>H dx=some (.own a)∧fs.length≤1000∧dx≠a∧h.get? a=some (PySem.W.instObj C dx) ∧
   ∃ mA,h.Ns1 dx mA∧(∀ f,RelO (fs.lookup f) (mA f))∧PySem.Within mA (fs.map (·.1))
 | .own _=>∃ o,h.get? a=some o
 | .xd fs=>∃ mA,h.Ns1 a mA∧∀ f,RelO (fs.lookup f) (mA f)
 | .rng lo hi=>∃ t u v,h.get? a=some { cls:=.type "range",data:=.fields #[.int lo t,.int hi u,.int 1 v] }
 | .frz o u=>h.get? a=some o∧ObjOk H h a u
 | .tbl ps=>h.get? a=some { cls:=.none,data:=.fields ps }
 | .met f x=>h.get? a=some (PySem.W.methodObj (.ref f) (.ref x))
 | .ext φ=>φ h∧(∃ o,h.get? a=some o)∧∀ h1 h2:Heap,φ h1→(∀ o,h1.get? a=some o→h2.get? a=some o)→φ h2
def HOk (H:Hp)(h:Heap):Prop:=∀ a o,H a=some o→ObjOk P w H h a o
end
section
variable {P:Program}{w:World}{H H':Hp}{h h':Heap}{a:Addr}{o:HO}
theorem ObjOk.lt (x:ObjOk P w H h a o):a < h.objs.size:=by
 cases o with
 | lst xs=>obtain⟨_,_,_,_,e⟩:=x;exact Heap.lt_size e
 | tup xs=>obtain⟨_,_,_,p⟩:=x;exact p.lt
 | dK kvs=>obtain⟨_,_,_,_,o,_,_,e,_⟩:=x;exact Heap.lt_size e
 | dT kvs=>obtain⟨_,_,_,_,o,_,_,e,_⟩:=x;exact Heap.lt_size e
 | set S n=>obtain⟨o,_,_,_,e,_⟩:=x;exact Heap.lt_size e
 | ins C dx fs=>obtain⟨_,_,_,e,_⟩:=x;exact Heap.lt_size e
 | own y=>obtain⟨_,e⟩:=x;exact Heap.lt_size e
 | xd fs=>obtain⟨_,⟨_,_,_,e,_⟩,_⟩:=x;exact Heap.lt_size e
 | rng lo hi=>obtain⟨_,_,_,e⟩:=x;exact Heap.lt_size e
 | frz ob u=>obtain⟨e,_⟩:=x;exact Heap.lt_size e
 | tbl ps=>exact Heap.lt_size (show h.get? a=some _ from x)
 | met f y=>exact Heap.lt_size (show h.get? a=some _ from x)
 | ext φ=>obtain⟨_,⟨_,e⟩,_⟩:=x;exact Heap.lt_size e
theorem Paired.mapP {α β:Type}{F G:α→β→Prop}:∀ {l₁:List α} {l₂:List β},Paired F l₁ l₂→(∀ a b,F a b→G a b)→Paired G l₁ l₂
 | _,_,.nil,_=>.nil
 | _,_,.cons r t,f=>.cons (f _ _ r) (Paired.mapP t f)
theorem ObjOk.stay (x:ObjOk P w H h a o)(k:∀ b u,(b=a∨H b=some (.own a))→h.get? b=some u→h'.get? b=some u)
  (ho:∀ b,H b=some (.own a)→H' b=some (.own a)) (ht:∀ b xs,H b=some (.tup xs)→H' b=some (.tup xs)):ObjOk P w H' h' a o:=by
 induction o with
 | lst xs=>obtain⟨z,its,n,r,e⟩:=x;exact⟨z,its,n,r,k _ _ (.inl rfl) e⟩
 | tup xs=>obtain⟨z,its,r,ob,e,c⟩:=x;exact⟨z,its,r,ob,k _ _ (.inl rfl) e,c⟩
 | dK kvs=>obtain⟨z,y,vs,r,ob,es,ep,e,c⟩:=x;exact⟨z,y,vs,r,ob,es,ep,k _ _ (.inl rfl) e,c⟩
 | dT kvs =>
  obtain⟨z,y,xs,r,ob,es,ep,e,c⟩:=x
  exact⟨z,y,xs,Paired.mapP r fun p q z=>⟨z.1,ht _ _ z.2.1,z.2.2⟩,ob,es,ep,k _ _ (.inl rfl) e,c⟩
 | set S n=>obtain⟨ob,es,ep,t,e,c⟩:=x;exact⟨ob,es,ep,t,k _ _ (.inl rfl) e,c⟩
 | ins C dx fs =>
  obtain⟨d,z,ne,e,mA,⟨od,es,ep,e2,c⟩,r⟩:=x
  exact⟨ho _ d,z,ne,k _ _ (.inl rfl) e,mA,⟨od,es,ep,k _ _ (.inr d) e2,c⟩,r⟩
 | own y=>obtain⟨ob,e⟩:=x;exact⟨ob,k _ _ (.inl rfl) e⟩
 | xd fs=>obtain⟨mA,⟨od,es,ep,e,c⟩,r⟩:=x;exact⟨mA,⟨od,es,ep,k _ _ (.inl rfl) e,c⟩,r⟩
 | rng lo hi=>obtain⟨t,u,v,e⟩:=x;exact⟨t,u,v,k _ _ (.inl rfl) e⟩
 | frz ob u ih=>obtain⟨e,q⟩:=x;exact⟨k _ _ (.inl rfl) e,ih q⟩
 | tbl ps =>
  have e:=x
  exact k a _ (.inl rfl) e
 | met f y =>
  have e:=x
  exact k a _ (.inl rfl) e
 | ext φ=>obtain⟨p,⟨o,e⟩,st⟩:=x;exact⟨st _ _ p fun o q=>k _ _ (.inl rfl) q,⟨o,k _ _ (.inl rfl) e⟩,st⟩
theorem HOk.lt (x:HOk P w H h)(e:H a=some o):a < h.objs.size:=(x a o e).lt
theorem HOk.fresh (x:HOk P w H h)(e:h.objs.size≤a):H a=none:=by
 cases q:H a with
 | none=>rfl
 | some u=>exact absurd (Nat.lt_of_lt_of_le (x.lt q) e) (Nat.lt_irrefl _)
theorem HOk.kept (x:HOk P w H h)(k:∀ b u,h.get? b=some u→h'.get? b=some u):HOk P w H h':=fun a o e =>
 (x a o e).stay (fun b u _ q=>k b u q) (fun _ q=>q) fun _ _ q=>q
theorem HOk.laid (x:HOk P w H h)(k:∀ b u,h.get? b=some u→h'.get? b=some u)(hp:h.objs.size≤a)(new:ObjOk P w (upd H a o) h' a o):HOk P w (upd H a o) h':=fun b u e=>by
 have hn:=x.fresh hp
 by_cases hb:b=a
 ·subst hb;rw[aj]at e;cases e;exact new
 ·rw[ag hb]at e
  exact(x b u e).stay (fun c v _ q=>k c v q) (fun c q=>by rw[ag (aN q hn)];exact q) fun c xs q=>by rw[ag (aN q hn)];exact q
end
def Rd (H:Hp)(a:Addr)(u:HO):Prop:=H a=some u∨∃ o,H a=some (.frz o u)
theorem Rd.ok {P:Program}{w:World}{H:Hp}{h:Heap}{a:Addr}{u:HO}(r:Rd H a u)(x:HOk P w H h):ObjOk P w H h a u:=by
 rcases r with r | ⟨o,r⟩
 ·exact x a u r
 ·obtain⟨_,q⟩:=x a _ r
  exact q
def Mut:Option HO→Prop
 | some (.lst _)=>True
 | some (.dK _)=>True
 | some (.dT _)=>True
 | some (.set _ _)=>True
 | some (.ins _ _ _)=>True
 | some (.ext _)=>True
 | _=>False
section
variable {P:Program}{w:World}{H:Hp}{h h':Heap}{x e:Addr}{o':HO}
theorem HOk.write (ok:HOk P w H h)(mu:Mut (H x))(he:e=x∨H e=some (.own x))(k:∀ b u,b≠e→h.get? b=some u→h'.get? b=some u)(heo:∃ u,h'.get? e=some u)
  (new:ObjOk P w (upd H x o') h' x o'):HOk P w (upd H x o') h':=fun b u q=>by
 have nown:∀ c y,H c=some (.own y)→c≠x:=fun c y r z=>by subst z;rw[r]at mu;exact mu
 have ntup:∀ c xs,H c=some (.tup xs)→c≠x:=fun c xs r z=>by subst z;rw[r]at mu;exact mu
 by_cases hb:b=x
 ·subst hb;rw[aj]at q;cases q;exact new
 ·rw[ag hb]at q
  by_cases hbe:b=e
  ·have q':H b=some (.own x):=by
    grind
   rw[q]at q';cases q'
   obtain⟨v,hv⟩:=heo
   exact⟨v,by rw[hbe];exact hv⟩
  ·refine(ok b u q).stay (fun c v hc r=>k c v ?_ r) (fun c r=>by rw[ag (nown c b r)];exact r) fun c xs r=>by rw[ag (ntup c xs r)];exact r
   grind
end
structure Un (fs ex:List Addr)(H H':Hp)(h h':Heap):Prop where
 keep:∀ b o,h.get? b=some o→H b=none→b∉fs→b∉ex→h'.get? b=some o
 slot:∀ b o,h.get? b=some o→H b=none→b∈fs→b∉ex→∃ sl,h'.get? b=some { o with slots:=sl }
 free:∀ b o,h.get? b=some o→H b=none→b∉ex→H' b=none
 there:∀ b o,h.get? b=some o→b∉ex→∃ o',h'.get? b=some o'
 tups:∀ b xs,H b=some (.tup xs)→H' b=some (.tup xs)
 frzs:∀ b o u,H b=some (.frz o u)→H' b=some (.frz o u)
 tbls:∀ b ps,H b=some (.tbl ps)→∃ more,H' b=some (.tbl (ps++more))
section
variable {fs fs' ex ex':List Addr}{H H1 H2:Hp}{h h1 h2 h':Heap}{a x e:Addr}{o:HO}
theorem Un.any (u:Un fs ex H H1 h h1){b:Addr}{ob:Obj}(q:h.get? b=some ob)(n:H b=none)(hx:b∉ex):∃ sl,h1.get? b=some { ob with slots:=sl }:=by
 by_cases hb:b∈fs
 ·exact u.slot b ob q n hb hx
 ·exact⟨ob.slots,u.keep b ob q n hb hx⟩
theorem Un.trans (a:Un fs ex H H1 h h1)(b:Un fs ex H1 H2 h1 h2):Un fs ex H H2 h h2 where
 keep:=fun c ob q n hc hx=>b.keep c ob (a.keep c ob q n hc hx) (a.free c ob q n hx) hc hx
 slot:=fun c ob q n hc hx=>by
  obtain⟨sl,e1⟩:=a.slot c ob q n hc hx
  obtain⟨sl',e2⟩:=b.slot c _ e1 (a.free c ob q n hx) hc hx
  exact⟨sl',e2⟩
 free:=fun c ob q n hx=>by
  obtain⟨o',e1⟩:=a.there c ob q hx
  exact b.free c o' e1 (a.free c ob q n hx) hx
 there:=fun c ob q hx=>by
  obtain⟨o',e1⟩:=a.there c ob q hx
  exact b.there c o' e1 hx
 tups:=fun c xs q=>b.tups c xs (a.tups c xs q)
 frzs:=fun c ob xs q=>b.frzs c ob xs (a.frzs c ob xs q)
 tbls:=fun c ps q=>by
  obtain⟨m1,e1⟩:=a.tbls c ps q
  obtain⟨m2,e2⟩:=b.tbls c _ e1
  exact⟨m1++m2,by rw[e2,Array.append_assoc]⟩
theorem Un.kept (k:∀ b u,h.get? b=some u→h'.get? b=some u):Un fs ex H H h h' :=
 ⟨fun b ob q _ _ _=>k b ob q,fun b ob q _ _ _=>⟨ob.slots,k b ob q⟩,fun _ _ _ n _=>n,fun b ob q _=>⟨ob,k b ob q⟩,fun _ _ q=>q,fun _ _ _ q=>q,fun _ ps q=>⟨#[],by rw[q];simp⟩⟩
theorem Un.refl:Un fs ex H H h h:=Un.kept fun _ _ q=>q
theorem Un.laid (k:∀ b u,h.get? b=some u→h'.get? b=some u)(hp:h.objs.size≤a)(hn:H a=none):Un fs ex H (upd H a o) h h' where
 keep:=fun b u q _ _ _=>k b u q
 slot:=fun b u q _ _ _=>⟨u.slots,k b u q⟩
 free:=fun b u q n _=>by rw[ag (Nat.ne_of_lt (Nat.lt_of_lt_of_le (Heap.lt_size q) hp))];exact n
 there:=fun b u q _=>⟨u,k b u q⟩
 tups:=fun b xs q=>by rw[ag (aN q hn)];exact q
 frzs:=fun b u xs q=>by rw[ag (aN q hn)];exact q
 tbls:=fun b ps q=>⟨#[],by rw[ag (aN q hn),q];simp⟩
theorem Un.write (mu:Mut (H x))(he:e=x∨H e=some (.own x))(k:∀ b u,b≠e→h.get? b=some u→h'.get? b=some u)(heo:∃ u,h'.get? e=some u):Un fs ex H (upd H x o) h h':=by
 have hx:∀ b,H b=none→b≠x:=fun b n z=>by subst z;rw[n]at mu;exact mu
 have hb:∀ b,H b=none→b≠e:=fun b n z=>by
  subst z
  rcases he with r | r
  ·exact hx b n r
  ·rw[n]at r;cases r
 have hm:∀ b u,H b=some u→¬ Mut (some u)→b≠x:=fun b u q nm z=>by subst z;rw[q]at mu;exact nm mu
 refine⟨fun b u q n _ _=>k b u (hb b n) q,fun b u q n _ _=>⟨u.slots,k b u (hb b n) q⟩,fun b u q n _=>by rw[ag (hx b n)];exact n,fun b u q _=>?_,
  fun b xs q=>by rw[ag (hm b _ q fun z=>z)];exact q,fun b u xs q=>by rw[ag (hm b _ q fun z=>z)];exact q,fun b ps q=>⟨#[],by rw[ag (hm b _ q fun z=>z),q];simp⟩⟩
 by_cases hbe:b=e
 ·subst hbe;exact heo
 ·exact⟨u,k b u hbe q⟩
theorem Un.mono (u:Un fs ex H H1 h h1)(hs:∀ b∈fs,b∈fs')(hx:∀ b∈ex,b∈ex'):Un fs' ex' H H1 h h1 :=
 ⟨fun b ob q n hb he=>u.keep b ob q n (fun z=>hb (hs b z)) fun z=>he (hx b z),fun _ _ q n _ he=>u.any q n fun z=>he (hx _ z),fun b ob q n he=>u.free b ob q n fun z=>he (hx b z),fun b ob q he=>u.there b ob q fun z=>he (hx b z),u.tups,u.frzs,u.tbls⟩
end
def trk (h:Heap)(H:Hp):List Addr:=(List.range h.objs.size).filter fun a=>(H a).isSome
def hidT (h:Heap)(H:Hp):Heap:=PySem.W.hideAll h (trk h H)
theorem qk (h:Heap)(H:Hp):(hidT h H).objs.size=h.objs.size:=PySem.W.hideAll_size _ _
theorem sD {h:Heap}{H:Hp}{b:Addr}{o:Obj}(e:h.get? b=some o)(n:H b=none):(hidT h H).get? b=some o :=
 PySem.W.hideAll_get _ e fun hm=>by
  have q:=(List.mem_filter.mp hm).2
  rw[n]at q;simp at q
theorem vk {h:Heap}{H:Hp}{b:Addr}{o:Obj}(e:(hidT h H).get? b=some o):h.get? b=some o∧H b=none:=by
 have e':=PySem.W.of_hideAll (trk h H) e
 refine⟨e',?_⟩
 cases q:H b with
 | none=>rfl
 | some x =>
  have hm:b∈trk h H:=List.mem_filter.mpr ⟨List.mem_range.mpr (Heap.lt_size e'),by simp[q]⟩
  have z:(hidT h H).get? b=none:=PySem.W.hideAll_none (trk h H) hm
  rw[z]at e;cases e
def allNews (g h:Heap)(L:Addr):List (Addr×Obj):=(List.range h.objs.size).filterMap fun a=>if a=L∨(g.get? a).isSome=true then none else (h.get? a).map fun o=>(a,o)
def rest (g h:Heap)(L d:Addr):List (Addr×Obj):=(allNews g h L).filter fun p=>decide (p.1≠d)
end L2
namespace L2
open PySem PySem.Spec PyProof.Rows
structure Mod (K:PySem.W.Frag)(mg:Str→Option Value)(base:Heap):Prop where
 kin:K.In base
 glob:base.Ns mainGlobals mg
 blt:∃ mb,base.Ns builtinsNs mb∧∀ x:Str,x ≠ "__name__" → mb x=bootBuiltins x
 nolimit:base.NoLimit
structure Cx where
 prog:Program
 w:World
 K:PySem.W.Frag
 mg:Str→Option Value
 base:Heap
 A:Around
 N:List Str
 s₀:Shared
 H₀:Hp
 env:Env
 outer:List Env
 stack:List Env
 ex:List Addr
 fn:Str→Bool
 calm:Bool
 pn:List (Addr×Obj)
 xe:Value→Shared→Prop
def frs (l:List Env):List Addr:=l.filterMap (·.frame)
abbrev Cx.fs (X:Cx):List Addr:=frs X.outer
def Vis (sc:Scope)(x:Str):Prop:=sc.names.lookup x=some .local∨sc.names.lookup x=some .cell∨sc.names.lookup x=some .free
def Loc (sc:Scope)(x:Str):Prop:=sc.names.lookup x=some .local∨sc.names.lookup x=some .cell
def Look (env:Env)(h:Heap)(m:Str→Option Value)(x:Str)(u:Value):Prop :=
 (env.kindOf x=some .local∧m x=some u)∨((env.kindOf x=some .cell∨env.kindOf x=some .free)∧∃ c,env.cells.lookup x=some c∧h.IsCell c (some u))
structure Cx.Ok (X:Cx):Prop where
 mod:Mod X.K X.mg X.base
 kind:X.env.scope.kind=.function
 glob:X.env.globals=mainGlobals
 blt:X.env.builtins=builtinsNs
 above:X.s₀.heap.objs.size≤X.env.locals
 inj:∀ x y c,X.env.cells.lookup x=some c→X.env.cells.lookup y=some c→x=y
 has:∀ x,(X.env.kindOf x=some .cell∨X.env.kindOf x=some .free)→∃ c,X.env.cells.lookup x=some c
 cab:∀ x c,X.fn x=true→X.env.cells.lookup x=some c→X.s₀.heap.objs.size≤c
 hd:X.calm=true→X.A.handled=none
 frames:X.A.frames=some X.stack
 stk:X.stack=X.outer∨(X.stack=X.env::X.outer∧X.env.frame=some X.env.locals)
 exf:∀ b∈X.ex,b≠X.env.locals∧∀ x c,X.env.cells.lookup x=some c→c≠b
 bs:∀ b o,X.base.get? b=some o→X.s₀.heap.get? b=some o∧X.H₀ b=none
 bsz:X.base.objs.size≤X.s₀.heap.objs.size
 noex:∀ b o,X.base.get? b=some o→b∉X.ex
 exfs:∀ b∈X.ex,b∉X.fs
 funs:X.s₀.heap.FunFrames X.base X.outer
 frf:∀ b∈X.fs,X.H₀ b=none
structure Inv (X:Cx)(pins:List (Addr×Obj))(σ:List (Option V))(H:Hp)(s:Shared):Prop where
 ok:X.Ok
 os:s.os=X.s₀.os
 bare:AllBare s.gens
 base:Un X.fs X.ex X.H₀ H X.s₀.heap s.heap
 loc:∃ m,s.heap.Ns X.env.locals m∧∀ (i:Nat) (x:Str) (v:V),X.N[i]?=some x→σ[i]?=some (some v)→Vis X.env.scope x→∃ u,RelV v u∧Look X.env s.heap m x u
 cell:∀ x c,X.env.cells.lookup x=some c→∃ v,s.heap.IsCell c v
 free:H X.env.locals=none
 freeC:∀ x c,X.env.cells.lookup x=some c→H c=none
 pin:∀ p∈X.pn++pins,s.heap.get? p.1=some p.2∧H p.1=none∧p.1≠X.env.locals∧p.1∉X.fs∧∀ v,p.2.data≠.cell v
 hok:HOk X.prog X.w H s.heap
 len:σ.length=X.N.length
section
variable {X:Cx}{pins:List (Addr×Obj)}{σ:List (Option V)}{H H':Hp}{s:Shared}{h':Heap}
theorem Cx.Ok.nofr (ok:X.Ok){b:Addr}{o:Obj}(e:X.base.get? b=some o):b∉X.fs:=fun hb=>by
 have:=(ok.funs.mem hb).1
 grind
theorem Inv.bs (I:Inv X pins σ H s):∀ b o,X.base.get? b=some o→s.heap.get? b=some o∧H b=none:=fun b o e =>
 ⟨I.base.keep b o (I.ok.bs b o e).1 (I.ok.bs b o e).2 (I.ok.nofr e) (I.ok.noex b o e),I.base.free b o (I.ok.bs b o e).1 (I.ok.bs b o e).2 (I.ok.noex b o e)⟩
theorem Inv.bk (I:Inv X pins σ H s):∀ b o,X.base.get? b=some o→s.heap.get? b=some o:=fun b o e=>(I.bs b o e).1
theorem Inv.mod (I:Inv X pins σ H s):Mod X.K X.mg X.base:=I.ok.mod
theorem Inv.kIn (I:Inv X pins σ H s):X.K.In s.heap:=I.ok.mod.kin.keeps I.bk
theorem Inv.fr (I:Inv X pins σ H s):∃ m,Fr X.base X.env.locals s.heap m :=
 let ⟨m,hn,_⟩:=I.loc
 ⟨m,hn,I.bk,Nat.le_trans I.ok.bsz I.ok.above⟩
theorem Inv.lt (I:Inv X pins σ H s):X.env.locals < s.heap.objs.size:=let ⟨_,hn,_⟩:=I.loc;hn.lt
theorem Inv.sz (I:Inv X pins σ H s):X.s₀.heap.objs.size≤s.heap.objs.size:=Nat.le_trans I.ok.above (Nat.le_of_lt I.lt)
theorem Inv.nofs (I:Inv X pins σ H s){a:Addr}(h:s.heap.objs.size≤a):a∉X.fs:=fun hb=>by
 obtain⟨_,o,ho,_⟩:=I.ok.funs.mem hb
 exact absurd (Nat.lt_of_lt_of_le (Heap.lt_size ho) (Nat.le_trans I.sz h)) (Nat.lt_irrefl _)
theorem Inv.cne (I:Inv X pins σ H s):∀ x c,X.env.cells.lookup x=some c→c≠X.env.locals:=fun x c e z=>by
 obtain⟨v,o,ho,hd⟩:=I.cell x c e
 obtain⟨m,⟨o',es,ep,ho',hd',_⟩,_⟩:=I.loc
 grind
theorem Inv.funs (I:Inv X pins σ H s):s.heap.FunFrames X.base X.outer:=by
 have all:∀ (l:List Env),(∀ b∈frs l,b∈X.fs)→X.s₀.heap.FunFrames X.base l→s.heap.FunFrames X.base l:=by
  intro l
  induction l with
  | nil=>intro _ _;trivial
  | cons env r ih =>
   intro hs hl
   obtain⟨hk,⟨L,o,hf,hn,ho,hd⟩,hr⟩:=hl
   have hL:L∈X.fs:=hs L (by unfold frs;rw[List.filterMap_cons,hf];exact List.mem_cons_self)
   obtain⟨sl,e⟩:=I.base.slot L o ho (I.ok.frf L hL) hL fun z=>I.ok.exfs L z hL
   exact⟨hk,⟨L,_,hf,hn,e,hd⟩,ih (fun b hb=>hs b (by unfold frs;rw[List.filterMap_cons,hf];exact List.mem_cons_of_mem _ hb)) hr⟩
 exact all X.outer (fun _ hb=>hb) I.ok.funs
theorem Inv.stack (I:Inv X pins σ H s):s.heap.FunFrames X.base X.stack:=by
 rcases I.ok.stk with e | ⟨e,hf⟩
 ·rw[e];exact I.funs
 ·rw[e]
  obtain⟨m,hn,_⟩:=I.loc
  refine .cons (by rw[I.ok.kind];decide) hf hn ?_ I.funs
  exact Heap.get?_none_of_le (Nat.le_trans I.ok.bsz I.ok.above)
theorem Inv.stkSub (I:Inv X pins σ H s):∀ b∈frs X.stack,b∈X.env.locals::X.fs:=fun b hb=>by
 rcases I.ok.stk with e | ⟨e,hf⟩
 ·grind
 ·rw[e]at hb
  unfold frs at hb
  rw[List.filterMap_cons,hf]at hb
  exact hb
theorem Inv.stkFree (I:Inv X pins σ H s):∀ b∈frs X.stack,H b=none:=fun b hb=>by
 rcases List.mem_cons.mp (I.stkSub b hb) with e | hb
 ·rw[e];exact I.free
 ·obtain⟨_,o,ho,_⟩:=I.ok.funs.mem hb
  exact I.base.free b o ho (I.ok.frf b hb) fun z=>I.ok.exfs b z hb
theorem Inv.step {g':Array GenState}{t':Nat}{d':Drawn}{ch:List Addr}(I:Inv X pins σ H s)
  (hch:∀ b∈ch,(b∈X.ex∨X.s₀.heap.objs.size≤b)∧b≠X.env.locals∧(∀ x c,X.env.cells.lookup x=some c→c≠b)∧∀ p∈X.pn++pins,p.1≠b)
  (keep:∀ b o,b≠X.env.locals→b∉X.fs→b∉ch→s.heap.get? b=some o→H b=none→h'.get? b=some o)
  (slot:∀ b o,b≠X.env.locals→b∈X.fs→b∉ch→s.heap.get? b=some o→H b=none→∃ sl,h'.get? b=some { o with slots:=sl }) (free:∀ b o,b∉ch→s.heap.get? b=some o→H b=none→H' b=none)
  (there:∀ b o,b∉ch→s.heap.get? b=some o→∃ o',h'.get? b=some o')
  (tups:∀ b xs,H b=some (.tup xs)→H' b=some (.tup xs)) (frzs:∀ b o u,H b=some (.frz o u)→H' b=some (.frz o u)) (tbls:∀ b ps,H b=some (.tbl ps)→∃ more,H' b=some (.tbl (ps++more)))
  (ns:∀ m,s.heap.Ns X.env.locals m→h'.Ns X.env.locals m) (hok:HOk X.prog X.w H' h') (hg:AllBare g') :
  Inv X pins σ H' { s with heap:=h',gens:=g',drawn:=d',toks:=t' }:=by
 have neL:∀ b o,X.s₀.heap.get? b=some o→b≠X.env.locals:=fun b o e=>Nat.ne_of_lt (Nat.lt_of_lt_of_le (Heap.lt_size e) I.ok.above)
 have neC:∀ b o,X.s₀.heap.get? b=some o→b∉X.ex→b∉ch:=fun b o e hx hb=>by
  rcases(hch b hb).1 with z | z
  ·exact hx z
  ·exact absurd (Nat.lt_of_lt_of_le (Heap.lt_size e) z) (Nat.lt_irrefl _)
 have cellK:∀ x c,X.env.cells.lookup x=some c→∀ v,s.heap.IsCell c v→h'.IsCell c v:=fun x c e v ⟨o,ho,hd⟩=>by
  have nch:c∉ch:=fun z=>(hch c z).2.2.1 x c e rfl
  by_cases hc:c∈X.fs
  ·obtain⟨sl,q⟩:=slot c o (I.cne x c e) hc nch ho (I.freeC x c e)
   exact⟨_,q,hd⟩
  ·exact⟨o,keep c o (I.cne x c e) hc nch ho (I.freeC x c e),hd⟩
 refine⟨I.ok,I.os,hg,⟨fun b o e n hb hx=>?_,fun b o e n hb hx=>?_,fun b o e n hx=>?_,fun b o e hx=>?_,fun b xs e=>tups b xs (I.base.tups b xs e),fun b o xs e=>frzs b o xs (I.base.frzs b o xs e),fun b ps e=>?_⟩,?_,fun x c e=>?_,?_,fun x c e=>?_,fun p hp=>?_,hok,I.len⟩
 ·exact keep b o (neL b o e) hb (neC b o e hx) (I.base.keep b o e n hb hx) (I.base.free b o e n hx)
 ·obtain⟨sl,e1⟩:=I.base.slot b o e n hb hx
  obtain⟨sl',e2⟩:=slot b _ (neL b o e) hb (neC b o e hx) e1 (I.base.free b o e n hx)
  exact⟨sl',e2⟩
 ·obtain⟨o',e1⟩:=I.base.there b o e hx
  exact free b o' (neC b o e hx) e1 (I.base.free b o e n hx)
 ·obtain⟨o',e1⟩:=I.base.there b o e hx
  exact there b o' (neC b o e hx) e1
 ·obtain⟨m1,e1⟩:=I.base.tbls b ps e
  obtain⟨m2,e2⟩:=tbls b _ e1
  exact⟨m1++m2,by rw[e2,Array.append_assoc]⟩
 ·obtain⟨m,hn,hl⟩:=I.loc
  refine⟨m,ns m hn,fun i x v e1 e2 e3=>?_⟩
  obtain⟨u,r,l⟩:=hl i x v e1 e2 e3
  refine⟨u,r,?_⟩
  rcases l with l | ⟨k,c,e,z⟩
  ·exact .inl l
  ·exact .inr ⟨k,c,e,cellK x c e _ z⟩
 ·obtain⟨v,z⟩:=I.cell x c e
  exact⟨v,cellK x c e v z⟩
 ·obtain⟨m,⟨o,_,_,ho,_⟩,_⟩:=I.loc
  exact free _ o (fun z=>(hch _ z).2.1 rfl) ho I.free
 ·obtain⟨v,o,ho,hd⟩:=I.cell x c e
  exact free c o (fun z=>(hch c z).2.2.1 x c e rfl) ho (I.freeC x c e)
 ·obtain⟨e,n,ne,nf,d⟩:=I.pin p hp
  have nch:p.1∉ch:=fun z=>(hch p.1 z).2.2.2 p hp rfl
  exact⟨keep p.1 p.2 ne nf nch e n,free p.1 p.2 nch e n,ne,nf,d⟩
theorem Inv.un {t':Nat}(I:Inv X pins σ H s)(u:Un X.fs [] H H' s.heap h')(hok:HOk X.prog X.w H' h'):Inv X pins σ H' { s with heap:=h',toks:=t' }:=by
 obtain⟨m,⟨o,es,ep,ho,r⟩,_⟩:=id I.loc
 obtain⟨sl,hL⟩:=u.any ho I.free (by simp)
 exact I.step (ch:=[]) (fun _ z=>nomatch z) (fun b o _ hb _ e n=>u.keep b o e n hb (by simp)) (fun b o _ hb _ e n=>u.slot b o e n hb (by simp)) (fun b o _ e n=>u.free b o e n (by simp)) (fun b o _ e=>u.there b o e (by simp)) u.tups u.frzs u.tbls (fun m' hm=>by
  obtain⟨o',es',ep',ho',r'⟩:=hm
  rw[ho]at ho';cases ho'
  exact⟨_,es',ep',hL,r'⟩) hok I.bare
theorem Inv.call {g':Array GenState}{t':Nat}{d':Drawn}{ch:List Addr}(I:Inv X pins σ H s)(u:Un (frs X.stack) ch H H' s.heap h')(hok:HOk X.prog X.w H' h')(hg:AllBare g')
  (hch:∀ b∈ch,(b∈X.ex∨X.s₀.heap.objs.size≤b)∧b≠X.env.locals∧(∀ x c,X.env.cells.lookup x=some c→c≠b)∧∀ p∈X.pn++pins,p.1≠b) :
  Inv X pins σ H' { s with heap:=h',gens:=g',drawn:=d',toks:=t' }:=by
 obtain⟨m,⟨o,es,ep,ho,r⟩,_⟩:=id I.loc
 obtain⟨sl,hL⟩:=u.any ho I.free fun z=>(hch _ z).2.1 rfl
 exact I.step hch (fun b o hL hb hc e n=>u.keep b o e n (fun z=>(List.mem_cons.mp (I.stkSub b z)).elim hL hb) hc) (fun b o _ _ hc e n=>u.any e n hc) (fun b o hc e n=>u.free b o e n hc) (fun b o hc e=>u.there b o e hc) u.tups u.frzs u.tbls (fun m' hm=>by
  obtain⟨o',es',ep',ho',r'⟩:=hm
  rw[ho]at ho';cases ho'
  exact⟨_,es',ep',hL,r'⟩) hok hg
theorem Inv.turned {t':Nat}{it:Addr}(I:Inv X pins σ H s)(k:∀ b o,b≠it→s.heap.get? b=some o→h'.get? b=some o)(hn:H it=none)(hL:it≠X.env.locals)
  (h1:it∈X.ex∨X.s₀.heap.objs.size≤it) (h2:∀ x c,X.env.cells.lookup x=some c→c≠it) (h3:∀ p∈X.pn++pins,p.1≠it):Inv X pins σ H { s with heap:=h',toks:=t' }:=by
 have nit:∀ b u,H b=some u→b≠it:=fun b u e z=>by rw[z,hn]at e;cases e
 refine I.step (ch:=[it]) (fun b hb=>?_) (fun b o _ _ hc e _=>k b o (fun z=>hc (by simp[z])) e) (fun b o _ _ hc e _=>⟨o.slots,k b o (fun z=>hc (by simp[z])) e⟩) (fun _ _ _ _ n=>n)
  (fun b o hc e=>⟨o,k b o (fun z=>hc (by simp[z])) e⟩) (fun _ _ e=>e) (fun _ _ _ e=>e) (fun b ps e=>⟨#[],by rw[e];simp⟩) (fun m hm=>?_) (fun b u e=>?_) I.bare
 ·have e:b=it:=by simpa using hb
  subst e
  exact⟨h1,hL,h2,h3⟩
 ·obtain⟨o,es,ep,ho,r⟩:=hm
  exact⟨o,es,ep,k _ o (Ne.symm hL) ho,r⟩
 ·refine(I.hok b u e).stay (fun c v hc q=>k c v ?_ q) (fun _ q=>q) fun _ _ q=>q
  rcases hc with z | z
  ·rw[z];exact nit b u e
  ·exact nit c _ z
theorem Inv.tok (I:Inv X pins σ H s)(t:Nat):Inv X pins σ H { s with toks:=t }:=I.un Un.refl I.hok
theorem Inv.kept {t':Nat}(I:Inv X pins σ H s)(k:∀ b u,s.heap.get? b=some u→h'.get? b=some u):Inv X pins σ H { s with heap:=h',toks:=t' }:=I.un (Un.kept k) (I.hok.kept k)
theorem Inv.laid {a:Addr}{o:HO}{t':Nat}(I:Inv X pins σ H s)(k:∀ b u,s.heap.get? b=some u→h'.get? b=some u)(hp:s.heap.objs.size≤a)(new:ObjOk X.prog X.w (upd H a o) h' a o) :
  Inv X pins σ (upd H a o) { s with heap:=h',toks:=t' }:=I.un (Un.laid k hp (I.hok.fresh hp)) (I.hok.laid k hp new)
theorem Inv.write {x e:Addr}{o:HO}{t':Nat}(I:Inv X pins σ H s)(mu:Mut (H x))(he:e=x∨H e=some (.own x))(k:∀ b u,b≠e→s.heap.get? b=some u→h'.get? b=some u)(heo:∃ u,h'.get? e=some u)
  (new:ObjOk X.prog X.w (upd H x o) h' x o):Inv X pins σ (upd H x o) { s with heap:=h',toks:=t' }:=I.un (Un.write mu he k heo) (I.hok.write mu he k heo new)
theorem Inv.pins_of {pins':List (Addr×Obj)}(I:Inv X pins σ H s)(h:∀ p∈pins',s.heap.get? p.1=some p.2∧H p.1=none∧p.1≠X.env.locals∧p.1∉X.fs∧∀ v,p.2.data≠.cell v):Inv X pins' σ H s :=
 ⟨I.ok,I.os,I.bare,I.base,I.loc,I.cell,I.free,I.freeC,fun p hp=>(List.mem_append.mp hp).elim (fun z=>I.pin p (List.mem_append_left _ z)) (h p),I.hok,I.len⟩
theorem lK {N:List Str}(hN:N.Nodup){i j:Nat}{x:Str}(a:N[i]?=some x)(b:N[j]?=some x):i=j:=by
 obtain⟨h1,e1⟩:=List.getElem?_eq_some_iff.mp a
 obtain⟨h2,e2⟩:=List.getElem?_eq_some_iff.mp b
 exact(List.getElem_inj hN).mp (e1.trans e2.symm)
theorem jZ {M:Model}{A:Around}{E:Value→Shared→Prop}{i:Nat}{x:Str}{v:V}{u:Value}{Q:Unit→Shared→Prop}(I:Inv X pins σ H s)(hN:X.N.Nodup)(hi:X.N[i]?=some x)(hx:Loc X.env.scope x)(r:RelV v u)
  (h:∀ s',Inv X pins (σ.set i (some v)) H s'→(∃ a,Heap.SameBut a s.heap s'.heap∧(a=X.env.locals∨X.env.cells.lookup x=some a))→Q () s') (hf:X.fn x=true∨X.env.scope.names.lookup x=some .local:=by first | exact .inl rfl | exact .inr rfl | assumption):wpAny M A (storeName X.env x u) Q E s:=by
 obtain⟨m,hn,hl⟩:=id I.loc
 have hcls:(X.env.scope.kind==.class||(X.env.scope.kind==.module&&X.env.locals != X.env.globals))=false:=by rw[I.ok.kind];rfl
 have hiσ:i < σ.length:=by rw[I.len];exact(List.getElem?_eq_some_iff.mp hi).1
 have cne:=I.cne
 have tracked:∀ {a:Addr} {h':Heap},(∃ o,s.heap.get? a=some o∧H a=none)→Heap.SameBut a s.heap h'→HOk X.prog X.w H h':=fun {a h'} ha hs b ob e=>by
  obtain⟨_,_,hfree⟩:=ha
  refine(I.hok b ob e).stay (fun c w' hc q=>(hs.2 c ?_).trans q) (fun _ q=>q) fun _ _ q=>q
  rintro rfl
  rcases hc with rfl | hc
  ·rw[hfree]at e;cases e
  ·rw[hfree]at hc;cases hc
 rcases hx with hk | hk
 ·refine wpAny_storeName_local hk hn (fun h' hn' hs=>?_) hcls
  obtain⟨oL,_,_,hoL,_⟩:=id hn
  refine h _ ⟨I.ok,I.os,I.bare,⟨fun b o e n hb hx=>?_,fun b o e n hb hx=>?_,I.base.free,fun b o e hx=>?_,I.base.tups,I.base.frzs,I.base.tbls⟩,⟨_,hn',fun j y v' e1 e2 e3=>?_⟩,fun y c e=>?_,I.free,I.freeC,fun p hp=>?_,tracked ⟨oL,hoL,I.free⟩ hs,by simpa using I.len⟩ ⟨_,hs,.inl rfl⟩
  ·exact(hs.2 b (Nat.ne_of_lt (Nat.lt_of_lt_of_le (Heap.lt_size e) I.ok.above))).trans (I.base.keep b o e n hb hx)
  ·obtain⟨sl,e1⟩:=I.base.slot b o e n hb hx
   exact⟨sl,(hs.2 b (Nat.ne_of_lt (Nat.lt_of_lt_of_le (Heap.lt_size e) I.ok.above))).trans e1⟩
  ·obtain⟨o',e1⟩:=I.base.there b o e hx
   exact⟨o',(hs.2 b (Nat.ne_of_lt (Nat.lt_of_lt_of_le (Heap.lt_size e) I.ok.above))).trans e1⟩
  ·by_cases hj:j=i
   ·subst hj
    rw[hi]at e1;cases e1
    rw[List.getElem?_set_self hiσ]at e2
    cases e2
    exact⟨u,r,.inl ⟨hk,by simp⟩⟩
   ·rw[List.getElem?_set_ne (Ne.symm hj)]at e2
    obtain⟨u',r',q⟩:=hl j y v' e1 e2 e3
    refine⟨u',r',?_⟩
    rcases q with ⟨k,e⟩ | ⟨k,c,e,z⟩
    ·refine .inl ⟨k,?_⟩
     have:y≠x:=fun e=>hj (lK hN e1 (e ▸ hi))
     simp[this,e]
    ·exact .inr ⟨k,c,e,z.sameBut hs (cne y c e)⟩
  ·obtain⟨w',z⟩:=I.cell y c e
   exact⟨w',z.sameBut hs (cne y c e)⟩
  ·obtain⟨e,n,ne,nf,d⟩:=I.pin p hp
   exact⟨(hs.2 p.1 ne).trans e,n,ne,nf,d⟩
 ·have hfn:X.fn x=true:=by
   rcases hf with z | z
   ·exact z
   ·rw[z]at hk;cases hk
  obtain⟨c,hc⟩:=I.ok.has x (.inl hk)
  obtain⟨w',z⟩:=I.cell x c hc
  refine wpAny_storeName_cell I.ok.kind hk hc z (fun h' hc' hs=>?_)
  obtain⟨oc,hoc,hocd⟩:=id z
  refine h { s with heap:=h' } ⟨I.ok,I.os,I.bare,⟨fun b o e n hb hx=>?_,fun b o e n hb hx=>?_,I.base.free,fun b o e hx=>?_,I.base.tups,I.base.frzs,I.base.tbls⟩,⟨m,hn.sameBut hs (Ne.symm (cne x c hc)),fun j y v' e1 e2 e3=>?_⟩,fun y c' e=>?_,I.free,I.freeC,fun p hp=>?_,tracked ⟨oc,hoc,I.freeC x c hc⟩ hs,by simpa using I.len⟩ ⟨c,hs,.inr hc⟩
  ·exact(hs.2 b (Nat.ne_of_lt (Nat.lt_of_lt_of_le (Heap.lt_size e) (I.ok.cab x c hfn hc)))).trans (I.base.keep b o e n hb hx)
  ·obtain⟨sl,e1⟩:=I.base.slot b o e n hb hx
   exact⟨sl,(hs.2 b (Nat.ne_of_lt (Nat.lt_of_lt_of_le (Heap.lt_size e) (I.ok.cab x c hfn hc)))).trans e1⟩
  ·obtain⟨o',e1⟩:=I.base.there b o e hx
   exact⟨o',(hs.2 b (Nat.ne_of_lt (Nat.lt_of_lt_of_le (Heap.lt_size e) (I.ok.cab x c hfn hc)))).trans e1⟩
  ·by_cases hj:j=i
   ·subst hj
    rw[hi]at e1;cases e1
    rw[List.getElem?_set_self hiσ]at e2
    cases e2
    exact⟨u,r,.inr ⟨.inl hk,c,hc,hc'⟩⟩
   ·rw[List.getElem?_set_ne (Ne.symm hj)]at e2
    obtain⟨u',r',q⟩:=hl j y v' e1 e2 e3
    refine⟨u',r',?_⟩
    rcases q with q | ⟨k,c',e,z'⟩
    ·exact .inl q
    ·refine .inr ⟨k,c',e,z'.sameBut hs ?_⟩
     rintro rfl
     exact hj (lK hN e1 (I.ok.inj _ _ _ e hc ▸ hi))
  ·by_cases hcc:c'=c
   ·subst hcc;exact⟨_,hc'⟩
   ·obtain⟨w2,z2⟩:=I.cell y c' e
    exact⟨w2,z2.sameBut hs hcc⟩
  ·obtain⟨e,n,ne,nf,d⟩:=I.pin p hp
   refine⟨(hs.2 p.1 ?_).trans e,n,ne,nf,d⟩
   intro q
   rw[q,hoc]at e
   have q':oc=p.2:=Option.some.inj e
   exact d w' (by rw[← q'];exact hocd)
theorem lL {M:Model}{A:Around}{E:Value→Shared→Prop}{i:Nat}{x:Str}{v:V}{u:Value}{Q:Unit→Shared→Prop}(I:Inv X pins σ H s)(hN:X.N.Nodup)(hi:X.N[i]?=some x)(hx:Loc X.env.scope x)(r:RelV v u)
  (h:∀ s',Inv X pins (σ.set i (some v)) H s'→Q () s') (hf:X.fn x=true∨X.env.scope.names.lookup x=some .local:=by first | exact .inl rfl | exact .inr rfl | assumption):wpAny M A (storeName X.env x u) Q E s :=
 jZ I hN hi hx r (fun s' I' _=>h s' I') hf
theorem Inv.call' {s':Shared}{ch:List Addr}(I:Inv X pins σ H s)(ho:s'.os=s.os)(u:Un (frs X.stack) ch H H' s.heap s'.heap)(hok:HOk X.prog X.w H' s'.heap)(hg:AllBare s'.gens)
  (hch:∀ b∈ch,(b∈X.ex∨X.s₀.heap.objs.size≤b)∧b≠X.env.locals∧(∀ x c,X.env.cells.lookup x=some c→c≠b)∧∀ p∈X.pn++pins,p.1≠b):Inv X pins σ H' s':=by
 obtain⟨h',g',d',t',o'⟩:=s'
 have e:o'=s.os:=ho
 subst e
 exact I.call u hok hg hch
end
abbrev XK:=Value→Option Addr→Hp→Prop
abbrev St:=List (Option V)
abbrev VK:=V→Hp→Prop
abbrev TE:=St→Hp→VK→Prop
abbrev TT:=St→Hp→(Bool→Hp→Prop)→Prop
abbrev TA:=St→Hp→(List V→Hp→Prop)→Prop
structure Ends where
 nx:St→Hp→Prop
 rt:VK
 bk:St→Hp→Prop:=fun _ _=>False
 ct:St→Hp→Prop:=fun _ _=>False
abbrev TS:=Ends→St→Hp→Prop
def EP (X:Cx)(pins:List (Addr×Obj))(σ:St)(Q:VK)(u:Value)(s':Shared):Prop:=∃ v H',Inv X pins σ H' s'∧RelV v u∧Q v H'
def TP (X:Cx)(pins:List (Addr×Obj))(σ:St)(Q:Bool→Hp→Prop)(b:Bool)(s':Shared):Prop:=∃ H',Inv X pins σ H' s'∧Q b H'
def AP (X:Cx)(pins:List (Addr×Obj))(σ:St)(Q:List V→Hp→Prop)(us:List Value)(s':Shared):Prop:=∃ vs H',Inv X pins σ H' s'∧Vals vs us∧Q vs H'
def SP (X:Cx)(pins:List (Addr×Obj))(D:Ends)(f:Flow)(s':Shared):Prop :=
 match f with
 | .next=>∃ σ' H',Inv X pins σ' H' s'∧D.nx σ' H'
 | .brk=>∃ σ' H',Inv X pins σ' H' s'∧D.bk σ' H'
 | .cont=>∃ σ' H',Inv X pins σ' H' s'∧D.ct σ' H'
 | .ret u=>∃ v σ' H',Inv X pins σ' H' s'∧RelV v u∧D.rt v H'
def PE (X:Cx)(e:Expr)(t:TE):Prop :=
 ∀ (pins:List (Addr×Obj)) (s:Shared) (σ:St) (H:Hp) (Q:VK),Inv X pins σ H s→t σ H Q→wpAny (model X.prog X.w) X.A (eval e X.env) (EP X pins σ Q) X.xe s
def PT (X:Cx)(e:Expr)(t:TT):Prop :=
 ∀ (pins:List (Addr×Obj)) (s:Shared) (σ:St) (H:Hp) (Q:Bool→Hp→Prop),Inv X pins σ H s→t σ H Q→wpAny (model X.prog X.w) X.A (isTrue e X.env (eval e X.env)) (TP X pins σ Q) X.xe s
def PW (X:Cx)(e:Expr)(t:TT):Prop :=
 ∀ (whole:Sem Value) (pins:List (Addr×Obj)) (s:Shared) (σ:St) (H:Hp) (Q:Bool→Hp→Prop),Inv X pins σ H s→t σ H Q→wpAny (model X.prog X.w) X.A (isTrue e X.env whole) (TP X pins σ Q) X.xe s
theorem PW.pt {X:Cx}{e:Expr}{t:TT}(h:PW X e t):PT X e t:=h _
def PA (X:Cx)(es:List Expr)(t:TA):Prop :=
 ∀ (pos:Pos) (pins:List (Addr×Obj)) (s:Shared) (σ:St) (H:Hp) (Q:List V→Hp→Prop),Inv X pins σ H s→t σ H Q→wpAny (model X.prog X.w) X.A (spliced (backTo pos (starEach es X.env))) (AP X pins σ Q) X.xe s
def PS (X:Cx)(st:Stmt)(t:TS):Prop :=
 ∀ (pins:List (Addr×Obj)) (s:Shared) (σ:St) (H:Hp) (D:Ends),Inv X pins σ H s→t D σ H→wpAny (model X.prog X.w) X.A (exec st X.env) (SP X pins D) X.xe s
def PSs (X:Cx)(st:List Stmt)(t:TS):Prop :=
 ∀ (pins:List (Addr×Obj)) (s:Shared) (σ:St) (H:Hp) (D:Ends),Inv X pins σ H s→t D σ H→wpAny (model X.prog X.w) X.A (execs st X.env) (SP X pins D) X.xe s
theorem thn {α:Type}{t:Sem α}{Q Q':α→Shared→Prop}{M:Model}{A:Around}{E:Value→Shared→Prop}{s:Shared}(h:wpAny M A t Q E s)(hQ:∀ a s,Q a s→Q' a s):wpAny M A t Q' E s:=wpAny_mono h hQ fun _ _ x=>x
end L2
namespace L2
open PySem PySem.Spec PyProof.Rows
section
variable {X:Cx}
theorem bin {a b:Expr}{ta tb:TE}(ha:PE X a ta)(hb:PE X b tb){pins:List (Addr×Obj)}{s:Shared}{σ:St}{H:Hp}{R:V→V→Hp→Prop}(I:Inv X pins σ H s)(h:ta σ H fun x H1=>tb σ H1 fun y H2=>R x y H2)
  {α:Type} {Q:α→Shared→Prop} {f:Value→Value→Sem α}
  (hf:∀ v u s2 x y H2,Inv X pins σ H2 s2→RelV x v→RelV y u→R x y H2→wpAny (model X.prog X.w) X.A (f v u) Q X.xe s2) :
  wpAny (model X.prog X.w) X.A (eval a X.env) (fun v s₁=>wpAny (model X.prog X.w) X.A (eval b X.env) (fun u s₂=>wpAny (model X.prog X.w) X.A (f v u) Q X.xe s₂) X.xe s₁) X.xe s:=by
 refine thn (ha pins s σ H _ I h) fun v s1 ⟨x,H1,I1,r1,q1⟩=>?_
 refine thn (hb pins s1 σ H1 _ I1 q1) fun u s2 ⟨y,H2,I2,r2,q2⟩=>?_
 exact hf v u s2 x y H2 I2 r1 r2 q2
def tVar (i:Nat):TE:=fun σ H Q=>∃ v,σ[i]?=some (some v)∧Q v H
def tC (v:V):TE:=fun _ H Q=>Q v H
theorem ci {i:Nat}{x:Str}{pos:Pos}(hN:X.N[i]?=some x)(hv:Vis X.env.scope x)(hd:(x==("__debug__":Str))=false:=by decide)(hcd:(x==("__classdict__":Str))=false:=by decide):PE X (.Name x pos) (tVar i):=by
 intro pins s σ H Q I h
 obtain⟨v,e,h⟩:=h
 obtain⟨m,hn,hl⟩:=I.loc
 obtain⟨u,r,l⟩:=hl i x v hN e hv
 have fin:EP X pins σ Q u s:=⟨v,H,I,r,h⟩
 rcases l with ⟨hk,hm⟩ | ⟨hk,c,hc,hcell⟩
 ·exact wpAny_Name (wpAny_loadName_local I.ok.kind hk hn hm fin) hd
 ·rcases hk with hk | hk
  ·exact wpAny_Name (wpAny_loadName_cell I.ok.kind hk hc hcell fin) hd
  ·exact wpAny_Name (wpAny_loadName_free I.ok.kind hk hc hcell fin hcd) hd
theorem sE {i j pos}:PE X (.Constant (.int i) j pos) (tC (.int i)):=fun _ _ _ H _ I h=>wpAny_Constant_int ⟨.int i,H,I.tok _,⟨_,rfl⟩,h⟩
theorem yH {b j pos}:PE X (.Constant (.bool b) j pos) (tC (.bl b)):=fun _ _ _ H _ I h=>Constant_bool ⟨.bl b,H,I,rfl,h⟩
theorem xp {x j pos}:PE X (.Constant (.str x) j pos) (tC (.str x)):=fun _ _ _ H _ I h=>Calls.Constant_str ⟨.str x,H,I.tok _,⟨_,rfl⟩,h⟩
def Gl (X:Cx)(x:Str):Prop:=X.env.kindOf x=some .globalImplicit
theorem iy {E:Value→Shared→Prop}{pins:List (Addr×Obj)}{s:Shared}{σ:St}{H:Hp}{x:Str}{u:Value}{pos:Pos}{Q:Value→Shared→Prop}(I:Inv X pins σ H s)(hg:Gl X x)(hm:X.mg x=some u)(h:Q u s)
  (hd:(x==("__debug__":Str))=false:=by decide):wpAny (model X.prog X.w) X.A (eval (.Name x pos) X.env) Q E s :=
 Calls.Name_function_global I.ok.kind hg (Calls.loadGlobal_global (by rw[I.ok.glob];exact I.mod.glob.keeps I.bk) hm h) hd
theorem iE {E:Value→Shared→Prop}{pins:List (Addr×Obj)}{s:Shared}{σ:St}{H:Hp}{x:Str}{u:Value}{pos:Pos}{Q:Value→Shared→Prop}(I:Inv X pins σ H s)(hg:Gl X x)(hm:X.mg x=none)(hv:bootBuiltins x=some u)(h:Q u s)
  (hn:x ≠ "__name__" := by decide) (hd:(x==("__debug__":Str))=false:=by decide):wpAny (model X.prog X.w) X.A (eval (.Name x pos) X.env) Q E s:=by
 obtain⟨mb,h1,h2⟩:=I.mod.blt
 exact Calls.Name_function_global I.ok.kind hg (Calls.loadGlobal_builtin (by rw[I.ok.glob];exact I.mod.glob.keeps I.bk) hm (by rw[I.ok.blt];exact h1.keeps I.bk) ((h2 x hn).trans hv) h) hd
theorem iz {x:Str}{v:V}{u:Value}{pos:Pos}(hg:Gl X x)(hm:X.mg x=some u)(r:RelV v u)(hd:(x==("__debug__":Str))=false:=by decide):PE X (.Name x pos) (tC v) :=
 fun _ _ _ H _ I h=>iy I hg hm ⟨v,H,I,r,h⟩ hd
theorem bo {x:Str}{v:V}{u:Value}{pos:Pos}(hg:Gl X x)(hm:X.mg x=none)(hv:bootBuiltins x=some u)(r:RelV v u)(hn:x ≠ "__name__" := by decide)(hd:(x==("__debug__":Str))=false:=by decide):PE X (.Name x pos) (tC v) :=
 fun _ _ _ H _ I h=>iE I hg hm hv ⟨v,H,I,r,h⟩ hn hd
variable {a b:Expr}{ta tb:TE}{pos:Pos}
def PC (X:Cx)(op:CmpOp)(a b:Expr)(t:TE):Prop :=
 ∀ (pins:List (Addr×Obj)) (s:Shared) (σ:St) (H:Hp) (Q:VK),Inv X pins σ H s→t σ H Q →
  wpAny (model X.prog X.w) X.A (eval a X.env) (fun v s₁=>wpAny (model X.prog X.w) X.A (eval b X.env) (fun u s₂=>wpAny (model X.prog X.w) X.A (compareOp op v u) (EP X pins σ Q) X.xe s₂) X.xe s₁) X.xe s
theorem nobehind (b:Expr){op:CmpOp}(h:op≠.In)(h2:op≠.NotIn):behindInMarks op b=false:=by
 have e1:(op==CmpOp.In)=false:=by cases op<;>first | rfl | exact absurd rfl h
 have e2:(op==CmpOp.NotIn)=false:=by cases op<;>first | rfl | exact absurd rfl h2
 cases b<;>simp[behindInMarks,e1,e2]
def tB (t:TE):TT:=fun σ H Q=>t σ H fun x H1=>∃ c,x=.bl c∧Q c H1
theorem zx {op:CmpOp}{t:TE}(h:PC X op a b t)(h1:behindInMarks op b=false:=by first | exact nobehind _ (by decide) (by decide) | rfl):PT X (.Compare a [op] [b] pos) (tB t):=by
 intro pins s σ H Q I hw
 refine wpAny_isTrue_Compare1 (thn (h pins s σ H _ I hw) fun v s1 h1=>thn h1 fun u s2 h2=>thn h2 fun c s3 ⟨x,H1,I1,r1,q1⟩=>?_) h1
 obtain⟨d,rfl,q⟩:=q1
 cases r1
 exact wpAny_truthy_bool ⟨H1,I1,q⟩
theorem xq {e:Expr}{t:TE}(h:PE X e t)(he:∀ whole,isTrue e X.env whole=(do let v ← whole;standAt e.pos;holding [v] (truthy v)):=by intro _;rfl):PT X e (tB t):=by
 intro pins s σ H Q I hw
 refine isTrue_plain (thn (h pins s σ H _ I hw) fun v s1 ⟨x,H1,I1,r1,q1⟩=>?_) (he _)
 obtain⟨d,rfl,q⟩:=q1
 cases r1
 exact wpAny_truthy_bool ⟨H1,I1,q⟩
variable {tA tB':TT}{rest:List Expr}
def tAnd (t u:TT):TT:=fun σ H Q=>t σ H fun c H1=>if c=true then u σ H1 Q else Q false H1
def tOr (t u:TT):TT:=fun σ H Q=>t σ H fun c H1=>if c=true then Q true H1 else u σ H1 Q
def tNot (t:TT):TT:=fun σ H Q=>t σ H fun c H1=>Q (!c) H1
theorem vm (ha:PT X a tA):PW X (.BoolOp .And [a] pos) tA:=by
 intro wh pins s σ H Q I h
 refine isTrue_and (thn (ha pins s σ H Q I h) fun c s1 e=>?_)
 cases c with
 | true=>exact isTrue_and_nil e
 | false=>exact e
theorem xr (ha:PT X a tA):PW X (.BoolOp .Or [a] pos) tA:=by
 intro wh pins s σ H Q I h
 refine isTrue_or (thn (ha pins s σ H Q I h) fun c s1 e=>?_)
 cases c with
 | false=>exact isTrue_or_nil e
 | true=>exact e
theorem xt (ha:PT X a tA)(hb:PW X (.BoolOp .And (b::rest) pos) tB'):PW X (.BoolOp .And (a::b::rest) pos) (tAnd tA tB'):=by
 intro wh pins s σ H Q I h
 refine isTrue_and (thn (ha pins s σ H _ I h) fun c s1 ⟨H1,I1,q1⟩=>?_)
 cases c with
 | true=>exact hb wh pins s1 σ H1 Q I1 q1
 | false=>exact⟨H1,I1,q1⟩
theorem yI (ha:PT X a tA)(hb:PW X (.BoolOp .Or (b::rest) pos) tB'):PW X (.BoolOp .Or (a::b::rest) pos) (tOr tA tB'):=by
 intro wh pins s σ H Q I h
 refine isTrue_or (thn (ha pins s σ H _ I h) fun c s1 ⟨H1,I1,q1⟩=>?_)
 cases c with
 | true=>exact⟨H1,I1,q1⟩
 | false=>exact hb wh pins s1 σ H1 Q I1 q1
theorem xw (ha:PT X a tA):PT X (.UnaryOp .Not a pos) (tNot tA):=by
 intro pins s σ H Q I h
 exact isTrue_not (ha pins s σ H (fun c H1=>Q (!c) H1) I h)
def tAndV (ta tb:TE):TE:=fun σ H Q=>ta σ H fun x H1=>∃ c,x=.bl c∧if c=true then tb σ H1 Q else Q (.bl false) H1
def tNotV (ta:TE):TE:=fun σ H Q=>ta σ H fun x H1=>∃ c,x=.bl c∧Q (.bl (!c)) H1
theorem xy {op}{t:TE}(h:PE X a t):PE X (.BoolOp op [a] pos) t:=fun pins s σ H Q I hw=>BoolOp_one (h pins s σ H Q I hw)
theorem xz (ha:PE X a ta)(hb:PE X (.BoolOp .And (b::rest) pos) tb):PE X (.BoolOp .And (a::b::rest) pos) (tAndV ta tb):=by
 intro pins s σ H Q I h
 refine BoolOp_and (thn (ha pins s σ H _ I h) fun v s1 ⟨x,H1,I1,r1,q1⟩=>?_)
 obtain⟨c,rfl,q1⟩:=q1
 cases r1
 wp_walk
 cases c with
 | true=>exact hb pins s1 σ H1 Q I1 q1
 | false=>exact⟨.bl false,H1,I1,rfl,q1⟩
theorem xA (ha:PE X a ta):PE X (.UnaryOp .Not a pos) (tNotV ta):=by
 intro pins s σ H Q I h
 refine UnaryOp_ (thn (ha pins s σ H _ I h) fun v s1 ⟨x,H1,I1,r1,q1⟩=>?_)
 obtain⟨c,rfl,q1⟩:=q1
 cases r1
 exact not_of (wpAny_truthy_bool ⟨.bl (!c),H1,I1,rfl,q1⟩)
def tIf (t:TT)(ta tb:TE):TE:=fun σ H Q=>t σ H fun c H1=>if c=true then ta σ H1 Q else tb σ H1 Q
theorem sF {c:Expr}(hc:PT X c tA)(ha:PE X a ta)(hb:PE X b tb):PE X (.IfExp c a b pos) (tIf tA ta tb):=by
 intro pins s σ H Q I h
 refine wpAny_IfExp (thn (hc pins s σ H _ I h) fun d s1 ⟨H1,I1,q1⟩=>?_)
 cases d with
 | true=>exact ha pins s1 σ H1 Q I1 q1
 | false=>exact hb pins s1 σ H1 Q I1 q1
end
end L2
namespace L2
open PySem PySem.Spec PyProof.Rows
def SqL (K:PySem.W.Frag)(H:Hp)(a:Addr)(xs:List V):Prop :=
 Rd H a (.lst xs) ∨
  ∃ (o:Obj) (its:Array Value) (n:Nat),K.lookup a=some o∧o.cls=.type "list" ∧ o.dict=none∧o.data=.seq its n∧its.size≤sizeLine∧Vals xs its.toList
def SqT (K:PySem.W.Frag)(H:Hp)(a:Addr)(xs:List V):Prop :=
 Rd H a (.tup xs) ∨
  ∃ (o:Obj) (its:Array Value) (n:Nat),K.lookup a=some o∧o.cls=.type "tuple" ∧ o.dict=none∧o.data=.seq its n∧its.size≤sizeLine∧Vals xs its.toList
def absV:Value→Option V
 | .none=>some .non
 | .bool b=>some (.bl b)
 | .int i _=>some (.int i)
 | .str x _=>some (.str x)
 | .bytes b _=>some (.byt b)
 | .float b _=>some (.flt b)
 | .ref a=>some (.ref a)
 | .type n=>some (.ty n)
 | _=>none
theorem RelV.abs {x:V}{u:Value}(r:RelV x u):absV u=some x:=by
 cases x with
 | non=>cases r;rfl
 | bl _=>cases r;rfl
 | int _=>obtain⟨t,rfl⟩:=r;rfl
 | str _=>obtain⟨t,rfl⟩:=r;rfl
 | byt _=>obtain⟨t,rfl⟩:=r;rfl
 | flt _=>obtain⟨t,rfl⟩:=r;rfl
 | ref _=>cases r;rfl
 | ty _=>cases r;rfl
theorem RelV.inj {x y:V}{u:Value}(r:RelV x u)(q:RelV y u):x=y:=Option.some.inj (r.abs.symm.trans q.abs)
theorem Vals.inj:∀ {xs ys:List V} {us:List Value},Vals xs us→Vals ys us→xs=ys
 | _,_,_,.nil,.nil=>rfl
 | _,_,_,.cons r t,.cons r' t'=>by rw[r.inj r',Vals.inj t t']
section
variable {X:Cx}{pins:List (Addr×Obj)}{σ:St}{H:Hp}{s:Shared}{a:Addr}{xs ys:List V}
theorem SqL.of {K:PySem.W.Frag}(h:H a=some (.lst xs)):SqL K H a xs:=.inl (.inl h)
theorem SqT.of {K:PySem.W.Frag}(h:H a=some (.tup xs)):SqT K H a xs:=.inl (.inl h)
theorem Inv.list (I:Inv X pins σ H s)(h:SqL X.K H a xs):∃ its:List Value,Vals xs its∧PlainL s.heap a its.toArray∧xs.length≤sizeLine:=by
 rcases h with h | ⟨o,its,n,hk,hc,hd,hs,hz,r⟩
 ·obtain⟨z,its,n,r,e⟩:=h.ok I.hok
  exact⟨its,r,⟨_,n,e,rfl,rfl,rfl⟩,z⟩
 ·refine⟨its.toList,r,⟨o,n,I.kIn a o hk,hc,hd,by simpa using hs⟩,?_⟩
  have e:=r.length
  simp only[Array.length_toList]at e
  omega
theorem Inv.tuple (I:Inv X pins σ H s)(h:SqT X.K H a xs):∃ its:List Value,Vals xs its∧IsTup s.heap a its.toArray∧xs.length≤sizeLine:=by
 rcases h with h | ⟨o,its,n,hk,hc,_,hs,hz,r⟩
 ·obtain⟨z,its,r,p⟩:=h.ok I.hok
  exact⟨its,r,p.is,z⟩
 ·refine⟨its.toList,r,⟨o,I.kIn a o hk,hc,n,by simpa using hs⟩,?_⟩
  have e:=r.length
  simp only[Array.length_toList]at e
  omega
theorem Inv.list_inj (I:Inv X pins σ H s)(h:SqL X.K H a xs)(h':SqL X.K H a ys):xs=ys:=by
 obtain⟨its,r,⟨o,n,e,_,_,d⟩,_⟩:=I.list h
 obtain⟨its',r',⟨o',n',e',_,_,d'⟩,_⟩:=I.list h'
 rw[e]at e';cases e'
 rw[d]at d'
 injection d' with d1 _
 have:its=its':=by simpa using congrArg Array.toList d1
 subst this
 exact r.inj r'
theorem Inv.tuple_inj (I:Inv X pins σ H s)(h:SqT X.K H a xs)(h':SqT X.K H a ys):xs=ys:=by
 obtain⟨its,r,⟨o,e,_,n,d⟩,_⟩:=I.tuple h
 obtain⟨its',r',⟨o',e',_,n',d'⟩,_⟩:=I.tuple h'
 rw[e]at e';cases e'
 rw[d]at d'
 injection d' with d1 _
 have:its=its':=by simpa using congrArg Array.toList d1
 subst this
 exact r.inj r'
end
abbrev Cx.wish (X:Cx)(E:Value→Shared→Prop):Cx:={ X with xe:=E }
abbrev Cx.nox (X:Cx):Cx:=X.wish fun _ _=>False
theorem Cx.Ok.wish {X:Cx}(ok:X.Ok)(E:Value→Shared→Prop):(X.wish E).Ok :=
 ⟨ok.mod,ok.kind,ok.glob,ok.blt,ok.above,ok.inj,ok.has,ok.cab,ok.hd,ok.frames,ok.stk,ok.exf,ok.bs,ok.bsz,ok.noex,ok.exfs,ok.funs,ok.frf⟩
theorem Cx.Ok.unwish {X:Cx}{E:Value→Shared→Prop}(ok:(X.wish E).Ok):X.Ok :=
 ⟨ok.mod,ok.kind,ok.glob,ok.blt,ok.above,ok.inj,ok.has,ok.cab,ok.hd,ok.frames,ok.stk,ok.exf,ok.bs,ok.bsz,ok.noex,ok.exfs,ok.funs,ok.frf⟩
section
variable {X:Cx}{pins:List (Addr×Obj)}{σ:St}{H:Hp}{s:Shared}{E:Value→Shared→Prop}
theorem Inv.wish (I:Inv X pins σ H s)(E:Value→Shared→Prop):Inv (X.wish E) pins σ H s:=⟨I.ok.wish E,I.os,I.bare,I.base,I.loc,I.cell,I.free,I.freeC,I.pin,I.hok,I.len⟩
theorem Inv.unwish (I:Inv (X.wish E) pins σ H s):Inv X pins σ H s:=⟨I.ok.unwish,I.os,I.bare,I.base,I.loc,I.cell,I.free,I.freeC,I.pin,I.hok,I.len⟩
theorem SP.unwish {D:Ends}{f:Flow}{s':Shared}(h:SP (X.wish E) pins D f s'):SP X pins D f s':=by
 cases f with
 | next=>obtain⟨σ',H',I,q⟩:=h;exact⟨σ',H',I.unwish,q⟩
 | brk=>obtain⟨σ',H',I,q⟩:=h;exact⟨σ',H',I.unwish,q⟩
 | cont=>obtain⟨σ',H',I,q⟩:=h;exact⟨σ',H',I.unwish,q⟩
 | ret u=>obtain⟨v,σ',H',I,r,q⟩:=h;exact⟨v,σ',H',I.unwish,r,q⟩
theorem PE.nox {e:Expr}{t:TE}(h:PE X.nox e t):PE X e t:=fun pins s σ H Q I hw =>
 wpAny_mono (h pins s σ H Q (I.wish _) hw) (fun _ _ ⟨v,H',I',r,q⟩=>⟨v,H',I'.unwish,r,q⟩) fun _ _ z=>False.elim z
theorem PT.nox {e:Expr}{t:TT}(h:PT X.nox e t):PT X e t:=fun pins s σ H Q I hw =>
 wpAny_mono (h pins s σ H Q (I.wish _) hw) (fun _ _ ⟨H',I',q⟩=>⟨H',I'.unwish,q⟩) fun _ _ z=>False.elim z
theorem PSs.nox {st:List Stmt}{t:TS}(h:PSs X.nox st t):PSs X st t:=fun pins s σ H D I hw =>
 wpAny_mono (h pins s σ H D (I.wish _) hw) (fun _ _ q=>q.unwish) fun _ _ z=>False.elim z
end
section
variable {X:Cx}{st:Stmt}{rest:List Stmt}{t u:TS}{e:Expr}{te:TE}{pos:Pos}
def tNext:TS:=fun D σ H=>D.nx σ H
def tSeq (t u:TS):TS:=fun D σ H=>t { D with nx:=u D } σ H
theorem vn:PSs X [] tNext:=fun _ _ σ H _ I h=>wpAny_execs_nil ⟨σ,H,I,h⟩
theorem dF (h1:PS X st t)(h2:PSs X rest u):PSs X (st::rest) (tSeq t u):=by
 intro pins s σ H D I h
 refine wpAny_execs_cons (thn (h1 pins s σ H { D with nx:=u D } I h) fun f s1 q=>?_)
 cases f with
 | next =>
  obtain⟨σ',H',I',q⟩:=q
  exact h2 pins s1 σ' H' D I' q
 | ret v=>exact q
 | brk=>exact q
 | cont=>exact q
theorem vo (h1:PS X st t):PSs X [st] t:=by
 intro pins s σ H D I h
 refine wpAny_execs_cons (thn (h1 pins s σ H D I h) fun f s1 q=>?_)
 cases f with
 | next=>exact wpAny_execs_nil q
 | ret v=>exact q
 | brk=>exact q
 | cont=>exact q
theorem Inv.quiet {pins:List (Addr×Obj)}{σ:St}{H:Hp}{s:Shared}(I:Inv X pins σ H s):interactive X.env=false:=by simp[interactive,I.ok.kind]
def tDrop (te:TE):TS:=fun D σ H=>te σ H fun _ H1=>D.nx σ H1
theorem iA (he:PE X e te)(hs:swapsWith e none pos.line X.env=pure false:=by rfl):PS X (.Expr e pos) (tDrop te):=by
 intro pins s σ H D I h
 exact wpAny_Expr_any (thn (he pins s σ H _ I h) fun v s1 ⟨x,H1,I1,r1,q1⟩=>⟨σ,H1,I1,q1⟩) I.quiet hs
def tRet (te:TE):TS:=fun D σ H=>te σ H D.rt
theorem xB (he:PE X e te):PS X (.Return (some e) pos) (tRet te):=by
 intro pins s σ H D I h
 exact wpAny_Return_some (thn (he pins s σ H _ I h) fun v s1 ⟨x,H1,I1,r1,q1⟩=>⟨x,σ,H1,I1,r1,q1⟩)
def tIfS (c:TT)(t u:TS):TS:=fun D σ H=>c σ H fun b H1=>if b=true then t D σ H1 else u D σ H1
theorem yJ {c:Expr}{a b:List Stmt}{tc:TT}(hc:PT X c tc)(ha:PSs X a t)(hb:PSs X b u):PS X (.If c a b pos) (tIfS tc t u):=by
 intro pins s σ H D I h
 refine wpAny_If (thn (hc pins s σ H _ I h) fun d s1 ⟨H1,I1,q1⟩=>?_)
 cases d with
 | true=>exact ha pins s1 σ H1 D I1 q1
 | false=>exact hb pins s1 σ H1 D I1 q1
def tNever:TS:=fun _ _ _=>False
theorem j0 {sts:List Stmt}:PSs X sts tNever:=fun _ _ _ _ _ _ h=>h.elim
end
abbrev TG:=V→St→Hp→(St→Hp→Prop)→Prop
def PG (X:Cx)(target:Expr)(t:TG):Prop :=
 ∀ (pins:List (Addr×Obj)) (s:Shared) (σ:St) (H:Hp) (v:V) (u:Value) (Q:St→Hp→Prop),Inv X pins σ H s→RelV v u→t v σ H Q →
  wpAny (model X.prog X.w) X.A (assign target X.env u) (fun _ s'=>∃ σ' H',Inv X pins σ' H' s'∧Q σ' H') X.xe s
abbrev TSet:=V→V→V→Hp→(Hp→Prop)→Prop
def PSet (X:Cx)(t:TSet):Prop :=
 ∀ (pins:List (Addr×Obj)) (s:Shared) (σ:St) (H:Hp) (o i v:V) (ov iv u:Value) (Q:Hp→Prop),Inv X pins σ H s→RelV o ov→RelV i iv→RelV v u→t o i v H Q →
  wpAny (model X.prog X.w) X.A (setItem ov iv u) (fun _ s'=>∃ H',Inv X pins σ H' s'∧Q H') X.xe s
section
variable {X:Cx}{pos:Pos}
def gName (i:Nat):TG:=fun v σ H Q=>Q (σ.set i (some v)) H
theorem o4 {i:Nat}{x:Str}(hN:X.N.Nodup)(hi:X.N[i]?=some x)(hx:Loc X.env.scope x)(hf:X.fn x=true∨X.env.scope.names.lookup x=some .local:=by first | exact .inl rfl | exact .inr rfl | assumption):PG X (.Name x pos) (gName i):=by
 intro pins s σ H v u Q I r h
 exact wpAny_assign_Name (lL I hN hi hx r (fun s' I'=>⟨_,H,I',h⟩) hf)
def gSub (to ti:TE)(t:TSet):TG:=fun v σ H Q=>to σ H fun o H1=>ti σ H1 fun i H2=>t o i v H2 fun H3=>Q σ H3
theorem xC {o i:Expr}{to ti:TE}{t:TSet}(ho:PE X o to)(hi:PE X i ti)(hs:PSet X t)
  (ha:∀ v,assign (.Subscript o i pos) X.env v=(do
   let ov ← holding [v] (eval o X.env)
   let iv ← holding [v,ov] (eval i X.env)
   standAt pos
   holding [v,ov,iv] (setItem ov iv v)
   release [v,ov,iv] []):=by intro _;rfl):PG X (.Subscript o i pos) (gSub to ti t):=by
 intro pins s σ H v u Q I r h
 rw[ha]
 refine wpAny_bind (wpAny_holding (thn (ho pins s σ H _ I h) fun ov s1 ⟨x,H1,I1,r1,q1⟩=>?_))
 refine wpAny_bind (wpAny_holding (thn (hi pins s1 σ H1 _ I1 q1) fun iv s2 ⟨y,H2,I2,r2,q2⟩=>?_))
 refine wpAny_bind (wpAny_standAt (wpAny_bind (wpAny_holding (thn (hs pins s2 σ H2 x y v ov iv u _ I2 r1 r2 r q2) fun _ s3 ⟨H3,I3,q3⟩=>?_))))
 exact wpAny_release ⟨σ,H3,I3,q3⟩
def tAsg (te:TE)(g:TG):TS:=fun D σ H=>te σ H fun x H1=>g x σ H1 D.nx
theorem xD {tg e:Expr}{te:TE}{g:TG}(he:PE X e te)(hg:PG X tg g)(hs:swapsWithSole [tg] e pos.line X.env=pure false:=by rfl)(hw:swappedStores [tg] e X.env=pure none:=by rfl)
  (h1:(assignEach [tg] X.env).map (·.2)=[assign tg X.env]:=by rfl):PS X (.Assign [tg] e pos) (tAsg te g):=by
 intro pins s σ H D I h
 refine wpAny_Assign_stores (thn (he pins s σ H _ I h) fun v s1 ⟨x,H1,I1,r1,q1⟩=>?_) hs hw
 rw[h1]
 exact thn (hg pins s1 σ H1 x v _ I1 r1 q1) fun _ s2 q=>q
theorem gn {i:Nat}{x:Str}{e:Expr}{te:TE}{pos':Pos}(hN:X.N.Nodup)(hi:X.N[i]?=some x)(hx:Loc X.env.scope x)(he:PE X e te)(hs:swapsWith e (some (.Name x pos')) pos.line X.env=pure false:=by rfl)(hf:X.fn x=true∨X.env.scope.names.lookup x=some .local:=by first | exact .inl rfl | exact .inr rfl | assumption) :
  PS X (.Assign [.Name x pos'] e pos) (tAsg te (gName i)):=by
 intro pins s σ H D I h
 refine wpAny_Assign_Name (thn (he pins s σ H _ I h) fun v s1 ⟨y,H1,I1,r1,q1⟩=>?_) hs
 exact lL I1 hN hi hx r1 (fun s2 I2=>⟨_,H1,I2,q1⟩) hf
end
section
variable {X:Cx}{pos:Pos}
def tWhile (c:TT)(tb:TS):TS:=fun D σ H=>∃ W:Nat→St→Hp→Prop,(∃ m,W m σ H)∧∀ m σ H,W m σ H →
 c σ H fun b H1=>if b=true then ∃ N:St→Hp→Prop,(∀ σ' H',N σ' H'→∃ m',m' < m∧W m' σ' H')∧tb { D with nx:=N,ct:=N,bk:=D.nx } σ H1 else D.nx σ H1
theorem sG {c:Expr}{body:List Stmt}{tc:TT}{tb:TS}(hp:PassesOwn (model X.prog X.w) X.A X.env X.xe)(hc:PT X c tc)(hb:PSs X body tb):PS X (.While c body [] pos) (tWhile tc tb):=by
 intro pins s σ H D I h
 obtain⟨W,⟨m0,w0⟩,turn⟩:=h
 refine wpAny_While (codeAny_whileLoop (fun n s'=>∃ σ' H',Inv X pins σ' H' s'∧W n σ' H') ?_ m0 ⟨σ,H,I,w0⟩)
 rintro n s1 ⟨σ1,H1,I1,w1⟩
 refine wpAny_passesOwn hp (thn (hc pins s1 σ1 H1 _ I1 (turn n σ1 H1 w1)) fun b s2 ⟨H2,I2,q2⟩=>?_)
 cases b with
 | true =>
  obtain⟨N,hN,q2⟩:=q2
  rw[if_pos rfl]
  refine wpAny_passesOwn hp (thn (hb pins s2 σ1 H2 _ I2 q2) fun f s3 q3=>?_)
  cases f with
  | next =>
   obtain⟨σ3,H3,I3,n3⟩:=q3
   obtain⟨m',hm,w3⟩:=hN σ3 H3 n3
   exact⟨m',hm,σ3,H3,I3,w3⟩
  | cont =>
   obtain⟨σ3,H3,I3,n3⟩:=q3
   obtain⟨m',hm,w3⟩:=hN σ3 H3 n3
   exact⟨m',hm,σ3,H3,I3,w3⟩
  | brk=>exact q3
  | ret v=>exact q3
 | false =>
  rw[if_neg Bool.false_ne_true]
  exact wpAny_execs_nil ⟨σ1,H2,I2,q2⟩
end
structure It where
 go:Nat→Hp→Prop
 yld:Nat→Hp→V→Hp→Prop
 stop:Nat→Hp→Prop
def FpOk (X:Cx)(pins:List (Addr×Obj))(H:Hp)(b:Addr):Prop :=
 H b=none∧b≠X.env.locals∧b∉X.fs∧(b∈X.ex∨X.s₀.heap.objs.size≤b)∧(∀ x c,X.env.cells.lookup x=some c→c≠b)∧∀ p∈X.pn++pins,p.1≠b
theorem Inv.fpOk {X:Cx}{pins:List (Addr×Obj)}{σ:St}{H H':Hp}{s:Shared}{b:Addr}(I:Inv X pins σ H s)(hb:s.heap.objs.size≤b)(hn:H' b=none):FpOk X pins H' b:=by
 refine⟨hn,Nat.ne_of_gt (Nat.lt_of_lt_of_le I.lt hb),I.nofs hb,.inr (Nat.le_trans I.sz hb),fun x c e z=>?_,fun p hp z=>?_⟩
 ·obtain⟨v,q⟩:=I.cell x c e
  exact absurd (Nat.lt_of_lt_of_le q.lt (by rw[z];exact hb)) (Nat.lt_irrefl _)
 ·exact absurd (Nat.lt_of_lt_of_le (Heap.lt_size (I.pin p hp).1) (by rw[z];exact hb)) (Nat.lt_irrefl _)
structure Turn (P:Program)(w:World)(K:PySem.W.Frag)(tg:Expr)(J:It)(fp:List Addr)(it:Addr)(tn:Nat→Heap→Prop):Prop where
 mem:it∈fp
 obj:∀ i h,tn i h→∀ b∈fp,∃ o,h.get? b=some o∧∀ v,o.data≠.cell v
 keep:∀ i h h',tn i h→(∀ b∈fp,∀ o,h.get? b=some o→h'.get? b=some o)→tn i h'
 item:∀ (X:Cx),X.prog=P→X.w=w→X.K=K→X.calm=true→∀ (i:Nat) (pins:List (Addr×Obj)) (s:Shared) (σ:St) (H:Hp) (E:Value→Shared→Prop),Inv X pins σ H s→(∀ b∈fp,FpOk X pins H b)→tn i s.heap→J.go i H →
  wpAny (model P w) X.A (pyNext (.ref it)) (fun r s1=>∃ u,r=some u ∧
   wpAny (model P w) X.A (letOwnedTupleGo tg (.ref it) u) (fun _ s2=>∃ x H',Inv X pins σ H' s2∧RelV x u∧J.yld i H x H'∧tn (i+1) s2.heap∧∀ b∈fp,H' b=none) E s1) E s
 done:∀ (X:Cx),X.prog=P→X.w=w→X.K=K→X.calm=true→∀ (i:Nat) (pins:List (Addr×Obj)) (s:Shared) (σ:St) (H:Hp) (E:Value→Shared→Prop),Inv X pins σ H s→(∀ b∈fp,FpOk X pins H b)→tn i s.heap→J.stop i H →
  wpAny (model P w) X.A (pyNext (.ref it)) (fun r s1=>r=none∧Inv X pins σ H s1) E s
 self:∀ (A:Around) (i:Nat) (s:Shared) (Q:Value→Shared→Prop) (E:Value→Shared→Prop),tn i s.heap→Q (.ref it) s→wpAny (model P w) A (pyIter (.ref it)) Q E s
abbrev TI:=St→Hp→(It→Hp→Prop)→Prop
def PIE (X:Cx)(pins:List (Addr×Obj))(σ:St)(tg:Expr)(R:It→Hp→Prop)(itv:Value)(s2:Shared):Prop :=
 ∃ (it:Addr) (fp:List Addr) (tn:Nat→Heap→Prop) (J:It) (H':Hp),itv=.ref it∧Inv X pins σ H' s2∧Turn X.prog X.w X.K tg J fp it tn∧tn 0 s2.heap∧(∀ b∈fp,FpOk X pins H' b)∧R J H'
def PI (X:Cx)(tg iter:Expr)(wi:TI):Prop :=
 ∀ (pins:List (Addr×Obj)) (s:Shared) (σ:St) (H:Hp) (R:It→Hp→Prop),Inv X pins σ H s→wi σ H R →
  wpAny (model X.prog X.w) X.A (eval iter X.env) (fun v s1=>wpAny (model X.prog X.w) X.A (pyIter v) (PIE X pins σ tg R) X.xe s1) X.xe s
theorem sH {M:Model}{A:Around}{E:Value→Shared→Prop}{s:Shared}{tg:Expr}{it:Addr}{u:Value}{o:Obj}{n:String}{vs:Array Value}{Q:Unit→Shared→Prop}(ho:s.heap.get? it=some o)(hc:o.cls=.type n)(hd:o.data=.fields vs)
  (hn:["enumerate","zip","dict_itemiterator","dict_reverseitemiterator","odict_iterator","itertools.zip_longest","itertools.pairwise"].contains n=false) (hQ:Q () s):wpAny M A (letOwnedTupleGo tg (.ref it) u) Q E s:=by
 unfold letOwnedTupleGo
 cases tg<;>first
  | exact wpAny_pure hQ
  | (cases u<;>first
    | exact wpAny_pure hQ
    | (refine wpAny_bind (wpAny_load ho ?_)
       rw[hc,hd]
       show wpAny M A (if (["enumerate","zip","dict_itemiterator","dict_reverseitemiterator","odict_iterator","itertools.zip_longest","itertools.pairwise"].contains n&&vs[0]?==some (rawInt _))=true then _ else _) Q E s
       rw[if_neg (by intro h;rw[hn,Bool.false_and]at h;cases h)]
       exact wpAny_pure hQ))
def Itl (K:PySem.W.Frag)(a:Addr):It :=
 ⟨fun i H=>∃ xs x,SqL K H a xs∧xs[i]?=some x,fun i H x H'=>H'=H∧∀ xs,SqL K H a xs→xs[i]?=some x,fun i H=>∃ xs,SqL K H a xs∧xs.length≤i⟩
def Itt (K:PySem.W.Frag)(a:Addr):It :=
 ⟨fun i H=>∃ xs x,SqT K H a xs∧xs[i]?=some x,fun i H x H'=>H'=H∧∀ xs,SqT K H a xs→xs[i]?=some x,fun i H=>∃ xs,SqT K H a xs∧xs.length≤i⟩
def Itr (lo:Int)(n:Nat):It:=⟨fun i _=>i < n,fun i H x H'=>H'=H∧x=.int (lo+i),fun i _=>n≤i⟩
theorem ql {P:Program}{w:World}{K:PySem.W.Frag}{tg:Expr}(a it:Addr):Turn P w K tg (Itl K a) [it] it (fun i h=>h.IsListIter it a i) where
 mem:=by simp
 obj:=fun i h st b hb=>by
  have e:b=it:=by simpa using hb
  subst e
  obtain⟨o,e,c,d⟩:=st
  exact⟨o,e,fun v z=>by rw[d]at z;cases z⟩
 keep:=fun i h h' st k=>st.at fun o e=>k it (by simp) o e
 item:=by
  intro X hP hw hK hc i pins s σ H E I hf st hg
  subst hP hw hK
  obtain⟨xs,x,hq,hx⟩:=hg
  obtain⟨its,rv,p,hz⟩:=I.list hq
  obtain⟨u,hu,ru⟩:=rv.get hx
  obtain⟨f0,f1,f2,f3,f4,f5⟩:=hf it (by simp)
  refine wpAny_pyNext_list_item st p.isList (x:=u) (by simpa using hu) fun h' st' sb=>?_
  have I1:=I.turned (t':=s.toks) (fun b o hb e=>(sb.2 b hb).trans e) f0 f1 f3 f4 f5
  obtain⟨o,e,c,d⟩:=id st'
  exact⟨u,rfl,sH e c d (by decide) ⟨x,H,I1,ru,⟨rfl,fun ys hy=>by rw[I.list_inj hy hq];exact hx⟩,st',fun b hb=>(hf b hb).1⟩⟩
 done:=by
  intro X hP hw hK hc i pins s σ H E I hf st hg
  subst hP hw hK
  obtain⟨xs,hq,hx⟩:=hg
  obtain⟨its,rv,p,hz⟩:=I.list hq
  obtain⟨f0,f1,f2,f3,f4,f5⟩:=hf it (by simp)
  have hl:=rv.length
  exact wpAny_pyNext_list_end (I.ok.hd hc) st p.isList (by simp;omega) fun h' eb=>⟨rfl,I.turned (t':=s.toks) (fun b o hb e=>eb b o hb e) f0 f1 f3 f4 f5⟩
 self:=fun _ _ _ _ _ st h=>wpAny_pyIter_listiter st h
theorem nu {P:Program}{w:World}{K:PySem.W.Frag}{tg:Expr}(a it:Addr):Turn P w K tg (Itt K a) [it] it (fun i h=>h.IsTupleIter it a i) where
 mem:=by simp
 obj:=fun i h st b hb=>by
  have e:b=it:=by simpa using hb
  subst e
  obtain⟨o,e,c,d⟩:=st
  exact⟨o,e,fun v z=>by rw[d]at z;cases z⟩
 keep:=fun i h h' st k=>st.at fun o e=>k it (by simp) o e
 item:=by
  intro X hP hw hK hc i pins s σ H E I hf st hg
  subst hP hw hK
  obtain⟨xs,x,hq,hx⟩:=hg
  obtain⟨its,rv,p,hz⟩:=I.tuple hq
  obtain⟨u,hu,ru⟩:=rv.get hx
  obtain⟨f0,f1,f2,f3,f4,f5⟩:=hf it (by simp)
  refine wpAny_pyNext_tuple_item st (show s.heap.IsTuple a its.toArray from p) (x:=u) (by simpa using hu) fun h' st' sb=>?_
  have I1:=I.turned (t':=s.toks) (fun b o hb e=>(sb.2 b hb).trans e) f0 f1 f3 f4 f5
  obtain⟨o,e,c,d⟩:=id st'
  exact⟨u,rfl,sH e c d (by decide) ⟨x,H,I1,ru,⟨rfl,fun ys hy=>by rw[I.tuple_inj hy hq];exact hx⟩,st',fun b hb=>(hf b hb).1⟩⟩
 done:=by
  intro X hP hw hK hc i pins s σ H E I hf st hg
  subst hP hw hK
  obtain⟨xs,hq,hx⟩:=hg
  obtain⟨its,rv,p,hz⟩:=I.tuple hq
  obtain⟨f0,f1,f2,f3,f4,f5⟩:=hf it (by simp)
  have hl:=rv.length
  exact wpAny_pyNext_tuple_end (I.ok.hd hc) st (show s.heap.IsTuple a its.toArray from p) (by simp;omega) fun h' eb=>⟨rfl,I.turned (t':=s.toks) (fun b o hb e=>eb b o hb e) f0 f1 f3 f4 f5⟩
 self:=fun _ _ _ _ _ st h=>wpAny_pyIter_tupleiter st h
theorem nv {P:Program}{w:World}{K:PySem.W.Frag}{tg:Expr}(it:Addr)(lo:Int)(n:Nat):Turn P w K tg (Itr lo n) [it] it (fun i h=>IsRangeIter h it (lo+(i:Nat)*1) ((n:Int) - (i:Nat)) 1) where
 mem:=by simp
 obj:=fun i h st b hb=>by
  have e:b=it:=by simpa using hb
  subst e
  exact⟨_,st,fun v z=>by
   have z':Data.fields _=Data.cell v:=z
   cases z'⟩
 keep:=fun i h h' st k=>k it (by simp) _ st
 item:=by
  intro X hP hw hK hc i pins s σ H E I hf st hg
  subst hP hw hK
  obtain⟨f0,f1,f2,f3,f4,f5⟩:=hf it (by simp)
  have W:=Walks.range (prog:=X.prog) (w:=X.w) (I.ok.hd hc) it lo 1 n
  refine W.item i s _ _ hg st fun v h' tk hv st' kk=>?_
  obtain⟨t,rfl⟩:=hv
  have I1:Inv X pins σ H { s with heap:=h',toks:=tk }:=I.turned (fun b o hb e=>kk b o (by simpa using hb) e) f0 f1 f3 f4 f5
  refine⟨_,rfl,sH (s:={ s with heap:=h',toks:=tk }) (n := "range_iterator") st' rfl rfl (by decide) ⟨.int (lo+i),H,I1,⟨t,?_⟩,⟨rfl,rfl⟩,st',fun b hb=>(hf b hb).1⟩⟩
  rw[Int.mul_one]
 done:=by
  intro X hP hw hK hc i pins s σ H E I hf st hg
  subst hP hw hK
  obtain⟨f0,f1,f2,f3,f4,f5⟩:=hf it (by simp)
  exact wpAny_pyNext_range_end (I.ok.hd hc) st (by have:n≤i:=hg;omega) fun h' eb=>⟨rfl,I.turned (t':=s.toks) (fun b o hb e=>eb b o hb e) f0 f1 f3 f4 f5⟩
 self:=fun _ _ _ _ _ st h=>wpAny_pyIter_rangeiter st h
end L2
namespace L2
open PySem PySem.Spec PyProof.Rows
section
variable {X:Cx}{tg:Expr}
theorem sI {pins:List (Addr×Obj)}{σ:St}{H:Hp}{s:Shared}{R:It→Hp→Prop}{E:Value→Shared→Prop}{lo hi:Int}{t u v:Tok}{tk:Nat}(I:Inv X pins σ H s)(h1 : -(2^62)≤lo)(h2:lo < 2^62)(h3 : -(2^62)≤hi)(h4:hi < 2^62)
  (q:R (Itr lo (hi - lo).toNat) H):wpAny (model X.prog X.w) X.A (pyIter (.ref s.heap.objs.size)) (PIE X pins σ tg R) E { s with heap:=s.heap.push { cls:=.type "range",data:=.fields #[.int lo t,.int hi u,.int 1 v] },toks:=tk }:=by
 refine wpAny_pyIter_range (IsRange.new ..) (small_one h1 h2 h3 h4) ?_
 have I1:Inv X pins σ H { s with heap:=s.heap.push { cls:=.type "range",data:=.fields #[.int lo t,.int hi u,.int 1 v] },toks:=tk }:=I.kept fun b o e=>Heap.get?_push_of_some _ e
 refine⟨(s.heap.push { cls:=.type "range",data:=.fields #[.int lo t,.int hi u,.int 1 v] }).objs.size,[(s.heap.push { cls:=.type "range",data:=.fields #[.int lo t,.int hi u,.int 1 v] }).objs.size],_,_,H,rfl,
  I1.kept (t':=tk) fun b o e=>Heap.get?_push_of_some _ e,nv _ lo (hi - lo).toNat,?_,fun b hb=>?_,q⟩
 ·have e1:lo+((0:Nat):Int)*1=lo:=by simp
  have e2:(((hi - lo).toNat:Nat):Int) - ((0:Nat):Int)=Builtin.Range.rangeSize lo hi 1:=by rw[rangeSize_one];split<;>omega
  show IsRangeIter _ _ (lo+((0:Nat):Int)*1) ((((hi - lo).toNat:Nat):Int) - ((0:Nat):Int)) 1
  rw[e1,e2]
  exact Heap.get?_push_size _ rfl
 ·have e:b=(s.heap.push { cls:=.type "range",data:=.fields #[.int lo t,.int hi u,.int 1 v] }).objs.size:=by simpa using hb
  subst e
  exact I1.fpOk (Nat.le_refl _) (I1.hok.fresh (Nat.le_refl _))
def iRng1 (ta:TA):TI:=fun σ H R=>ta σ H fun vs H1=>∃ j:Int,vs=[.int j]∧-(2^62)≤j∧j < 2^62∧R (Itr 0 j.toNat) H1
theorem qm {a:Expr}{ta:TA}{p pos:Pos}(hg:Gl X "range")(hm:X.mg "range"=none)(ha:PA X [a] ta)(hs:starEach [a] X.env=[(false,eval a X.env)]:=by rfl):PI X tg (.Call (.Name "range" p) [a] [] pos) (iRng1 ta):=by
 intro pins s σ H R I h
 refine Call_ (iE I hg hm boot_range (PyProof.Rows.callWith_type1 (thn (ha pos pins s σ H _ I h) fun us s1 ⟨vs,H1,I1,r1,q1⟩=>?_) hs rfl))
 obtain⟨j,e,q1,q2,q⟩:=q1
 subst e
 cases r1 with
 | cons r rr =>
  cases rr
  obtain⟨t,rfl⟩:=r
  exact call_range_1 (sI I1 (by omega) (by omega) q1 q2 (by grind))
def tFor (wi:TI)(g:TG)(tb:TS):TS:=fun D σ H=>wi σ H fun J H1=>∃ W:Nat→Nat→St→Hp→Prop,(∃ m,W 0 m σ H1)∧∀ i m σ H,W i m σ H →
 (J.stop i H∧D.nx σ H)∨(J.go i H∧∃ N:St→Hp→Prop,(∀ σ' H',N σ' H'→∃ m',m' < m∧W (i+1) m' σ' H')∧∀ x H',J.yld i H x H'→g x σ H' fun σ2 H2=>tb { D with nx:=N,ct:=N,bk:=D.nx } σ2 H2)
def pinsAt (fp:List Addr)(h:Heap):List (Addr×Obj):=fp.filterMap fun b=>(h.get? b).map fun o=>(b,o)
theorem bD {fp:List Addr}{h:Heap}{b:Addr}{o:Obj}(hb:b∈fp)(e:h.get? b=some o):(b,o)∈pinsAt fp h:=List.mem_filterMap.mpr ⟨b,hb,by rw[e];rfl⟩
theorem qo {fp:List Addr}{h:Heap}{p:Addr×Obj}(hp:p∈pinsAt fp h):p.1∈fp∧h.get? p.1=some p.2:=by
 obtain⟨b,hb,e⟩:=List.mem_filterMap.mp hp
 cases q:h.get? b with
 | none=>rw[q]at e;cases e
 | some o =>
  grind
theorem Inv.pinned {pins:List (Addr×Obj)}{σ:St}{H:Hp}{s:Shared}{fp:List Addr}(I:Inv X pins σ H s)(hf:∀ b∈fp,FpOk X pins H b)(ho:∀ b∈fp,∃ o,s.heap.get? b=some o∧∀ v,o.data≠.cell v):Inv X (pins++pinsAt fp s.heap) σ H s :=
 I.pins_of fun p hp=>(List.mem_append.mp hp).elim (fun z=>I.pin p (List.mem_append_right _ z)) fun z=>by
  obtain⟨hb,e⟩:=qo z
  obtain⟨f0,f1,f2,_⟩:=hf p.1 hb
  grind
theorem Inv.unpinned {pins pl:List (Addr×Obj)}{σ:St}{H:Hp}{s:Shared}(I:Inv X (pins++pl) σ H s):Inv X pins σ H s:=I.pins_of fun p hp=>I.pin p (List.mem_append_right _ (List.mem_append_left _ hp))
theorem xE {iter:Expr}{body:List Stmt}{wi:TI}{g:TG}{tb:TS}{pos:Pos}(hp:PassesOwn (model X.prog X.w) X.A X.env X.xe)(hc:X.calm=true)(hi:PI X tg iter wi)(hg:PG X tg g)(hb:PSs X body tb)
  (hs:∀ x,foldedSetIterable iter X.env x=pure x:=by intro _;rfl):PS X (.For tg iter body [] pos) (tFor wi g tb):=by
 intro pins s σ H D I h
 refine wpAny_For (thn (hi pins s σ H _ I h) fun v s1 h1=>thn h1 fun itv s2 h2=>?_) hs
 obtain⟨it,fp,tn,J,H2,e,I2,T,st2,f2,W,⟨m0,w0⟩,turn⟩:=h2
 subst e
 have stat:∀ {H':Hp},(∀ b∈fp,H' b=none)→∀ b∈fp,FpOk X pins H' b:=fun hn b hb=>⟨hn b hb,(f2 b hb).2⟩
 refine codeAny_forLoop_any (fun n s'=>∃ i σ' H',Inv X pins σ' H' s'∧tn i s'.heap∧(∀ b∈fp,H' b=none)∧W i n σ' H') ?_ m0 ⟨0,σ,H2,I2,st2,fun b hb=>(f2 b hb).1,w0⟩
 rintro n s3 ⟨i,σ3,H3,I3,st3,fr3,w3⟩
 rcases turn i n σ3 H3 w3 with ⟨stop,qn⟩ | ⟨go,N,hN,step⟩
 ·refine wpAny_passesOwn hp (thn (T.done X rfl rfl rfl hc i pins s3 σ3 H3 X.xe I3 (stat fr3) st3 stop) fun r s4 ⟨hr,I4⟩=>?_)
  subst hr
  exact wpAny_execs_nil ⟨σ3,H3,I4,qn⟩
 ·refine wpAny_passesOwn hp (thn (T.item X rfl rfl rfl hc i pins s3 σ3 H3 X.xe I3 (stat fr3) st3 go) fun r s4 ⟨u,hr,h4⟩=>?_)
  subst hr
  refine wpAny_passesOwn hp (thn h4 fun _ s5 ⟨x,H5,I5,r5,y5,st5,fr5⟩=>?_)
  have I5':=I5.pinned (stat fr5) (T.obj _ _ st5)
  refine wpAny_passesOwn hp (thn (hg _ s5 σ3 H5 x u _ I5' r5 (step x H5 y5)) fun _ s6 ⟨σ6,H6,I6,q6⟩=>?_)
  refine wpAny_passesOwn hp (thn (hb _ s6 σ6 H6 _ I6 q6) fun f s7 q7=>?_)
  have again:∀ {σ7:St} {H7:Hp},Inv X (pins++pinsAt fp s5.heap) σ7 H7 s7→N σ7 H7→∃ m,m < n∧∃ i σ' H',Inv X pins σ' H' s7∧tn i s7.heap∧(∀ b∈fp,H' b=none)∧W i m σ' H':=fun {σ7 H7} I7 n7=>by
   obtain⟨m',hm,w7⟩:=hN σ7 H7 n7
   refine⟨m',hm,i+1,σ7,H7,I7.unpinned,T.keep _ _ _ st5 fun b hb o e=>(I7.pin (b,o) (List.mem_append_right _ (List.mem_append_right _ (bD hb e)))).1,fun b hb=>?_,w7⟩
   obtain⟨o,e,d⟩:=T.obj _ _ st5 b hb
   exact(I7.pin (b,o) (List.mem_append_right _ (List.mem_append_right _ (bD hb e)))).2.1
  cases f with
  | next=>obtain⟨σ7,H7,I7,n7⟩:=q7;exact again I7 n7
  | cont=>obtain⟨σ7,H7,I7,n7⟩:=q7;exact again I7 n7
  | brk=>obtain⟨σ7,H7,I7,q7⟩:=q7;exact⟨σ7,H7,I7.unpinned,q7⟩
  | ret v=>obtain⟨x7,σ7,H7,I7,r7,q7⟩:=q7;exact⟨x7,σ7,H7,I7.unpinned,r7,q7⟩
end
end L2
namespace L2
open PySem PySem.Spec PyProof.Rows
abbrev R2:=V→V→Hp→VK→Prop
def OpR (X:Cx)(f:Value→Value→Sem Value)(r:R2):Prop :=
 ∀ (pins:List (Addr×Obj)) (s:Shared) (σ:St) (H:Hp) (x y:V) (v u:Value) (Q:VK),Inv X pins σ H s→RelV x v→RelV y u→r x y H Q →
  wpAny (model X.prog X.w) X.A (f v u) (EP X pins σ Q) X.xe s
def UnR (X:Cx)(f:Value→Sem Value)(r:V→Hp→VK→Prop):Prop :=
 ∀ (pins:List (Addr×Obj)) (s:Shared) (σ:St) (H:Hp) (x:V) (v:Value) (Q:VK),Inv X pins σ H s→RelV x v→r x H Q →
  wpAny (model X.prog X.w) X.A (f v) (EP X pins σ Q) X.xe s
def CallR (X:Cx)(f:Value)(r:List V→Hp→VK→Prop):Prop :=
 ∀ (pins:List (Addr×Obj)) (s:Shared) (σ:St) (H:Hp) (xs:List V) (us:List Value) (Q:VK),Inv X pins σ H s→Vals xs us→r xs H Q →
  wpAny (model X.prog X.w) X.A (call f us) (EP X pins σ Q) X.xe s
def tOp (r:R2)(ta tb:TE):TE:=fun σ H Q=>ta σ H fun x H1=>tb σ H1 fun y H2=>r x y H2 Q
def tUn (r:V→Hp→VK→Prop)(ta:TE):TE:=fun σ H Q=>ta σ H fun x H1=>r x H1 Q
def rI (C:Int→Int→Prop)(g:Int→Int→V):R2:=fun x y H Q=>∃ i j,x=.int i∧y=.int j∧C i j∧Q (g i j) H
def rI0 (g:Int→Int→V):R2:=fun x y H Q=>∃ i j,x=.int i∧y=.int j∧Q (g i j) H
def rU (g:Int→V):V→Hp→VK→Prop:=fun x H Q=>∃ i,x=.int i∧Q (g i) H
section
variable {X:Cx}{a b c:Expr}{ta tb tc:TE}{pos:Pos}
theorem binT (ha:PE X a ta)(hb:PE X b tb){pins:List (Addr×Obj)}{s:Shared}{σ:St}{H:Hp}{R:V→V→Hp→Prop}(I:Inv X pins σ H s)
  (h:ta σ H fun x H1=>tb σ H1 fun y H2=>R x y H2) {Q:Value→Shared→Prop} {f:Value→Value→Sem Value}
  (hf:∀ v u s2 x y H2,Inv X pins σ H2 s2→RelV x v→RelV y u→R x y H2→wpAny (model X.prog X.w) X.A (f v u) Q X.xe s2) :
  wpAny (model X.prog X.w) X.A (eval a X.env) (fun v s₁=>wpAny (model X.prog X.w) X.A (eval b X.env) (fun u s₂=>wpAny (model X.prog X.w) X.A (f v u) Q X.xe s₂) X.xe s₁) X.xe s:=by
 refine thn (ha pins s σ H _ I h) fun v s1 ⟨x,H1,I1,r1,q1⟩=>?_
 refine thn (hb pins s1 σ H1 _ I1 q1) fun u s2 ⟨y,H2,I2,r2,q2⟩=>?_
 exact hf v u s2 x y H2 I2 r1 r2 q2
theorem yK {op:Operator}{r:R2}(ho:OpR X (binaryOp op) r)(ha:PE X a ta)(hb:PE X b tb):PE X (.BinOp a op b pos) (tOp r ta tb):=by
 intro pins s σ H Q I h
 exact wpAny_BinOp (binT ha hb I h fun v u s2 x y H2 I2 rx ry q=>ho pins s2 σ H2 x y v u Q I2 rx ry q)
theorem xb {op:UnaryOp}{r:V→Hp→VK→Prop}(ho:UnR X (unaryOp op) r)(ha:PE X a ta):PE X (.UnaryOp op a pos) (tUn r ta):=by
 intro pins s σ H Q I h
 exact UnaryOp_ (thn (ha pins s σ H _ I h) fun v s1 ⟨x,H1,I1,r1,q1⟩=>ho pins s1 σ H1 x v Q I1 r1 q1)
theorem opI {f:Value→Value→Sem Value}{C:Int→Int→Prop}{g:Int→Int→Int}
  (rule:∀ (i j:Int) (t u:Tok) (s:Shared) (Q:Value→Shared→Prop) (E:Value→Shared→Prop),C i j→Q (.int (g i j) s.toks) { s with toks:=s.toks+1 }→wpAny (model X.prog X.w) X.A (f (.int i t) (.int j u)) Q E s) :
  OpR X f (rI C fun i j=>.int (g i j)):=by
 intro pins s σ H x y v u Q I rx ry h
 obtain⟨i,j,rfl,rfl,hc,q⟩:=h
 obtain⟨t,rfl⟩:=rx
 obtain⟨t',rfl⟩:=ry
 exact rule i j t t' s _ _ hc ⟨.int (g i j),H,I.tok _,⟨_,rfl⟩,q⟩
theorem opI0 {f:Value→Value→Sem Value}{g:Int→Int→Int}
  (rule:∀ (i j:Int) (t u:Tok) (s:Shared) (Q:Value→Shared→Prop) (E:Value→Shared→Prop),Q (.int (g i j) s.toks) { s with toks:=s.toks+1 }→wpAny (model X.prog X.w) X.A (f (.int i t) (.int j u)) Q E s) :
  OpR X f (rI0 fun i j=>.int (g i j)):=by
 intro pins s σ H x y v u Q I rx ry h
 obtain⟨i,j,rfl,rfl,q⟩:=h
 obtain⟨t,rfl⟩:=rx
 obtain⟨t',rfl⟩:=ry
 exact rule i j t t' s _ _ ⟨.int (g i j),H,I.tok _,⟨_,rfl⟩,q⟩
theorem opB0 {f:Value→Value→Sem Value}{g:Int→Int→Bool}
  (rule:∀ (i j:Int) (t u:Tok) (s:Shared) (Q:Value→Shared→Prop) (E:Value→Shared→Prop),Q (.bool (g i j)) s→wpAny (model X.prog X.w) X.A (f (.int i t) (.int j u)) Q E s) :
  OpR X f (rI0 fun i j=>.bl (g i j)):=by
 intro pins s σ H x y v u Q I rx ry h
 obtain⟨i,j,rfl,rfl,q⟩:=h
 obtain⟨t,rfl⟩:=rx
 obtain⟨t',rfl⟩:=ry
 exact rule i j t t' s _ _ ⟨.bl (g i j),H,I,rfl,q⟩
def CDiv (i j:Int):Prop:=0 < j∧j < 1073741824
def CMul (i j:Int):Prop:=(-(2^64) < i∧i < 2^64)∨(-(2^64) < j∧j < 2^64)
theorem CMul.ok {i j:Int}(h:CMul i j):IntMulOk i j:=by
 rcases h with ⟨h1,h2⟩ | ⟨h1,h2⟩
 ·exact .of_left (intBits_le_64 h1 h2)
 ·exact .of_right (intBits_le_64 h1 h2)
theorem xF:OpR X (binaryOp .Add) (rI0 fun i j=>.int (i+j)):=opI0 fun _ _ _ _ _ _ _ q=>add_int q
theorem xG:OpR X (binaryOp .Sub) (rI0 fun i j=>.int (i - j)):=opI0 fun _ _ _ _ _ _ _ q=>sub_int q
theorem xH:OpR X (binaryOp .Mult) (rI CMul fun i j=>.int (i*j)):=opI fun _ _ _ _ _ _ _ hc q=>mul_int q hc.ok
theorem vp:OpR X (binaryOp .FloorDiv) (rI CDiv fun i j=>.int (i/j)):=opI fun i j _ _ _ _ _ hc q=>by
 have h1:=hc.1
 have h2:=hc.2
 exact floordiv_int (by omega) (by rw[Int.fdiv_eq_ediv_of_nonneg i (by omega)];exact q) (.inl (PyProof.noPylong_small (by omega)))
theorem xI:OpR X (binaryOp .Mod) (rI (fun _ j=>0 < j) fun i j=>.int (i%j)):=opI fun i j _ _ _ _ _ hc q=>by
 have h1:=hc
 exact mod_int' (by omega) (by rw[Int.fmod_eq_emod_of_nonneg i (by omega)];exact q)
theorem unI {f:Value→Sem Value}{g:Int→Int}
  (rule:∀ (i:Int) (t:Tok) (s:Shared) (Q:Value→Shared→Prop) (E:Value→Shared→Prop),Q (.int (g i) s.toks) { s with toks:=s.toks+1 }→wpAny (model X.prog X.w) X.A (f (.int i t)) Q E s) :
  UnR X f (rU fun i=>.int (g i)):=by
 intro pins s σ H x v Q I rx h
 obtain⟨i,rfl,q⟩:=h
 obtain⟨t,rfl⟩:=rx
 exact rule i t s _ _ ⟨.int (g i),H,I.tok _,⟨_,rfl⟩,q⟩
theorem sJ:UnR X (unaryOp .USub) (rU fun i=>.int (-i)):=unI fun _ _ _ _ _ q=>neg_int q
end
section
variable {X:Cx}{a b c:Expr}{ta tb tc:TE}{pos:Pos}
theorem kD {pins:List (Addr×Obj)}{σ:St}{H:Hp}{s:Shared}{Q:VK}{k k':Bool}(I:Inv X pins σ H s)(q:Q (.bl k) H)(e:k=k'):EP X pins σ Q (.bool k') s:=by
 subst e
 exact⟨.bl k,H,I,rfl,q⟩
theorem xc:OpR X (compareOp .Lt) (rI0 fun i j=>.bl (decide (i < j))):=opB0 fun _ _ _ _ _ _ _ q=>lt_int q
theorem sK:OpR X (compareOp .LtE) (rI0 fun i j=>.bl (decide (i≤j))):=opB0 fun _ _ _ _ _ _ _ q=>le_int q
theorem yL:OpR X (compareOp .Gt) (rI0 fun i j=>.bl (decide (j < i))):=opB0 fun _ _ _ _ _ _ _ q=>gt_int q
theorem yM:OpR X (compareOp .GtE) (rI0 fun i j=>.bl (decide (j≤i))):=opB0 fun _ _ _ _ _ _ _ q=>ge_int q
theorem OpR.or {f:Value→Value→Sem Value}{r r':R2}(h:OpR X f r)(h':OpR X f r'):OpR X f (fun x y H Q=>r x y H Q∨r' x y H Q):=by
 intro pins s σ H x y v u Q I rx ry q
 rcases q with q | q
 ·exact h pins s σ H x y v u Q I rx ry q
 ·exact h' pins s σ H x y v u Q I rx ry q
theorem nomark (b:Expr){op:CmpOp}(h:op≠.In:=by decide)(h2:op≠.NotIn:=by decide):behindInMarks op b=false:=by
 have e1:(op==CmpOp.In)=false:=by cases op<;>first | rfl | exact absurd rfl h
 have e2:(op==CmpOp.NotIn)=false:=by cases op<;>first | rfl | exact absurd rfl h2
 cases b<;>simp[behindInMarks,e1,e2]
theorem vq {op:CmpOp}{r:R2}(ho:OpR X (compareOp op) r)(ha:PE X a ta)(hb:PE X b tb)(hm:behindInMarks op b=false):PE X (.Compare a [op] [b] pos) (tOp r ta tb):=by
 intro pins s σ H Q I h
 exact wpAny_Compare1 (binT ha hb I h fun v u s2 x y H2 I2 rx ry q=>ho pins s2 σ H2 x y v u Q I2 rx ry q) hm
def tTest (t:TE):TT:=fun σ H Q=>t σ H fun x H'=>∃ k,x=.bl k∧Q k H'
theorem vr {op:CmpOp}{r:R2}(ho:OpR X (compareOp op) r)(ha:PE X a ta)(hb:PE X b tb)(hm:behindInMarks op b=false):PT X (.Compare a [op] [b] pos) (tTest (tOp r ta tb)):=by
 intro pins s σ H Q I h
 refine wpAny_isTrue_Compare1 (thn (ha pins s σ H _ I h) fun v s1 ⟨x,H1,I1,r1,q1⟩=>thn (hb pins s1 σ H1 _ I1 q1) fun u s2 ⟨y,H2,I2,r2,q2⟩ =>
  thn (ho pins s2 σ H2 x y v u _ I2 r1 r2 q2) fun c s3 ⟨z,H3,I3,r3,k,e,q3⟩=>?_) hm
 subst e
 cases r3
 exact wpAny_truthy_bool ⟨H3,I3,q3⟩
def tChain (r r':R2)(ta tb tc:TE):TE:=fun σ H Q=>ta σ H fun x H1=>tb σ H1 fun y H2=>r x y H2 fun z H3=>∃ k,z=.bl k ∧
 (if k=true then tc σ H3 fun w' H4=>r' y w' H4 Q else Q (.bl false) H3)
theorem sL {op op':CmpOp}{r r':R2}(ho:OpR X (compareOp op) r)(ho':OpR X (compareOp op') r')(ha:PE X a ta)(hb:PE X b tb)(hc:PE X c tc)
  (hm:lastMarks [op,op'] [b,c]=false:=by with_unfolding_all rfl):PE X (.Compare a [op,op'] [b,c] pos) (tChain r r' ta tb tc):=by
 intro pins s σ H Q I h
 refine Compare_chain (thn (ha pins s σ H _ I h) fun v s1 ⟨x,H1,I1,r1,q1⟩=>chain_link (thn (hb pins s1 σ H1 _ I1 q1) fun u s2 ⟨y,H2,I2,r2,q2⟩ =>
  thn (ho pins s2 σ H2 x y v u _ I2 r1 r2 q2) fun d s3 ⟨z,H3,I3,r3,k,e,q3⟩=>?_)) hm
 subst e
 cases r3
 wp_walk
 cases k with
 | false=>exact ite_ff ⟨.bl false,H3,I3,rfl,q3⟩
 | true=>exact ite_tt (chain_last (thn (hc pins s3 σ H3 _ I3 q3) fun w' s4 ⟨z',H4,I4,r4,q4⟩=>ho' pins s4 σ H4 y z' u w' Q I4 r2 r4 q4))
theorem sM {op op':CmpOp}{r r':R2}(ho:OpR X (compareOp op) r)(ho':OpR X (compareOp op') r')(ha:PE X a ta)(hb:PE X b tb)(hc:PE X c tc)
  (hm:lastMarks [op,op'] [b,c]=false:=by with_unfolding_all rfl):PT X (.Compare a [op,op'] [b,c] pos) (tTest (tChain r r' ta tb tc)):=by
 intro pins s σ H Q I h
 refine isTrue_chain (thn (ha pins s σ H _ I h) fun v s1 ⟨x,H1,I1,r1,q1⟩=>test_link (thn (hb pins s1 σ H1 _ I1 q1) fun u s2 ⟨y,H2,I2,r2,q2⟩ =>
  thn (ho pins s2 σ H2 x y v u _ I2 r1 r2 q2) fun d s3 ⟨z,H3,I3,r3,k,e,q3⟩=>?_)) hm
 subst e
 cases r3
 refine wpAny_truthy_bool ?_
 cases k with
 | false =>
  obtain⟨k',e',q'⟩:=q3
  cases e'
  exact ite_ff ⟨H3,I3,q'⟩
 | true =>
  refine ite_tt (test_last (thn (hc pins s3 σ H3 _ I3 q3) fun w' s4 ⟨z',H4,I4,r4,q4⟩=>thn (ho' pins s4 σ H4 y z' u w' _ I4 r2 r4 q4) fun d' s5 ⟨z2,H5,I5,r5,k2,e2,q5⟩=>?_))
  subst e2
  cases r5
  exact wpAny_truthy_bool ⟨H5,I5,q5⟩
theorem line63:(sizeLine:Nat) < 2^63:=by rw[sizeLine_eq];decide
theorem vals1 {x:V}{us:List Value}(r:Vals [x] us):∃ u,us=[u]∧RelV x u:=by
 cases r with
 | cons r1 r2=>cases r2;exact⟨_,rfl,r1⟩
theorem vals2 {x y:V}{us:List Value}(r:Vals [x,y] us):∃ u w',us=[u,w']∧RelV x u∧RelV y w':=by
 cases r with
 | cons r1 r2 =>
  cases r2 with
  | cons r3 r4=>cases r4;exact⟨_,_,rfl,r1,r3⟩
theorem qp (hc:X.calm=true):CallR X (.builtin "max") (fun xs H Q=>∃ i j,xs=[.int i,.int j]∧Q (.int (if j > i then j else i)) H):=by
 intro pins s σ H xs us Q I r h
 obtain⟨i,j,rfl,q⟩:=h
 obtain⟨u,w',rfl,⟨t,rfl⟩,⟨t',rfl⟩⟩:=vals2 r
 refine max_two_ints (I.ok.hd hc) fun h' tk k=>⟨_,H,I.kept k,?_,q⟩
 by_cases hj:j > i
 ·rw[if_pos hj,if_pos hj];exact⟨_,rfl⟩
 ·rw[if_neg hj,if_neg hj];exact⟨_,rfl⟩
theorem qq:CallR X (.type "int") (fun xs H Q=>(∃ i,xs=[.int i]∧Q (.int i) H)∨∃ k,xs=[.bl k]∧Q (.int (if k then 1 else 0)) H):=by
 intro pins s σ H xs us Q I r h
 rcases h with ⟨i,rfl,q⟩ | ⟨k,rfl,q⟩
 ·obtain⟨u,rfl,t,rfl⟩:=vals1 r
  exact call_int_int ⟨.int i,H,I,⟨_,rfl⟩,q⟩
 ·obtain⟨u,rfl,r1⟩:=vals1 r
  cases r1
  exact call_int_bool ⟨.int (if k then 1 else 0),H,I.tok _,⟨_,rfl⟩,q⟩
end
end L2
namespace L2
open PySem PySem.Spec PyProof.Rows
structure ObjM (h:Heap)(x dx C:Addr)(mA:Str→Option Value):Prop where
 obj:h.get? x=some (PySem.W.instObj C dx)
 ns:h.Ns1 dx mA
 ne:dx≠x
theorem qu {h:Heap}{dx:Addr}{mA:Str→Option Value}(n:h.Ns1 dx mA):∃ od,h.get? dx=some od∧∀ name,PySem.W.lookIn name od=some (mA name):=by
 obtain⟨o,es,ep,ho,hd,hk,_,hm⟩:=n
 refine⟨o,ho,fun name=>?_⟩
 have e:=hm name
 unfold nsFind findBy at e
 rw[← Array.find?_toList]at e
 unfold PySem.W.lookIn
 rw[hd]
 dsimp only
 split
 ·rename_i y q
  rw[q]at e
  exact congrArg some e
 ·rename_i q
  rw[q]at e
  have a:es.toList.any (·.refKey)=false:=by
   rw[List.any_eq_false]
   intro y hy
   obtain⟨z,t,hkey⟩:=hk y (Array.mem_toList_iff.mp hy)
   simp[DictEntry.refKey,hkey]
  have a':¬ es.toList.any (·.refKey)=true:=by rw[a];exact Bool.false_ne_true
  rw[if_neg a']
  exact congrArg some e
theorem ObjM.look {h:Heap}{x dx C:Addr}{mA:Str→Option Value}(I:ObjM h x dx C mA):∃ od,PySem.W.InstAt h x (PySem.W.instObj C dx) C (some od)∧∀ name,PySem.W.lookIn name od=some (mA name) :=
 let ⟨od,ho,hl⟩:=qu I.ns
 ⟨od,⟨I.obj,rfl,rfl,ho⟩,hl⟩
section
variable {prog:Program}{w:World}{A:Around}{E:Value→Shared→Prop}{s:Shared}{K:PySem.W.Frag}{x dx C f:Addr}{mA:Str→Option Value}{name:Str}{v:Value}
theorem sN {pl:Sem Bool}{Q:Value×List Value→Shared→Prop}(X:K.In s.heap)(I:ObjM s.heap x dx C mA)(hg:PySem.W.plainGet K C name=true)
  (hf:PySem.W.findIn K (.ref C) name=some (some (.ref f))) (ht:PySem.W.isFn K (.ref f)=true) (hv:mA name=none) (h:Q (.ref f,[.ref x]) s) :
  wpAny (model prog w) A (getMethod (.ref x) name pl) Q E s:=by
 obtain⟨od,J,hl⟩:=I.look
 exact PySem.W.method_fn X J (PySem.W.plainGet_of hg).1 (PySem.W.plainGet_of hg).2 hf (beq_iff_eq.mp ht) (by show (PySem.W.lookIn name od).map (·.isSome)=some false;rw[hl,hv];rfl) h
theorem yN {R:Result→Shared→Prop}{vs:List Value}{kw:List (Str×Value)}(X:K.In s.heap)(hm:PySem.W.makesIn K C=true)
  (hi:PySem.W.findIn K (.ref C) "__init__"=some (some (.ref f))) (hf:PySem.W.typeIn K (.ref f)=some (.type "function"))
  (h:codeAny (model prog w) (A.under (.builtin "type.__call__" ⟨.ref C::vs,kw⟩)) (.call (.ref f) ⟨.ref (s.heap.objs.size+1)::vs,kw⟩) (PySem.W.InitBack (s.heap.objs.size+1) R)
   { s with heap:=(s.heap.push PySem.W.emptyDict).push (PySem.W.instObj C s.heap.objs.size) }) :
  codeAny (model prog w) A (.call (.ref C) ⟨vs,kw⟩) R s:=by
 obtain⟨hh,g,d,t,os⟩:=s
 exact PySem.W.make_core (PySem.W.makes_of X hm) (PySem.W.looks_findIn X hi) (fun self=>PySem.W.bind_fn X self hf) (.inl rfl) h
end
def putF (f:Str)(v:V):List (Str×V)→List (Str×V)
 | []=>[(f,v)]
 | (g,x)::r=>if g=f then (g,v)::r else (g,x)::putF f v r
theorem RelO.some_of {v:V}{o:Option Value}(r:RelO (some v) o):∃ u,o=some u∧RelV v u:=by
 cases o with
 | none=>exact(show False from r).elim
 | some u=>exact⟨u,rfl,r⟩
theorem RelO.none_of {o:Option Value}(r:RelO none o):o=none:=by
 cases o with
 | none=>rfl
 | some u=>exact(show False from r).elim
section
variable {P:Program}{w:World}{H H':Hp}{h h':Heap}{a C dx:Addr}{fs fs':List (Str×V)}
theorem vt (hok:HOk P w H h)(e:H a=some (.ins C dx fs)):∃ mA,ObjM h a dx C mA∧(∀ f,RelO (fs.lookup f) (mA f))∧PySem.Within mA (fs.map (·.1))∧fs.length≤1000∧H dx=some (.own a):=by
 obtain⟨d,z,ne,ob,mA,n,r,q⟩:=(show ObjOk P w H h a (.ins C dx fs) from hok a _ e)
 exact⟨mA,⟨ob,n,ne⟩,r,q,z,d⟩
end
structure Cls (K:PySem.W.Frag)(C:Addr):Prop where
 pg:PySem.W.plainGet K C Str.empty=true
 hd:PySem.W.hasDictIn K C=true
 po:PySem.W.plainOver K C=true
 sa:PySem.W.findIn K (.ref C) "__setattr__"=some (some (.builtin "object.__setattr__"))
theorem Cls.get {K:PySem.W.Frag}{C:Addr}(c:Cls K C)(f:Str):PySem.W.plainGet K C f=true:=c.pg
structure Meth (K:PySem.W.Frag)(C:Addr)(m:Str)(f:Addr):Prop where
 at_:PySem.W.findIn K (.ref C) m=some (some (.ref f))
 fn:PySem.W.isFn K (.ref f)=true
 kp:PySem.W.keepIn K (.ref f)=true
section
variable {X:Cx}{pins:List (Addr×Obj)}{σ:St}{H:Hp}{s:Shared}{a C dx:Addr}{fs:List (Str×V)}{f:Str}{v:V}{A:Around}{E:Value→Shared→Prop}
theorem ny {m:Str}{g:Addr}{pl:Sem Bool}{Q:Value×List Value→Shared→Prop}(I:Inv X pins σ H s)(e:H a=some (.ins C dx fs))(c:Cls X.K C)(k:Meth X.K C m g)(l:fs.lookup m=none)
  (h:Q (.ref g,[.ref a]) s):wpAny (model X.prog X.w) A (getMethod (.ref a) m pl) Q E s:=by
 obtain⟨mA,O,r,_,_,_⟩:=vt I.hok e
 have hn:mA m=none:=RelO.none_of (by rw[← l];exact r m)
 exact sN I.kIn O (c.get m) k.at_ k.fn hn h
end
section
variable {X:Cx}{o e value:Expr}{f:Str}{pos pos' tpos:Pos}{ta tv:TE}
theorem xg {pl:Sem Bool}{m:Str}{apos:Pos}{args:List Expr}{pins:List (Addr×Obj)}{s:Shared}{σ:St}{H:Hp}{Q:Value→Shared→Prop}{te:TE}(he:PE X e te)(I:Inv X pins σ H s)
  (h:te σ H fun x H1=>∃ a C dx fs g,x=.ref a∧H1 a=some (.ins C dx fs)∧Cls X.K C∧Meth X.K C m g∧fs.lookup m=none ∧
   ∀ s1,Inv X pins σ H1 s1→wpAny (model X.prog X.w) X.A (callWith pos (.ref g) [.ref a] (backTo pos (starEach args X.env)) (backToKw pos (keywordEach [] X.env))) Q X.xe s1)
  (ht:eval (.Call (.Attribute e m apos) args [] pos) X.env=(do
   let ov ← eval e X.env
   standAt apos.atName
   let (f,first) ← holding [ov] (getMethod ov m pl)
   callWith pos f first (backTo pos (starEach args X.env)) (backToKw pos (keywordEach [] X.env)))) :
  wpAny (model X.prog X.w) X.A (eval (.Call (.Attribute e m apos) args [] pos) X.env) Q X.xe s:=by
 refine PySem.W.methodCall_KW (thn (he pins s σ H _ I h) fun u s1 ⟨x,H1,I1,rx,a,C,dx,fs,g,ex,ea,c,k,l,q⟩=>?_) ht
 subst ex
 obtain rfl:u=Value.ref a:=rx
 exact ny I1 ea c k l (q s1 I1)
end
section
variable {X:Cx}{pins:List (Addr×Obj)}{σ:St}{H:Hp}{s:Shared}{A:Around}{E:Value→Shared→Prop}{Q:Value→Shared→Prop}{c:Value}{b:Bool}
inductive TyOf (K:PySem.W.Frag)(H:Hp):V→Value→Prop where
 | non:TyOf K H .non (.type "NoneType")
 | bl (x:Bool):TyOf K H (.bl x) (.type "bool")
 | int (i:Int):TyOf K H (.int i) (.type "int")
 | str (x:Str):TyOf K H (.str x) (.type "str")
 | flt (x:UInt64):TyOf K H (.flt x) (.type "float")
 | lst {a:Addr} {xs:List V} (e:H a=some (.lst xs)):TyOf K H (.ref a) (.type "list")
 | frz {a:Addr} {o:Obj} {xs:List V} (e:H a=some (.frz o (.lst xs))):TyOf K H (.ref a) (.type "list")
 | tup {a:Addr} {xs:List V} (e:H a=some (.tup xs)):TyOf K H (.ref a) (.type "tuple")
 | dK {a:Addr} {kvs:List (Key×V)} (e:H a=some (.dK kvs)):TyOf K H (.ref a) (.type "dict")
 | dT {a:Addr} {kvs:List (List Key×V)} (e:H a=some (.dT kvs)):TyOf K H (.ref a) (.type "dict")
 | ins {a C dx:Addr} {fs:List (Str×V)} (e:H a=some (.ins C dx fs)) (cl:Cls K C) (ha:PySem.W.findIn K (.ref C) "__class__"=some (some (.builtin "object.__class__")))
   (hn:PySem.W.specialIn K (.builtin "object.__class__") "__get__"=some (some (.builtin "getset_descriptor.__get__"))) (htk:PySem.W.takesIn K (.builtin "object.__class__")=some true)
   (hm:PySem.W.mroIn K C (.type "object")=some true):TyOf K H (.ref a) (.ref C)
end
end L2
namespace L2
open PySem PySem.Spec PyProof.Rows
structure Room (k:Nat)(A:Around):Prop where
 hd:A.handled=none
 dp:A.depth+3*k+5 < recursionLimit
 un:A.units+16*k+200 < cLine
theorem Room.mono {j k:Nat}{A:Around}(r:Room k A)(h:j≤k):Room j A:=⟨r.hd,by have:=r.dp;omega,by have:=r.un;omega⟩
theorem Room.deeper {k:Nat}{A:Around}(r:Room (k+1) A)(env:Env):Room k (A.deeper env) :=
 ⟨r.hd,by have:=r.dp;show A.depth+1+3*k+5 < _;omega,by have:=r.un;show A.units+3+16*k+200 < _;omega⟩
structure RoomW (k:Nat)(A:Around):Prop where
 hd:A.handled=none
 dp:A.depth+3*k+3 < recursionLimit
 un:A.units+16*k+190 < cLine
theorem Room.w {k:Nat}{A:Around}(r:Room k A):RoomW k A:=⟨r.hd,by have:=r.dp;omega,by have:=r.un;omega⟩
theorem Room.w1 {k:Nat}{A:Around}(r:Room k A):RoomW k A.in1:=⟨r.hd,by have:=r.dp;show A.depth+3*k+3 < _;omega,by have:=r.un;show A.units+1+16*k+190 < _;omega⟩
theorem RoomW.mono {j k:Nat}{A:Around}(r:RoomW k A)(h:j≤k):RoomW j A:=⟨r.hd,by have:=r.dp;omega,by have:=r.un;omega⟩
theorem RoomW.deeper {k:Nat}{A:Around}(r:RoomW (k+1) A)(env:Env):Room k (A.deeper env) :=
 ⟨r.hd,by have:=r.dp;show A.depth+1+3*k+5 < _;omega,by have:=r.un;show A.units+3+16*k+200 < _;omega⟩
theorem RoomW.depth {k:Nat}{A:Around}(r:RoomW k A):A.depth < recursionLimit:=by have:=r.dp;omega
theorem Room.depth {k:Nat}{A:Around}(r:Room k A):A.depth < recursionLimit:=by have:=r.dp;omega
theorem Room.units {k:Nat}{A:Around}(r:Room k A):A.units+64 < cLine:=by have:=r.un;omega
def tNil:TA:=fun _ H Q=>Q [] H
def tCons (ta:TE)(tr:TA):TA:=fun σ H Q=>ta σ H fun x H1=>tr σ H1 fun xs H2=>Q (x::xs) H2
section
variable {X:Cx}{e:Expr}{es:List Expr}{te:TE}{t:TA}{pos:Pos}
theorem iF:PA X [] tNil:=fun _ _ _ _ H Q I h=>Calls.spliced_nil ⟨[],H,I,.nil,h⟩
theorem d5 (ha:PE X e te)(hr:PA X es t)(hs:starEach (e::es) X.env=(false,eval e X.env)::starEach es X.env:=by rfl):PA X (e::es) (tCons te t):=by
 intro pos pins s σ H Q I h
 rw[hs]
 refine Calls.spliced_cons (thn (ha pins s σ H _ I h) fun u s1 ⟨x,H1,I1,r1,q1⟩=>?_)
 exact thn (hr pos pins s1 σ H1 _ I1 q1) fun us s2 ⟨xs,H2,I2,r2,q2⟩=>⟨x::xs,H2,I2,.cons r1 r2,q2⟩
def tTup (t:TA):TE:=fun σ H Q=>t σ H fun xs H1=>xs.length≤sizeLine∧∀ p,H1 p=none→Q (.ref p) (upd H1 p (.tup xs))
def tLst (t:TA):TE:=fun σ H Q=>t σ H fun xs H1=>xs.length≤sizeLine∧∀ p,H1 p=none→Q (.ref p) (upd H1 p (.lst xs))
theorem xJ {x1}(h:PA X es t):PE X (.Tuple es x1 pos) (tTup t):=by
 intro pins s σ H Q I hq
 refine wpAny_Tuple_spliced (thn (h pos pins s σ H _ I hq) fun us s1 ⟨xs,H1,I1,r,z,q⟩=>⟨by rw[← r.length];exact z,?_⟩)
 have hf:=I1.hok.fresh (Nat.le_refl _)
 refine⟨.ref s1.heap.objs.size,upd H1 s1.heap.objs.size (.tup xs),I1.laid (fun b u e=>Heap.get?_push_of_some _ e) (Nat.le_refl _) ?_,rfl,q _ hf⟩
 exact⟨z,us,r,TupO.new _ _⟩
theorem sO (h:PA X es t):PE X (.List es pos) (tLst t):=by
 intro pins s σ H Q I hq
 refine wpAny_List_spliced (thn (h pos pins s σ H _ I hq) fun us s1 ⟨xs,H1,I1,r,z,q⟩=>⟨by rw[← r.length];exact z,?_⟩)
 have hf:=I1.hok.fresh (Nat.le_refl _)
 refine⟨.ref s1.heap.objs.size,upd H1 s1.heap.objs.size (.lst xs),I1.laid (fun b u e=>Heap.get?_push_of_some _ e) (Nat.le_refl _) ?_,rfl,q _ hf⟩
 exact⟨z,us,0,r,Heap.get?_push_size _ rfl⟩
end
abbrev Sp:=List V→Hp→VK→XK→Prop
abbrev CXT:=List Env→Hp→Shared→XK→Value→Shared→Prop
structure Env0 (P:Program)(w:World)(K:PySem.W.Frag)(mg:Str→Option Value)(base:Heap)(A:Around)(outer:List Env)(s:Shared)(H:Hp):Prop where
 frames:A.frames=some outer
 mod:Mod K mg base
 bs:∀ b o,base.get? b=some o→s.heap.get? b=some o∧H b=none
 bsz:base.objs.size≤s.heap.objs.size
 funs:s.heap.FunFrames base outer
 frf:∀ b∈frs outer,H b=none
 hok:HOk P w H s.heap
 bare:AllBare s.gens
def CE (outer:List Env)(P:Program)(w:World)(H:Hp)(s:Shared)(Q:VK)(u:Value)(s':Shared):Prop :=
 ∃ v H',s'.os=s.os∧AllBare s'.gens∧Un (frs outer) [] H H' s.heap s'.heap∧HOk P w H' s'.heap∧RelV v u∧Q v H'
def CR (CX:CXT)(outer:List Env)(P:Program)(w:World)(H:Hp)(s:Shared)(Q:VK)(E:XK)(r:Result)(s':Shared):Prop :=
 match r with
 | .ok (.ret u)=>CE outer P w H s Q u s'
 | .ok _=>False
 | .error e=>CX outer H s E e s'
structure FnOk (P:Program)(w:World)(K:PySem.W.Frag)(mg:Str→Option Value)(base:Heap)(CX:CXT)(k:Nat)(f:Addr)(fd:FuncData)(ps:List Str)(sp:Sp):Prop where
 len:∀ vs H Q E,sp vs H Q E→vs.length=ps.length
 run:∀ (A:Around) (outer:List Env) (s:Shared) (H:Hp) (args:Args) (us:List Value) (vs:List V) (Q:VK) (E:XK),RoomW k A→Env0 P w K mg base A outer s H→BindsTo s fd args (ps.zip us)→Vals vs us→sp vs H Q E →
  codeAny (model P w) A (.call (.ref f) args) (CR CX outer P w H s Q E) s
theorem FnOk.mono {P:Program}{w:World}{K:PySem.W.Frag}{mg:Str→Option Value}{base:Heap}{CX:CXT}{j k:Nat}{f:Addr}{fd:FuncData}{ps:List Str}{sp:Sp}(F:FnOk P w K mg base CX j f fd ps sp)(h:j≤k) :
  FnOk P w K mg base CX k f fd ps sp:=⟨F.len,fun A outer s H args us vs Q E hr=>F.run A outer s H args us vs Q E (hr.mono h)⟩
theorem Env0.in1 {P:Program}{w:World}{K:PySem.W.Frag}{mg:Str→Option Value}{base:Heap}{A:Around}{outer:List Env}{s:Shared}{H:Hp}(e:Env0 P w K mg base A outer s H) :
  Env0 P w K mg base A.in1 outer s H:=⟨e.frames,e.mod,e.bs,e.bsz,e.funs,e.frf,e.hok,e.bare⟩
section
variable {X:Cx}{pins:List (Addr×Obj)}{σ:St}{H:Hp}{s s':Shared}
theorem Inv.env0 (I:Inv X pins σ H s):Env0 X.prog X.w X.K X.mg X.base X.A X.stack s H :=
 ⟨I.ok.frames,I.ok.mod,I.bs,Nat.le_trans I.ok.bsz I.sz,I.stack,I.stkFree,I.hok,I.bare⟩
theorem Inv.after {Q:VK}{u:Value}(I:Inv X pins σ H s)(h:CE X.stack X.prog X.w H s Q u s'):EP X pins σ Q u s':=by
 obtain⟨v,H',os,bare,un,hok,r,q⟩:=h
 obtain⟨hh,g,d,t,os'⟩:=s'
 obtain rfl:os'=s.os:=os
 exact⟨v,H',I.call un hok bare (fun b z=>absurd z (by simp)),r,q⟩
end
def tCall (sp:Sp)(dvs:List V)(E:XK)(t:TA):TE:=fun σ H Q=>t σ H fun vs H1=>sp (vs++dvs) H1 Q E
def Binds (K:PySem.W.Frag)(fd:FuncData)(ps:List Str)(ds:List Value):Prop :=
 ∀ (s:Shared) (us:List Value),K.In s.heap→(us++ds).length=ps.length→BindsTo s fd ⟨us,[]⟩ (ps.zip (us++ds))
theorem Binds.all {K:PySem.W.Frag}{fd:FuncData}{ps:List Str}(h:∀ us:List Value,us.length=ps.length→bindArgs fd ⟨us,[]⟩=pure (ps.zip us)):Binds K fd ps []:=fun s us _ hl=>by
 rw[List.append_nil]at hl ⊢
 exact .of_eq (h us hl)
def Passes (CX:CXT)(X:Cx)(E:XK):Prop:=∀ (pins:List (Addr×Obj)) (σ:St) (H:Hp) (s:Shared) (e:Value) (s':Shared),Inv X pins σ H s→CX X.stack H s E e s'→X.xe e s'
section
variable {X:Cx}{CX:CXT}{k:Nat}{f C:Addr}{fd:FuncData}{ps:List Str}{sp:Sp}{dvs:List V}{ds:List Value}{E:XK}{x m:Str}{p pos apos:Pos}{e o:Expr}{es:List Expr}{ta:TE}{t:TA}
theorem sP {pins:List (Addr×Obj)}{σ:St}{H:Hp}{s:Shared}{Q:VK}{us:List Value}{vs:List V}(F:FnOk X.prog X.w X.K X.mg X.base CX k f fd ps sp)(hr:Room k X.A)(hb:Binds X.K fd ps ds)(hd:Vals dvs ds)(hx:Passes CX X E)
  (I:Inv X pins σ H s) (r:Vals vs us) (h:sp (vs++dvs) H Q E):wpAny (model X.prog X.w) X.A (call (.ref f) us) (EP X pins σ Q) X.xe s:=by
 have r2:Vals (vs++dvs) (us++ds):=r.append hd
 have hl:(us++ds).length=ps.length:=by rw[← r2.length];exact F.len _ _ _ _ h
 refine wpAny_call (codeAny_mono (F.run X.A X.stack s H ⟨us,[]⟩ (us++ds) (vs++dvs) Q E hr.w I.env0 (hb s us I.kIn hl) r2 h) fun r s' hq=>?_)
 cases r with
 | error e=>exact hx pins σ H s e s' I hq
 | ok fl =>
  cases fl with
  | ret u=>exact I.after hq
  | next=>exact False.elim hq
  | brk=>exact False.elim hq
  | cont=>exact False.elim hq
theorem vw (F:FnOk X.prog X.w X.K X.mg X.base CX k f fd ps sp)(hr:Room k X.A)(hg:Gl X x)(hm:X.mg x=some (.ref f))(hk:PySem.W.keepIn X.K (.ref f)=true)(hb:Binds X.K fd ps ds)(hd:Vals dvs ds)(hx:Passes CX X E)
  (ha:PA X (e::es) t) (hdb:(x==("__debug__":Str))=false:=by decide) (he:starEach (e::es) X.env=(false,eval e X.env)::starEach es X.env:=by rfl) (hpl:(backTo pos (starEach es X.env)).any (·.1)=false:=by rfl) :
  PE X (.Call (.Name x p) (e::es) [] pos) (tCall sp dvs E t):=by
 intro pins s σ H Q I h
 refine wpAny_Call_Name_kw (iy I hg hm ?_ hdb)
 refine PySem.W.callWith_K (h₀:=X.base) I.ok.mod.kin hk (thn (ha pos pins s σ H _ I h) fun us s1 ⟨vs,H1,I1,r,q⟩=>⟨I1.kIn,?_⟩) he hpl
 exact sP F hr hb hd hx I1 r q
structure Mk (K:PySem.W.Frag)(C f:Addr):Prop where
 makes:PySem.W.makesIn K C=true
 init:PySem.W.findIn K (.ref C) "__init__"=some (some (.ref f))
 fn:PySem.W.isFn K (.ref f)=true
 kp:PySem.W.keepIn K (.ref C)=true
end
section
variable {X:Cx}{CX:CXT}{k:Nat}{f C:Addr}{fd:FuncData}{ps ks:List Str}{sp:Sp}{E:XK}{x m:Str}{p pos apos kpos:Pos}{e o:Expr}{es:List Expr}{kws:List Keyword}{te ta:TE}{t tk:TA}{nm:Option Str}
variable {g:List Value→List Value→List Value}{gV:List V→List V→List V}
end
structure FnScope (N P:List Str)(sc:Scope):Prop where
 kind:sc.kind=.function
 co:sc.isCoroutine=false
 gen:sc.isGenerator=false
 nd:N.Nodup
 pre:N.take P.length=P
 par:∀ x∈P,sc.names.lookup x=some .local∨sc.names.lookup x=some .cell
 nofree:∀ y∈sc.names,y.2≠.free
theorem j3 {kindOf:Str→Option NameKind}{x:Str}:∀ {binds:List (Str×Value)} {m:Str→Option Value},(∀ v,(x,v)∉binds)→bindL kindOf binds m x=m x
 | [],_,_=>rfl
 | (n,v)::r,m,h=>by
  unfold bindL
  rw[j3 fun w hw=>h w (List.mem_cons_of_mem _ hw)]
  split
  ·have:x≠n:=by rintro rfl;exact h v List.mem_cons_self
   simp[this]
  ·rfl
theorem j4 {kindOf:Str→Option NameKind}{x:Str}:∀ {binds:List (Str×Value)} {m:Str→Option Value},(∀ v,(x,v)∉binds)→bindC kindOf binds m x=m x
 | [],_,_=>rfl
 | (n,v)::r,m,h=>by
  unfold bindC
  rw[j4 fun w hw=>h w (List.mem_cons_of_mem _ hw)]
  split
  ·rfl
  ·have:x≠n:=by rintro rfl;exact h v List.mem_cons_self
   simp[this]
theorem j5 {kindOf:Str→Option NameKind}{x:Str}{v:Value}:∀ {P:List Str} {vs:List Value} {i:Nat} {m:Str→Option Value},P.Nodup→P[i]?=some x→vs[i]?=some v→kindOf x=some .local →
  bindL kindOf (P.zip vs) m x=some v
 | [],_,_,_,_,h,_,_=>by simp at h
 | _::_,[],_,_,_,_,h,_=>by simp at h
 | p::P,w::vs,0,m,nd,h1,h2,hk=>by
  simp at h1 h2;subst h1;subst h2
  show bindL kindOf ((p,w)::P.zip vs) m p=_
  unfold bindL
  rw[j3 fun v hv=>(List.nodup_cons.mp nd).1 (List.of_mem_zip hv).1,if_pos hk]
  simp
 | p::P,w::vs,i+1,m,nd,h1,h2,hk=>by
  unfold bindL
  exact j5 (List.nodup_cons.mp nd).2 (by simpa using h1) (by simpa using h2) hk
theorem j6 {kindOf:Str→Option NameKind}{x:Str}{v:Value}:∀ {P:List Str} {vs:List Value} {i:Nat} {m:Str→Option Value},P.Nodup→P[i]?=some x→vs[i]?=some v→kindOf x≠some .local →
  bindC kindOf (P.zip vs) m x=some v
 | [],_,_,_,_,h,_,_=>by simp at h
 | _::_,[],_,_,_,_,h,_=>by simp at h
 | p::P,w::vs,0,m,nd,h1,h2,hk=>by
  simp at h1 h2;subst h1;subst h2
  show bindC kindOf ((p,w)::P.zip vs) m p=_
  unfold bindC
  rw[j4 fun v hv=>(List.nodup_cons.mp nd).1 (List.of_mem_zip hv).1,if_neg hk]
  simp
 | p::P,w::vs,i+1,m,nd,h1,h2,hk=>by
  unfold bindC
  exact j6 (List.nodup_cons.mp nd).2 (by simpa using h1) (by simpa using h2) hk
def start (N:List Str)(vs:List V):St:=vs.map some++List.replicate (N.length - vs.length) none
def cxOf (CX:CXT)(P:Program)(w:World)(K:PySem.W.Frag)(mg:Str→Option Value)(base:Heap)(N:List Str)(qual:Str)(scope:Scope)(f:Addr)(cd:Value)(A:Around)(outer:List Env)(s:Shared)(H:Hp)(E:XK):Cx where
 prog:=P
 w:=w
 K:=K
 mg:=mg
 base:=base
 A:=A.deeper (envOfC qual scope s.heap.objs.size f cd)
 N:=N
 s₀:=s
 H₀:=H
 env:=envOfC qual scope s.heap.objs.size f cd
 outer:=outer
 stack:=envOfC qual scope s.heap.objs.size f cd::outer
 ex:=[]
 calm:=true
 fn:=fun _=>true
 pn:=[]
 xe:=fun e s'=>wpAny (model P w) (A.deeper (envOfC qual scope s.heap.objs.size f cd)) (leaving (envOfC qual scope s.heap.objs.size f cd) e) (fun _ s''=>CX outer H s E e s'') (fun e' s''=>CX outer H s E e' s'') s'
theorem lM {sc:Scope}{n:Nat}{x:Str}(h:sc.names.lookup x=some .cell):∃ c,(cellsFrom n sc.names []).lookup x=some c:=by
 have q:=PySem.W.cellsFrom_some sc.names n [] (.inl h)
 exact Option.isSome_iff_exists.mp q
theorem qv {CX:CXT}{P:Program}{w:World}{K:PySem.W.Frag}{mg:Str→Option Value}{base:Heap}{N ps:List Str}{qual:Str}{scope:Scope}{f:Addr}{cd:Value}{A:Around}{outer:List Env}{s s1:Shared}{H:Hp}{E:XK}{us:List Value}{vs:List V}
  (S:FnScope N ps scope) (hd:A.handled=none) (e0:Env0 P w K mg base A outer s H) (hl:vs.length=ps.length) (r:Vals vs us)
  (x:InCallC s s.heap.objs.size (bindL (envOfC qual scope s.heap.objs.size f cd).kindOf (ps.zip us) fun _=>none) (cellsFrom (s.heap.objs.size+1) scope.names []) (bindC (envOfC qual scope s.heap.objs.size f cd).kindOf (ps.zip us) fun _=>none) s1) :
  Inv (cxOf CX P w K mg base N qual scope f cd A outer s H E) [] (start N vs) H s1:=by
 have hpl:ps.length≤N.length:=by have:=congrArg List.length S.pre;rw[List.length_take]at this;omega
 obtain⟨h1,tk,rfl,hk⟩:=x.done
 have noA:∀ b:Addr,b∉(cxOf CX P w K mg base N qual scope f cd A outer s H E).ex:=fun b z=>absurd (show b∈([]:List Addr) from z) (by simp)
 refine⟨⟨e0.mod,S.kind,rfl,rfl,Nat.le_refl _,fun y z c h1 h2=>?_,fun y hy=>?_,fun y c _ h=>?_,fun _=>hd,Around.frames_deeper e0.frames,.inr ⟨rfl,rfl⟩,fun b z=>absurd z (noA b),e0.bs,e0.bsz,fun b _ _=>noA b,fun b z=>absurd z (noA b),e0.funs,e0.frf⟩,
  rfl,e0.bare,Un.kept hk,⟨_,x.toInCall.ns,fun i y v h1 h2 h3=>?_⟩,fun y c h=>⟨_,x.cell y c h⟩,e0.hok.fresh (Nat.le_refl _),fun y c h=>?_,fun p hp=>absurd (show p∈([]:List (Addr×Obj)) from hp) (by simp),e0.hok.kept hk,?_⟩
 ·exact name_of_addr x.apart (PySem.mem_of_lookup h1) (PySem.mem_of_lookup h2)
 ·have hy:=hy
  rcases hy with hy | hy
  ·exact lM hy
  ·exact absurd rfl (S.nofree _ (PySem.mem_of_lookup hy))
 ·exact Nat.le_of_lt (x.above y c (PySem.mem_of_lookup h))
 ·have hi:i < vs.length:=by
   unfold start at h2
   by_cases hi:i < vs.length
   ·exact hi
   ·rw[List.getElem?_append_right (by simpa using hi)]at h2
    rw[List.getElem?_replicate]at h2
    split at h2<;>cases h2
  have ha:vs[i]?=some v:=by
   unfold start at h2
   rw[List.getElem?_append_left (by simpa using hi),List.getElem?_map]at h2
   cases e:vs[i]? with
   | none=>rw[e]at h2;cases h2
   | some a=>rw[e]at h2;cases h2;rfl
  obtain⟨u,hu,rv⟩:=r.get ha
  have hp:ps[i]?=some y:=by
   rw[← S.pre,List.getElem?_take_of_lt (by omega)];exact h1
  have ndP:ps.Nodup:=by rw[← S.pre];exact S.nd.sublist (List.take_sublist _ _)
  refine⟨u,rv,?_⟩
  rcases S.par y (List.mem_of_getElem? hp) with k | k
  ·exact .inl ⟨k,j5 ndP hp hu k⟩
  ·obtain⟨c,e⟩:=lM k
   refine .inr ⟨.inl k,c,e,?_⟩
   have q:=x.cell y c e
   rw[j6 ndP hp hu (by show scope.names.lookup y≠_;rw[k];decide)]at q
   exact q
 ·exact e0.hok.fresh (Nat.le_of_lt (x.above y c (PySem.mem_of_lookup h)))
 ·unfold start
  show _=N.length
  rw[List.length_append,List.length_map,List.length_replicate]
  omega
theorem sQ {CX:CXT}{P:Program}{w:World}{K:PySem.W.Frag}{mg:Str→Option Value}{base:Heap}{k:Nat}{f:Addr}{name qual:Str}{params:Arguments}{body:List Stmt}{scope:Scope}{dV kV doc pm cdv ct oc:Value}{an od:Option Addr}
  {osl:Array (Option Value)} {N ps:List Str} {sp:Sp} (lk:K.lookup f=some ⟨oc,od,.func (PySem.W.fnOf name qual params body scope dV kV doc pm an cdv ct),osl⟩) (hcd:PySem.W.codeIn K cdv qual=true) (S:FnScope N ps scope)
  (len:∀ vs H Q E,sp vs H Q E→vs.length=ps.length)
  (hbody:∀ (A:Around) (outer:List Env) (s:Shared) (H:Hp) (vs:List V) (Q:VK) (E:XK),Room k (A.deeper (envOfC qual scope s.heap.objs.size f cdv))→sp vs H Q E →
   ∃ t,PSs (cxOf CX P w K mg base N qual scope f cdv A outer s H E) body t∧t { nx:=fun _ H'=>Q .non H',rt:=Q } (start N vs) H) :
  FnOk P w K mg base CX (k+1) f (PySem.W.fnOf name qual params body scope dV kV doc pm an cdv ct) ps sp:=by
 refine⟨len,fun A outer s H args us vs Q E hr e0 hb r hsp=>?_⟩
 have hl:=len _ _ _ _ hsp
 have KX:K.In s.heap:=e0.mod.kin.keeps fun b o e=>(e0.bs b o e).1
 have lim:=e0.mod.nolimit.keeps fun b o e=>(e0.bs b o e).1
 have hkind:∀ y∈ps.zip us,scope.names.lookup y.1=some .local∨(scope.names.lookup y.1=some .cell∧((cellsFrom (s.heap.objs.size+1) scope.names []).lookup y.1).isSome=true):=fun ⟨n,v⟩ hy=>by
  rcases S.par n (List.of_mem_zip hy).1 with q | q
  ·exact .inl q
  ·exact .inr ⟨q,PySem.W.cellsFrom_some _ _ _ (.inl q)⟩
 refine codeAny_call_function hr.depth (KX _ _ lk) rfl S.co S.gen rfl (PySem.W.codeRec_of KX hcd) (hb _ _ _ _ ?_)
 refine wpAny_newFunctionEnv_cells S.kind hkind fun env he s1 x=>?_
 subst he
 refine⟨lim.keeps x.toInCall.keep,codeAny_func ?_⟩
 obtain⟨t,ht,hq⟩:=hbody A outer s H vs Q E (hr.deeper _) hsp
 have I:Inv (cxOf CX P w K mg base N qual scope f cdv A outer s H E) [] (start N vs) H s1:=qv S hr.hd e0 hl r x
 refine wpAny_mono (ht [] s1 (start N vs) H _ I hq) (fun fl s' hs=>?_) fun e s' hs=>hs
 have fin:∀ {σ':St} {H':Hp} {v:V} {u:Value},Inv (cxOf CX P w K mg base N qual scope f cdv A outer s H E) [] σ' H' s'→RelV v u→Q v H'→CE outer P w H s Q u s' :=
  fun {σ' H' v u} J rv q=>⟨v,H',J.os,J.bare,J.base,J.hok,rv,q⟩
 cases fl with
 | ret u =>
  obtain⟨v,σ',H',J,rv,q⟩:=hs
  exact fin J rv q
 | next =>
  obtain⟨σ',H',J,q⟩:=hs
  exact fin (v:=V.non) J rfl q
 | brk =>
  obtain⟨_,_,_,q⟩:=hs
  exact False.elim q
 | cont =>
  obtain⟨_,_,_,q⟩:=hs
  exact False.elim q
end L2
namespace L2
open PySem PySem.Spec PyProof.Rows
section
variable {X:Cx}{x:Str}{p pos:Pos}{e:Expr}{es:List Expr}{t:TA}{id T:String}{r:List V→Hp→VK→Prop}
def tCB (r:List V→Hp→VK→Prop)(t:TA):TE:=fun σ H Q=>t σ H fun vs H1=>r vs H1 Q
theorem cI (hc:CallR X (.builtin id) r)(hg:Gl X x)(hm:X.mg x=none)(hv:bootBuiltins x=some (.builtin id))(ha:PA X (e::es) t)(hn:x ≠ "__name__" := by decide)(hdb:(x==("__debug__":Str))=false:=by decide)
  (he:starEach (e::es) X.env=(false,eval e X.env)::starEach es X.env:=by rfl) (hpl:(backTo pos (starEach es X.env)).any (·.1)=false:=by rfl):PE X (.Call (.Name x p) (e::es) [] pos) (tCB r t):=by
 intro pins s σ H Q I h
 refine wpAny_Call_Name_kw (iE I hg hm hv ?_ hn hdb)
 exact PyProof.Rows.callWith_builtin1 (thn (ha pos pins s σ H _ I h) fun us s1 ⟨vs,H1,I1,r1,q1⟩=>hc pins s1 σ H1 vs us Q I1 r1 q1) he hpl
theorem d6 (hc:CallR X (.type T) r)(hg:Gl X x)(hm:X.mg x=none)(hv:bootBuiltins x=some (.type T))(ha:PA X (e::es) t)(hn:x ≠ "__name__" := by decide)(hdb:(x==("__debug__":Str))=false:=by decide)
  (he:starEach (e::es) X.env=(false,eval e X.env)::starEach es X.env:=by rfl) (hpl:(backTo pos (starEach es X.env)).any (·.1)=false:=by rfl):PE X (.Call (.Name x p) (e::es) [] pos) (tCB r t):=by
 intro pins s σ H Q I h
 refine wpAny_Call_Name_kw (iE I hg hm hv ?_ hn hdb)
 exact PyProof.Rows.callWith_type1 (thn (ha pos pins s σ H _ I h) fun us s1 ⟨vs,H1,I1,r1,q1⟩=>hc pins s1 σ H1 vs us Q I1 r1 q1) he hpl
end
end L2
namespace HT
open PySem PyProof.Rows
section
open PySem.SeqAt
open PySem.AutoSeq1 (wpAny_loadPart')
open PySem.MeetsSeq PySem.MeetsSeq2 PySem.MeetsSeq3
end
section
variable {prog:Program}{w:World}{A:Around}{E:Value→Shared→Prop}{s:Shared}
theorem vz {t b:Addr}{vs ws:List Value}{Q:Value→Shared→Prop}(ht:IsTup s.heap t vs.toArray)(hb:IsTup s.heap b ws.toArray)(hv:vs≠[])
  (h1:ws=[]→Q (.ref t) s) (h2:ws≠[]→Q (.ref s.heap.objs.size) { s with heap:=s.heap.push { cls:=.type "tuple",data:=.seq (vs++ws).toArray } })
  (hsz:vs.length+ws.length≤sizeLine):wpAny (model prog w) A (binaryOp .Add (.ref t) (.ref b)) Q E s:=by
 obtain⟨⟨cls,dd,data,sl⟩,ho,hc,n,hd⟩:=id ht
 obtain⟨⟨cls2,dd2,data2,sl2⟩,ho2,hc2,n2,hd2⟩:=id hb
 simp only at hc hd hc2 hd2
 subst hc hd hc2 hd2
 have e:vs.toArray++ws.toArray=(vs++ws).toArray:=by simp
 by_cases hw:ws=[]
 ·exact concat_meets ⟨_,ho,rfl⟩ ⟨_,ho2,rfl⟩ noFill_tuple_add seq_tuple_add PySem.F.slot_tuple_add PySem.F.entry_tuple_add (PySem.F.args_tuple_add_2 _ _)
   (tuple_addW1 t b vs.toArray ws.toArray n n2 dd dd2 sl sl2 (by simpa using hv) (by simp[hw])) ⟨ho,ho2,h1 hw⟩
 ·refine concat_meets ⟨_,ho,rfl⟩ ⟨_,ho2,rfl⟩ noFill_tuple_add seq_tuple_add PySem.F.slot_tuple_add PySem.F.entry_tuple_add (PySem.F.args_tuple_add_2 _ _)
   (tuple_addW2 t b vs.toArray ws.toArray n n2 dd dd2 sl sl2 (by simpa using hv) (by simpa using hw) (by rw[List.size_toArray,List.size_toArray];exact hsz)) ⟨ho,ho2,?_⟩
  rw[e]
  exact h2 hw
def sIx (n d:Nat):Option Int→Nat
 | none=>d
 | some v=>if v < 0 then (v+(n:Int)).toNat else min v.toNat n
theorem xK (n d:Nat)(hd:d≤n)(o:Option Int):sIx n d o≤n:=by
 cases o with
 | none=>exact hd
 | some v =>
  show (if v < 0 then (v+(n:Int)).toNat else min v.toNat n)≤n
  by_cases hv:v < 0
  ·rw[if_pos hv];omega
  ·rw[if_neg hv];exact Nat.min_le_right _ _
theorem o5 (v:Int)(n d:Nat):(if v < 0 then max (v+(n:Int)) 0 else min v (n:Int))=((sIx n d (some v):Nat):Int):=by
 show (if v < 0 then max (v+(n:Int)) 0 else min v (n:Int))=(((if v < 0 then (v+(n:Int)).toNat else min v.toNat n):Nat):Int)
 by_cases hv:v < 0
 ·simp only[if_pos hv];omega
 ·simp only[if_neg hv];omega
theorem nA (lo hi:Option Int)(n:Nat):Builtin.Slice.sliceAdjust lo hi 1 (n:Int)=(((sIx n 0 lo:Nat):Int),((sIx n n hi:Nat):Int)):=by
 have h1:¬ ((1:Int) < 0):=by omega
 unfold Builtin.Slice.sliceAdjust
 simp only[h1,if_false]
 refine Prod.ext ?_ ?_
 ·cases lo with
  | none=>rfl
  | some v=>exact o5 v n 0
 ·cases hi with
  | none=>rfl
  | some v=>exact o5 v n n
theorem nB (i j:Nat):Builtin.Slice.slicePlaces (i:Int) (j:Int) 1=j - i:=by
 unfold Builtin.Slice.slicePlaces
 have h1:(1:Int) > 0:=by omega
 simp only[h1,if_true,Int.ediv_one]
 split<;>omega
theorem iG {v:Value}{o:Option Int}{Q:Option Int→Shared→Prop}(p:IsPart v o)(h:Q o s):wpAny (model prog w) A (Builtin.Slice.slicePartIndex v) Q E s:=by
 cases p with
 | none=>exact slicePart_none h
 | int i t=>exact slicePart_int h
theorem cJ {sl:Addr}{vl vu:Value}{lo hi:Option Int}{n:Nat}{Q:Int×Int×Nat→Shared→Prop}(hs:s.heap.IsSliceOf sl vl vu .none)(pl:IsPart vl lo)(pu:IsPart vu hi)
  (h:Q (((sIx n 0 lo:Nat):Int),1,sIx n n hi - sIx n 0 lo) s):wpAny (model prog w) A (Builtin.Slice.sliceApplied (.ref sl) (pure (n:Int))) Q E s:=by
 obtain⟨os,hos,hcs,hds⟩:=id hs
 unfold Builtin.Slice.sliceApplied Builtin.Slice.sliceFields
 refine wpAny_bind (wpAny_bind (wpAny_field hos hds rfl (wpAny_bind (wpAny_field hos hds rfl (wpAny_bind (wpAny_field hos hds rfl (wpAny_pure ?_)))))))
 refine wpAny_bind (slicePart_none ?_)
 rw[if_neg (by decide)]
 refine wpAny_bind (iG pl (wpAny_bind (iG pu (wpAny_bind (wpAny_pure ?_)))))
 show wpAny _ _ (match Builtin.Slice.sliceAdjust lo hi 1 (n:Int) with | (lo,hi)=>pure (lo,(1:Int),Builtin.Slice.slicePlaces lo hi 1)) _ _ s
 rw[nA lo hi n]
 show wpAny _ _ (pure (((sIx n 0 lo:Nat):Int),(1:Int),Builtin.Slice.slicePlaces ((sIx n 0 lo:Nat):Int) ((sIx n n hi:Nat):Int) 1)) _ _ s
 rw[nB]
 exact wpAny_pure h
theorem sR (xs:Array Value)(i k:Nat):((List.range k).filterMap fun (m:Nat)=>xs[((i:Int)+(m:Int)*1).toNat]?).toArray=((xs.toList.drop i).take k).toArray:=by
 have e:(fun (m:Nat)=>xs[((i:Int)+(m:Int)*1).toNat]?)=fun m=>xs[i+m]?:=by
  funext m
  have:((i:Int)+(m:Int)*1).toNat=i+m:=by omega
  rw[this]
 rw[e]
 have:=pick_run xs i k
 rw[List.filterMap_map]at this
 have e2:((fun x=>xs[x]?)∘fun x=>i+x)=fun m=>xs[i+m]?:=rfl
 rw[e2]at this
 rw[this]
theorem fz {t sl:Addr}{items:Array Value}{vl vu:Value}{lo hi:Option Int}{Q:Value→Shared→Prop}(ht:IsTup s.heap t items)(hs:s.heap.IsSliceOf sl vl vu .none)(pl:IsPart vl lo)(pu:IsPart vu hi)
  (hw:¬ (sIx items.size 0 lo=0∧sIx items.size items.size hi=items.size))
  (h:Q (.ref s.heap.objs.size) { s with heap:=s.heap.push { cls:=.type "tuple",data:=.seq ((items.toList.drop (sIx items.size 0 lo)).take (sIx items.size items.size hi - sIx items.size 0 lo)).toArray } })
  (hsz:items.size≤sizeLine):wpAny (model prog w) A (getItem (.ref t) (.ref sl)) Q E s:=by
 have htake:sizeOk (.seq ((items.toList.drop (sIx items.size 0 lo)).take (sIx items.size items.size hi - sIx items.size 0 lo)).toArray):=by
  show ((items.toList.drop (sIx items.size 0 lo)).take (sIx items.size items.size hi - sIx items.size 0 lo)).toArray.size≤sizeLine
  rw[List.size_toArray,List.length_take,List.length_drop,Array.length_toList]
  omega
 have hj:sIx items.size items.size hi≤items.size:=xK _ _ (Nat.le_refl _) hi
 obtain⟨os,hos,hcs,hds⟩:=id hs
 have hTs:s.TypeIs (.ref sl) "slice" := ⟨os,hos,hcs⟩
 unfold getItem
 try with_reducible refine wpAny_holding ?_
 first | refine wpAny_bind (wpAny_pure ?_) | skip
 refine wpAny_bind (wpAny_sequenceKey ht.typeIs (by decide) ?_)
 refine wpAny_bind (wpAny_callSpecial?_slot ht.typeIs PyProof.Rows.slot_tuple_getitem
  (wpAny_call_entry PyProof.Rows.slot_tuple_getitem ht.typeIs entry_tuple_getitem ?_ (args_tuple_getitem _ _)))
 show wpAny _ _ (Builtin.Tuple.tupleItemsOf (.ref t) >>= _) _ _ s
 refine wpAny_bind (tupleItemsOf_ ht ?_)
 refine wpAny_bind (wpAny_typeOf hTs ?_)
 rw[if_pos (by decide)]
 refine wpAny_bind (cJ hs pl pu ?_)
 have hno:¬ ((((sIx items.size 0 lo:Nat):Int)==0&&(1:Int)==1&&(sIx items.size items.size hi - sIx items.size 0 lo)==items.size)=true):=by
  intro q
  rw[Bool.and_eq_true,Bool.and_eq_true]at q
  have q1:=eq_of_beq q.1.1
  have q2:=eq_of_beq q.2
  exact hw ⟨by omega,by omega⟩
 show wpAny _ _ (if (((sIx items.size 0 lo:Nat):Int)==0&&(1:Int)==1&&(sIx items.size items.size hi - sIx items.size 0 lo)==items.size)=true then _ else _) _ _ s
 rw[if_neg hno,sR]
 first
  | exact wpAny_bind (wpAny_newObj_type (wpAny_pure ⟨_,rfl,wpAny_pure h⟩) htake)
  | exact wpAny_bind (wpAny_newObj_type (wpAny_bind (wpAny_pure (wpAny_pure ⟨_,rfl,wpAny_pure h⟩))) htake)
  | exact wpAny_bind (wpAny_bind (wpAny_newObj_type (wpAny_pure (wpAny_pure ⟨_,rfl,wpAny_pure h⟩)) htake))
  | exact wpAny_bind (wpAny_bind (wpAny_newObj_type (wpAny_pure ⟨_,rfl,wpAny_pure h⟩) htake))
end
end HT
namespace L2
open PySem PySem.Spec PyProof.Rows
abbrev TO:=St→Hp→(Option Int→Hp→Prop)→Prop
def PO (X:Cx)(e:Option Expr)(t:TO):Prop :=
 ∀ (pins:List (Addr×Obj)) (s:Shared) (σ:St) (H:Hp) (Q:Option Int→Hp→Prop),Inv X pins σ H s→t σ H Q →
  wpAny (model X.prog X.w) X.A (evalPart e X.env) (fun u s'=>∃ o H',Inv X pins σ H' s'∧IsPart u o∧Q o H') X.xe s
def tNoPart:TO:=fun _ H Q=>Q none H
def tPart (t:TE):TO:=fun σ H Q=>t σ H fun x H1=>∃ i,x=.int i∧Q (some i) H1
theorem cX {ns:List Int}:∀ {us:List Value},Vals (ns.map V.int) us→IntsAre us ns:=by
 induction ns with
 | nil=>intro us r;rw[List.map_nil]at r;cases r;exact .nil
 | cons n ns ih =>
  intro us r
  rw[List.map_cons]at r
  cases r with
  | cons r1 r2 =>
   obtain⟨t,e⟩:=r1
   subst e
   exact .cons n t (ih r2)
section
variable {X:Cx}{e:Expr}{te:TE}{lo hi:Option Expr}{tl th:TO}{pos p2:Pos}
theorem vA:PO X none tNoPart:=by
 intro pins s σ H Q I h
 rw[evalPart_none]
 exact wpAny_pure ⟨none,H,I,.none,h⟩
theorem vB (h:PE X e te):PO X (some e) (tPart te):=by
 intro pins s σ H Q I hw
 rw[evalPart_some]
 refine thn (h pins s σ H _ I hw) fun u s1 ⟨x,H1,I1,r1,q1⟩=>?_
 obtain⟨i,rfl,q⟩:=q1
 obtain⟨t,rfl⟩:=r1
 exact⟨some i,H1,I1,.int i t,q⟩
def SlR (X:Cx)(r:V→Option Int→Option Int→Hp→VK→Prop):Prop :=
 ∀ (pins:List (Addr×Obj)) (s:Shared) (σ:St) (H:Hp) (x:V) (v vl vu:Value) (lo hi:Option Int) (sl:Addr) (Q:VK),Inv X pins σ H s→RelV x v→s.heap.IsSliceOf sl vl vu .none→IsPart vl lo→IsPart vu hi→r x lo hi H Q →
  ∃ T id,typeLookup (.type T) "__getitem__"=pure (some (.builtin id))∧s.TypeIs v T∧wpAny (model X.prog X.w) X.A (getItem v (.ref sl)) (EP X pins σ Q) X.xe s
theorem SlR.or {r r':V→Option Int→Option Int→Hp→VK→Prop}(h:SlR X r)(h':SlR X r'):SlR X (fun x lo hi H Q=>r x lo hi H Q∨r' x lo hi H Q):=by
 intro pins s σ H x v vl vu lo hi sl Q I rx hs pl pu q
 rcases q with q | q
 ·exact h pins s σ H x v vl vu lo hi sl Q I rx hs pl pu q
 ·exact h' pins s σ H x v vl vu lo hi sl Q I rx hs pl pu q
def tSl (r:V→Option Int→Option Int→Hp→VK→Prop)(te:TE)(tl th:TO):TE:=fun σ H Q=>te σ H fun x H1=>tl σ H1 fun l H2=>th σ H2 fun u H3=>r x l u H3 Q
theorem sS {r:V→Option Int→Option Int→Hp→VK→Prop}(hr:SlR X r)(he:PE X e te)(hl:PO X lo tl)(hu:PO X hi th):PE X (.Subscript e (.Slice lo hi none p2) pos) (tSl r te tl th):=by
 intro pins s σ H Q I h
 refine Subscript_ (thn (he pins s σ H _ I h) fun v s1 ⟨x,H1,I1,r1,q1⟩=>?_)
 refine wpAny_Slice (thn (hl pins s1 σ H1 _ I1 q1) fun vl s2 ⟨l,H2,I2,pl,q2⟩=>thn (hu pins s2 σ H2 _ I2 q2) fun vu s3 ⟨u,H3,I3,pu,q3⟩=>?_)
 rw[evalPart_none]
 refine wpAny_pure ?_
 have I4:Inv X pins σ H3 { s3 with heap:=s3.heap.push { cls:=.type "slice",data:=.fields #[vl,vu,.none] } }:=I3.kept fun b ob q=>Heap.get?_push_of_some _ q
 obtain⟨T,id,hT,ht,hg⟩:=hr pins { s3 with heap:=s3.heap.push { cls:=.type "slice",data:=.fields #[vl,vu,.none] } } σ H3 x v vl vu l u s3.heap.objs.size Q I4 r1 (Heap.IsSliceOf.new ..) pl pu q3
 exact tail_any ht hT hg (by with_unfolding_all rfl)
def cutV (xs:List V)(lo hi:Option Int):List V:=(xs.drop (HT.sIx xs.length 0 lo)).take (HT.sIx xs.length xs.length hi - HT.sIx xs.length 0 lo)
theorem ic (xs:List V)(lo hi:Option Int):(cutV xs lo hi).length≤xs.length:=by
 unfold cutV
 rw[List.length_take,List.length_drop]
 omega
def rSlT (K:PySem.W.Frag):V→Option Int→Option Int→Hp→VK→Prop:=fun x lo hi H Q=>∃ a xs,x=.ref a∧SqT K H a xs ∧
 ¬ (HT.sIx xs.length 0 lo=0∧HT.sIx xs.length xs.length hi=xs.length)∧∀ p,H p=none→Q (.ref p) (upd H p (.tup (cutV xs lo hi)))
theorem xL:SlR X (rSlT X.K):=by
 intro pins s σ H x v vl vu lo hi sl Q I rx hs pl pu h
 obtain⟨a,xs,rfl,hx,hw,q⟩:=h
 cases rx
 obtain⟨its,r,ht,hz⟩:=I.tuple hx
 have hlen:its.toArray.size=xs.length:=by rw[List.size_toArray];exact r.length.symm
 refine⟨"tuple",_,PyProof.Rows.slot_tuple_getitem.lookup,ht.typeIs,?_⟩
 refine HT.fz ht hs pl pu (by rw[hlen];exact hw) ?_ (by rw[hlen];exact hz)
 rw[hlen]
 refine⟨.ref s.heap.objs.size,_,I.laid (fun b ob q=>Heap.get?_push_of_some _ q) (Nat.le_refl _) ?_,rfl,q _ (I.hok.fresh (Nat.le_refl _))⟩
 exact⟨Nat.le_trans (ic xs lo hi) hz,_,(r.drop (HT.sIx xs.length 0 lo)).take (HT.sIx xs.length xs.length hi - HT.sIx xs.length 0 lo),TupO.new _ _⟩
def rCatT (K:PySem.W.Frag):R2:=fun x y H Q=>∃ a b xs ys,x=.ref a∧y=.ref b∧SqT K H a xs∧SqT K H b ys∧xs≠[]∧xs.length+ys.length≤sizeLine ∧
 (ys=[]→Q (.ref a) H)∧(ys≠[]→∀ p,H p=none→Q (.ref p) (upd H p (.tup (xs++ys))))
theorem Vals.nil_iff {xs:List V}{us:List Value}(r:Vals xs us):us=[]↔xs=[]:=by
 cases r with
 | nil=>simp
 | cons _ _=>simp
theorem vC:OpR X (binaryOp .Add) (rCatT X.K):=by
 intro pins s σ H x y v u Q I rx ry h
 obtain⟨a,b,xs,ys,rfl,rfl,ha,hb,hx,hz,q1,q2⟩:=h
 cases rx
 cases ry
 obtain⟨its,r1,p1,_⟩:=I.tuple ha
 obtain⟨its2,r2,p2,_⟩:=I.tuple hb
 refine HT.vz p1 p2 (fun z=>hx (r1.nil_iff.mp z)) (fun z=>⟨.ref a,H,I,rfl,q1 (r2.nil_iff.mp z)⟩) (fun z=>?_) (by rw[← r1.length,← r2.length];exact hz)
 refine⟨.ref s.heap.objs.size,_,I.laid (t':=s.toks) (o:=.tup (xs++ys)) (fun b ob q=>Heap.get?_push_of_some _ q) (Nat.le_refl _) ?_,rfl,q2 (fun w=>z (r2.nil_iff.mpr w)) _ (I.hok.fresh (Nat.le_refl _))⟩
 exact⟨by rw[List.length_append];exact hz,_,r1.append r2,TupO.new _ _⟩
end
end L2
namespace L2
open PySem PySem.Spec PyProof.Rows
def ixN (n:Nat)(i:Int):Option Nat:=if 0≤i then (if i < n then some i.toNat else none) else if -(n:Int)≤i then some (i+n).toNat else none
def atI {α:Type}(xs:List α)(i:Int):Option α:=(ixN xs.length i).bind fun j=>xs[j]?
theorem o6 {n:Nat}{i:Int}{j:Nat}(h:ixN n i=some j):seqIndex? i n=some j∧j < n∧-(n:Int)≤i∧i < n:=by
 unfold ixN at h
 by_cases h0:0≤i
 ·rw[if_pos h0]at h
  by_cases h1:i < n
  ·rw[if_pos h1]at h
   have e:i.toNat=j:=Option.some.inj h
   exact⟨by rw[seqIndex_of h0 h1,e],by omega,by omega,h1⟩
  ·grind
 ·rw[if_neg h0]at h
  by_cases h1 : -(n:Int)≤i
  ·rw[if_pos h1]at h
   have e:(i+n).toNat=j:=Option.some.inj h
   exact⟨by rw[seqIndex_neg (by omega) h1,e],by omega,h1,by omega⟩
  ·grind
theorem kE {α:Type}{xs:List α}{i:Int}{v:α}(h:atI xs i=some v):∃ j,seqIndex? i xs.length=some j∧xs[j]?=some v∧j < xs.length∧-(xs.length:Int)≤i∧i < xs.length:=by
 unfold atI at h
 cases e:ixN xs.length i with
 | none=>rw[e]at h;cases h
 | some j =>
  rw[e]at h
  obtain⟨h1,h2,h3,h4⟩:=o6 e
  grind
theorem kF {α:Type}{xs:List α}{j:Nat}{v:α}(h:xs[j]?=some v):atI xs (j:Int)=some v:=by
 have hj:j < xs.length:=(List.getElem?_eq_some_iff.mp h).1
 have e:ixN xs.length (j:Int)=some j:=by
  unfold ixN
  rw[if_pos (by omega),if_pos (by omega)];simp
 unfold atI;rw[e];exact h
def PlainIx (b:Expr):Prop:=∀ o i,subscripted b false o i=operate [o,i] (getItem o i)
def IxR (X:Cx)(r:R2):Prop :=
 ∀ (value slice:Expr) (pins:List (Addr×Obj)) (s:Shared) (σ:St) (H:Hp) (x y:V) (v u:Value) (Q:VK),Inv X pins σ H s→RelV x v→RelV y u→r x y H Q →
  subscripted slice false v u=operate [v,u] (getItem v u)→wpAny (model X.prog X.w) X.A (subscriptTail value slice v u) (EP X pins σ Q) X.xe s
def MtR (X:Cx)(id:String)(r:V→List V→Hp→VK→Prop):Prop :=
 ∀ (pins:List (Addr×Obj)) (s:Shared) (σ:St) (H:Hp) (x:V) (xs:List V) (v:Value) (us:List Value) (Q:VK),Inv X pins σ H s→RelV x v→Vals xs us→r x xs H Q →
  wpAny (model X.prog X.w) X.A (call (.builtin id) (v::us)) (EP X pins σ Q) X.xe s
section
variable {X:Cx}{a b:Expr}{ta tb:TE}{pos:Pos}
theorem IxR.or {r r':R2}(h:IxR X r)(h':IxR X r'):IxR X (fun x y H Q=>r x y H Q∨r' x y H Q):=by
 intro value slice pins s σ H x y v u Q I rx ry q hs
 rcases q with q | q
 ·exact h value slice pins s σ H x y v u Q I rx ry q hs
 ·exact h' value slice pins s σ H x y v u Q I rx ry q hs
theorem MtR.or {id:String}{r r':V→List V→Hp→VK→Prop}(h:MtR X id r)(h':MtR X id r'):MtR X id (fun x xs H Q=>r x xs H Q∨r' x xs H Q):=by
 intro pins s σ H x xs v us Q I rx rs q
 rcases q with q | q
 ·exact h pins s σ H x xs v us Q I rx rs q
 ·exact h' pins s σ H x xs v us Q I rx rs q
theorem sT {r:R2}(hr:IxR X r)(ha:PE X a ta)(hb:PE X b tb)(hs:PlainIx b):PE X (.Subscript a b pos) (tOp r ta tb):=by
 intro pins s σ H Q I h
 exact Subscript_ (binT ha hb I h fun v u s2 x y H2 I2 rx ry q=>hr a b pins s2 σ H2 x y v u Q I2 rx ry q (hs _ _))
def rIxL (K:PySem.W.Frag):R2:=fun x y H Q=>∃ p xs i v,x=.ref p∧y=.int i∧SqL K H p xs∧atI xs i=some v∧Q v H
def rIxT (K:PySem.W.Frag):R2:=fun x y H Q=>∃ p xs i v,x=.ref p∧y=.int i∧SqT K H p xs∧atI xs i=some v∧Q v H
def rIxS:R2:=fun x y H Q=>∃ z i c,x=.str z∧y=.int i∧z.length≤sizeLine∧atI z.cps.toList i=some c∧Q (.str ⟨#[c]⟩) H
theorem kG:IxR X (rIxL X.K):=by
 intro value slice pins s σ H x y v u Q I rx ry h hs
 obtain⟨p,xs,i,z,rfl,rfl,hq,he,q⟩:=h
 cases rx
 obtain⟨t,rfl⟩:=ry
 obtain⟨its,r,pl,hz⟩:=I.list hq
 obtain⟨j,h1,h2,h3,h4,h5⟩:=kE he
 obtain⟨w,ew,rw'⟩:=r.get h2
 have hl:=r.length
 have hn:=line63
 have fin:EP X pins σ Q w s:=⟨z,H,I,rw',q⟩
 by_cases h0:0≤i
 ·have hj:i.toNat=j:=by
   rw[seqIndex_of h0 h5]at h1
   exact Option.some.inj h1
  exact item_listR pl.isList h0 (by omega) (by rw[hj];simpa using ew) fin hs
 ·have hj:(i+(its.toArray.size:Int)).toNat=j:=by
   rw[seqIndex_neg (by omega) h4]at h1
   rw[List.size_toArray,← hl]
   exact Option.some.inj h1
  exact subscriptTail_builtinR (x:=w) pl.isList.typeIs slot_list_getitem.lookup
   (wpAny_getItem_list_neg (Q:=fun r s'=>r=w∧EP X pins σ Q r s') pl.isList (by omega) (by rw[List.size_toArray]<;>omega) (by omega) (by rw[hj];simpa using ew) ⟨rfl,fin⟩) hs
theorem xM:IxR X (rIxT X.K):=by
 intro value slice pins s σ H x y v u Q I rx ry h hs
 obtain⟨p,xs,i,z,rfl,rfl,hq,he,q⟩:=h
 cases rx
 obtain⟨t,rfl⟩:=ry
 obtain⟨its,r,pl,hz⟩:=I.tuple hq
 obtain⟨j,h1,h2,h3,h4,h5⟩:=kE he
 obtain⟨w,ew,rw'⟩:=r.get h2
 have hl:=r.length
 have hn:=line63
 have fin:EP X pins σ Q w s:=⟨z,H,I,rw',q⟩
 exact subscriptTail_builtinR (x:=w) pl.typeIs slot_tuple_getitem.lookup
  (getItem_tuple (j:=j) (Q:=fun r s'=>r=w∧EP X pins σ Q r s') pl (by omega) (by omega) (by rw[List.size_toArray,← hl];exact h1) (by simpa using ew) ⟨rfl,fin⟩) hs
theorem xN:IxR X rIxS:=by
 intro value slice pins s σ H x y v u Q I rx ry h hs
 obtain⟨z,i,c,rfl,rfl,hz,he,q⟩:=h
 obtain⟨t,rfl⟩:=rx
 obtain⟨t',rfl⟩:=ry
 obtain⟨j,h1,h2,h3,h4,h5⟩:=kE he
 have hl:z.cps.toList.length=z.length:=by simp[Str.length]
 rw[hl]at h1 h4 h5
 have hn:=line63
 exact tail_any (typeIs_str s z t) slot_str_getitem.lookup (getItem_str (c:=c) (by
  have e1:decide (i < -(2^63:Int))=false:=decide_eq_false (by omega)
  have e2:decide (i≥2^63)=false:=decide_eq_false (by omega)
  rw[e1,e2,Bool.or_false]) (by rw[h1];simpa using h2) ⟨.str ⟨#[c]⟩,H,I.tok _,⟨_,rfl⟩,q⟩) hs
def rIx (K:PySem.W.Frag):R2:=fun x y H Q=>rIxL K x y H Q∨rIxT K x y H Q∨rIxS x y H Q
theorem xO:IxR X (rIx X.K):=kG.or (xM.or xN)
theorem nC (its:List Value)(n j:Nat)(u:Value):Obj.mapSeq (·.setIfInBounds j u) { cls:=.type "list",data:=.seq its.toArray n }={ cls:=.type "list",data:=.seq (its.set j u).toArray n }:=by
 simp[Obj.mapSeq]
theorem Inv.lst {pins:List (Addr×Obj)}{σ:St}{H:Hp}{s:Shared}{p:Addr}{xs:List V}(I:Inv X pins σ H s)(h:H p=some (.lst xs)) :
  ∃ (its:List Value) (n:Nat),Vals xs its∧s.heap.get? p=some { cls:=.type "list",data:=.seq its.toArray n }∧xs.length≤sizeLine:=by
 obtain⟨z,its,n,r,e⟩:=I.hok p _ h
 exact⟨its,n,r,e,z⟩
theorem Inv.lstUpd {pins:List (Addr×Obj)}{σ:St}{H:Hp}{s:Shared}{p:Addr}{xs ys:List V}{its its':List Value}{n n':Nat}{f:Obj→Obj}(I:Inv X pins σ H s)(h:H p=some (.lst xs))
  (ho:s.heap.get? p=some { cls:=.type "list",data:=.seq its.toArray n }) (hf:f { cls:=.type "list",data:=.seq its.toArray n }={ cls:=.type "list",data:=.seq its'.toArray n' }) (r:Vals ys its') (hz:ys.length≤sizeLine) (t:Nat) :
  Inv X pins σ (upd H p (.lst ys)) { s with heap:=s.heap.update p f,toks:=t }:=by
 have e:(s.heap.update p f).get? p=some { cls:=.type "list",data:=.seq its'.toArray n' }:=by
  rw[Heap.get?_update_self f ho (by rw[hf]<;>rfl),hf]
 refine I.write (x:=p) (e:=p) (by rw[h];trivial) (.inl rfl) (fun b u hb q=>(Heap.get?_update_other _ _ (Ne.symm hb)).trans q) ⟨_,e⟩ ?_
 exact⟨hz,its',n',r,e⟩
def rSetL:V→V→V→Hp→(Hp→Prop)→Prop:=fun o i v H Q=>∃ p xs k j,o=.ref p∧i=.int k∧H p=some (.lst xs)∧ixN xs.length k=some j∧Q (upd H p (.lst (xs.set j v)))
theorem sU:PSet X rSetL:=by
 intro pins s σ H o i v ov iv u Q I ro ri rv h
 obtain⟨p,xs,k,j,rfl,rfl,hp,hj,q⟩:=h
 cases ro
 obtain⟨t,rfl⟩:=ri
 obtain⟨its,n,r,ho,hz⟩:=I.lst hp
 obtain⟨h1,h2,h3,h4⟩:=o6 hj
 have hl:=r.length
 have hn:=line63
 have I':Inv X pins σ (upd H p (.lst (xs.set j v))) { s with heap:=s.heap.update p (Obj.mapSeq (·.setIfInBounds j u)) } :=
  I.lstUpd hp ho (nC its n j u) (r.set rv j) (by rw[List.length_set];exact hz) s.toks
 by_cases h0:0≤k
 ·have hk:k.toNat=j:=by
   rw[seqIndex_of h0 h4]at h1
   exact Option.some.inj h1
  exact PySem.W.ki_setAt ho h0 (by omega) (by rw[List.size_toArray,← hl];exact h4) (by rw[hk];exact⟨_,I',q⟩)
 ·have hk:(k+(its.toArray.size:Int)).toNat=j:=by
   rw[seqIndex_neg (by omega) h3]at h1
   rw[List.size_toArray,← hl]
   exact Option.some.inj h1
  exact PySem.W.ki_setBack ho (by omega) (by rw[List.size_toArray,← hl];exact h3) (by omega) (by rw[hk];exact⟨_,I',q⟩)
theorem kH (lo hi:Option Int)(n:Nat):(sliceBounds lo hi none n).1=((HT.sIx n 0 lo:Nat):Int)∧(sliceBounds lo hi none n).2.1=((HT.sIx n n hi:Nat):Int)∧(sliceBounds lo hi none n).2.2=1:=by
 refine⟨?_,?_,rfl⟩
 ·cases lo with
  | none=>simp[sliceBounds,HT.sIx]
  | some i =>
   simp only[sliceBounds,HT.sIx,Option.getD_none,show (1:Int) > 0 by decide,if_true]
   by_cases h:i < 0
   ·simp only[h,if_true]<;>omega
   ·simp only[h,if_false]<;>omega
 ·cases hi with
  | none=>simp[sliceBounds,HT.sIx]
  | some i =>
   simp only[sliceBounds,HT.sIx,Option.getD_none,show (1:Int) > 0 by decide,if_true]
   by_cases h:i < 0
   ·simp only[h,if_true]<;>omega
   ·simp only[h,if_false]<;>omega
theorem jC (its:List Value)(lo hi:Option Int):slicePick its.toArray lo hi none=((its.drop (HT.sIx its.length 0 lo)).take (HT.sIx its.length its.length hi - HT.sIx its.length 0 lo)).toArray:=by
 obtain⟨h1,h2,h3⟩:=kH lo hi its.toArray.size
 unfold slicePick
 rw[h1,h2,h3]
 simp only[sliceRange_one,pick_run,List.size_toArray]<;>rfl
def rSlL (K:PySem.W.Frag):V→Option Int→Option Int→Hp→VK→Prop:=fun x lo hi H Q=>∃ a xs,x=.ref a∧SqL K H a xs∧∀ p,H p=none→Q (.ref p) (upd H p (.lst (cutV xs lo hi)))
theorem vD:SlR X (rSlL X.K):=by
 intro pins s σ H x v vl vu lo hi sl Q I rx hs pl pu h
 obtain⟨a,xs,rfl,hx,q⟩:=h
 cases rx
 obtain⟨its,r,ht,hz⟩:=I.list hx
 have hlen:=r.length
 refine⟨"list",_,slot_list_getitem.lookup,ht.isList.typeIs,?_⟩
 refine wpAny_getItem_list_slice ht.isList hs pl pu .none (by simp) ?_ (by rw[List.size_toArray]<;>omega)
 rw[jC,← hlen]
 refine⟨.ref s.heap.objs.size,_,I.laid (fun b ob q=>Heap.get?_push_of_some _ q) (Nat.le_refl _) ?_,rfl,q _ (I.hok.fresh (Nat.le_refl _))⟩
 exact⟨Nat.le_trans (ic xs lo hi) hz,_,0,(r.drop (HT.sIx xs.length 0 lo)).take (HT.sIx xs.length xs.length hi - HT.sIx xs.length 0 lo),Heap.get?_push_size _ rfl⟩
def flatV:V→Bool
 | .non=>true
 | .bl _=>true
 | .int _=>true
 | .str _=>true
 | _=>false
def eqV:V→V→Bool
 | .non,.non=>true
 | .bl a,.bl b=>a==b
 | .bl a,.int b=>(if a then 1 else 0)==b
 | .int a,.bl b=>a==(if b then 1 else 0)
 | .int a,.int b=>a==b
 | .str a,.str b=>a==b
 | _,_=>false
theorem xP {A:Around}{s:Shared}{y x:V}{u v:Value}(ry:RelV y u)(rx:RelV x v)(fy:flatV y=true)(fx:flatV x=true):SeqAt.EqAt A s u v (eqV y x):=by
 cases y with
 | non =>
  cases ry
  cases x with
  | non=>cases rx;exact SeqAt.EqAt.same _
  | bl b=>cases rx;exact SeqAt.EqAt.none_bool b
  | int b=>obtain⟨t,rfl⟩:=rx;exact SeqAt.EqAt.none_int b t
  | str b=>obtain⟨t,rfl⟩:=rx;exact SeqAt.EqAt.none_str b t
  | _=>exact absurd (show false=true from fx) Bool.false_ne_true
 | bl a =>
  cases ry
  cases x with
  | non=>cases rx;exact SeqAt.EqAt.bool_none a
  | bl b=>cases rx;exact SeqAt.EqAt.bool_bool a b
  | int b=>obtain⟨t,rfl⟩:=rx;exact SeqAt.EqAt.bool_int a b t
  | str b=>obtain⟨t,rfl⟩:=rx;exact SeqAt.EqAt.bool_str a b t
  | _=>exact absurd (show false=true from fx) Bool.false_ne_true
 | int a =>
  obtain⟨t',rfl⟩:=ry
  cases x with
  | non=>cases rx;exact SeqAt.EqAt.int_none a t'
  | bl b=>cases rx;exact SeqAt.EqAt.int_bool a t' b
  | int b=>obtain⟨t,rfl⟩:=rx;exact SeqAt.EqAt.int_int a t' b t
  | str b=>obtain⟨t,rfl⟩:=rx;exact SeqAt.EqAt.int_str a t' b t
  | _=>exact absurd (show false=true from fx) Bool.false_ne_true
 | str a =>
  obtain⟨t',rfl⟩:=ry
  cases x with
  | non=>cases rx;exact SeqAt.EqAt.str_none a t'
  | bl b=>cases rx;exact SeqAt.EqAt.str_bool a t' b
  | int b=>obtain⟨t,rfl⟩:=rx;exact SeqAt.EqAt.str_int a t' b t
  | str b=>obtain⟨t,rfl⟩:=rx;exact SeqAt.EqAt.str_str a t' b t
  | _=>exact absurd (show false=true from fx) Bool.false_ne_true
 | _=>exact absurd (show false=true from fy) Bool.false_ne_true
theorem kI:CallR X (.builtin "len") (fun xs H Q=>∃ p ys,xs=[.ref p]∧(SqL X.K H p ys∨SqT X.K H p ys)∧Q (.int ys.length) H):=by
 intro pins s σ H xs us Q I r h
 obtain⟨p,ys,rfl,hq,q⟩:=h
 obtain⟨u,rfl,rx⟩:=vals1 r
 cases rx
 have hn:=line63
 rcases hq with hq | hq
 ·obtain⟨its,r',pl,hz⟩:=I.list hq
  have hlen:=r'.length
  exact Calls.call_len_list pl.isList (by simp only[List.size_toArray]<;>omega) ⟨.int ys.length,H,I.tok _,⟨s.toks+1,by rw[List.size_toArray,hlen]⟩,q⟩
 ·obtain⟨its,r',pl,hz⟩:=I.tuple hq
  have hlen:=r'.length
  exact len_tuple pl (by simp only[List.size_toArray]<;>omega) ⟨.int ys.length,H,I.tok _,⟨s.toks+1,by rw[List.size_toArray,hlen]⟩,q⟩
theorem CallR.or {f:Value}{r r':List V→Hp→VK→Prop}(h:CallR X f r)(h':CallR X f r'):CallR X f (fun xs H Q=>r xs H Q∨r' xs H Q):=by
 intro pins s σ H xs us Q I rs q
 rcases q with q | q
 ·exact h pins s σ H xs us Q I rs q
 ·exact h' pins s σ H xs us Q I rs q
theorem kJ:CallR X (.type "list") (fun xs H Q=>∃ p ys,xs=[.ref p]∧(SqL X.K H p ys∨SqT X.K H p ys)∧∀ l,H l=none→Q (.ref l) (upd H l (.lst ys))):=by
 intro pins s σ H xs us Q I r h
 obtain⟨p,ys,rfl,hq,q⟩:=h
 obtain⟨u,rfl,rx⟩:=vals1 r
 cases rx
 have fin:∀ (its:List Value),Vals ys its→ys.length≤sizeLine→∀ (h':Heap) (c':Nat),(∀ b o',s.heap.get? b=some o'→h'.get? b=some o') →
   h'.get? s.heap.objs.size=some { cls:=.type "list",dict:=none,data:=.seq its.toArray c',slots:=#[] }→EP X pins σ Q (.ref s.heap.objs.size) { s with heap:=h' }:=fun its r' hz h' c' kp e =>
  ⟨.ref s.heap.objs.size,_,I.laid (t':=s.toks) kp (Nat.le_refl _) (show ObjOk X.prog X.w _ h' _ (.lst ys) from ⟨hz,its,c',r',e⟩),rfl,q _ (I.hok.fresh (Nat.le_refl _))⟩
 rcases hq with hq | hq
 ·obtain⟨its,r',pl,hz⟩:=I.list hq
  have hlen:=r'.length
  obtain⟨o,ho,hc,n,hd⟩:=pl.isList
  exact call_list_seq p (.inl rfl) ho hc hd (fun h' c' kp e=>fin its r' hz h' c' kp e) (by simp only[List.size_toArray]<;>omega)
 ·obtain⟨its,r',pl,hz⟩:=I.tuple hq
  have hlen:=r'.length
  obtain⟨o,ho,hc,n,hd⟩:=pl
  exact call_list_seq p (.inr rfl) ho hc hd (fun h' c' kp e=>fin its r' hz h' c' kp e) (by simp only[List.size_toArray]<;>omega)
theorem jD:CallR X (.type "tuple") (fun xs H Q=>∃ p ys,xs=[.ref p]∧((SqL X.K H p ys∧∀ l,H l=none→Q (.ref l) (upd H l (.tup ys)))∨(SqT X.K H p ys∧Q (.ref p) H))):=by
 intro pins s σ H xs us Q I r h
 obtain⟨p,ys,rfl,h⟩:=h
 obtain⟨u,rfl,rx⟩:=vals1 r
 cases rx
 rcases h with ⟨hq,q⟩ | ⟨hq,q⟩
 ·obtain⟨its,r',pl,hz⟩:=I.list hq
  have hlen:=r'.length
  refine call_tuple_list pl.isList (fun h' kp=>?_) (by simp only[List.size_toArray]<;>omega)
  have I1:=I.kept (t':=s.toks) kp
  have I2:Inv X pins σ (upd H h'.objs.size (.tup ys)) { s with heap:=h'.push { cls:=.type "tuple",data:=.seq its.toArray } } :=
   I1.laid (t':=s.toks) (fun b o e=>Heap.get?_push_of_some _ e) (Nat.le_refl _) (show ObjOk X.prog X.w _ _ _ (.tup ys) from ⟨hz,its,r',TupO.new _ _⟩)
  exact⟨.ref h'.objs.size,_,I2,rfl,q _ (I1.hok.fresh (Nat.le_refl _))⟩
 ·obtain⟨its,r',pl,hz⟩:=I.tuple hq
  exact call_tuple_same pl ⟨.ref p,H,I,rfl,q⟩
def tyV (K:PySem.W.Frag)(T:String)(x:V)(H:Hp):Prop:=match x with
 | .str _=>T="str"
 | .int _=>T="int"
 | .ref p=>(T="list" ∧ ∃ xs,SqL K H p xs)∨(T="tuple" ∧ ∃ o,K.lookup p=some o∧o.cls=.type "tuple" ∧ o.dict=none) ∨
   (T="dict" ∧ ((∃ kvs,H p=some (.dK kvs))∨∃ kvs,H p=some (.dT kvs)))∨(T="set" ∧ ∃ S n,H p=some (.set S n))
 | _=>False
theorem xQ {pins:List (Addr×Obj)}{σ:St}{H:Hp}{s:Shared}{T:String}{x:V}{v:Value}(I:Inv X pins σ H s)(r:RelV x v)(ty:tyV X.K T x H) :
  s.TypeIs v T∧∀ a,v=.ref a→∃ ob,s.heap.get? a=some ob∧ob.dict=none:=by
 cases x with
 | str z =>
  obtain⟨t,rfl⟩:=r
  cases (show T="str" from ty)
  exact⟨typeIs_str s z t,fun _ e=>nomatch e⟩
 | int i =>
  obtain⟨t,rfl⟩:=r
  cases (show T="int" from ty)
  exact⟨typeIs_int s i t,fun _ e=>nomatch e⟩
 | ref p =>
  cases r
  rcases ty with ⟨rfl,xs,hq⟩ | ⟨rfl,o,hk,hc,hd⟩ | ⟨rfl,hk⟩ | ⟨rfl,S,n,hk⟩
  ·obtain⟨its,_,pl,_⟩:=I.list hq
   refine⟨pl.isList.typeIs,fun a e=>?_⟩
   cases e
   obtain⟨o,n,e,c,hd,_⟩:=pl
   exact⟨o,e,hd⟩
  ·refine⟨⟨o,I.kIn p o hk,hc⟩,fun a e=>?_⟩
   cases e
   exact⟨o,I.kIn _ o hk,hd⟩
  ·have z:∃ o,s.heap.get? p=some o∧o.ExactDict:=by
    rcases hk with ⟨kvs,hk⟩ | ⟨kvs,hk⟩
    ·obtain⟨_,_,_,_,o,_,_,e,ex,_⟩:=I.hok p _ hk
     exact⟨o,e,ex⟩
    ·obtain⟨_,_,_,_,o,_,_,e,ex,_⟩:=I.hok p _ hk
     exact⟨o,e,ex⟩
   obtain⟨o,e,ex⟩:=z
   refine⟨⟨o,e,ex.1⟩,fun a e2=>?_⟩
   cases e2
   exact⟨o,e,ex.2.1⟩
  ·obtain⟨o,_,_,_,e,ex,_⟩:=I.hok p _ hk
   refine⟨⟨o,e,ex.1⟩,fun a e2=>?_⟩
   cases e2
   exact⟨o,e,ex.2.1⟩
 | _=>exact False.elim ty
def tBM (K:PySem.W.Frag)(T:String)(r:V→List V→Hp→VK→Prop)(to:TE)(t:TA):TE:=fun σ H Q=>to σ H fun x H1=>tyV K T x H1∧t σ H1 fun xs H2=>r x xs H2 Q
variable {o e:Expr}{es:List Expr}{to:TE}{t:TA}{name:Str}{apos cpos:Pos}{T id:String}{r:V→List V→Hp→VK→Prop}
theorem lN (pa:PlainAttrs T)(slot:Slot T name id)(hty:typeOf (.builtin id)=pure (.type "method_descriptor"))(hm:MtR X id r)(ho:PE X o to)(ha:PA X (e::es) t)
  (hbase:attributeBase o name X.env (eval o X.env)=eval o X.env:=by rfl)
  (hfew:((backTo cpos (starEach (e::es) X.env)).all (fun x=>!x.1)&&(backToKw cpos (keywordEach [] X.env)).all (fun x=>x.1.isSome)
   && decide ((e::es).length+([]:List Keyword).length+(if ([]:List Keyword).isEmpty then 0 else 1) < 30))=true:=by rfl)
  (hline:(apos.endLine==cpos.line)=true:=by rfl) (hs:starEach (e::es) X.env=(false,eval e X.env)::starEach es X.env:=by rfl) (hplain:(backTo cpos (starEach es X.env)).any (·.1)=false:=by rfl) :
  PE X (.Call (.Attribute o name apos) (e::es) [] cpos) (tBM X.K T r to t):=by
 intro pins s σ H Q I h
 refine wpAny_Call_method_late hbase hfew hline rfl (thn (ho pins s σ H _ I h) fun v s1 ⟨x,H1,I1,r1,ty,q1⟩=>?_)
 obtain⟨h1,h2⟩:=xQ I1 r1 ty
 refine⟨T,id,pa,slot,hty,h1,h2,?_⟩
 have hA:=ha cpos pins s1 σ H1 _ I1 q1
 rw[hs]at hA ⊢
 refine Calls.callWith_builtin (by show (false||(backTo cpos (starEach es X.env)).any (·.1))=false;rw[hplain]<;>rfl) (Calls.evalArgs_plain ?_)
 exact thn hA fun us s2 ⟨vs,H2,I2,r2,q2⟩=>hm pins s2 σ H2 x vs v us Q I2 r1 r2 q2
end
end L2
namespace L2
open PySem PySem.Spec PyProof.Rows
def MtM (X:Cx)(id:String)(r:V→List V→Hp→VK→Prop):Prop :=
 ∀ (pins:List (Addr×Obj)) (s:Shared) (σ:St) (H:Hp) (x:V) (xs:List V) (v:Value) (us:List Value) (Q:VK),Inv X pins σ H s→RelV x v→Vals xs us→r x xs H Q →
  wpAny (model X.prog X.w) X.A (call (.builtin id) (v::us)) (EP X pins σ Q) X.xe s
theorem Vals.one:∀ {x:V} {us:List Value},Vals [x] us→∃ u,us=[u]∧RelV x u
 | _,_,.cons r .nil=>⟨_,rfl,r⟩
theorem Vals.rep {xs:List V}{us:List Value}(h:Vals xs us):∀ k:Nat,Vals (List.replicate k xs).flatten (List.replicate k us).flatten
 | 0=>.nil
 | k+1=>by
  rw[List.replicate_succ,List.replicate_succ,List.flatten_cons,List.flatten_cons]
  exact Vals.append h (Vals.rep h k)
theorem gp (its:List Value):∀ (k:Nat) (acc:List Value),
  List.foldl (fun x1 x2=>x1++x2) acc.toArray (List.replicate k its.toArray)=(acc++(List.replicate k its).flatten).toArray
 | 0,acc=>by simp
 | k+1,acc=>by
  have e:acc.toArray++its.toArray=(acc++its).toArray:=by simp
  have e2:(acc++its)++(List.replicate k its).flatten=acc++(List.replicate (k+1) its).flatten:=by
   rw[List.replicate_succ,List.flatten_cons,List.append_assoc]
  rw[← e2,← gp its k (acc++its),← e,List.replicate_succ,List.foldl_cons]
section
variable {X:Cx}{pins:List (Addr×Obj)}{σ:St}{H:Hp}{s:Shared}{l b:Addr}{xs ys zs:List V}
theorem Inv.lset {its its':List Value}{n:Nat}{f:Array Value→Array Value}{t':Nat}(I:Inv X pins σ H s)(hH:H l=some (.lst xs))
  (e:s.heap.get? l=some { cls:=.type "list",data:=.seq its.toArray n }) (hf:f its.toArray=its'.toArray) (hv:Vals ys its') (hz:ys.length≤sizeLine) :
  Inv X pins σ (upd H l (.lst ys)) { s with heap:=s.heap.update l (Obj.mapSeq f),toks:=t' }:=by
 have q:=PySem.IsL.update e f
 rw[hf]at q
 refine I.write (by rw[hH];exact trivial) (.inl rfl) (fun b' u hb hu=>(Heap.get?_update_other s.heap (Obj.mapSeq f) (Ne.symm hb)).trans hu) ⟨_,q⟩ ?_
 exact⟨hz,its',_,hv,q⟩
theorem Inv.lnew {its:List Value}{t':Nat}(I:Inv X pins σ H s)(hv:Vals ys its)(hz:ys.length≤sizeLine) :
  Inv X pins σ (upd H s.heap.objs.size (.lst ys)) { s with heap:=s.heap.push { cls:=.type "list",data:=.seq its.toArray },toks:=t' } :=
 I.laid (fun _ _ q=>Heap.get?_push_of_some _ q) (Nat.le_refl _) ⟨hz,its,0,hv,Heap.get?_push_size _ rfl⟩
theorem Inv.fresh (I:Inv X pins σ H s):H s.heap.objs.size=none:=I.hok.fresh (Nat.le_refl _)
theorem Inv.lstM (I:Inv X pins σ H s)(hH:H l=some (.lst xs)):xs.length≤sizeLine∧∃ (its:List Value) (n:Nat),Vals xs its∧xs.length=its.length∧s.heap.get? l=some { cls:=.type "list",data:=.seq its.toArray n }:=by
 obtain⟨z,its,n,r,e⟩:=I.hok l _ hH
 exact⟨z,its,n,r,r.length,e⟩
theorem notLongL {n:Nat}(h:n≤sizeLine):Builtin.List.listTooLong n=false:=by
 unfold Builtin.List.listTooLong
 grind
end
section
variable {X:Cx}
def rAppend:V→List V→Hp→VK→Prop:=fun x vs H Q=>∃ l xs y,x=.ref l∧vs=[y]∧H l=some (.lst xs)∧xs.length < sizeLine∧Q .non (upd H l (.lst (xs++[y])))
theorem gq:MtM X "list.append" rAppend:=by
 intro pins s σ H x vs v us Q I rx rv h
 obtain⟨l,xs,y,rfl,rfl,hH,hz,q⟩:=h
 cases rx
 obtain⟨u,rfl,ru⟩:=rv.one
 obtain⟨z,its,n,r,hl,e⟩:=I.lstM hH
 refine call_meets F.slot_list_append ⟨_,e,rfl⟩ F.entry_list_append (F.args_list_append_2 _ _) (PySem.list_append l its.toArray n u (by grind)) ⟨e,?_⟩
 refine⟨.non,_,I.lset hH e (by simp) (r.append (.cons ru .nil)) ?_,rfl,q⟩
 grind
theorem o7 {α:Type}(xs:List α)(k:Nat):(List.replicate k xs).flatten.length=k*xs.length:=by simp_all
end
section
variable {prog:Program}{w:World}{A:Around}{E:Value→Shared→Prop}{s:Shared}
set_option maxRecDepth 100000 in
end
section
variable {X:Cx}
end
end L2
namespace Att
open PySem PySem.W PySem.Calls PyProof.Rows
theorem iq {P:Params}{h:Heap}:∀ (ns:List Int) (vs:List Value),WellAll P h vs (ns.map WData.int)→IntsAre vs ns:=by
 intro ns
 induction ns with
 | nil =>
  intro vs w
  rw[List.map_nil]at w
  cases w
  exact .nil
 | cons n ns ih =>
  intro vs w
  rw[List.map_cons]at w
  cases w with
  | cons a b =>
   cases a
   exact .cons _ _ (ih _ b)
theorem qA {l:OpenLaw}{n:Nat}(hn:l.most=some n){P:Params}{h:Heap}{args:List WData}{vals:List Value}
  (hpre:l.row.toRowW.claim.pre args=true) (hwl:WellAll P h vals args) :
  ∃ a vs ns,vals=[Value.ref a]∧args=[WData.list (ns.map WData.int)]∧h.get? a=some { cls:=.type "list",data:=.seq vs.toArray }∧IntsAre vs ns∧ns.length≤n:=by
 have hsh:=(pre_splitW hpre).1
 have hc:l.pre.holds [] { args:=args }=true:=(pre_splitW hpre).2
 obtain⟨d,r,rfl,h1,h2⟩:=hasAllW_cons hsh
 obtain rfl:=hasAllW_nil h2
 obtain⟨xs,rfl,h3⟩:=hasW_list h1
 obtain⟨ns,rfl⟩:=items_int h3
 have hlen:ns.length≤n:=by
  unfold OpenLaw.pre at hc
  have h4:(WTm.not (.lt (.lit (.int (n:Int))) (.len (.arg 0)))).holds [] { args:=[.list (ns.map .int)] }=true:=by
   have h4:=(holds_andW hc).1
   rw[hn]at h4
   exact h4
  have h5:=condW_of h4 (w_not (w_lt w_lit (w_len_list (w_arg rfl))))
  rw[List.length_map]at h5
  refine Nat.le_of_not_lt fun q=>?_
  have q':(n:Int) < ((ns.length:Nat):Int):=by omega
  first
   | (rw[decide_eq_true q']at h5;exact absurd h5 (by decide))
   | (simp at h5;omega)
 cases hwl with
 | cons w1 w2 =>
  cases w2
  cases w1 with
  | list ho hall=>exact⟨_,_,ns,rfl,rfl,ho,iq ns _ hall,hlen⟩
theorem qB (l:OpenLaw)(args:List WData):l.row.toRowW.claim.post args (.bool true) args=true :=
 postW_of
  (show WShape.has [] (.bool true) .bool=true by first | rfl | decide | simp[WShape.has,WShape.arms,WShape.armsAll])
  (show (WTm.eq .res (.lit (.bool true))).value [] { args:=args,res:=some (.bool true),after:=args }=some (.bool (true==true)) from w_eq_bool (w_res rfl) w_lit) rfl
theorem attach_call {l:OpenLaw}{n:Nat}{q:Program}{loose:List Str}{XP:(Str→Option Value)→Heap→Prop}{YP:World→Heap→Prop}{d:DefRec}
  (hn:l.most=some n) (hdf:d.params.defaults=[])
  (call:∀ (w:World) (s₀ s₁:Shared) (mg mb:Str→Option Value) (fa:Addr) (o:Obj) (pm cd doc:Value) (a:Addr) (vs:List Value) (ns:List Int),
   Ground q loose [] XP w s₀ mg mb s₁.heap→YP w s₁.heap →
   s₁.heap.get? fa=some o→o.data=.func (docDef d.name d.params d.body d.scope pm cd doc)→s₁.heap.CodeRec cd d.name→mg d.name=some (.ref fa) →
   s₁.heap.get? a=some { cls:=.type "list",data:=.seq vs.toArray }→IntsAre vs ns→ns.length≤n→s₁.gens = #[] →
   codeAny (model l.prog w) callerA (.call (.ref fa) ⟨[.ref a],[]⟩) (fun r s'=>r=.ok (.ret (.bool true))∧OldK s₁.heap s'.heap∧s'.os=s₁.os∧AllBare s'.gens) s₁) :
  WalkO q loose XP YP l.row.toRowW d [] (fun f vs=>PySem.call f vs):=by
 intro w s₀ s₁ mg mb G Y fa o pm cd doc dV kV ho hd hcd hD hmg hg args vals as hpre hlay hrd hwl hlo
 obtain rfl:dV=.none:=Dflts.none hD hdf
 obtain rfl:kV=.none:=Dflts.noKw hD
 obtain⟨a,vs,ns,rfl,rfl,hobj,hints,hlen⟩:=qA hn hpre hwl
 refine enter_call (codeAny_mono (call w s₀ s₁ mg mb fa o pm cd doc a vs ns G Y ho (fd_plain hd) hcd hmg hobj hints hlen hg) fun r s' hq=>?_)
 obtain⟨rfl,h2,h3,h4⟩:=hq
 exact⟨.inl ⟨.bool true,.bool true,[],rfl,fun _=>rfl,.bool true,qB l _,fun _=>⟨List.Pairwise.nil,fun _ hm=>(nomatch hm)⟩⟩,h2,h3,h4⟩
section
variable {prog:Program}{w:World}{A:Around}{E:Value→Shared→Prop}{s:Shared}{K:Frag}
theorem yF {x C:Addr}{ox:Obj}{es:List DictEntry}{n:Nat}{name:Str}{expr:Bool}{v:Value}{Q:Value→Shared→Prop}
  (X:K.In s.heap) (I:PySem.W.InstAt s.heap x ox C (some (dictOf es n))) (hg:plainGet K C name=true) (hh:hasDictIn K C=true) (ha:findIn K (.ref C) name=some none)
  (hl:getL name es=some (some v)) (hv:handedIn v=true) (h:Q v { s with toks:=s.toks+1 }):wpAny (model prog w) A (getAttr (.ref x) name expr) Q E s :=
 get_value X I (plainGet_of hg).1 (findObj_own hh ha rfl hl) hv h
end
end Att
namespace L2
open PySem PySem.Spec PyProof.Rows
theorem aT:∀ {vs:List Value} {ns:List Int},IntsAre vs ns→Vals (ns.map V.int) vs
 | _,_,.nil=>.nil
 | _,_,.cons n t h=>.cons ⟨t,rfl⟩ (aT h)
def Only (H:Hp):Prop:=∀ b,H b=none∨∃ o xs,H b=some (.frz o (.lst xs))
theorem sV {P:Program}{w:World}{K:PySem.W.Frag}{mg mb:Str→Option Value}{CX:CXT}{k:Nat}{fa a:Addr}{fd:FuncData}{x:Str}{sp:Sp}{s₁:Shared}{vs:List Value}{ns:List Int}
  (KX:K.In s₁.heap) (hns:s₁.heap.Ns mainGlobals mg) (hb:s₁.heap.Ns builtinsNs mb) (hbb:∀ x:Str,x ≠ "__name__" → mb x=bootBuiltins x) (hlim:s₁.heap.NoLimit) (hg:s₁.gens = #[])
  (ha:s₁.heap.get? a=some { cls:=.type "list",data:=.seq vs.toArray }) (hi:IntsAre vs ns) (hl:ns.length≤sizeLine) (hr:Room k callerA)
  (F:∀ base:Heap,K.In base→base.Ns mainGlobals mg→FnOk P w K mg base CX k fa fd [x] sp) (hbind:∀ (s:Shared) (u:Value),BindsTo s fd ⟨[u],[]⟩ [(x,u)])
  (hsp:∀ H:Hp,Only H→SqL K H a (ns.map V.int)→sp [.ref a] H (fun v _=>v=.bl true) fun _ _ _=>False)
  (hCX:∀ H e s',CX [] H s₁ (fun _ _ _=>False) e s'→False) :
  codeAny (model P w) callerA (.call (.ref fa) ⟨[.ref a],[]⟩) (fun r s'=>r=.ok (.ret (.bool true))∧OldK s₁.heap s'.heap∧s'.os=s₁.os∧AllBare s'.gens) s₁:=by
 have rv:=aT hi
 have lenV:=hi.length
 have core:∀ H:Hp,Only H→SqL K H a (ns.map V.int)→HOk P w H s₁.heap→(∀ b,H b≠none→b=a)→(H a≠none→K.lookup a=none) →
   codeAny (model P w) callerA (.call (.ref fa) ⟨[.ref a],[]⟩) (fun r s'=>r=.ok (.ret (.bool true))∧OldK s₁.heap s'.heap∧s'.os=s₁.os∧AllBare s'.gens) s₁:=by
  intro H hO hS hok hA hK
  have base_of:∀ {b:Addr} {o:Obj},s₁.heap.get? b=some o→H b=none→(hidT s₁.heap H).get? b=some o:=fun e n=>sD e n
  have noA:∀ {b:Addr} {o:Obj} {es:Array DictEntry} {ep:Nat},s₁.heap.get? b=some o→o.data=.dict es ep→H b=none:=fun {b o es ep} e d=>by
   cases q:H b with
   | none=>rfl
   | some u =>
    have e':b=a:=hA b (by rw[q];simp)
    subst e'
    rw[ha]at e;cases e
    have d':Data.seq vs.toArray _=Data.dict es ep:=d
    cases d'
  have nsK:∀ {b:Addr} {m:Str→Option Value},s₁.heap.Ns b m→(hidT s₁.heap H).Ns b m:=fun {b m} ⟨o,es,ep,e,d,r⟩=>⟨o,es,ep,base_of e (noA e d),d,r⟩
  have hKb:K.In (hidT s₁.heap H):=fun b o e=>base_of (KX b o e) (by
   cases q:H b with
   | none=>rfl
   | some u =>
    have e':b=a:=hA b (by rw[q];simp)
    subst e'
    rw[hK (by rw[q];simp)]at e;cases e)
  have hM:Mod K mg (hidT s₁.heap H):=⟨hKb,nsK hns,⟨mb,nsK hb,hbb⟩,let ⟨mc,h1,h2⟩:=hlim;⟨mc,nsK h1,h2⟩⟩
  have e0:Env0 P w K mg (hidT s₁.heap H) callerA [] s₁ H:=⟨rfl,hM,fun b o e=>vk e,Nat.le_of_eq (qk _ _),trivial,fun b hb=>absurd (show b∈([]:List Addr) from hb) (by simp),hok,.of_eq hg⟩
  refine codeAny_mono ((F _ hKb (nsK hns)).run callerA [] s₁ H ⟨[.ref a],[]⟩ [.ref a] [.ref a] _ _ hr.w e0 (hbind s₁ (.ref a)) (.cons rfl .nil) (hsp H hO hS)) fun r s' h=>?_
  cases r with
  | error e=>exact(hCX H e s' h).elim
  | ok fl =>
   cases fl with
   | next=>exact False.elim h
   | brk=>exact False.elim h
   | cont=>exact False.elim h
   | ret u =>
    obtain⟨v,H',os,bare,un,hok',r',q⟩:=h
    have q':v=.bl true:=q
    subst q'
    obtain rfl:u=Value.bool true:=r'
    refine⟨rfl,OldK.of_keep fun b o e=>?_,os,bare⟩
    cases q:H b with
    | none=>exact un.keep b o e q (by intro z;exact absurd (show b∈([]:List Addr) from z) (by simp)) (by simp)
    | some u =>
     rcases hO b with z | ⟨ob,xs,z⟩
     ·rw[q]at z;cases z
     ·have z2:=un.frzs b ob _ z
      obtain⟨e1,_⟩:=hok b _ z
      obtain⟨e2,_⟩:=hok' b _ z2
      rw[e]at e1;cases e1
      exact e2
 cases hk:K.lookup a with
 | some o =>
  have e:=KX a o hk
  rw[ha]at e
  cases e
  refine core (fun _=>none) (fun _=>.inl rfl) (.inr ⟨_,vs.toArray,_,hk,rfl,rfl,rfl,by rw[List.size_toArray,lenV];exact hl,by simpa using rv⟩) (fun b u z=>by have z':(none:Option HO)=some u:=z;cases z') (fun b z=>absurd rfl z) fun z=>absurd rfl z
 | none =>
  refine core (fun b=>if b=a then some (.frz { cls:=.type "list",data:=.seq vs.toArray } (.lst (ns.map V.int))) else none) (fun b=>?_) (.inl (.inr ⟨{ cls:=.type "list",data:=.seq vs.toArray },if_pos rfl⟩)) (fun b u z=>?_) (fun b z=>?_) fun _=>hk
  ·by_cases hb:b=a
   ·exact .inr ⟨_,_,if_pos hb⟩
   ·exact .inl (if_neg hb)
  ·by_cases hb:b=a
   ·have z':=(if_pos hb).symm.trans z
    cases z'
    subst hb
    exact⟨ha,by rw[List.length_map];exact hl,vs,_,rv,ha⟩
   ·have z':=(if_neg hb).symm.trans z
    cases z'
  ·by_cases hb:b=a
   ·exact hb
   ·exact absurd (if_neg hb) z
end L2
namespace L2
open PySem PySem.Spec PyProof.Rows
theorem vE {l:PySem.W.OpenLaw}{n k:Nat}{q:Program}{loose:List Str}{XP:(Str→Option Value)→Heap→Prop}{YP:World→Heap→Prop}{d:DefRec}{K:Params→PySem.W.Frag}{CX:World→CXT}{sp:World→Sp}{x:Str}
  (hn:l.most=some n) (hn2:n≤sizeLine) (hdf:d.params.defaults=[]) (hr:Room k callerA)
  (hY:∀ (w:World) (h:Heap),YP w h→(K w.params).In h)
  (F:∀ (w:World) (mg:Str→Option Value) (fa:Addr) (h:Heap),(K w.params).In h→h.Ns mainGlobals mg→mg d.name=some (.ref fa) →
   ∃ fd:FuncData,(∀ (s:Shared) (u:Value),BindsTo s fd ⟨[u],[]⟩ [(x,u)]) ∧
    ∀ base:Heap,(K w.params).In base→base.Ns mainGlobals mg→FnOk l.prog w (K w.params) mg base (CX w) k fa fd [x] (sp w))
  (hsp:∀ (w:World) (H:Hp) (a:Addr) (ns:List Int),ns.length≤n→Only H→SqL (K w.params) H a (ns.map V.int)→sp w [.ref a] H (fun v _=>v=.bl true) fun _ _ _=>False)
  (hCX:∀ (w:World) (H:Hp) (s:Shared) (e:Value) (s':Shared),CX w [] H s (fun _ _ _=>False) e s'→False) :
  PySem.W.WalkO q loose XP YP l.row.toRowW d [] (fun f vs=>PySem.call f vs):=by
 refine Att.attach_call hn hdf fun w s₀ s₁ mg mb fa o pm cd doc a vs ns G Y ho hd hcd hmg hobj hints hlen hg=>?_
 have KX:=hY w _ Y
 obtain⟨fd,hb,hF⟩:=F w mg fa _ KX G.T.g hmg
 exact sV KX G.T.g G.T.b G.T.builtins G.T.nolimit hg hobj hints (Nat.le_trans hlen hn2) hr hF hb (fun H hO hS=>hsp w H a ns hlen hO hS) fun H e s'=>hCX w H s₁ e s'
end L2
namespace L2
open PySem PySem.Spec PyProof.Rows
def defArgs (s:Stmt):Arguments:=match s with
 | .FunctionDef _ a _ _ _ _ _ _ _ _=>a
 | _=>{ posonlyargs:=[],args:=[],vararg:=none,kwonlyargs:=[],kw_defaults:=[],kwarg:=none,defaults:=[] }
def defBody (s:Stmt):List Stmt:=match s with
 | .FunctionDef _ _ b _ _ _ _ _ _ _=>b
 | _=>[]
def defScope (s:Stmt):Scope:=match s with
 | .FunctionDef _ _ _ _ _ _ sc _ _ _=>sc
 | _=>{ kind:=.function,names:=[],isGenerator:=false,isCoroutine:=false }
abbrev CX0:CXT:=fun _ _ _ _ _ _=>False
abbrev E0:XK:=fun _ _ _=>False
structure Fun (K:PySem.W.Frag)(x qual:Str)(st:Stmt)(f:Addr)(fd:FuncData):Prop where
 ex:∃ (oc:Value) (od:Option Addr) (kV doc pm:Value) (an:Option Addr) (cdv ct:Value) (osl:Array (Option Value)),
  fd=PySem.W.fnOf x qual (defArgs st) (defBody st) (defScope st) .none kV doc pm an cdv ct∧K.lookup f=some ⟨oc,od,.func fd,osl⟩∧PySem.W.codeIn K cdv qual=true
 kp:PySem.W.keepIn K (.ref f)=true
section
variable {P:Program}{w:World}{K:PySem.W.Frag}{mg:Str→Option Value}{base:Heap}
theorem Fun.ok {x qual:Str}{st:Stmt}{f:Addr}{fd:FuncData}{N ps:List Str}{k:Nat}{sp:Sp}(F:Fun K x qual st f fd)(S:FnScope N ps (defScope st))(len:∀ vs H Q E,sp vs H Q E→vs.length=ps.length)
  (hbody:∀ (cdv:Value) (A:Around) (outer:List Env) (s:Shared) (H:Hp) (vs:List V) (Q:VK) (E:XK),Room k (A.deeper (envOfC qual (defScope st) s.heap.objs.size f cdv))→sp vs H Q E →
   ∃ t,PSs (cxOf CX0 P w K mg base N qual (defScope st) f cdv A outer s H E).nox (defBody st) t∧t { nx:=fun _ H'=>Q .non H',rt:=Q } (start N vs) H):FnOk P w K mg base CX0 (k+1) f fd ps sp:=by
 obtain⟨oc,od,kV,doc,pm,an,cdv,ct,osl,rfl,lk,hcd⟩:=F.ex
 refine sQ lk hcd S len fun A outer s H vs Q E hr hsp=>?_
 obtain⟨t,h,q⟩:=hbody cdv A outer s H vs Q E hr hsp
 exact⟨t,h.nox,q⟩
theorem Fun.binds {x qual:Str}{st:Stmt}{f:Addr}{fd:FuncData}{ps:List Str}(F:Fun K x qual st f fd)
  (h:∀ (kV doc pm:Value) (an:Option Addr) (cdv ct:Value) (us:List Value),us.length=ps.length→bindArgs (PySem.W.fnOf x qual (defArgs st) (defBody st) (defScope st) .none kV doc pm an cdv ct) ⟨us,[]⟩=pure (ps.zip us)):Binds K fd ps []:=by
 obtain⟨oc,od,kV,doc,pm,an,cdv,ct,osl,rfl,lk,hcd⟩:=F.ex
 exact .all (h kV doc pm an cdv ct)
theorem nD {x qual:Str}{st:Stmt}{f:Addr}{oc:Value}{od an:Option Addr}{osl:Array (Option Value)}{kV doc pm cdv ct:Value}(l:K.lookup f=some ⟨oc,od,.func (PySem.W.fnOf x qual (defArgs st) (defBody st) (defScope st) .none kV doc pm an cdv ct),osl⟩)
  (c:PySem.W.codeIn K cdv qual=true) (k:PySem.W.keepIn K (.ref f)=true):Fun K x qual st f (PySem.W.fnOf x qual (defArgs st) (defBody st) (defScope st) .none kV doc pm an cdv ct):=⟨⟨oc,od,kV,doc,pm,an,cdv,ct,osl,rfl,l,c⟩,k⟩
end
section
variable {X:Cx}
end
def Same (H H':Hp):Prop:=∀ b o,H b=some o→H' b=some o
theorem Same.refl (H:Hp):Same H H:=fun _ _ h=>h
theorem Same.trans {H H1 H2:Hp}(a:Same H H1)(b:Same H1 H2):Same H H2:=fun c o h=>b c o (a c o h)
theorem Same.free {H H':Hp}(e:Same H H'){l:Addr}(h:H' l=Option.none):H l=Option.none:=by
 cases q:H l with
 | none=>rfl
 | some o =>
  rw[e l o q]at h
  cases h
theorem Same.seq {K:PySem.W.Frag}{H H':Hp}{a:Addr}{xs:List V}(e:Same H H')(h:SqL K H a xs):SqL K H' a xs:=by
 rcases h with (h | ⟨o,h⟩) | h
 ·exact .inl (.inl (e _ _ h))
 ·exact .inl (.inr ⟨o,e _ _ h⟩)
 ·exact .inr h
end L2
end
noncomputable section
namespace FF
abbrev St:=L2.St
end FF
namespace FF
open PySem
open AutoSeq1 (wpAny_loadPart')
theorem gr:fillsNumberSlot (.type "tuple") "mul"=pure false :=
 fillsNumberSlot_seq F.slot_tuple_mul.lookup (by decide +kernel) F.slot_tuple_rmul.lookup (by decide +kernel)
theorem kK:seqRepeat? (.type "tuple")=pure (some (.builtin "tuple.__mul__")):=by
 unfold seqRepeat?
 rw[seqSlot_of (name := "__mul__") F.slot_tuple_mul.lookup (by decide +kernel),seqSlot_of (name := "__rmul__") F.slot_tuple_rmul.lookup (by decide +kernel)]
 rfl
theorem iH (a:Int)(t:Tok)(l:Addr)(items:Array Value)(n:Nat)(dd:Option Addr)(sl:Array (Option Value)) :
  Meets (Builtin.«int.__rmul__» ⟨[.int a t,.ref l],[]⟩) (fun _ R s=>s.heap.get? l=some { cls:=.type "tuple",dict:=dd,data:=.seq items n,slots:=sl }∧R (.ok (.ret Value.notImplemented)) s) :=
 .of_wp fun prog w A R s h=>by obtain⟨hp,g,d,tk,os⟩:=s;obtain⟨hl,h⟩:=h;wp_walk;exact⟨_,rfl,h⟩
theorem jE (l:Addr)(items:Array Value)(n:Nat)(k:Int)(t:Tok)(dd:Option Addr)(sl:Array (Option Value))(h0:2≤k)(h1:k < 1000000)(hsz:items.size*k.toNat≤sizeLine)(hne:items.isEmpty=false) :
  Meets (Builtin.«tuple.__mul__» ⟨[.ref l,.int k t],[]⟩) (fun _ R s=>s.heap.get? l=some { cls:=.type "tuple",dict:=dd,data:=.seq items n,slots:=sl } ∧
   R (.ok (.ret (.ref s.heap.objs.size))) { s with heap:=s.heap.push { cls:=.type "tuple",data:=.seq (List.foldl (fun x1 x2=>x1++x2) #[] (List.replicate k.toNat items)) } }) :=
 .of_wp fun prog w A R s h=>by
  obtain⟨hp,g,d,tk,os⟩:=s;obtain⟨hl,h⟩:=h
  have f1:=AutoSeq1.idx_int
  have f2:=AutoSeq1.sub_tuple_tuple
  have c0:¬ (decide (k < -2^63)||decide (k≥2^63))=true:=by
   simp only[Bool.or_eq_true,decide_eq_true_eq];omega
  have c1:¬ (items.isEmpty||k==1)=true:=by
   rw[hne,Bool.false_or,beq_iff_eq];omega
  have c2:¬ (decide (k≤0)||items.isEmpty)=true:=by
   rw[hne,Bool.or_false,decide_eq_true_eq];omega
  have hs:=sizeLine_eq
  have hk:(items.size:Int)*k=((items.size*k.toNat:Nat):Int):=by
   rw[Int.natCast_mul,Int.toNat_of_nonneg (by omega)]
  have c3:¬ ((items.size:Int)*k > (2^63 - 1)/8):=by
   rw[hk];omega
  have c4:¬ Builtin.Tuple.tupleTooMany ((items.size:Int)*k)=true:=by
   rw[hk]
   unfold Builtin.Tuple.tupleTooMany
   simp only[decide_eq_true_eq]
   omega
  have hlen:(List.foldl (fun x1 x2=>x1++x2) #[] (List.replicate k.toNat items)).size≤sizeLine:=by
   have:∀ (m:Nat) (acc:Array Value),(List.foldl (fun x1 x2=>x1++x2) acc (List.replicate m items)).size=acc.size+m*items.size:=by
    intro m
    induction m with
    | zero=>intro acc;simp
    | succ m ih=>intro acc;rw[List.replicate_succ,List.foldl_cons,ih,Array.size_append,Nat.succ_mul];omega
   rw[this,Nat.mul_comm];simpa using hsz
  unfold Builtin.«tuple.__mul__»
  wp_walk using wpAny_loadPart' hl
  rw[if_neg c0]
  wp_walk using wpAny_loadPart' hl
  rw[if_neg c1]
  try wp_walk using wpAny_loadPart' hl
  rw[if_neg c2]
  try wp_walk using wpAny_loadPart' hl
  rw[if_neg c3]
  try wp_walk using wpAny_loadPart' hl
  rw[if_neg c4]
  try wp_walk using wpAny_loadPart' hl
  rw[if_neg (Nat.not_lt.mpr hlen)]
  try wp_walk using wpAny_loadPart' hl
  exact⟨_,rfl,h⟩
theorem jF (l:Addr)(items:Array Value)(n:Nat)(t:Tok)(dd:Option Addr)(sl:Array (Option Value)) :
  Meets (Builtin.«tuple.__mul__» ⟨[.ref l,.int 1 t],[]⟩) (fun _ R s=>s.heap.get? l=some { cls:=.type "tuple",dict:=dd,data:=.seq items n,slots:=sl }∧R (.ok (.ret (.ref l))) s) :=
 .of_wp fun prog w A R s h=>by
  obtain⟨hp,g,d,tk,os⟩:=s;obtain⟨hl,h⟩:=h
  have f1:=AutoSeq1.idx_int
  have f2:=AutoSeq1.sub_tuple_tuple
  have c1:(items.isEmpty||(1:Int)==1)=true:=by simp
  unfold Builtin.«tuple.__mul__»
  wp_walk using wpAny_loadPart' hl
  exact⟨_,rfl,h⟩
theorem jG (l:Addr)(n:Nat)(k:Int)(t:Tok)(dd:Option Addr)(sl:Array (Option Value))(h0:0≤k)(h1:k < 1000000) :
  Meets (Builtin.«tuple.__mul__» ⟨[.ref l,.int k t],[]⟩) (fun _ R s=>s.heap.get? l=some { cls:=.type "tuple",dict:=dd,data:=.seq #[] n,slots:=sl }∧R (.ok (.ret (.ref l))) s) :=
 .of_wp fun prog w A R s h=>by
  obtain⟨hp,g,d,tk,os⟩:=s;obtain⟨hl,h⟩:=h
  have f1:=AutoSeq1.idx_int
  have f2:=AutoSeq1.sub_tuple_tuple
  have c0:¬ (decide (k < -2^63)||decide (k≥2^63))=true:=by
   simp only[Bool.or_eq_true,decide_eq_true_eq];omega
  have c1:((#[]:Array Value).isEmpty||k==1)=true:=by simp
  unfold Builtin.«tuple.__mul__»
  wp_walk using wpAny_loadPart' hl
  rw[if_neg c0]
  wp_walk using wpAny_loadPart' hl
  exact⟨_,rfl,h⟩
theorem iI (l:Addr)(items:Array Value)(n:Nat)(t:Tok)(dd:Option Addr)(sl:Array (Option Value))(hne:items.isEmpty=false) :
  Meets (Builtin.«tuple.__mul__» ⟨[.ref l,.int 0 t],[]⟩) (fun _ R s=>s.heap.get? l=some { cls:=.type "tuple",dict:=dd,data:=.seq items n,slots:=sl } ∧
   R (.ok (.ret (.ref s.heap.objs.size))) { s with heap:=s.heap.push { cls:=.type "tuple",data:=.seq #[] } }) :=
 .of_wp fun prog w A R s h=>by
  obtain⟨hp,g,d,tk,os⟩:=s;obtain⟨hl,h⟩:=h
  have f1:=AutoSeq1.idx_int
  have f2:=AutoSeq1.sub_tuple_tuple
  have c1:¬ (items.isEmpty||(0:Int)==1)=true:=by rw[hne];decide
  have c2:(decide ((0:Int)≤0)||items.isEmpty)=true:=by simp
  unfold Builtin.«tuple.__mul__»
  wp_walk using wpAny_loadPart' hl
  exact⟨_,rfl,h⟩
end FF
namespace FF
open PySem
theorem cY (env:Env):∀ (names:List (Str×NameKind)) (acc:List (Str×Addr)),(∀ y∈names,y.2=.free→∃ c,env.cells.lookup y.1=some c)→(∀ n c,acc.lookup n=some c→env.cells.lookup n=some c) →
  ∃ cl,(forIn names acc fun (x:Str×NameKind) (cs:List (Str×Addr))=>(do
    if x.2==.free then let a ← cellOf env x.1;pure (ForInStep.yield ((x.1,a)::cs)) else pure (ForInStep.yield cs):Sem (ForInStep (List (Str×Addr)))))=pure cl ∧
   (∀ n c,cl.lookup n=some c→env.cells.lookup n=some c)∧(∀ n c,acc.lookup n=some c→∃ c',cl.lookup n=some c')∧(∀ y∈names,y.2=.free→∃ c,cl.lookup y.1=some c)
 | [],acc,_,h=>⟨acc,rfl,h,fun n c e=>⟨c,e⟩,fun _ z=>nomatch z⟩
 | (n,k)::r,acc,hf,h=>by
  by_cases hk:k=.free
  ·subst hk
   obtain⟨c,hc⟩:=hf (n,.free) List.mem_cons_self rfl
   have h':∀ m d,List.lookup m ((n,c)::acc)=some d→env.cells.lookup m=some d:=fun m d e=>by
    by_cases q:(m==n)=true
    ·have q':m=n:=eq_of_beq q
     simp only[List.lookup,q]at e
     cases e
     rw[q'];exact hc
    ·have q':(m==n)=false:=by simpa using q
     simp only[List.lookup,q']at e
     exact h m d e
   obtain⟨cl,e1,e2,e3,e4⟩:=cY env r ((n,c)::acc) (fun y hy=>hf y (List.mem_cons_of_mem _ hy)) h'
   have self:List.lookup n ((n,c)::acc)=some c:=by simp[List.lookup]
   refine⟨cl,?_,e2,fun m d e=>?_,fun y hy hy2=>?_⟩
   ·rw[List.forIn_cons]
    have:cellOf env n=pure c:=by unfold cellOf;rw[hc]
    simp only[beq_self_eq_true,if_true,this]
    exact e1
   ·by_cases q:(m==n)=true
    ·have q':m=n:=eq_of_beq q
     rw[q'];exact e3 n c self
    ·have q':(m==n)=false:=by simpa using q
     exact e3 m d (by simp only[List.lookup,q'];exact e)
   ·rcases List.mem_cons.mp hy with z | z
    ·subst z;exact e3 n c self
    ·exact e4 y z hy2
  ·have hb:(k==NameKind.free)=false:=by simpa using hk
   obtain⟨cl,e1,e2,e3,e4⟩:=cY env r acc (fun y hy=>hf y (List.mem_cons_of_mem _ hy)) h
   refine⟨cl,?_,e2,e3,fun y hy hy2=>?_⟩
   ·rw[List.forIn_cons]
    simp only[hb,Bool.false_eq_true,if_false]
    exact e1
   ·rcases List.mem_cons.mp hy with z | z
    ·subst z;exact absurd hy2 hk
    ·exact e4 y z hy2
theorem eX (scope:Scope)(env:Env)(h:∀ y∈scope.names,y.2=.free→∃ c,env.cells.lookup y.1=some c) :
  ∃ cl,closureFor scope env=pure cl∧(∀ n c,cl.lookup n=some c→env.cells.lookup n=some c)∧(∀ y∈scope.names,y.2=.free→∃ c,cl.lookup y.1=some c):=by
 obtain⟨cl,e1,e2,_,e4⟩:=cY env scope.names [] h (fun n c e=>by simp at e)
 refine⟨cl,?_,e2,e4⟩
 exact(congrArg (fun t:Sem (List (Str×Addr))=>t >>= fun s=>pure s) e1).trans rfl
end FF
namespace FF
open PySem
def tests (ifs:List Expr)(env:Env):Sem Bool:=match ifs with
 | []=>pure true
 | c::_=>isTrue c env (eval c env)
theorem qC {prog:Program}{w:World}{A:Around}{R:Result→Shared→Prop}{s:Shared}{elt target iter:Expr}{ifs:List Expr}{scope:Scope}{pos:Pos}{it acc:Value}{env:Env}(hifs:ifs.length≤1)(W:Nat→Shared→Prop)
  (turn:∀ n s,W n s→wpAny (model prog w) A (pyNext it) (fun r s1=>match r with
   | none=>R (.ok .next) s1
   | some v=>wpAny (model prog w) A (letOwnedTupleGo target it v) (fun _ s2=>wpAny (model prog w) A (assign target env v) (fun _ s3=>wpAny (model prog w) A (tests ifs env) (fun ok s4 =>
     if ok=true then wpAny (model prog w) A (eval elt env) (fun x s5=>wpAny (model prog w) A (call (.builtin "list.append") [acc,x]) (fun _ s6=>∃ m,m < n∧W m s6) (fun _ _=>False) s5) (fun _ _=>False) s4
     else ∃ m,m < n∧W m s4) (fun _ _=>False) s3) (fun _ _=>False) s2) (fun _ _=>False) s1) (fun _ _=>False) s)
  (n:Nat) (h:W n s):codeAny (model prog w) A (.compLoop (.ListComp elt [⟨target,iter,ifs,0⟩] scope pos) 0 it acc env) R s:=by
 have weak:∀ {α:Type} {t:Sem α} {Q Q':α→Shared→Prop} {E:Value→Shared→Prop} {s:Shared},wpAny (model prog w) A t Q (fun _ _=>False) s→(∀ a s,Q a s→Q' a s)→wpAny (model prog w) A t Q' E s :=
  fun h k=>wpAny_mono h k fun _ _ z=>z.elim
 refine codeAny_loop rfl W (fun n s hW=>?_) n h
 refine wpAny_noted ?_
 rw[compTurn_list]
 refine wpAny_bind (wpAny_standAt (wpAny_bind (weak (turn n s hW) fun r s1 h1=>?_)))
 cases r with
 | none=>exact wpAny_pure h1
 | some v =>
  refine wpAny_bind (weak h1 fun _ s2 h2=>wpAny_bind (weak h2 fun _ s3 h3=>wpAny_bind ?_))
  have fin:∀ ok s4,(if ok=true then wpAny (model prog w) A (eval elt env) (fun x s5=>wpAny (model prog w) A (call (.builtin "list.append") [acc,x]) (fun _ s6=>∃ m,m < n∧W m s6) (fun _ _=>False) s5) (fun _ _=>False) s4
     else ∃ m,m < n∧W m s4)→wpAny (model prog w) A (if ok=true then ((do let _ ← call (.builtin "list.append") [acc,← eval elt env];pure ()) >>= fun _=>again (.compLoop (.ListComp elt [⟨target,iter,ifs,0⟩] scope pos) 0 it acc env)) else again (.compLoop (.ListComp elt [⟨target,iter,ifs,0⟩] scope pos) 0 it acc env))
      (fun fin s'=>match fin with | .done f=>R (.ok f) s' | .again c'=>c'=(.compLoop (.ListComp elt [⟨target,iter,ifs,0⟩] scope pos) 0 it acc env)∧∃ m,m < n∧W m s') (notedBy (model prog w) A env fun e s'=>R (.error e) s') s4:=by
   intro ok s4 h4
   cases ok with
   | true=>exact wpAny_bind (wpAny_bind (weak h4 fun x s5 h5=>wpAny_bind (weak h5 fun _ s6 h6=>wpAny_pure (wpAny_pure ⟨rfl,h6⟩))))
   | false=>exact wpAny_pure ⟨rfl,h4⟩
  match ifs,hifs,h3,fin with
  | [],_,h3,fin =>
   refine wpAny_tests_nil ?_
   exact wpAny_bind (m:=(pure true:Sem Bool)) (weak h3 fin)
  | [c],_,h3,fin =>
   refine wpAny_tests_one ?_
   exact weak h3 fin
end FF
namespace FF
open PySem PyProof.Rows
open AutoSeq1 (wpAny_loadPart')
theorem qD (l b:Addr)(items items2:Array Value)(n n2:Nat)(dd dd2:Option Addr)(sl sl2:Array (Option Value))(hsz:items.size+items2.size≤sizeLine) :
  Meets (Builtin.«list.__add__» ⟨[.ref l,.ref b],[]⟩) (fun _ R s=>s.heap.get? l=some { cls:=.type "list",dict:=dd,data:=.seq items n,slots:=sl }∧s.heap.get? b=some { cls:=.type "list",dict:=dd2,data:=.seq items2 n2,slots:=sl2 } ∧
   R (.ok (.ret (.ref s.heap.objs.size))) { s with heap:=s.heap.push { cls:=.type "list",data:=.seq (items++items2) } }) :=
 .of_wp fun prog w A R s h=>by
  obtain⟨hp,g,d,tk,os⟩:=s;obtain⟨hl,hb,h⟩:=h
  have f1:=AutoSeq1.idx_int;have f2:=AutoSeq1.sub_tuple_tuple;have f3:=AutoSeq1.sub_list_list;have f4:=AutoSeq1.sub_tuple_list;have f5:=AutoSeq1.sub_list_tuple
  have hl0:¬ Builtin.List.listTooLong (items.size+items2.size)=true:=by rw[L2.notLongL hsz];exact Bool.false_ne_true
  have hz:(items++items2).size≤sizeLine:=by rw[Array.size_append];exact hsz
  wp_walk using wpAny_loadPart' hl,wpAny_loadPart' hb
  all_goals first | exact⟨_,rfl,h⟩ | trace_state
theorem qE (l:Addr)(items:Array Value)(n:Nat)(k:Int)(t:Tok)(dd:Option Addr)(sl:Array (Option Value))(h0 : -(2^63)≤k)(h1:k < 2^63)(hsz:items.size*k.toNat≤sizeLine) :
  Meets (Builtin.«list.__mul__» ⟨[.ref l,.int k t],[]⟩) (fun _ R s=>s.heap.get? l=some { cls:=.type "list",dict:=dd,data:=.seq items n,slots:=sl } ∧
   R (.ok (.ret (.ref s.heap.objs.size))) { s with heap:=s.heap.push { cls:=.type "list",data:=.seq (List.foldl (fun x1 x2=>x1++x2) #[] (List.replicate (if items.isEmpty=true then 0 else k.toNat) items)) } }) :=
 .of_wp fun prog w A R s h=>by
  obtain⟨hp,g,d,tk,os⟩:=s;obtain⟨hl,h⟩:=h
  have f1:=AutoSeq1.idx_int;have f2:=AutoSeq1.sub_tuple_tuple;have f3:=AutoSeq1.sub_list_list
  have hs:=sizeLine_eq
  have c1:¬ items.size*k.toNat > (2^63 - 1)/8:=by omega
  have c2:¬ (!Builtin.List.listFitsIndex k)=true:=by rw[fitsIndex_both h0 h1];exact Bool.false_ne_true
  have c3:¬ Builtin.List.listTooLong (items.size*k.toNat)=true:=by rw[L2.notLongL hsz];exact Bool.false_ne_true
  have hz:=AutoListH.joined_fits c3
  wp_walk using wpAny_loadPart' hl
  rw[if_neg (Nat.not_lt.mpr hz)]
  wp_walk
  exact⟨_,rfl,h⟩
theorem jH (a:Int)(t:Tok)(l:Addr)(items:Array Value)(n:Nat)(dd:Option Addr)(sl:Array (Option Value)) :
  Meets (Builtin.«int.__rmul__» ⟨[.int a t,.ref l],[]⟩) (fun _ R s=>s.heap.get? l=some { cls:=.type "list",dict:=dd,data:=.seq items n,slots:=sl }∧R (.ok (.ret Value.notImplemented)) s) :=
 .of_wp fun prog w A R s h=>by obtain⟨hp,g,d,tk,os⟩:=s;obtain⟨hl,h⟩:=h;wp_walk;exact⟨_,rfl,h⟩
theorem qF (l b:Addr)(items items2:Array Value)(n n2:Nat)(dd2:Option Addr)(sl2:Array (Option Value))(hsz:items.size+items2.size≤sizeLine) :
  Meets (Builtin.«list.extend» ⟨[.ref l,.ref b],[]⟩) (fun _ R s=>s.heap.get? l=some { cls:=.type "list",data:=.seq items n }∧s.heap.get? b=some { cls:=.type "list",dict:=dd2,data:=.seq items2 n2,slots:=sl2 } ∧
   R (.ok (.ret .none)) { s with heap:=s.heap.update l (Obj.mapSeq fun x=>x++items2) }) :=
 .of_wp fun prog w A R s h=>by
  obtain⟨hp,g,d,tk,os⟩:=s;obtain⟨hl,hb,h⟩:=h
  have f1:=AutoSeq1.idx_int;have f2:=AutoSeq1.sub_tuple_tuple;have f3:=AutoSeq1.sub_list_list;have f4:=AutoSeq1.sub_tuple_list;have f5:=AutoSeq1.sub_list_tuple
  have hc0:¬(!items.isEmpty&&Builtin.List.listTooLong (items.size+items2.size))=true:=by rw[L2.notLongL hsz,Bool.and_false];exact Bool.false_ne_true
  have hc1:items.size≤sizeLine:=by omega
  have hs2:items.size+items2.size≤sizeLine+1:=by omega
  have hz':(items++items2).size≤sizeLine+1:=by rw[Array.size_append];omega
  wp_walk using (wpAny_updateSeq hl rfl),wpAny_loadPart' hl,wpAny_loadPart' hb
  exact⟨_,rfl,h⟩
theorem qG (l b:Addr)(items items2:Array Value)(n n2:Nat)(dd2:Option Addr)(sl2:Array (Option Value))(hsz:items.size+items2.size≤sizeLine) :
  Meets (Builtin.«list.extend» ⟨[.ref l,.ref b],[]⟩) (fun _ R s=>s.heap.get? l=some { cls:=.type "list",data:=.seq items n }∧s.heap.get? b=some { cls:=.type "tuple",dict:=dd2,data:=.seq items2 n2,slots:=sl2 } ∧
   R (.ok (.ret .none)) { s with heap:=s.heap.update l (Obj.mapSeq fun x=>x++items2) }) :=
 .of_wp fun prog w A R s h=>by
  obtain⟨hp,g,d,tk,os⟩:=s;obtain⟨hl,hb,h⟩:=h
  have f1:=AutoSeq1.idx_int;have f2:=AutoSeq1.sub_tuple_tuple;have f3:=AutoSeq1.sub_list_list;have f4:=AutoSeq1.sub_tuple_list;have f5:=AutoSeq1.sub_list_tuple
  have hc0:¬(!items.isEmpty&&Builtin.List.listTooLong (items.size+items2.size))=true:=by rw[L2.notLongL hsz,Bool.and_false];exact Bool.false_ne_true
  have hc1:items.size≤sizeLine:=by omega
  have hs2:items.size+items2.size≤sizeLine+1:=by omega
  have hz':(items++items2).size≤sizeLine+1:=by rw[Array.size_append];omega
  wp_walk using (wpAny_updateSeq hl rfl),wpAny_loadPart' hl,wpAny_loadPart' hb
  exact⟨_,rfl,h⟩
end FF
end
noncomputable section
namespace FF
open PySem PySem.Spec PyProof.Rows L2
inductive D where
 | non | bl (b:Bool) | int (i:Int) | str (x:Str) | tup (xs:List D) | lst (xs:List D) | exc (k:Nat) | fn (k:Nat) | tab (ks:List (List Int)) (xs:List D) | dic (ks:List Key) (xs:List D) | ptr (a:Addr)
inductive R (α:Type) where
 | ok (a:α) | err (k:Nat) | stuck
def R.bind {α β:Type}(r:R α)(f:α→R β):R β:=match r with
 | .ok a=>f a
 | .err k=>.err k
 | .stuck=>.stuck
@[simp] theorem R.bind_ok {α β:Type}(a:α)(f:α→R β):(R.ok a).bind f=f a:=rfl
@[simp] theorem R.bind_err {α β:Type}(k:Nat)(f:α→R β):(R.err k:R α).bind f=.err k:=rfl
@[simp] theorem R.bind_stuck {α β:Type}(f:α→R β):(R.stuck:R α).bind f=.stuck:=rfl
def excO (C:Nat→Addr)(k:Nat)(a:Addr):HO :=
 .ext fun h=>∃ o,h.get? a=some o∧o.cls=.ref (C k)∧∃ vs,o.data=.fields vs
abbrev TKV:=List Int×Addr×V
abbrev TKU:=List Int×Addr×Value
def hashT (ks:List Int):Int:=reduceHash (Builtin.Tuple.tupleHashOf (ks.map hashInt))
def tabR (p:TKV)(q:TKU):Prop:=p.1=q.1∧p.2.1=q.2.1∧RelV p.2.2 q.2.2
def tabφ (a:Addr)(kvs:List TKV)(h:Heap):Prop:=∃ xs:List TKU,Paired tabR kvs xs∧xs.length≤sizeLine∧(a==sysModules)=false∧∃ o es ep,h.get? a=some o∧o.ExactDict∧o.data=.dict es ep ∧
 es.toList=xs.map (fun x=>(⟨hashT x.1,.ref x.2.1,x.2.2⟩:DictEntry))∧(xs.map (·.1)).Nodup
def tabO (a:Addr)(kvs:List TKV):HO:=.ext (tabφ a kvs)
abbrev RKV:=List (List Int)×Addr×V
abbrev RKU:=List (List Int)×Addr×Value
def hashR (kss:List (List Int)):Int:=reduceHash (Builtin.Tuple.tupleHashOf (kss.map hashT))
def rabR (p:RKV)(q:RKU):Prop:=p.1=q.1∧p.2.1=q.2.1∧RelV p.2.2 q.2.2
def rabφ (a:Addr)(kvs:List RKV)(h:Heap):Prop:=∃ xs:List RKU,Paired rabR kvs xs∧xs.length≤sizeLine∧(a==sysModules)=false∧∃ o es ep,h.get? a=some o∧o.ExactDict∧o.data=.dict es ep ∧
 es.toList=xs.map (fun x=>(⟨hashR x.1,.ref x.2.1,x.2.2⟩:DictEntry))∧(xs.map (·.1)).Nodup
def rabO (a:Addr)(kvs:List RKV):HO:=.ext (rabφ a kvs)
def RowsT (K:PySem.W.Frag)(Z:Hp):List Addr→List (List Int)→Prop
 | [],[]=>True
 | b::as,ks::kss=>SqT K Z b (ks.map V.int)∧RowsT K Z as kss
 | _,_=>False
def SqR (K:PySem.W.Frag)(Z:Hp)(a:Addr)(kss:List (List Int)):Prop:=∃ as:List Addr,SqT K Z a (as.map V.ref)∧RowsT K Z as kss
mutual
def Rep (K:PySem.W.Frag)(C:Nat→Addr)(Z:Hp):D→V→Prop
 | .non,v=>v=.non
 | .bl b,v=>v=.bl b
 | .int i,v=>v=.int i
 | .str x,v=>v=.str x
 | .tup ds,v=>∃ a vs,v=.ref a∧SqT K Z a vs∧Reps K C Z ds vs
 | .lst ds,v=>∃ a vs,v=.ref a∧SqL K Z a vs∧Reps K C Z ds vs
 | .exc k,v=>∃ a,v=.ref a∧Z a=some (excO C k a)
 | .fn k,v=>v=.ref (C k)
 | .tab ks ds,v=>∃ a kvs,v=.ref a∧Z a=some (tabO a kvs)∧kvs.map (·.1)=ks∧(∀ x∈kvs,SqT K Z x.2.1 (x.1.map V.int))∧Reps K C Z ds (kvs.map (·.2.2))
 | .dic ks ds,v=>∃ a kvs,v=.ref a∧(∃ o,Z a=some (.frz o (.dK kvs)))∧kvs.map (·.1)=ks∧Reps K C Z ds (kvs.map (·.2))
 | .ptr a,v=>v=.ref a
def Reps (K:PySem.W.Frag)(C:Nat→Addr)(Z:Hp):List D→List V→Prop
 | [],vs=>vs=[]
 | d::ds,vs=>∃ v r,vs=v::r∧Rep K C Z d v∧Reps K C Z ds r
end
theorem _root_.L2.SqT.mono {K:PySem.W.Frag}{Z Z':Hp}{a:Addr}{xs:List V}(e:Same Z Z')(h:SqT K Z a xs):SqT K Z' a xs:=by
 rcases h with (h | ⟨o,h⟩) | h
 ·exact .inl (.inl (e _ _ h))
 ·exact .inl (.inr ⟨o,e _ _ h⟩)
 ·exact .inr h
theorem RowsT.mono {K:PySem.W.Frag}{Z Z':Hp}(e:Same Z Z'):∀ {as:List Addr} {kss:List (List Int)},RowsT K Z as kss→RowsT K Z' as kss
 | [],[],_=>True.intro
 | b::as,ks::kss,h=>⟨h.1.mono e,RowsT.mono e h.2⟩
 | [],_::_,h=>h.elim
 | _::_,[],h=>h.elim
theorem SqR.mono {K:PySem.W.Frag}{Z Z':Hp}{a:Addr}{kss:List (List Int)}(h:SqR K Z a kss)(e:Same Z Z'):SqR K Z' a kss:=let ⟨as,p,q⟩:=h;⟨as,p.mono e,q.mono e⟩
section
variable {K:PySem.W.Frag}{C:Nat→Addr}{Z Z':Hp}
mutual
theorem Rep.mono (e:Same Z Z'):∀ (d:D) (v:V),Rep K C Z d v→Rep K C Z' d v
 | .non,v,h=>by rw[Rep]at h ⊢;exact h
 | .bl b,v,h=>by rw[Rep]at h ⊢;exact h
 | .int i,v,h=>by rw[Rep]at h ⊢;exact h
 | .str x,v,h=>by rw[Rep]at h ⊢;exact h
 | .fn k,v,h=>by rw[Rep]at h ⊢;exact h
 | .tup ds,v,h=>by
  rw[Rep]at h ⊢
  obtain⟨a,vs,h1,h2,h3⟩:=h
  exact⟨a,vs,h1,h2.mono e,Reps.mono e ds vs h3⟩
 | .lst ds,v,h=>by
  rw[Rep]at h ⊢
  obtain⟨a,vs,h1,h2,h3⟩:=h
  exact⟨a,vs,h1,e.seq h2,Reps.mono e ds vs h3⟩
 | .exc k,v,h=>by
  rw[Rep]at h ⊢
  obtain⟨a,h1,h2⟩:=h
  exact⟨a,h1,e _ _ h2⟩
 | .tab ks ds,v,h=>by
  rw[Rep]at h ⊢
  obtain⟨a,kvs,h1,h2,h3,h5,h4⟩:=h
  exact⟨a,kvs,h1,e _ _ h2,h3,fun x hx=>(h5 x hx).mono e,Reps.mono e ds _ h4⟩
 | .dic ks ds,v,h=>by
  rw[Rep]at h ⊢
  obtain⟨a,kvs,h1,⟨o,h2⟩,h3,h4⟩:=h
  exact⟨a,kvs,h1,⟨o,e _ _ h2⟩,h3,Reps.mono e ds _ h4⟩
 | .ptr a,v,h=>by
  rw[Rep]at h ⊢
  exact h
theorem Reps.mono (e:Same Z Z'):∀ (ds:List D) (vs:List V),Reps K C Z ds vs→Reps K C Z' ds vs
 | [],vs,h=>by rw[Reps]at h ⊢;exact h
 | d::ds,vs,h=>by
  rw[Reps]at h ⊢
  obtain⟨v,r,h1,h2,h3⟩:=h
  exact⟨v,r,h1,Rep.mono e d v h2,Reps.mono e ds r h3⟩
end
theorem Reps.nil:Reps K C Z [] []:=by rw[Reps]
theorem Reps.cons {d:D}{v:V}{ds:List D}{vs:List V}(h:Rep K C Z d v)(t:Reps K C Z ds vs):Reps K C Z (d::ds) (v::vs):=by
 rw[Reps];exact⟨v,vs,rfl,h,t⟩
theorem Reps.uncons {d:D}{v:V}{ds:List D}{vs:List V}(h:Reps K C Z (d::ds) (v::vs)):Rep K C Z d v∧Reps K C Z ds vs:=by
 rw[Reps]at h
 grind
theorem Reps.length:∀ {ds:List D} {vs:List V},Reps K C Z ds vs→ds.length=vs.length
 | [],vs,h=>by rw[Reps]at h;subst h;rfl
 | d::ds,vs,h=>by
  rw[Reps]at h
  obtain⟨v,r,e,_,h2⟩:=h
  subst e
  simp[Reps.length h2]
theorem Reps.get:∀ {ds:List D} {vs:List V} {i:Nat} {d:D},Reps K C Z ds vs→ds[i]?=some d→∃ v,vs[i]?=some v∧Rep K C Z d v
 | [],vs,i,d,h,e=>by simp at e
 | d'::ds,vs,i,d,h,e=>by
  rw[Reps]at h
  obtain⟨v,r,q,h1,h2⟩:=h
  subst q
  cases i with
  | zero=>simp at e;subst e;exact⟨v,rfl,h1⟩
  | succ i =>
   obtain⟨v',e1,h3⟩:=Reps.get h2 (by simpa using e)
   exact⟨v',by simpa using e1,h3⟩
theorem Reps.get':∀ {ds:List D} {vs:List V} {i:Nat} {v:V},Reps K C Z ds vs→vs[i]?=some v→∃ d,ds[i]?=some d∧Rep K C Z d v
 | [],vs,i,v,h,e=>by rw[Reps]at h;subst h;simp at e
 | d'::ds,vs,i,v,h,e=>by
  rw[Reps]at h
  obtain⟨v0,r,q,h1,h2⟩:=h
  subst q
  cases i with
  | zero=>simp at e;subst e;exact⟨d',rfl,h1⟩
  | succ i =>
   obtain⟨d,e1,h3⟩:=Reps.get' h2 (by simpa using e)
   exact⟨d,by simpa using e1,h3⟩
theorem Reps.append:∀ {ds es:List D} {vs us:List V},Reps K C Z ds vs→Reps K C Z es us→Reps K C Z (ds++es) (vs++us)
 | [],es,vs,us,h,h'=>by rw[Reps]at h;subst h;exact h'
 | d::ds,es,vs,us,h,h'=>by
  rw[Reps]at h
  obtain⟨v,r,q,h1,h2⟩:=h
  subst q
  exact Reps.cons h1 (Reps.append h2 h')
theorem Reps.take:∀ {ds:List D} {vs:List V} (n:Nat),Reps K C Z ds vs→Reps K C Z (ds.take n) (vs.take n)
 | [],vs,n,h=>by rw[Reps]at h;subst h;simpa using Reps.nil
 | d::ds,vs,n,h=>by
  rw[Reps]at h
  obtain⟨v,r,q,h1,h2⟩:=h
  subst q
  cases n with
  | zero=>exact Reps.nil
  | succ n=>exact Reps.cons h1 (Reps.take n h2)
theorem Reps.drop:∀ {ds:List D} {vs:List V} (n:Nat),Reps K C Z ds vs→Reps K C Z (ds.drop n) (vs.drop n)
 | [],vs,n,h=>by rw[Reps]at h;subst h;simpa using Reps.nil
 | d::ds,vs,n,h=>by
  rw[Reps]at h
  obtain⟨v,r,q,h1,h2⟩:=h
  subst q
  cases n with
  | zero=>exact Reps.cons h1 h2
  | succ n=>exact Reps.drop n h2
end
structure Ex (H Z H' Z':Hp):Prop where
 same:Same H H'
 z:Same Z Z'
 sub:Same Z' H'
 new:∀ b,Z' b≠none→Z b≠none∨H b=none
theorem Ex.refl {H Z:Hp}(s:Same Z H):Ex H Z H Z:=⟨Same.refl _,Same.refl _,s,fun _ h=>.inl h⟩
theorem Ex.trans {H Z H1 Z1 H2 Z2:Hp}(a:Ex H Z H1 Z1)(b:Ex H1 Z1 H2 Z2):Ex H Z H2 Z2 :=
 ⟨a.same.trans b.same,a.z.trans b.z,b.sub,fun c h=>(b.new c h).elim (fun h1=>a.new c h1) fun h1=>.inr (a.same.free h1)⟩
theorem aC {H:Hp}{p:Addr}{o:HO}(h:H p=none):Same H (upd H p o):=fun b u e=>by
 rw[ag (aN e h)];exact e
theorem Ex.alloc {H Z:Hp}{p:Addr}{o:HO}(s:Same Z H)(h:H p=none):Ex H Z (upd H p o) (upd Z p o):=by
 have hz:Z p=none:=s.free h
 refine⟨aC h,aC hz,fun b u e=>?_,fun b hb=>?_⟩
 ·by_cases q:b=p
  ·subst q;rw[aj]at e ⊢;exact e
  ·rw[ag q]at e ⊢;exact s b u e
 ·by_cases q:b=p
  ·subst q;exact .inr h
  ·rw[ag q]at hb;exact .inl hb
theorem Ex.hidden {H Z:Hp}{p:Addr}{o:HO}(s:Same Z H)(h:H p=none):Ex H Z (upd H p o) Z :=
 ⟨aC h,Same.refl _,s.trans (aC h),fun _ hb=>.inl hb⟩
inductive Sl where
 | val (d:D) | own (ds:List D) | mat (m:List (List D)) | dic (m:List (Key×D)) | dit (m:List (List Int×D)) | dir (m:List (List (List Int)×D))
abbrev SS:=List (Option Sl)
structure Fx where
 K:PySem.W.Frag
 C:Nat→Addr
 H0:Hp
 Z0:Hp
 E:XK
def Rows (F:Fx)(H Z:Hp):List (List D)→List Addr→Prop
 | [],[]=>True
 | ds::m,r::rs=>(∃ vs,H r=some (.lst vs)∧Reps F.K F.C Z ds vs)∧Rows F H Z m rs
 | _,_=>False
def Pairs {κ:Type}(F:Fx)(Z:Hp)(m:List (κ×D))(kvs:List (κ×V)):Prop:=kvs.map Prod.fst=m.map Prod.fst∧Reps F.K F.C Z (m.map Prod.snd) (kvs.map Prod.snd)
def Ow (F:Fx)(H Z:Hp):Sl→V→List Addr→Prop
 | .val d,v,A=>A=[]∧Rep F.K F.C Z d v
 | .own ds,v,A=>∃ a vs,v=.ref a∧A=[a]∧H a=some (.lst vs)∧Reps F.K F.C Z ds vs
 | .mat m,v,A=>∃ a rs,v=.ref a∧A=a::rs∧H a=some (.lst (rs.map V.ref))∧Rows F H Z m rs
 | .dic m,v,A=>∃ a kvs,v=.ref a∧A=[a]∧H a=some (.dK kvs)∧Pairs F Z m kvs
 | .dit m,v,A=>∃ a kvs,v=.ref a∧A=[a]∧H a=some (tabO a kvs)∧kvs.map (·.1)=m.map (·.1)∧(∀ x∈kvs,SqT F.K Z x.2.1 (x.1.map V.int))∧Reps F.K F.C Z (m.map (·.2)) (kvs.map (·.2.2))
 | .dir m,v,A=>∃ a kvs,v=.ref a∧A=[a]∧H a=some (rabO a kvs)∧kvs.map (·.1)=m.map (·.1)∧(∀ x∈kvs,SqR F.K Z x.2.1 x.1)∧Reps F.K F.C Z (m.map (·.2)) (kvs.map (·.2.2))
structure Priv (F:Fx)(Z:Hp)(A:List Addr):Prop where
 nd:A.Nodup
 z:∀ a∈A,Z a=none
 h0:∀ a∈A,F.H0 a=none
structure StOk (F:Fx)(H Z:Hp)(S:SS)(σ:St):Prop where
 ex:Ex F.H0 F.Z0 H Z
 len:S.length=σ.length
 sl:∀ (i:Nat) (x:Sl),S[i]?=some (some x)→∃ v A,σ[i]?=some (some v)∧Ow F H Z x v A∧Priv F Z A
 dj:∀ (i j:Nat) (x y:Sl) (v w:V) (A B:List Addr),i≠j→S[i]?=some (some x)→S[j]?=some (some y)→σ[i]?=some (some v)→σ[j]?=some (some w)→Ow F H Z x v A→Ow F H Z y w B→∀ a∈A,a∉B
section
variable {F:Fx}{H Z H' Z':Hp}{S:SS}{σ:St}{x:Sl}{v:V}{A B:List Addr}
theorem Rows.mono (hz:Same Z Z'):∀ {m:List (List D)} {rs:List Addr},Rows F H Z m rs→(∀ a∈rs,∀ o,H a=some o→H' a=some o)→Rows F H' Z' m rs
 | [],[],_,_=>trivial
 | ds::m,r::rs,h,k=>by
  obtain⟨⟨vs,e,q⟩,h⟩:=h
  exact⟨⟨vs,k r (.head _) _ e,q.mono hz⟩,Rows.mono hz h fun a ha=>k a (.tail _ ha)⟩
 | [],_::_,h,_=>h.elim
 | _::_,[],h,_=>h.elim
theorem Rows.there:∀ {m:List (List D)} {rs:List Addr},Rows F H Z m rs→∀ a∈rs,∃ o,H a=some o
 | [],[],_,a,ha=>nomatch ha
 | ds::m,r::rs,h,a,ha=>by
  obtain⟨⟨vs,e,q⟩,h⟩:=h
  rcases List.mem_cons.mp ha with rfl | ha
  ·exact⟨_,e⟩
  ·exact Rows.there h a ha
 | [],_::_,h,_,_=>h.elim
 | _::_,[],h,_,_=>h.elim
theorem Rows.len:∀ {m:List (List D)} {rs:List Addr},Rows F H Z m rs→rs.length=m.length
 | [],[],_=>rfl
 | ds::m,r::rs,h=>by rw[List.length_cons,List.length_cons,Rows.len h.2]
 | [],_::_,h=>h.elim
 | _::_,[],h=>h.elim
theorem Rows.at:∀ {m:List (List D)} {rs:List Addr} {j:Nat} {ds:List D},Rows F H Z m rs→m[j]?=some ds→∃ r vs,rs[j]?=some r∧H r=some (.lst vs)∧Reps F.K F.C Z ds vs
 | ds::m,r::rs,0,_,h,e=>by
  obtain⟨⟨vs,q,k⟩,h⟩:=h
  cases e
  exact⟨r,vs,rfl,q,k⟩
 | ds::m,r::rs,j+1,_,h,e=>Rows.at (j:=j) h.2 e
 | [],_,_,_,_,e=>by simp at e
 | _::_,[],_,_,h,_=>h.elim
theorem lO:∀ {rs qs:List Addr},rs.map V.ref=qs.map V.ref→rs=qs
 | [],[],_=>rfl
 | r::rs,q::qs,h=>by
  rw[List.map_cons,List.map_cons]at h
  injection h with h1 h2
  injection h1 with h1
  rw[h1,lO h2]
 | [],_::_,h=>nomatch h
 | _::_,[],h=>nomatch h
theorem Ow.mono (hz:Same Z Z')(h:Ow F H Z x v A)(hs:∀ a∈A,∀ o,H a=some o→H' a=some o):Ow F H' Z' x v A:=by
 cases x with
 | val d=>exact⟨h.1,h.2.mono hz⟩
 | own ds =>
  obtain⟨a,vs,e1,e2,e3,r⟩:=h
  exact⟨a,vs,e1,e2,hs a (by grind) _ e3,r.mono hz⟩
 | mat m =>
  obtain⟨a,rs,e1,e2,e3,r⟩:=h
  exact⟨a,rs,e1,e2,hs a (by grind) _ e3,r.mono hz fun b hb=>hs b (by grind)⟩
 | dic m =>
  obtain⟨a,vs,e1,e2,e3,r⟩:=h
  exact⟨a,vs,e1,e2,hs a (by grind) _ e3,r.1,r.2.mono hz⟩
 | dit m =>
  obtain⟨a,vs,e1,e2,e3,r⟩:=h
  exact⟨a,vs,e1,e2,hs a (by grind) _ e3,r.1,fun x hx=>(r.2.1 x hx).mono hz,r.2.2.mono hz⟩
 | dir m =>
  obtain⟨a,vs,e1,e2,e3,r⟩:=h
  exact⟨a,vs,e1,e2,hs a (by grind) _ e3,r.1,fun x hx=>(r.2.1 x hx).mono hz,r.2.2.mono hz⟩
theorem Ow.det (h:Ow F H Z x v A)(h':Ow F H Z x v B):A=B:=by
 cases x with
 | val d=>rw[h.1,h'.1]
 | own ds =>
  obtain⟨a,vs,e1,e2,_⟩:=h
  obtain⟨b,us,f1,f2,_⟩:=h'
  grind
 | mat m =>
  obtain⟨a,rs,e1,e2,e3,_⟩:=h
  obtain⟨b,qs,f1,f2,f3,_⟩:=h'
  rw[e1]at f1;cases f1
  rw[e3]at f3
  injection f3 with f3
  injection f3 with f3
  rw[e2,f2,lO f3]
 | dic m =>
  obtain⟨a,vs,e1,e2,_⟩:=h
  obtain⟨b,us,f1,f2,_⟩:=h'
  grind
 | dit m =>
  obtain⟨a,vs,e1,e2,_⟩:=h
  obtain⟨b,us,f1,f2,_⟩:=h'
  grind
 | dir m =>
  obtain⟨a,vs,e1,e2,_⟩:=h
  obtain⟨b,us,f1,f2,_⟩:=h'
  grind
theorem Ow.there (h:Ow F H Z x v A):∀ a∈A,∃ o,H a=some o:=fun a ha=>by
 cases x with
 | val d=>rw[h.1]at ha;cases ha
 | own ds =>
  obtain⟨b,vs,e1,e2,e3,r⟩:=h
  grind
 | mat m =>
  obtain⟨b,rs,e1,e2,e3,r⟩:=h
  rw[e2]at ha
  rcases List.mem_cons.mp ha with rfl | ha
  ·exact⟨_,e3⟩
  ·exact r.there a ha
 | dic m =>
  obtain⟨b,vs,e1,e2,e3,r⟩:=h
  grind
 | dit m =>
  obtain⟨b,vs,e1,e2,e3,r⟩:=h
  grind
 | dir m =>
  obtain⟨b,vs,e1,e2,e3,r⟩:=h
  grind
theorem StOk.sub (h:StOk F H Z S σ):Same Z H:=h.ex.sub
theorem StOk.more (h:StOk F H Z S σ)(x:Ex H Z H' Z'):StOk F H' Z' S σ:=by
 have up:∀ {y:Sl} {v:V} {A:List Addr},Ow F H Z y v A→Ow F H' Z' y v A:=fun o=>o.mono x.z fun a _ o e=>x.same _ _ e
 refine⟨h.ex.trans x,h.len,fun i y e=>?_,fun i j y z v w A B hij e1 e2 e3 e4 o1 o2=>?_⟩
 ·obtain⟨v,A,e1,o,p⟩:=h.sl i y e
  refine⟨v,A,e1,up o,p.nd,fun a ha=>?_,p.h0⟩
  cases q:Z' a with
  | none=>rfl
  | some u =>
   obtain⟨w,hw⟩:=o.there a ha
   rcases x.new a (by rw[q];simp) with z | z
   ·exact absurd (p.z a ha) z
   ·rw[hw]at z;cases z
 ·obtain⟨v',A',f1,q1,_⟩:=h.sl i y e1
  obtain⟨w',B',f2,q2,_⟩:=h.sl j z e2
  rw[e3]at f1;cases f1
  rw[e4]at f2;cases f2
  rw[o1.det (up q1),o2.det (up q2)]
  exact h.dj i j y z v w A' B' hij e1 e2 e3 e4 q1 q2
theorem StOk.val (h:StOk F H Z S σ)(i:Nat)(d:D)(e:S[i]?=some (some (.val d))):∃ v,σ[i]?=some (some v)∧Rep F.K F.C Z d v:=by
 obtain⟨v,A,e1,o,_⟩:=h.sl i _ e
 exact⟨v,e1,o.2⟩
theorem StOk.own (h:StOk F H Z S σ)(i:Nat)(ds:List D)(e:S[i]?=some (some (.own ds))):∃ a vs,σ[i]?=some (some (.ref a))∧H a=some (.lst vs)∧Z a=none∧F.H0 a=none∧Reps F.K F.C Z ds vs:=by
 obtain⟨v,A,e1,⟨a,vs,rfl,rfl,q,r⟩,p⟩:=h.sl i _ e
 exact⟨a,vs,e1,q,p.z a (.head _),p.h0 a (.head _),r⟩
theorem StOk.mat (h:StOk F H Z S σ)(i:Nat)(m:List (List D))(e:S[i]?=some (some (.mat m))):∃ a rs,σ[i]?=some (some (.ref a))∧H a=some (.lst (rs.map V.ref))∧Rows F H Z m rs∧Priv F Z (a::rs):=by
 obtain⟨v,A,e1,⟨a,rs,rfl,rfl,q,r⟩,p⟩:=h.sl i _ e
 exact⟨a,rs,e1,q,r,p⟩
theorem StOk.put (h:StOk F H Z S σ){i:Nat}(o:Ow F H Z x v A)(p:Priv F Z A)(hn:∀ (j:Nat) (y:Sl) (w:V) (B:List Addr),j≠i→S[j]?=some (some y)→σ[j]?=some (some w)→Ow F H Z y w B→∀ a∈A,a∉B) :
  StOk F H Z (S.set i (some x)) (σ.set i (some v)):=by
 have self:∀ {y:Option Sl},(S.set i (some x))[i]?=some y→y=some x∧i < S.length:=fun {y} e=>by
  by_cases hl:i < S.length
  ·rw[List.getElem?_set_self hl]at e;cases e;exact⟨rfl,hl⟩
  ·rw[List.getElem?_eq_none (by simpa using hl)]at e;cases e
 refine⟨h.ex,by simp[h.len],fun j y e=>?_,fun j k y z w u A' B' hjk e1 e2 e3 e4 o1 o2=>?_⟩
 ·by_cases q:i=j
  ·subst q
   obtain⟨z,hl⟩:=self e
   cases z
   exact⟨v,A,by rw[List.getElem?_set_self (by rw[← h.len];exact hl)],o,p⟩
  ·rw[List.getElem?_set_ne q]at e ⊢
   exact h.sl j y e
 ·by_cases q:i=j
  ·have q2:i≠k:=fun z=>hjk (q ▸ z)
   subst q
   obtain⟨z,hl⟩:=self e1
   cases z
   rw[List.getElem?_set_self (by rw[← h.len];exact hl)]at e3
   cases e3
   rw[List.getElem?_set_ne q2]at e2 e4
   rw[o1.det o]
   exact hn k _ _ _ (Ne.symm q2) e2 e4 o2
  ·rw[List.getElem?_set_ne q]at e1 e3
   by_cases q2:i=k
   ·subst q2
    obtain⟨z,hl⟩:=self e2
    cases z
    rw[List.getElem?_set_self (by rw[← h.len];exact hl)]at e4
    cases e4
    rw[o2.det o]
    exact fun a ha hb=>hn j _ _ _ (Ne.symm q) e1 e3 o1 a hb ha
   ·rw[List.getElem?_set_ne q2]at e2 e4
    exact h.dj j k _ _ _ _ _ _ hjk e1 e2 e3 e4 o1 o2
theorem Priv.nil:Priv F Z []:=⟨List.Pairwise.nil,(fun _ h=>nomatch h),(fun _ h=>nomatch h)⟩
theorem StOk.setVal (h:StOk F H Z S σ){i:Nat}{d:D}{v:V}(r:Rep F.K F.C Z d v):StOk F H Z (S.set i (some (.val d))) (σ.set i (some v)) :=
 h.put ⟨rfl,r⟩ Priv.nil fun _ _ _ _ _ _ _ _ _ ha=>nomatch ha
theorem StOk.putNew (h:StOk F H Z S σ){i:Nat}(e:Ex H Z H' Z')(o:Ow F H' Z' x v A)(p:Priv F Z' A)(hn:∀ a∈A,H a=none):StOk F H' Z' (S.set i (some x)) (σ.set i (some v)):=by
 refine(h.more e).put o p fun j y w B hj e1 e2 o2 a ha hb=>?_
 obtain⟨w',B',f1,q,_⟩:=h.sl j y e1
 rw[e2]at f1;cases f1
 rw[o2.det (q.mono e.z fun a _ o e'=>e.same _ _ e')]at hb
 obtain⟨u,hu⟩:=q.there a hb
 rw[hn a ha]at hu;cases hu
theorem StOk.newOwn (h:StOk F H Z S σ){i:Nat}{a:Addr}{ds:List D}{vs:List V}(hp:H a=none)(r:Reps F.K F.C Z ds vs):StOk F (upd H a (.lst vs)) Z (S.set i (some (.own ds))) (σ.set i (some (.ref a))) :=
 h.putNew (Ex.hidden h.sub hp) ⟨a,vs,rfl,rfl,aj,r⟩ ⟨by simp,fun b hb=>by cases List.mem_singleton.mp hb;exact h.sub.free hp,fun b hb=>by cases List.mem_singleton.mp hb;exact h.ex.same.free hp⟩ fun b hb=>by cases List.mem_singleton.mp hb;exact hp
theorem StOk.rewr (h:StOk F H Z S σ){i:Nat}{x':Sl}(e:S[i]?=some (some x))(ev:σ[i]?=some (some v))(o:Ow F H Z x v A)(o':Ow F H' Z x' v A)(hH:∀ b,b∉A→H' b=H b):StOk F H' Z (S.set i (some x')) σ:=by
 have hl:=(List.getElem?_eq_some_iff.mp e).1
 obtain⟨v',A',f1,q1,p⟩:=h.sl i x e
 rw[ev]at f1;cases f1
 cases o.det q1
 have up:∀ {j:Nat} {y:Sl} {w:V} {B:List Addr},j≠i→S[j]?=some (some y)→σ[j]?=some (some w)→Ow F H Z y w B→Ow F H' Z y w B:=fun {j y w B} hj e1 e2 q=>q.mono (Same.refl _) fun b hb u eu=>by
  rw[hH b (h.dj j i y x w v B A hj e1 e e2 ev q o b hb)];exact eu
 refine⟨⟨fun b u q=>?_,h.ex.z,fun b u q=>?_,h.ex.new⟩,by simp[h.len],fun j y q=>?_,fun j k y z w u A' B' hjk e1 e2 e3 e4 o1 o2=>?_⟩
 ·rw[hH b fun z=>by rw[p.h0 b z]at q;cases q];exact h.ex.same b u q
 ·rw[hH b fun z=>by rw[p.z b z]at q;cases q];exact h.ex.sub b u q
 ·by_cases z:i=j
  ·subst z
   rw[List.getElem?_set_self hl]at q;cases q
   exact⟨v,A,ev,o',p⟩
  ·rw[List.getElem?_set_ne z]at q
   obtain⟨w,B,g1,g2,g3⟩:=h.sl j y q
   exact⟨w,B,g1,up (Ne.symm z) q g1 g2,g3⟩
 ·have one:∀ {j:Nat} {y:Sl} {w:V} {B:List Addr},(S.set i (some x'))[j]?=some (some y)→σ[j]?=some (some w)→Ow F H' Z y w B→∃ y0,S[j]?=some (some y0)∧Ow F H Z y0 w B:=fun {j y w B} g1 g2 g3=>by
   by_cases z:i=j
   ·subst z
    rw[List.getElem?_set_self hl]at g1;cases g1
    rw[ev]at g2;cases g2
    rw[g3.det o']
    exact⟨x,e,o⟩
   ·rw[List.getElem?_set_ne z]at g1
    obtain⟨w',B',k1,k2,_⟩:=h.sl j y g1
    rw[g2]at k1;cases k1
    rw[g3.det (up (Ne.symm z) g1 g2 k2)]
    exact⟨y,g1,k2⟩
  obtain⟨y0,a1,a2⟩:=one e1 e3 o1
  obtain⟨z0,b1,b2⟩:=one e2 e4 o2
  exact h.dj j k y0 z0 w u A' B' hjk a1 b1 e3 e4 a2 b2
theorem StOk.write (h:StOk F H Z S σ){i:Nat}{ds es:List D}{a:Addr}{us:List V}(e:S[i]?=some (some (.own ds)))(ha:σ[i]?=some (some (.ref a)))(r:Reps F.K F.C Z es us) :
  StOk F (upd H a (.lst us)) Z (S.set i (some (.own es))) σ:=by
 obtain⟨a',vs,e1,e2,e3,e4,r0⟩:=h.own i ds e
 rw[ha]at e1;cases e1
 exact h.rewr e ha ⟨a,vs,rfl,rfl,e2,r0⟩ ⟨a,us,rfl,rfl,aj,r⟩ fun b hb=>ag fun z=>hb (by rw[z];exact .head _)
theorem StOk.frzAllH {F:Fx}{H Z H' Z':Hp}{S:SS}{ρ:St}{x:Sl}{v:V}{A:List Addr}{d:D}(h:StOk F H Z S ρ){i:Nat}(e:S[i]?=some (some x))(ev:ρ[i]?=some (some v))(o:Ow F H Z x v A)(hH:∀ b,b∉A→H' b=H b)(hz:Same Z Z')(hsub:Same Z' H')(hnew:∀ b,Z' b≠none→Z b≠none∨b∈A)(r:Rep F.K F.C Z' d v):StOk F H' Z' (S.set i (some (.val d))) ρ:=by
 have hl:=(List.getElem?_eq_some_iff.mp e).1
 obtain⟨v',A',f1,q1,p⟩:=h.sl i x e
 rw[ev]at f1;cases f1
 cases o.det q1
 have up:∀ {j:Nat} {y:Sl} {w:V} {B:List Addr},j≠i→S[j]?=some (some y)→ρ[j]?=some (some w)→Ow F H Z y w B→Ow F H' Z' y w B:=fun {j y w B} hj e1 e2 q=>q.mono hz fun b hb u eu=>by
  rw[hH b (h.dj j i y x w v B A hj e1 e e2 ev q o b hb)];exact eu
 refine⟨⟨fun b u q=>?_,h.ex.z.trans hz,hsub,fun b q=>?_⟩,by simp[h.len],fun j y q=>?_,fun j k y z w u A' B' hjk e1 e2 e3 e4 o1 o2=>?_⟩
 ·rw[hH b fun z=>by rw[p.h0 b z]at q;cases q];exact h.ex.same b u q
 ·rcases hnew b q with z | z
  ·exact h.ex.new b z
  ·exact .inr (p.h0 b z)
 ·by_cases z:i=j
  ·subst z
   rw[List.getElem?_set_self hl]at q;cases q
   exact⟨v,[],ev,⟨rfl,r⟩,Priv.nil⟩
  ·rw[List.getElem?_set_ne z]at q
   obtain⟨w,B,g1,g2,g3⟩:=h.sl j y q
   refine⟨w,B,g1,up (Ne.symm z) q g1 g2,g3.nd,fun b hb=>?_,g3.h0⟩
   cases qz:Z' b with
   | none=>rfl
   | some u =>
    rcases hnew b (by rw[qz];simp) with y1 | y1
    ·exact absurd (g3.z b hb) y1
    ·exact absurd y1 (h.dj j i _ _ _ _ _ _ (Ne.symm z) q e g1 ev g2 o b hb)
 ·have one:∀ {j:Nat} {y:Sl} {w:V} {B:List Addr},(S.set i (some (.val d)))[j]?=some (some y)→ρ[j]?=some (some w)→Ow F H' Z' y w B→B=[]∨(j≠i∧S[j]?=some (some y)∧Ow F H Z y w B):=fun {j y w B} g1 g2 g3=>by
   by_cases z:i=j
   ·subst z
    rw[List.getElem?_set_self hl]at g1;cases g1
    exact .inl g3.1
   ·rw[List.getElem?_set_ne z]at g1
    obtain⟨w',B',k1,k2,_⟩:=h.sl j y g1
    rw[g2]at k1;cases k1
    rw[g3.det (up (Ne.symm z) g1 g2 k2)]
    exact .inr ⟨Ne.symm z,g1,k2⟩
  rcases one e1 e3 o1 with z1 | ⟨_,z1,z2⟩
  ·rw[z1];exact fun a ha=>nomatch ha
  ·rcases one e2 e4 o2 with y1 | ⟨_,y1,y2⟩
   ·rw[y1];exact fun a _ ha=>nomatch ha
   ·exact h.dj j k _ _ _ _ _ _ hjk z1 y1 e3 e4 z2 y2
theorem StOk.frzAll (h:StOk F H Z S σ){i:Nat}{d:D}(e:S[i]?=some (some x))(ev:σ[i]?=some (some v))(o:Ow F H Z x v A)(hz:Same Z Z')(hsub:Same Z' H)(hnew:∀ b,Z' b≠none→Z b≠none∨b∈A)(r:Rep F.K F.C Z' d v):StOk F H Z' (S.set i (some (.val d))) σ:=h.frzAllH e ev o (fun _ _=>rfl) hz hsub hnew r
theorem StOk.freeze (h:StOk F H Z S σ){i:Nat}{ds:List D}(e:S[i]?=some (some (.own ds))):∃ Z',Same Z Z'∧StOk F H Z' (S.set i (some (.val (.lst ds)))) σ:=by
 obtain⟨a,vs,e1,e2,e3,e4,r⟩:=h.own i ds e
 have hz:Same Z (upd Z a (.lst vs)):=aC e3
 refine⟨upd Z a (.lst vs),hz,h.frzAll e e1 ⟨a,vs,rfl,rfl,e2,r⟩ hz (fun b o q=>?_) (fun b q=>?_) (by rw[Rep];exact⟨a,vs,rfl,SqL.of aj,r.mono hz⟩)⟩
 ·by_cases y:b=a
  ·subst y;rw[aj]at q;cases q;exact e2
  ·rw[ag y]at q;exact h.ex.sub b o q
 ·by_cases y:b=a
  ·exact .inr (by rw[y];exact .head _)
  ·rw[ag y]at q;exact .inl q
theorem Rows.reps (hH:∀ b∈B,Z' b=H b)(hz:Same Z Z'):∀ {m:List (List D)} {rs:List Addr},(∀ r∈rs,r∈B)→Rows F H Z m rs→Reps F.K F.C Z' (m.map .lst) (rs.map V.ref)
 | [],[],_,_=>by rw[List.map_nil,List.map_nil,Reps]
 | ds::m,r::rs,k,h=>by
  obtain⟨⟨vs,e,q⟩,h⟩:=h
  rw[List.map_cons,List.map_cons,Reps]
  exact⟨_,_,rfl,by rw[Rep];exact⟨r,vs,rfl,SqL.of (by rw[hH r (k r (.head _))];exact e),q.mono hz⟩,Rows.reps hH hz (fun a ha=>k a (.tail _ ha)) h⟩
 | [],_::_,_,h=>h.elim
 | _::_,[],_,h=>h.elim
theorem StOk.freezeM (h:StOk F H Z S σ){i:Nat}{m:List (List D)}(e:S[i]?=some (some (.mat m))):∃ Z',Same Z Z'∧StOk F H Z' (S.set i (some (.val (.lst (m.map .lst))))) σ:=by
 obtain⟨a,rs,e1,e2,r,p⟩:=h.mat i m e
 have hin:∀ b∈a::rs,(if b∈a::rs then H b else Z b)=H b:=fun b hb=>if_pos hb
 have hz:Same Z (fun b=>if b∈a::rs then H b else Z b):=fun b o q=>by
  by_cases y:b∈a::rs
  ·rw[p.z b y]at q;cases q
  ·show (if b∈a::rs then H b else Z b)=_;rw[if_neg y];exact q
 refine⟨fun b=>if b∈a::rs then H b else Z b,hz,h.frzAll (x:=.mat m) (A:=a::rs) e e1 ⟨a,rs,rfl,rfl,e2,r⟩ hz (fun b o q=>?_) (fun b q=>?_) ?_⟩
 ·by_cases y:b∈a::rs
  ·have q':(if b∈a::rs then H b else Z b)=some o:=q;rw[if_pos y]at q';exact q'
  ·have q':(if b∈a::rs then H b else Z b)=some o:=q;rw[if_neg y]at q';exact h.ex.sub b o q'
 ·by_cases y:b∈a::rs
  ·exact .inr y
  ·have q':(if b∈a::rs then H b else Z b)≠none:=q;rw[if_neg y]at q';exact .inl q'
 ·rw[Rep]
  exact⟨a,rs.map V.ref,rfl,SqL.of (by show (if a∈a::rs then H a else Z a)=_;rw[if_pos (.head _)];exact e2),Rows.reps (B:=a::rs) hin hz (fun b hb=>.tail _ hb) r⟩
end
theorem sW {F G:Fx}{H Z:Hp}(hK:G.K=F.K:=by rfl)(hC:G.C=F.C:=by rfl):∀ {m:List (List D)} {rs:List Addr},Rows F H Z m rs→Rows G H Z m rs
 | [],[],_=>trivial
 | ds::m,r::rs,h=>by
  obtain⟨⟨vs,e,q⟩,h⟩:=h
  exact⟨⟨vs,e,by rw[hK,hC];exact q⟩,sW hK hC h⟩
 | [],_::_,h=>h.elim
 | _::_,[],h=>h.elim
theorem ow_K {F G:Fx}{H Z:Hp}{x:Sl}{v:V}{A:List Addr}(h:Ow F H Z x v A)(hK:G.K=F.K:=by rfl)(hC:G.C=F.C:=by rfl):Ow G H Z x v A:=by
 cases x with
 | val d=>exact⟨h.1,by rw[hK,hC];exact h.2⟩
 | own ds=>obtain⟨a,vs,e1,e2,e3,r⟩:=h;exact⟨a,vs,e1,e2,e3,by rw[hK,hC];exact r⟩
 | mat m=>obtain⟨a,rs,e1,e2,e3,r⟩:=h;exact⟨a,rs,e1,e2,e3,sW hK hC r⟩
 | dic m=>obtain⟨a,vs,e1,e2,e3,r⟩:=h;exact⟨a,vs,e1,e2,e3,r.1,by rw[hK,hC];exact r.2⟩
 | dit m=>obtain⟨a,vs,e1,e2,e3,r⟩:=h;exact⟨a,vs,e1,e2,e3,r.1,by rw[hK];exact r.2.1,by rw[hK,hC];exact r.2.2⟩
 | dir m=>obtain⟨a,vs,e1,e2,e3,r⟩:=h;exact⟨a,vs,e1,e2,e3,r.1,by rw[hK];exact r.2.1,by rw[hK,hC];exact r.2.2⟩
def WG {α:Type}(F:Fx)(H Z:Hp)(r:R α)(P:α→Hp→Hp→Prop):Prop:=match r with
 | .ok a=>∀ H' Z',Ex H Z H' Z'→P a H' Z'
 | .err k=>∀ H',Same H H'→F.E (.ref (F.C k)) none H'
 | .stuck=>False
section
variable {α:Type}{F:Fx}{H Z H1 Z1:Hp}{r:R α}{P P':α→Hp→Hp→Prop}
theorem WG.more (w:WG F H Z r P)(x:Ex H Z H1 Z1):WG F H1 Z1 r P:=by
 cases r with
 | ok a=>exact fun H' Z' y=>w H' Z' (x.trans y)
 | err k=>exact fun H' y=>w H' (x.same.trans y)
 | stuck=>exact w
theorem WG.now {a:α}(w:WG F H Z (.ok a) P)(s:Same Z H):P a H Z:=w H Z (Ex.refl s)
end
def tE (F:Fx)(g:SS→R D):TE:=fun σ H Q=>∃ Z S,StOk F H Z S σ∧WG F H Z (g S) fun d H' Z'=>∀ v,Rep F.K F.C Z' d v→Q v H'
def tT (F:Fx)(g:SS→R Bool):TT:=fun σ H Q=>∃ Z S,StOk F H Z S σ∧WG F H Z (g S) fun b H' _=>Q b H'
def tAl (F:Fx)(g:SS→R (List D)):TA:=fun σ H Q=>∃ Z S,StOk F H Z S σ∧WG F H Z (g S) fun ds H' Z'=>∀ vs,Reps F.K F.C Z' ds vs→Q vs H'
inductive O where
 | nx (S:SS) | rt (d:D) | er (k:Nat) | bk (S:SS) | ct (S:SS) | stuck
def WO (F:Fx)(Z:Hp)(o:O)(D:Ends):Prop:=match o with
 | .nx S=>∀ σ H Z',Same Z Z'→StOk F H Z' S σ→D.nx σ H
 | .rt d=>∀ v H Z',Ex F.H0 F.Z0 H Z'→Rep F.K F.C Z' d v→D.rt v H
 | .er k=>∀ H,Same F.H0 H→F.E (.ref (F.C k)) none H
 | .bk S=>∀ σ H Z',Same Z Z'→StOk F H Z' S σ→D.bk σ H
 | .ct S=>∀ σ H Z',Same Z Z'→StOk F H Z' S σ→D.ct σ H
 | .stuck=>False
theorem WO.more {F:Fx}{Z Z1:Hp}{o:O}{D:Ends}(w:WO F Z o D)(z:Same Z Z1):WO F Z1 o D:=by
 cases o with
 | nx S=>exact fun σ H Z' q=>w σ H Z' (z.trans q)
 | rt d=>exact w
 | er k=>exact w
 | bk S=>exact fun σ H Z' q=>w σ H Z' (z.trans q)
 | ct S=>exact fun σ H Z' q=>w σ H Z' (z.trans q)
 | stuck=>exact w
def tS (F:Fx)(g:SS→O):TS:=fun D σ H=>∃ Z S,StOk F H Z S σ∧WO F Z (g S) D
abbrev FE (X:Cx)(F:Fx)(e:Expr)(g:SS→R D):Prop:=PE X e (tE F g)
abbrev FT (X:Cx)(F:Fx)(e:Expr)(g:SS→R Bool):Prop:=PT X e (tT F g)
abbrev FW (X:Cx)(F:Fx)(e:Expr)(g:SS→R Bool):Prop:=PW X e (tT F g)
abbrev FA (X:Cx)(F:Fx)(es:List Expr)(g:SS→R (List D)):Prop:=PA X es (tAl F g)
abbrev FS (X:Cx)(F:Fx)(st:Stmt)(g:SS→O):Prop:=PS X st (tS F g)
abbrev FSs (X:Cx)(F:Fx)(sts:List Stmt)(g:SS→O):Prop:=PSs X sts (tS F g)
theorem _root_.L2.PE.weak {X:Cx}{e:Expr}{t t':TE}(h:PE X e t)(w:∀ σ H Q,t' σ H Q→t σ H Q):PE X e t':=fun pins s σ H Q I q=>h pins s σ H Q I (w σ H Q q)
theorem _root_.L2.PT.weak {X:Cx}{e:Expr}{t t':TT}(h:PT X e t)(w:∀ σ H Q,t' σ H Q→t σ H Q):PT X e t':=fun pins s σ H Q I q=>h pins s σ H Q I (w σ H Q q)
theorem _root_.L2.PW.weak {X:Cx}{e:Expr}{t t':TT}(h:PW X e t)(w:∀ σ H Q,t' σ H Q→t σ H Q):PW X e t':=fun wh pins s σ H Q I q=>h wh pins s σ H Q I (w σ H Q q)
theorem _root_.L2.PA.weak {X:Cx}{e:List Expr}{t t':TA}(h:PA X e t)(w:∀ σ H Q,t' σ H Q→t σ H Q):PA X e t':=fun p pins s σ H Q I q=>h p pins s σ H Q I (w σ H Q q)
theorem _root_.L2.PS.weak {X:Cx}{e:Stmt}{t t':TS}(h:PS X e t)(w:∀ D σ H,t' D σ H→t D σ H):PS X e t':=fun pins s σ H D I q=>h pins s σ H D I (w D σ H q)
theorem _root_.L2.PSs.weak {X:Cx}{e:List Stmt}{t t':TS}(h:PSs X e t)(w:∀ D σ H,t' D σ H→t D σ H):PSs X e t':=fun pins s σ H D I q=>h pins s σ H D I (w D σ H q)
section
variable {F:Fx}{σ:St}{H Z:Hp}{S:SS}
theorem aA {α:Type}{g:SS→R D}{k:D→R α}{P:α→Hp→Hp→Prop}{Q:VK}(ok:StOk F H Z S σ)(w:WG F H Z ((g S).bind k) P)
  (h:∀ d v H1 Z1,StOk F H1 Z1 S σ→Ex H Z H1 Z1→Rep F.K F.C Z1 d v→WG F H1 Z1 (k d) P→Q v H1):tE F g σ H Q:=by
 refine⟨Z,S,ok,?_⟩
 cases e:g S with
 | ok d =>
  rw[e]at w
  intro H1 Z1 x v r
  exact h d v H1 Z1 (ok.more x) x r (WG.more w x)
 | err k=>rw[e]at w;exact w
 | stuck=>rw[e]at w;exact w
theorem d7 {α:Type}{g:SS→R Bool}{k:Bool→R α}{P:α→Hp→Hp→Prop}{Q:Bool→Hp→Prop}(ok:StOk F H Z S σ)(w:WG F H Z ((g S).bind k) P)
  (h:∀ b H1 Z1,StOk F H1 Z1 S σ→Ex H Z H1 Z1→WG F H1 Z1 (k b) P→Q b H1):tT F g σ H Q:=by
 refine⟨Z,S,ok,?_⟩
 cases e:g S with
 | ok d =>
  rw[e]at w
  intro H1 Z1 x
  exact h d H1 Z1 (ok.more x) x (WG.more w x)
 | err k=>rw[e]at w;exact w
 | stuck=>rw[e]at w;exact w
theorem aO {α:Type}{g:SS→R (List D)}{k:List D→R α}{P:α→Hp→Hp→Prop}{Q:List V→Hp→Prop}(ok:StOk F H Z S σ)(w:WG F H Z ((g S).bind k) P)
  (h:∀ ds vs H1 Z1,StOk F H1 Z1 S σ→Ex H Z H1 Z1→Reps F.K F.C Z1 ds vs→WG F H1 Z1 (k ds) P→Q vs H1):tAl F g σ H Q:=by
 refine⟨Z,S,ok,?_⟩
 cases e:g S with
 | ok d =>
  rw[e]at w
  intro H1 Z1 x v r
  exact h d v H1 Z1 (ok.more x) x r (WG.more w x)
 | err k=>rw[e]at w;exact w
 | stuck=>rw[e]at w;exact w
end
def eVar (i:Nat):SS→R D:=fun S=>match S[i]? with
 | some (some (.val d))=>.ok d
 | _=>.stuck
def eC (d:D):SS→R D:=fun _=>.ok d
section
variable {X:Cx}{F:Fx}{e a b:Expr}{g ga gb:SS→R D}{pos:Pos}
theorem d8 {v:V}{d:D}(h:PE X e (tC v))(r:∀ Z,Rep F.K F.C Z d v):FE X F e (eC d):=h.weak fun σ H Q ⟨Z,S,ok,w⟩=>WG.now w ok.sub v (r Z)
theorem af {i j pos}:FE X F (.Constant (.int i) j pos) (eC (.int i)):=d8 sE fun _=>by rw[Rep]
theorem dA {b j pos}:FE X F (.Constant (.bool b) j pos) (eC (.bl b)):=d8 yH fun _=>by rw[Rep]
theorem nE {x j pos}:FE X F (.Constant (.str x) j pos) (eC (.str x)):=d8 xp fun _=>by rw[Rep]
theorem ac (i:Nat){x:Str}{pos:Pos}(hN:X.N[i]?=some x:=by rfl)(hv:Vis X.env.scope x:=by first | exact Or.inl rfl | exact Or.inr (Or.inl rfl) | exact Or.inr (Or.inr rfl))(hd:(x==("__debug__":Str))=false:=by decide)
  (hcd:(x==("__classdict__":Str))=false:=by decide):FE X F (.Name x pos) (eVar i):=(ci hN hv hd hcd).weak fun σ H Q ⟨Z,S,ok,w⟩=>by
 unfold eVar at w
 split at w
 ·rename_i d e
  obtain⟨v,e1,r⟩:=ok.val i d e
  exact⟨v,e1,WG.now w ok.sub v r⟩
 ·exact w.elim
end
def OpD (F:Fx)(r:R2)(f:D→D→R D):Prop:=∀ (H Z:Hp) (x y:V) (dx dy:D) (Q:VK),Same Z H→Rep F.K F.C Z dx x→Rep F.K F.C Z dy y →
 WG F H Z (f dx dy) (fun d H' Z'=>∀ v,Rep F.K F.C Z' d v→Q v H')→r x y H Q
def eOp (f:D→D→R D)(ga gb:SS→R D):SS→R D:=fun S=>(ga S).bind fun x=>(gb S).bind fun y=>f x y
section
variable {X:Cx}{F:Fx}{e a b c:Expr}{ga gb gc:SS→R D}{pos:Pos}{r:R2}{f:D→D→R D}
theorem kL (hd:OpD F r f):∀ σ H Q,tE F (eOp f ga gb) σ H Q→tOp r (tE F ga) (tE F gb) σ H Q:=fun σ H Q ⟨Z,S,ok,w⟩ =>
 aA ok w fun dx x H1 Z1 ok1 x1 rx w1=>aA ok1 w1 fun dy y H2 Z2 ok2 x2 ry w2=>hd H2 Z2 x y dx dy Q ok2.sub (rx.mono x2.z) ry w2
theorem lP {op:Operator}(ho:OpR X (binaryOp op) r)(hd:OpD F r f)(ha:FE X F a ga)(hb:FE X F b gb):FE X F (.BinOp a op b pos) (eOp f ga gb):=(yK ho ha hb).weak (kL hd)
theorem kM {op:CmpOp}(ho:OpR X (compareOp op) r)(hd:OpD F r f)(ha:FE X F a ga)(hb:FE X F b gb)(hm:behindInMarks op b=false:=by first | exact nomark _ | rfl):FE X F (.Compare a [op] [b] pos) (eOp f ga gb) :=
 (vq ho ha hb hm).weak (kL hd)
theorem yO (ho:IxR X r)(hd:OpD F r f)(ha:FE X F a ga)(hb:FE X F b gb)(hs:PlainIx b:=by intro _ _;rfl):FE X F (.Subscript a b pos) (eOp f ga gb):=(sT ho ha hb hs).weak (kL hd)
def asB (r:R D):R Bool:=r.bind fun d=>match d with
 | .bl b=>.ok b
 | _=>.stuck
def gB (g:SS→R D):SS→R Bool:=fun S=>asB (g S)
theorem sX {t:TE}{g:SS→R D}(h:∀ σ H Q,tE F g σ H Q→t σ H Q):∀ σ H Q,tT F (gB g) σ H Q→tTest t σ H Q:=fun σ H Q ⟨Z,S,ok,w⟩=>by
 refine h σ H _ (aA ok w fun d v H1 Z1 ok1 x1 rv w1=>?_)
 cases d with
 | bl b=>rw[Rep]at rv;exact⟨b,rv,WG.now w1 ok1.sub⟩
 | _=>exact w1.elim
theorem bE {g:SS→R D}(h:FE X F e g)(he:∀ whole,isTrue e X.env whole=(do let v ← whole;standAt e.pos;holding [v] (truthy v)):=by intro _;rfl):FT X F e (gB g) :=
 (xq h he).weak (sX fun _ _ _ q=>q)
theorem eY {op:CmpOp}(ho:OpR X (compareOp op) r)(hd:OpD F r f)(ha:FE X F a ga)(hb:FE X F b gb)(hm:behindInMarks op b=false:=by first | exact nomark _ | rfl):FT X F (.Compare a [op] [b] pos) (gB (eOp f ga gb)) :=
 (vr ho ha hb hm).weak (sX (kL hd))
end
def gAnd (a b:SS→R Bool):SS→R Bool:=fun S=>(a S).bind fun c=>if c=true then b S else .ok false
def gOr (a b:SS→R Bool):SS→R Bool:=fun S=>(a S).bind fun c=>if c=true then .ok true else b S
def gNot (a:SS→R Bool):SS→R Bool:=fun S=>(a S).bind fun c=>.ok (!c)
def eIf (c:SS→R Bool)(a b:SS→R D):SS→R D:=fun S=>(c S).bind fun t=>if t=true then a S else b S
section
variable {X:Cx}{F:Fx}{e a b c:Expr}{rest:List Expr}{ta tb tc:SS→R Bool}{ga gb:SS→R D}{pos:Pos}
theorem vF (h:FT X F a ta):FW X F (.BoolOp .And [a] pos) ta:=vm h
theorem cZ (h:FT X F a ta):FW X F (.BoolOp .Or [a] pos) ta:=xr h
theorem xR (ha:FT X F a ta)(hb:FW X F (.BoolOp .And (b::rest) pos) tb):FW X F (.BoolOp .And (a::b::rest) pos) (gAnd ta tb) :=
 (xt ha hb).weak fun σ H Q ⟨Z,S,ok,w⟩=>d7 ok w fun d H1 Z1 ok1 x1 w1=>by
  cases d with
  | true=>exact⟨Z1,S,ok1,w1⟩
  | false=>exact WG.now w1 ok1.sub
theorem eU (ha:FT X F a ta)(hb:FW X F (.BoolOp .Or (b::rest) pos) tb):FW X F (.BoolOp .Or (a::b::rest) pos) (gOr ta tb) :=
 (yI ha hb).weak fun σ H Q ⟨Z,S,ok,w⟩=>d7 ok w fun d H1 Z1 ok1 x1 w1=>by
  cases d with
  | true=>exact WG.now w1 ok1.sub
  | false=>exact⟨Z1,S,ok1,w1⟩
theorem ft_w (h:FW X F e ta):FT X F e ta:=h.pt
theorem bS (h:FT X F a ta):FT X F (.UnaryOp .Not a pos) (gNot ta) :=
 (xw h).weak fun σ H Q ⟨Z,S,ok,w⟩=>d7 ok w fun d H1 Z1 ok1 x1 w1=>WG.now w1 ok1.sub
theorem iJ {op}(h:FE X F a ga):FE X F (.BoolOp op [a] pos) ga:=xy h
def eAnd (a b:SS→R D):SS→R D:=fun S=>(asB (a S)).bind fun c=>if c=true then b S else .ok (.bl false)
def eNot (a:SS→R D):SS→R D:=fun S=>(asB (a S)).bind fun c=>.ok (.bl (!c))
theorem sY {α:Type}{σ:St}{H Z:Hp}{S:SS}{g:SS→R D}{k:Bool→R α}{P:α→Hp→Hp→Prop}{Q:VK}(ok:StOk F H Z S σ)(w:WG F H Z ((asB (g S)).bind k) P)
  (h:∀ c H1 Z1,StOk F H1 Z1 S σ→Ex H Z H1 Z1→WG F H1 Z1 (k c) P→Q (.bl c) H1):tE F g σ H Q:=by
 have e:(asB (g S)).bind k=(g S).bind fun d=>(match d with | .bl b=>R.ok b | _=>R.stuck).bind k:=by
  unfold asB;cases g S<;>rfl
 rw[e]at w
 refine aA ok w fun d v H1 Z1 ok1 x1 rv w1=>?_
 cases d with
 | bl b=>rw[Rep]at rv;subst rv;exact h b H1 Z1 ok1 x1 w1
 | _=>exact w1.elim
theorem iK (ha:FE X F a ga)(hb:FE X F (.BoolOp .And (b::rest) pos) gb):FE X F (.BoolOp .And (a::b::rest) pos) (eAnd ga gb) :=
 (xz ha hb).weak fun σ H Q ⟨Z,S,ok,w⟩=>sY ok w fun c H1 Z1 ok1 x1 w1=>⟨c,rfl,by
  cases c with
  | true=>exact⟨Z1,S,ok1,w1⟩
  | false=>exact WG.now w1 ok1.sub _ (by rw[Rep])⟩
theorem xS (ha:FE X F a ga):FE X F (.UnaryOp .Not a pos) (eNot ga) :=
 (xA ha).weak fun σ H Q ⟨Z,S,ok,w⟩=>sY ok w fun c H1 Z1 ok1 x1 w1=>⟨c,rfl,WG.now w1 ok1.sub _ (by rw[Rep])⟩
theorem yP (hc:FT X F c tc)(ha:FE X F a ga)(hb:FE X F b gb):FE X F (.IfExp c a b pos) (eIf tc ga gb) :=
 (sF hc ha hb).weak fun σ H Q ⟨Z,S,ok,w⟩=>d7 ok w fun d H1 Z1 ok1 x1 w1=>by
  cases d with
  | true=>exact⟨Z1,S,ok1,w1⟩
  | false=>exact⟨Z1,S,ok1,w1⟩
end
def aNil:SS→R (List D):=fun _=>.ok []
def aCons (g:SS→R D)(gs:SS→R (List D)):SS→R (List D):=fun S=>(g S).bind fun d=>(gs S).bind fun ds=>.ok (d::ds)
def eTup (gs:SS→R (List D)):SS→R D:=fun S=>(gs S).bind fun ds=>if ds.length≤16777216 then .ok (.tup ds) else .stuck
def eLst (gs:SS→R (List D)):SS→R D:=fun S=>(gs S).bind fun ds=>if ds.length≤16777216 then .ok (.lst ds) else .stuck
section
variable {X:Cx}{F:Fx}{e:Expr}{es:List Expr}{g:SS→R D}{gs:SS→R (List D)}{pos:Pos}
theorem sZ:FA X F [] aNil:=iF.weak fun σ H Q ⟨Z,S,ok,w⟩=>WG.now w ok.sub [] Reps.nil
theorem o8 (ha:FE X F e g)(hr:FA X F es gs)(hs:starEach (e::es) X.env=(false,eval e X.env)::starEach es X.env:=by rfl):FA X F (e::es) (aCons g gs) :=
 (d5 ha hr hs).weak fun σ H Q ⟨Z,S,ok,w⟩=>aA ok w fun d v H1 Z1 ok1 x1 rv w1=>aO ok1 w1 fun ds vs H2 Z2 ok2 x2 rs w2=>WG.now w2 ok2.sub _ (Reps.cons (rv.mono x2.z) rs)
theorem xT {x1}(h:FA X F es gs):FE X F (.Tuple es x1 pos) (eTup gs) :=
 (xJ h).weak fun σ H Q ⟨Z,S,ok,w⟩=>aO ok w fun ds vs H1 Z1 ok1 x1 rs w1=>by
  split at w1
  ·rename_i hl
   refine⟨by rw[← rs.length,sizeLine_eq];exact hl,fun p hp=>?_⟩
   have z:Same Z1 (upd Z1 p (.tup vs)):=aC (ok1.sub.free hp)
   exact w1 _ _ (Ex.alloc ok1.sub hp) _ (by rw[Rep];exact⟨p,vs,rfl,SqT.of aj,rs.mono z⟩)
  ·exact w1.elim
theorem xU (h:FA X F es gs):FE X F (.List es pos) (eLst gs) :=
 (sO h).weak fun σ H Q ⟨Z,S,ok,w⟩=>aO ok w fun ds vs H1 Z1 ok1 x1 rs w1=>by
  split at w1
  ·rename_i hl
   refine⟨by rw[← rs.length,sizeLine_eq];exact hl,fun p hp=>?_⟩
   have z:Same Z1 (upd Z1 p (.lst vs)):=aC (ok1.sub.free hp)
   exact w1 _ _ (Ex.alloc ok1.sub hp) _ (by rw[Rep];exact⟨p,vs,rfl,SqL.of aj,rs.mono z⟩)
  ·exact w1.elim
end
def rO (r:R O):O:=match r with
 | .ok o=>o
 | .err k=>.er k
 | .stuck=>.stuck
def sDrop (g:SS→R D):SS→O:=fun S=>rO ((g S).bind fun _=>.ok (.nx S))
def sRet (g:SS→R D):SS→O:=fun S=>rO ((g S).bind fun d=>.ok (.rt d))
def sSet (i:Nat)(g:SS→R D):SS→O:=fun S=>rO ((g S).bind fun d=>.ok (.nx (S.set i (some (.val d)))))
section
variable {X:Cx}{F:Fx}{st:Stmt}{rest:List Stmt}{e c:Expr}{g:SS→R D}{gt:SS→R Bool}{ga gb:SS→O}{pos:Pos}
theorem WO.wg {D:Ends}{r:R O}{H Z:Hp}{S:SS}{σ:St}(ok:StOk F H Z S σ)(w:WO F Z (rO r) D):WG F H Z r fun o _ Z'=>WO F Z' o D:=by
 cases r with
 | ok o=>exact fun _ _ x=>WO.more w x.z
 | err k=>exact fun H' s=>w H' (ok.ex.same.trans s)
 | stuck=>exact w
theorem kN (h:FE X F e g)(hs:swapsWith e none pos.line X.env=pure false:=by rfl):FS X F (.Expr e pos) (sDrop g) :=
 (iA h hs).weak fun D σ H ⟨Z,S,ok,w⟩=>aA ok (WO.wg ok w) fun d v H1 Z1 ok1 x1 rv w1=>WG.now w1 ok1.sub σ H1 Z1 (Same.refl _) ok1
theorem ak (h:FE X F e g):FS X F (.Return (some e) pos) (sRet g) :=
 (xB h).weak fun D σ H ⟨Z,S,ok,w⟩=>aA ok (WO.wg ok w) fun d v H1 Z1 ok1 x1 rv w1=>WG.now w1 ok1.sub v H1 Z1 ok1.ex rv
theorem aq (i:Nat){x:Str}{pos':Pos}(hN:X.N.Nodup)(h:FE X F e g)(hi:X.N[i]?=some x:=by rfl)(hx:Loc X.env.scope x:=by first | exact Or.inl rfl | exact Or.inr rfl)
  (hs:swapsWith e (some (.Name x pos')) pos.line X.env=pure false:=by rfl) (hf:X.fn x=true∨X.env.scope.names.lookup x=some .local:=by first | exact .inl rfl | exact .inr rfl):FS X F (.Assign [.Name x pos'] e pos) (sSet i g) :=
 (gn hN hi hx h hs hf).weak fun D σ H ⟨Z,S,ok,w⟩=>aA ok (WO.wg ok w) fun d v H1 Z1 ok1 x1 rv w1=>WG.now w1 ok1.sub _ _ _ (Same.refl _) (ok1.setVal rv)
end
theorem OpD.or {F:Fx}{r r':R2}{f f':D→D→R D}(p:D→D→Bool)(h:OpD F r f)(h':OpD F r' f'):OpD F (fun x y H Q=>r x y H Q∨r' x y H Q) (fun x y=>if p x y=true then f x y else f' x y):=by
 intro H Z x y dx dy Q s rx ry w
 by_cases e:p dx dy=true
 ·dsimp only at w;rw[if_pos e]at w;exact .inl (h H Z x y dx dy Q s rx ry w)
 ·dsimp only at w;rw[if_neg e]at w;exact .inr (h' H Z x y dx dy Q s rx ry w)
def dI (c:Int→Int→Bool)(g:Int→Int→D):D→D→R D
 | .int i,.int j=>if c i j=true then .ok (g i j) else .stuck
 | _,_=>.stuck
def dI0 (g:Int→Int→D):D→D→R D
 | .int i,.int j=>.ok (g i j)
 | _,_=>.stuck
theorem tj {F:Fx}{C:Int→Int→Prop}{c:Int→Int→Bool}{g:Int→Int→V}{g':Int→Int→D}(hc:∀ i j,c i j=true→C i j)(hg:∀ i j Z,Rep F.K F.C Z (g' i j) (g i j)):OpD F (rI C g) (dI c g'):=by
 intro H Z x y dx dy Q s rx ry w
 cases dx with
 | int i =>
  cases dy with
  | int j =>
   rw[Rep]at rx
   rw[Rep]at ry
   subst rx;subst ry
   unfold dI at w
   dsimp only at w
   split at w
   ·rename_i q;exact⟨i,j,rfl,rfl,hc i j q,WG.now w s _ (hg i j Z)⟩
   ·exact w.elim
  | _=>exact w.elim
 | _=>exact w.elim
theorem c5 {F:Fx}{g:Int→Int→V}{g':Int→Int→D}(hg:∀ i j Z,Rep F.K F.C Z (g' i j) (g i j)):OpD F (rI0 g) (dI0 g'):=by
 intro H Z x y dx dy Q s rx ry w
 cases dx with
 | int i =>
  cases dy with
  | int j =>
   rw[Rep]at rx
   rw[Rep]at ry
   subst rx;subst ry
   exact⟨i,j,rfl,rfl,WG.now w s _ (hg i j Z)⟩
  | _=>exact w.elim
 | _=>exact w.elim
def cMul (i j:Int):Bool:=(decide (-(2^64) < i)&&decide (i < 2^64))||(decide (-(2^64) < j)&&decide (j < 2^64))
def cDiv (i j:Int):Bool:=decide (0 < j)&&decide (j < 1073741824)
theorem vG (i j:Int)(h:cMul i j=true):CMul i j:=by
 unfold cMul at h
 simp only[Bool.or_eq_true,Bool.and_eq_true,decide_eq_true_eq]at h
 exact h
theorem vH (i j:Int)(h:cDiv i j=true):CDiv i j:=by
 unfold cDiv at h
 simp only[Bool.and_eq_true,decide_eq_true_eq]at h
 exact h
def isInt:D→Bool
 | .int _=>true
 | _=>false
def isTup:D→Bool
 | .tup _=>true
 | _=>false
def isLst:D→Bool
 | .lst _=>true
 | _=>false
def dCatT:D→D→R D
 | .tup xs,.tup ys=>if xs.length+ys.length≤16777216 then .ok (.tup (xs++ys)) else .stuck
 | _,_=>.stuck
def dCatL:D→D→R D
 | .lst xs,.lst ys=>if xs.length+ys.length≤16777216 then .ok (.lst (xs++ys)) else .stuck
 | _,_=>.stuck
def dRepT:D→D→R D
 | .tup xs,.int k=>if 0≤k∧k < 1000000∧xs.length*k.toNat≤16777216 then .ok (.tup (List.replicate k.toNat xs).flatten) else .stuck
 | _,_=>.stuck
def dRepL:D→D→R D
 | .lst xs,.int k=>if 0≤k∧k < 1000000∧xs.length*k.toNat≤16777216 then .ok (.lst (List.replicate k.toNat xs).flatten) else .stuck
 | _,_=>.stuck
def dIx:D→D→R D
 | .tup xs,.int i=>match atI xs i with
  | some d=>.ok d
  | none=>.stuck
 | .lst xs,.int i=>match atI xs i with
  | some d=>.ok d
  | none=>.stuck
 | _,_=>.stuck
theorem Reps.at {K:PySem.W.Frag}{C:Nat→Addr}{Z:Hp}{ds:List D}{vs:List V}{i:Int}{d:D}(r:Reps K C Z ds vs)(h:atI ds i=some d):∃ v,atI vs i=some v∧Rep K C Z d v:=by
 unfold atI at h ⊢
 rw[← r.length]
 cases e:ixN ds.length i with
 | none=>rw[e]at h;cases h
 | some j =>
  rw[e]at h
  exact r.get h
theorem xV {F:Fx}:OpD F (rIx F.K) dIx:=by
 intro H Z x y dx dy Q s rx ry w
 cases dx with
 | tup ds =>
  cases dy with
  | int i =>
   rw[Rep]at rx
   rw[Rep]at ry
   obtain⟨a,vs,rfl,h1,h2⟩:=rx
   subst ry
   unfold dIx at w
   dsimp only at w
   split at w
   ·rename_i d e
    obtain⟨v,e1,r⟩:=h2.at e
    exact .inr (.inl ⟨a,vs,i,v,rfl,rfl,h1.mono s,e1,WG.now w s v r⟩)
   ·exact w.elim
  | _=>exact w.elim
 | lst ds =>
  cases dy with
  | int i =>
   rw[Rep]at rx
   rw[Rep]at ry
   obtain⟨a,vs,rfl,h1,h2⟩:=rx
   subst ry
   unfold dIx at w
   dsimp only at w
   split at w
   ·rename_i d e
    obtain⟨v,e1,r⟩:=h2.at e
    exact .inl ⟨a,vs,i,v,rfl,rfl,s.seq h1,e1,WG.now w s v r⟩
   ·exact w.elim
  | _=>exact w.elim
 | _=>exact w.elim
section
open AutoSeq1 (wpAny_loadPart')
theorem lQ (l b:Addr)(items items2:Array Value)(n n2:Nat)(dd dd2:Option Addr)(sl sl2:Array (Option Value))(hc0:items.isEmpty=true) :
  Meets (Builtin.«tuple.__add__» ⟨[.ref l,.ref b],[]⟩) (fun _ R s=>s.heap.get? l=some { cls:=.type "tuple",dict:=dd,data:=.seq items n,slots:=sl }∧s.heap.get? b=some { cls:=.type "tuple",dict:=dd2,data:=.seq items2 n2,slots:=sl2 }∧R (.ok (.ret (.ref b))) s) :=
 .of_wp fun prog w A R s h=>by
  obtain⟨hp,g,d,tk,os⟩:=s;obtain⟨hl,hb,h⟩:=h
  have f2:=AutoSeq1.sub_tuple_tuple
  have f3:=AutoSeq1.sub_list_list
  wp_walk using wpAny_loadPart' hl,wpAny_loadPart' hb
  exact⟨_,rfl,h⟩
end
theorem fA {K:PySem.W.Frag}{C:Nat→Addr}{Z:Hp}{ds:List D}{vs:List V}(r:Reps K C Z ds vs):∀ k:Nat,Reps K C Z (List.replicate k ds).flatten (List.replicate k vs).flatten
 | 0=>Reps.nil
 | k+1=>by
  rw[List.replicate_succ,List.replicate_succ,List.flatten_cons,List.flatten_cons]
  exact r.append (fA r k)
def rCat2 (K:PySem.W.Frag):R2:=fun x y H Q=>∃ a b xs ys,x=.ref a∧y=.ref b∧SqT K H a xs∧SqT K H b ys∧xs.length+ys.length≤sizeLine∧(∀ p,H p=none→Q (.ref p) (upd H p (.tup (xs++ys))))∧(ys=[]→Q (.ref a) H)∧(xs=[]→Q (.ref b) H)
theorem vI {X:Cx}:OpR X (binaryOp .Add) (rCat2 X.K):=by
 intro pins s σ H x y v u Q I rx ry h
 obtain⟨a,b,xs,ys,rfl,rfl,ha,hb,hz,q1,q2,q3⟩:=h
 by_cases hx:xs=[]
 ·cases rx
  cases ry
  obtain⟨its,r1,p1,_⟩:=I.tuple ha
  obtain⟨its2,r2,p2,_⟩:=I.tuple hb
  obtain⟨⟨cls,dd,data,sl⟩,ho,hc,n,hd⟩:=id p1
  obtain⟨⟨cls2,dd2,data2,sl2⟩,ho2,hc2,n2,hd2⟩:=id p2
  simp only at hc hd hc2 hd2
  subst hc hd hc2 hd2
  have he:its=[]:=by
   have:=r1.length
   rw[hx]at this
   exact List.length_eq_zero_iff.mp this.symm
  exact concat_meets ⟨_,ho,rfl⟩ ⟨_,ho2,rfl⟩ noFill_tuple_add seq_tuple_add PySem.F.slot_tuple_add PySem.F.entry_tuple_add (PySem.F.args_tuple_add_2 _ _)
   (lQ a b its.toArray its2.toArray n n2 dd dd2 sl sl2 (by simp[he])) ⟨ho,ho2,⟨.ref b,H,I,rfl,q3 hx⟩⟩
 ·exact vC pins s σ H _ _ v u Q I rx ry ⟨a,b,xs,ys,rfl,rfl,ha,hb,hx,hz,q2,fun _=>q1⟩
theorem tm {F:Fx}:OpD F (rCat2 F.K) dCatT:=by
 intro H Z x y dx dy Q s rx ry w
 cases dx with
 | tup ds =>
  cases dy with
  | tup es =>
   rw[Rep]at rx
   rw[Rep]at ry
   obtain⟨a,vs,rfl,h1,h2⟩:=rx
   obtain⟨b,us,rfl,k1,k2⟩:=ry
   unfold dCatT at w
   dsimp only at w
   split at w
   ·rename_i hl
    refine⟨a,b,vs,us,rfl,rfl,h1.mono s,k1.mono s,by rw[← h2.length,← k2.length,sizeLine_eq];exact hl,fun p hp=>?_,fun e=>?_,fun e=>?_⟩
    ·have z:Same Z (upd Z p (.tup (vs++us))):=aC (s.free hp)
     exact w _ _ (Ex.alloc s hp) _ (by rw[Rep];exact⟨p,_,rfl,SqT.of aj,(h2.append k2).mono z⟩)
    ·have:es=[]:=List.length_eq_zero_iff.mp (by rw[k2.length,e];rfl)
     subst this
     exact WG.now w s _ (by rw[List.append_nil,Rep];exact⟨a,vs,rfl,h1,h2⟩)
    ·have:ds=[]:=List.length_eq_zero_iff.mp (by rw[h2.length,e];rfl)
     subst this
     exact WG.now w s _ (by rw[List.nil_append,Rep];exact⟨b,us,rfl,k1,k2⟩)
   ·exact w.elim
  | _=>exact w.elim
 | _=>exact w.elim
def rRepT (K:PySem.W.Frag):R2:=fun x y H Q=>∃ a k xs,x=.ref a∧y=.int k∧SqT K H a xs∧0≤k∧k < 1000000∧xs.length*k.toNat≤sizeLine∧(∀ p,H p=none→Q (.ref p) (upd H p (.tup (List.replicate k.toNat xs).flatten)))∧((List.replicate k.toNat xs).flatten=xs→Q (.ref a) H)
theorem vJ {X:Cx}:OpR X (binaryOp .Mult) (rRepT X.K):=by
 intro pins s σ H x y v u Q I rx ry h
 obtain⟨a,k,xs,rfl,rfl,ha,h0,h1,hz,q1,q2⟩:=h
 cases rx
 obtain⟨t,rfl⟩:=ry
 obtain⟨its,r,p1,_⟩:=I.tuple ha
 have hl:=r.length
 obtain⟨⟨cls,dd,data,sl⟩,ho,hc,n,hd⟩:=id p1
 simp only at hc hd
 subst hc hd
 refine wpAny_binaryOp_repeat_ref (by decide) ⟨_,ho,rfl⟩ (fun s'=>typeIs_int s' k t) gr PySem.F.fills_int_mul PySem.F.slot_int_rmul kK PySem.F.slot_int_index.lookup
  (call_meets PySem.F.slot_int_rmul (typeIs_int s k t) PySem.F.entry_int_rmul (PySem.F.args_int_rmul_2 _ _) (iH k t a its.toArray n dd sl) ⟨ho,rfl,⟨_,ho,rfl⟩,?_⟩)
 cases its with
 | nil =>
  have hx:xs=[]:=List.length_eq_zero_iff.mp hl
  have e:(List.replicate k.toNat xs).flatten=xs:=by rw[hx];simp
  exact call_meets PySem.F.slot_tuple_mul ⟨_,ho,rfl⟩ PySem.F.entry_tuple_mul (PySem.F.args_tuple_mul_2 _ _) (jG a n k t dd sl h0 h1) ⟨ho,⟨.ref a,H,I,rfl,q2 e⟩⟩
 | cons it its' =>
  have hne:(it::its').toArray.isEmpty=false:=by simp
  by_cases k1:k=1
  ·subst k1
   have e:(List.replicate (1:Int).toNat xs).flatten=xs:=by simp
   exact call_meets PySem.F.slot_tuple_mul ⟨_,ho,rfl⟩ PySem.F.entry_tuple_mul (PySem.F.args_tuple_mul_2 _ _) (jF a _ n t dd sl) ⟨ho,⟨.ref a,H,I,rfl,q2 e⟩⟩
  ·by_cases k0:k=0
   ·subst k0
    refine call_meets PySem.F.slot_tuple_mul ⟨_,ho,rfl⟩ PySem.F.entry_tuple_mul (PySem.F.args_tuple_mul_2 _ _) (iI a _ n t dd sl hne) ⟨ho,?_⟩
    refine⟨.ref s.heap.objs.size,_,I.laid (fun b ob q=>Heap.get?_push_of_some _ q) (Nat.le_refl _) ?_,rfl,q1 _ (I.hok.fresh (Nat.le_refl _))⟩
    exact⟨Nat.zero_le _,[],.nil,TupO.new _ _⟩
   ·refine call_meets PySem.F.slot_tuple_mul ⟨_,ho,rfl⟩ PySem.F.entry_tuple_mul (PySem.F.args_tuple_mul_2 _ _) (jE a _ n k t dd sl (by omega) h1 (by rw[List.size_toArray,← hl];exact hz) hne) ⟨ho,?_⟩
    have ef:=gp (it::its') k.toNat []
    rw[List.nil_append]at ef
    have ef':=ef
    rw[ef']
    refine⟨.ref s.heap.objs.size,_,I.laid (fun b ob q=>Heap.get?_push_of_some _ q) (Nat.le_refl _) ?_,rfl,q1 _ (I.hok.fresh (Nat.le_refl _))⟩
    exact⟨by rw[o7,Nat.mul_comm];exact hz,_,r.rep k.toNat,TupO.new _ _⟩
theorem tq {F:Fx}:OpD F (rRepT F.K) dRepT:=by
 intro H Z x y dx dy Q s rx ry w
 cases dx with
 | tup ds =>
  cases dy with
  | int k =>
   rw[Rep]at rx
   rw[Rep]at ry
   obtain⟨a,vs,rfl,h1,h2⟩:=rx
   subst ry
   unfold dRepT at w
   dsimp only at w
   split at w
   ·rename_i hk
    refine⟨a,k,vs,rfl,rfl,h1.mono s,hk.1,hk.2.1,by rw[← h2.length,sizeLine_eq];exact hk.2.2,fun p hp=>?_,fun e=>?_⟩
    ·have z:Same Z (upd Z p (.tup (List.replicate k.toNat vs).flatten)):=aC (s.free hp)
     exact w _ _ (Ex.alloc s hp) _ (by rw[Rep];exact⟨p,_,rfl,SqT.of aj,(fA h2 k.toNat).mono z⟩)
    ·refine WG.now w s _ ?_
     rw[Rep]
     exact⟨a,vs,rfl,h1,by have:=fA h2 k.toNat;rw[e]at this;exact this⟩
   ·exact w.elim
  | _=>exact w.elim
 | _=>exact w.elim
theorem tu {F:Fx}:OpD F (fun x y H Q=>∃ a b xs ys,x=.ref a∧y=.ref b∧SqL F.K H a xs∧SqL F.K H b ys∧xs.length+ys.length≤sizeLine∧∀ p,H p=none→Q (.ref p) (upd H p (.lst (xs++ys)))) dCatL:=by
 intro H Z x y dx dy Q s rx ry w
 cases dx with
 | lst ds =>
  cases dy with
  | lst es =>
   rw[Rep]at rx
   rw[Rep]at ry
   obtain⟨a,vs,rfl,h1,h2⟩:=rx
   obtain⟨b,us,rfl,k1,k2⟩:=ry
   unfold dCatL at w
   dsimp only at w
   split at w
   ·rename_i hl
    refine⟨a,b,vs,us,rfl,rfl,s.seq h1,s.seq k1,by rw[← h2.length,← k2.length,sizeLine_eq];exact hl,fun p hp=>?_⟩
    have z:Same Z (upd Z p (.lst (vs++us))):=aC (s.free hp)
    exact w _ _ (Ex.alloc s hp) _ (by rw[Rep];exact⟨p,_,rfl,SqL.of aj,(h2.append k2).mono z⟩)
   ·exact w.elim
  | _=>exact w.elim
 | _=>exact w.elim
theorem tw {X:Cx}:OpR X (binaryOp .Add) (fun x y H Q=>∃ a b xs ys,x=.ref a∧y=.ref b∧SqL X.K H a xs∧SqL X.K H b ys∧xs.length+ys.length≤sizeLine∧∀ p,H p=none→Q (.ref p) (upd H p (.lst (xs++ys)))):=by
 intro pins s σ H x y v u Q I rx ry h
 obtain⟨a,b,xs,ys,rfl,rfl,ha,hb,hz,q⟩:=h
 cases rx
 cases ry
 obtain⟨its,r,⟨o,n,e,c1,c2,c3⟩,_⟩:=I.list ha
 obtain⟨its2,r2,⟨o2,n2,e2,d1,d2,d3⟩,_⟩:=I.list hb
 have l1:=r.length
 have l2:=r2.length
 obtain⟨cls,dd,data,sl⟩:=o
 obtain⟨cls2,dd2,data2,sl2⟩:=o2
 simp only at c1 c3 d1 d3
 subst c1 c3 d1 d3
 refine concat_meets ⟨_,e,rfl⟩ ⟨_,e2,rfl⟩ noFill_list_add seq_list_add PySem.F.slot_list_add PySem.F.entry_list_add (PySem.F.args_list_add_2 _ _) (qD a b its.toArray its2.toArray n n2 dd dd2 sl sl2 (by rw[List.size_toArray,List.size_toArray];omega)) ⟨e,e2,?_⟩
 have ea:its.toArray++its2.toArray=(its++its2).toArray:=by simp
 rw[ea]
 exact⟨.ref _,_,I.lnew (r.append r2) (by rw[List.length_append];omega),rfl,q _ I.fresh⟩
def rRepL (K:PySem.W.Frag):R2:=fun x y H Q=>∃ a k xs,x=.ref a∧y=.int k∧SqL K H a xs∧0≤k∧k < 1000000∧xs.length*k.toNat≤sizeLine∧∀ p,H p=none→Q (.ref p) (upd H p (.lst (List.replicate k.toNat xs).flatten))
theorem vK {X:Cx}:OpR X (binaryOp .Mult) (rRepL X.K):=by
 intro pins s σ H x y v u Q I rx ry h
 obtain⟨a,k,xs,rfl,rfl,ha,h0,h1,hz,q⟩:=h
 cases rx
 obtain⟨t,rfl⟩:=ry
 obtain⟨its,r,⟨o,n,e,c1,c2,c3⟩,_⟩:=I.list ha
 have hl:=r.length
 obtain⟨cls,dd,data,sl⟩:=o
 simp only at c1 c3
 subst c1 c3
 refine wpAny_binaryOp_repeat_ref (by decide) ⟨_,e,rfl⟩ (fun s'=>typeIs_int s' k t) noFill_list_mul PySem.F.fills_int_mul PySem.F.slot_int_rmul repeat_list PySem.F.slot_int_index.lookup
  (call_meets PySem.F.slot_int_rmul (typeIs_int s k t) PySem.F.entry_int_rmul (PySem.F.args_int_rmul_2 _ _) (jH k t a its.toArray n dd sl) ⟨e,rfl,⟨_,e,rfl⟩,
   call_meets PySem.F.slot_list_mul ⟨_,e,rfl⟩ PySem.F.entry_list_mul (PySem.F.args_list_mul_2 _ _) (qE a its.toArray n k t dd sl (by omega) (by omega) (by rw[List.size_toArray,← hl];exact hz)) ⟨e,?_⟩⟩)
 have hnew:List.foldl (fun x1 x2=>x1++x2) #[] (List.replicate (if its.toArray.isEmpty=true then 0 else k.toNat) its.toArray)=(List.replicate k.toNat its).flatten.toArray:=by
  have f0:=fun m=>by
   have:=gp its m []
   rwa [List.nil_append]at this
  rw[f0]
  cases its with
  | nil=>simp
  | cons a r'=>rw[if_neg (by simp)]
 rw[hnew]
 exact⟨.ref _,_,I.lnew (r.rep k.toNat) (by rw[o7,Nat.mul_comm];exact hz),rfl,q _ I.fresh⟩
theorem tz {F:Fx}:OpD F (rRepL F.K) dRepL:=by
 intro H Z x y dx dy Q s rx ry w
 cases dx with
 | lst ds =>
  cases dy with
  | int k =>
   rw[Rep]at rx
   rw[Rep]at ry
   obtain⟨a,vs,rfl,h1,h2⟩:=rx
   subst ry
   unfold dRepL at w
   dsimp only at w
   split at w
   ·rename_i hk
    refine⟨a,k,vs,rfl,rfl,s.seq h1,hk.1,hk.2.1,by rw[← h2.length,sizeLine_eq];exact hk.2.2,fun p hp=>?_⟩
    have z:Same Z (upd Z p (.lst (List.replicate k.toNat vs).flatten)):=aC (s.free hp)
    exact w _ _ (Ex.alloc s hp) _ (by rw[Rep];exact⟨p,_,rfl,SqL.of aj,(fA h2 k.toNat).mono z⟩)
   ·exact w.elim
  | _=>exact w.elim
 | _=>exact w.elim
mutual
def eqD:D→D→Bool
 | .non,.non=>true
 | .bl a,.bl b=>a==b
 | .bl a,.int b=>(if a then 1 else 0)==b
 | .int a,.bl b=>a==(if b then 1 else 0)
 | .int a,.int b=>a==b
 | .str a,.str b=>a==b
 | .tup xs,.tup ys=>eqDs xs ys
 | .lst xs,.lst ys=>eqDs xs ys
 | _,_=>false
def eqDs:List D→List D→Bool
 | [],[]=>true
 | x::xs,y::ys=>eqD x y&&eqDs xs ys
 | _,_=>false
end
mutual
def good:Nat→D→Bool
 | _,.exc _=>false
 | _,.fn _=>false
 | _,.tab _ _=>false
 | _,.dic _ _=>false
 | _,.ptr _=>false
 | 0,.tup _=>false
 | 0,.lst _=>false
 | n+1,.tup xs=>goods n xs
 | n+1,.lst xs=>goods n xs
 | _,_=>true
def goods:Nat→List D→Bool
 | _,[]=>true
 | n,x::xs=>good n x&&goods n xs
end
def relabN (names:List (Str×NameKind))(env:Env):List (Str×NameKind) :=
 names.map fun (n,k)=>if (k==.free&&env.scope.kind==.function&&env.kindOf n==some .cell) then (n,.cell) else (n,k)
theorem iL {env:Env}:∀ {names:List (Str×NameKind)} {x:Str},names.lookup x=some .free→(relabN names env).lookup x=some .cell∨(relabN names env).lookup x=some .free
 | [],_,h=>by simp at h
 | (n,k)::r,x,h=>by
  have ih:=@iL env r x
  show List.lookup x ((if (k==NameKind.free&&env.scope.kind==.function&&env.kindOf n==some .cell)=true then (n,NameKind.cell) else (n,k))::relabN r env)=_∨List.lookup x ((if (k==NameKind.free&&env.scope.kind==.function&&env.kindOf n==some .cell)=true then (n,NameKind.cell) else (n,k))::relabN r env)=_
  cases hx:x==n with
  | true =>
   simp only[List.lookup_cons,hx]at h
   cases h
   split
   ·exact .inl (by simp[List.lookup_cons,hx])
   ·exact .inr (by simp[List.lookup_cons,hx])
  | false =>
   simp only[List.lookup_cons,hx]at h
   split<;>(simp only[List.lookup_cons,hx];exact ih h)
theorem iM {env:Env}:∀ {names:List (Str×NameKind)} {x:Str},((relabN names env).lookup x=some .cell∨(relabN names env).lookup x=some .free)→∃ y∈names,y.1=x∧(y.2=.free∨y.2=.cell)
 | [],_,h=>by simp[relabN]at h
 | (n,k)::r,x,h=>by
  have ih:=@iM env r x
  change List.lookup x ((if (k==NameKind.free&&env.scope.kind==.function&&env.kindOf n==some .cell)=true then (n,NameKind.cell) else (n,k))::relabN r env)=_∨List.lookup x ((if (k==NameKind.free&&env.scope.kind==.function&&env.kindOf n==some .cell)=true then (n,NameKind.cell) else (n,k))::relabN r env)=_ at h
  cases hx:x==n with
  | true =>
   have e:x=n:=eq_of_beq hx
   refine⟨(n,k),List.mem_cons_self,e.symm,?_⟩
   by_cases hq:(k==NameKind.free&&env.scope.kind==.function&&env.kindOf n==some .cell)=true
   ·simp only[Bool.and_eq_true,beq_iff_eq]at hq
    exact .inl hq.1.1
   ·rw[if_neg hq]at h
    simp only[List.lookup_cons,hx]at h
    rcases h with h | h
    ·cases h;exact .inr rfl
    ·cases h;exact .inl rfl
  | false =>
   have h':(relabN r env).lookup x=some .cell∨(relabN r env).lookup x=some .free:=by
    by_cases hq:(k==NameKind.free&&env.scope.kind==.function&&env.kindOf n==some .cell)=true
    ·rw[if_pos hq]at h;simpa only[List.lookup_cons,hx] using h
    ·rw[if_neg hq]at h;simpa only[List.lookup_cons,hx] using h
   obtain⟨y,hy,e⟩:=ih h'
   exact⟨y,List.mem_cons_of_mem _ hy,e⟩
theorem a8:∀ (names:List (Str×NameKind)) (n:Nat) (acc:List (Str×Addr)),cellsFrom n names acc=cellsFrom n names []++acc
 | [],_,_=>rfl
 | (name,kind)::r,n,acc=>by
  unfold cellsFrom
  split
  ·rw[a8 r (n+1) ((name,n)::acc),a8 r (n+1) [(name,n)],List.append_assoc];rfl
  ·exact a8 r n acc
theorem gu:∀ (names:List (Str×NameKind)) (n:Nat) {x:Str} {c:Addr},(x,c)∈cellsFrom n names []→(x,NameKind.cell)∈names
 | [],_,_,_,h=>nomatch h
 | (name,kind)::r,n,x,c,h=>by
  unfold cellsFrom at h
  split at h
  ·rename_i hk
   rw[a8]at h
   rcases List.mem_append.mp h with h | h
   ·exact List.mem_cons_of_mem _ (gu r _ h)
   ·rw[List.mem_singleton]at h
    cases h
    rw[eq_of_beq hk];exact List.mem_cons_self
  ·exact List.mem_cons_of_mem _ (gu r _ h)
theorem gw:∀ (names:List (Str×NameKind)) (n:Nat) {x:Str},(x,NameKind.cell)∈names→∃ c,(cellsFrom n names []).lookup x=some c
 | [],_,_,h=>nomatch h
 | (name,kind)::r,n,x,h=>by
  by_cases hr:(x,NameKind.cell)∈r
  ·unfold cellsFrom
   split
   ·obtain⟨c,hc⟩:=gw r (n+1) hr
    rw[a8,List.lookup_append,hc];exact⟨c,rfl⟩
   ·exact gw r n hr
  ·rcases List.mem_cons.mp h with e | e
   ·cases e
    unfold cellsFrom
    rw[if_pos (by rfl),a8,List.lookup_append]
    cases (cellsFrom (n+1) r []).lookup name with
    | some c=>exact⟨c,rfl⟩
    | none=>exact⟨n,by simp[List.lookup_cons]⟩
   ·exact absurd e hr
structure CellsB (scope:Scope)(cl cl2:List (Str×Addr))(C:Addr)(h:Heap):Prop where
 old:∀ n c,cl2.lookup n=some c→(cl.lookup n=some c∧(n,NameKind.cell)∉scope.names)∨(C < c∧h.IsCell c none∧(n,NameKind.cell)∈scope.names)
 keep:∀ n,(n,NameKind.cell)∉scope.names→cl2.lookup n=cl.lookup n
 mine:∀ n,(n,NameKind.cell)∈scope.names→∃ c,cl2.lookup n=some c
 inj:∀ x y c,C < c→cl2.lookup x=some c→cl2.lookup y=some c→(x,NameKind.cell)∈scope.names→(y,NameKind.cell)∈scope.names→x=y
section
variable {M:Model}{A:Around}{E:Value→Shared→Prop}{s:Shared}
theorem fB {scope:Scope}{globals:Addr}{cl:List (Str×Addr)}{qual:Str}{env:Env}{Q:Env→Shared→Prop}
  (hQ:∀ h' cl2,h'.Ns s.heap.objs.size (fun _=>none)→(∀ b o,s.heap.get? b=some o→h'.get? b=some o)→CellsB scope cl cl2 s.heap.objs.size h'→Q (newEnv scope s.heap.objs.size globals cl2 qual none .none (some env) builtinsNs) { s with heap:=h' }) :
  wpAny M A (newFunctionEnv scope globals cl [] qual none .none (some env)) Q E s:=by
 simp only[newFunctionEnv,Option.isSome_some,if_true]
 refine wpAny_bind (wpAny_alloc ?_)
 refine wpAny_bind (wpAny_layCells _ (fun name kind cells=>by cases hkc:kind==NameKind.cell<;>simp[hkc]) _ _ _ _ ?_)
 have ok:=cellsFrom_ok scope.names (s.heap.push { cls:=.type "dict",data:=.dict #[] }) (s.heap.objs.size+1) [] ⟨fun _ _ hm=>(nomatch hm),List.Pairwise.nil⟩ (by simp)
 rw[Heap.size_push]at ok
 rw[show ({ s with heap:=s.heap.push { cls:=.type "dict",data:=.dict #[] } }:Shared).heap.objs.size=s.heap.objs.size+1 from Heap.size_push ..]
 simp
 refine wpAny_bind (wpAny_pure (wpAny_pure ?_))
 refine hQ _ _ ((Heap.Ns.new s.heap (.type "dict")).keeps (pushCells_keeps _ _)) (fun b o e=>pushCells_keeps _ _ b o (Heap.get?_push_of_some _ e)) ?_
 have look:∀ n,(cellsFrom (s.heap.objs.size+1) scope.names cl).lookup n=((cellsFrom (s.heap.objs.size+1) scope.names []).lookup n).or (cl.lookup n):=fun n=>by rw[a8,List.lookup_append]
 have no:∀ n,(n,NameKind.cell)∉scope.names→(cellsFrom (s.heap.objs.size+1) scope.names []).lookup n=none:=fun n hn=>by
  cases e:(cellsFrom (s.heap.objs.size+1) scope.names []).lookup n with
  | none=>rfl
  | some c=>exact absurd (gu _ _ (PySem.mem_of_lookup e)) hn
 have keep:∀ n,(n,NameKind.cell)∉scope.names→(cellsFrom (s.heap.objs.size+1) scope.names cl).lookup n=cl.lookup n:=fun n hn=>by rw[look,no n hn];rfl
 have new:∀ n,(n,NameKind.cell)∈scope.names→∃ c,(cellsFrom (s.heap.objs.size+1) scope.names []).lookup n=some c∧(cellsFrom (s.heap.objs.size+1) scope.names cl).lookup n=some c:=fun n hn=>by
  obtain⟨c,hc⟩:=gw scope.names (s.heap.objs.size+1) hn
  grind
 refine⟨fun n c e=>?_,keep,fun n hn=>?_,fun x y c _ ex ey hx hy=>?_⟩
 ·by_cases hn:(n,NameKind.cell)∈scope.names
  ·obtain⟨c',h1,h2⟩:=new n hn
   rw[e]at h2;cases h2
   have:=ok.empty n c (PySem.mem_of_lookup h1)
   grind
  ·grind
 ·grind
 ·obtain⟨c1,h1,h2⟩:=new x hx
  obtain⟨c2,h3,h4⟩:=new y hy
  rw[ex]at h2;cases h2
  rw[ey]at h4;cases h4
  exact name_of_addr ok.apart (PySem.mem_of_lookup h1) (PySem.mem_of_lookup h3)
end
theorem dG {names:List (Str×NameKind)}{x:Str}{k:NameKind}(h:names.lookup x=some k):(x,k)∈names:=PySem.mem_of_lookup h
def blk (X:Cx)(scope:Scope)(cl:List (Str×Addr))(C:Addr)(s:Shared)(H:Hp)(fp:List Addr)(N:List Str):Cx where
 prog:=X.prog
 w:=X.w
 K:=X.K
 mg:=X.mg
 base:=X.base
 A:=X.A
 N:=N
 s₀:=s
 H₀:=H
 env:=compEnvC scope cl C X.env
 outer:=X.stack
 stack:=X.stack
 ex:=fp
 fn:=fun x=>scope.names.lookup x==some .cell
 calm:=true
 pn:=[]
 xe:=fun _ _=>False
def startB (own:Nat)(cap:List Nat)(σ:St):St:=List.replicate own none++cap.map fun i=>(σ[i]?).getD none
structure BlkOk (XN:List Str)(osc scope:Scope)(N:List Str)(own:Nat)(cap:List Nat):Prop where
 kind:scope.kind=.function
 ncell:∀ y∈scope.names,y.2=.cell→scope.names.lookup y.1=some .cell
 nfree:∀ y∈scope.names,y.2=.free→scope.names.lookup y.1=some .free
 nloc:∀ y∈scope.names,y.2=.local→scope.names.lookup y.1=some .local
 free:∀ y∈scope.names,y.2=.free→osc.names.lookup y.1=some .cell∨osc.names.lookup y.1=some .free
 len:N.length=own+cap.length
 capN:∀ j i,cap[j]?=some i→∃ x,N[own+j]?=some x∧XN[i]?=some x∧scope.names.lookup x=some .free
section
variable {X:Cx}{pins:List (Addr×Obj)}{σ:St}{H:Hp}{s:Shared}{scope:Scope}{N:List Str}{own:Nat}{cap:List Nat}{cl:List (Str×Addr)}{fp:List Addr}
theorem o9 {cl2:List (Str×Addr)}(b:BlkOk X.N X.env.scope scope N own cap)(hc:X.calm=true)(I:Inv X pins σ H s)(hf:∀ b∈fp,FpOk X pins H b)(hfo:∀ b∈fp,b < s.heap.objs.size)(c1:∀ n c,cl.lookup n=some c→X.env.cells.lookup n=some c)
  (c2:∀ y∈scope.names,y.2=.free→∃ c,cl.lookup y.1=some c) {h':Heap} {t':Nat} {m:Str→Option Value} (hns:h'.Ns s.heap.objs.size m) (hk:∀ b o,s.heap.get? b=some o→h'.get? b=some o) (cb:CellsB scope cl cl2 s.heap.objs.size h') :
  Inv (blk X scope cl2 s.heap.objs.size s H fp N) [] (startB own cap σ) H { s with heap:=h',toks:=t' }:=by
 have hC:=I.hok.fresh (Nat.le_refl _)
 have lt:∀ n c,cl.lookup n=some c→c < s.heap.objs.size:=fun n c e=>by obtain⟨v,hv⟩:=I.cell n c (c1 n c e);exact hv.lt
 have inj:∀ x y c,cl2.lookup x=some c→cl2.lookup y=some c→x=y:=fun x y c h1 h2=>by
  rcases cb.old x c h1 with ⟨a1,_⟩ | ⟨a1,_,a2⟩<;>rcases cb.old y c h2 with ⟨b1,_⟩ | ⟨b1,_,b2⟩
  ·exact I.ok.inj x y c (c1 x c a1) (c1 y c b1)
  ·exact absurd (lt x c a1) (Nat.lt_asymm b1)
  ·exact absurd (lt y c b1) (Nat.lt_asymm a1)
  ·exact cb.inj x y c a1 h1 h2 a2 b2
 refine⟨⟨I.ok.mod,b.kind,I.ok.glob,I.ok.blt,Nat.le_refl _,inj,fun x hx=>?_,fun x c hx e=>?_,fun _=>I.ok.hd hc,I.ok.frames,.inl rfl,fun b' hb=>?_,I.bs,Nat.le_trans I.ok.bsz I.sz,fun b' o e hb=>?_,fun b' hb hm=>?_,I.stack,I.stkFree⟩,rfl,I.bare,Un.kept hk,⟨m,hns,fun i x v h1 h2 h3=>?_⟩,fun x c e=>?_,hC,fun x c e=>?_,fun p hp=>(nomatch hp),I.hok.kept hk,?_⟩
 ·obtain⟨y,hy,e1,e2⟩:=iM hx
  rcases e2 with e2 | e2
  ·obtain⟨c,e⟩:=c2 y hy e2
   have hn:(y.1,NameKind.cell)∉scope.names:=fun z=>by
    have q1:=b.nfree y hy e2
    have q2:=b.ncell _ z rfl
    rw[q1]at q2;cases q2
   exact⟨c,by rw[← e1];show cl2.lookup y.1=some c;rw[cb.keep _ hn];exact e⟩
  ·obtain⟨c,e⟩:=cb.mine y.1 (by rw[← e2];exact hy)
   exact⟨c,by rw[← e1];exact e⟩
 ·rcases cb.old x c e with ⟨a1,a2⟩ | ⟨a1,_,_⟩
  ·have hx':=hx
   exact absurd (dG (eq_of_beq hx')) a2
  ·exact Nat.le_of_lt a1
 ·refine⟨Nat.ne_of_lt (hfo b' hb),fun x c e=>?_⟩
  rcases cb.old x c e with ⟨a1,_⟩ | ⟨a1,_,_⟩
  ·exact(hf b' hb).2.2.2.2.1 x c (c1 x c a1)
  ·exact fun z=>Nat.lt_asymm a1 (z ▸ hfo b' hb)
 ·rcases(hf b' hb).2.2.2.1 with z | z
  ·exact I.ok.noex b' o e z
  ·have:=Heap.lt_size (I.ok.bs b' o e).1
   exact absurd (Nat.lt_of_lt_of_le this z) (Nat.lt_irrefl _)
 ·rcases List.mem_cons.mp (I.stkSub b' hm) with z | z
  ·exact(hf b' hb).2.1 z
  ·exact(hf b' hb).2.2.1 z
 ·
  unfold startB at h2
  by_cases hi:i < own
  ·rw[List.getElem?_append_left (by simpa using hi),List.getElem?_replicate]at h2
   split at h2<;>cases h2
  ·rw[List.getElem?_append_right (by simpa using hi),List.length_replicate,List.getElem?_map]at h2
   cases e:cap[i - own]? with
   | none=>rw[e]at h2;cases h2
   | some k =>
    rw[e]at h2
    obtain⟨x',f1,f2,f3⟩:=b.capN _ _ e
    rw[show own+(i - own)=i by omega]at f1
    have h1':N[i]?=some x:=h1
    rw[h1']at f1;cases f1
    have h2':σ[k]?=some (some v):=by
     cases q:σ[k]? with
     | none=>simp only[Option.map_some,q,Option.getD_none,Option.some.injEq]at h2;cases h2
     | some o=>simp only[Option.map_some,q,Option.getD_some,Option.some.injEq]at h2;rw[h2]
    obtain⟨m0,_,hl⟩:=I.loc
    have kf:=b.free (x,.free) (dG f3) rfl
    obtain⟨u,r,l⟩:=hl k x v f2 h2' (kf.elim (fun z=>.inr (.inl z)) fun z=>.inr (.inr z))
    refine⟨u,r,?_⟩
    rcases l with ⟨z,_⟩ | ⟨_,c,e1,e2⟩
    ·have z':X.env.scope.names.lookup x=some .local:=z
     rcases kf with y | y
     ·have y':=y
      rw[z']at y';cases y'
     ·have y':=y
      rw[z']at y';cases y'
    ·obtain⟨c',g1⟩:=c2 (x,.free) (dG f3) rfl
     have g2:=c1 x c' g1
     rw[e1]at g2;cases g2
     have hn:(x,NameKind.cell)∉scope.names:=fun z=>by
      have q2:=b.ncell _ z rfl
      have q2':=q2
      rw[f3]at q2';cases q2'
     exact .inr ⟨iL f3,c,by show cl2.lookup x=some c;rw[cb.keep _ hn];exact g1,by obtain⟨o,ho,hd⟩:=e2;exact⟨o,hk _ _ ho,hd⟩⟩
 ·rcases cb.old x c e with ⟨a1,_⟩ | ⟨_,a2,_⟩
  ·obtain⟨v,o,ho,hd⟩:=I.cell x c (c1 x c a1)
   exact⟨v,o,hk _ _ ho,hd⟩
  ·exact⟨none,a2⟩
 ·rcases cb.old x c e with ⟨a1,_⟩ | ⟨a1,_,_⟩
  ·exact I.freeC x c (c1 x c a1)
  ·exact I.hok.fresh (Nat.le_of_lt a1)
 ·unfold startB
  show _=N.length
  rw[List.length_append,List.length_replicate,List.length_map,b.len]
theorem iN {s3 s':Shared}{H3 H':Hp}{σ':St}{pl:List (Addr×Obj)}{D C:Addr}(I:Inv X pins σ H s)(hf:∀ b∈fp,FpOk X pins H b)(hD:D=s.heap.objs.size)(h3:s3={ s with heap:=s.heap.push { cls:=.type "list",data:=.seq #[] } })(hH:H3=upd H D (.lst []))(hC:C=s3.heap.objs.size)
  (J:Inv (blk X scope cl C s3 H3 fp N) pl σ' H' s'):Inv X pins σ H' s'∧FpOk X pins H' C∧∃ m,s'.heap.Ns C m:=by
 subst h3
 have hs:s.heap.objs.size≤C:=by rw[hC];rw[Heap.size_push];exact Nat.le_succ _
 have u1:Un (frs X.stack) fp H H3 s.heap (s.heap.push { cls:=.type "list",data:=.seq #[] }):=by
  rw[hH,hD]
  exact Un.laid (fun b u e=>Heap.get?_push_of_some _ e) (Nat.le_refl _) (I.hok.fresh (Nat.le_refl _))
 have u2:=J.base
 have os:=J.os
 refine⟨I.call' os (u1.trans u2) J.hok J.bare fun b hb=>?_,I.fpOk hs J.free,?_⟩
 ·obtain⟨_,f1,f2,f3,f4,f5⟩:=hf b hb
  exact⟨f3,f1,f4,f5⟩
 ·obtain⟨m,hn,_⟩:=J.loc
  exact⟨m,hn⟩
end
def tTests (ifs:List Expr)(t:TT):TT:=match ifs with
 | []=>fun _ H Q=>Q true H
 | _::_=>t
theorem iO {ifs:List Expr}{t:TT}{σ:St}{H:Hp}{Q:Bool→Hp→Prop}(e:ifs=[])(h:tTests ifs t σ H Q):Q true H:=by subst e;exact h
theorem nF {ifs:List Expr}{t:TT}{σ:St}{H:Hp}{Q:Bool→Hp→Prop}{c:Expr}(e:ifs=[c])(h:tTests ifs t σ H Q):t σ H Q:=by subst e;exact h
theorem qH {M:Model}{A:Around}{ifs:List Expr}{env:Env}{Q:Bool→Shared→Prop}{E:Value→Shared→Prop}{s:Shared}(hifs:ifs.length≤1)(h0:ifs=[]→Q true s)(h1:∀ c,ifs=[c]→wpAny M A (isTrue c env (eval c env)) Q E s):wpAny M A (tests ifs env) Q E s:=by
 match ifs,hifs,h0,h1 with
 | [],_,h0,_=>exact wpAny_pure (h0 rfl)
 | [c],_,_,h1=>exact h1 c rfl
def BlkW (sz:Nat)(J:It)(g:TG)(tc:TT)(te:TE)(D:Addr)(Fin:Hp→List V→Prop)(W:Nat→Nat→St→Hp→List V→Prop):Prop :=
 ∀ i m σ H ys,W i m σ H ys→H D=some (.lst ys)∧((J.stop i H∧Fin H ys)∨(J.go i H∧∀ x H',J.yld i H x H'→g x σ H' fun σ2 H2=>tc σ2 H2 fun ok H3 =>
  if ok=true then te σ2 H3 fun y H4=>H4 D=some (.lst ys)∧ys.length < sz∧∃ m',m' < m∧W (i+1) m' σ2 (upd H4 D (.lst (ys++[y]))) (ys++[y])
  else ∃ m',m' < m∧W (i+1) m' σ2 H3 ys))
section
variable {X:Cx}{elt tg iter:Expr}{ifs:List Expr}{scope:Scope}{N:List Str}{own:Nat}{cap:List Nat}{pos:Pos}{wi:TI}{g:TG}{tc:TT}{te:TE}
set_option maxHeartbeats 4000000 in
theorem lR {pins:List (Addr×Obj)}{σ:St}{H:Hp}{s:Shared}{it:Addr}{fp:List Addr}{tn:Nat→Heap→Prop}{J:It}{cl:List (Str×Addr)}{E:Value→Shared→Prop}{RR:Value→Addr→Result→Shared→Prop}{Fin:Addr→Hp→List V→Prop}
  (b:BlkOk X.N X.env.scope scope N own cap) (hc:X.calm=true) (hifs:ifs.length≤1)
  (hg:∀ cl C s H fp,PG (blk X scope cl C s H fp N) tg g) (ht:∀ c,ifs=[c]→∀ cl C s H fp,PT (blk X scope cl C s H fp N) c tc) (he:∀ cl C s H fp,PE (blk X scope cl C s H fp N) elt te)
  (hclos:closureFor scope X.env=pure cl) (c1:∀ n c,cl.lookup n=some c→X.env.cells.lookup n=some c) (c2:∀ y∈scope.names,y.2=.free→∃ c,cl.lookup y.1=some c)
  (I:Inv X pins σ H s) (T:Turn X.prog X.w X.K tg J fp it tn) (st:tn 0 s.heap) (hf:∀ b∈fp,FpOk X pins H b)
  (hW:∀ D,H D=none→∃ W,BlkW sizeLine J g (tTests ifs tc) te D (Fin D) W∧∃ m,W 0 m (startB own cap σ) (upd H D (.lst [])) [])
  (fin:∀ D C s' H' ys,Inv X pins σ H' s'→FpOk X pins H' C→(∃ m,s'.heap.Ns C m)→H' D=some (.lst ys)→Fin D H' ys→RR (.ref D) C (.ok .next) s') :
  wpAny (model X.prog X.w) X.A (newList []) (fun acc s3=>wpAny (model X.prog X.w) X.A (newFunctionEnv scope X.env.globals cl [] X.env.qual none .none (some X.env)) (fun cenv s4 =>
   codeAny (model X.prog X.w) X.A (.compStart (.ListComp elt [⟨tg,iter,ifs,0⟩] scope pos) 0 (.ref it) acc { cenv with scope:=relabel scope X.env }) (RR acc cenv.locals) s4) E s3) E s:=by
 have hfo:∀ b∈fp,b < s.heap.objs.size:=fun b hb=>by
  obtain⟨o,e,_⟩:=T.obj 0 _ st b hb
  exact Heap.lt_size e
 have hD:=I.hok.fresh (Nat.le_refl _)
 obtain⟨W,hturn,m0,w0⟩:=hW _ hD
 refine wpAny_newObj_type (fB fun h1 cl2 hns kk cb=>?_)
 have I3:=I.lnew (t':=s.toks) (its:=[]) .nil (Nat.zero_le _)
 have hfp3:∀ b∈fp,FpOk X pins (upd H s.heap.objs.size (.lst [])) b:=fun b hb=>⟨by rw[ag (Nat.ne_of_lt (hfo b hb))];exact(hf b hb).1,(hf b hb).2⟩
 have st1:tn 0 h1:=T.keep 0 _ _ st fun b hb o e=>kk b o (Heap.get?_push_of_some _ e)
 generalize hX:blk X scope cl2 (s.heap.push { cls:=.type "list",data:=.seq #[] }).objs.size { s with heap:=s.heap.push { cls:=.type "list",data:=.seq #[] } } (upd H s.heap.objs.size (.lst [])) fp N=X'
 have I4:Inv X' [] (startB own cap σ) (upd H s.heap.objs.size (.lst [])) { s with heap:=h1 }:=by
  rw[← hX]
  exact o9 b hc I3 hfp3 (fun b hb=>Nat.lt_of_lt_of_le (hfo b hb) (by rw[Heap.size_push];exact Nat.le_succ _)) c1 c2 hns kk cb
 have eP:X'.prog=X.prog:=by rw[← hX];rfl
 have ew:X'.w=X.w:=by rw[← hX];rfl
 have eK:X'.K=X.K:=by rw[← hX];rfl
 have eA:X'.A=X.A:=by rw[← hX];rfl
 have ec:X'.calm=true:=by rw[← hX];rfl
 have ee:X'.env=compEnvC scope cl2 (s.heap.push { cls:=.type "list",data:=.seq #[] }).objs.size X.env:=by rw[← hX];rfl
 have ex:X'.xe=fun _ _=>False:=by rw[← hX];rfl
 have epn:X'.pn=[]:=by rw[← hX];rfl
 have eex:X'.ex=fp:=by rw[← hX];rfl
 have pg:PG X' tg g:=by rw[← hX];exact hg _ _ _ _ _
 have pe:PE X' elt te:=by rw[← hX];exact he _ _ _ _ _
 have pt:∀ c,ifs=[c]→PT X' c tc:=fun c q=>by rw[← hX];exact ht c q _ _ _ _ _
 have fpB:∀ {H':Hp},(∀ b∈fp,H' b=none)→∀ {s'':Shared} {σ':St},Inv X' [] σ' H' s''→∀ b∈fp,FpOk X' [] H' b:=fun {H'} hn {s'' σ'} Iv b hb =>
  ⟨hn b hb,(Iv.ok.exf b (by rw[eex];exact hb)).1,Iv.ok.exfs b (by rw[eex];exact hb),.inl (by rw[eex];exact hb),(Iv.ok.exf b (by rw[eex];exact hb)).2,fun p hp=>by rw[epn]at hp;exact(nomatch hp)⟩
 have loop:codeAny (model X.prog X.w) X.A (.compLoop (.ListComp elt [⟨tg,iter,ifs,0⟩] scope pos) 0 (.ref it) (.ref s.heap.objs.size) (compEnvC scope cl2 (s.heap.push { cls:=.type "list",data:=.seq #[] }).objs.size X.env))
   (RR (.ref s.heap.objs.size) (s.heap.push { cls:=.type "list",data:=.seq #[] }).objs.size) { s with heap:=h1 }:=by
  refine qC hifs (fun n s'=>∃ i σ' H' ys,Inv X' [] σ' H' s'∧tn i s'.heap∧(∀ b∈fp,H' b=none)∧W i n σ' H' ys) (fun n s5 ⟨i,σ5,H5,ys,I5,st5,fr5,w5⟩=>?_) m0
   ⟨0,startB own cap σ,_,[],I4,st1,fun b hb=>(hfp3 b hb).1,w0⟩
  obtain⟨hDy,hgo⟩:=hturn i n σ5 H5 ys w5
  have hs5:=fpB fr5 I5
  rcases hgo with ⟨stop,hfin⟩ | ⟨go,step⟩
  ·have q:=T.done X' eP ew eK ec i [] s5 σ5 H5 (fun _ _=>False) I5 hs5 st5 stop
   rw[eA]at q
   refine wpAny_mono q (fun r s6 ⟨hr,I6⟩=>?_) fun _ _ z=>z
   subst hr
   rw[← hX]at I6
   obtain⟨J1,J2,J3⟩:=iN I hf rfl rfl rfl rfl I6
   exact fin _ _ s6 H5 ys J1 J2 J3 hDy hfin
  ·have q:=T.item X' eP ew eK ec i [] s5 σ5 H5 (fun _ _=>False) I5 hs5 st5 go
   rw[eA]at q
   refine wpAny_mono q (fun r s6 ⟨u,hr,h6⟩=>?_) fun _ _ z=>z
   subst hr
   refine wpAny_mono h6 (fun _ s7 ⟨x,H7,I7,r7,y7,st7,fr7⟩=>?_) fun _ _ z=>z
   have I7':=I7.pinned (fpB fr7 I7) (T.obj _ _ st7)
   rw[List.nil_append]at I7'
   have qg:=pg _ s7 σ5 H7 x u _ I7' r7 (step x H7 y7)
   rw[eP,ew,eA,ee,ex]at qg
   refine wpAny_mono qg (fun _ s8 ⟨σ8,H8,I8,q8⟩=>?_) fun _ _ z=>z
   have again:∀ {s9:Shared} {H9:Hp} {zs:List V},Inv X' (pinsAt fp s7.heap) σ8 H9 s9→(∃ m',m' < n∧W (i+1) m' σ8 H9 zs) →
     ∃ m,m < n∧∃ i σ' H' ys,Inv X' [] σ' H' s9∧tn i s9.heap∧(∀ b∈fp,H' b=none)∧W i m σ' H' ys:=fun {s9 H9 zs} I9 ⟨m',hm,w9⟩=>by
    have I9':Inv X' ([]++pinsAt fp s7.heap) σ8 H9 s9:=by rw[List.nil_append];exact I9
    refine⟨m',hm,i+1,σ8,H9,zs,I9'.unpinned,T.keep _ _ _ st7 fun b hb o e=>(I9.pin (b,o) (List.mem_append_right _ (bD hb e))).1,fun b hb=>?_,w9⟩
    obtain⟨o,e,d⟩:=T.obj _ _ st7 b hb
    exact(I9.pin (b,o) (List.mem_append_right _ (bD hb e))).2.1
   have body:∀ (ok:Bool) (s9:Shared),(∃ H9,Inv X' (pinsAt fp s7.heap) σ8 H9 s9∧(if ok=true then te σ8 H9 fun y H4=>H4 s.heap.objs.size=some (.lst ys)∧ys.length < sizeLine∧∃ m',m' < n∧W (i+1) m' σ8 (upd H4 s.heap.objs.size (.lst (ys++[y]))) (ys++[y]) else ∃ m',m' < n∧W (i+1) m' σ8 H9 ys)) →
     if ok=true then wpAny (model X.prog X.w) X.A (eval elt (compEnvC scope cl2 (s.heap.push { cls:=.type "list",data:=.seq #[] }).objs.size X.env)) (fun x s5=>wpAny (model X.prog X.w) X.A (call (.builtin "list.append") [.ref s.heap.objs.size,x]) (fun _ s6=>∃ m,m < n∧∃ i σ' H' ys,Inv X' [] σ' H' s6∧tn i s6.heap∧(∀ b∈fp,H' b=none)∧W i m σ' H' ys) (fun _ _=>False) s5) (fun _ _=>False) s9
     else ∃ m,m < n∧∃ i σ' H' ys,Inv X' [] σ' H' s9∧tn i s9.heap∧(∀ b∈fp,H' b=none)∧W i m σ' H' ys:=by
    intro ok s9 ⟨H9,I9,h9⟩
    cases ok with
    | false=>exact again I9 h9
    | true =>
     have qe:=pe _ s9 σ8 H9 _ I9 h9
     rw[eP,ew,eA,ee,ex]at qe
     refine wpAny_mono qe (fun u s10 ⟨y,H10,I10,r10,hD10,hlt,m',hm,w10⟩=>?_) fun _ _ z=>z
     have qa:=gq (X:=X') (pinsAt fp s7.heap) s10 σ8 H10 (.ref s.heap.objs.size) [y] (.ref s.heap.objs.size) [u] (fun _ H11=>H11=upd H10 s.heap.objs.size (.lst (ys++[y]))) I10 rfl (.cons r10 .nil)
      ⟨s.heap.objs.size,ys,y,rfl,rfl,hD10,hlt,rfl⟩
     rw[eP,ew,eA,ex]at qa
     refine wpAny_mono qa (fun _ s11 ⟨_,H11,I11,_,e11⟩=>?_) fun _ _ z=>z
     subst e11
     exact again I11 ⟨m',hm,w10⟩
   refine qH hifs (fun q=>body true s8 ⟨H8,I8,iO q q8⟩) fun c q=>?_
   have qt:=pt c q _ s8 σ8 H8 _ I8 (nF q q8)
   rw[eP,ew,eA,ee,ex]at qt
   exact wpAny_mono qt (fun ok s9 ⟨H9,I9,h9⟩=>body ok s9 ⟨H9,I9,h9⟩) fun _ _ z=>z
 exact codeAny_compStart_list loop (T.self _ 0 _ _ _ st1 loop)
def tComp (own:Nat)(cap:List Nat)(wi:TI)(g:TG)(tc:TT)(te:TE):TE:=fun σ H Q=>wi σ H fun J H1=>∀ D,H1 D=none→∃ W,BlkW sizeLine J g tc te D (fun H' _=>Q (.ref D) H') W∧∃ m,W 0 m (startB own cap σ) (upd H1 D (.lst [])) []
theorem kO (b:BlkOk X.N X.env.scope scope N own cap)(hc:X.calm=true)(hifs:ifs.length≤1)(hi:PI X tg iter wi)
  (hg:∀ cl C s H fp,PG (blk X scope cl C s H fp N) tg g) (ht:∀ c,ifs=[c]→∀ cl C s H fp,PT (blk X scope cl C s H fp N) c tc) (he:∀ cl C s H fp,PE (blk X scope cl C s H fp N) elt te)
  (hs:∀ x,foldedSetIterable iter X.env x=pure x:=by intro _;rfl):PE X (.ListComp elt [⟨tg,iter,ifs,0⟩] scope pos) (tComp own cap wi g (tTests ifs tc) te):=by
 intro pins s σ H Q I h
 obtain⟨cl,hclos,c1,c2⟩:=eX scope X.env fun y hy hf=>I.ok.has y.1 (b.free y hy hf)
 rw[eval_ListComp]
 refine wpAny_comprehension_free rfl hs hclos b.kind b.nloc (thn (hi pins s σ H _ I h) fun v s1 h1=>thn h1 fun itv s2 h2=>?_)
 obtain⟨it,fp,tn,J,H2,e,I2,T,st2,f2,hW⟩:=h2
 subst e
 refine lR b hc hifs hg ht he hclos c1 c2 I2 T st2 f2 hW fun D C s' H' ys J1 J2 ⟨m,hm⟩ hD hQ=>?_
 refine⟨m,hm,fun h' hsb=>⟨.ref D,H',?_,rfl,hQ⟩⟩
 obtain⟨f0,f1,f2,f3,f4,f5⟩:=J2
 exact J1.turned (fun b o hb e=>(hsb.2 b hb).trans e) f0 f1 f3 f4 f5
def tCompSet (i own:Nat)(cap:List Nat)(wi:TI)(g:TG)(tc:TT)(te:TE):TS:=fun E σ H=>wi σ H fun J H1=>∀ D,H1 D=none→∃ W,BlkW sizeLine J g tc te D (fun H' _=>E.nx (σ.set i (some (.ref D))) H') W∧∃ m,W 0 m (startB own cap σ) (upd H1 D (.lst [])) []
theorem nG {i:Nat}{y:Str}{py spos:Pos}(b:BlkOk X.N X.env.scope scope N own cap)(hc:X.calm=true)(hifs:ifs.length≤1)(hi:PI X tg iter wi)
  (hg:∀ cl C s H fp,PG (blk X scope cl C s H fp N) tg g) (ht:∀ c,ifs=[c]→∀ cl C s H fp,PT (blk X scope cl C s H fp N) c tc) (he:∀ cl C s H fp,PE (blk X scope cl C s H fp N) elt te)
  (hN:X.N.Nodup) (hiy:X.N[i]?=some y) (hy:Loc X.env.scope y) (hfn:X.fn y=true∨X.env.scope.names.lookup y=some .local)
  (hsw:swapsWith (.ListComp elt [⟨tg,iter,ifs,0⟩] scope pos) (some (.Name y py)) spos.line X.env=pure true)
  (hs:∀ x,foldedSetIterable iter X.env x=pure x:=by intro _;rfl):PS X (.Assign [.Name y py] (.ListComp elt [⟨tg,iter,ifs,0⟩] scope pos) spos) (tCompSet i own cap wi g (tTests ifs tc) te):=by
 intro pins s σ H E I h
 obtain⟨cl,hclos,c1,c2⟩:=eX scope X.env fun y hy hf=>I.ok.has y.1 (b.free y hy hf)
 rw[exec_Assign_Name_used _ _ _ _ hsw]
 refine wpAny_bind (wpAny_standAt (wpAny_bind ?_))
 show wpAny _ X.A (do let _ ← comprehension (.ListComp elt [⟨tg,iter,ifs,0⟩] scope pos) scope X.env _ (newList []) false (eval iter X.env) (some (assign (.Name y py) X.env))) _ _ s
 refine wpAny_bind (wpAny_mono (wpAny_comprehension_free (use:=some (assign (.Name y py) X.env)) (Q:=fun _ s'=>SP X pins E .next s') rfl hs hclos b.kind b.nloc (thn (hi pins s σ H _ I h) fun v s1 h1=>thn h1 fun itv s2 h2=>?_)) (fun _ s' hq=>wpAny_pure (wpAny_pure hq)) fun _ _ e=>e)
 obtain⟨it,fp,tn,J,H2,e,I2,T,st2,f2,hW⟩:=h2
 subst e
 refine lR (RR:=fun acc C=>compPost (model X.prog X.w) X.A X.xe (some (assign (.Name y py) X.env)) (fun _ s'=>SP X pins E .next s') acc C) b hc hifs hg ht he hclos c1 c2 I2 T st2 f2 hW fun D C s' H' ys J1 J2 ⟨m,hm⟩ hD hQ=>?_
 obtain⟨f0,f1,f2,f3,f4,f5⟩:=J2
 refine wpAny_assign_Name (jZ J1 hN hiy hy (v:=.ref D) rfl (fun s'' I'' ⟨a,hsb,ha⟩=>?_) hfn)
 have hne:C≠a:=by
  rcases ha with z | z
  ·rw[z];exact f1
  ·exact fun q=>f4 y a z q.symm
 refine⟨m,hm.sameBut hsb hne,fun h' hs'=>⟨_,H',I''.turned (t':=s''.toks) (fun b o hb e=>(hs'.2 b hb).trans e) f0 f1 f3 f4 f5,hQ⟩⟩
end
theorem objThere {P:Program}{w:World}{H:Hp}{h:Heap}{a:Addr}{o:HO}(x:ObjOk P w H h a o):∃ ob,h.get? a=some ob:=by
 cases o with
 | lst xs=>obtain⟨_,_,_,_,e⟩:=x;exact⟨_,e⟩
 | tup xs=>obtain⟨_,_,_,o,e,_⟩:=x;exact⟨o,e⟩
 | dK kvs=>obtain⟨_,_,_,_,o,_,_,e,_⟩:=x;exact⟨o,e⟩
 | dT kvs=>obtain⟨_,_,_,_,o,_,_,e,_⟩:=x;exact⟨o,e⟩
 | set S n=>obtain⟨o,_,_,_,e,_⟩:=x;exact⟨o,e⟩
 | ins C dx fs=>obtain⟨_,_,_,e,_⟩:=x;exact⟨_,e⟩
 | own y=>exact x
 | xd fs=>obtain⟨_,⟨o,_,_,e,_⟩,_⟩:=x;exact⟨o,e⟩
 | rng lo hi=>obtain⟨_,_,_,e⟩:=x;exact⟨_,e⟩
 | frz ob u=>obtain⟨e,_⟩:=x;exact⟨_,e⟩
 | tbl ps=>exact⟨_,(show h.get? a=some _ from x)⟩
 | met f y=>exact⟨_,(show h.get? a=some _ from x)⟩
 | ext φ=>obtain⟨_,e,_⟩:=x;exact e
def Cov (B:Heap)(h h':Heap)(H':Hp)(l:List Env):Prop:=∀ b o,h'.get? b=some o→(H' b≠none∨∃ o',h.get? b=some o')→b∉frs l→B.get? b=some o
def CXE (P:Program)(w:World):CXT:=fun outer H s E e s' =>
 ∃ (ea C t:Addr) (H':Hp) (B:Heap),e=.ref ea∧s'.os=s.os∧AllBare s'.gens∧Un (frs outer) [] H H' s.heap s'.heap∧HOk P w H' s'.heap ∧
  Heap.FlyingW B outer ea (.ref C) (.ref t) s'.heap∧H' ea=none∧Cov B s.heap s'.heap H' outer∧E (.ref C) none H'
section
variable {X:Cx}{pins:List (Addr×Obj)}{σ:St}{H H':Hp}{s s':Shared}{B:Heap}
end
section
variable {P:Program}{w:World}{K:PySem.W.Frag}{mg:Str→Option Value}{base:Heap}{N:List Str}{qual:Str}{scope:Scope}{f:Addr}{cd:Value}{A:Around}{outer:List Env}{s0:Shared}{H0:Hp}{E:XK}
abbrev bodyX (P:Program)(w:World)(K:PySem.W.Frag)(mg:Str→Option Value)(base:Heap)(N:List Str)(qual:Str)(scope:Scope)(f:Addr)(cd:Value)(A:Around)(outer:List Env)(s0:Shared)(H0:Hp)(E:XK):Cx :=
 cxOf (CXE P w) P w K mg base N qual scope f cd A outer s0 H0 E
theorem kP {pins:List (Addr×Obj)}{σ:St}{H':Hp}{s':Shared}{B h2:Heap}{ea C t:Addr}(J:Inv (bodyX P w K mg base N qual scope f cd A outer s0 H0 E) pins σ H' s')
  (cov:Cov B s0.heap s'.heap H' (envOfC qual scope s0.heap.objs.size f cd::outer)) (up:s'.heap.UpToSlots h2) (fl:Heap.FlyingW B outer ea (.ref C) (.ref t) h2) (hn:H' ea=none) (hE:E (.ref C) none H') :
  CXE P w outer H0 s0 E (.ref ea) { s' with heap:=h2 }:=by
 have hB:=fl.1
 have nloc:∀ b o,s0.heap.get? b=some o→b≠s0.heap.objs.size:=fun b o e=>Nat.ne_of_lt (Heap.lt_size e)
 have nstk:∀ b,b≠s0.heap.objs.size→b∉frs outer→b∉frs (envOfC qual scope s0.heap.objs.size f cd::outer):=fun b h1 h2 z=>(List.mem_cons.mp (J.stkSub b z)).elim h1 h2
 have trk:=fun b o e ht=>cov b o e (.inl ht) fun z=>ht (J.stkFree b z)
 have noe:∀ b:Addr,b∉([]:List Addr):=fun _ z=>nomatch z
 have nf:∀ b∈frs outer,∀ o,s'.heap.get? b=some o→∀ vs,o.data≠.fields vs:=fun b hb o e=>by
  obtain⟨_,o',e',d⟩:=J.funs.mem hb
  rw[e]at e';cases e';exact d
 have thr:∀ b o,s0.heap.get? b=some o→∃ o',s'.heap.get? b=some o'∧(b∉frs outer→B.get? b=some o'):=fun b o e=>by
  obtain⟨o',e1⟩:=J.base.there b o e (noe b)
  exact⟨o',e1,fun hb=>cov b o' e1 (.inr ⟨o,e⟩) (nstk b (nloc b o e) hb)⟩
 refine⟨ea,C,t,H',B,rfl,J.os,J.bare,⟨fun b o e n hb hx=>?_,fun b o e n hb hx=>?_,J.base.free,fun b o e hx=>?_,J.base.tups,J.base.frzs,J.base.tbls⟩,fun b u e=>?_,fl,hn,fun b o e hc hb=>?_,hE⟩
 ·have e1:=J.base.keep b o e n hb hx
  exact hB b o (cov b o e1 (.inr ⟨o,e⟩) (nstk b (nloc b o e) hb))
 ·obtain⟨sl,e1⟩:=J.base.slot b o e n hb hx
  obtain⟨sl',e2⟩:=up b _ e1 (nf b hb _ e1)
  exact⟨sl',e2⟩
 ·obtain⟨o',e1,e2⟩:=thr b o e
  by_cases hb:b∈frs outer
  ·obtain⟨sl',e3⟩:=up b _ e1 (nf b hb _ e1)
   exact⟨_,e3⟩
  ·exact⟨o',hB b o' (e2 hb)⟩
 ·refine(J.hok b u e).stay (fun c v hc q=>hB c v (trk c v q ?_)) (fun _ q=>q) fun _ _ q=>q
  rcases hc with z | z
  ·subst z;rw[e];simp
  ·rw[z];simp
 ·have same:∀ o',s'.heap.get? b=some o'→B.get? b=some o'→B.get? b=some o:=fun o' _ q=>by
   have:=hB b o' q
   have e':=e
   rw[e']at this;cases this;exact q
  rcases hc with z | ⟨o',z⟩
  ·cases q:H' b with
   | none=>exact absurd q z
   | some u =>
    obtain⟨o',e1⟩:=objThere (J.hok b u q)
    exact same o' e1 (trk b o' e1 (by rw[q];simp))
  ·obtain⟨o'',e1,e2⟩:=thr b o' z
   exact same o'' e1 (e2 hb)
theorem j7:Passes (CXE P w) (bodyX P w K mg base N qual scope f cd A outer s0 H0 E) E:=by
 intro pins σ H s e s' I h
 obtain⟨ea,C,t,H',B,rfl,os,bare,un,hok,fl,hn,cov,hE⟩:=h
 have J:=I.call' os un hok bare fun b z=>nomatch z
 refine wpAny_leaves_onW I.ok.frames rfl fl fun h2 fl2 up=>?_
 refine kP J (fun b o e hc hb=>cov b o e ?_ hb) up fl2 hn hE
 rcases hc with z | ⟨o',z⟩
 ·exact .inl z
 ·obtain⟨o'',z'⟩:=I.base.there b o' z (fun q=>nomatch q)
  exact .inr ⟨o'',z'⟩
theorem qI {pins:List (Addr×Obj)}{σ:St}{H:Hp}{s:Shared}{h1:Heap}{ea C:Addr}{args:List Value}(I:Inv (bodyX P w K mg base N qual scope f cd A outer s0 H0 E) pins σ H s)(hx:Heap.MadeExcOf s.heap h1 ea (.ref C) args)(hE:E (.ref C) none H) :
  (bodyX P w K mg base N qual scope f cd A outer s0 H0 E).xe (.ref ea) { s with heap:=h1 }:=by
 have hin:∀ env∈(envOfC qual scope s0.heap.objs.size f cd::outer),∀ a,env.frame=some a→a∈frs (envOfC qual scope s0.heap.objs.size f cd::outer):=fun env he a ha=>List.mem_filterMap.mpr ⟨env,he,ha⟩
 refine wpAny_leaves_madeW I.ok.frames rfl (fun b o q=>PySem.W.of_hideAll _ q) (PySem.W.funFrames_hide I.stack hin) hx fun h2 t fl _ _ up=>?_
 have hn:H ea=none:=by
  cases q:H ea with
  | none=>rfl
  | some u =>
   obtain⟨o,e⟩:=objThere (I.hok ea u q)
   rw[hx.new]at e;cases e
 exact kP (s':=s) I (fun b o e _ hb=>PySem.W.hideAll_get _ e hb) ((Heap.UpToSlots.of_keeps hx.keeps).trans up) fl hn hE
end
def Walk (J:It)(vs:List V)(Ok:Hp→Prop):Prop:=∀ (i:Nat) (H:Hp),Ok H→(i < vs.length→J.go i H∧∀ x H',J.yld i H x H'→H'=H∧vs[i]?=some x)∧(vs.length≤i→J.stop i H)
def WalkG (F:Fx)(J:It)(ds:List D)(Z1:Hp):Prop:=∀ (i:Nat) (H Z:Hp),Same Z1 Z→Same Z H→(i < ds.length→J.go i H∧∀ x H',J.yld i H x H'→∃ Z' d,Ex H Z H' Z'∧ds[i]?=some d∧Rep F.K F.C Z' d x)∧(ds.length≤i→J.stop i H)
theorem iP {F:Fx}{J:It}{ds:List D}{vs:List V}{Z1:Hp}(rs:Reps F.K F.C Z1 ds vs)(w:Walk J vs (Same Z1)):WalkG F J ds Z1:=fun i H Z z1 z2=>by
 obtain⟨k1,k2⟩:=w i H (z1.trans z2)
 have hl:=rs.length
 refine⟨fun hi=>?_,fun hi=>k2 (by omega)⟩
 obtain⟨go,y⟩:=k1 (by omega)
 exact⟨go,fun x H' hy=>by
  obtain⟨e0,e2⟩:=y x H' hy
  subst e0
  obtain⟨d,e3,rd⟩:=rs.get' e2
  exact⟨Z,d,Ex.refl z2,e3,rd.mono z1⟩⟩
def tI (F:Fx)(g:SS→R (List D)):TI:=fun σ H Q=>∃ Z S,StOk F H Z S σ∧WG F H Z (g S) fun ds H' Z'=>∀ J,WalkG F J ds Z'→ds.length≤16777216→Q J H'
abbrev FI (X:Cx)(F:Fx)(tg e:Expr)(g:SS→R (List D)):Prop:=PI X tg e (tI F g)
def asSeq:D→R (List D)
 | .tup xs=>.ok xs
 | .lst xs=>.ok xs
 | _=>.stuck
def iSeq (g:SS→R D):SS→R (List D):=fun S=>(g S).bind fun d=>(asSeq d).bind fun ds=>if ds.length≤16777216 then .ok ds else .stuck
theorem _root_.L2.PI.weak {X:Cx}{tg e:Expr}{t t':TI}(h:PI X tg e t)(w:∀ σ H Q,t' σ H Q→t σ H Q):PI X tg e t':=fun pins s σ H Q I q=>h pins s σ H Q I (w σ H Q q)
theorem qJ {K:PySem.W.Frag}{a:Addr}{vs:List V}{Z:Hp}(h:SqL K Z a vs):Walk (Itl K a) vs (Same Z):=fun i H hz =>
 ⟨fun hi=>⟨⟨vs,vs[i],hz.seq h,by simp[hi]⟩,fun x H' ⟨e,y⟩=>⟨e,y vs (hz.seq h)⟩⟩,fun hi=>⟨vs,hz.seq h,hi⟩⟩
theorem tF {K:PySem.W.Frag}{a:Addr}{vs:List V}{Z:Hp}(h:SqT K Z a vs):Walk (Itt K a) vs (Same Z):=fun i H hz =>
 ⟨fun hi=>⟨⟨vs,vs[i],h.mono hz,by simp[hi]⟩,fun x H' ⟨e,y⟩=>⟨e,y vs (h.mono hz)⟩⟩,fun hi=>⟨vs,h.mono hz,hi⟩⟩
theorem nH {lo:Int}{n:Nat}{Z:Hp}:Walk (Itr lo n) ((List.range n).map fun i=>.int (lo+(i:Nat))) (Same Z):=fun i H hz=>by
 refine⟨fun hi=>?_,fun hi=>?_⟩
 ·have hi':i < n:=by simpa using hi
  exact⟨hi',fun x H' ⟨e,y⟩=>⟨e,by rw[y];simp[hi']⟩⟩
 ·show n≤i
  simpa using hi
theorem xW {X:Cx}{tg l:Expr}{tl:TE}(hl:PE X l tl):PI X tg l (fun σ H R=>tl σ H fun x H1=>∃ a,x=.ref a∧(((∃ xs,SqL X.K H1 a xs)∧R (Itl X.K a) H1)∨((∃ xs,SqT X.K H1 a xs)∧R (Itt X.K a) H1))):=by
 intro pins s σ H Q I h
 refine thn (hl pins s σ H _ I h) fun v s1 ⟨x,H1,I1,r1,a,e,q⟩=>?_
 subst e
 cases r1
 rcases q with ⟨⟨xs,hq⟩,q⟩ | ⟨⟨xs,hq⟩,q⟩
 ·obtain⟨its,rv,p,hz⟩:=I1.list hq
  refine wpAny_pyIter_list p.isList ⟨s1.heap.objs.size,[s1.heap.objs.size],_,_,H1,rfl,I1.kept fun b o e=>Heap.get?_push_of_some _ e,ql a _,⟨_,Heap.get?_push_size _ rfl,rfl,rfl⟩,fun b hb=>?_,q⟩
  obtain rfl:b=s1.heap.objs.size:=by simpa using hb
  exact I1.fpOk (Nat.le_refl _) (I1.hok.fresh (Nat.le_refl _))
 ·obtain⟨its,rv,p,hz⟩:=I1.tuple hq
  refine wpAny_pyIter_tuple (show s1.heap.IsTuple a its.toArray from p) ⟨s1.heap.objs.size,[s1.heap.objs.size],_,_,H1,rfl,I1.kept fun b o e=>Heap.get?_push_of_some _ e,nu a _,⟨_,Heap.get?_push_size _ rfl,rfl,rfl⟩,fun b hb=>?_,q⟩
  obtain rfl:b=s1.heap.objs.size:=by simpa using hb
  exact I1.fpOk (Nat.le_refl _) (I1.hok.fresh (Nat.le_refl _))
section
variable {X:Cx}{F:Fx}{tg e:Expr}{g:SS→R D}{gs:SS→R (List D)}
theorem bh (hK:X.K=F.K)(h:FE X F e g):FI X F tg e (iSeq g):=(xW h).weak fun σ H Q ⟨Z,S,ok,w⟩=>aA ok w fun d v H1 Z1 ok1 x1 rv w1=>by
 rw[hK]
 cases d with
 | tup ds =>
  rw[Rep]at rv
  obtain⟨a,vs,rfl,h1,h2⟩:=rv
  have w2:WG F H1 Z1 (if ds.length≤16777216 then R.ok ds else .stuck) _:=w1
  split at w2
  ·rename_i hl
   exact⟨a,rfl,.inr ⟨⟨vs,h1.mono ok1.sub⟩,WG.now w2 ok1.sub _ (iP h2 (tF h1)) hl⟩⟩
  ·exact w2.elim
 | lst ds =>
  rw[Rep]at rv
  obtain⟨a,vs,rfl,h1,h2⟩:=rv
  have w2:WG F H1 Z1 (if ds.length≤16777216 then R.ok ds else .stuck) _:=w1
  split at w2
  ·rename_i hl
   exact⟨a,rfl,.inl ⟨⟨vs,ok1.sub.seq h1⟩,WG.now w2 ok1.sub _ (iP h2 (qJ h1)) hl⟩⟩
  ·exact w2.elim
 | _=>exact w1.elim
def rngD (lo:Int)(n:Nat):List D:=(List.range n).map fun i=>.int (lo+(i:Nat))
def rng1:List D→R (List D)
 | [.int j]=>if -16777216≤j∧j≤16777216 then .ok (rngD 0 j.toNat) else .stuck
 | _=>.stuck
def iRange1 (gs:SS→R (List D)):SS→R (List D):=fun S=>(gs S).bind rng1
theorem lT {K:PySem.W.Frag}{C:Nat→Addr}{Z:Hp}(lo:Int):∀ (l:List Nat),Reps K C Z (l.map fun i=>.int (lo+(i:Nat))) (l.map fun i=>.int (lo+(i:Nat)))
 | []=>Reps.nil
 | a::r=>Reps.cons (by rw[Rep]) (lT lo r)
theorem pb {K:PySem.W.Frag}{C:Nat→Addr}{Z:Hp}{j:Int}{vs:List V}(r:Reps K C Z [.int j] vs):vs=[.int j]:=by
 rw[Reps]at r
 obtain⟨v,r',rfl,h1,h2⟩:=r
 rw[Reps]at h2
 rw[Rep]at h1
 rw[h1,h2]
theorem tG {K:PySem.W.Frag}{C:Nat→Addr}{Z:Hp}{i j:Int}{vs:List V}(r:Reps K C Z [.int i,.int j] vs):vs=[.int i,.int j]:=by
 rw[Reps]at r
 obtain⟨v,r',rfl,h1,h2⟩:=r
 rw[Rep]at h1
 rw[h1,pb h2]
theorem vL {ds:List D}{es:List D}(h:rng1 ds=.ok es):∃ j:Int,ds=[.int j]∧(-16777216≤j∧j≤16777216)∧es=rngD 0 j.toNat:=by
 unfold rng1 at h
 split at h
 ·rename_i j
  split at h
  ·rename_i q;cases h;exact⟨j,rfl,q,rfl⟩
  ·cases h
 ·cases h
theorem vM {ds:List D}{k:Nat}(h:rng1 ds=.err k):False:=by
 unfold rng1 at h
 split at h
 ·split at h<;>cases h
 ·cases h
theorem av {a:Expr}{p pos:Pos}(hg:Gl X "range")(hm:X.mg "range"=none)(ha:FA X F [a] gs)(hs:starEach [a] X.env=[(false,eval a X.env)]:=by rfl):FI X F tg (.Call (.Name "range" p) [a] [] pos) (iRange1 gs) :=
 (qm hg hm ha hs).weak fun σ H Q ⟨Z,S,ok,w⟩=>aO ok w fun ds vs H1 Z1 ok1 x1 rs w1=>by
  cases e:rng1 ds with
  | err k=>exact(vM e).elim
  | stuck=>rw[e]at w1;exact w1.elim
  | ok es =>
   rw[e]at w1
   obtain⟨j,rfl,hj,rfl⟩:=vL e
   exact⟨j,pb rs,by omega,by omega,WG.now w1 ok1.sub _ (iP (lT 0 _) nH) (by unfold rngD;rw[List.length_map,List.length_range];omega)⟩
end
def tGd (F:Fx)(g:D→SS→R SS):TG:=fun v σ H Q=>∃ Z S d,StOk F H Z S σ∧Rep F.K F.C Z d v∧WG F H Z (g d S) fun S' H' Z'=>∀ σ',StOk F H' Z' S' σ'→Q σ' H'
abbrev FG (X:Cx)(F:Fx)(tg:Expr)(g:D→SS→R SS):Prop:=PG X tg (tGd F g)
def gNm (i:Nat):D→SS→R SS:=fun d S=>.ok (S.set i (some (.val d)))
theorem _root_.L2.PG.weak {X:Cx}{tg:Expr}{t t':TG}(h:PG X tg t)(w:∀ v σ H Q,t' v σ H Q→t v σ H Q):PG X tg t':=fun pins s σ H v u Q I r q=>h pins s σ H v u Q I r (w v σ H Q q)
theorem au {X:Cx}{F:Fx}(i:Nat){x:Str}{pos:Pos}(hN:X.N.Nodup)(hi:X.N[i]?=some x:=by rfl)(hx:Loc X.env.scope x:=by first | exact Or.inl rfl | exact Or.inr rfl)(hf:X.fn x=true∨X.env.scope.names.lookup x=some .local:=by first | exact .inl rfl | exact .inr rfl) :
  FG X F (.Name x pos) (gNm i):=(o4 hN hi hx hf).weak fun v σ H Q ⟨Z,S,d,ok,r,w⟩=>WG.now w ok.sub _ (ok.setVal r)
def spF (K:PySem.W.Frag)(C:Nat→Addr)(n:Nat)(f:List D→R D):Sp:=fun vs H Q E =>
 vs.length=n∧∃ Z ds,Same Z H∧Reps K C Z ds vs∧WG ⟨K,C,H,Z,E⟩ H Z (f ds) fun d H' Z'=>∀ v,Rep K C Z' d v→Q v H'
def outD (o:O):R D:=match o with
 | .nx _=>.ok .non
 | .rt d=>.ok d
 | .er k=>.err k
 | _=>.stuck
def startS (n:Nat)(ds:List D):SS:=ds.map (fun d=>some (.val d))++List.replicate (n - ds.length) none
def fnD (n:Nat)(body:SS→O):List D→R D:=fun ds=>outD (body (startS n ds))
theorem lU {F:Fx}{N:List Str}{ds:List D}{vs:List V}(z:Same F.Z0 F.H0)(r:Reps F.K F.C F.Z0 ds vs):StOk F F.H0 F.Z0 (startS N.length ds) (start N vs):=by
 have hl:=r.length
 have at_:∀ {i:Nat} {x:Option Sl},(startS N.length ds)[i]?=some x→(i < ds.length∧∃ d,ds[i]?=some d∧x=some (.val d))∨x=none:=fun {i x} e=>by
  unfold startS at e
  grind
 refine⟨Ex.refl z,?_,fun i d e=>?_,fun i j x y v w A B _ e1 _ _ _ o1 _=>?_⟩
 ·unfold startS L2.start
  simp[hl]
 ·rcases at_ e with ⟨hi,d',e1,e2⟩ | e2
  ·cases e2
   obtain⟨v,e3,rv⟩:=r.get e1
   refine⟨v,[],?_,⟨rfl,rv⟩,Priv.nil⟩
   unfold L2.start
   grind
  ·cases e2
 ·rcases at_ e1 with ⟨_,d',_,e2⟩ | e2
  ·cases e2;rw[o1.1];exact fun a ha=>nomatch ha
  ·cases e2
section
variable {P:Program}{w:World}{K:PySem.W.Frag}{mg:Str→Option Value}{base:Heap}
structure BX (X:Cx)(F:Fx)(k:Nat):Prop where
 room:Room k X.A
 K:X.K=F.K
 calm:X.calm=true
 pass:Passes (CXE X.prog X.w) X F.E
theorem zy {x qual:Str}{st:Stmt}{f:Addr}{fd:FuncData}{N ps:List Str}{k:Nat}{C:Nat→Addr}{body:SS→O}(F:Fun K x qual st f fd)(S:FnScope N ps (defScope st))
  (h:∀ (cdv:Value) (A:Around) (outer:List Env) (s:Shared) (H Z:Hp) (E:XK),BX (bodyX P w K mg base N qual (defScope st) f cdv A outer s H E) ⟨K,C,H,Z,E⟩ k →
   PassesOwn (model P w) (bodyX P w K mg base N qual (defScope st) f cdv A outer s H E).A (bodyX P w K mg base N qual (defScope st) f cdv A outer s H E).env (bodyX P w K mg base N qual (defScope st) f cdv A outer s H E).xe →
   FSs (bodyX P w K mg base N qual (defScope st) f cdv A outer s H E) ⟨K,C,H,Z,E⟩ (defBody st) body) :
  FnOk P w K mg base (CXE P w) (k+1) f fd ps (spF K C ps.length (fnD N.length body)):=by
 obtain⟨oc,od,kV,doc,pm,an,cdv,ct,osl,rfl,lk,hcd⟩:=F.ex
 refine sQ lk hcd S (fun vs H Q E q=>q.1) fun A outer s H vs Q E hr hsp=>?_
 obtain⟨_,Z,ds,z,r,w⟩:=hsp
 refine⟨_,h cdv A outer s H Z E ⟨hr,rfl,rfl,j7⟩ PassesOwn.leaving,Z,startS N.length ds,lU (F:=⟨K,C,H,Z,E⟩) (N:=N) z r,?_⟩
 unfold fnD at w
 cases e:body (startS N.length ds) with
 | nx S'=>rw[e]at w;exact fun σ' H' Z' _ ok=>w H' Z' ok.ex .non (by rw[Rep])
 | rt d=>rw[e]at w;exact fun v H' Z' x rv=>w H' Z' x v rv
 | er k=>rw[e]at w;exact w
 | bk S'=>rw[e]at w;exact w.elim
 | ct S'=>rw[e]at w;exact w.elim
 | stuck=>rw[e]at w;exact w
end
structure Fn1 (P:Program)(w:World)(K:PySem.W.Frag)(mg:Str→Option Value)(base:Heap)(C:Nat→Addr)(k:Nat)(x:Str)(ps:List Str)(f:List D→R D):Prop where
 ex:∃ a fd,FnOk P w K mg base (CXE P w) k a fd ps (spF K C ps.length f)∧mg x=some (.ref a)∧PySem.W.keepIn K (.ref a)=true∧Binds K fd ps []
def eCall (f:List D→R D)(gs:SS→R (List D)):SS→R D:=fun S=>(gs S).bind f
section
variable {X:Cx}{F:Fx}{x:Str}{p pos:Pos}{e:Expr}{es:List Expr}{gs:SS→R (List D)}{k:Nat}{ps:List Str}{f:List D→R D}
theorem tH (n:Nat)(hn:∀ S ds,gs S=.ok ds→ds.length=n):∀ σ H Q,tE F (eCall f gs) σ H Q→tCall (spF F.K F.C n f) [] F.E (tAl F gs) σ H Q:=fun σ H Q ⟨Z,S,ok,w⟩=>by
 refine⟨Z,S,ok,?_⟩
 cases e:gs S with
 | err k=>unfold eCall at w;rw[e]at w;exact w
 | stuck=>unfold eCall at w;rw[e]at w;exact w
 | ok ds =>
  unfold eCall at w
  rw[e]at w
  intro H1 Z1 x1 vs rs
  have w1:=WG.more (r:=f ds) w x1
  refine⟨by rw[List.append_nil,← rs.length];exact hn S ds e,Z1,ds,x1.sub,by rw[List.append_nil];exact rs,?_⟩
  cases q:f ds with
  | ok d=>rw[q]at w1;exact w1
  | err k=>rw[q]at w1;exact w1
  | stuck=>rw[q]at w1;exact w1
theorem vN (b:BX X F k)(h:Fn1 X.prog X.w F.K X.mg X.base F.C k x ps f)(hg:Gl X x)(ha:FA X F (e::es) gs)(hn:∀ S ds,gs S=.ok ds→ds.length=ps.length)(hdb:(x==("__debug__":Str))=false:=by decide)
  (he:starEach (e::es) X.env=(false,eval e X.env)::starEach es X.env:=by rfl) (hpl:(backTo pos (starEach es X.env)).any (·.1)=false:=by rfl):FE X F (.Call (.Name x p) (e::es) [] pos) (eCall f gs):=by
 obtain⟨a,fd,h1,h2,h3,h4⟩:=h.ex
 have hK:=b.K
 exact(vw (by rw[hK];exact h1) b.room hg h2 (by grind) (by grind) .nil b.pass ha hdb he hpl).weak (tH ps.length hn)
theorem qK {g:SS→R D}{gs:SS→R (List D)}{n:Nat}(h:∀ S ds,gs S=.ok ds→ds.length=n):∀ S ds,aCons g gs S=.ok ds→ds.length=n+1:=fun S ds e=>by
 unfold aCons at e
 cases q:g S with
 | err k=>rw[q]at e;cases e
 | stuck=>rw[q]at e;cases e
 | ok d =>
  rw[q]at e
  cases q2:gs S with
  | err k=>rw[R.bind_ok,q2]at e;cases e
  | stuck=>rw[R.bind_ok,q2]at e;cases e
  | ok r =>
   rw[R.bind_ok,q2]at e
   cases e
   simp[h S r q2]
end
def noErr {α:Type}(r:R α):R α:=match r with
 | .ok a=>.ok a
 | _=>.stuck
def blkS (own:Nat)(cap:List Nat)(S:SS):SS:=List.replicate own none++cap.map fun i=>match S[i]? with
 | some (some (.val d))=>some (.val d)
 | _=>none
def compGo (S:SS)(g:D→SS→R SS)(c:SS→R Bool)(e:SS→R D):List D→R (List D)
 | []=>.ok []
 | d::r=>(g d S).bind fun S1=>(c S1).bind fun t=>if t=true then (e S1).bind fun y=>(compGo S g c e r).bind fun ys=>.ok (y::ys) else compGo S g c e r
def eComp (own:Nat)(cap:List Nat)(it:SS→R (List D))(g:D→SS→R SS)(c:SS→R Bool)(e:SS→R D):SS→R D:=fun S=>(it S).bind fun ds=>(noErr (compGo (blkS own cap S) g c e ds)).bind fun ys=>.ok (.lst ys)
def tTrue:SS→R Bool:=fun _=>.ok true
abbrev noE (F:Fx):Fx:={ F with E:=fun _ _ _=>False }
def Own (own:Nat)(g:D→SS→R SS):Prop:=∀ d S S1,g d S=.ok S1→S1.length=S.length∧∀ i,own≤i→S1[i]?=S[i]?
theorem ap {X:Cx}{F:Fx}{k:Nat}(bx:BX X F k){scope:Scope}{cl:List (Str×Addr)}{C:Addr}{s:Shared}{H:Hp}{fp:List Addr}{N:List Str}:BX (blk X scope cl C s H fp N) (noE F) k :=
 ⟨bx.room,bx.K,rfl,fun pins σ H s e s' _ h=>by
  obtain⟨_,_,_,_,_,_,_,_,_,_,_,_,_,hE⟩:=h
  exact hE.elim⟩
theorem aI {own i:Nat}(h:i < own):Own own (gNm i):=fun d S S1 e=>by
 cases e
 exact⟨by simp,fun j hj=>List.getElem?_set_ne (by omega)⟩
theorem StOk.forget {F:Fx}{H Z:Hp}{S S0:SS}{σ:St}(h:StOk F H Z S σ)(hl:S0.length=S.length)(hs:∀ (i:Nat) (x:Sl),S0[i]?=some (some x)→S[i]?=some (some x)):StOk F H Z S0 σ :=
 ⟨h.ex,hl.trans h.len,fun i x e=>h.sl i x (hs i _ e),fun i j x y v w A B hij e1 e2=>h.dj i j x y v w A B hij (hs i _ e1) (hs j _ e2)⟩
theorem StOk.wish {F:Fx}{H Z:Hp}{S:SS}{σ:St}(h:StOk F H Z S σ)(E:XK):StOk { F with E:=E } H Z S σ :=
 ⟨h.ex,h.len,fun i x e=>by obtain⟨v,A,e1,o,p⟩:=h.sl i x e;exact⟨v,A,e1,ow_K o,p.nd,p.z,p.h0⟩,fun i j x y v w A B hij e1 e2 e3 e4 o1 o2=>h.dj i j x y v w A B hij e1 e2 e3 e4 (ow_K o1) (ow_K o2)⟩
theorem cz {own:Nat}{cap:List Nat}{S:SS}{i:Nat}{x:Sl}(e:(blkS own cap S)[i]?=some (some x)):own≤i∧∃ k d,cap[i - own]?=some k∧S[k]?=some (some (.val d))∧x=.val d:=by
 unfold blkS at e
 by_cases hi:i < own
 ·rw[List.getElem?_append_left (by simpa using hi),List.getElem?_replicate]at e
  split at e<;>cases e
 ·rw[List.getElem?_append_right (by simpa using hi),List.length_replicate,List.getElem?_map]at e
  cases q:cap[i - own]? with
  | none=>rw[q]at e;cases e
  | some k =>
   rw[q]at e
   simp only[Option.map_some,Option.some.injEq]at e
   split at e
   ·rename_i d q2
    cases e
    exact⟨by omega,k,d,rfl,q2,rfl⟩
   ·cases e
theorem j8 {F:Fx}{H Z:Hp}{S:SS}{σ:St}{own:Nat}{cap:List Nat}{D:Addr}(ok:StOk F H Z S σ)(hD:H D=none):StOk (noE F) (upd H D (.lst [])) Z (blkS own cap S) (startB own cap σ):=by
 refine⟨ok.ex.trans (Ex.hidden ok.sub hD),by simp[blkS,startB],fun i x e=>?_,fun i j x y v w A B _ e1 _ _ _ o1 _=>?_⟩
 ·obtain⟨hi,k,d',q1,q2,q3⟩:=cz e
  cases q3
  obtain⟨v,e1,r⟩:=ok.val k d' q2
  refine⟨v,[],?_,⟨rfl,r⟩,Priv.nil⟩
  unfold startB
  rw[List.getElem?_append_right (by simpa using hi),List.length_replicate,List.getElem?_map,q1]
  simp[e1]
 ·obtain⟨_,_,_,_,_,q⟩:=cz e1
  cases q
  rw[o1.1];exact fun a ha=>nomatch ha
section
variable {X:Cx}{F:Fx}{tg iter elt:Expr}{ifs:List Expr}{scope:Scope}{N:List Str}{own:Nat}{cap:List Nat}{pos:Pos}{git:SS→R (List D)}{g:D→SS→R SS}{gc:SS→R Bool}{ge:SS→R D}
theorem nJ {σ:St}{H Z:Hp}{S:SS}{ifs:List Expr}{P:D→Hp→Hp→Prop}{Q:Addr→Hp→Prop}(hgc:ifs=[]→gc=tTrue)(hgo:Own own g)(ok:StOk F H Z S σ)(w:WG F H Z (eComp own cap git g gc ge S) P)
  (hP:∀ D ys ds H1 Z1 H' Z',Ex H Z H1 Z1→H1 D=none→Ex H1 Z1 H' Z'→Z' D=none→(∀ H'' Z'',Ex H1 Z1 H'' Z''→P (.lst ds) H'' Z'')→H' D=some (.lst ys)→Reps F.K F.C Z' ds ys→Q D H') :
  tI F git σ H fun J H1=>∀ D,H1 D=none→∃ W,BlkW sizeLine J (tGd (noE F) g) (tTests ifs (tT (noE F) gc)) (tE (noE F) ge) D (fun H' _=>Q D H') W∧∃ m,W 0 m (startB own cap σ) (upd H1 D (.lst [])) []:=by
 refine⟨Z,S,ok,?_⟩
 unfold eComp at w
 cases e:git S with
 | err k=>rw[e]at w;exact w
 | stuck=>rw[e]at w;exact w
 | ok ds =>
  rw[e]at w
  intro H1 Z1 x1 J wk hlen D hD
  have w1:=WG.more w x1
  have ok1:=ok.more x1
  have hS:=sizeLine_eq
  refine⟨fun i m σ' H' ys=>m=ds.length - i∧i≤ds.length∧H' D=some (.lst ys)∧ys.length≤i∧∃ Z' acc,Ex H1 Z1 H' Z'∧Z' D=none∧Reps F.K F.C Z' acc ys∧StOk (noE F) H' Z' (blkS own cap S) σ' ∧
   WG F H1 Z1 ((noErr (compGo (blkS own cap S) g gc ge (ds.drop i))).bind fun zs=>R.ok (FF.D.lst (acc++zs))) P,?_,ds.length,rfl,Nat.zero_le _,aj,Nat.le_refl _,Z1,[],Ex.hidden ok1.sub hD,ok1.sub.free hD,Reps.nil,j8 ok1 hD,w1⟩
  rintro i m σ2 H2 ys ⟨rfl,hle,hDy,hyl,Z2,acc,x2,hZD,ra,ok2,w2⟩
  refine⟨hDy,?_⟩
  obtain⟨k1,k2⟩:=wk i H2 Z2 x2.z x2.sub
  by_cases hlt:i < ds.length
  ·obtain⟨go,y⟩:=k1 hlt
   refine .inr ⟨go,fun x H' hy=>?_⟩
   obtain⟨Z2',d,x',e3,rd⟩:=y x H' hy
   have ok2:=ok2.more x'
   have hZD:Z2' D=none:=by
    cases r:Z2' D with
    | none=>rfl
    | some o =>
     rcases x'.new D (by rw[r];simp) with z | z
     ·exact absurd hZD z
     ·rw[hDy]at z;cases z
   have hDy:=x'.same _ _ hDy
   have x2:=x2.trans x'
   have ra:=ra.mono x'.z
   have hd:ds.drop i=d::ds.drop (i+1):=by
    obtain⟨hi,e4⟩:=List.getElem?_eq_some_iff.mp e3
    rw[List.drop_eq_getElem_cons hi,e4]
   rw[hd]at w2
   unfold compGo at w2
   refine⟨Z2',blkS own cap S,d,ok2,rd,?_⟩
   cases qg:g d (blkS own cap S) with
   | err k=>rw[qg]at w2;exact w2.elim
   | stuck=>rw[qg]at w2;exact w2.elim
   | ok S1 =>
    rw[qg,R.bind_ok]at w2
    intro H3 Z3 x3 σ3 ok3
    obtain⟨gl,gk⟩:=hgo _ _ _ qg
    have back:∀ {H Z:Hp},StOk (noE F) H Z S1 σ3→StOk (noE F) H Z (blkS own cap S) σ3:=fun h=>h.forget gl.symm fun j z q=>by
     rw[gk j (cz q).1];exact q
    have hD3:=x3.same _ _ hDy
    have x13:=x2.trans x3
    have zD:∀ {H Z:Hp},Ex H1 Z1 H Z→Ex H' Z2' H Z→Z D=none:=fun {H Z} _ q=>by
     cases r:Z D with
     | none=>rfl
     | some o =>
      rcases q.new D (by rw[r];simp) with z | z
      ·exact absurd hZD z
      ·rw[hDy]at z;cases z
    have fin:∀ (t:Bool) (H4 Z4:Hp),Ex H' Z2' H4 Z4→StOk (noE F) H4 Z4 S1 σ3→gc S1=.ok t→if t=true then tE (noE F) ge σ3 H4 fun y H5=>H5 D=some (.lst ys)∧ys.length < sizeLine∧∃ m',m' < ds.length - i∧(m'=ds.length - (i+1)∧i+1≤ds.length∧(upd H5 D (.lst (ys++[y]))) D=some (.lst (ys++[y]))∧(ys++[y]).length≤i+1∧∃ Z' acc,Ex H1 Z1 (upd H5 D (.lst (ys++[y]))) Z'∧Z' D=none∧Reps F.K F.C Z' acc (ys++[y])∧StOk (noE F) (upd H5 D (.lst (ys++[y]))) Z' (blkS own cap S) σ3 ∧
      WG F H1 Z1 ((noErr (compGo (blkS own cap S) g gc ge (ds.drop (i+1)))).bind fun zs=>R.ok (FF.D.lst (acc++zs))) P)
      else ∃ m',m' < ds.length - i∧(m'=ds.length - (i+1)∧i+1≤ds.length∧H4 D=some (.lst ys)∧ys.length≤i+1∧∃ Z' acc,Ex H1 Z1 H4 Z'∧Z' D=none∧Reps F.K F.C Z' acc ys∧StOk (noE F) H4 Z' (blkS own cap S) σ3 ∧
      WG F H1 Z1 ((noErr (compGo (blkS own cap S) g gc ge (ds.drop (i+1)))).bind fun zs=>R.ok (FF.D.lst (acc++zs))) P):=by
     intro t H4 Z4 x4 ok4 qc
     rw[qc,R.bind_ok]at w2
     cases t with
     | false =>
      rw[if_neg Bool.false_ne_true]at w2 ⊢
      exact⟨ds.length - (i+1),by omega,rfl,hlt,x4.same _ _ hDy,by omega,Z4,acc,x2.trans x4,zD (x2.trans x4) x4,ra.mono x4.z,back ok4,w2⟩
     | true =>
      rw[if_pos rfl]at w2 ⊢
      refine⟨Z4,S1,ok4,?_⟩
      cases qe:ge S1 with
      | err k=>rw[qe]at w2;exact w2.elim
      | stuck=>rw[qe]at w2;exact w2.elim
      | ok yd =>
       rw[qe,R.bind_ok]at w2
       intro H5 Z5 x5 yv ry
       have hD5:=x5.same _ _ (x4.same _ _ hDy)
       have x25:=x4.trans x5
       have z5:=zD (x2.trans x25) x25
       have ok5:=ok4.more x5
       have n0:=ok1.ex.same.free hD
       have xu:Ex H1 Z1 (upd H5 D (.lst (ys++[yv]))) Z5:=by
        have q:=x2.trans x25
        refine⟨fun b o e=>?_,q.z,fun b o e=>?_,q.new⟩
        ·rw[ag (fun z=>by subst z;rw[hD]at e;cases e)];exact q.same b o e
        ·rw[ag (fun z=>by subst z;rw[z5]at e;cases e)];exact q.sub b o e
       refine⟨hD5,by omega,ds.length - (i+1),by omega,rfl,hlt,aj,by simp;omega,Z5,acc++[yd],xu,z5,(ra.mono x25.z).append (Reps.cons ry Reps.nil),?_,?_⟩
       ·have q:=back ok5
        refine⟨⟨fun b o e=>?_,q.ex.z,fun b o e=>?_,q.ex.new⟩,q.len,fun j x e=>?_,fun j k x y v w A B _ e1 _ _ _ o1 _=>?_⟩
        ·rw[ag (fun z=>by subst z;have e':=e;rw[n0]at e';cases e')];exact q.ex.same b o e
        ·rw[ag (fun z=>by subst z;rw[z5]at e;cases e)];exact q.ex.sub b o e
        ·obtain⟨_,_,_,_,_,z⟩:=cz e
         cases z
         obtain⟨v,e1,r⟩:=q.val j _ e
         exact⟨v,[],e1,⟨rfl,r⟩,Priv.nil⟩
        ·obtain⟨_,_,_,_,_,z⟩:=cz e1
         cases z
         rw[o1.1];exact fun a ha=>nomatch ha
       ·cases qr:compGo (blkS own cap S) g gc ge (ds.drop (i+1)) with
        | err k=>rw[qr]at w2;exact w2.elim
        | stuck=>rw[qr]at w2;exact w2.elim
        | ok zs=>rw[qr]at w2;simpa [noErr,List.append_assoc] using w2
    cases qc:gc S1 with
    | err k=>rw[qc]at w2;exact w2.elim
    | stuck=>rw[qc]at w2;exact w2.elim
    | ok t =>
     cases ifs with
     | nil =>
      have:=hgc rfl
      subst this
      cases qc
      exact fin true H3 Z3 x3 ok3 rfl
     | cons c r =>
      refine⟨Z3,S1,ok3,?_⟩
      rw[qc]
      intro H4 Z4 x4
      exact fin t H4 Z4 (x3.trans x4) (ok3.more x4) qc
  ·have ei:i=ds.length:=by omega
   refine .inl ⟨k2 (by omega),?_⟩
   rw[List.drop_eq_nil_of_le (by omega)]at w2
   have w3:WG F H1 Z1 (R.ok (FF.D.lst (acc++[]))) P:=w2
   rw[List.append_nil]at w3
   exact hP D ys acc H1 Z1 H2 Z2 x1 hD x2 hZD w3 hDy ra
theorem gz {σ:St}{H Z:Hp}{S:SS}{ifs:List Expr}{P:D→Hp→Hp→Prop}{Q:Addr→Hp→Prop}(hgc:ifs=[]→gc=tTrue)(hgo:Own own g)(ok:StOk F H Z S σ)(w:WG F H Z (eComp own cap git g gc ge S) P)(hP:∀ D ys ds H' Z',Ex H Z H' Z'→P (.lst ds) H' Z'→H' D=some (.lst ys)→Z' D=some (.lst ys)→Reps F.K F.C Z' ds ys→Q D H') :
  tI F git σ H fun J H1=>∀ D,H1 D=none→∃ W,BlkW sizeLine J (tGd (noE F) g) (tTests ifs (tT (noE F) gc)) (tE (noE F) ge) D (fun H' _=>Q D H') W∧∃ m,W 0 m (startB own cap σ) (upd H1 D (.lst [])) [] :=
 nJ hgc hgo ok w fun D ys ds H1 Z1 H2 Z2 x1 hD x2 hZD w3 hDy ra=>by
  have hz:Same Z2 (upd Z2 D (.lst ys)):=aC hZD
  have xf:Ex H1 Z1 H2 (upd Z2 D (.lst ys)):=by
   refine⟨x2.same,x2.z.trans hz,fun b o e=>?_,fun b hb=>?_⟩
   ·by_cases q:b=D
    ·subst q;rw[aj]at e;cases e;exact hDy
    ·rw[ag q]at e;exact x2.sub b o e
   ·by_cases q:b=D
    ·subst q;exact .inr hD
    ·rw[ag q]at hb;exact x2.new b hb
  exact hP D ys ds H2 _ (x1.trans xf) (w3 H2 _ xf) hDy aj (ra.mono hz)
theorem aE {k:Nat}(bx:BX X F k)(b:BlkOk X.N X.env.scope scope N own cap)(hi:FI X F tg iter git)(hgo:Own own g)
  (hg:∀ cl C s H fp,FG (blk X scope cl C s H fp N) (noE F) tg g) (he:∀ cl C s H fp,FE (blk X scope cl C s H fp N) (noE F) elt ge)
  (hs:∀ x,foldedSetIterable iter X.env x=pure x:=by intro _;rfl):FE X F (.ListComp elt [⟨tg,iter,[],0⟩] scope pos) (eComp own cap git g tTrue ge) :=
 (kO (ifs:=[]) b bx.calm (by simp) hi hg (fun c q=>nomatch q) he hs).weak fun σ H Q ⟨Z,S,ok,w⟩ =>
  gz (fun _=>rfl) hgo ok w fun D ys ds H' Z' _ p h1 h2 r=>p _ (by rw[Rep];exact⟨D,ys,rfl,SqL.of h2,r⟩)
theorem qL {k:Nat}{c:Expr}(bx:BX X F k)(b:BlkOk X.N X.env.scope scope N own cap)(hi:FI X F tg iter git)(hgo:Own own g)
  (hg:∀ cl C s H fp,FG (blk X scope cl C s H fp N) (noE F) tg g) (ht:∀ cl C s H fp,FT (blk X scope cl C s H fp N) (noE F) c gc) (he:∀ cl C s H fp,FE (blk X scope cl C s H fp N) (noE F) elt ge)
  (hs:∀ x,foldedSetIterable iter X.env x=pure x:=by intro _;rfl):FE X F (.ListComp elt [⟨tg,iter,[c],0⟩] scope pos) (eComp own cap git g gc ge) :=
 (kO b bx.calm (by simp) hi hg (fun c' q=>by cases q;exact ht) he hs).weak fun σ H Q ⟨Z,S,ok,w⟩ =>
  gz (fun q=>nomatch q) hgo ok w fun D ys ds H' Z' _ p h1 h2 r=>p _ (by rw[Rep];exact⟨D,ys,rfl,SqL.of h2,r⟩)
theorem WG.unbind {α β:Type}{F:Fx}{H Z:Hp}{r:R α}{f:α→β}{P:β→Hp→Hp→Prop}(w:WG F H Z (r.bind fun d=>.ok (f d)) P):WG F H Z r fun d H' Z'=>P (f d) H' Z':=by
 cases r with
 | ok d=>exact w
 | err k=>exact w
 | stuck=>exact w
theorem tJ {i:Nat}{D:Ends}{σ:St}{H Z:Hp}{S:SS}(hgc:ifs=[]→gc=tTrue)(hgo:Own own g)(ok:StOk F H Z S σ)(w:WO F Z (sSet i (eComp own cap git g gc ge) S) D) :
  tCompSet i own cap (tI F git) (tGd (noE F) g) (tTests ifs (tT (noE F) gc)) (tE (noE F) ge) D σ H :=
 gz (P:=fun d _ Z'=>WO F Z' (.nx (S.set i (some (.val d)))) D) (Q:=fun a H'=>D.nx (σ.set i (some (.ref a))) H') hgc hgo ok (WG.unbind (WO.wg ok w)) fun a ys ds H' Z' x p h1 h2 r =>
  p _ H' Z' (Same.refl _) ((ok.more x).setVal (by rw[Rep];exact⟨a,ys,rfl,SqL.of h2,r⟩))
theorem kQ {k:Nat}(i:Nat){y:Str}{py spos:Pos}{c:Expr}(bx:BX X F k)(b:BlkOk X.N X.env.scope scope N own cap)(hi:FI X F tg iter git)(hgo:Own own g)
  (hg:∀ cl C s H fp,FG (blk X scope cl C s H fp N) (noE F) tg g) (ht:∀ cl C s H fp,FT (blk X scope cl C s H fp N) (noE F) c gc) (he:∀ cl C s H fp,FE (blk X scope cl C s H fp N) (noE F) elt ge) (hN:X.N.Nodup)
  (hsw:swapsWith (.ListComp elt [⟨tg,iter,[c],0⟩] scope pos) (some (.Name y py)) spos.line X.env=pure true:=by rfl) (hiy:X.N[i]?=some y:=by rfl) (hy:Loc X.env.scope y:=by first | exact Or.inl rfl | exact Or.inr rfl)
  (hfn:X.fn y=true∨X.env.scope.names.lookup y=some .local:=by first | exact .inl rfl | exact .inr rfl) (hs:∀ x,foldedSetIterable iter X.env x=pure x:=by intro _;rfl) :
  FS X F (.Assign [.Name y py] (.ListComp elt [⟨tg,iter,[c],0⟩] scope pos) spos) (sSet i (eComp own cap git g gc ge)) :=
 (nG (ifs:=[c]) b bx.calm (by simp) hi hg (fun c' q=>by cases q;exact ht) he hN hiy hy hfn hsw hs).weak fun D σ H ⟨Z,S,ok,w⟩=>tJ (fun q=>nomatch q) hgo ok w
end
mutual
theorem fC:∀ (n:Nat) (d:D),good n d=true→eqD d d=true
 | n,.non,_=>by simp[eqD]
 | n,.bl b,_=>by simp[eqD]
 | n,.int i,_=>by simp[eqD]
 | n,.str x,_=>by simp[eqD]
 | 0,.tup xs,h=>by simp[good]at h
 | 0,.lst xs,h=>by simp[good]at h
 | n+1,.tup xs,h=>by rw[good]at h;rw[eqD];exact gA n xs h
 | n+1,.lst xs,h=>by rw[good]at h;rw[eqD];exact gA n xs h
 | n,.exc k,h=>by cases n<;>simp[good]at h
 | n,.fn k,h=>by cases n<;>simp[good]at h
 | n,.tab ks xs,h=>by cases n<;>simp[good]at h
 | n,.dic ks xs,h=>by cases n<;>simp[good]at h
 | n,.ptr a,h=>by cases n<;>simp[good]at h
theorem gA:∀ (n:Nat) (ds:List D),goods n ds=true→eqDs ds ds=true
 | n,[],_=>by simp[eqDs]
 | n,d::ds,h=>by
  rw[goods,Bool.and_eq_true]at h
  rw[eqDs,fC n d h.1,gA n ds h.2]
  rfl
end
theorem gC {n:Nat}:∀ {ds:List D} {i:Nat} {d:D},goods n ds=true→ds[i]?=some d→good n d=true
 | [],_,_,_,e=>by simp at e
 | x::xs,0,d,h,e=>by
  rw[goods,Bool.and_eq_true]at h
  simp at e;subst e;exact h.1
 | x::xs,i+1,d,h,e=>by
  rw[goods,Bool.and_eq_true]at h
  exact gC h.2 (by simpa using e)
theorem lV:∀ (ds es:List D),eqDs ds es=((List.range (min ds.length es.length)).all (fun j=>eqD (ds.getD j .non) (es.getD j .non))&&ds.length==es.length)
 | [],[]=>by simp[eqDs]
 | [],e::es=>by simp[eqDs]
 | d::ds,[]=>by simp[eqDs]
 | d::ds,e::es=>by
  rw[eqDs,lV ds es]
  have h1:min (d::ds).length (e::es).length=min ds.length es.length+1:=by simp only[List.length_cons];omega
  rw[h1,List.range_succ_eq_map,List.all_cons,List.all_map]
  have h2:((d::ds).length==(e::es).length)=(ds.length==es.length):=by simp
  rw[h2]
  simp only[List.getD_cons_zero,Bool.and_assoc]
  rfl
section
variable {X:Cx}{F:Fx}{pins:List (Addr×Obj)}{σ:St}{H Z:Hp}{s:Shared}
theorem j9 {a:Addr}{xs ys:List V}(I:Inv X pins σ H s)(h:SqL X.K H a xs)(h':SqT X.K H a ys):False:=by
 obtain⟨its,r,p,_⟩:=I.list h
 obtain⟨its',r',p',_⟩:=I.tuple h'
 exact SeqAt.ne_of_list_tuple p.isList (show s.heap.IsTuple a its'.toArray from p') rfl
mutual
theorem kR {K:PySem.W.Frag}{C:Nat→Addr}(hK:X.K=K)(I:Inv X pins σ H s)(z:Same Z H):∀ (n:Nat) (d e:D) (v:V),good n d=true→good n e=true→Rep K C Z d v→Rep K C Z e v→d=e
 | n,.non,e,v,g1,g2,h,h'=>by rw[Rep]at h;subst h;cases e<;>rw[Rep]at h'<;>first | rfl | (obtain⟨_,_,q,_⟩:=h';cases q;done) | (obtain⟨_,q,_⟩:=h';cases q;done) | (cases h';done)
 | n,.bl b,e,v,g1,g2,h,h'=>by rw[Rep]at h;subst h;cases e<;>rw[Rep]at h'<;>first | (cases h';rfl) | (obtain⟨_,_,q,_⟩:=h';cases q;done) | (obtain⟨_,q,_⟩:=h';cases q;done) | (cases h';done)
 | n,.int b,e,v,g1,g2,h,h'=>by rw[Rep]at h;subst h;cases e<;>rw[Rep]at h'<;>first | (cases h';rfl) | (obtain⟨_,_,q,_⟩:=h';cases q;done) | (obtain⟨_,q,_⟩:=h';cases q;done) | (cases h';done)
 | n,.str b,e,v,g1,g2,h,h'=>by rw[Rep]at h;subst h;cases e<;>rw[Rep]at h'<;>first | (cases h';rfl) | (obtain⟨_,_,q,_⟩:=h';cases q;done) | (obtain⟨_,q,_⟩:=h';cases q;done) | (cases h';done)
 | 0,.tup xs,e,v,g1,g2,h,h'=>by simp[good]at g1
 | 0,.lst xs,e,v,g1,g2,h,h'=>by simp[good]at g1
 | n,.exc k,e,v,g1,g2,h,h'=>by cases n<;>simp[good]at g1
 | n,.fn k,e,v,g1,g2,h,h'=>by cases n<;>simp[good]at g1
 | n,.tab ks xs,e,v,g1,g2,h,h'=>by cases n<;>simp[good]at g1
 | n,.dic ks xs,e,v,g1,g2,h,h'=>by cases n<;>simp[good]at g1
 | n,.ptr a,e,v,g1,g2,h,h'=>by cases n<;>simp[good]at g1
 | n+1,.tup ds,e,v,g1,g2,h,h'=>by
  rw[Rep]at h
  obtain⟨a,vs,rfl,h1,h2⟩:=h
  cases e with
  | tup es =>
   rw[Rep]at h'
   obtain⟨b,us,q,k1,k2⟩:=h'
   cases q
   have e1:vs=us:=I.tuple_inj (by rw[hK];exact h1.mono z) (by rw[hK];exact k1.mono z)
   subst e1
   rw[good]at g1 g2
   rw[iQ hK I z n ds es vs g1 g2 h2 k2]
  | lst es =>
   rw[Rep]at h'
   obtain⟨b,us,q,k1,k2⟩:=h'
   cases q
   exact(j9 I (by rw[hK];exact z.seq k1) (by rw[hK];exact h1.mono z)).elim
  | exc k=>simp[good]at g2
  | fn k=>simp[good]at g2
  | tab ks xs=>simp[good]at g2
  | dic ks xs=>simp[good]at g2
  | ptr a=>simp[good]at g2
  | _=>rw[Rep]at h';cases h'
 | n+1,.lst ds,e,v,g1,g2,h,h'=>by
  rw[Rep]at h
  obtain⟨a,vs,rfl,h1,h2⟩:=h
  cases e with
  | lst es =>
   rw[Rep]at h'
   obtain⟨b,us,q,k1,k2⟩:=h'
   cases q
   have e1:vs=us:=I.list_inj (by rw[hK];exact z.seq h1) (by rw[hK];exact z.seq k1)
   subst e1
   rw[good]at g1 g2
   rw[iQ hK I z n ds es vs g1 g2 h2 k2]
  | tup es =>
   rw[Rep]at h'
   obtain⟨b,us,q,k1,k2⟩:=h'
   cases q
   exact(j9 I (by rw[hK];exact z.seq h1) (by rw[hK];exact k1.mono z)).elim
  | exc k=>simp[good]at g2
  | fn k=>simp[good]at g2
  | tab ks xs=>simp[good]at g2
  | dic ks xs=>simp[good]at g2
  | ptr a=>simp[good]at g2
  | _=>rw[Rep]at h';cases h'
theorem iQ {K:PySem.W.Frag}{C:Nat→Addr}(hK:X.K=K)(I:Inv X pins σ H s)(z:Same Z H):∀ (n:Nat) (ds es:List D) (vs:List V),goods n ds=true→goods n es=true→Reps K C Z ds vs→Reps K C Z es vs→ds=es
 | n,[],es,vs,g1,g2,h,h'=>by
  rw[Reps]at h;subst h
  cases es with
  | nil=>rfl
  | cons e es=>rw[Reps]at h';obtain⟨_,_,q,_⟩:=h';cases q
 | n,d::ds,es,vs,g1,g2,h,h'=>by
  rw[Reps]at h
  obtain⟨v,r,rfl,h1,h2⟩:=h
  cases es with
  | nil=>rw[Reps]at h';cases h'
  | cons e es =>
   obtain⟨k1,k2⟩:=h'.uncons
   rw[goods,Bool.and_eq_true]at g1 g2
   rw[kR hK I z n d e v g1.1 g2.1 h1 k1,iQ hK I z n ds es r g1.2 g2.2 h2 k2]
end
def flatD:D→Bool
 | .non=>true
 | .bl _=>true
 | .int _=>true
 | .str _=>true
 | _=>false
theorem lW {K:PySem.W.Frag}{C:Nat→Addr}{d:D}{v:V}(f:flatD d=true)(h:Rep K C Z d v):flatV v=true:=by
 cases d<;>first | (rw[Rep]at h;subst h;rfl) | simp[flatD]at f
theorem tK {K:PySem.W.Frag}{C:Nat→Addr}{d e:D}{v u:V}(f1:flatD d=true)(f2:flatD e=true)(h:Rep K C Z d v)(h':Rep K C Z e u):eqV v u=eqD d e:=by
 cases d<;>first | (simp[flatD]at f1;done) | (cases e<;>first | (simp[flatD]at f2;done) | (rw[Rep]at h;rw[Rep]at h';subst h;subst h';simp[eqV,eqD]))
section
variable {X:Cx}{pins:List (Addr×Obj)}{σ:St}{H Z:Hp}{s:Shared}{K:PySem.W.Frag}{C:Nat→Addr}
theorem kd (hK:X.K=K)(I:Inv X pins σ H s)(z:Same Z H){n:Nat}{d:D}{v:V}{x:Value}(g:good n d=true)(h:Rep K C Z d v)(r:RelV v x) :
  (d=.non∧x=.none)∨(∃ b,d=.bl b∧x=.bool b)∨(∃ i t,d=.int i∧x=.int i t)∨(∃ a t,d=.str a∧x=.str a t) ∨
  ∃ m ds vs its a,n=m+1∧goods m ds=true∧Reps K C Z ds vs∧Vals vs its∧v=.ref a∧x=.ref a∧((d=.tup ds∧s.heap.IsTuple a its.toArray)∨(d=.lst ds∧s.heap.IsList a its.toArray)):=by
 subst hK
 cases d with
 | non=>rw[Rep]at h;subst h;cases r;exact .inl ⟨rfl,rfl⟩
 | bl b=>rw[Rep]at h;subst h;cases r;exact .inr (.inl ⟨_,rfl,rfl⟩)
 | int i=>rw[Rep]at h;subst h;obtain⟨t,rfl⟩:=r;exact .inr (.inr (.inl ⟨_,_,rfl,rfl⟩))
 | str a=>rw[Rep]at h;subst h;obtain⟨t,rfl⟩:=r;exact .inr (.inr (.inr (.inl ⟨_,_,rfl,rfl⟩)))
 | tup ds =>
  cases n with
  | zero=>simp[good]at g
  | succ m =>
   rw[Rep]at h
   obtain⟨a,vs,rfl,h1,h2⟩:=h
   cases r
   obtain⟨its,r,p,_⟩:=I.tuple (h1.mono z)
   exact .inr (.inr (.inr (.inr ⟨m,ds,vs,its,a,rfl,g,h2,r,rfl,rfl,.inl ⟨rfl,p⟩⟩)))
 | lst ds =>
  cases n with
  | zero=>simp[good]at g
  | succ m =>
   rw[Rep]at h
   obtain⟨a,vs,rfl,h1,h2⟩:=h
   cases r
   obtain⟨its,r,p,_⟩:=I.list (z.seq h1)
   exact .inr (.inr (.inr (.inr ⟨m,ds,vs,its,a,rfl,g,h2,r,rfl,rfl,.inr ⟨rfl,p.isList⟩⟩)))
 | _=>cases n<;>simp[good]at g
theorem els {n:Nat}{A:Around}(ih:∀ (d e:D) (v u:V) (x y:Value),good n d=true→good n e=true→Rep K C Z d v→Rep K C Z e u→RelV v x→RelV u y→SeqAt.EqAt A s x y (eqD d e)){ds es:List D}{vs us:List V}{its its2:List Value}(g1:goods n ds=true)(g2:goods n es=true)(h2:Reps K C Z ds vs)(k2:Reps K C Z es us)(r:Vals vs its)(r2:Vals us its2)
  (j:Nat) (j1:j < its.toArray.size) (j2:j < its2.toArray.size):SeqAt.EqAt A s its.toArray[j] its2.toArray[j] (eqD (ds.getD j .non) (es.getD j .non)):=by
 have l1:j < ds.length:=by rw[h2.length,r.length];simpa using j1
 have l2:j < es.length:=by rw[k2.length,r2.length];simpa using j2
 have e1:ds[j]?=some ds[j]:=by simp
 have e2:es[j]?=some es[j]:=by simp
 obtain⟨w1,f1,f2⟩:=h2.get e1
 obtain⟨w2,f3,f4⟩:=k2.get e2
 obtain⟨z1,m1,m2⟩:=r.get f1
 obtain⟨z2,m3,m4⟩:=r2.get f3
 have n1:its.toArray[j]=z1:=by simpa [show j < its.length by simpa using j1] using m1
 have n2:its2.toArray[j]=z2:=by simpa [show j < its2.length by simpa using j2] using m3
 rw[n1,n2,show ds.getD j .non=ds[j] by simp[l1],show es.getD j .non=es[j] by simp[l2]]
 exact ih _ _ w1 w2 z1 z2 (gC g1 e1) (gC g2 e2) f2 f4 m2 m4
set_option maxHeartbeats 4000000 in
theorem eqB (hK:X.K=K)(I:Inv X pins σ H s)(z:Same Z H):∀ (n:Nat) (A:Around) (d e:D) (v u:V) (x y:Value),good n d=true→good n e=true→Rep K C Z d v→Rep K C Z e u→RelV v x→RelV u y→A.units+n < cLine→SeqAt.EqAt A s x y (eqD d e)∧SeqAt.RcAt A s x y (eqD d e)∧SeqAt.RcNeAt A s x y (!eqD d e)
 | n,A,d,e,v,u,x,y,g1,g2,h,h',rx,ry,hu=>by
  have u0:A.units < cLine:=by omega
  have hh:=h
  have hh':=h'
  have fl:flatD d=true→flatD e=true→SeqAt.EqAt A s x y (eqD d e):=fun f1 f2=>by rw[← tK f1 f2 h h'];exact xP rx ry (lW f1 h) (lW f2 h')
  rcases kd hK I z g1 h rx with ⟨rfl,rfl⟩ | ⟨_,rfl,rfl⟩ | ⟨_,_,rfl,rfl⟩ | ⟨_,_,rfl,rfl⟩ | ⟨m,ds,vs,its,a,rfl,w1,h2,r,rfl,rfl,⟨rfl,p⟩ | ⟨rfl,p⟩⟩ <;>
  rcases kd hK I z g2 h' ry with ⟨rfl,rfl⟩ | ⟨_,rfl,rfl⟩ | ⟨_,_,rfl,rfl⟩ | ⟨_,_,rfl,rfl⟩ | ⟨m2,es,us,its2,b,e0,w2,k2,r2,rfl,rfl,⟨rfl,q⟩ | ⟨rfl,q⟩⟩ <;>
  simp only[eqD,Bool.not_false,Bool.not_true]at fl ⊢ <;>
  try (refine⟨?_,?_,?_⟩<;>with_reducible first
   | exact fl rfl rfl
   | exact .none_none | exact .none_bool _ | exact .none_int _ _ | exact .none_str _ _ | exact .none_tuple q u0 | exact .none_list q u0
   | exact .bool_none _ | exact .bool_bool _ _ | exact .bool_int _ _ _ | exact .bool_str _ _ _ | exact .bool_tuple _ q u0 | exact .bool_list _ q u0
   | exact .int_none _ _ | exact .int_bool _ _ _ | exact .int_int _ _ _ _ | exact .int_str _ _ _ _ | exact .int_tuple _ _ q u0 | exact .int_list _ _ q u0
   | exact .str_none _ _ | exact .str_bool _ _ _ | exact .str_int _ _ _ _ | exact .str_str _ _ _ _ | exact .str_tuple _ _ q u0 | exact .str_list _ _ q u0
   | exact .tuple_none p u0 | exact .tuple_bool _ p u0 | exact .tuple_int _ _ p u0 | exact .tuple_str _ _ p u0 | exact .tuple_list p q u0
   | exact .list_none p u0 | exact .list_bool _ p u0 | exact .list_int _ _ p u0 | exact .list_str _ _ p u0 | exact .list_tuple p q u0)
  all_goals
   cases e0
   have el:=els (A:=A.in1) (fun d e v u x y g1 g2 h h' rx ry=>(eqB hK I z m A.in1 d e v u x y g1 g2 h h' rx ry (by show A.units+1+m < cLine;omega)).1) w1 w2 h2 k2 r r2
   have s1:its.toArray.size=ds.length:=by rw[List.size_toArray,h2.length,r.length]
   have s2:its2.toArray.size=es.length:=by rw[List.size_toArray,k2.length,r2.length]
   have both:∀ {c:Bool},(a=b→c=true)→SeqAt.RcAt A s (.ref a) (.ref b) c→SeqAt.EqAt A s (.ref a) (.ref b) c:=fun {c} hc w=>by
    by_cases hab:a=b
    ·subst hab;rw[hc rfl];exact .same _
    ·exact .of_refs hab w
   have rf:a=b→eqDs ds es=true:=fun hab=>by
    subst hab
    have t:=kR hK I z (m+1) _ _ _ g1 g2 hh hh'
    have w:=fC (m+1) _ g1
    cases t
    simpa only[eqD] using w
   rw[lV]at rf ⊢
  ·have q1:=SeqAt.RcAt.tuples (A:=A) (e:=fun j=>eqD (ds.getD j .non) (es.getD j .non)) p q u0 el
   have q2:=SeqAt.RcNeAt.tuples (A:=A) (e:=fun j=>eqD (ds.getD j .non) (es.getD j .non)) p q u0 el
   rw[s1,s2]at q1 q2
   exact⟨both rf q1,q1,q2⟩
  ·by_cases hs:ds.length=es.length
   ·have q1:=SeqAt.RcAt.lists (A:=A) (e:=fun j=>eqD (ds.getD j .non) (es.getD j .non)) p q (by rw[s1,s2];exact hs) u0 el
    have q2:=SeqAt.RcNeAt.lists (A:=A) (e:=fun j=>eqD (ds.getD j .non) (es.getD j .non)) p q (by rw[s1,s2];exact hs) u0 el
    rw[s1]at q1 q2
    rw[hs,Nat.min_self,beq_self_eq_true,Bool.and_true,← hs]at rf ⊢
    exact⟨both rf q1,q1,q2⟩
   ·rw[show (ds.length==es.length)=false by simpa using hs,Bool.and_false]at rf ⊢
    have q1:=SeqAt.RcAt.lists_lengths (A:=A) p q (by rw[s1,s2];simpa using hs) u0
    exact⟨both rf q1,q1,SeqAt.RcNeAt.lists_lengths p q (by rw[s1,s2];simpa using hs) u0⟩
end
theorem tM {K:PySem.W.Frag}{C:Nat→Addr}(hK:X.K=K)(I:Inv X pins σ H s)(z:Same Z H)(n:Nat)(A:Around)(d e:D)(v u:V)(x y:Value)(g1:good n d=true)(g2:good n e=true)(h:Rep K C Z d v)(h':Rep K C Z e u)(rx:RelV v x)(ry:RelV u y)(hu:A.units+n < cLine):SeqAt.EqAt A s x y (eqD d e):=(eqB hK I z n A d e v u x y g1 g2 h h' rx ry hu).1
end
def dAdd (x y:D):R D:=if isInt x=true then dI0 (fun i j=>.int (i+j)) x y else if isTup x=true then dCatT x y else dCatL x y
def dSub:D→D→R D:=dI0 fun i j=>.int (i - j)
def dMul (x y:D):R D:=if isInt x=true then dI cMul (fun i j=>.int (i*j)) x y else if isTup x=true then dRepT x y else dRepL x y
def dDiv:D→D→R D:=dI cDiv fun i j=>.int (i/j)
def dMod:D→D→R D:=dI (fun _ j=>decide (0 < j)) fun i j=>.int (i%j)
def dLt:D→D→R D:=dI0 fun i j=>.bl (decide (i < j))
def dLe:D→D→R D:=dI0 fun i j=>.bl (decide (i≤j))
def dGt:D→D→R D:=dI0 fun i j=>.bl (decide (j < i))
def dGe:D→D→R D:=dI0 fun i j=>.bl (decide (j≤i))
theorem aF {K:PySem.W.Frag}{C:Nat→Addr}{Z:Hp}{i:Int}:Rep K C Z (.int i) (.int i):=by rw[Rep]
theorem a7 {K:PySem.W.Frag}{C:Nat→Addr}{Z:Hp}{i:Bool}:Rep K C Z (.bl i) (.bl i):=by rw[Rep]
section
variable {X:Cx}{F:Fx}{a b c:Expr}{ga gb gc:SS→R D}{pos:Pos}
theorem cF (ha:FE X F a ga)(hb:FE X F b gb):FE X F (.BinOp a .Sub b pos) (eOp dSub ga gb):=lP xG (c5 fun _ _ _=>aF) ha hb
theorem dH (ha:FE X F a ga)(hb:FE X F b gb):FE X F (.BinOp a .FloorDiv b pos) (eOp dDiv ga gb):=lP vp (tj vH fun _ _ _=>aF) ha hb
theorem cG (ha:FE X F a ga)(hb:FE X F b gb):FE X F (.BinOp a .Mod b pos) (eOp dMod ga gb):=lP xI (tj (fun i j h=>of_decide_eq_true h) fun _ _ _=>aF) ha hb
theorem yQ (ha:FE X F a ga)(hb:FE X F b gb):FE X F (.Compare a [.Gt] [b] pos) (eOp dGt ga gb):=kM yL (c5 fun _ _ _=>a7) ha hb
theorem xh (ha:FE X F a ga)(hb:FE X F b gb):FT X F (.Compare a [.Lt] [b] pos) (gB (eOp dLt ga gb)):=eY xc (c5 fun _ _ _=>a7) ha hb
theorem tN (ha:FE X F a ga)(hb:FE X F b gb):FT X F (.Compare a [.GtE] [b] pos) (gB (eOp dGe ga gb)):=eY yM (c5 fun _ _ _=>a7) ha hb
theorem ao (hK:X.K=F.K)(ha:FE X F a ga)(hb:FE X F b gb)(hs:PlainIx b:=by intro _ _;rfl):FE X F (.Subscript a b pos) (eOp dIx ga gb):=yO xO (by rw[hK];exact xV) ha hb hs
theorem vO:OpR X (binaryOp .Add) (fun x y H Q=>rI0 (fun i j=>.int (i+j)) x y H Q∨(rCat2 X.K x y H Q∨∃ a b xs ys,x=.ref a∧y=.ref b∧SqL X.K H a xs∧SqL X.K H b ys∧xs.length+ys.length≤sizeLine∧∀ p,H p=none→Q (.ref p) (upd H p (.lst (xs++ys))))) :=
 xF.or (vI.or tw)
theorem aJ (hK:X.K=F.K)(ha:FE X F a ga)(hb:FE X F b gb):FE X F (.BinOp a .Add b pos) (eOp dAdd ga gb) :=
 lP vO (by rw[hK];exact OpD.or (fun x _=>isInt x) (c5 fun _ _ _=>aF) (OpD.or (fun x _=>isTup x) tm tu)) ha hb
theorem aU (hK:X.K=F.K)(ha:FE X F a ga)(hb:FE X F b gb):FE X F (.BinOp a .Mult b pos) (eOp dMul ga gb) :=
 lP (xH.or (vJ.or vK)) (by rw[hK];exact OpD.or (fun x _=>isInt x) (tj vG fun _ _ _=>aF) (OpD.or (fun x _=>isTup x) tq tz)) ha hb
end
def dEq (x y:D):R D:=if good 60 x=true∧good 60 y=true then .ok (.bl (eqD x y)) else .stuck
def rEqD (K:PySem.W.Frag)(C:Nat→Addr):R2:=fun x y H Q=>∃ Z d e,Same Z H∧Rep K C Z d x∧Rep K C Z e y∧good 60 d=true∧good 60 e=true∧Q (.bl (eqD d e)) H
section
variable {X:Cx}{F:Fx}{a b c:Expr}{ga gb gc:SS→R D}{pos:Pos}{k:Nat}
theorem tO (hK:X.K=F.K)(hr:Room k X.A):OpR X (compareOp .Eq) (rEqD F.K F.C):=by
 intro pins s σ H x y v u Q I rx ry h
 obtain⟨Z,d,e,z,h1,h2,g1,g2,q⟩:=h
 have hu:X.A.units+60 < cLine:=by have:=hr.un;omega
 exact(eqB hK I z 60 X.A d e x y v u g1 g2 h1 h2 rx ry hu).2.1 X.prog X.w X.xe _ ⟨.bl (eqD d e),H,I,rfl,q⟩
theorem tQ:OpD F (rEqD F.K F.C) dEq:=by
 intro H Z x y dx dy Q s rx ry w
 unfold dEq at w
 split at w
 ·rename_i g
  exact⟨Z,dx,dy,s,rx,ry,g.1,g.2,WG.now w s _ a7⟩
 ·exact w.elim
theorem tR (bx:BX X F k)(ha:FE X F a ga)(hb:FE X F b gb):FE X F (.Compare a [.Eq] [b] pos) (eOp dEq ga gb):=kM (tO bx.K bx.room) tQ ha hb
theorem dB (bx:BX X F k)(ha:FE X F a ga)(hb:FE X F b gb):FT X F (.Compare a [.Eq] [b] pos) (gB (eOp dEq ga gb)):=eY (tO bx.K bx.room) tQ ha hb
end
def eChain (f f':D→D→R D)(ga gb gc:SS→R D):SS→R D:=fun S=>(ga S).bind fun x=>(gb S).bind fun y=>(asB (f x y)).bind fun k=>if k=true then (gc S).bind fun w=>f' y w else .ok (.bl false)
section
variable {X:Cx}{F:Fx}{a b c:Expr}{ga gb gc:SS→R D}{pos:Pos}{r r':R2}{f f':D→D→R D}{op op':CmpOp}
theorem ke (hd:OpD F r f)(hd':OpD F r' f'):∀ σ H Q,tE F (eChain f f' ga gb gc) σ H Q→tChain r r' (tE F ga) (tE F gb) (tE F gc) σ H Q:=fun σ H Q ⟨Z,S,ok,w⟩ =>
 aA ok w fun dx x H1 Z1 ok1 x1 rx w1=>aA ok1 w1 fun dy y H2 Z2 ok2 x2 ry w2=>hd H2 Z2 x y dx dy _ ok2.sub (rx.mono x2.z) ry (by
  cases e:f dx dy with
  | err k=>rw[e]at w2;exact w2
  | stuck=>rw[e]at w2;exact w2
  | ok d =>
   rw[e]at w2
   intro H3 Z3 x3 v rv
   cases d with
   | bl k =>
    rw[Rep]at rv
    subst rv
    have w3:=WG.more w2 x3
    refine⟨k,rfl,?_⟩
    have ok3:=ok2.more x3
    cases k with
    | false=>exact WG.now w3 ok3.sub _ a7
    | true=>exact aA ok3 w3 fun dw wv H4 Z4 ok4 x4 rw' w4=>hd' H4 Z4 y wv dy dw Q ok4.sub (ry.mono (x3.z.trans x4.z)) rw' w4
   | _=>exact w2.elim)
theorem tU (ho:OpR X (compareOp op) r)(ho':OpR X (compareOp op') r')(hd:OpD F r f)(hd':OpD F r' f')(ha:FE X F a ga)(hb:FE X F b gb)(hc:FE X F c gc)(hm:lastMarks [op,op'] [b,c]=false:=by with_unfolding_all rfl) :
  FE X F (.Compare a [op,op'] [b,c] pos) (eChain f f' ga gb gc):=(sL ho ho' ha hb hc hm).weak (ke hd hd')
theorem tV (ho:OpR X (compareOp op) r)(ho':OpR X (compareOp op') r')(hd:OpD F r f)(hd':OpD F r' f')(ha:FE X F a ga)(hb:FE X F b gb)(hc:FE X F c gc)(hm:lastMarks [op,op'] [b,c]=false:=by with_unfolding_all rfl) :
  FT X F (.Compare a [op,op'] [b,c] pos) (gB (eChain f f' ga gb gc)):=(sM ho ho' ha hb hc hm).weak (sX (ke hd hd'))
theorem pd (ha:FE X F a ga)(hb:FE X F b gb)(hc:FE X F c gc)(hm:lastMarks [.LtE,.LtE] [b,c]=false:=by with_unfolding_all rfl):FE X F (.Compare a [.LtE,.LtE] [b,c] pos) (eChain dLe dLe ga gb gc):=tU sK sK (c5 fun _ _ _=>a7) (c5 fun _ _ _=>a7) ha hb hc hm
theorem vP (ha:FE X F a ga)(hb:FE X F b gb)(hc:FE X F c gc)(hm:lastMarks [.LtE,.Lt] [b,c]=false:=by with_unfolding_all rfl):FT X F (.Compare a [.LtE,.Lt] [b,c] pos) (gB (eChain dLe dLt ga gb gc)):=tV sK xc (c5 fun _ _ _=>a7) (c5 fun _ _ _=>a7) ha hb hc hm
end
def dIs:D→D→R D
 | x,.non=>.ok (.bl (match x with | .non=>true | _=>false))
 | x,.bl b=>.ok (.bl (match x with | .bl a=>a==b | _=>false))
 | _,_=>.stuck
def isV:V→V→Bool
 | .non,.non=>true
 | .bl a,.bl b=>a==b
 | _,_=>false
section
variable {X:Cx}{F:Fx}{a b:Expr}{ga gb:SS→R D}{pos:Pos}
theorem xX:OpR X (compareOp .Is) (fun x y H Q=>(y=.non∨∃ b,y=.bl b)∧Q (.bl (isV x y)) H):=by
 intro pins s σ H x y v u Q I rx ry h
 obtain⟨hy,q⟩:=h
 rcases hy with rfl | ⟨b,rfl⟩
 ·cases ry
  refine is_none_gen (kD I q ?_)
  cases x<;>first
   | (cases rx;rfl)
   | (obtain⟨t,rfl⟩:=rx;rfl)
 ·cases ry
  cases x<;>first
   | (obtain⟨t,rfl⟩:=rx;exact wpAny_pure (kD I q rfl))
   | (cases rx;exact wpAny_pure (kD I q rfl))
   | (cases rx;rename_i a;exact wpAny_pure (kD I q (by cases a<;>cases b<;>rfl)))
theorem vQ {K:PySem.W.Frag}{C:Nat→Addr}{Z:Hp}{d e:D}{x y:V}{r:D}(h:Rep K C Z d x)(h':Rep K C Z e y)(q:dIs d e=.ok r):(y=.non∨∃ b,y=.bl b)∧r=.bl (isV x y):=by
 cases e with
 | non =>
  rw[Rep]at h';subst h'
  cases q
  refine⟨.inl rfl,?_⟩
  cases d<;>rw[Rep]at h<;>first | (subst h;rfl) | (obtain⟨_,_,rfl,_⟩:=h;rfl) | (obtain⟨_,rfl,_⟩:=h;rfl)
 | bl b =>
  rw[Rep]at h';subst h'
  cases q
  refine⟨.inr ⟨b,rfl⟩,?_⟩
  cases d<;>rw[Rep]at h<;>first | (subst h;rfl) | (obtain⟨_,_,rfl,_⟩:=h;rfl) | (obtain⟨_,rfl,_⟩:=h;rfl)
 | _=>simp[dIs]at q
theorem xY {d e:D}{k:Nat}(q:dIs d e=.err k):False:=by cases e<;>simp[dIs]at q
theorem xZ:OpD F (fun x y H Q=>(y=.non∨∃ b,y=.bl b)∧Q (.bl (isV x y)) H) dIs:=by
 intro H Z x y dx dy Q s rx ry w
 cases e:dIs dx dy with
 | err k=>exact(xY e).elim
 | stuck=>rw[e]at w;exact w.elim
 | ok r =>
  rw[e]at w
  obtain⟨h1,rfl⟩:=vQ rx ry e
  exact⟨h1,WG.now w s _ a7⟩
theorem yR (ha:FE X F a ga)(hb:FE X F b gb):FE X F (.Compare a [.Is] [b] pos) (eOp dIs ga gb):=kM xX xZ ha hb
end
def cutD (xs:List D)(lo hi:Option Int):List D:=(xs.drop (HT.sIx xs.length 0 lo)).take (HT.sIx xs.length xs.length hi - HT.sIx xs.length 0 lo)
theorem Reps.cut {K:PySem.W.Frag}{C:Nat→Addr}{Z:Hp}{ds:List D}{vs:List V}(r:Reps K C Z ds vs)(lo hi:Option Int):Reps K C Z (cutD ds lo hi) (cutV vs lo hi):=by
 unfold cutD cutV
 rw[r.length]
 exact(r.drop _).take _
def dSl (d:D)(lo hi:Option Int):R D:=match d with
 | .lst xs=>.ok (.lst (cutD xs lo hi))
 | .tup xs=>if HT.sIx xs.length 0 lo=0∧HT.sIx xs.length xs.length hi=xs.length then .stuck else .ok (.tup (cutD xs lo hi))
 | _=>.stuck
def asI (d:D):R (Option Int):=match d with
 | .int i=>.ok (some i)
 | _=>.stuck
def pNo:SS→R (Option Int):=fun _=>.ok none
def pSo (g:SS→R D):SS→R (Option Int):=fun S=>(g S).bind asI
def tP (F:Fx)(g:SS→R (Option Int)):TO:=fun σ H Q=>∃ Z S,StOk F H Z S σ∧WG F H Z (g S) fun o H' _=>Q o H'
section
variable {X:Cx}{F:Fx}{e:Expr}{lo hi:Option Expr}{g:SS→R D}{l h:SS→R (Option Int)}{pos p2:Pos}
theorem xi:PO X none (tP F pNo):=fun pins s σ H Q I ⟨Z,S,ok,w⟩=>vA pins s σ H Q I (WG.now w ok.sub)
theorem kg (he:FE X F e g):PO X (some e) (tP F (pSo g)):=fun pins s σ H Q I ⟨Z,S,ok,w⟩=>vB he pins s σ H Q I (aA ok w fun d v H1 Z1 ok1 x1 rv w1=>by
 cases d with
 | int i=>rw[Rep]at rv;exact⟨i,rv,WG.now w1 ok1.sub⟩
 | _=>exact w1.elim)
theorem ph {α:Type}{σ:St}{H Z:Hp}{S:SS}{k:Option Int→R α}{P:α→Hp→Hp→Prop}{Q:Option Int→Hp→Prop}(ok:StOk F H Z S σ)(w:WG F H Z ((l S).bind k) P)
  (h:∀ o H1 Z1,StOk F H1 Z1 S σ→Ex H Z H1 Z1→WG F H1 Z1 (k o) P→Q o H1):tP F l σ H Q:=by
 refine⟨Z,S,ok,?_⟩
 cases e:l S with
 | ok d =>
  rw[e]at w
  intro H1 Z1 x
  exact h d H1 Z1 (ok.more x) x (WG.more w x)
 | err k=>rw[e]at w;exact w
 | stuck=>rw[e]at w;exact w
end
def CallD (F:Fx)(r:List V→Hp→VK→Prop)(f:List D→R D):Prop:=∀ (H Z:Hp) (xs:List V) (ds:List D) (Q:VK),Same Z H→Reps F.K F.C Z ds xs→WG F H Z (f ds) (fun d H' Z'=>∀ v,Rep F.K F.C Z' d v→Q v H')→r xs H Q
section
variable {X:Cx}{F:Fx}{x:Str}{p pos:Pos}{e:Expr}{es:List Expr}{gs:SS→R (List D)}{id T:String}{r:List V→Hp→VK→Prop}{f:List D→R D}
theorem tW (hd:CallD F r f):∀ σ H Q,tE F (eCall f gs) σ H Q→tCB r (tAl F gs) σ H Q:=fun σ H Q ⟨Z,S,ok,w⟩=>aO ok w fun ds vs H1 Z1 ok1 x1 rs w1=>hd H1 Z1 vs ds Q ok1.sub rs w1
theorem fD (hc:CallR X (.builtin id) r)(hd:CallD F r f)(hg:Gl X x)(hm:X.mg x=none)(hv:bootBuiltins x=some (.builtin id))(ha:FA X F (e::es) gs)(hn:x ≠ "__name__" := by decide)(hdb:(x==("__debug__":Str))=false:=by decide)
  (he:starEach (e::es) X.env=(false,eval e X.env)::starEach es X.env:=by rfl) (hpl:(backTo pos (starEach es X.env)).any (·.1)=false:=by rfl):FE X F (.Call (.Name x p) (e::es) [] pos) (eCall f gs):=(cI hc hg hm hv ha hn hdb he hpl).weak (tW hd)
theorem kh (hc:CallR X (.type T) r)(hd:CallD F r f)(hg:Gl X x)(hm:X.mg x=none)(hv:bootBuiltins x=some (.type T))(ha:FA X F (e::es) gs)(hn:x ≠ "__name__" := by decide)(hdb:(x==("__debug__":Str))=false:=by decide)
  (he:starEach (e::es) X.env=(false,eval e X.env)::starEach es X.env:=by rfl) (hpl:(backTo pos (starEach es X.env)).any (·.1)=false:=by rfl):FE X F (.Call (.Name x p) (e::es) [] pos) (eCall f gs):=(d6 hc hg hm hv ha hn hdb he hpl).weak (tW hd)
end
theorem aP {K:PySem.W.Frag}{C:Nat→Addr}{Z:Hp}{d:D}{vs:List V}(r:Reps K C Z [d] vs):∃ v,vs=[v]∧Rep K C Z d v:=by
 rw[Reps]at r
 obtain⟨v,r',rfl,h1,h2⟩:=r
 rw[Reps]at h2
 grind
def dLen:List D→R D
 | [.lst xs]=>.ok (.int xs.length)
 | [.tup xs]=>.ok (.int xs.length)
 | _=>.stuck
theorem qM {F:Fx}:CallD F (fun xs H Q=>∃ p ys,xs=[.ref p]∧(SqL F.K H p ys∨SqT F.K H p ys)∧Q (.int ys.length) H) dLen:=by
 intro H Z xs ds Q s rs w
 unfold dLen at w
 split at w
 ·obtain⟨v,rfl,h⟩:=aP rs
  rw[Rep]at h
  obtain⟨a,vs,rfl,h1,h2⟩:=h
  exact⟨a,vs,rfl,.inl (s.seq h1),by rw[← h2.length];exact WG.now w s _ aF⟩
 ·obtain⟨v,rfl,h⟩:=aP rs
  rw[Rep]at h
  obtain⟨a,vs,rfl,h1,h2⟩:=h
  exact⟨a,vs,rfl,.inr (h1.mono s),by rw[← h2.length];exact WG.now w s _ aF⟩
 ·exact w.elim
def dMax2:List D→R D
 | [.int i,.int j]=>.ok (.int (if j > i then j else i))
 | _=>.stuck
theorem nK {F:Fx}:CallD F (fun xs H Q=>∃ i j,xs=[.int i,.int j]∧Q (.int (if j > i then j else i)) H) dMax2:=by
 intro H Z xs ds Q s rs w
 unfold dMax2 at w
 split at w
 ·exact⟨_,_,tG rs,WG.now w s _ aF⟩
 ·exact w.elim
def dTuple:List D→R D
 | [.lst xs]=>.ok (.tup xs)
 | [.tup xs]=>.ok (.tup xs)
 | _=>.stuck
theorem lX {F:Fx}:CallD F (fun xs H Q=>∃ p ys,xs=[.ref p]∧((SqL F.K H p ys∧∀ l,H l=none→Q (.ref l) (upd H l (.tup ys)))∨(SqT F.K H p ys∧Q (.ref p) H))) dTuple:=by
 intro H Z xs ds Q s rs w
 unfold dTuple at w
 split at w
 ·obtain⟨v,rfl,h⟩:=aP rs
  rw[Rep]at h
  obtain⟨a,vs,rfl,h1,h2⟩:=h
  refine⟨a,vs,rfl,.inl ⟨s.seq h1,fun p hp=>?_⟩⟩
  have z:Same Z (upd Z p (.tup vs)):=aC (s.free hp)
  exact w _ _ (Ex.alloc s hp) _ (by rw[Rep];exact⟨p,_,rfl,SqT.of aj,h2.mono z⟩)
 ·obtain⟨v,rfl,h⟩:=aP rs
  have hh:=h
  rw[Rep]at h
  obtain⟨a,vs,rfl,h1,h2⟩:=h
  exact⟨a,vs,rfl,.inr ⟨h1.mono s,WG.now w s _ hh⟩⟩
 ·exact w.elim
def boolsD:List D→Option (List Bool)
 | []=>some []
 | .bl b::r=>(boolsD r).map (b::·)
 | _::_=>none
theorem iR {K:PySem.W.Frag}{C:Nat→Addr}{Z:Hp}:∀ {ds:List D} {vs:List V} {bs:List Bool},Reps K C Z ds vs→boolsD ds=some bs→vs=bs.map V.bl
 | [],vs,bs,r,e=>by rw[Reps]at r;cases e;exact r
 | d::ds,vs,bs,r,e=>by
  rw[Reps]at r
  obtain⟨v,r',rfl,h1,h2⟩:=r
  cases d with
  | bl b =>
   rw[boolsD]at e
   cases q:boolsD ds with
   | none=>rw[q]at e;cases e
   | some bs' =>
    rw[q]at e
    cases e
    rw[Rep]at h1
    rw[h1,iR h2 q]
    rfl
  | _=>simp[boolsD]at e
def dAll:List D→R D
 | [.lst xs]=>match boolsD xs with
  | some bs=>.ok (.bl (bs.all id))
  | none=>.stuck
 | _=>.stuck
theorem iS:∀ {bs:List Bool} {us:List Value},Vals (bs.map V.bl) us→us=bs.map Value.bool
 | [],us,h=>by rw[List.map_nil]at h;cases h;rfl
 | b::bs,us,h=>by
  rw[List.map_cons]at h
  cases h with
  | cons r t =>
   have r':=r
   rw[r',iS t]
   rfl
theorem iT {X:Cx}(hc:X.calm=true):CallR X (.builtin "all") (fun xs H Q=>∃ (p:Addr) (bs:List Bool),xs=[.ref p]∧SqL X.K H p (bs.map V.bl)∧Q (.bl (bs.all id)) H):=by
 intro pins s σ H xs us Q I r h
 obtain⟨p,bs,rfl,hq,q⟩:=h
 obtain⟨u,rfl,ru⟩:=vals1 r
 cases ru
 obtain⟨its,rv,pl,hz⟩:=I.list hq
 have e:=iS rv
 subst e
 have hlt:p < s.heap.objs.size:=by obtain⟨o,_,ho,_⟩:=pl;exact Heap.lt_size ho
 refine call_all_walk (wpAny_pyIter_list pl.isList ⟨s.heap.objs.size,_,_,_,_,_,fun i=>bs.getD i false,rfl,Walks.list (show X.A.in1.handled=none from I.ok.hd hc) s.heap.objs.size p (Nat.ne_of_lt hlt) (bs.map Value.bool).toArray,⟨⟨_,Heap.get?_push_size _ rfl,rfl,rfl⟩,?_⟩,?_,fun h' tk hk=>?_⟩)
 ·obtain⟨o,ho,h2,n,h3⟩:=pl.isList
  exact⟨o,Heap.get?_push_of_some _ ho,h2,n,h3⟩
 ·intro i v s' Q' E' hp hq'
  have hp':bs[i]?.map Value.bool=some v:=by simpa using hp
  cases e:bs[i]? with
  | none=>rw[e]at hp';cases hp'
  | some b =>
   rw[e]at hp'
   cases hp'
   refine wpAny_truthy_bool ?_
   have:bs.getD i false=b:=by simp[List.getD,e]
   have hq2:Q' (bs.getD i false) s':=hq'
   rw[this]at hq2
   exact hq2
 ·have hall:(List.range (bs.map Value.bool).toArray.size).all (fun i=>bs.getD i false)=bs.all id:=by
   rw[List.size_toArray,List.length_map]
   rw[Bool.eq_iff_iff,List.all_eq_true,List.all_eq_true]
   constructor
   ·intro h b hb
    obtain⟨i,hi,rfl⟩:=List.mem_iff_getElem.mp hb
    have:=h i (List.mem_range.mpr hi)
    simpa [List.getD,hi] using this
   ·intro h i hi
    have hi':=List.mem_range.mp hi
    have:=h bs[i] (List.getElem_mem hi')
    simpa [List.getD,hi'] using this
  rw[hall]
  exact⟨.bl (bs.all id),H,I.kept fun b o e=>hk b o (by simp;exact Nat.ne_of_lt (Heap.lt_size e)) (Heap.get?_push_of_some _ e),rfl,q⟩
theorem qN {F:Fx}:CallD F (fun xs H Q=>∃ (p:Addr) (bs:List Bool),xs=[.ref p]∧SqL F.K H p (bs.map V.bl)∧Q (.bl (bs.all id)) H) dAll:=by
 intro H Z xs ds Q s rs w
 unfold dAll at w
 split at w
 ·split at w
  ·rename_i bs e
   obtain⟨v,rfl,h⟩:=aP rs
   rw[Rep]at h
   obtain⟨a,vs,rfl,h1,h2⟩:=h
   have e2:=iR h2 e
   subst e2
   exact⟨a,bs,rfl,s.seq h1,WG.now w s _ a7⟩
  ·exact w.elim
 ·exact w.elim
section
variable {X:Cx}{F:Fx}{p pos:Pos}{e:Expr}{es:List Expr}{gs:SS→R (List D)}{k:Nat}
theorem bF (bx:BX X F k)(hg:Gl X "len")(hm:X.mg "len"=none)(ha:FA X F [e] gs)(he:starEach [e] X.env=(false,eval e X.env)::starEach [] X.env:=by rfl)(hpl:(backTo pos (starEach [] X.env)).any (·.1)=false:=by rfl):FE X F (.Call (.Name "len" p) [e] [] pos) (eCall dLen gs) :=
 fD (by have:=kI (X:=X);rw[bx.K]at this;exact this) qM hg hm PySem.boot_len ha (he:=he)
theorem vR {e2:Expr}(bx:BX X F k)(hg:Gl X "max")(hm:X.mg "max"=none)(ha:FA X F [e,e2] gs)(he:starEach [e,e2] X.env=(false,eval e X.env)::starEach [e2] X.env:=by rfl)(hpl:(backTo pos (starEach [e2] X.env)).any (·.1)=false:=by rfl) :
  FE X F (.Call (.Name "max" p) [e,e2] [] pos) (eCall dMax2 gs):=fD (qp bx.calm) nK hg hm (by decide +kernel) ha (he:=he) (hpl:=hpl)
theorem aG (bx:BX X F k)(hg:Gl X "tuple")(hm:X.mg "tuple"=none)(ha:FA X F [e] gs)(he:starEach [e] X.env=(false,eval e X.env)::starEach [] X.env:=by rfl)(hpl:(backTo pos (starEach [] X.env)).any (·.1)=false:=by rfl):FE X F (.Call (.Name "tuple" p) [e] [] pos) (eCall dTuple gs) :=
 kh (by have:=jD (X:=X);rw[bx.K]at this;exact this) lX hg hm (by decide +kernel) ha (he:=he)
theorem nL (bx:BX X F k)(hg:Gl X "all")(hm:X.mg "all"=none)(ha:FA X F [e] gs)(he:starEach [e] X.env=(false,eval e X.env)::starEach [] X.env:=by rfl)(hpl:(backTo pos (starEach [] X.env)).any (·.1)=false:=by rfl):FE X F (.Call (.Name "all" p) [e] [] pos) (eCall dAll gs) :=
 fD (by have:=iT bx.calm;rw[bx.K]at this;exact this) qN hg hm (by decide +kernel) ha (he:=he)
end
end FF
end
noncomputable section
namespace FF
open PySem PySem.Spec PySem.Calls PyProof.Rows PySem.W
def ExcAt (a C:Addr)(h:Heap):Prop:=∃ o,h.get? a=some o∧o.cls=.ref C∧∃ vs,o.data=.fields vs
structure ExcK (K:Frag)(C:Addr):Prop where
 ga:findIn K (.ref C) "__getattribute__"=some (some (.builtin "BaseException.__getattribute__"))
 gt:findIn K (.ref C) "__getattr__"=some none
 cl:findIn K (.ref C) "__class__"=some (some (.builtin "object.__class__"))
 be:subIn K (.ref C) (.type "BaseException")=some true
 ob:subIn K (.ref C) (.type "object")=some true
 ty:(clsIn K C).isSome=true
section
variable {prog:Program}{w:World}{A:Around}{E:Value→Shared→Prop}{h:Heap}{g:Array GenState}{d:Drawn}{t:Nat}{os:OsState}{a C:Addr}{K:Frag}{o:Obj}{vs:Array Value}
theorem nM {M:Model}(p:ExcAt a C h):Looks M h (typeOf (.ref a)) (.ref C):=by
 obtain⟨o,h1,h2,h3⟩:=p
 exact h2 ▸ (Looks.ld h1).andThen .now
theorem nN {M:Model}(X:K.In h)(k:ExcK K C):Looks M h (isType (.ref C)) true:=by
 have z:=k.ty
 unfold clsIn at z
 split at z
 ·rename_i c' d' cd' sl' ho
  intro A' Q' E' s' kk q
  unfold isType loadHead
  exact wpAny_bind (wpAny_loadPart (kk _ _ (X _ _ ho)) (wpAny_pure q))
 ·cases z
theorem jI {R:Result→Shared→Prop}(X:K.In h)(k:ExcK K C)(hx:h.get? a=some o)(hc:o.cls=.ref C)(hq:R (.ok (.ret (.ref C))) ⟨h,g,d,t,os⟩) :
  codeAny (model prog w) A (.call (.builtin "getset_descriptor.__get__") ⟨[.builtin "object.__class__",.ref a,.ref C],[]⟩) R ⟨h,g,d,t,os⟩:=by
 have hT5:=F.typeOf_object_class
 have L8:Looks (model prog w) h (isSubtype (.ref C) (.type (".".intercalate ("object.__class__".cutAt '.').dropLast))) true:=by
  rw[F.owner_object_class];exact looks_subIn X k.ob
 refine codeAny_call_builtin F.slot_gs_get.plain F.entry_gs_get (F.slot_gs_get.check _ _ _ _ _ _ _ _ hT5 (F.args_gs_get _ _ _) ?_)
 repeat (any_goals (first | assumption | (with_reducible refine wpAny_loadPart_at hx ?_;rw[hc]) | (with_reducible refine L8.at ?_) | wp_step))
 refine⟨Code.quiet_builtin _ (by simp),codeAny_builtin F.entry_object_class ?_⟩
 repeat (any_goals (first | assumption | (with_reducible refine wpAny_loadPart_at hx ?_;rw[hc]) | wp_step))
theorem iu {tk:Tok}{Q:Fin→Shared→Prop}(X:K.In h)(k:ExcK K C)(hx:h.get? a=some o)(hc:o.cls=.ref C)(hq:Q (.done (.ret (.ref C))) ⟨h,g,d,t,os⟩) :
  wpAny (model prog w) A (Builtin.«object.__getattribute__» ⟨[.ref a,.str "__class__" tk],[]⟩) Q E ⟨h,g,d,t,os⟩:=by
 have f5:=F.typeOf_object_class
 have f6:=F.slot_gs_get.lookup
 have f7:=F.slot_gs_set.lookup
 have L4:Looks (model prog w) h (typeLookup (.ref C) "__class__") _:=looks_findIn X k.cl
 repeat (any_goals (first | assumption | (with_reducible refine wpAny_loadPart_at hx ?_;rw[hc]) | (with_reducible refine L4.at ?_) | wp_step))
 refine jI X k hx hc ?_
 repeat (any_goals (first | assumption | wp_step))
theorem qO {M:Model}{nameV:Value}{Q:Unit→Shared→Prop}(X:K.In h)(k:ExcK K C)(hx:h.get? a=some o)(hc:o.cls=.ref C)(hq:Q () ⟨h,g,d,t,os⟩):wpAny M A (checkBuiltinCall "BaseException.__getattribute__" ⟨[.ref a,nameV],[]⟩) Q E ⟨h,g,d,t,os⟩:=by
 have hk:builtinKind "BaseException.__getattribute__"=some .slot:=by decide +kernel
 have hsplit:splitId "BaseException.__getattribute__"=some ("BaseException","__getattribute__"):=by decide +kernel
 have L8:Looks M h (isSubtype (.ref C) (.type "BaseException")) true:=looks_subIn X k.be
 have ha:=F.args_bexc_ga (.ref a) nameV
 simp only[checkBuiltinCall,hk,hsplit]
 refine wpAny_bind ?_
 ·unfold isInstance
  repeat (first | (with_reducible refine wpAny_loadPart_at hx ?_;rw[hc]) | (with_reducible refine L8.at ?_) | wp_step)
  exact hq
theorem iU {tk:Tok}{R:Result→Shared→Prop}(X:K.In h)(k:ExcK K C)(hx:h.get? a=some o)(hc:o.cls=.ref C)(hq:R (.ok (.ret (.ref C))) ⟨h,g,d,t,os⟩) :
  codeAny (model prog w) A (.call (.builtin "BaseException.__getattribute__") ⟨[.ref a,.str "__class__" tk],[]⟩) R ⟨h,g,d,t,os⟩ :=
 codeAny_call_builtin F.attr_ValueError.ga.plain F.entry_bexc_ga (qO X k hx hc (iu X k hx hc hq))
theorem kS {tk:Tok}{Q:Value→Shared→Prop}(X:K.In h)(k:ExcK K C)(hx:h.get? a=some o)(hc:o.cls=.ref C)(hq:Q (.ref C) ⟨h,g,d,t,os⟩) :
  wpAny (model prog w) A (getAttrBy (.ref a) (.str "__class__" tk) false) Q E ⟨h,g,d,t,os⟩:=by
 have f3:=F.attr_ValueError.ga.bind (.ref a)
 have L1:Looks (model prog w) h (typeLookup (.ref C) "__getattribute__") _:=looks_findIn X k.ga
 have L2:Looks (model prog w) h (typeLookup (.ref C) "__getattr__") _:=looks_findIn X k.gt
 have hx2:(Value.builtin "BaseException.__getattribute__" == Value.builtin "object.__getattribute__")=false:=by decide +kernel
 have hx1:(onTheHeap (Value.ref C)&&Value.builtin "BaseException.__getattribute__" == Value.builtin "object.__getattribute__")=false:=by rw[hx2];rfl
 repeat (any_goals (first | assumption | (with_reducible refine wpAny_loadPart_at hx ?_;rw[hc]) | (with_reducible refine L1.at ?_) | (with_reducible refine L2.at ?_) | wp_step))
 refine iU X k hx hc ?_
 repeat (any_goals (first | assumption | wp_step))
theorem iV {Q:Option Value→Shared→Prop}(X:K.In h)(k:ExcK K C)(hx:h.get? a=some o)(hc:o.cls=.ref C)(hq:Q (some (.ref C)) ⟨h,g,d,t+1,os⟩) :
  wpAny (model prog w) A (getAttr? (.ref a) "__class__") Q E ⟨h,g,d,t,os⟩:=by
 unfold getAttr? getAttrBy?
 repeat (any_goals (first | assumption | with_reducible apply kS X k hx hc | wp_step))
end
end FF
end
noncomputable section
namespace FF
open PySem PySem.Spec PyProof.Rows L2
theorem tX {K:PySem.W.Frag}{a C:Addr}(k:ExcK K C):PySem.W.KitX K (.ref a) (.ref C) (ExcAt a C) where
 ty:=fun _ _ _ p=>nM p
 it:=fun _ _ X _=>nN X k
 ne:=fun h tp dd its n sl X htp=>by
  refine Bool.eq_false_iff.mpr fun q=>?_
  have e:C=tp:=Value.ref.inj (beq_iff_eq.mp q)
  subst e
  have z:=k.ty
  unfold PySem.W.clsIn at z
  split at z
  ·rename_i c' d' cd' sl' ho
   have z:=(X _ _ ho).symm.trans htp
   cases z
  ·cases z
 ca:=fun {_ _ _ _ _ s} X p h=>by
  obtain⟨hh,g,d,t,os⟩:=s
  obtain⟨o,h1,h2,_⟩:=p
  exact iV X k h1 h2 h
def tyD (C:Nat→Addr):D→Value
 | .non=>.type "NoneType"
 | .bl _=>.type "bool"
 | .int _=>.type "int"
 | .str _=>.type "str"
 | .tup _=>.type "tuple"
 | .lst _=>.type "list"
 | .exc k=>.ref (C k)
 | .fn _=>.none
 | .tab _ _=>.none
 | .dic _ _=>.none
 | .ptr _=>.none
def isDct:D→Bool
 | .tab _ _=>true
 | .dic _ _=>true
 | .ptr _=>true
 | _=>false
def cV:V→Value
 | .ty n=>.type n
 | .ref a=>.ref a
 | _=>.none
theorem lY {X:Cx}{C:Nat→Addr}:CallR X (.builtin "isinstance") (fun xs H Q=>∃ (Z:Hp) (d:D) (x y:V) (b:Bool),xs=[x,y]∧Same Z H∧Rep X.K C Z d x∧((∃ n,y=.ty n)∨∃ a,y=.ref a) ∧
  PySem.W.kitOne X.K (tyD C d) (cV y)=some b∧(∀ j,d=.exc j→ExcK X.K (C j))∧(∀ j,d≠.fn j)∧isDct d=false∧Q (.bl b) H):=by
 intro pins s σ H xs us Q I r h
 obtain⟨Z,d,x,y,b,rfl,sm,rp,hy,e,he,hf,hdc,q⟩:=h
 obtain⟨u,c,rfl,ru,rc⟩:=vals2 r
 have hc:c=cV y:=by
  rcases hy with ⟨n,rfl⟩ | ⟨a,rfl⟩<;>exact rc
 subst hc
 have fin:∀ tk,EP X pins σ Q (.bool b) { s with toks:=tk }:=fun tk=>⟨.bl b,H,I.tok tk,rfl,q⟩
 cases d with
 | non=>rw[Rep]at rp;subst rp;cases (show u=Value.none from ru);exact PySem.W.kia_one PySem.W.kitx_none I.kIn True.intro e (fun z=>nomatch z) fin
 | bl k=>rw[Rep]at rp;subst rp;cases (show u=Value.bool k from ru);exact PySem.W.kia_one PySem.W.kitx_bool I.kIn True.intro e (fun z=>nomatch z) fin
 | int i=>rw[Rep]at rp;subst rp;obtain⟨t,rfl⟩:=(show ∃ t,u=Value.int i t from ru);exact PySem.W.kia_one PySem.W.kitx_int I.kIn True.intro e (fun z=>nomatch z) fin
 | str i=>rw[Rep]at rp;subst rp;obtain⟨t,rfl⟩:=(show ∃ t,u=Value.str i t from ru);exact PySem.W.kia_one PySem.W.kitx_str I.kIn True.intro e (fun z=>nomatch z) fin
 | tup ds =>
  rw[Rep]at rp
  obtain⟨a,vs,rfl,h1,h2⟩:=rp
  cases (show u=Value.ref a from ru)
  obtain⟨its,_,⟨o,p1,p2,_⟩,_⟩:=I.tuple (h1.mono sm)
  exact PySem.W.kia_one PySem.W.kitx_tuple I.kIn ⟨o,p1,p2⟩ e (fun z=>nomatch z) fin
 | lst ds =>
  rw[Rep]at rp
  obtain⟨a,vs,rfl,h1,h2⟩:=rp
  cases (show u=Value.ref a from ru)
  obtain⟨its,_,⟨o,n,p1,p2,_⟩,_⟩:=I.list (sm.seq h1)
  exact PySem.W.kia_one PySem.W.kitx_list I.kIn ⟨o,p1,p2⟩ e (fun z=>nomatch z) fin
 | fn k=>exact absurd rfl (hf k)
 | tab _ _=>cases hdc
 | dic _ _=>cases hdc
 | ptr _=>cases hdc
 | exc k =>
  rw[Rep]at rp
  obtain⟨a,rfl,h1⟩:=rp
  cases (show u=Value.ref a from ru)
  obtain⟨o,h2,h3,h5⟩:=(show ObjOk X.prog X.w H s.heap a (excO C k a) from I.hok a _ (sm a _ h1)).1
  exact PySem.W.kia_one (tX (he k rfl)) I.kIn ⟨o,h2,h3,h5⟩ e (fun z=>nomatch z) fin
def dIsA (q:D→Option Bool)(d:D):R D:=match q d with
 | some b=>.ok (.bl b)
 | none=>.stuck
def eIs (q:D→Option Bool)(g:SS→R D):SS→R D:=fun S=>(g S).bind (dIsA q)
structure IsA (K:PySem.W.Frag)(C:Nat→Addr)(y:V)(q:D→Option Bool):Prop where
 one:(∃ n,y=.ty n)∨∃ a,y=.ref a
 ans:∀ d b,q d=some b→PySem.W.kitOne K (tyD C d) (cV y)=some b
 exc:∀ j b,q (.exc j)=some b→ExcK K (C j)
 fn:∀ j,q (.fn j)=none
 dct:∀ d,isDct d=true→q d=none
section
variable {X:Cx}{F:Fx}{p pos:Pos}{e ec:Expr}{g:SS→R D}{k:Nat}{y:V}{q:D→Option Bool}
theorem ya (bx:BX X F k)(hq:IsA F.K F.C y q):∀ σ H Q,tE F (eIs q g) σ H Q→tCB (fun xs H Q=>∃ (Z:Hp) (d:D) (x y:V) (b:Bool),xs=[x,y]∧Same Z H∧Rep X.K F.C Z d x∧((∃ n,y=.ty n)∨∃ a,y=.ref a) ∧
  PySem.W.kitOne X.K (tyD F.C d) (cV y)=some b∧(∀ j,d=.exc j→ExcK X.K (F.C j))∧(∀ j,d≠.fn j)∧isDct d=false∧Q (.bl b) H) (tCons (tE F g) (tCons (tC y) tNil)) σ H Q:=fun σ H Q ⟨Z,S,ok,w⟩ =>
 aA ok w fun d v H1 Z1 ok1 x1 rv w1=>by
  cases e:q d with
  | none=>unfold dIsA at w1;rw[e]at w1;exact w1.elim
  | some b =>
   unfold dIsA at w1
   rw[e]at w1
   refine⟨Z1,d,v,y,b,rfl,ok1.sub,by rw[bx.K];exact rv,hq.one,by rw[bx.K];exact hq.ans d b e,fun j ej=>?_,fun j ej=>(by rw[ej,hq.fn j]at e;cases e),(by cases hd:isDct d with | false=>rfl | true=>rw[hq.dct d hd]at e;cases e),WG.now w1 ok1.sub _ a7⟩
   subst ej
   rw[bx.K]
   exact hq.exc j b e
theorem aV (bx:BX X F k)(hg:Gl X "isinstance")(hm:X.mg "isinstance"=none)(hq:IsA F.K F.C y q)(ha:FE X F e g)(hc:PE X ec (tC y))(he:starEach [e,ec] X.env=(false,eval e X.env)::starEach [ec] X.env:=by rfl)
  (he2:starEach [ec] X.env=(false,eval ec X.env)::starEach [] X.env:=by rfl) (hpl:(backTo pos (starEach [ec] X.env)).any (·.1)=false:=by rfl) :
  FE X F (.Call (.Name "isinstance" p) [e,ec] [] pos) (eIs q g) :=
 (cI lY hg hm (by decide +kernel) (d5 ha (d5 hc iF he2) he) (he:=he) (hpl:=hpl)).weak (ya bx hq)
end
def qTup:D→Option Bool
 | .tup _=>some true
 | .exc _=>none
 | .fn _=>none
 | .tab _ _=>none
 | .dic _ _=>none
 | .ptr _=>none
 | _=>some false
def qInt:D→Option Bool
 | .int _=>some true
 | .bl _=>some true
 | .exc _=>none
 | .fn _=>none
 | .tab _ _=>none
 | .dic _ _=>none
 | .ptr _=>none
 | _=>some false
def qBool:D→Option Bool
 | .bl _=>some true
 | .exc _=>none
 | .fn _=>none
 | .tab _ _=>none
 | .dic _ _=>none
 | .ptr _=>none
 | _=>some false
theorem bY {K:PySem.W.Frag}{C:Nat→Addr}:IsA K C (.ty "tuple") qTup:=⟨.inl ⟨_,rfl⟩,fun d b e=>by cases d<;>cases e<;>with_unfolding_all rfl,fun j b e=>(nomatch e),fun _=>rfl,fun d h=>by cases d<;>first | rfl | cases h⟩
theorem vS {K:PySem.W.Frag}{C:Nat→Addr}:IsA K C (.ty "int") qInt:=⟨.inl ⟨_,rfl⟩,fun d b e=>by cases d<;>cases e<;>with_unfolding_all rfl,fun j b e=>(nomatch e),fun _=>rfl,fun d h=>by cases d<;>first | rfl | cases h⟩
theorem tY {K:PySem.W.Frag}{C:Nat→Addr}:IsA K C (.ty "bool") qBool:=⟨.inl ⟨_,rfl⟩,fun d b e=>by cases d<;>cases e<;>with_unfolding_all rfl,fun j b e=>(nomatch e),fun _=>rfl,fun d h=>by cases d<;>first | rfl | cases h⟩
def sOwn (i:Nat)(gs:SS→R (List D)):SS→O:=fun S=>rO ((gs S).bind fun ds=>if ds.length≤16777216 then .ok (.nx (S.set i (some (.own ds)))) else .stuck)
def sApp (i:Nat)(gs:SS→R (List D)):SS→O:=fun S=>match S[i]? with
 | some (some (.own ds))=>rO ((gs S).bind fun es=>match es with
  | [d]=>if ds.length < 16777216 then .ok (.nx (S.set i (some (.own (ds++[d]))))) else .stuck
  | _=>.stuck)
 | _=>.stuck
def sExt (i:Nat)(gs:SS→R (List D)):SS→O:=fun S=>match S[i]? with
 | some (some (.own ds))=>rO ((gs S).bind fun es=>match es with
  | [.lst xs]=>if ds.length+xs.length≤16777216 then .ok (.nx (S.set i (some (.own (ds++xs))))) else .stuck
  | [.tup xs]=>if ds.length+xs.length≤16777216 then .ok (.nx (S.set i (some (.own (ds++xs))))) else .stuck
  | _=>.stuck)
 | _=>.stuck
def rExt (K:PySem.W.Frag):V→List V→Hp→VK→Prop:=fun x vs H Q=>∃ l b xs zs,x=.ref l∧vs=[.ref b]∧H l=some (.lst xs)∧(SqL K H b zs∨SqT K H b zs)∧xs.length+zs.length≤sizeLine∧Q .non (upd H l (.lst (xs++zs)))
theorem yb {X:Cx}:MtR X "list.extend" (rExt X.K):=by
 intro pins s σ H x vs v us Q I rx rv h
 obtain⟨l,b,xs,zs,rfl,rfl,hH,hB,hz,q⟩:=h
 cases rx
 obtain⟨u,rfl,ru⟩:=rv.one
 cases ru
 obtain⟨z,its,n,r,hl,e⟩:=I.lstM hH
 rcases hB with hB | hB
 ·obtain⟨its2,r2,⟨⟨c2,d2,dt2,sl2⟩,n2,e2,p2,p3,p4⟩,z2⟩:=I.list hB
  simp only at p2 p3 p4
  subst p2 p3 p4
  have hl2:=r2.length
  have hsz:its.toArray.size+its2.toArray.size≤sizeLine:=by rw[List.size_toArray,List.size_toArray];omega
  refine call_meets F.slot_list_extend ⟨_,e,rfl⟩ F.entry_list_extend (F.args_list_extend_2 _ _) (qF l b its.toArray its2.toArray n n2 _ _ hsz) ⟨e,e2,?_⟩
  refine⟨.non,_,I.lset hH e (by simp) (r.append r2) ?_,rfl,q⟩
  grind
 ·obtain⟨its2,r2,⟨⟨c2,d2,dt2,sl2⟩,e2,p2,n2,p3⟩,z2⟩:=I.tuple hB
  simp only at p2 p3
  subst p2 p3
  have hl2:=r2.length
  have hsz:its.toArray.size+its2.toArray.size≤sizeLine:=by rw[List.size_toArray,List.size_toArray];omega
  refine call_meets F.slot_list_extend ⟨_,e,rfl⟩ F.entry_list_extend (F.args_list_extend_2 _ _) (qG l b its.toArray its2.toArray n n2 _ _ hsz) ⟨e,e2,?_⟩
  refine⟨.non,_,I.lset hH e (by simp) (r.append r2) ?_,rfl,q⟩
  grind
section
variable {X:Cx}{F:Fx}{e:Expr}{es:List Expr}{gs:SS→R (List D)}{pos p0 apos cpos lpos:Pos}{x:Str}
theorem nO (i:Nat){pos':Pos}(hN:X.N.Nodup)(h:FA X F es gs)(hi:X.N[i]?=some x:=by rfl)(hx:Loc X.env.scope x:=by first | exact Or.inl rfl | exact Or.inr rfl)
  (hs:swapsWith (.List es lpos) (some (.Name x pos')) pos.line X.env=pure false:=by rfl) (hf:X.fn x=true∨X.env.scope.names.lookup x=some .local:=by first | exact .inl rfl | exact .inr rfl):FS X F (.Assign [.Name x pos'] (.List es lpos) pos) (sOwn i gs) :=
 (gn hN hi hx (sO h) hs hf).weak fun D σ H ⟨Z,S,ok,w⟩=>aO ok (WO.wg ok w) fun ds vs H1 Z1 ok1 x1 rs w1=>by
  split at w1
  ·rename_i hl
   refine⟨by rw[← rs.length,sizeLine_eq];exact hl,fun p hp=>?_⟩
   have w2:=WG.now w1 ok1.sub
   exact w2 _ _ Z1 (Same.refl _) (ok1.newOwn hp rs)
  ·exact w1.elim
theorem qP (i:Nat)(ha:FA X F [e] gs)(hi:X.N[i]?=some x:=by rfl)(hv:Vis X.env.scope x:=by first | exact Or.inl rfl | exact Or.inr (Or.inl rfl) | exact Or.inr (Or.inr rfl))(hd:(x==("__debug__":Str))=false:=by decide)
  (hcd:(x==("__classdict__":Str))=false:=by decide)
  (hbase:attributeBase (.Name x p0) "append" X.env (eval (.Name x p0) X.env)=eval (.Name x p0) X.env:=by rfl)
  (hfew:((backTo cpos (starEach [e] X.env)).all (fun x=>!x.1)&&(backToKw cpos (keywordEach [] X.env)).all (fun x=>x.1.isSome)
   && decide ([e].length+([]:List Keyword).length+(if ([]:List Keyword).isEmpty then 0 else 1) < 30))=true:=by rfl)
  (hline:(apos.endLine==cpos.line)=true:=by rfl) (hs:starEach [e] X.env=(false,eval e X.env)::starEach [] X.env:=by rfl) (hplain:(backTo cpos (starEach [] X.env)).any (·.1)=false:=by rfl)
  (hsw:swapsWith (.Call (.Attribute (.Name x p0) "append" apos) [e] [] cpos) none pos.line X.env=pure false:=by rfl) :
  FS X F (.Expr (.Call (.Attribute (.Name x p0) "append" apos) [e] [] cpos) pos) (sApp i gs) :=
 (iA (lN PySem.F.plainAttrs_list PySem.F.slot_list_append (by kernel_rfl) (gq (X:=X)) (ci hi hv hd hcd) ha hbase hfew hline hs hplain) hsw).weak fun D σ H ⟨Z,S,ok,w⟩=>by
  unfold sApp at w
  split at w
  ·rename_i ds e0
   obtain⟨a,vs,e1,e2,e3,e4,r⟩:=ok.own i ds e0
   refine⟨.ref a,e1,.inl ⟨rfl,vs,SqL.of e2⟩,aO ok (WO.wg ok w) fun es' us H1 Z1 ok1 x1 rs w1=>?_⟩
   split at w1
   ·rename_i d
    split at w1
    ·rename_i hl
     obtain⟨y,rfl,ry⟩:=aP rs
     have w2:=WG.now w1 ok1.sub
     refine⟨a,vs,y,rfl,rfl,x1.same _ _ e2,by rw[← r.length,sizeLine_eq];exact hl,?_⟩
     exact w2 σ _ Z1 (Same.refl _) (ok1.write e0 e1 ((r.mono x1.z).append (Reps.cons ry Reps.nil)))
    ·exact w1.elim
   ·exact w1.elim
  ·exact w.elim
theorem ki (i:Nat)(bK:X.K=F.K)(ha:FA X F [e] gs)(hi:X.N[i]?=some x:=by rfl)(hv:Vis X.env.scope x:=by first | exact Or.inl rfl | exact Or.inr (Or.inl rfl) | exact Or.inr (Or.inr rfl))(hd:(x==("__debug__":Str))=false:=by decide)
  (hcd:(x==("__classdict__":Str))=false:=by decide)
  (hbase:attributeBase (.Name x p0) "extend" X.env (eval (.Name x p0) X.env)=eval (.Name x p0) X.env:=by rfl)
  (hfew:((backTo cpos (starEach [e] X.env)).all (fun x=>!x.1)&&(backToKw cpos (keywordEach [] X.env)).all (fun x=>x.1.isSome)
   && decide ([e].length+([]:List Keyword).length+(if ([]:List Keyword).isEmpty then 0 else 1) < 30))=true:=by rfl)
  (hline:(apos.endLine==cpos.line)=true:=by rfl) (hs:starEach [e] X.env=(false,eval e X.env)::starEach [] X.env:=by rfl) (hplain:(backTo cpos (starEach [] X.env)).any (·.1)=false:=by rfl)
  (hsw:swapsWith (.Call (.Attribute (.Name x p0) "extend" apos) [e] [] cpos) none pos.line X.env=pure false:=by rfl) :
  FS X F (.Expr (.Call (.Attribute (.Name x p0) "extend" apos) [e] [] cpos) pos) (sExt i gs) :=
 (iA (lN PySem.F.plainAttrs_list PySem.F.slot_list_extend (by kernel_rfl) (yb) (ci hi hv hd hcd) ha hbase hfew hline hs hplain) hsw).weak fun D σ H ⟨Z,S,ok,w⟩=>by
  unfold sExt at w
  split at w
  ·rename_i ds e0
   obtain⟨a,vs,e1,e2,e3,e4,r⟩:=ok.own i ds e0
   refine⟨.ref a,e1,.inl ⟨rfl,vs,SqL.of e2⟩,aO ok (WO.wg ok w) fun es' us H1 Z1 ok1 x1 rs w1=>?_⟩
   split at w1
   ·rename_i xs
    split at w1
    ·rename_i hl
     obtain⟨y,rfl,ry⟩:=aP rs
     rw[Rep]at ry
     obtain⟨b,zs,rfl,h1,h2⟩:=ry
     have w2:=WG.now w1 ok1.sub
     refine⟨a,b,vs,zs,rfl,rfl,x1.same _ _ e2,.inl (by rw[bK];exact ok1.sub.seq h1),by rw[← r.length,← h2.length,sizeLine_eq];exact hl,?_⟩
     exact w2 σ _ Z1 (Same.refl _) (ok1.write e0 e1 ((r.mono x1.z).append h2))
    ·exact w1.elim
   ·rename_i xs
    split at w1
    ·rename_i hl
     obtain⟨y,rfl,ry⟩:=aP rs
     rw[Rep]at ry
     obtain⟨b,zs,rfl,h1,h2⟩:=ry
     have w2:=WG.now w1 ok1.sub
     refine⟨a,b,vs,zs,rfl,rfl,x1.same _ _ e2,.inr (by rw[bK];exact h1.mono ok1.sub),by rw[← r.length,← h2.length,sizeLine_eq];exact hl,?_⟩
     exact w2 σ _ Z1 (Same.refl _) (ok1.write e0 e1 ((r.mono x1.z).append h2))
    ·exact w1.elim
   ·exact w1.elim
  ·exact w.elim
end
def eMethL (f:List D→List D→R D)(g:SS→R D)(gs:SS→R (List D)):SS→R D:=fun S=>(g S).bind fun d=>match d with
 | .lst xs=>(gs S).bind fun es=>f xs es
 | _=>.stuck
section
variable {X:Cx}{F:Fx}{o e:Expr}{g:SS→R D}{gs:SS→R (List D)}{apos cpos:Pos}{k:Nat}
def MethD (F:Fx)(r:V→List V→Hp→VK→Prop)(f:List D→List D→R D):Prop:=∀ (H Z:Hp) (a:Addr) (vs:List V) (xs:List D) (us:List V) (es:List D) (Q:VK),Same Z H→SqL F.K H a vs→Reps F.K F.C Z xs vs→Reps F.K F.C Z es us →
 WG F H Z (f xs es) (fun d H' Z'=>∀ v,Rep F.K F.C Z' d v→Q v H')→r (.ref a) us H Q
theorem qQ {r:V→List V→Hp→VK→Prop}{f:List D→List D→R D}(hd:MethD F r f):∀ σ H Q,tE F (eMethL f g gs) σ H Q→tBM F.K "list" r (tE F g) (tAl F gs) σ H Q:=fun σ H Q ⟨Z,S,ok,w⟩=>aA ok w fun d v H1 Z1 ok1 x1 rv w1=>by
 cases d with
 | lst xs =>
  rw[Rep]at rv
  obtain⟨a,vs,rfl,h1,h2⟩:=rv
  exact⟨.inl ⟨rfl,vs,ok1.sub.seq h1⟩,aO ok1 w1 fun es us H2 Z2 ok2 x2 rs w2=>hd H2 Z2 a vs xs us es Q ok2.sub (ok2.sub.seq (x2.z.seq h1)) (h2.mono x2.z) rs w2⟩
 | _=>exact w1.elim
end
def MadeX (X:Cx)(F:Fx):Prop:=∀ (pins:List (Addr×Obj)) (σ:St) (H:Hp) (s:Shared) (h1:Heap) (ea C:Addr) (args:List Value),Inv X pins σ H s→Heap.MadeExcOf s.heap h1 ea (.ref C) args→F.E (.ref C) none H→X.xe (.ref ea) { s with heap:=h1 }
def bmVE:List Value:=[.type "ValueError",.type "Exception",.type "BaseException",.type "object"]
theorem vT {K:PySem.W.Frag}{h:Heap}{C:Addr}{bmB:List Value}{newId:String}(X:K.In h)(q:PySem.W.excIn K C bmB newId=true) :
  ∃ (bm:List Value) (N:Addr) (nm qn:Str) (bs:List Value) (hdct:Bool) (sn:List Str) (sub:List Value) (ab:Bool) (col:Option Bool) (dd:Option Addr) (k0 k1 k2 k3 k5:Option Value) (mN:Str→Option Value),
   h.get? C=some (excClassObj nm qn C N bs bm hdct sn sub ab col dd k0 k1 k2 k3 k5 newId)∧h.Ns N mN∧mN "__init__"=none∧OwnTail h bmB bm:=by
 unfold PySem.W.excIn at q
 split at q
 ·rename_i dd cd sl ho
  split at q
  ·rename_i C' bm k0 k1 k2 k3 n k5 hm hs
   simp only[Bool.and_eq_true,beq_iff_eq,Bool.not_eq_true']at q
   obtain⟨⟨⟨⟨⟨rfl,rfl⟩,hdel⟩,ht⟩,hok⟩,hni⟩:=q
   obtain⟨nm,bs,mro,ns,qn,hd,sn,sub,ab,col,del⟩:=cd
   dsimp only at hm hdel hok hni
   subst hm hdel
   have hsl:sl = #[k0,k1,k2,k3,some (.builtin n),k5]:=by
    grind
   subst hsl
   exact⟨bm,ns,nm,qn,bs,hd,sn,sub,ab,col,dd,k0,k1,k2,k3,k5,_,X _ _ ho,.of_isNs (PySem.W.isNs_of_in X hok),PySem.W.nsMap_none_of_in X hok hni,PySem.W.tail_of_in X ht⟩
  ·cases q
 ·cases q
def sRaise (j:Nat)(gs:SS→R (List D)):SS→O:=fun S=>rO ((gs S).bind fun ds=>if ds.length≤1000 then .ok (.er j) else .stuck)
section
variable {X:Cx}{F:Fx}{e:Expr}{es:List Expr}{gs:SS→R (List D)}{pos np cpos:Pos}{x:Str}{k j:Nat}
theorem iW (j:Nat)(bx:BX X F k)(hmade:MadeX X F)(hg:Gl X x)(hm:X.mg x=some (.ref (F.C j)))(q:PySem.W.excIn F.K (F.C j) bmVE "ValueError.__new__"=true)(ha:FA X F (e::es) gs)(hd:(x==("__debug__":Str))=false:=by decide)
  (he:starEach (e::es) X.env=(false,eval e X.env)::starEach es X.env:=by rfl) (hpl:(backTo cpos (starEach es X.env)).any (·.1)=false:=by rfl) :
  FS X F (.Raise (some (.Call (.Name x np) (e::es) [] cpos)) none pos) (sRaise j gs):=by
 intro pins s σ H D I h
 obtain⟨Z,S,ok,w⟩:=h
 have q':=q
 rw[← bx.K]at q'
 obtain⟨bm,N,nm,qn,bs,hdct,sn,sub,ab,col,dd,k0,k1,k2,k3,k5,mN,hC0,hN0,hni0,T0⟩:=vT I.ok.mod.kin q'
 have hb:∀ {pl σ' H' s'},Inv X pl σ' H' s'→∀ b o,X.base.get? b=some o→s'.heap.get? b=some o:=fun I'=>I'.bk
 refine wpAny_Raise_call_subU (nm:=nm) (q:=qn) (N:=N) (bs:=bs) (hdct:=hdct) (sn:=sn) (sub:=sub) (ab:=ab) (col:=col) (dd:=dd) (k0:=k0) (k1:=k1) (k2:=k2) (k3:=k3) (k5:=k5) PySem.F.excBase_ValueError (by decide) PySem.F.excBase_ValueError (T0.hasType PySem.F.excBase_ValueError.hasBase) (I.ok.hd bx.calm) (by rw[he];show (false||(backTo cpos (starEach es X.env)).any (·.1))=false;rw[hpl];rfl) hni0 (iy I hg hm ⟨rfl,?_⟩ hd)
 have hA:=ha cpos pins s σ H (fun vs H1=>vs.length≤1000∧F.E (.ref (F.C j)) none H1) I (aO ok (WO.wg ok w) fun ds vs H1 Z1 ok1 x1 rs w1=>by
  split at w1
  ·rename_i hl
   exact⟨by rw[← rs.length];exact hl,WG.now w1 ok1.sub H1 ok1.ex.same⟩
  ·exact w1.elim)
 rw[he]at hA ⊢
 refine Calls.evalArgs_plain (thn hA fun us s2 ⟨vs,H2,I2,r2,q2⟩=>⟨rfl,?_,hb I2 _ _ hC0,hN0.keeps (hb I2),T0.keeps (hb I2),fun h' e hm'=>hmade pins σ H2 s2 h' e _ us I2 hm' q2.2⟩)
 rw[← r2.length,sizeLine_eq]
 omega
end
section
variable {X:Cx}{pins:List (Addr×Obj)}{σ:St}{H:Hp}{s:Shared}
end
structure Takes (K:PySem.W.Frag)(C:Nat→Addr)(C0:Addr)(q:Nat→Bool):Prop where
 exc:PySem.W.excIn K C0 bmVE "ValueError.__new__"=true
 sub:∀ k,q k=true→PySem.W.subIn K (.ref (C k)) (.ref C0)=some true
section
variable {F:Fx}{H Z:Hp}{S:SS}{σ:St}
end
section
variable {X:Cx}{F:Fx}{body:List Stmt}{g:SS→O}{c n y:Str}{np np2 kp apos hpos pos:Pos}{k:Nat}{q:Nat→Bool}{C0:Addr}
end
def eNeg (g:SS→R D):SS→R D:=fun S=>(g S).bind fun d=>match d with
 | .int i=>.ok (.int (-i))
 | _=>.stuck
section
variable {X:Cx}{F:Fx}{a:Expr}{g:SS→R D}{pos:Pos}{x:Str}{i:Int}
theorem yc (h:FE X F a g):FE X F (.UnaryOp .USub a pos) (eNeg g):=(xb sJ h).weak fun σ H Q ⟨Z,S,ok,w⟩=>aA ok w fun d v H1 Z1 ok1 x1 rv w1=>by
 cases d with
 | int i=>rw[Rep]at rv;exact⟨i,rv,WG.now w1 ok1.sub _ aF⟩
 | _=>exact w1.elim
theorem bp (h:∃ t,X.mg x=some (.int i t))(hg:Gl X x)(hd:(x==("__debug__":Str))=false:=by decide):FE X F (.Name x pos) (eC (.int i)):=by
 obtain⟨t,e⟩:=h
 exact d8 (iz (v:=.int i) hg e ⟨t,rfl⟩ hd) fun _=>aF
end
end FF
end
noncomputable section
namespace FF
open PySem L2
def tupI (l:List Int):D:=.tup (l.map .int)
def dSw (d:D)(lo hi:Option Int):R D:=match d with
 | .lst xs=>.ok (.lst (cutD xs lo hi))
 | .tup xs=>.ok (.tup (cutD xs lo hi))
 | _=>.stuck
def eSw (g:SS→R D)(l h:SS→R (Option Int)):SS→R D:=fun S=>(g S).bind fun d=>(l S).bind fun lo=>(h S).bind fun hi=>dSw d lo hi
def intsOf:List D→Option (List Int)
 | []=>some []
 | .int i::r=>(intsOf r).map (i::·)
 | _::_=>none
def sumI (is:List Int):Int:=is.foldl (· + ·) 0
def dSum:List D→R D
 | [.lst xs]=>match intsOf xs with
  | some is=>.ok (.int (sumI is))
  | none=>.stuck
 | [.tup xs]=>match intsOf xs with
  | some is=>.ok (.int (sumI is))
  | none=>.stuck
 | _=>.stuck
def minI (a:Int)(is:List Int):Int:=is.foldl (fun m x=>if x < m then x else m) a
end FF
end
noncomputable section
namespace FF
open PySem PySem.Spec PyProof.Rows L2
def TupK (K:PySem.W.Frag)(a:Addr)(l:List Int):Prop :=
 ∃ (o:Obj) (its:Array Value) (n:Nat),K.lookup a=some o∧o.cls=.type "tuple" ∧ o.dict=none∧o.data=.seq its n∧its.size≤sizeLine∧Vals (l.map V.int) its.toList
theorem kj {K:PySem.W.Frag}{C:Nat→Addr}{Z:Hp}:∀ ns:List Int,Reps K C Z (ns.map .int) (ns.map V.int)
 | []=>by rw[List.map_nil,List.map_nil,Reps]
 | i::ns=>by rw[List.map_cons,List.map_cons,Reps];exact⟨_,_,rfl,aF,kj ns⟩
theorem iB {X:Cx}{F:Fx}{x:Str}{pos:Pos}{l:List Int}(h:∃ a,X.mg x=some (.ref a)∧TupK F.K a l)(hg:Gl X x)(hd:(x==("__debug__":Str))=false:=by decide):FE X F (.Name x pos) (eC (tupI l)):=by
 obtain⟨a,e,o,its,n,h1,h2,h2d,h3,h4,h5⟩:=h
 exact d8 (iz (v:=.ref a) hg e rfl hd) fun Z=>by
  unfold tupI
  rw[Rep]
  exact⟨a,_,rfl,.inr ⟨o,its,n,h1,h2,h2d,h3,h4,h5⟩,kj l⟩
theorem a9 {K:PySem.W.Frag}{C:Nat→Addr}{Z:Hp}:∀ {ds:List D} {vs:List V} {is:List Int},Reps K C Z ds vs→intsOf ds=some is→vs=is.map V.int
 | [],vs,is,r,e=>by rw[Reps]at r;cases e;exact r
 | d::ds,vs,is,r,e=>by
  rw[Reps]at r
  obtain⟨v,r',rfl,h1,h2⟩:=r
  cases d with
  | int i =>
   rw[intsOf]at e
   cases q:intsOf ds with
   | none=>rw[q]at e;cases e
   | some is' =>
    rw[q]at e
    cases e
    rw[Rep]at h1
    rw[h1,a9 h2 q]
    rfl
  | _=>simp[intsOf]at e
theorem aT:∀ {is:List Int} {us:List Value},Vals (is.map V.int) us→∃ ps:List (Int×Tok),us=ps.map (fun p=>Value.int p.1 p.2)∧ps.map (·.1)=is
 | [],us,h=>by rw[List.map_nil]at h;cases h;exact⟨[],rfl,rfl⟩
 | i::is,us,h=>by
  rw[List.map_cons]at h
  cases h with
  | cons r t =>
   obtain⟨tk,e⟩:=(show ∃ t,_=Value.int i t from r)
   obtain⟨ps,e2,e3⟩:=aT t
   exact⟨(i,tk)::ps,by rw[e,e2];rfl,by rw[← e3];rfl⟩
theorem nQ (ps:List (Int×Tok))(i:Nat)(x:Int)(h:(ps.map (·.1))[i]?=some x):numAt ps.toArray i=x:=by
 rw[List.getElem?_map]at h
 unfold numAt
 rw[List.getElem?_toArray]
 rw[h]
 rfl
theorem ig (ps:List (Int×Tok)):(List.range ps.length).map (numAt ps.toArray)=ps.map (·.1):=by
 apply List.ext_getElem?
 intro i
 rw[List.getElem?_map]
 by_cases hi:i < ps.length
 ·have hr:(List.range ps.length)[i]?=some i:=by simp[hi]
  have hx:(ps.map (·.1))[i]?=some (ps[i].1):=by simp[hi]
  rw[hr,hx]
  exact congrArg some (nQ ps i _ hx)
 ·have hr:(List.range ps.length)[i]?=none:=by simp;omega
  have hx:(ps.map (·.1))[i]?=none:=by simp;omega
  rw[hr,hx]
  rfl
theorem tZ (val:Nat→Int):∀ k,val (argBest (fun i j=>decide (val i < val j)) k)=minI (val 0) ((List.range k).map fun i=>val (i+1))
 | 0=>rfl
 | k+1=>by
  have ih:=tZ val k
  rw[List.range_succ,List.map_append,argBest]
  unfold minI
  rw[List.foldl_append]
  show _=(if val (k+1) < minI (val 0) ((List.range k).map fun i=>val (i+1)) then val (k+1) else minI (val 0) ((List.range k).map fun i=>val (i+1)))
  rw[← ih]
  by_cases h:val (k+1) < val (argBest (fun i j=>decide (val i < val j)) k)
  ·rw[if_pos h,if_pos (by simpa using h)]
  ·rw[if_neg h,if_neg (by simpa using h)]
theorem gD (val:Nat→Int):∀ n,preSum val n=sumI ((List.range n).map val)
 | 0=>rfl
 | n+1=>by
  rw[preSum,gD val n,List.range_succ,List.map_append]
  unfold sumI
  rw[List.foldl_append]
  rfl
section
variable {X:Cx}
theorem qR {s:Shared}{l:Addr}{h':Heap}(hk:∀ b o,b∉[s.heap.objs.size]→(s.heap.push { cls:=.type "tuple_iterator",data:=.fields #[.ref l,.int 0 0] }).get? b=some o→h'.get? b=some o) :
  ∀ b o,s.heap.get? b=some o→h'.get? b=some o:=fun b o e=>by
 refine hk b o (fun hm=>?_) (Heap.get?_push_of_some _ e)
 rcases List.mem_cons.mp hm with e1 | hm
 ·exact absurd (e1 ▸ Heap.lt_size e) (Nat.lt_irrefl _)
 ·cases hm
theorem jJ (hc:X.calm=true):CallR X (.builtin "sum") (fun xs H Q=>∃ (p:Addr) (is:List Int),xs=[.ref p]∧(SqL X.K H p (is.map V.int)∨SqT X.K H p (is.map V.int))∧Q (.int (sumI is)) H):=by
 intro pins s σ H xs us Q I r h
 obtain⟨p,is,rfl,hq,q⟩:=h
 obtain⟨u,rfl,ru⟩:=vals1 r
 cases ru
 rcases hq with hq | hq
 ·obtain⟨its,rv,pl,hz⟩:=I.list hq
  obtain⟨ps,rfl,e⟩:=aT rv
  have hil:s.heap.IsList p (intItems ps.toArray):=by
   have:=pl.isList
   unfold intItems
   simpa using this
  have es:preSum (numAt ps.toArray) ps.toArray.size=sumI is:=by
   rw[gD,List.size_toArray,ig,e]
  refine call_sum_walkG (iter_intList hil fun s₂ e2 st hfp hlI=>?_)
  subst e2
  refine⟨_,_,_,_,_,_,numAt ps.toArray,rfl,Walks.list (A:=X.A.in1) (I.ok.hd hc) _ p hlI (intItems ps.toArray),st,hfp,(fun _ _=>intItems_at),fun h' tk t' hk=>?_⟩
  have hsz:(intItems ps.toArray).size=ps.toArray.size:=by simp[intItems]
  rw[hsz,es]
  exact⟨.int (sumI is),H,I.kept (old_kept hk),⟨t',rfl⟩,q⟩
 ·obtain⟨its,rv,pl,hz⟩:=I.tuple hq
  obtain⟨ps,rfl,e⟩:=aT rv
  have hil:s.heap.IsTuple p (intItems ps.toArray):=by
   have pl':s.heap.IsTuple p (ps.map fun p=>Value.int p.1 p.2).toArray:=pl
   unfold intItems
   simpa using pl'
  have es:preSum (numAt ps.toArray) ps.toArray.size=sumI is:=by
   rw[gD,List.size_toArray,ig,e]
  have hlt:p < s.heap.objs.size:=by obtain⟨_,e,_⟩:=hil;exact Heap.lt_size e
  refine call_sum_walkG (wpAny_pyIter_tuple hil ?_)
  refine⟨_,_,_,_,_,_,numAt ps.toArray,rfl,Walks.tuple (A:=X.A.in1) (I.ok.hd hc) s.heap.objs.size p (Nat.ne_of_lt hlt) (intItems ps.toArray),⟨⟨_,Heap.get?_push_size _ rfl,rfl,rfl⟩,hil.push _⟩,fun b hb=>?_,(fun _ _=>intItems_at),fun h' tk t' hk=>?_⟩
  ·show b < (s.heap.push _).objs.size
   rw[Heap.size_push]
   rcases List.mem_cons.mp hb with rfl | hb
   ·exact Nat.lt_succ_self _
   ·rcases List.mem_cons.mp hb with rfl | hb
    ·exact Nat.lt_succ_of_lt hlt
    ·cases hb
  ·have hsz:(intItems ps.toArray).size=ps.toArray.size:=by simp[intItems]
   rw[hsz,es]
   exact⟨.int (sumI is),H,I.kept (qR hk),⟨t',rfl⟩,q⟩
end
theorem qS {F:Fx}:CallD F (fun xs H Q=>∃ (p:Addr) (is:List Int),xs=[.ref p]∧(SqL F.K H p (is.map V.int)∨SqT F.K H p (is.map V.int))∧Q (.int (sumI is)) H) dSum:=by
 intro H Z xs ds Q s rs w
 unfold dSum at w
 split at w
 ·split at w
  ·rename_i is e
   obtain⟨v,rfl,h⟩:=aP rs
   rw[Rep]at h
   obtain⟨a,vs,rfl,h1,h2⟩:=h
   have e2:=a9 h2 e
   subst e2
   exact⟨a,is,rfl,.inl (s.seq h1),WG.now w s _ aF⟩
  ·exact w.elim
 ·split at w
  ·rename_i is e
   obtain⟨v,rfl,h⟩:=aP rs
   rw[Rep]at h
   obtain⟨a,vs,rfl,h1,h2⟩:=h
   have e2:=a9 h2 e
   subst e2
   exact⟨a,is,rfl,.inr (h1.mono s),WG.now w s _ aF⟩
  ·exact w.elim
 ·exact w.elim
section
variable {X:Cx}{F:Fx}{p pos:Pos}{e:Expr}{gs:SS→R (List D)}{k:Nat}
theorem ye (bx:BX X F k)(hg:Gl X "sum")(hm:X.mg "sum"=none)(ha:FA X F [e] gs)(he:starEach [e] X.env=(false,eval e X.env)::starEach [] X.env:=by rfl)(hpl:(backTo pos (starEach [] X.env)).any (·.1)=false:=by rfl):FE X F (.Call (.Name "sum" p) [e] [] pos) (eCall dSum gs) :=
 fD (id := "sum") (by have:=jJ (X:=X) bx.calm;rw[bx.K]at this;exact this) qS hg hm (by decide +kernel) ha (he:=he) (hpl:=hpl)
end
theorem kl {X:Cx}{pins:List (Addr×Obj)}{σ:St}{H:Hp}{s:Shared}(I:Inv X pins σ H s){A:Around}(hu:A.units < cLine)(b k:Int)(t t':Tok):SeqAt.EqAt A s (.int b t) (.int k t') (b==k) :=
 tM (K:=X.K) (C:=fun _=>0) (Z:=fun _=>none) rfl I (fun _ _ e=>nomatch e) 0 A (.int b) (.int k) (.int b) (.int k) _ _ rfl rfl aF aF ⟨t,rfl⟩ ⟨t',rfl⟩ (by omega)
def isI (k:Int):Value→Bool
 | .int b _=>b==k
 | _=>false
section
variable {X:Cx}{F:Fx}{o e:Expr}{g:SS→R D}{gs:SS→R (List D)}{apos cpos:Pos}{k:Nat}
theorem pi {K:PySem.W.Frag}{C:Nat→Addr}{Z:Hp}{k:Int}{vs:List V}(r:Reps K C Z [.int k] vs):vs=[.int k]:=by
 obtain⟨v,rfl,h⟩:=aP r
 rw[Rep]at h
 rw[h]
end
end FF
namespace HT
open PySem PyProof.Rows
theorem eR {prog:Program}{w:World}{A:Around}{E:Value→Shared→Prop}{s:Shared}{t sl:Addr}{items:Array Value}{vl vu:Value}{lo hi:Option Int}{Q:Value→Shared→Prop}(ht:IsTup s.heap t items)(hs:s.heap.IsSliceOf sl vl vu .none)(pl:IsPart vl lo)(pu:IsPart vu hi)
  (hw:sIx items.size 0 lo=0∧sIx items.size items.size hi=items.size) (h:Q (.ref t) s):wpAny (model prog w) A (getItem (.ref t) (.ref sl)) Q E s:=by
 obtain⟨os,hos,hcs,hds⟩:=id hs
 have hTs:s.TypeIs (.ref sl) "slice" := ⟨os,hos,hcs⟩
 unfold getItem
 try with_reducible refine wpAny_holding ?_
 first | refine wpAny_bind (wpAny_pure ?_) | skip
 refine wpAny_bind (wpAny_sequenceKey ht.typeIs (by decide) ?_)
 refine wpAny_bind (wpAny_callSpecial?_slot ht.typeIs PyProof.Rows.slot_tuple_getitem
  (wpAny_call_entry PyProof.Rows.slot_tuple_getitem ht.typeIs entry_tuple_getitem ?_ (args_tuple_getitem _ _)))
 show wpAny _ _ (Builtin.Tuple.tupleItemsOf (.ref t) >>= _) _ _ s
 refine wpAny_bind (tupleItemsOf_ ht ?_)
 refine wpAny_bind (wpAny_typeOf hTs ?_)
 rw[if_pos (by decide)]
 refine wpAny_bind (cJ hs pl pu ?_)
 rw[hw.1,hw.2]
 show wpAny _ _ (if (((0:Nat):Int)==0&&(1:Int)==1&&(items.size - 0)==items.size)=true then _ else _) _ _ s
 rw[if_pos (by simp)]
 unfold Builtin.Tuple.tupleIsExact
 refine wpAny_bind (wpAny_bind (wpAny_typeOf ht.typeIs (wpAny_pure ?_)))
 rw[if_pos (by decide)]
 exact wpAny_bind (wpAny_rule (wpAny_pure ⟨_,rfl,wpAny_pure h⟩))
end HT
namespace FF
open PySem PySem.Spec PyProof.Rows L2
def rSlW (K:PySem.W.Frag):V→Option Int→Option Int→Hp→VK→Prop:=fun x lo hi H Q=>∃ a xs,x=.ref a∧SqT K H a xs∧(HT.sIx xs.length 0 lo=0∧HT.sIx xs.length xs.length hi=xs.length)∧Q (.ref a) H
theorem vU {X:Cx}:SlR X (rSlW X.K):=by
 intro pins s σ H x v vl vu lo hi sl Q I rx hs pl pu h
 obtain⟨a,xs,rfl,hx,hw,q⟩:=h
 cases rx
 obtain⟨its,r,ht,hz⟩:=I.tuple hx
 have hlen:its.toArray.size=xs.length:=by rw[List.size_toArray];exact r.length.symm
 refine⟨"tuple",_,PyProof.Rows.slot_tuple_getitem.lookup,ht.typeIs,?_⟩
 refine HT.eR ht hs pl pu (by rw[hlen];exact hw) ?_
 exact⟨.ref a,H,I,rfl,q⟩
theorem qU {xs:List D}{lo hi:Option Int}(h:HT.sIx xs.length 0 lo=0∧HT.sIx xs.length xs.length hi=xs.length):cutD xs lo hi=xs:=by
 unfold cutD
 rw[h.1,h.2,List.drop_zero,Nat.sub_zero,List.take_length]
section
variable {X:Cx}{F:Fx}{e:Expr}{lo hi:Option Expr}{g:SS→R D}{l h:SS→R (Option Int)}{pos p2:Pos}
theorem kT (hK:X.K=F.K)(he:FE X F e g)(hl:PO X lo (tP F l))(hh:PO X hi (tP F h)):FE X F (.Subscript e (.Slice lo hi none p2) pos) (eSw g l h) :=
 (sS (vD.or (xL.or vU)) he hl hh).weak fun σ H Q ⟨Z,S,ok,w⟩=>aA ok w fun d v H1 Z1 ok1 x1 rv w1=>ph ok1 w1 fun o H2 Z2 ok2 x2 w2=>ph ok2 w2 fun o' H3 Z3 ok3 x3 w3=>by
  have rv3:=rv.mono (x2.z.trans x3.z)
  cases d with
  | lst ds =>
   rw[Rep]at rv3
   obtain⟨a,vs,rfl,h1,h2⟩:=rv3
   refine .inl ⟨a,vs,rfl,by rw[hK];exact ok3.sub.seq h1,fun p hp=>?_⟩
   have z:Same Z3 (upd Z3 p (.lst (cutV vs o o'))):=aC (ok3.sub.free hp)
   exact w3 _ _ (Ex.alloc ok3.sub hp) _ (by rw[Rep];exact⟨p,_,rfl,SqL.of aj,(h2.cut o o').mono z⟩)
  | tup ds =>
   have rv4:=rv3
   rw[Rep]at rv3
   obtain⟨a,vs,rfl,h1,h2⟩:=rv3
   have w4:WG F H3 Z3 (R.ok (FF.D.tup (cutD ds o o'))) _:=w3
   by_cases hw:HT.sIx ds.length 0 o=0∧HT.sIx ds.length ds.length o'=ds.length
   ·refine .inr (.inr ⟨a,vs,rfl,by rw[hK];exact h1.mono ok3.sub,by rw[← h2.length];exact hw,?_⟩)
    rw[qU hw]at w4
    exact WG.now w4 ok3.sub _ rv4
   ·refine .inr (.inl ⟨a,vs,rfl,by rw[hK];exact h1.mono ok3.sub,by rw[← h2.length];exact hw,fun p hp=>?_⟩)
    have z:Same Z3 (upd Z3 p (.tup (cutV vs o o'))):=aC (ok3.sub.free hp)
    exact w4 _ _ (Ex.alloc ok3.sub hp) _ (by rw[Rep];exact⟨p,_,rfl,SqT.of aj,(h2.cut o o').mono z⟩)
  | _=>exact w3.elim
end
theorem R.bind_assoc {α β γ:Type}(r:R α)(f:α→R β)(g:β→R γ):(r.bind f).bind g=r.bind fun x=>(f x).bind g:=by cases r<;>rfl
end FF
end
noncomputable section
namespace FF
open PySem L2
def sameK:D→D→Bool
 | .tup _,.tup _=>true
 | .int _,.int _=>true
 | _,_=>false
def dInI (x y:D):R D:=match x,y with
 | .int i,.tup ds=>match intsOf ds with
  | some is=>.ok (.bl (is.any (· == i)))
  | none=>.stuck
 | _,_=>.stuck
def dIndexI (xs es:List D):R D:=match es with
 | [.int k]=>match intsOf xs with
  | some is=>if is.idxOf k < is.length then .ok (.int (is.idxOf k:Nat)) else .stuck
  | none=>.stuck
 | _=>.stuck
def eMethT (f:List D→List D→R D)(g:SS→R D)(gs:SS→R (List D)):SS→R D:=fun S=>(g S).bind fun d=>match d with
 | .tup xs=>(gs S).bind fun es=>f xs es
 | _=>.stuck
def eOwnIx (i:Nat)(g:SS→R D):SS→R D:=fun S=>match S[i]? with
 | some (some (.own ds))=>(g S).bind fun k=>match k with
  | .int j=>match atI ds j with
   | some d=>.ok d
   | none=>.stuck
  | _=>.stuck
 | _=>.stuck
end FF
end
noncomputable section
namespace PySem.SeqAt
open AutoSeq1 (wpAny_loadPart')
open MeetsSeq MeetsSeq2 MeetsSeq3 SeqRoads2
theorem tuple_indexAt (l:Addr)(items:Array Value)(n:Nat)(dd:Option Addr)(sl:Array (Option Value))(x:Value)(e:Value→Bool)(j:Nat)(hj:j < items.size)
  (hit:e items[j]=true) (hno:∀ m (hm:m < items.size),m < j→e items[m]=false) :
  Meets (Builtin.«tuple.index» ⟨[.ref l,x],[]⟩)
   (fun A R s=>s.heap.get? l=some { cls:=.type "tuple",dict:=dd,data:=.seq items n,slots:=sl }∧(∀ y,y∈items→EqAt A.in1 s y x (e y))∧R (.ok (.ret (.int (j:Nat) s.toks))) { s with toks:=s.toks+1 }) :=
 .of_wp fun prog w A R s h=>by
  obtain⟨hp,g,d,tk,os⟩:=s;obtain⟨hl,he,h⟩:=h
  wp_walk using wpAny_loadPart' hl
  have key:∀ (k i:Nat) (Q:Option Fin×Unit→Shared→Prop) (E:Value→Shared→Prop),k=items.size - i→i≤j→Q (some (.done (.ret (.int (j:Nat) tk))),()) ⟨hp,g,d,tk+1,os⟩ →
    wpAny (model prog w) A.in1 (forIn (List.range' i k) (none,()) fun (i:Nat) (_:Option Fin×Unit)=>(match items[i]? with
     | some y=>do
      let b ← eqBool y x
      if b=true then do
       let r ← retInt (i:Int)
       pure (ForInStep.done (some r,()))
      else pure (ForInStep.yield (none,()))
     | _=>pure (ForInStep.yield (none,())):Sem (ForInStep (Option Fin×Unit)))) Q E ⟨hp,g,d,tk,os⟩:=fun k=>by
   induction k with
   | zero=>intro i Q E hk hi hq;omega
   | succ k ih =>
    intro i Q E hk hi hq
    have hlt:i < items.size:=by omega
    have hx:items[i]?=some items[i]:=by simp[hlt]
    rw[List.range'_succ,List.forIn_cons,hx]
    refine wpAny_bind (wpAny_bind (he items[i] (by simp) prog w _ _ ?_))
    cases hy:e items[i] with
    | true =>
     have hij:i=j:=by
      rcases Nat.lt_or_ge i j with h1 | h1
      ·rw[hno i hlt h1]at hy;cases hy
      ·omega
     subst hij
     rw[if_pos rfl]
     unfold retInt
     wp_walk
     exact hq
    | false =>
     rw[if_neg (by decide)]
     have hne:i≠j:=fun q=>by subst q;rw[hit]at hy;cases hy
     refine wpAny_pure ?_
     exact ih (i+1) Q E (by omega) (by omega) hq
  show wpAny (model prog w) A.in1 (forIn ([:min items.size items.size]:Std.Legacy.Range) (none,()) fun (i:Nat) (_:Option Fin×Unit)=>(match items[i]? with
     | some y=>do
      let b ← eqBool y x
      if b=true then do
       let r ← retInt (i:Int)
       pure (ForInStep.done (some r,()))
      else pure (ForInStep.yield (none,()))
     | _=>pure (ForInStep.yield (none,())):Sem (ForInStep (Option Fin×Unit)))) _ _ _
  rw[Std.Legacy.Range.forIn_eq_forIn_range']
  simp only[Std.Legacy.Range.size,Nat.sub_zero,Nat.add_sub_cancel,Nat.div_one,Nat.min_self]
  refine key _ 0 _ _ rfl (Nat.zero_le _) ?_
  wp_walk
  exact⟨_,rfl,h⟩
end PySem.SeqAt
namespace FF
open PySem PySem.Spec PyProof.Rows L2
section
variable {X:Cx}{F:Fx}{a b:Expr}{ga gb:SS→R D}{pos:Pos}{k:Nat}
end
theorem ii:∀ l:List Int,intsOf (l.map FF.D.int)=some l
 | []=>rfl
 | i::l=>by rw[List.map_cons,intsOf,ii l];rfl
section
variable {X:Cx}{F:Fx}{a b:Expr}{ga gb:SS→R D}{pos:Pos}{k:Nat}
end
def rIndexT (K:PySem.W.Frag):V→List V→Hp→VK→Prop:=fun x vs H Q=>∃ (l:Addr) (is:List Int) (k:Int),x=.ref l∧vs=[.int k]∧SqT K H l (is.map V.int)∧is.idxOf k < is.length∧Q (.int (is.idxOf k:Nat)) H
theorem qV {X:Cx}{k:Nat}(hr:Room k X.A):MtR X "tuple.index" (rIndexT X.K):=by
 intro pins s σ H x vs v us Q I rx rv h
 obtain⟨l,is,k,rfl,rfl,hH,hj,q⟩:=h
 cases rx
 obtain⟨u,rfl,ru⟩:=rv.one
 obtain⟨tk,rfl⟩:=(show ∃ t,u=Value.int k t from ru)
 obtain⟨its,r,ht,hz⟩:=I.tuple hH
 obtain⟨ps,rfl,e⟩:=aT r
 have hT:s.TypeIs (.ref l) "tuple" := ht.typeIs
 obtain⟨⟨c2,d2,dt2,sl2⟩,e2,p2,n2,p3⟩:=ht
 simp only at p2 p3
 subst p2 p3
 have hl:ps.length=is.length:=by have:=congrArg List.length e;simpa using this
 have hsz:is.idxOf k < (ps.map fun p=>Value.int p.1 p.2).toArray.size:=by rw[List.size_toArray,List.length_map,hl];exact hj
 have hat:∀ m (hm:m < (ps.map fun p=>Value.int p.1 p.2).toArray.size) (hm':m < is.length),isI k (ps.map fun p=>Value.int p.1 p.2).toArray[m]=(is[m]==k):=fun m hm hm'=>by
  subst e
  simp[isI]
 refine call_meets F.slot_tuple_index hT F.entry_tuple_index (F.args_tuple_index_2 _ _) (SeqAt.tuple_indexAt l _ n2 _ _ (.int k tk) (isI k) (is.idxOf k) hsz ?_ ?_) ⟨e2,fun y hy=>?_,⟨.int _,H,I.tok _,⟨_,rfl⟩,q⟩⟩
 ·rw[hat _ _ hj]
  exact List.findIdx_getElem (w:=hj)
 ·intro m hm hlt
  have hm':m < is.length:=by omega
  rw[hat _ _ hm']
  exact Bool.eq_false_iff.mpr (by simpa using List.not_of_lt_findIdx hlt)
 ·have hy':y∈ps.map fun p=>Value.int p.1 p.2:=by simpa using hy
  obtain⟨b,_,rfl⟩:=List.mem_map.mp hy'
  exact kl I (by have:=hr.un;show X.A.units+1 < cLine;omega) b.1 k b.2 tk
section
variable {X:Cx}{F:Fx}{o e:Expr}{g:SS→R D}{gs:SS→R (List D)}{apos cpos:Pos}{k:Nat}
theorem qW {l:List Int}{p:Pos}{x:Str}(bx:BX X F k)(h:∃ a,X.mg x=some (.ref a)∧TupK F.K a l)(hg:Gl X x)(ha:FA X F [e] gs)(hd:(x==("__debug__":Str))=false:=by decide)
  (hbase:attributeBase (.Name x p) "index" X.env (eval (.Name x p) X.env)=eval (.Name x p) X.env:=by rfl)
  (hfew:((backTo cpos (starEach [e] X.env)).all (fun x=>!x.1)&&(backToKw cpos (keywordEach [] X.env)).all (fun x=>x.1.isSome)
   && decide ([e].length+([]:List Keyword).length+(if ([]:List Keyword).isEmpty then 0 else 1) < 30))=true:=by rfl)
  (hline:(apos.endLine==cpos.line)=true:=by rfl) (hs:starEach [e] X.env=(false,eval e X.env)::starEach [] X.env:=by rfl) (hplain:(backTo cpos (starEach [] X.env)).any (·.1)=false:=by rfl) :
  FE X F (.Call (.Attribute (.Name x p) "index" apos) [e] [] cpos) (eMethT dIndexI (eC (tupI l)) gs):=by
 obtain⟨a,em,o,its,n,h1,h2,h2d,h3,h4,h5⟩:=h
 refine(lN PySem.F.plainAttrs_tuple PySem.F.slot_tuple_index PySem.F.type_tuple_index (qV bx.room) (iz (v:=.ref a) hg em rfl hd) ha hbase hfew hline hs hplain).weak fun σ H Q ⟨Z,S,ok,w⟩=>?_
 have w0:WG F H Z ((gs S).bind fun es=>dIndexI (l.map .int) es) fun d H' Z'=>∀ v,Rep F.K F.C Z' d v→Q v H':=w
 have sq:∀ H:Hp,SqT F.K H a (l.map V.int):=fun H=>.inr ⟨o,its,n,h1,h2,h2d,h3,h4,h5⟩
 refine⟨.inr (.inl ⟨rfl,o,by rw[bx.K];exact h1,h2,h2d⟩),aO ok w0 fun es us H1 Z1 ok1 x1 rs w1=>?_⟩
 rw[bx.K]
 unfold dIndexI at w1
 split at w1
 ·rename_i kk
  split at w1
  ·rename_i is eb
   rw[ii l]at eb
   cases eb
   split at w1
   ·rename_i hl
    exact⟨a,l,kk,rfl,pi rs,sq H1,hl,WG.now w1 ok1.sub _ aF⟩
   ·exact w1.elim
  ·exact w1.elim
 ·exact w1.elim
end
section
variable {X:Cx}{F:Fx}{pos p:Pos}{k:Nat}{gs:SS→R (List D)}{g ge:SS→R D}{e ei:Expr}{x:Str}
theorem t0 (i:Nat){p0:Pos}(hK:X.K=F.K)(he:FE X F e g)(hs:PlainIx e:=by intro _ _;rfl)(hi:X.N[i]?=some x:=by rfl)(hv:Vis X.env.scope x:=by first | exact Or.inl rfl | exact Or.inr (Or.inl rfl) | exact Or.inr (Or.inr rfl))(hd:(x==("__debug__":Str))=false:=by decide)
  (hcd:(x==("__classdict__":Str))=false:=by decide):FE X F (.Subscript (.Name x p0) e pos) (eOwnIx i g) :=
 (sT kG (ci hi hv hd hcd) he hs).weak fun σ H Q ⟨Z,S,ok,w⟩=>by
  unfold eOwnIx at w
  split at w
  ·rename_i ds e0
   obtain⟨a,vs,e1,e2,e3,e4,r⟩:=ok.own i ds e0
   refine⟨.ref a,e1,aA ok w fun d v H1 Z1 ok1 x1 rv w1=>?_⟩
   cases d with
   | int j =>
    rw[Rep]at rv
    have w2:WG F H1 Z1 (match atI ds j with | some d=>R.ok d | none=>R.stuck) _:=w1
    cases q:atI ds j with
    | none=>rw[q]at w2;exact w2.elim
    | some d =>
     rw[q]at w2
     obtain⟨v',f1,f2⟩:=(r.mono x1.z).at q
     exact⟨a,vs,j,v',rfl,rv,SqL.of (x1.same _ _ e2),f1,WG.now w2 ok1.sub _ f2⟩
   | _=>exact w1.elim
  ·exact w.elim
theorem Reps.setAt {K:PySem.W.Frag}{C:Nat→Addr}{Z:Hp}{d:D}{v:V}(q:Rep K C Z d v):∀ {ds:List D} {vs:List V} (j:Nat),Reps K C Z ds vs→Reps K C Z (ds.set j d) (vs.set j v)
 | [],vs,j,r=>by rw[Reps]at r;subst r;rw[List.set_nil,List.set_nil,Reps]
 | a::ds,vs,0,r=>by
  rw[Reps]at r
  obtain⟨w,r',rfl,h1,h2⟩:=r
  rw[List.set_cons_zero,List.set_cons_zero,Reps]
  exact⟨_,_,rfl,q,h2⟩
 | a::ds,vs,j+1,r=>by
  rw[Reps]at r
  obtain⟨w,r',rfl,h1,h2⟩:=r
  rw[List.set_cons_succ,List.set_cons_succ,Reps]
  exact⟨_,_,rfl,h1,Reps.setAt q j h2⟩
end
def dNf (x y:D):R D:=if good 60 x=true∧good 60 y=true then .ok (.bl (!eqD x y)) else .stuck
def rNf (K:PySem.W.Frag)(C:Nat→Addr):R2:=fun x y H Q=>∃ Z d e,Same Z H∧Rep K C Z d x∧Rep K C Z e y∧good 60 d=true∧good 60 e=true∧Q (.bl (!eqD d e)) H
section
variable {X:Cx}{F:Fx}{a b:Expr}{ga gb:SS→R D}{pos:Pos}{k:Nat}
theorem xj (hK:X.K=F.K)(hr:Room k X.A):OpR X (compareOp .NotEq) (rNf F.K F.C):=by
 intro pins s σ H x y v u Q I rx ry h
 obtain⟨Z,d,e,z,h1,h2,g1,g2,q⟩:=h
 have hu:X.A.units+60 < cLine:=by have:=hr.un;omega
 exact(eqB hK I z 60 X.A d e x y v u g1 g2 h1 h2 rx ry hu).2.2 X.prog X.w X.xe _ ⟨.bl (!eqD d e),H,I,rfl,q⟩
theorem t2:OpD F (rNf F.K F.C) dNf:=by
 intro H Z x y dx dy Q s rx ry w
 unfold dNf at w
 split at w
 ·rename_i g
  exact⟨Z,dx,dy,s,rx,ry,g.1,g.2,WG.now w s _ a7⟩
 ·exact w.elim
theorem t5 (bx:BX X F k)(ha:FE X F a ga)(hb:FE X F b gb):FE X F (.Compare a [.NotEq] [b] pos) (eOp dNf ga gb):=kM (xj bx.K bx.room) t2 ha hb
theorem cK (bx:BX X F k)(ha:FE X F a ga)(hb:FE X F b gb):FT X F (.Compare a [.NotEq] [b] pos) (gB (eOp dNf ga gb)):=eY (xj bx.K bx.room) t2 ha hb
end
def qTk (es:List Nat)(j:Nat):Bool:=es.contains j
theorem t6 {K:PySem.W.Frag}{C:Nat→Addr}{es:List Nat}(h:PySem.W.excIn K (C 0) bmVE "ValueError.__new__"=true)(hs:∀ j∈es,PySem.W.subIn K (.ref (C j)) (.ref (C 0))=some true):Takes K C (C 0) (qTk es) :=
 ⟨h,fun k e=>hs k (by simpa [qTk] using e)⟩
def rIndexI (K:PySem.W.Frag):V→List V→Hp→VK→Prop:=fun x vs H Q=>∃ (l:Addr) (is:List Int) (k:Int),x=.ref l∧vs=[.int k]∧SqL K H l (is.map V.int)∧is.idxOf k < is.length∧Q (.int (is.idxOf k:Nat)) H
theorem qX {X:Cx}{k:Nat}(hr:Room k X.A):MtR X "list.index" (rIndexI X.K):=by
 intro pins s σ H x vs v us Q I rx rv h
 obtain⟨l,is,k,rfl,rfl,hH,hj,q⟩:=h
 cases rx
 obtain⟨u,rfl,ru⟩:=rv.one
 obtain⟨tk,rfl⟩:=(show ∃ t,u=Value.int k t from ru)
 obtain⟨its,r,⟨⟨c2,d2,dt2,sl2⟩,n2,e2,p2,p3,p4⟩,z2⟩:=I.list hH
 obtain⟨ps,rfl,e⟩:=aT r
 simp only at p2 p3 p4
 subst p2 p3 p4
 have hl:ps.length=is.length:=by have:=congrArg List.length e;simpa using this
 rw[List.length_map,sizeLine_eq]at z2
 have hsz:is.idxOf k < (ps.map fun p=>Value.int p.1 p.2).toArray.size:=by rw[List.size_toArray,List.length_map,hl];exact hj
 have hat:∀ m (hm:m < (ps.map fun p=>Value.int p.1 p.2).toArray.size) (hm':m < is.length),isI k (ps.map fun p=>Value.int p.1 p.2).toArray[m]=(is[m]==k):=fun m hm hm'=>by
  subst e
  simp[isI]
 refine call_meets F.slot_list_index ⟨_,e2,rfl⟩ F.entry_list_index (F.args_list_index_2 _ _) (SeqAt.list_indexAt l _ n2 _ _ (.int k tk) (isI k) (is.idxOf k) hsz (by omega) ?_ ?_) ⟨e2,fun y hy=>?_,⟨.int _,H,I.tok _,⟨_,rfl⟩,q⟩⟩
 ·rw[hat _ _ hj]
  exact List.findIdx_getElem (w:=hj)
 ·intro m hm hlt
  have hm':m < is.length:=by omega
  rw[hat _ _ hm']
  exact Bool.eq_false_iff.mpr (by simpa using List.not_of_lt_findIdx hlt)
 ·have hy':y∈ps.map fun p=>Value.int p.1 p.2:=by simpa using hy
  obtain⟨b,_,rfl⟩:=List.mem_map.mp hy'
  exact kl I (by have:=hr.un;show X.A.units+1 < cLine;omega) b.1 k b.2 tk
section
variable {X:Cx}{F:Fx}{o e:Expr}{g:SS→R D}{gs:SS→R (List D)}{apos cpos:Pos}{k:Nat}
theorem kU:MethD F (rIndexI F.K) dIndexI:=by
 intro H Z a vs xs us es Q s h1 h2 rs w
 unfold dIndexI at w
 split at w
 ·rename_i k
  split at w
  ·rename_i is eb
   have e3:=a9 h2 eb
   subst e3
   split at w
   ·rename_i hl
    exact⟨a,is,k,rfl,pi rs,h1,hl,WG.now w s _ aF⟩
   ·exact w.elim
  ·exact w.elim
 ·exact w.elim
theorem qY (bx:BX X F k)(ho:FE X F o g)(ha:FA X F [e] gs)
  (hbase:attributeBase o "index" X.env (eval o X.env)=eval o X.env:=by rfl)
  (hfew:((backTo cpos (starEach [e] X.env)).all (fun x=>!x.1)&&(backToKw cpos (keywordEach [] X.env)).all (fun x=>x.1.isSome)
   && decide ([e].length+([]:List Keyword).length+(if ([]:List Keyword).isEmpty then 0 else 1) < 30))=true:=by rfl)
  (hline:(apos.endLine==cpos.line)=true:=by rfl) (hs:starEach [e] X.env=(false,eval e X.env)::starEach [] X.env:=by rfl) (hplain:(backTo cpos (starEach [] X.env)).any (·.1)=false:=by rfl) :
  FE X F (.Call (.Attribute o "index" apos) [e] [] cpos) (eMethL dIndexI g gs) :=
 (lN PySem.F.plainAttrs_list PySem.F.slot_list_index (by kernel_rfl) (qX bx.room) ho ha hbase hfew hline hs hplain).weak (by rw[bx.K];exact qQ kU)
end
end FF
end
noncomputable section
namespace FF
open PySem L2
inductive L (σ:Type) where
 | nx (s:σ) | rt (d:D) | er (k:Nat) | stuck
def lB {α σ:Type}(r:R α)(k:α→L σ):L σ:=match r with
 | .ok a=>k a
 | .err e=>.er e
 | .stuck=>.stuck
def lS {τ σ:Type}(l:L τ)(k:τ→L σ):L σ:=match l with
 | .nx s=>k s
 | .rt d=>.rt d
 | .er e=>.er e
 | .stuck=>.stuck
def lFor {α τ:Type}(f:τ→α→L τ):List α→τ→L τ
 | [],s=>.nx s
 | d::r,s=>lS (f s d) fun s'=>lFor f r s'
def lTry {τ σ:Type}(q:Nat→Bool)(l:L τ)(k:τ→L σ)(h:Nat→L σ):L σ:=match l with
 | .nx s=>k s
 | .rt d=>.rt d
 | .er e=>if q e=true then h e else .stuck
 | .stuck=>.stuck
def outL {σ:Type}(l:L σ):R D:=match l with
 | .nx _=>.ok .non
 | .rt d=>.ok d
 | .er k=>.err k
 | .stuck=>.stuck
section
variable {α τ σ:Type}
@[simp] theorem aM (a:α)(k:α→L σ):lB (.ok a) k=k a:=rfl
@[simp] theorem yf (e:Nat)(k:α→L σ):lB (.err e) k=.er e:=rfl
@[simp] theorem yS (k:α→L σ):lB .stuck k=.stuck:=rfl
@[simp] theorem bX (s:τ)(k:τ→L σ):lS (.nx s) k=k s:=rfl
@[simp] theorem yT (d:D)(k:τ→L σ):lS (.rt d) k=.rt d:=rfl
@[simp] theorem yU (e:Nat)(k:τ→L σ):lS (.er e) k=.er e:=rfl
@[simp] theorem yV (k:τ→L σ):lS .stuck k=.stuck:=rfl
@[simp] theorem iX (f:τ→α→L τ)(s:τ):lFor f [] s=.nx s:=rfl
theorem bn (f:τ→α→L τ)(d:α)(r:List α)(s:τ):lFor f (d::r) s=lS (f s d) fun s'=>lFor f r s':=rfl
@[simp] theorem zu (q:Nat→Bool)(s:τ)(k:τ→L σ)(h:Nat→L σ):lTry q (.nx s) k h=k s:=rfl
@[simp] theorem zv (q:Nat→Bool)(d:D)(k:τ→L σ)(h:Nat→L σ):lTry q (.rt d:L τ) k h=.rt d:=rfl
@[simp] theorem zw (q:Nat→Bool)(e:Nat)(k:τ→L σ)(h:Nat→L σ):lTry q (.er e:L τ) k h=if q e=true then h e else .stuck:=rfl
@[simp] theorem vV (s:σ):outL (.nx s)=.ok .non:=rfl
@[simp] theorem vW (d:D):outL (.rt d:L σ)=.ok d:=rfl
@[simp] theorem vX (k:Nat):outL (.er k:L σ)=.err k:=rfl
end
def rAnd (a b:R Bool):R Bool:=a.bind fun c=>if c=true then b else .ok false
def rOr (a b:R Bool):R Bool:=a.bind fun c=>if c=true then .ok true else b
def rNot (a:R Bool):R Bool:=a.bind fun c=>.ok (!c)
def vAnd (a b:R D):R D:=(asB a).bind fun c=>if c=true then b else .ok (.bl false)
def vOr (a b:R D):R D:=(asB a).bind fun c=>if c=true then .ok (.bl true) else b
def vNot (a:R D):R D:=(asB a).bind fun c=>.ok (.bl (!c))
def rIf (c:R Bool)(a b:R D):R D:=c.bind fun t=>if t=true then a else b
def rCh (f f':D→D→R D)(x y:D)(w:R D):R D:=(asB (f x y)).bind fun k=>if k=true then w.bind fun w=>f' y w else .ok (.bl false)
@[simp] theorem bG (b:Bool):asB (.ok (.bl b))=.ok b:=rfl
@[simp] theorem yg (b:R Bool):rAnd (.ok true) b=b:=rfl
@[simp] theorem yh (b:R Bool):rAnd (.ok false) b=.ok false:=rfl
@[simp] theorem yW (b:R Bool):rOr (.ok true) b=.ok true:=rfl
@[simp] theorem lZ (b:R Bool):rOr (.ok false) b=b:=rfl
@[simp] theorem kW (b:Bool):rNot (.ok b)=.ok (!b):=rfl
@[simp] theorem t7 (b:R D):vAnd (.ok (.bl true)) b=b:=rfl
@[simp] theorem yi (b:R D):vAnd (.ok (.bl false)) b=.ok (.bl false):=rfl
@[simp] theorem yX (b:R D):vOr (.ok (.bl true)) b=.ok (.bl true):=rfl
@[simp] theorem yY (b:R D):vOr (.ok (.bl false)) b=b:=rfl
@[simp] theorem vY (b:Bool):vNot (.ok (.bl b))=.ok (.bl (!b)):=rfl
@[simp] theorem yZ (a b:R D):rIf (.ok true) a b=a:=rfl
@[simp] theorem y3 (a b:R D):rIf (.ok false) a b=b:=rfl
def bA {α:Type}:List (R D)→(List D→R α)→R α
 | [],k=>k []
 | r::rs,k=>r.bind fun d=>bA rs fun ds=>k (d::ds)
def cGo (c:D→R Bool)(e:D→R D):List D→R (List D)
 | []=>.ok []
 | d::r=>match c d with
  | .ok true=>match e d with
   | .ok y=>match cGo c e r with
    | .ok ys=>.ok (y::ys)
    | _=>.stuck
   | _=>.stuck
  | .ok false=>cGo c e r
  | _=>.stuck
def cMap (e:D→R D)(xs:List D):R D:=(cGo (fun _=>.ok true) e xs).bind fun ys=>.ok (.lst ys)
def cFil (c:D→R Bool)(e:D→R D)(xs:List D):R D:=(cGo c e xs).bind fun ys=>.ok (.lst ys)
def un2 {α:Type}(d:D)(k:D→D→R α):R α:=match d with
 | .tup [a,b]=>k a b
 | _=>.stuck
def sq (d:D):R (List D):=(asSeq d).bind fun ds=>if ds.length≤16777216 then .ok ds else .stuck
def dInD (x y:D):R D:=match y with
 | .tup ds=>if good 60 x=true∧goods 60 ds=true then .ok (.bl (ds.any fun e=>eqD e x)) else .stuck
 | .lst ds=>if good 60 x=true∧goods 60 ds=true then .ok (.bl (ds.any fun e=>eqD e x)) else .stuck
 | _=>.stuck
def dNotInD (x y:D):R D:=(asB (dInD x y)).bind fun k=>.ok (.bl (!k))
def dList:List D→R D
 | [.lst xs]=>.ok (.lst xs)
 | [.tup xs]=>.ok (.lst xs)
 | _=>.stuck
def dLenSet:List D→R D
 | [.lst xs]=>match intsOf xs with
  | some is=>if is.length≤4000 then .ok (.int (is.eraseDups.length:Nat)) else .stuck
  | none=>.stuck
 | _=>.stuck
def dRev (d:D):R D:=match d with
 | .lst xs=>.ok (.lst xs.reverse)
 | .tup xs=>.ok (.tup xs.reverse)
 | _=>.stuck
def dMin2:List D→R D
 | [.int i,.int j]=>.ok (.int (if j < i then j else i))
 | _=>.stuck
def dIntB:List D→R D
 | [.bl b]=>.ok (.int (if b then 1 else 0))
 | _=>.stuck
def onF {α:Type}(fs:List Nat)(f:D)(k:Nat→R α):R α:=match f with
 | .fn i=>if fs.contains i=true then k i else .stuck
 | _=>.stuck
def onL {α:Type}(d:D)(k:List D→R α):R α:=match d with
 | .lst xs=>k xs
 | _=>.stuck
def onT {α:Type}(d:D)(k:List D→R α):R α:=match d with
 | .tup xs=>k xs
 | _=>.stuck
def dNeg (d:D):R D:=match d with
 | .int i=>.ok (.int (-i))
 | _=>.stuck
def oIx (ds:List D)(i:D):R D:=match i with
 | .int j=>match atI ds j with
  | some d=>.ok d
  | none=>.stuck
 | _=>.stuck
def oApp (ds:List D)(v:D):R (List D):=if ds.length < 16777216 then .ok (ds++[v]) else .stuck
def oExt (ds:List D)(v:D):R (List D):=match v with
 | .lst xs=>if ds.length+xs.length≤16777216 then .ok (ds++xs) else .stuck
 | .tup xs=>if ds.length+xs.length≤16777216 then .ok (ds++xs) else .stuck
 | _=>.stuck
def a0 (k:L Unit):List D→R D
 | []=>outL k
 | _=>.stuck
def a1 (k:D→L Unit):List D→R D
 | [a]=>outL (k a)
 | _=>.stuck
def a2 (k:D→D→L Unit):List D→R D
 | [a,b]=>outL (k a b)
 | _=>.stuck
def a3 (k:D→D→D→L Unit):List D→R D
 | [a,b,c]=>outL (k a b c)
 | _=>.stuck
def a4 (k:D→D→D→D→L Unit):List D→R D
 | [a,b,c,d]=>outL (k a b c d)
 | _=>.stuck
def a5 (k:D→D→D→D→D→L Unit):List D→R D
 | [a,b,c,d,e]=>outL (k a b c d e)
 | _=>.stuck
def a6 (k:D→D→D→D→D→D→L Unit):List D→R D
 | [a,b,c,d,e,f]=>outL (k a b c d e f)
 | _=>.stuck
end FF
end
noncomputable section
namespace FF
open PySem PySem.Spec PyProof.Rows L2
section
variable {X:Cx}{F:Fx}{e:Expr}{es:List Expr}{g:SS→R D}{gs:SS→R (List D)}
end
section
variable {α τ σ W:Type}
def WL (F:Fx)(Z:Hp)(J:σ→SS→Prop)(l:L σ)(D:Ends):Prop:=match l with
 | .nx s=>∀ S ρ H Z',J s S→Same Z Z'→StOk F H Z' S ρ→D.nx ρ H
 | .rt d=>∀ v H Z',Ex F.H0 F.Z0 H Z'→Rep F.K F.C Z' d v→D.rt v H
 | .er k=>∀ H,Same F.H0 H→F.E (.ref (F.C k)) none H
 | .stuck=>False
theorem WL.more {F:Fx}{Z Z1:Hp}{J:σ→SS→Prop}{l:L σ}{D:Ends}(w:WL F Z J l D)(z:Same Z Z1):WL F Z1 J l D:=by
 cases l with
 | nx s=>exact fun S ρ H Z' j q=>w S ρ H Z' j (z.trans q)
 | rt d=>exact w
 | er k=>exact w
 | stuck=>exact w
def tL (F:Fx)(S:SS)(J:σ→SS→Prop)(l:L σ):TS:=fun D ρ H=>∃ Z,StOk F H Z S ρ∧WL F Z J l D
abbrev FL (X:Cx)(F:Fx)(S:SS)(sts:List Stmt)(J:σ→SS→Prop)(l:L σ):Prop:=PSs X sts (tL F S J l)
abbrev FL1 (X:Cx)(F:Fx)(S:SS)(st:Stmt)(J:σ→SS→Prop)(l:L σ):Prop:=PS X st (tL F S J l)
def JX (inj:τ→W→SS):τ→SS→Prop:=fun s S=>∃ w,S=inj s w
def JU:Unit→SS→Prop:=fun _ _=>True
abbrev vv (d:D):Option Sl:=some (.val d)
abbrev ow (ds:List D):Option Sl:=some (.own ds)
abbrev nn:Option Sl:=none
variable {X:Cx}{F:Fx}{S:SS}{st:Stmt}{rest:List Stmt}{J:σ→SS→Prop}{J1:τ→SS→Prop}
theorem kX {sts:List Stmt}{t:α→TS}(h:∀ a,PSs X sts (t a)):PSs X sts (fun D ρ H=>∃ a,t a D ρ H):=fun pins s ρ H D I ⟨a,w⟩=>h a pins s ρ H D I w
theorem WL.wg {D:Ends}{r:R α}{k:α→L σ}{H Z:Hp}{ρ:St}(ok:StOk F H Z S ρ)(w:WL F Z J (lB r k) D):WG F H Z r fun a _ Z'=>WL F Z' J (k a) D:=by
 cases r with
 | ok o=>exact fun _ _ x=>WL.more w x.z
 | err k=>exact fun H' s=>w H' (ok.ex.same.trans s)
 | stuck=>exact w
theorem ar {s:σ}(h:J s S):FL X F S [] J (.nx s):=vn.weak fun D ρ H ⟨Z,ok,w⟩=>w S ρ H Z h (Same.refl _) ok
theorem ah {g:SS→O}{r:R α}{S':α→SS}{k:α→L σ}(h:FS X F st g)(hg:g S=rO (r.bind fun a=>.ok (.nx (S' a))))(hk:∀ a,FL X F (S' a) rest J (k a)):FL X F S (st::rest) J (lB r k) :=
 (dF h (kX hk)).weak fun D ρ H ⟨Z,ok,w⟩=>⟨Z,S,ok,by
  rw[hg]
  cases r with
  | ok a=>exact fun ρ' H' Z' z ok'=>⟨a,Z',ok',WL.more w z⟩
  | err k=>exact w
  | stuck=>exact w⟩
theorem aY {g:SS→O}{S':SS}{l:L σ}(h:FS X F st g)(hg:g S=.nx S')(hk:FL X F S' rest J l):FL X F S (st::rest) J l :=
 (dF h hk).weak fun D ρ H ⟨Z,ok,w⟩=>⟨Z,S,ok,by rw[hg];exact fun ρ' H' Z' z ok'=>⟨Z',ok',WL.more w z⟩⟩
theorem az {g:SS→R D}{r:R D}(h:FS X F st (sRet g))(hr:g S=r):FL X F S (st::rest) J (lB r .rt) :=
 (dF h j0).weak fun D ρ H ⟨Z,ok,w⟩=>⟨Z,S,ok,by
  unfold sRet
  rw[hr]
  cases r with
  | ok a=>exact w
  | err k=>exact w
  | stuck=>exact w⟩
theorem aB {g:SS→R D}{v:D}(h:FS X F st (sRet g))(hr:g S=.ok v):FL X F S (st::rest) J (.rt v):=az h hr
theorem t8 {g:SS→O}{k:Nat}(h:FS X F st g)(hg:g S=.er k):FL X F S (st::rest) J (.er k) :=
 (dF h j0).weak fun D ρ H ⟨Z,ok,w⟩=>⟨Z,S,ok,by rw[hg];exact w⟩
theorem nR (i:Nat){ds:List D}{S':SS}{sts:List Stmt}{l:L σ}(hi:S[i]?=some (some (.own ds)))(hS:S.set i (some (.val (.lst ds)))=S')(h:FL X F S' sts J l):FL X F S sts J l :=
 h.weak fun D ρ H ⟨Z,ok,w⟩=>by
  obtain⟨Z',z,ok'⟩:=ok.freeze hi
  rw[hS]at ok'
  exact⟨Z',ok',WL.more w z⟩
theorem aD {c:Expr}{a b:List Stmt}{pos:Pos}{gt:SS→R Bool}{r:R Bool}{A B:L σ}(hc:FT X F c gt)(hr:gt S=r)(ha:FL X F S a J A)(hb:FL X F S b J B):FL1 X F S (.If c a b pos) J (lB r fun t=>if t=true then A else B) :=
 (yJ hc ha hb).weak fun D ρ H ⟨Z,ok,w⟩=>d7 (P:=fun t _ Z'=>WL F Z' J (if t=true then A else B) D) ok (by
  rw[hr]
  have:=WL.wg ok w
  cases r<;>exact this) fun t H1 Z1 ok1 x1 w1=>by
  have w2:=WG.now w1 ok1.sub
  cases t with
  | true=>exact⟨Z1,ok1,w2⟩
  | false=>exact⟨Z1,ok1,w2⟩
theorem nU {l:L σ}(h:FL1 X F S st J l):FL X F S [st] J l:=vo h
theorem ax {l:L τ}{k:τ→L σ}{inj:τ→W→SS}(h:FL1 X F S st (JX inj) l)(hk:∀ s w,FL X F (inj s w) rest J (k s)):FL X F S (st::rest) J (lS l k) :=
 (dF h (kX (fun s=>kX fun w=>hk s w))).weak fun D ρ H ⟨Z,ok,w⟩=>⟨Z,ok,by
  cases l with
  | nx s=>exact fun S' ρ' H' Z' ⟨x,e⟩ z ok'=>⟨s,x,Z',by rw[← e];exact ok',WL.more w z⟩
  | rt d=>exact w
  | er k=>exact w
  | stuck=>exact w⟩
end
section
variable {σ τ W:Type}{X:Cx}{F:Fx}{S:SS}{tg iter:Expr}{body:List Stmt}{pos:Pos}{git:SS→R (List D)}{g:D→SS→R SS}{inj:τ→W→SS}{step:τ→D→L τ}
theorem t9 {r:R (List D)}{s0:τ}(w0:W)(hp:PassesOwn (model X.prog X.w) X.A X.env X.xe)(hc:X.calm=true)(hi:FI X F tg iter git)(hr:git S=r)(hg:FG X F tg g)
  (hb:∀ s w x S1,g x (inj s w)=.ok S1→FL X F S1 body (JX inj) (step s x)) (hno:∀ s w x k,g x (inj s w)≠.err k) (hst:∀ s w x,g x (inj s w)=.stuck→step s x=.stuck)
  (hS:S=inj s0 w0) (hs:∀ x,foldedSetIterable iter X.env x=pure x:=by intro _;rfl):FL1 X F S (.For tg iter body [] pos) (JX inj) (lB r fun xs=>lFor step xs s0):=by
 have hbb:PSs X body (fun D ρ H=>∃ (q:τ×W×FF.D×SS) (_:g q.2.2.1 (inj q.1 q.2.1)=.ok q.2.2.2),tL F q.2.2.2 (JX inj) (step q.1 q.2.2.1) D ρ H):=fun pins s ρ H D I ⟨q,e,w⟩=>hb q.1 q.2.1 q.2.2.1 q.2.2.2 e pins s ρ H D I w
 refine(xE hp hc hi hg hbb hs).weak fun D ρ H ⟨Z,ok,w⟩=>?_
 refine⟨Z,S,ok,?_⟩
 have w00:=WL.wg ok w
 rw[hr]
 cases r with
 | err k=>exact w00
 | stuck=>exact w00
 | ok ds =>
  intro H1 Z1 x1
  have w1:=w00 H1 Z1 x1
  intro J wk _
  refine⟨fun i m ρ H=>m=ds.length - i∧i≤ds.length∧∃ Z2 s w,StOk F H Z2 (inj s w) ρ∧Same Z1 Z2∧WL F Z2 (JX inj) (lFor step (ds.drop i) s) D,⟨ds.length,rfl,Nat.zero_le _,Z1,s0,w0,by rw[← hS];exact ok.more x1,Same.refl _,w1⟩,?_⟩
  rintro i m ρ2 H2 ⟨rfl,hle,Z2,s,w2,ok2,z2,wl2⟩
  obtain⟨k1,k2⟩:=wk i H2 Z2 z2 ok2.sub
  by_cases hlt:i < ds.length
  ·obtain⟨go,y⟩:=k1 hlt
   refine .inr ⟨go,fun ρ' H'=>∃ Z3 s3 w3,StOk F H' Z3 (inj s3 w3) ρ'∧Same Z1 Z3∧WL F Z3 (JX inj) (lFor step (ds.drop (i+1)) s3) D,fun ρ' H' ⟨Z3,s3,w3,q⟩=>⟨ds.length - (i+1),by omega,rfl,hlt,Z3,s3,w3,q⟩,fun x H' hy=>?_⟩
   obtain⟨Z2',d,x',e3,rd⟩:=y x H' hy
   have ok2:=ok2.more x'
   have hd:ds.drop i=d::ds.drop (i+1):=by
    obtain⟨hi,e4⟩:=List.getElem?_eq_some_iff.mp e3
    rw[List.drop_eq_getElem_cons hi,e4]
   rw[hd,bn]at wl2
   refine⟨Z2',inj s w2,d,ok2,rd,?_⟩
   cases q:g d (inj s w2) with
   | err k=>exact absurd q (hno s w2 d k)
   | stuck=>rw[hst s w2 d q]at wl2;exact wl2
   | ok S1 =>
    intro H4 Z4 x4 ρ4 ok4
    refine⟨⟨s,w2,d,S1⟩,q,Z4,ok4,?_⟩
    have z14:Same Z1 Z4:=(z2.trans x'.z).trans x4.z
    cases qb:step s d with
    | nx s5 =>
     rw[qb]at wl2
     exact fun S5 ρ5 H5 Z5 ⟨w5,e5⟩ z5 ok5=>⟨Z5,s5,w5,by rw[← e5];exact ok5,z14.trans z5,WL.more wl2 ((x'.z.trans x4.z).trans z5)⟩
    | rt d=>rw[qb]at wl2;exact wl2
    | er k=>rw[qb]at wl2;exact wl2
    | stuck=>rw[qb]at wl2;exact wl2
  ·refine .inl ⟨k2 (by omega),?_⟩
   rw[List.drop_eq_nil_of_le (by omega)]at wl2
   exact wl2 (inj s w2) ρ2 H2 Z2 ⟨w2,rfl⟩ (Same.refl _) ok2
theorem aR (i:Nat){r:R (List D)}{s0:τ}{B:τ→W→D→SS}(w0:W)(hp:PassesOwn (model X.prog X.w) X.A X.env X.xe)(hc:X.calm=true)(hi:FI X F tg iter git)(hr:git S=r)(hg:FG X F tg (gNm i))
  (hS:S=inj s0 w0) (hB:∀ s w x,(inj s w).set i (some (.val x))=B s w x) (hb:∀ s w x,FL X F (B s w x) body (JX inj) (step s x))
  (hs:∀ x,foldedSetIterable iter X.env x=pure x:=by intro _;rfl):FL1 X F S (.For tg iter body [] pos) (JX inj) (lB r fun xs=>lFor step xs s0) :=
 t9 w0 hp hc hi hr hg (fun s w x S1 e=>by cases e;rw[hB];exact hb s w x) (fun s w x k e=>nomatch e) (fun s w x e=>nomatch e) hS hs
end
section
variable {σ τ W:Type}{X:Cx}{F:Fx}{S:SS}{rest:List Stmt}{J:σ→SS→Prop}{k:Nat}
end
section
variable {σ τ W:Type}{S:SS}{X:Cx}{F:Fx}{body:List Stmt}{g:SS→O}{c n y:Str}{np np2 kp apos hpos pos:Pos}{k:Nat}{q:Nat→Bool}{C0:Addr}
end
section
variable {σ τ W:Type}{X:Cx}{F:Fx}{S:SS}{rest:List Stmt}{J:σ→SS→Prop}
end
section
variable {X:Cx}{F:Fx}{e:Expr}{es:List Expr}{g g':SS→R D}{gs:List (SS→R D)}{k:Nat}{f:List D→R D}{pos:Pos}
theorem d9 (h:FE X F e g)(hg:∀ S,g S=g' S):FE X F e g':=by
 have:g=g':=funext hg
 rw[← this];exact h
theorem eg {st:Stmt}{g g':SS→O}(h:FS X F st g)(hg:∀ S,g S=g' S):FS X F st g':=by
 have:g=g':=funext hg
 rw[← this];exact h
def aL:List (SS→R D)→SS→R (List D)
 | []=>aNil
 | g::gs=>aCons g (aL gs)
def eBA {α:Type}(f:List D→R α)(gs:List (SS→R D)):SS→R α:=fun S=>bA (gs.map fun g=>g S) f
theorem cf {α β:Type}{r:R α}{f f':α→R β}(h:∀ a,f a=f' a):r.bind f=r.bind f':=by cases r<;>first | exact h _ | rfl
theorem bZ {α:Type}(S:SS):∀ (gs:List (SS→R D)) (f:List D→R α),(aL gs S).bind f=eBA f gs S
 | [],f=>rfl
 | g::gs,f=>by
  show ((g S).bind fun d=>(aL gs S).bind fun ds=>R.ok (d::ds)).bind f=(g S).bind fun d=>bA (gs.map fun g=>g S) fun ds=>f (d::ds)
  rw[R.bind_assoc]
  refine cf fun d=>?_
  rw[R.bind_assoc]
  exact bZ S gs fun ds=>f (d::ds)
theorem gE {S:SS}:∀ {gs:List (SS→R D)} {ds:List D},aL gs S=.ok ds→ds.length=gs.length
 | [],ds,h=>by cases h;rfl
 | g::gs,ds,h=>qK (fun S' ds' h'=>by
   by_cases q:S'=S
   ·subst q;exact gE h'
   ·exact gE h') S ds h
structure FAL (X:Cx)(F:Fx)(es:List Expr)(gs:List (SS→R D)):Prop where
 out:FA X F es (aL gs)
theorem ad:FAL X F [] []:=⟨sZ⟩
theorem aa (ha:FE X F e g)(hr:FAL X F es gs)(hs:starEach (e::es) X.env=(false,eval e X.env)::starEach es X.env:=by rfl):FAL X F (e::es) (g::gs):=⟨o8 ha hr.out hs⟩
theorem fe_N (h:FE X F e (eCall f (aL gs))):FE X F e (eBA f gs):=d9 h fun S=>bZ S gs f
theorem ae {x:Str}{p:Pos}{ps:List Str}(b:BX X F k)(h:Fn1 X.prog X.w F.K X.mg X.base F.C k x ps f)(hg:Gl X x)(ha:FAL X F (e::es) gs)(hn:gs.length=ps.length:=by rfl)(hdb:(x==("__debug__":Str))=false:=by decide)
  (he:starEach (e::es) X.env=(false,eval e X.env)::starEach es X.env:=by rfl) (hpl:(backTo pos (starEach es X.env)).any (·.1)=false:=by rfl):FE X F (.Call (.Name x p) (e::es) [] pos) (eBA f gs) :=
 fe_N (vN b h hg ha.out (fun S ds q=>(gE q).trans hn) hdb he hpl)
theorem aQ {x1}(h:FAL X F es gs)(hl:gs.length≤16777216:=by exact Nat.le_of_ble_eq_true rfl):FE X F (.Tuple es x1 pos) (eBA (fun ds=>.ok (.tup ds)) gs) :=
 d9 (xT h.out) fun S=>by
  rw[← bZ]
  show (aL gs S).bind _=_
  cases q:aL gs S with
  | ok ds=>show (if ds.length≤16777216 then R.ok (FF.D.tup ds) else R.stuck)=_;rw[if_pos (by rw[gE q];exact hl)];rfl
  | err k=>rfl
  | stuck=>rfl
theorem bc (h:FAL X F es gs)(hl:gs.length≤16777216:=by exact Nat.le_of_ble_eq_true rfl):FE X F (.List es pos) (eBA (fun ds=>.ok (.lst ds)) gs) :=
 d9 (xU h.out) fun S=>by
  rw[← bZ]
  show (aL gs S).bind _=_
  cases q:aL gs S with
  | ok ds=>show (if ds.length≤16777216 then R.ok (FF.D.lst ds) else R.stuck)=_;rw[if_pos (by rw[gE q];exact hl)];rfl
  | err k=>rfl
  | stuck=>rfl
end
section
variable {X:Cx}{F:Fx}{k:Nat}{e f:Expr}{es:List Expr}{p pos:Pos}{x:Str}
theorem y4 {i:Nat}(hm:X.mg x=some (.ref (F.C i)))(hg:Gl X x)(hd:(x==("__debug__":Str))=false:=by decide):FE X F (.Name x pos) (eC (.fn i)) :=
 d8 (iz (v:=.ref (F.C i)) hg hm rfl hd) fun _=>by rw[Rep]
theorem ua {CX:CXT}{E:XK}{tf:TE}{t:TA}(hf:PE X f tf)(hr:Room k X.A)(hx:Passes CX X E)(ha:PA X (e::es) t)
  (hev:eval (.Call f (e::es) [] pos) X.env=(do callWith pos (← eval f X.env) [] (backTo pos (starEach (e::es) X.env)) (backToKw pos (keywordEach [] X.env))):=by rfl)
  (he:starEach (e::es) X.env=(false,eval e X.env)::starEach es X.env:=by rfl) (hpl:(backTo pos (starEach es X.env)).any (·.1)=false:=by rfl) :
  PE X (.Call f (e::es) [] pos) (fun σ H Q=>tf σ H fun v H1=>∃ a fd ps sp,v=.ref a∧FnOk X.prog X.w X.K X.mg X.base CX k a fd ps sp∧PySem.W.keepIn X.K (.ref a)=true∧Binds X.K fd ps []∧t σ H1 fun vs H2=>sp (vs++[]) H2 Q E):=by
 intro pins s σ H Q I h
 rw[hev]
 refine wpAny_bind (thn (hf pins s σ H _ I h) fun u s1 ⟨v,H1,I1,r,a,fd,ps,sp,ev,FO,hk,hb,q⟩=>?_)
 subst ev
 cases r
 refine PySem.W.callWith_K I1.ok.mod.kin hk (thn (ha pos pins s1 σ H1 _ I1 q) fun us s2 ⟨vs,H2,I2,r2,q2⟩=>⟨I2.kIn,?_⟩) he hpl
 exact sP FO hr hb .nil hx I2 r2 q2
structure FnV (P:Program)(w:World)(K:PySem.W.Frag)(mg:Str→Option Value)(base:Heap)(C:Nat→Addr)(k:Nat)(i:Nat)(f:List D→R D):Prop where
 ex:∃ fd ps,FnOk P w K mg base (CXE P w) k (C i) fd ps (spF K C ps.length f)∧PySem.W.keepIn K (.ref (C i))=true∧Binds K fd ps []∧∀ ds,ds.length≠ps.length→f ds=.stuck
def eCV (fs:List Nat)(t:Nat→List D→R D)(gf:SS→R D)(gs:List (SS→R D)):SS→R D:=fun S=>(gf S).bind fun f=>onF fs f fun i=>bA (gs.map fun g=>g S) (t i)
theorem ub {fs:List Nat}{t:Nat→List D→R D}{gf:SS→R D}{gs:List (SS→R D)}(b:BX X F k)(hT:∀ i∈fs,FnV X.prog X.w F.K X.mg X.base F.C k i (t i))(hf:FE X F f gf)(ha:FAL X F (e::es) gs)
  (hev:eval (.Call f (e::es) [] pos) X.env=(do callWith pos (← eval f X.env) [] (backTo pos (starEach (e::es) X.env)) (backToKw pos (keywordEach [] X.env))):=by rfl)
  (he:starEach (e::es) X.env=(false,eval e X.env)::starEach es X.env:=by rfl) (hpl:(backTo pos (starEach es X.env)).any (·.1)=false:=by rfl) :
  FE X F (.Call f (e::es) [] pos) (eCV fs t gf gs) :=
 (ua hf b.room b.pass ha.out hev he hpl).weak fun σ H Q ⟨Z,S,ok,w⟩=>by
  refine aA ok w fun d v H1 Z1 ok1 x1 rv w1=>?_
  cases d with
  | fn i =>
   by_cases hi:fs.contains i=true
   ·rw[Rep]at rv
    obtain⟨fd,ps,h1,h2,h3,h4⟩:=(hT i (by simpa using hi)).ex
    refine⟨F.C i,fd,ps,_,rv,by rw[b.K];exact h1,by rw[b.K];exact h2,by rw[b.K];exact h3,?_⟩
    have e0:onF fs (.fn i) (fun i=>bA (gs.map fun g=>g S) (t i))=(aL gs S).bind (t i):=by
     rw[bZ]
     show (if fs.contains i=true then _ else R.stuck)=_
     rw[if_pos hi];rfl
    rw[e0]at w1
    refine aO ok1 w1 fun ds vs H2 Z2 ok2 x2 rs w4=>?_
    by_cases hl:ds.length=ps.length
    ·refine⟨by rw[List.append_nil,← rs.length];exact hl,Z2,ds,ok2.sub,by rw[List.append_nil];exact rs,?_⟩
     cases q:t i ds with
     | ok d=>rw[q]at w4;exact w4
     | err k=>rw[q]at w4;exact w4
     | stuck=>rw[q]at w4;exact w4
    ·rw[h4 ds hl]at w4;exact w4.elim
   ·have e0:onF fs (.fn i) (fun i=>bA (gs.map fun g=>g S) (t i))=.stuck:=by
     show (if fs.contains i=true then _ else R.stuck)=_
     rw[if_neg hi]
    rw[e0]at w1
    exact w1.elim
  | _=>exact w1.elim
end
theorem l0 {S:SS}{g:D→SS→R SS}{c:SS→R Bool}{e:SS→R D}:∀ ds,noErr (compGo S g c e ds)=cGo (fun d=>(g d S).bind c) (fun d=>(g d S).bind e) ds
 | []=>rfl
 | d::r=>by
  have ih:=l0 (S:=S) (g:=g) (c:=c) (e:=e) r
  rw[cGo,compGo]
  cases q:g d S with
  | err k=>rfl
  | stuck=>rfl
  | ok S1 =>
   show noErr ((c S1).bind fun t=>if t=true then (e S1).bind fun y=>(compGo S g c e r).bind fun ys=>.ok (y::ys) else compGo S g c e r)=(match c S1 with
    | .ok true=>match e S1 with
     | .ok y=>match cGo _ _ r with
      | .ok ys=>.ok (y::ys)
      | _=>.stuck
     | _=>.stuck
    | .ok false=>cGo _ _ r
    | _=>.stuck)
   cases qc:c S1 with
   | err k=>rfl
   | stuck=>rfl
   | ok t =>
    cases t with
    | false=>exact ih
    | true =>
     cases qe:e S1 with
     | err k=>rfl
     | stuck=>rfl
     | ok y =>
      rw[← ih]
      cases compGo S g c e r<;>rfl
def eCC (own:Nat)(cap:List Nat)(it:SS→R (List D))(g:D→SS→R SS)(c:SS→R Bool)(e:SS→R D):SS→R D:=fun S=>(it S).bind fun ds=>(cGo (fun d=>(g d (blkS own cap S)).bind c) (fun d=>(g d (blkS own cap S)).bind e) ds).bind fun ys=>.ok (.lst ys)
theorem l3 {own:Nat}{cap:List Nat}{it:SS→R (List D)}{g:D→SS→R SS}{c:SS→R Bool}{e:SS→R D}(S:SS):eComp own cap it g c e S=eCC own cap it g c e S:=by
 unfold eComp eCC
 exact cf fun ds=>by rw[l0]
theorem fe_C {X:Cx}{F:Fx}{e:Expr}{own:Nat}{cap:List Nat}{it:SS→R (List D)}{g:D→SS→R SS}{c:SS→R Bool}{el:SS→R D}(h:FE X F e (eComp own cap it g c el)):FE X F e (eCC own cap it g c el):=d9 h l3
theorem fs_C {X:Cx}{F:Fx}{st:Stmt}{n own:Nat}{cap:List Nat}{it:SS→R (List D)}{g:D→SS→R SS}{c:SS→R Bool}{el:SS→R D}(h:FS X F st (sSet n (eComp own cap it g c el))):FS X F st (sSet n (eCC own cap it g c el)):=eg h fun S=>by unfold sSet;rw[l3]
section
variable {X:Cx}{F:Fx}{st:Stmt}{i:Nat}{g:SS→R D}
def sAppC (i:Nat)(g:SS→R D):SS→O:=fun S=>match S[i]? with
 | some (some (.own ds))=>rO (((g S).bind fun v=>oApp ds v).bind fun ds'=>.ok (.nx (S.set i (some (.own ds')))))
 | _=>.stuck
theorem l4 {α:Type}(r:R D)(f:List D→R α):((r.bind fun d=>(R.ok []:R (List D)).bind fun ds=>R.ok (d::ds)).bind f)=r.bind fun d=>f [d]:=by cases r<;>rfl
theorem fs_A (h:FS X F st (sApp i (aL [g]))):FS X F st (sAppC i g):=eg h fun S=>by
 unfold sApp sAppC
 cases q:S[i]? with
 | none=>rfl
 | some o =>
  cases o with
  | none=>rfl
  | some x =>
   cases x with
   | val d=>rfl
   | mat m=>rfl
   | dic m=>rfl
   | dit m=>rfl
   | dir m=>rfl
   | own ds =>
    show rO (((g S).bind fun d=>(R.ok []:R (List D)).bind fun ds=>R.ok (d::ds)).bind _)=rO _
    rw[l4,R.bind_assoc]
    refine congrArg rO (cf fun v=>?_)
    unfold oApp
    show (if _ then _ else _)=_
    split<;>rfl
def sExtC (i:Nat)(g:SS→R D):SS→O:=fun S=>match S[i]? with
 | some (some (.own ds))=>rO (((g S).bind fun v=>oExt ds v).bind fun ds'=>.ok (.nx (S.set i (some (.own ds')))))
 | _=>.stuck
theorem fs_X (h:FS X F st (sExt i (aL [g]))):FS X F st (sExtC i g):=eg h fun S=>by
 unfold sExt sExtC
 cases q:S[i]? with
 | none=>rfl
 | some o =>
  cases o with
  | none=>rfl
  | some x =>
   cases x with
   | val d=>rfl
   | mat m=>rfl
   | dic m=>rfl
   | dit m=>rfl
   | dir m=>rfl
   | own ds =>
    show rO (((g S).bind fun d=>(R.ok []:R (List D)).bind fun ds=>R.ok (d::ds)).bind _)=rO _
    rw[l4,R.bind_assoc]
    refine congrArg rO (cf fun v=>?_)
    unfold oExt
    cases v with
    | lst xs=>by_cases hl:ds.length+xs.length≤16777216<;>simp[hl]
    | tup xs=>by_cases hl:ds.length+xs.length≤16777216<;>simp[hl]
    | _=>rfl
def sOwnC (i:Nat)(gs:List (SS→R D)):SS→O:=fun S=>rO ((eBA .ok gs S).bind fun ds=>.ok (.nx (S.set i (some (.own ds)))))
theorem fs_O {gs:List (SS→R D)}(h:FS X F st (sOwn i (aL gs)))(hl:gs.length≤16777216:=by exact Nat.le_of_ble_eq_true rfl):FS X F st (sOwnC i gs):=eg h fun S=>by
 unfold sOwn sOwnC
 rw[← bZ,R.bind_assoc]
 refine congrArg rO ?_
 cases q:aL gs S with
 | ok ds=>show (if ds.length≤16777216 then _ else _)=_;rw[if_pos (by rw[gE q];exact hl)];rfl
 | err k=>rfl
 | stuck=>rfl
end
section
variable {X:Cx}{F:Fx}{e tg:Expr}{g ga:SS→R D}{f:List D→List D→R D}{gs:List (SS→R D)}
def eML (f:List D→List D→R D)(g:SS→R D)(gs:List (SS→R D)):SS→R D:=fun S=>(g S).bind fun d=>onL d fun xs=>bA (gs.map fun g=>g S) (f xs)
theorem y6 (h:FE X F e (eMethL f g (aL gs))):FE X F e (eML f g gs):=d9 h fun S=>by
 unfold eMethL eML
 refine cf fun d=>?_
 cases d with
 | lst xs=>exact bZ S gs (f xs)
 | _=>rfl
def eMT (f:List D→List D→R D)(g:SS→R D)(gs:List (SS→R D)):SS→R D:=fun S=>(g S).bind fun d=>onT d fun xs=>bA (gs.map fun g=>g S) (f xs)
theorem y8 (h:FE X F e (eMethT f g (aL gs))):FE X F e (eMT f g gs):=d9 h fun S=>by
 unfold eMethT eMT
 refine cf fun d=>?_
 cases d with
 | tup xs=>exact bZ S gs (f xs)
 | _=>rfl
theorem vZ {g g':SS→R (List D)}(h:FI X F tg e g)(hg:∀ S,g S=g' S):FI X F tg e g':=by
 have:g=g':=funext hg
 rw[← this];exact h
theorem aW (h:FI X F tg e (iRange1 (aL gs))):FI X F tg e (eBA rng1 gs):=vZ h fun S=>bZ S gs rng1
end
theorem y9 {k:D→L Unit}{ds:List D}(h:ds.length≠1):a1 k ds=.stuck:=by
 match ds,h with
 | [],_=>rfl
 | [_],h=>exact absurd rfl h
 | _::_::_,_=>rfl
section
variable {σ:Type}{X:Cx}{F:Fx}{S:SS}{st:Stmt}{rest:List Stmt}{J:σ→SS→Prop}
end
section
variable {P:Program}{w:World}{K:PySem.W.Frag}{mg:Str→Option Value}{base:Heap}
theorem v4 {x qual:Str}{st:Stmt}{f:Addr}{fd:FuncData}{N ps:List Str}{k:Nat}{C:Nat→Addr}{fn:List D→R D}(F:Fun K x qual st f fd)(S:FnScope N ps (defScope st))
  (h:∀ (cdv:Value) (A:Around) (outer:List Env) (s:Shared) (H Z:Hp) (E:XK),BX (bodyX P w K mg base N qual (defScope st) f cdv A outer s H E) ⟨K,C,H,Z,E⟩ k →
   PassesOwn (model P w) (bodyX P w K mg base N qual (defScope st) f cdv A outer s H E).A (bodyX P w K mg base N qual (defScope st) f cdv A outer s H E).env (bodyX P w K mg base N qual (defScope st) f cdv A outer s H E).xe →
   MadeX (bodyX P w K mg base N qual (defScope st) f cdv A outer s H E) ⟨K,C,H,Z,E⟩ →
   ∀ ds,ds.length=ps.length→∃ l:L Unit,fn ds=outL l∧FL (bodyX P w K mg base N qual (defScope st) f cdv A outer s H E) ⟨K,C,H,Z,E⟩ (startS N.length ds) (defBody st) JU l) :
  FnOk P w K mg base (CXE P w) (k+1) f fd ps (spF K C ps.length fn):=by
 obtain⟨oc,od,kV,doc,pm,an,cdv,ct,osl,rfl,lk,hcd⟩:=F.ex
 refine sQ lk hcd S (fun vs H Q E q=>q.1) fun A outer s H vs Q E hr hsp=>?_
 obtain⟨hv,Z,ds,z,r,w⟩:=hsp
 obtain⟨l,e,hl⟩:=h cdv A outer s H Z E ⟨hr,rfl,rfl,j7⟩ PassesOwn.leaving (fun pins σ H1 s1 h1 ea C1 args I hx hE=>qI I hx hE) ds (by rw[r.length];exact hv)
 refine⟨_,hl,Z,lU z r,?_⟩
 rw[e]at w
 cases l with
 | nx u=>exact fun S' ρ' H' Z' _ _ ok=>w H' Z' ok.ex .non (by rw[Rep])
 | rt d=>exact fun v H' Z' x rv=>w H' Z' x v rv
 | er k=>exact w
 | stuck=>exact w
end
theorem len1 {ds:List D}(h:ds.length=1):∃ a,ds=[a]:=by
 match ds,h with
 | [a],_=>exact⟨a,rfl⟩
theorem len2 {ds:List D}(h:ds.length=2):∃ a b,ds=[a,b]:=by
 match ds,h with
 | [a,b],_=>exact⟨a,b,rfl⟩
theorem len3 {ds:List D}(h:ds.length=3):∃ a b c,ds=[a,b,c]:=by
 match ds,h with
 | [a,b,c],_=>exact⟨a,b,c,rfl⟩
theorem len4 {ds:List D}(h:ds.length=4):∃ a b c d,ds=[a,b,c,d]:=by
 match ds,h with
 | [a,b,c,d],_=>exact⟨a,b,c,d,rfl⟩
theorem len5 {ds:List D}(h:ds.length=5):∃ a b c d e,ds=[a,b,c,d,e]:=by
 match ds,h with
 | [a,b,c,d,e],_=>exact⟨a,b,c,d,e,rfl⟩
inductive OC where
 | ins (c:Nat) (fs:List (Str×D)) | lst (ds:List D)
abbrev Wd:=Addr→Option OC
def WObj (K:PySem.W.Frag)(C:Nat→Addr)(H Z:Hp)(a:Addr):OC→Prop
 | .ins c fs=>∃ dx vs,H a=some (.ins (C c) dx vs)∧H dx=some (.own a)∧Cls K (C c)∧vs.map Prod.fst=fs.map Prod.fst∧Reps K C Z (fs.map Prod.snd) (vs.map Prod.snd)
 | .lst ds=>∃ vs,H a=some (.lst vs)∧Reps K C Z ds vs
def TblOk (H:Hp)(P:Addr)(q:Str):Prop:=∃ ps,H P=some (.tbl ps)∧TriplesOk ps.toList ∧
 ∀ pos cv,codeAmong pos ps.toList=some cv→∃ c oc ws t,cv=.ref c∧H c=some (.frz oc (.own 0))∧oc.data=.fields ws∧ws[1]?=some (.str q t)
def qOf (K:PySem.W.Frag)(f:Addr):Str:=match K.lookup f with
 | some ⟨_,_,.func fd,_⟩=>fd.qualname ++ ".<locals>." ++ "<lambda>"
 | _=>Str.empty
def Tbs (K:PySem.W.Frag)(C:Nat→Addr)(H:Hp):Prop:=∀ i,i < C 900→TblOk H (C (901+2*i)) (qOf K (C (902+2*i)))
theorem Tbs.mono {K:PySem.W.Frag}{C:Nat→Addr}{H H':Hp}(h:Tbs K C H)(x:Same H H'):Tbs K C H':=fun i hi=>by
 obtain⟨ps,e,t,k⟩:=h i hi
 refine⟨ps,x _ _ e,t,fun pos cv q=>?_⟩
 obtain⟨c,oc,ws,t,e1,e2,r⟩:=k pos cv q
 exact⟨c,oc,ws,t,e1,x _ _ e2,r⟩
structure WdOk (K:PySem.W.Frag)(C:Nat→Addr)(H Z:Hp)(W:Wd):Prop where
 wo:∀ a o,W a=some o→WObj K C H Z a o
 tb:Tbs K C H
instance {K:PySem.W.Frag}{C:Nat→Addr}{H Z:Hp}{W:Wd}:CoeFun (WdOk K C H Z W) (fun _=>∀ a o,W a=some o→WObj K C H Z a o):=⟨WdOk.wo⟩
theorem WObj.mono {K:PySem.W.Frag}{C:Nat→Addr}{H Z H' Z':Hp}{a:Addr}{o:OC}(h:WObj K C H Z a o)(x:Same H H')(z:Same Z Z'):WObj K C H' Z' a o:=by
 cases o with
 | ins c fs=>obtain⟨dx,vs,e1,e2,c,e3,r⟩:=h;exact⟨dx,vs,x _ _ e1,x _ _ e2,c,e3,r.mono z⟩
 | lst ds=>obtain⟨vs,e1,r⟩:=h;exact⟨vs,x _ _ e1,r.mono z⟩
theorem WdOk.mono {K:PySem.W.Frag}{C:Nat→Addr}{H Z H' Z':Hp}{W:Wd}(h:WdOk K C H Z W)(x:Same H H')(z:Same Z Z'):WdOk K C H' Z' W:=⟨fun a o e=>(h.wo a o e).mono x z,h.tb.mono x⟩
structure GX (HW Z H HW' Z' H':Hp):Prop where
 fr:∀ b o,HW b=none→H b=some o→H' b=some o
 z:Same Z Z'
 zh:Same Z' H'
 wh:Same HW' H'
 dm:∀ b,HW b≠none→HW' b≠none
 nw:∀ b,HW' b≠none→HW b≠none∨H b=none
 nz:∀ b,Z' b≠none→Z b≠none∨H b=none
 dj:∀ b,HW' b≠none→Z' b=none
theorem v5 {o:Option HO}(h:o≠none):∃ u,o=some u:=by cases o with | none=>exact absurd rfl h | some u=>exact⟨u,rfl⟩
theorem bI {o:Option HO}{u:HO}(h:o=some u):o≠none:=by rw[h];simp
theorem GX.refl {HW Z H:Hp}(zh:Same Z H)(wh:Same HW H)(dj:∀ b,HW b≠none→Z b=none):GX HW Z H HW Z H :=
 ⟨fun _ _ _ e=>e,Same.refl _,zh,wh,fun _ h=>h,fun _ h=>.inl h,fun _ h=>.inl h,dj⟩
theorem GX.trans {HW Z H HW1 Z1 H1 HW2 Z2 H2:Hp}(a:GX HW Z H HW1 Z1 H1)(b:GX HW1 Z1 H1 HW2 Z2 H2):GX HW Z H HW2 Z2 H2:=by
 have back:∀ c,H1 c=none→H c=none∨HW c≠none:=fun c h=>by
  cases e:HW c with
  | some o=>exact .inr (by simp)
  | none =>
   cases e2:H c with
   | none=>exact .inl rfl
   | some o=>have:=a.fr c o e e2;rw[h]at this;cases this
 refine⟨fun c o h1 h2=>?_,a.z.trans b.z,b.zh,b.wh,fun c h=>b.dm c (a.dm c h),fun c h=>?_,fun c h=>?_,b.dj⟩
 ·have e:=a.fr c o h1 h2
  cases q:HW1 c with
  | none=>exact b.fr c o q e
  | some u =>
   rcases a.nw c (bI q) with z | z
   ·exact absurd h1 z
   ·rw[h2]at z;cases z
 ·rcases b.nw c h with z | z
  ·exact a.nw c z
  ·exact(back c z).symm
 ·rcases b.nz c h with z | z
  ·exact a.nz c z
  ·rcases back c z with q | q
   ·exact .inr q
   ·exact absurd (b.dj c (b.dm c (a.dm c q))) h
def kp (HW Z HW0 H0 H:Hp):Hp:=fun b=>if HW b≠none∨Z b≠none∨(HW0 b=none∧H0 b≠none) then H b else none
theorem yj {HW Z HW0 H0 H:Hp}:Same (kp HW Z HW0 H0 H) H:=fun b o e=>by
 unfold kp at e
 grind
section
variable {HW0 Z0 H0 HW Z H:Hp}
theorem kp_w (g:GX HW0 Z0 H0 HW Z H):Same HW (kp HW Z HW0 H0 H):=fun b o e=>by
 unfold kp
 rw[if_pos (.inl (bI e))]
 exact g.wh b o e
theorem kp_z (g:GX HW0 Z0 H0 HW Z H):Same Z (kp HW Z HW0 H0 H):=fun b o e=>by
 unfold kp
 rw[if_pos (.inr (.inl (bI e)))]
 exact g.zh b o e
theorem kp_0 (g:GX HW0 Z0 H0 HW Z H){b:Addr}{o:HO}(h:HW0 b=none)(e:H0 b=some o):kp HW Z HW0 H0 H b=some o:=by
 unfold kp
 rw[if_pos (.inr (.inr ⟨h,bI e⟩))]
 exact g.fr b o h e
theorem pj (g:GX HW0 Z0 H0 HW Z H){b:Addr}(h:kp HW Z HW0 H0 H b=none):HW b=none∧Z b=none∧(HW0 b≠none∨H0 b=none):=by
 refine⟨?_,?_,?_⟩
 ·cases e:HW b with
  | none=>rfl
  | some o=>rw[kp_w g b o e]at h;cases h
 ·cases e:Z b with
  | none=>rfl
  | some o=>rw[kp_z g b o e]at h;cases h
 ·cases e:HW0 b with
  | some o=>exact .inl (by simp)
  | none =>
   cases e2:H0 b with
   | none=>exact .inr rfl
   | some o=>rw[kp_0 g e e2]at h;cases h
theorem za {b:Addr}(h1:HW b=none)(h2:Z b=none)(h3:HW0 b≠none∨H0 b=none):kp HW Z HW0 H0 H b=none:=by
 unfold kp
 rw[if_neg]
 rintro (z | z | z)
 ·exact z h1
 ·exact z h2
 ·rcases h3 with q | q
  ·exact q z.1
  ·exact z.2 q
theorem GX.ex {H' Z':Hp}(zh:Same Z H)(wh:Same HW H)(dj:∀ b,HW b≠none→Z b=none)(x:Ex H Z H' Z'):GX HW Z H HW Z' H' :=
 ⟨fun b o _ e=>x.same b o e,x.z,x.sub,wh.trans x.same,fun _ h=>h,fun _ h=>.inl h,x.new,fun b h=>by
  cases q:Z' b with
  | none=>rfl
  | some o =>
   rcases x.new b (bI q) with z | z
   ·exact absurd (dj b h) z
   ·obtain⟨u,e⟩:=v5 h
    rw[wh b u e]at z;cases z⟩
end
structure Gx where
 K:PySem.W.Frag
 C:Nat→Addr
 HW0:Hp
 Z0:Hp
 H0:Hp
 E:XK
abbrev Gx.fx (G:Gx)(HW Z H:Hp):Fx:=⟨G.K,G.C,kp HW Z G.HW0 G.H0 H,Z,G.E⟩
structure GOk (G:Gx)(W:Wd)(HW Z H:Hp)(S:SS)(ρ:St):Prop where
 gx:GX G.HW0 G.Z0 G.H0 HW Z H
 wd:WdOk G.K G.C HW Z W
 nm:StOk (G.fx HW Z H) H Z S ρ
section
variable {G:Gx}{W W':Wd}{HW Z H HW' Z' H':Hp}{S S':SS}{ρ ρ':St}
theorem GOk.more (h:GOk G W HW Z H S ρ)(x:GX HW Z H HW' Z' H')(w:WdOk G.K G.C HW' Z' W'):GOk G W' HW' Z' H' S ρ:=by
 have g:=h.gx.trans x
 have keep:∀ {y:Sl} {v:V} {A:List Addr},Ow (G.fx HW Z H) H Z y v A→Priv (G.fx HW Z H) Z A→Ow (G.fx HW' Z' H') H' Z' y v A:=fun o p=>ow_K (o.mono x.z fun a ha u e=>x.fr a u (pj h.gx (p.h0 a ha)).1 e)
 refine⟨g,w,⟨⟨yj,Same.refl _,x.zh,fun _ q=>.inl q⟩,h.nm.len,fun i y e=>?_,fun i j y z v w A B hij e1 e2 e3 e4 o1 o2=>?_⟩⟩
 ·obtain⟨v,A,e1,o,p⟩:=h.nm.sl i y e
  refine⟨v,A,e1,keep o p,⟨p.nd,fun a ha=>?_,fun a ha=>?_⟩⟩
  ·obtain⟨u,hu⟩:=o.there a ha
   cases q:Z' a with
   | none=>rfl
   | some r =>
    rcases x.nz a (bI q) with z | z
    ·exact absurd (p.z a ha) z
    ·rw[hu]at z;cases z
  ·obtain⟨u,hu⟩:=o.there a ha
   have n:=pj h.gx (p.h0 a ha)
   refine za ?_ ?_ n.2.2
   ·cases q:HW' a with
    | none=>rfl
    | some r =>
     rcases x.nw a (bI q) with z | z
     ·exact absurd n.1 z
     ·rw[hu]at z;cases z
   ·cases q:Z' a with
    | none=>rfl
    | some r =>
     rcases x.nz a (bI q) with z | z
     ·grind
     ·rw[hu]at z;cases z
 ·obtain⟨v',A',f1,q1,p1⟩:=h.nm.sl i y e1
  obtain⟨w',B',f2,q2,p2⟩:=h.nm.sl j z e2
  rw[e3]at f1;cases f1
  rw[e4]at f2;cases f2
  rw[o1.det (keep q1 p1),o2.det (keep q2 p2)]
  exact h.nm.dj i j y z v w A' B' hij e1 e2 e3 e4 q1 q2
end
inductive RW where
 | ok (w:Wd) (d:D) | er (w:Wd) (k:Nat) | al (w:Wd) (f:Addr→RW) | stuck
inductive LW (σ:Type) where
 | nx (w:Wd) (s:σ) | rt (w:Wd) (d:D) | er (w:Wd) (k:Nat) | al (w:Wd) (f:Addr→LW σ) | stuck
def WRW (K:PySem.W.Frag)(C:Nat→Addr)(E:XK)(HW Z H:Hp)(P:Wd→D→Hp→Hp→Hp→Prop):RW→Prop
 | .ok w d=>∀ HW' Z' H',GX HW Z H HW' Z' H'→WdOk K C HW' Z' w→P w d HW' Z' H'
 | .er w k=>∀ HW' Z' H',GX HW Z H HW' Z' H'→WdOk K C HW' Z' w→E (.ref (C k)) none H'
 | .al w f=>∀ a,w a=none→WRW K C E HW Z H P (f a)
 | .stuck=>False
theorem WRW.more {K:PySem.W.Frag}{C:Nat→Addr}{E:XK}{HW Z H HW1 Z1 H1:Hp}{P:Wd→D→Hp→Hp→Hp→Prop}(x:GX HW Z H HW1 Z1 H1):∀ {r:RW},WRW K C E HW Z H P r→WRW K C E HW1 Z1 H1 P r
 | .ok w d,h=>fun a b c y=>h a b c (x.trans y)
 | .er w k,h=>fun a b c y=>h a b c (x.trans y)
 | .al w f,h=>fun a e=>WRW.more x (h a e)
 | .stuck,h=>h
def WGL {σ:Type}(G:Gx)(Z1:Hp)(J:σ→SS→Prop)(D:Ends):LW σ→Prop
 | .nx w s=>∀ S ρ HW Z H,J s S→Same Z1 Z→GOk G w HW Z H S ρ→D.nx ρ H
 | .rt w d=>∀ v HW Z H,GX G.HW0 G.Z0 G.H0 HW Z H→WdOk G.K G.C HW Z w→Rep G.K G.C Z d v→D.rt v H
 | .er w k=>∀ HW Z H,Same Z1 Z→GX G.HW0 G.Z0 G.H0 HW Z H→WdOk G.K G.C HW Z w→G.E (.ref (G.C k)) none H
 | .al w f=>∀ a,w a=none→WGL G Z1 J D (f a)
 | .stuck=>False
theorem WGL.more {σ:Type}{G:Gx}{Z1 Z2:Hp}{J:σ→SS→Prop}{D:Ends}(z:Same Z1 Z2):∀ {l:LW σ},WGL G Z1 J D l→WGL G Z2 J D l
 | .nx w s,h=>fun S ρ HW Z H j q=>h S ρ HW Z H j (z.trans q)
 | .rt w d,h=>h
 | .er w k,h=>fun HW Z H q=>h HW Z H (z.trans q)
 | .al w f,h=>fun a e=>WGL.more z (h a e)
 | .stuck,h=>h
def rwB:RW→(Wd→D→RW)→RW
 | .ok w d,k=>k w d
 | .er w e,_=>.er w e
 | .al w f,k=>.al w fun a=>rwB (f a) k
 | .stuck,_=>.stuck
def lwS {τ σ:Type}:LW τ→(Wd→τ→LW σ)→LW σ
 | .nx w s,k=>k w s
 | .rt w d,_=>.rt w d
 | .er w e,_=>.er w e
 | .al w f,k=>.al w fun a=>lwS (f a) k
 | .stuck,_=>.stuck
def outW {σ:Type}:LW σ→RW
 | .nx w _=>.ok w .non
 | .rt w d=>.ok w d
 | .er w k=>.er w k
 | .al w f=>.al w fun a=>outW (f a)
 | .stuck=>.stuck
section
variable {X:Cx}{G:Gx}{W:Wd}{S:SS}{e:Expr}{es:List Expr}{st:Stmt}{rest:List Stmt}{σ τ V':Type}{J:σ→SS→Prop}
theorem GOk.wh {HW Z H:Hp}{ρ:St}(h:GOk G W HW Z H S ρ):Same HW H:=h.gx.wh
theorem GOk.zh {HW Z H:Hp}{ρ:St}(h:GOk G W HW Z H S ρ):Same Z H:=h.gx.zh
theorem GOk.ex {HW Z H H' Z':Hp}{ρ:St}(h:GOk G W HW Z H S ρ)(x:Ex H Z H' Z'):GX HW Z H HW Z' H':=GX.ex h.gx.zh h.gx.wh h.gx.dj x
theorem WGL.bind {D:Ends}{J1:τ→SS→Prop}{Z:Hp}{k:Wd→τ→LW σ}{N:St→Hp→Prop}(hN:∀ w s S ρ HW Z' H,J1 s S→Same Z Z'→GOk G w HW Z' H S ρ→WGL G Z' J D (k w s)→N ρ H):∀ {l:LW τ},WGL G Z J D (lwS l k)→WGL G Z J1 { D with nx:=N } l
 | .nx w s,h=>fun S ρ HW Z' H j z ok=>hN w s S ρ HW Z' H j z ok (h.more z)
 | .rt w d,h=>h
 | .er w k,h=>h
 | .al w f,h=>fun a e=>WGL.bind hN (h a e)
 | .stuck,h=>h
end
structure BG (X:Cx)(G:Gx)(k:Nat):Prop where
 room:Room k X.A
 K:X.K=G.K
 calm:X.calm=true
 pass:Passes (CXE X.prog X.w) X G.E
section
variable {X:Cx}{G:Gx}{W:Wd}{F:Fx}{k:Nat}
end
section
variable {X:Cx}{F:Fx}{W:Wd}{c:Nat}{f:Str}{e:Expr}{g:SS→R D}{pos:Pos}
end
section
variable {G:Gx}{W:Wd}{HW Z H:Hp}{S:SS}{ρ:St}
end
section
variable {X:Cx}{G:Gx}{W:Wd}{S:SS}{o e:Expr}{σ:Type}{J:σ→SS→Prop}{r:RW}{pos pos':Pos}{f:Str}{c:Nat}
end
def spG (K:PySem.W.Frag)(C:Nat→Addr)(n:Nat)(f:Wd→List D→RW):Sp:=fun vs H Q E =>
 vs.length=n∧∃ W HW Z ds,Same Z H∧Same HW H∧(∀ b,HW b≠none→Z b=none)∧WdOk K C HW Z W∧Reps K C Z ds vs∧WRW K C E HW Z H (fun _ d _ Z' H'=>∀ v,Rep K C Z' d v→Q v H') (f W ds)
section
variable {P:Program}{w:World}{K:PySem.W.Frag}{mg:Str→Option Value}{base:Heap}
end
structure FnW (P:Program)(w:World)(K:PySem.W.Frag)(mg:Str→Option Value)(base:Heap)(C:Nat→Addr)(k:Nat)(x:Str)(ps:List Str)(f:Wd→List D→RW):Prop where
 ex:∃ a fd,FnOk P w K mg base (CXE P w) k a fd ps (spG K C ps.length f)∧mg x=some (.ref a)∧PySem.W.keepIn K (.ref a)=true∧Binds K fd ps []
structure MeW (P:Program)(w:World)(K:PySem.W.Frag)(mg:Str→Option Value)(base:Heap)(C:Nat→Addr)(k:Nat)(c:Nat)(m:Str)(ps:List Str)(f:Wd→List D→RW):Prop where
 ex:∃ a fd,FnOk P w K mg base (CXE P w) k a fd ps (spG K C ps.length f)∧Meth K (C c) m a∧Binds K fd ps []
structure MkW (P:Program)(w:World)(K:PySem.W.Frag)(mg:Str→Option Value)(base:Heap)(C:Nat→Addr)(k:Nat)(c:Nat)(x:Str)(ps:List Str)(f:Wd→List D→RW):Prop where
 ex:∃ a fd,FnOk P w K mg base (CXE P w) k a fd ps (spG K C ps.length f)∧Mk K (C c) a∧mg x=some (.ref (C c))∧Binds K fd ps []
 cls:Cls K (C c)
section
variable {X:Cx}{G:Gx}{W:Wd}{S:SS}{o e:Expr}{es:List Expr}{k:Nat}{x m:Str}{ps:List Str}{f:Wd→List D→RW}{gs:SS→R (List D)}{p pos apos:Pos}{c:Nat}
end
theorem WRW.bind {K:PySem.W.Frag}{C:Nat→Addr}{E:XK}{HW Z H:Hp}{P P1:Wd→D→Hp→Hp→Hp→Prop}{k:Wd→D→RW}(hp:∀ w d HW' Z' H',GX HW Z H HW' Z' H'→WdOk K C HW' Z' w→WRW K C E HW' Z' H' P (k w d)→P1 w d HW' Z' H'):∀ {r:RW},WRW K C E HW Z H P (rwB r k)→WRW K C E HW Z H P1 r
 | .ok w d,h=>fun a b c x y=>hp w d a b c x y (h.more x)
 | .er w k,h=>h
 | .al w f,h=>fun a e=>WRW.bind hp (h a e)
 | .stuck,h=>h
section
variable {X:Cx}{G:Gx}{W:Wd}{S:SS}{o a b c e:Expr}{es:List Expr}{k:Nat}{x m:Str}{ps:List Str}{f:Wd→List D→RW}{gs:SS→R (List D)}{go gb:SS→R D}{p pos apos:Pos}{cl:Nat}{r r1 r2:RW}
end
section
variable {X:Cx}{body:List Stmt}{c n y:Str}{np np2 kp apos hpos pos:Pos}{k:Nat}{q:Nat→Bool}{C0:Addr}{C:Nat→Addr}{tb:XK→TS}
end
section
variable {X:Cx}{G:Gx}{W:Wd}{S:SS}{τ σ V':Type}{J:σ→SS→Prop}{body rest:List Stmt}{c n y:Str}{np np2 kp apos hpos pos:Pos}{k:Nat}{q:Nat→Bool}{C0:Addr}
end
section
variable {prog:Program}{w:World}{A:Around}{E:Value→Shared→Prop}{s:Shared}
def SIt (h:Heap)(b:Bool)(it a:Addr)(k:Nat):Prop:=if b=true then h.IsTupleIter it a k else h.IsListIter it a k
theorem SIt.lt {h:Heap}{b:Bool}{it a:Addr}{k:Nat}(x:SIt h b it a k):∃ o,h.get? it=some o∧∀ v,o.data≠.cell v:=by
 cases b<;>(obtain⟨o,ho,_,hd⟩:=x;exact⟨o,ho,fun v z=>by rw[hd]at z;cases z⟩)
end
section
variable {X:Cx}{F:Fx}{st:Stmt}{i:Nat}{g ge:SS→R D}
end
theorem uc {v v':V}{u:Value}(h:RelV v u)(h':RelV v' u):v=v':=by
 cases v<;>cases v'<;>simp only[L2.RelV]at h h'<;>first
  | rfl
  | (subst h;cases h';rfl)
  | (subst h;cases h';done)
  | (obtain⟨t,rfl⟩:=h;obtain⟨t',e⟩:=h';cases e;rfl)
  | (obtain⟨t,rfl⟩:=h;obtain⟨t',e⟩:=h';cases e;done)
  | (obtain⟨t,rfl⟩:=h;cases h';done)
  | (subst h;obtain⟨t',e⟩:=h';cases e;done)
section
variable {X:Cx}{F:Fx}{pins:List (Addr×Obj)}{σ:St}{H Z:Hp}{s:Shared}
open Classical in
noncomputable def itemB (P:Value→Prop) (u:Value):Bool:=if P u then true else false
theorem fE {K:PySem.W.Frag}{C:Nat→Addr}{n:Nat}{dx:D}{vx:V}{x:Value}(hK:X.K=K)(I:Inv X pins σ H s)(z:Same Z H)(gx:good n dx=true)(rx:Rep K C Z dx vx)(hx:RelV vx x){A:Around}(hu:A.units+n < cLine)(ds:List D)(hg:goods n ds=true){vs:List V}{us:List Value}(rs:Reps K C Z ds vs)(hv:Vals vs us) :
  ∃ e:Value→Bool,(∀ u∈us,SeqAt.EqAt A s u x (e u))∧us.any e=ds.any fun d=>eqD d dx:=by
 refine⟨itemB fun u=>∃ d v,good n d=true∧Rep K C Z d v∧RelV v u∧eqD d dx=true,?_⟩
 have key:∀ (d:D) (v:V) (u:Value),good n d=true→Rep K C Z d v→RelV v u→itemB (fun u=>∃ d v,good n d=true∧Rep K C Z d v∧RelV v u∧eqD d dx=true) u=eqD d dx:=fun d v u gd rd hd=>by
  unfold itemB
  by_cases h:eqD d dx=true
  ·rw[if_pos ⟨d,v,gd,rd,hd,h⟩,h]
  ·rw[if_neg,(by simpa using h:eqD d dx=false)]
   rintro ⟨d',v',g',r',h1,h2⟩
   have e1:=uc h1 hd
   subst e1
   rw[kR hK I z n d' d v' g' gd r' rd]at h2
   exact h h2
 induction ds generalizing vs us with
 | nil =>
  rw[Reps]at rs
  subst rs
  cases hv
  grind
 | cons d ds ih =>
  rw[Reps]at rs
  obtain⟨v,r,rfl,r1,r2⟩:=rs
  rw[goods,Bool.and_eq_true]at hg
  cases hv with
  | cons hv1 hv2 =>
   obtain⟨i1,i2⟩:=ih hg.2 r2 hv2
   refine⟨fun u hu'=>?_,?_⟩
   ·rcases List.mem_cons.mp hu' with e | e
    ·subst e
     rw[key d v _ hg.1 r1 hv1]
     exact tM hK I z n A d dx v vx _ _ hg.1 gx r1 rx hv1 hx hu
    ·exact i1 u e
   ·grind
end
def rInD (K:PySem.W.Frag)(C:Nat→Addr)(neg:Bool):R2:=fun x y H Q=>∃ (Z:Hp) (dx:D) (ds:List D) (p:Addr) (vs:List V),Same Z H∧Rep K C Z dx x∧good 60 dx=true∧y=.ref p∧(SqL K Z p vs∨SqT K Z p vs)∧Reps K C Z ds vs∧goods 60 ds=true∧Q (.bl (if neg then !(ds.any fun d=>eqD d dx) else ds.any fun d=>eqD d dx)) H
section
variable {X:Cx}{F:Fx}{a b:Expr}{ga gb:SS→R D}{pos:Pos}{k:Nat}
theorem yk (hK:X.K=F.K)(hr:Room k X.A):OpR X (compareOp .In) (rInD F.K F.C false):=by
 intro pins s σ H x y v u Q I rx ry h
 obtain⟨Z,dx,ds,p,vs,z,rd,gd,rfl,hq,rs,gs,q⟩:=h
 cases ry
 have hu:X.A.in1.units+60 < cLine:=by have:=hr.un;show X.A.units+1+60 < cLine;omega
 rcases hq with hq | hq
 ·obtain⟨its,r,pl,hz⟩:=I.list (by rw[hK];exact z.seq hq)
  obtain⟨e,e1,e2⟩:=fE hK I z gd rd rx hu ds gs rs r
  refine SeqAt.in_listAt e pl.isList (fun w hw=>e1 w (by simpa using hw)) ⟨.bl _,H,I,rfl,?_⟩
  rw[show its.toArray.any e=its.any e by simp,e2]
  exact q
 ·obtain⟨its,r,pl,hz⟩:=I.tuple (by rw[hK];exact hq.mono z)
  obtain⟨e,e1,e2⟩:=fE hK I z gd rd rx hu ds gs rs r
  refine SeqAt.in_tupleAt e pl (fun w hw=>e1 w (by simpa using hw)) ⟨.bl _,H,I,rfl,?_⟩
  rw[show its.toArray.any e=its.any e by simp,e2]
  exact q
theorem qZ (hK:X.K=F.K)(hr:Room k X.A):OpR X (compareOp .NotIn) (rInD F.K F.C true):=by
 intro pins s σ H x y v u Q I rx ry h
 obtain⟨Z,dx,ds,p,vs,z,rd,gd,rfl,hq,rs,gs,q⟩:=h
 cases ry
 have hu:X.A.in1.units+60 < cLine:=by have:=hr.un;show X.A.units+1+60 < cLine;omega
 rcases hq with hq | hq
 ·obtain⟨its,r,pl,hz⟩:=I.list (by rw[hK];exact z.seq hq)
  obtain⟨e,e1,e2⟩:=fE hK I z gd rd rx hu ds gs rs r
  refine SeqAt.notIn_listAt e pl.isList (fun w hw=>e1 w (by simpa using hw)) ⟨.bl _,H,I,rfl,?_⟩
  rw[show its.toArray.any e=its.any e by simp,e2]
  exact q
 ·obtain⟨its,r,pl,hz⟩:=I.tuple (by rw[hK];exact hq.mono z)
  obtain⟨e,e1,e2⟩:=fE hK I z gd rd rx hu ds gs rs r
  refine SeqAt.notIn_tupleAt e pl (fun w hw=>e1 w (by simpa using hw)) ⟨.bl _,H,I,rfl,?_⟩
  rw[show its.toArray.any e=its.any e by simp,e2]
  exact q
theorem pp {dx dy:D}{r:R D}(h:dInD dx dy=r):(∃ ds,(dy=.tup ds∨dy=.lst ds)∧good 60 dx=true∧goods 60 ds=true∧r=.ok (.bl (ds.any fun d=>eqD d dx)))∨r=.stuck:=by
 subst h
 cases dy with
 | tup ds =>
  by_cases q:good 60 dx=true∧goods 60 ds=true
  ·exact .inl ⟨ds,.inl rfl,q.1,q.2,if_pos q⟩
  ·exact .inr (if_neg q)
 | lst ds =>
  by_cases q:good 60 dx=true∧goods 60 ds=true
  ·exact .inl ⟨ds,.inr rfl,q.1,q.2,if_pos q⟩
  ·exact .inr (if_neg q)
 | _=>exact .inr rfl
theorem v6:OpD F (rInD F.K F.C false) dInD:=by
 intro H Z x y dx dy Q s rx ry w
 rcases pp rfl with ⟨ds,hd,g1,g2,e⟩ | e
 ·rw[e]at w
  rcases hd with rfl | rfl
  ·rw[Rep]at ry
   obtain⟨p,vs,rfl,h1,h2⟩:=ry
   exact⟨Z,dx,ds,p,vs,s,rx,g1,rfl,.inr h1,h2,g2,WG.now w s _ a7⟩
  ·rw[Rep]at ry
   obtain⟨p,vs,rfl,h1,h2⟩:=ry
   exact⟨Z,dx,ds,p,vs,s,rx,g1,rfl,.inl h1,h2,g2,WG.now w s _ a7⟩
 ·rw[e]at w;exact w.elim
theorem nV:OpD F (rInD F.K F.C true) dNotInD:=by
 intro H Z x y dx dy Q s rx ry w
 unfold dNotInD at w
 rcases pp rfl with ⟨ds,hd,g1,g2,e⟩ | e
 ·rw[e]at w
  have w2:=w
  rcases hd with rfl | rfl
  ·rw[Rep]at ry
   obtain⟨p,vs,rfl,h1,h2⟩:=ry
   exact⟨Z,dx,ds,p,vs,s,rx,g1,rfl,.inr h1,h2,g2,WG.now w2 s _ a7⟩
  ·rw[Rep]at ry
   obtain⟨p,vs,rfl,h1,h2⟩:=ry
   exact⟨Z,dx,ds,p,vs,s,rx,g1,rfl,.inl h1,h2,g2,WG.now w2 s _ a7⟩
 ·rw[e]at w;exact w.elim
theorem yl (bx:BX X F k)(ha:FE X F a ga)(hb:FE X F b gb)(hm:behindInMarks .In b=false:=by rfl):FT X F (.Compare a [.In] [b] pos) (gB (eOp dInD ga gb)):=eY (yk bx.K bx.room) v6 ha hb (hm:=hm)
theorem q9 (bx:BX X F k)(ha:FE X F a ga)(hb:FE X F b gb)(hm:behindInMarks .NotIn b=false:=by rfl):FT X F (.Compare a [.NotIn] [b] pos) (gB (eOp dNotInD ga gb)):=eY (qZ bx.K bx.room) nV ha hb (hm:=hm)
end
section
variable {X:Cx}{F:Fx}{p pos:Pos}{e e2:Expr}{gs:SS→R (List D)}{k:Nat}
theorem nW:CallD F (fun xs H Q=>(∃ i,xs=[.int i]∧Q (.int i) H)∨∃ k,xs=[.bl k]∧Q (.int (if k then 1 else 0)) H) dIntB:=by
 intro H Z xs ds Q s rs w
 unfold dIntB at w
 split at w
 ·rename_i b
  obtain⟨v,rfl,h⟩:=aP rs
  rw[Rep]at h
  subst h
  exact .inr ⟨b,rfl,WG.now w s _ aF⟩
 ·exact w.elim
theorem v7 (bx:BX X F k)(hg:Gl X "int")(hm:X.mg "int"=none)(ha:FA X F [e] gs)(he:starEach [e] X.env=(false,eval e X.env)::starEach [] X.env:=by rfl)(hpl:(backTo pos (starEach [] X.env)).any (·.1)=false:=by rfl) :
  FE X F (.Call (.Name "int" p) [e] [] pos) (eCall dIntB gs):=kh qq nW hg hm (by decide +kernel) ha (he:=he) (hpl:=hpl)
end
section
variable {X:Cx}{F:Fx}{pos p1 p2:Pos}{x y:Str}{kk:Nat}
end
theorem ij:∀ (l acc:List Int),l.foldl step_dedup acc=acc++(l.filter fun x=>!acc.any (· == x)).eraseDups
 | [],acc=>by simp
 | x::l,acc=>by
  rw[List.foldl_cons,ij l]
  unfold step_dedup
  by_cases h:acc.any (· == x)=true
  ·rw[if_pos h,List.filter_cons_of_neg (by rw[h];decide)]
  ·have h':acc.any (· == x)=false:=Bool.not_eq_true _ ▸ h
   have ef:(l.filter fun y=>!(acc++[x]).any (· == y))=(l.filter fun y=>!acc.any (· == y)).filter fun b=>!b==x:=by
    rw[List.filter_filter]
    refine List.filter_congr fun y _=>?_
    rw[List.any_append]
    have:([x].any fun z=>z==y)=(y==x):=by simp[Bool.beq_comm,BEq.comm]
    rw[this]
    cases acc.any (· == y)<;>cases (y==x)<;>rfl
   rw[if_neg h,List.filter_cons_of_pos (by rw[h'];rfl),List.eraseDups_cons,ef,List.append_assoc]
   rfl
theorem jK (is:List Int):(firstMet (fun i=>is.getD i 0) is.length).length=is.eraseDups.length:=by
 unfold firstMet
 rw[ij]
 have:(List.range is.length).map (fun i=>is.getD i 0)=is:=by
  apply List.ext_getElem?
  intro i
  rw[List.getElem?_map]
  by_cases h:i < is.length
  ·rw[List.getElem?_range h,List.getElem?_eq_getElem h];simp[List.getD,h]
  ·rw[List.getElem?_eq_none (by simpa using h),List.getElem?_eq_none (by simpa using h)];rfl
 rw[this]
 have:(is.filter fun x=>!([]:List Int).any (· == x))=is:=List.filter_eq_self.mpr fun _ _=>rfl
 rw[this,List.nil_append]
section
variable {X:Cx}{F:Fx}{p p2 pos pos2:Pos}{e:Expr}{gs:SS→R (List D)}{k:Nat}
theorem ud (hc:X.calm=true):CallR X (.type "set") (fun xs H Q=>∃ (p:Addr) (is:List Int),xs=[.ref p]∧SqL X.K H p (is.map V.int)∧is.length≤4000∧∀ a,H a=none→Q (.ref a) (upd H a (.set (fun k'=>(firstMet (fun i=>is.getD i 0) is.length).any (· == k')) is.eraseDups.length))):=by
 intro pins s σ H xs us Q I r h
 obtain⟨p,is,rfl,hq,hl,q⟩:=h
 obtain⟨u,rfl,ru⟩:=vals1 r
 cases ru
 obtain⟨its,rv,pl,hz⟩:=I.list hq
 obtain⟨ps,rfl,e⟩:=aT rv
 have hlen:ps.length=is.length:=by rw[← e,List.length_map]
 have hs:(ps.map fun p=>Value.int p.1 p.2).toArray.size=is.length:=by simp[hlen]
 refine call_set_list (ns:=is) (I.ok.hd hc) pl.isList ?_ (by rw[hs];show is.length+1 < 4096;omega) fun h' tk hS hk=>?_
 ·have:∀ (ps:List (Int×Tok)),IntsAre (ps.map fun p=>Value.int p.1 p.2) (ps.map (·.1)):=by
   intro ps
   induction ps with
   | nil=>exact .nil
   | cons a l ih=>exact .cons a.1 a.2 ih
  rw[← e]
  exact this ps
 ·rw[hs,jK]at hS
  exact⟨.ref s.heap.objs.size,_,I.laid (o:=.set (fun k'=>(firstMet (fun i=>is.getD i 0) is.length).any (· == k')) is.eraseDups.length) (t':=tk) (fun b u q=>hk b u (Heap.lt_size q) q) (Nat.le_refl _) hS,rfl,q _ I.fresh⟩
theorem l5:CallR X (.builtin "len") (fun xs H Q=>∃ (a:Addr) (S:Int→Bool) (n:Nat),xs=[.ref a]∧H a=some (.set S n)∧Q (.int n) H):=by
 intro pins s σ H xs us Q I r h
 obtain⟨a,S,n,rfl,hq,q⟩:=h
 obtain⟨u,rfl,ru⟩:=vals1 r
 cases ru
 obtain⟨o,es,ep,t,h1,h2,h3,h4,h5,h6,h7,h8⟩:=(show s.heap.SetOf (intKind X.prog X.w) a S n from I.hok a _ hq)
 subst h8
 have:es.size < 4096:=h6
 exact call_len_set h1 h2 h3 h7 (by omega) ⟨.int es.size,H,I.tok _,⟨_,rfl⟩,q⟩
theorem rb (bx:BX X F k)(hg:Gl X "len")(hm:X.mg "len"=none)(hg2:Gl X "set")(hm2:X.mg "set"=none)(ha:FA X F [e] gs)(he:starEach [e] X.env=(false,eval e X.env)::starEach [] X.env:=by rfl)(hpl:(backTo pos2 (starEach [] X.env)).any (·.1)=false:=by rfl)
  (he2:starEach [.Call (.Name "set" p2) [e] [] pos2] X.env=(false,eval (.Call (.Name "set" p2) [e] [] pos2) X.env)::starEach [] X.env:=by rfl) (hpl2:(backTo pos (starEach [] X.env)).any (·.1)=false:=by rfl) :
  FE X F (.Call (.Name "len" p) [.Call (.Name "set" p2) [e] [] pos2] [] pos) (eCall dLenSet gs) :=
 (cI l5 hg hm PySem.boot_len (d5 (d6 (ud bx.calm) hg2 hm2 (by decide +kernel) ha (he:=he) (hpl:=hpl)) iF he2) (he:=he2) (hpl:=hpl2)).weak fun σ H Q ⟨Z,S,ok,w⟩=>by
  refine aO ok w fun ds vs H1 Z1 ok1 x1 rs w1=>?_
  unfold dLenSet at w1
  split at w1
  ·rename_i xs
   split at w1
   ·rename_i is e
    split at w1
    ·rename_i hl
     obtain⟨v,rfl,h⟩:=aP rs
     rw[Rep]at h
     obtain⟨a,us,rfl,h1,h2⟩:=h
     have e2:=a9 h2 e
     subst e2
     refine⟨a,is,rfl,by rw[bx.K];exact ok1.sub.seq h1,hl,fun c hc=>⟨c,_,_,rfl,aj,?_⟩⟩
     exact w1 _ _ (Ex.hidden ok1.sub hc) _ aF
    ·exact w1.elim
   ·exact w1.elim
  ·exact w1.elim
end
section
variable {X:Cx}{F:Fx}
variable {σ:Type}{S:SS}{rest:List Stmt}{J:σ→SS→Prop}{e:Expr}{ge:SS→R D}{r:R D}{n:Nat}
end
end FF
end
noncomputable section
namespace L2
open PySem PySem.Spec PyProof.Rows
section
variable {X:Cx}{pos:Pos}
end
end L2
namespace FF
open PySem PySem.Spec PyProof.Rows L2
section
variable {X:Cx}{F:Fx}{σ:Type}{S:SS}{st:Stmt}{rest:List Stmt}{J:σ→SS→Prop}
end
section
variable {X:Cx}{pins:List (Addr×Obj)}{σ:St}{H:Hp}{s:Shared}{h':Heap}
end
def SqB (K:PySem.W.Frag)(H:Hp)(b:Bool)(a:Addr)(xs:List V):Prop:=if b=true then SqT K H a xs else SqL K H a xs
theorem SqB.mono {K:PySem.W.Frag}{Z H:Hp}{b:Bool}{a:Addr}{xs:List V}(h:SqB K Z b a xs)(z:Same Z H):SqB K H b a xs:=by
 cases b with
 | true=>exact(show SqT K Z a xs from h).mono z
 | false=>exact z.seq h
theorem ym {K:PySem.W.Frag}{C:Nat→Addr}{Z:Hp}{d:D}{ds:List D}{v:V}(e:asSeq d=.ok ds)(r:Rep K C Z d v):∃ b a vs,v=.ref a∧SqB K Z b a vs∧Reps K C Z ds vs:=by
 cases d with
 | tup xs =>
  cases e
  rw[Rep]at r
  obtain⟨a,vs,rfl,h1,h2⟩:=r
  exact⟨true,a,vs,rfl,h1,h2⟩
 | lst xs =>
  cases e
  rw[Rep]at r
  obtain⟨a,vs,rfl,h1,h2⟩:=r
  exact⟨false,a,vs,rfl,h1,h2⟩
 | _=>cases e
section
variable {X:Cx}{F:Fx}{a b:Expr}{ga gb:SS→R D}{k:Nat}
end
section
variable {prog:Program}{w:World}{A:Around}{R:Result→Shared→Prop}{I S:Addr}{res:Value}{n:Nat}
end
section
variable {X:Cx}{pins:List (Addr×Obj)}{σ:St}{H1:Hp}{S z TI TO i1 i2 a1 a2:Addr}{b1 b2:Bool}{xs ys:List V}
end
theorem pq {K:PySem.W.Frag}{C:Nat→Addr}{Z:Hp}:∀ {ds:List D} {vs:List V},ds.length=vs.length→(∀ (j:Nat) (d:D) (v:V),ds[j]?=some d→vs[j]?=some v→Rep K C Z d v)→Reps K C Z ds vs
 | [],[],_,_=>Reps.nil
 | d::ds,v::vs,hl,h=>Reps.cons (h 0 d v rfl rfl) (pq (by simpa using hl) fun j d' v' e1 e2=>h (j+1) d' v' (by simpa using e1) (by simpa using e2))
 | [],_::_,hl,_=>by simp at hl
 | _::_,[],hl,_=>by simp at hl
section
variable {X:Cx}{F:Fx}{a b:Expr}{ga gb:SS→R D}{k:Nat}
end
section
variable {X:Cx}{F:Fx}{e:Expr}{g:SS→R D}{k:Nat}{l:List (Str×Nat)}{x:Str}{p pos:Pos}
end
section
variable {prog:Program}{w:World}{A:Around}{E:Value→Shared→Prop}{s:Shared}
theorem ue {κ:Type}[DecidableEq κ]{knd:PySem.KeyKind prog w κ}{R:Result→Shared→Prop}{d:Addr}{kvs:List (κ×Value)}{ep:Nat}(hh:A.handled=none)(hd:(d==sysModules)=false)(hm:s.heap.DictAt knd d kvs ep)(hlen:kvs.length≤1000)(S:Addr)(res:Value)(c₀:Nat)(hS:s.heap.get? S=some { cls:=.type "list",data:=.seq #[] c₀ })
  (hR:∀ h' tk acc' c',(∀ b o,b≠S→s.heap.get? b=some o→h'.get? b=some o)→h'.get? S=some { cls:=.type "list",dict:=none,data:=.seq acc' c',slots:=#[] } →
   ItemsOf (fun i v=>∃ k x,kvs[i]?=some (k,x)∧knd.is k v=true) acc' kvs.length→R (.ok (.ret res)) { s with heap:=h',toks:=tk }) :
  wpAny (model prog w) A.in1 (Builtin.List.listExtendWith (.ref S) (.ref d) res)
   (fun fin s'=>match fin with | .done f=>R (.ok f) s' | .again c'=>c'.quiet=true∧codeAny (model prog w) A c' R s') (fun e s'=>R (.error e) s') s:=by
 have hT:s.TypeIs (.ref d) "dict" := hm.dictOf.typeIs
 have hSd:S≠d:=fun e=>by
  obtain⟨o,ho,hc⟩:=hT
  subst e
  rw[hS]at ho
  cases ho
  have hc':Value.type "list"=Value.type "dict" := hc
  revert hc';decide
 have hSlt:S < s.heap.objs.size:=Heap.lt_size hS
 have hSI:S≠s.heap.objs.size:=Nat.ne_of_lt hSlt
 have hdI:d≠s.heap.objs.size:=by obtain⟨o,ho,_⟩:=hT;exact Nat.ne_of_lt (Heap.lt_size ho)
 have hSf:S∉[s.heap.objs.size,d]:=fun hm=>by
  simp only[List.mem_cons,List.not_mem_nil,or_false]at hm
  rcases hm with h | h
  ·exact hSI h
  ·exact hSd h
 have W:=(Walks.dictKeys (prog:=prog) (w:=w) (A:=A.in1) (knd:=knd) hh s.heap.objs.size d hdI kvs ep).toS
 have key:∀ (h:Heap) (c₁ tk:Nat),h.IsKeyIter s.heap.objs.size d 0 kvs.length ep→h.DictAt knd d kvs ep→(∀ b o,b≠S→s.heap.get? b=some o→h.get? b=some o) →
   h.get? S=some { cls:=.type "list",data:=.seq #[] c₁ }→codeAny (model prog w) A (.builtin "list.extend.loop" ⟨[.ref S,.ref s.heap.objs.size,res],[]⟩) R { s with heap:=h,toks:=tk }:=by
  intro h c₁ tk hit hD hk hS₁
  refine codeAny_extend_loopS W (by rw[sizeLine_eq];omega) S hSf res kvs.length 0 _ #[] c₁ rfl (Nat.zero_le _) ⟨hit,hD⟩ hS₁ (ItemsOf.nil _) fun s' acc' c' hm hS' hacc=>?_
  rw[Moved.eq_with hm]
  refine hR s'.heap s'.toks acc' c' (fun b o hb e=>hm.heap b o (fun hmem=>?_) (hk b o hb e)) hS' hacc
  rcases List.mem_cons.mp hmem with e' | hmem
  ·exact hb e'
  ·exact absurd (Heap.lt_size e) (by rw[List.mem_singleton.mp hmem];exact Nat.lt_irrefl _)
 unfold Builtin.List.listExtendWith
 refine wpAny_bind (wpAny_typeOf (T := "dict") hT ?_)
 have h1:Builtin.List.listSameRef (.ref S) (.ref d)=false:=by simp[Builtin.List.listSameRef,hSd]
 have h2:(Value.type "dict" == Value.type "list")=false:=by decide
 have h3:(Value.type "dict" == Value.type "tuple")=false:=by decide
 simp only[h1,h2,h3,Bool.or_false,Bool.false_eq_true,if_false]
 refine wpAny_bind (wpAny_pyIter_dict hd hm ?_)
 have hT₁:Shared.TypeIs { s with heap:=s.heap.push { cls:=.type "dict_keyiterator",data:=.fields #[.ref d,.int 0 0,.int kvs.length 0,.int ep 0] } } (.ref d) "dict" := by obtain⟨o,ho,hc⟩:=hT;exact⟨o,Heap.get?_push_of_some _ ho,hc⟩
 refine wpAny_bind (wpAny_holding ?_)
 unfold Builtin.List.listLengthHint
 refine wpAny_bind (wpAny_specialOf hT₁ F.slot_dict_len.lookup ?_)
 generalize hid:("dict.__len__":String)=id0
 wp_delta
 rw[show splitId id0=some ("dict","__len__") from by subst hid;decide +kernel]
 subst hid
 refine wpAny_bind (wpAny_isInstance (T := "dict") (b:=true) hT₁ (by rw[isSubtype_type];kernel_rfl) ?_)
 refine wpAny_ite_split (fun hab=>absurd hab (by decide)) (fun _=>?_)
 refine wpAny_ite_split (fun _=>?_) (fun hab=>absurd (by decide +kernel) hab)
 refine wpAny_bind (wpAny_typeOf (T := "dict") hT₁ ?_)
 refine wpAny_pure ?_
 have hit₁:(s.heap.push { cls:=.type "dict_keyiterator",data:=.fields #[.ref d,.int 0 0,.int kvs.length 0,.int ep 0] }).IsKeyIter s.heap.objs.size d 0 kvs.length ep:=⟨_,Heap.get?_push_size _ rfl,rfl,rfl⟩
 have hD₁:(s.heap.push { cls:=.type "dict_keyiterator",data:=.fields #[.ref d,.int 0 0,.int kvs.length 0,.int ep 0] }).DictAt knd d kvs ep:=hm.at' fun o e=>Heap.get?_push_of_some _ e
 have hS₁:=Heap.get?_push_of_some { cls:=.type "dict_keyiterator",data:=.fields #[.ref d,.int 0 0,.int kvs.length 0,.int ep 0] } hS
 refine wpAny_ite_split (fun _=>?_) (fun _=>wpAny_pure ⟨plainId_quiet F.plain_extend_loop _,key _ c₀ _ hit₁ hD₁ (fun b o _ e=>Heap.get?_push_of_some _ e) hS₁⟩)
 refine wpAny_bind (wpAny_rule ?_)
 refine wpAny_bind ?_
 show wpAny _ _ (updateSeq S (·.push .none) >>= fun _=>updateSeq S (·.pop)) _ _ _
 refine wpAny_bind (wpAny_updateSeq hS₁ rfl ?_)
 have hS₂:=Heap.get?_update_self (Obj.mapSeq (·.push Value.none)) hS₁ rfl
 refine wpAny_updateSeq (hz:=by seq_fits) hS₂ rfl ?_
 have hS₃:=Heap.get?_update_self (Obj.mapSeq (·.pop)) hS₂ rfl
 refine wpAny_pure ⟨plainId_quiet F.plain_extend_loop _,key _ _ _ (hit₁.at fun o e=>?_) (hD₁.at' fun o e=>?_) (fun b o hb e=>?_) hS₃⟩
 ·exact(Heap.get?_update_other _ _ hSI).trans ((Heap.get?_update_other _ _ hSI).trans e)
 ·exact(Heap.get?_update_other _ _ hSd).trans ((Heap.get?_update_other _ _ hSd).trans e)
 ·exact(Heap.get?_update_other _ _ (Ne.symm hb)).trans ((Heap.get?_update_other _ _ (Ne.symm hb)).trans (Heap.get?_push_of_some _ e))
theorem re {R:Result→Shared→Prop}{d:Addr}{κ:Type}[DecidableEq κ]{knd:PySem.KeyKind prog w κ}{kvs:List (κ×Value)}{ep:Nat}(hh:A.handled=none)(hd:(d==sysModules)=false)(hm:s.heap.DictAt knd d kvs ep)(hlen:kvs.length≤1000)(S:Addr)(hS:s.heap.get? S=some { cls:=.type "list",data:=.seq #[] })
  (hR:∀ h' tk acc' c',(∀ b o,b≠S→s.heap.get? b=some o→h'.get? b=some o)→h'.get? S=some { cls:=.type "list",dict:=none,data:=.seq acc' c',slots:=#[] } →
   ItemsOf (fun i v=>∃ k x,kvs[i]?=some (k,x)∧knd.is k v=true) acc' kvs.length→R (.ok (.ret .none)) { s with heap:=h',toks:=tk }) :
  wpAny (model prog w) A.in1 (Builtin.«list.__init__» ⟨[.ref S,.ref d],[]⟩)
   (fun fin s'=>match fin with | .done f=>R (.ok f) s' | .again c'=>c'.quiet=true∧codeAny (model prog w) A c' R s') (fun e s'=>R (.error e) s') s:=by
 have hSd:S≠d:=fun e=>by
  obtain⟨o,ho,hc⟩:=hm.dictOf.typeIs
  subst e
  rw[hS]at ho
  cases ho
  have hc':=hc
  revert hc';decide
 refine wpAny_bind ?_
 unfold Builtin.List.listItems
 refine wpAny_bind (wpAny_seqItems hS rfl (wpAny_pure ?_))
 refine wpAny_bind (wpAny_updateSeq hS rfl ?_)
 have hS₂:=Heap.get?_update_self (Obj.mapSeq (fun _=>(#[]:Array Value))) hS rfl
 have oth:∀ b o,b≠S→s.heap.get? b=some o→(s.heap.update S (Obj.mapSeq (fun _=>(#[]:Array Value)))).get? b=some o :=
  fun b o hb e=>(Heap.get?_update_other _ _ (Ne.symm hb)).trans e
 refine wpAny_bind (wpAny_letGo ?_)
 refine ue hh hd (hm.at' fun o e=>oth d o (Ne.symm hSd) e) hlen S .none _ hS₂ fun h' tk acc' c' hk hS' hacc=>?_
 exact hR h' tk acc' c' (fun b o hb e=>hk b o hb (oth b o hb e)) hS' hacc
theorem iY {Q:Value→Shared→Prop}{d:Addr}{κ:Type}[DecidableEq κ]{knd:PySem.KeyKind prog w κ}{kvs:List (κ×Value)}{ep:Nat}(hh:A.handled=none)(hd:(d==sysModules)=false)(hm:s.heap.DictAt knd d kvs ep)(hlen:kvs.length≤1000)
  (hQ:∀ h' tk acc' c',(∀ b o,s.heap.get? b=some o→h'.get? b=some o)→h'.get? s.heap.objs.size=some { cls:=.type "list",dict:=none,data:=.seq acc' c',slots:=#[] } →
   ItemsOf (fun i v=>∃ k x,kvs[i]?=some (k,x)∧knd.is k v=true) acc' kvs.length→Q (.ref s.heap.objs.size) { s with heap:=h',toks:=tk }) :
  wpAny (model prog w) A (call (.type "list") [.ref d]) Q E s:=by
 refine callType_codes (Q₁:=fun obj s₁=>obj=.ref s.heap.objs.size∧s₁={ s with heap:=s.heap.push { cls:=.type "list",data:=.seq #[] } }) F.called_list (F.typeCall_list_1 _) F.entry_list_init
  (code_list_new _ ⟨rfl,rfl⟩) fun obj s₁ h₁=>?_
 obtain⟨rfl,rfl⟩:=h₁
 have hS:(s.heap.push { cls:=.type "list",data:=.seq #[] }).get? s.heap.objs.size=some { cls:=.type "list",data:=.seq #[] }:=Heap.get?_push_size _ rfl
 refine⟨⟨_,hS,rfl⟩,F.args_list_init_2 _ _,re (A:=A.in1) hh hd (hm.at' fun o e=>Heap.get?_push_of_some _ e) hlen _ hS fun h' tk acc' c' hk hS' hacc=>?_⟩
 exact⟨rfl,hQ h' tk acc' c' (fun b o e=>hk b o (Nat.ne_of_lt (Heap.lt_size e)) (Heap.get?_push_of_some _ e)) hS' hacc⟩
end
section
variable {X:Cx}{F:Fx}{k:Nat}{l:List (Str×Nat)}{x:Str}{p p2 pos:Pos}
end
open AutoSeq1 (wpAny_loadPart')
section
variable {prog:Program}{w:World}{A:Around}{E:Value→Shared→Prop}{s:Shared}
end
section
variable {prog:Program}{w:World}{A:Around}{E:Value→Shared→Prop}{s:Shared}
end
section
variable {X:Cx}{F:Fx}{a:Expr}{ga:SS→R D}{k:Nat}
end
section
variable {X:Cx}{F:Fx}{a:Expr}{ga:SS→R D}{k:Nat}{p p2 pos pos2:Pos}
end
section
variable {prog:Program}{w:World}{A:Around}{E:Value→Shared→Prop}{s:Shared}
end
section
variable {X:Cx}{F:Fx}
variable {σ:Type}{S:SS}{rest:List Stmt}{J:σ→SS→Prop}{e:Expr}{ge:SS→R D}{r:R D}{n:Nat}
end
section
variable {X:Cx}{F:Fx}
end
def capB (XN:List Str)(scope:Scope)(N:List Str)(own:Nat):Nat→List Nat→Bool
 | _,[]=>true
 | j,i::r=>(match N[own+j]?,XN[i]? with
  | some x,some y=>x==y&&scope.names.lookup x==some .free
  | _,_=>false)&&capB XN scope N own (j+1) r
def blkB (XN:List Str)(osc scope:Scope)(N:List Str)(own:Nat)(cap:List Nat):Bool :=
 scope.kind==.function&&(scope.names.all fun y=>scope.names.lookup y.1==some y.2)&&(scope.names.all fun y=>!(y.2==.free)||(osc.names.lookup y.1==some .cell||osc.names.lookup y.1==some .free))&&N.length==own+cap.length&&capB XN scope N own 0 cap
theorem pv {XN:List Str}{scope:Scope}{N:List Str}{own:Nat}:∀ {cap:List Nat} {k:Nat},capB XN scope N own k cap=true→∀ j i,cap[j]?=some i→∃ x,N[own+(k+j)]?=some x∧XN[i]?=some x∧scope.names.lookup x=some .free
 | [],_,_,j,i,e=>by simp at e
 | c::r,k,h,j,i,e=>by
  unfold capB at h
  rw[Bool.and_eq_true]at h
  cases j with
  | zero =>
   simp only[List.getElem?_cons_zero,Option.some.injEq]at e
   subst e
   have h1:=h.1
   split at h1
   ·rename_i x y e1 e2
    rw[Bool.and_eq_true]at h1
    have:=eq_of_beq h1.1
    subst this
    exact⟨x,by rw[Nat.add_zero];exact e1,e2,eq_of_beq h1.2⟩
   ·cases h1
  | succ j =>
   obtain⟨x,a,b⟩:=pv h.2 j i (by simpa using e)
   exact⟨x,by rw[← a];congr 1;omega,b⟩
theorem BlkOk.of {XN:List Str}{osc scope:Scope}{N:List Str}{own:Nat}{cap:List Nat}(h:blkB XN osc scope N own cap=true):BlkOk XN osc scope N own cap:=by
 unfold blkB at h
 simp only[Bool.and_eq_true,List.all_eq_true]at h
 obtain⟨⟨⟨⟨h1,h2⟩,h3⟩,h4⟩,h5⟩:=h
 have look:=fun y hy=>eq_of_beq (h2 y hy)
 refine⟨eq_of_beq h1,fun y hy e=>by rw[look y hy,e],fun y hy e=>by rw[look y hy,e],fun y hy e=>by rw[look y hy,e],fun y hy e=>?_,eq_of_beq h4,fun j i e=>?_⟩
 ·grind
 ·have:=pv h5 j i e
  grind
section
variable {X:Cx}{F:Fx}{o e:Expr}{g:SS→R D}{gs:List (SS→R D)}{apos cpos:Pos}{k:Nat}
end
def OkD (P:Program)(w:World)(K:PySem.W.Frag)(mg:Str→Option Value)(base:Heap)(C:Nat→Addr)(k:Nat)(x:Str)(st:Stmt)(ps:List Str)(fn:List D→R D):Prop :=
 ∀ {f:Addr} {fd:FuncData},Fun K x x st f fd→FnOk P w K mg base (CXE P w) (k+1) f fd ps (spF K C ps.length fn)
def OkB (P:Program)(w:World)(K:PySem.W.Frag)(mg:Str→Option Value)(base:Heap)(C:Nat→Addr)(k:Nat)(N:List Str)(x:Str)(st:Stmt)(ds:List D)(l:L Unit):Prop :=
 ∀ (f:Addr) (cdv:Value) (A:Around) (outer:List Env) (s:Shared) (H Z:Hp) (E:XK),BX (bodyX P w K mg base N x (defScope st) f cdv A outer s H E) ⟨K,C,H,Z,E⟩ k →
  PassesOwn (model P w) (bodyX P w K mg base N x (defScope st) f cdv A outer s H E).A (bodyX P w K mg base N x (defScope st) f cdv A outer s H E).env (bodyX P w K mg base N x (defScope st) f cdv A outer s H E).xe →
  MadeX (bodyX P w K mg base N x (defScope st) f cdv A outer s H E) ⟨K,C,H,Z,E⟩→FL (bodyX P w K mg base N x (defScope st) f cdv A outer s H E) ⟨K,C,H,Z,E⟩ (startS N.length ds) (defBody st) JU l
theorem mkSc {N ps:List Str}{sc:Scope}(a:sc.kind=.function:=by rfl)(b:sc.isCoroutine=false:=by rfl)(c:sc.isGenerator=false:=by rfl)(d:N.Nodup:=by decide +kernel)(e:N.take ps.length=ps:=by rfl)
  (f:∀ x∈ps,sc.names.lookup x=some .local∨sc.names.lookup x=some .cell:=by decide +kernel) (g:∀ y∈sc.names,y.2≠.free:=by decide +kernel):FnScope N ps sc:=⟨a,b,c,d,e,f,g⟩
section
variable {P:Program}{w:World}{K:PySem.W.Frag}{mg:Str→Option Value}{base:Heap}{C:Nat→Addr}{k:Nat}{N ps:List Str}{x:Str}{st:Stmt}
theorem okd {fn:List D→R D}(S:FnScope N ps (defScope st))(h:∀ ds,ds.length=ps.length→∃ l,fn ds=outL l∧OkB P w K mg base C k N x st ds l):OkD P w K mg base C k x st ps fn:=fun F =>
 v4 F S fun cdv A outer s H Z E bx hp md ds hl=>by
  obtain⟨l,e,o⟩:=h ds hl
  exact⟨l,e,o _ cdv A outer s H Z E bx hp md⟩
theorem ok1 {p:Str}{c:D→L Unit}(S:FnScope N [p] (defScope st))(h:∀ a,OkB P w K mg base C k N x st [a] (c a)):OkD P w K mg base C k x st [p] (a1 c):=okd S fun ds hl=>by obtain⟨a,rfl⟩:=len1 hl;exact⟨c a,rfl,h a⟩
theorem ok2 {p q:Str}{c:D→D→L Unit}(S:FnScope N [p,q] (defScope st))(h:∀ a b,OkB P w K mg base C k N x st [a,b] (c a b)):OkD P w K mg base C k x st [p,q] (a2 c):=okd S fun ds hl=>by obtain⟨a,b,rfl⟩:=len2 hl;exact⟨c a b,rfl,h a b⟩
theorem ok3 {p q r:Str}{c:D→D→D→L Unit}(S:FnScope N [p,q,r] (defScope st))(h:∀ a b d,OkB P w K mg base C k N x st [a,b,d] (c a b d)):OkD P w K mg base C k x st [p,q,r] (a3 c):=okd S fun ds hl=>by obtain⟨a,b,d,rfl⟩:=len3 hl;exact⟨c a b d,rfl,h a b d⟩
theorem ok4 {p q r s:Str}{c:D→D→D→D→L Unit}(S:FnScope N [p,q,r,s] (defScope st))(h:∀ a b d e,OkB P w K mg base C k N x st [a,b,d,e] (c a b d e)):OkD P w K mg base C k x st [p,q,r,s] (a4 c):=okd S fun ds hl=>by obtain⟨a,b,d,e,rfl⟩:=len4 hl;exact⟨c a b d e,rfl,h a b d e⟩
theorem ok5 {p q r s t:Str}{c:D→D→D→D→D→L Unit}(S:FnScope N [p,q,r,s,t] (defScope st))(h:∀ a b d e f,OkB P w K mg base C k N x st [a,b,d,e,f] (c a b d e f)):OkD P w K mg base C k x st [p,q,r,s,t] (a5 c):=okd S fun ds hl=>by obtain⟨a,b,d,e,f,rfl⟩:=len5 hl;exact⟨c a b d e f,rfl,h a b d e f⟩
structure Fd (K:PySem.W.Frag)(mg:Str→Option Value)(x:Str)(ps:List Str)(st:Stmt):Prop where
 ex:∃ a fd,Fun K x x st a fd∧mg x=some (.ref a)∧Binds K fd ps []
theorem l6 {f:Addr}{fd:FuncData}{n:Nat}:FnOk P w K mg base (CXE P w) k f fd ps (spF K C n fun _=>.stuck) :=
 ⟨fun vs H Q E h=>by obtain⟨_,_,_,_,_,z⟩:=h;exact z.elim,fun A outer s H args us vs Q E _ _ _ _ h=>by obtain⟨_,_,_,_,_,z⟩:=h;exact z.elim⟩
theorem zb {i:Nat}(F:Fd K mg x ps st)(hf:mg x=some (.ref (C i))):FnV P w K mg base C 0 i fun _=>.stuck:=by
 obtain⟨a,fd,F,h,b⟩:=F.ex
 rw[hf]at h
 cases h
 exact⟨fd,ps,l6,F.kp,b,fun _ _=>rfl⟩
theorem zc {i:Nat}{fn:List D→R D}(F:Fd K mg x ps st)(hf:mg x=some (.ref (C i)))(ok:OkD P w K mg base C k x st ps fn)(hl:∀ ds,ds.length≠ps.length→fn ds=.stuck):FnV P w K mg base C (k+1) i fn:=by
 obtain⟨a,fd,F,h,b⟩:=F.ex
 rw[hf]at h
 cases h
 exact⟨fd,ps,ok F,F.kp,b,hl⟩
theorem g0 (F:Fd K mg x ps st):Fn1 P w K mg base C 0 x ps (fun _=>.stuck):=by obtain⟨a,fd,F,h,b⟩:=F.ex;exact⟨a,fd,l6,h,F.kp,b⟩
theorem g1 {fn:List D→R D}(F:Fd K mg x ps st)(ok:OkD P w K mg base C k x st ps fn):Fn1 P w K mg base C (k+1) x ps fn:=by obtain⟨a,fd,F,h,b⟩:=F.ex;exact⟨a,fd,ok F,h,F.kp,b⟩
section
variable {h:Heap}{f:Addr}{oc:Value}{od an:Option Addr}{osl:Array (Option Value)}{kV doc pm cdv ct:Value}
theorem zd (X:K.In h)(G:h.Ns mainGlobals mg)(hb:∀ (kV doc pm:Value) (an:Option Addr) (cdv ct:Value) (us:List Value),us.length=ps.length→bindArgs (PySem.W.fnOf x x (defArgs st) (defBody st) (defScope st) .none kV doc pm an cdv ct) ⟨us,[]⟩=pure (ps.zip us))
  (a:PySem.W.nsIn K mainGlobals x=some (some (.ref f))) (l:K.lookup f=some ⟨oc,od,.func (PySem.W.fnOf x x (defArgs st) (defBody st) (defScope st) .none kV doc pm an cdv ct),osl⟩) (c:PySem.W.codeIn K cdv x=true) (k:PySem.W.keepIn K (.ref f)=true):Fd K mg x ps st :=
 ⟨f,_,nD l c k,PySem.W.mg_of X G a,(nD l c k).binds hb⟩
end
theorem ln1 {us:List Value}(h:us.length=1):∃ a,us=[a]:=match us,h with | [a],_=>⟨a,rfl⟩
theorem ln2 {us:List Value}(h:us.length=2):∃ a b,us=[a,b]:=match us,h with | [a,b],_=>⟨a,b,rfl⟩
theorem ln3 {us:List Value}(h:us.length=3):∃ a b c,us=[a,b,c]:=match us,h with | [a,b,c],_=>⟨a,b,c,rfl⟩
theorem ln4 {us:List Value}(h:us.length=4):∃ a b c d,us=[a,b,c,d]:=match us,h with | [a,b,c,d],_=>⟨a,b,c,d,rfl⟩
end
abbrev Ng (K:PySem.W.Frag)(x:Str)(v:Option Value):Prop:=PySem.W.nsIn K mainGlobals x=some v
theorem px {K:PySem.W.Frag}{C:Nat→Addr}{Z:Hp}:∀ ns:List Int,Reps K C Z (ns.map .int) (ns.map V.int)
 | []=>by rw[List.map_nil,List.map_nil,Reps]
 | i::ns=>by rw[List.map_cons,List.map_cons,Reps];exact⟨_,_,rfl,aF,px ns⟩
abbrev mt (m:List (List D)):Option Sl:=some (.mat m)
section
variable {σ:Type}{X:Cx}{F:Fx}{S:SS}{J:σ→SS→Prop}
theorem v8 (i:Nat){m:List (List D)}{S':SS}{sts:List Stmt}{l:L σ}(hi:S[i]?=some (some (.mat m)))(hS:S.set i (some (.val (.lst (m.map .lst))))=S')(h:FL X F S' sts J l):FL X F S sts J l :=
 h.weak fun D ρ H ⟨Z,ok,w⟩=>by
  obtain⟨Z',z,ok'⟩:=ok.freezeM hi
  rw[hS]at ok'
  exact⟨Z',ok',WL.more w z⟩
end
def mIx (m:List (List D))(y:D):R Nat:=match y with
 | .int i=>match ixN m.length i with
  | some a=>.ok a
  | none=>.stuck
 | _=>.stuck
def mStA (m:List (List D))(a:Nat)(x v:D):R (List (List D)):=match x with
 | .int j=>match m[a]? with
  | some row=>match ixN row.length j with
   | some b=>.ok (m.set a (row.set b v))
   | none=>.stuck
  | none=>.stuck
 | _=>.stuck
def sMatSt (i:Nat)(ge gy gx:SS→R D):SS→O:=fun S=>match S[i]? with
 | some (some (.mat m))=>rO (((ge S).bind fun v=>(gy S).bind fun y=>(mIx m y).bind fun a=>(gx S).bind fun x=>mStA m a x v).bind fun m'=>.ok (.nx (S.set i (some (.mat m')))))
 | _=>.stuck
theorem Rows.set {F:Fx}{H Z:Hp}{r:Addr}{us:List V}{ds:List D}(q:Reps F.K F.C Z ds us):∀ {m:List (List D)} {rs:List Addr} {j:Nat},rs.Nodup→Rows F H Z m rs→rs[j]?=some r→Rows F (upd H r (.lst us)) Z (m.set j ds) rs
 | d::m,b::rs,0,nd,h,e=>by
  cases e
  exact⟨⟨us,aj,q⟩,h.2.mono (Same.refl _) fun a ha o eo=>by
   have ne:a≠r:=fun z=>(List.nodup_cons.mp nd).1 (by rw[← z];exact ha)
   rw[ag ne];exact eo⟩
 | d::m,b::rs,j+1,nd,h,e=>by
  obtain⟨⟨vs,k1,k2⟩,h⟩:=h
  have hr:r∈rs:=List.mem_of_getElem? (by simpa using e)
  have ne:b≠r:=fun z=>(List.nodup_cons.mp nd).1 (by rw[z];exact hr)
  exact⟨⟨vs,by rw[ag ne];exact k1,k2⟩,Rows.set q (List.nodup_cons.mp nd).2 h (by simpa using e)⟩
 | [],[],_,_,_,e=>by simp at e
 | [],_::_,_,_,h,_=>h.elim
 | _::_,[],_,_,h,_=>h.elim
theorem yn {n a:Nat}{i:Int}(h:ixN n i=some a):a < n:=by
 unfold ixN at h
 split at h
 ·split at h
  ·cases h;omega
  ·cases h
 ·split at h
  ·cases h;omega
  ·cases h
section
variable {X:Cx}{F:Fx}{e ey ex:Expr}{ge gy gx:SS→R D}{x:Str}{pos:Pos}{k:Nat}
theorem uf (i:Nat){p0 p1 pos':Pos}(bx:BX X F k)(he:FE X F e ge)(hy:FE X F ey gy)(hx:FE X F ex gx)(hps:PlainIx ey:=by intro _ _;rfl)(hi:X.N[i]?=some x:=by rfl)(hv:Vis X.env.scope x:=by first | exact Or.inl rfl | exact Or.inr (Or.inl rfl) | exact Or.inr (Or.inr rfl))
  (hd:(x==("__debug__":Str))=false:=by decide) (hcd:(x==("__classdict__":Str))=false:=by decide)
  (hasg:∀ v,assign (.Subscript (.Subscript (.Name x p0) ey p1) ex pos') X.env v=(do
   let ov ← holding [v] (eval (.Subscript (.Name x p0) ey p1) X.env)
   let iv ← holding [v,ov] (eval ex X.env)
   standAt pos'
   holding [v,ov,iv] (setItem ov iv v)
   release [v,ov,iv] []):=by intro _;rfl)
  (hs:swapsWithSole [.Subscript (.Subscript (.Name x p0) ey p1) ex pos'] e pos.line X.env=pure false:=by rfl) (hw:swappedStores [.Subscript (.Subscript (.Name x p0) ey p1) ex pos'] e X.env=pure none:=by rfl)
  (h1:(assignEach [.Subscript (.Subscript (.Name x p0) ey p1) ex pos'] X.env).map (·.2)=[assign (.Subscript (.Subscript (.Name x p0) ey p1) ex pos') X.env]:=by rfl) :
  FS X F (.Assign [.Subscript (.Subscript (.Name x p0) ey p1) ex pos'] e pos) (sMatSt i ge gy gx) :=
 (xD he (xC (sT kG (ci hi hv hd hcd) hy hps) hx sU hasg) hs hw h1).weak fun D σ H ⟨Z,S,ok,w⟩=>by
  unfold sMatSt at w
  split at w
  ·rename_i m e0
   have w':=WO.wg ok w
   rw[R.bind_assoc]at w'
   refine aA ok w' fun d v H1 Z1 ok1 x1 rv w1=>?_
   obtain⟨a,rs,f1,f2,f3,f4⟩:=ok1.mat i m e0
   refine⟨.ref a,f1,?_⟩
   rw[R.bind_assoc]at w1
   refine aA ok1 w1 fun dy vy H2 Z2 ok2 x2 ry w2=>?_
   cases dy with
   | int jy =>
    rw[Rep]at ry
    cases qy:ixN m.length jy with
    | none =>
     have w2':WG F H2 Z2 (R.bind (R.bind (match ixN m.length jy with | some a=>R.ok a | none=>R.stuck) fun a=>(gx S).bind fun x=>mStA m a x d) fun m'=>R.ok (O.nx (S.set i (some (Sl.mat m'))))) _:=w2
     rw[qy]at w2'
     exact w2'.elim
    | some a0 =>
     have w2':WG F H2 Z2 (R.bind (R.bind (match ixN m.length jy with | some a=>R.ok a | none=>R.stuck) fun a=>(gx S).bind fun x=>mStA m a x d) fun m'=>R.ok (O.nx (S.set i (some (Sl.mat m'))))) _:=w2
     rw[qy]at w2'
     have w3:WG F H2 Z2 (R.bind ((gx S).bind fun x=>mStA m a0 x d) fun m'=>R.ok (O.nx (S.set i (some (Sl.mat m'))))) _:=w2'
     rw[R.bind_assoc]at w3
     have hlt:=yn qy
     have hl:=f3.len
     obtain⟨r,er⟩:∃ r,rs[a0]?=some r:=⟨rs[a0],List.getElem?_eq_getElem (by omega)⟩
     have hat:atI (rs.map V.ref) jy=some (.ref r):=by
      unfold atI
      rw[List.length_map,hl,qy]
      show (rs.map V.ref)[a0]?=_
      rw[List.getElem?_map,er];rfl
     refine⟨a,rs.map V.ref,jy,.ref r,rfl,ry,SqL.of (x2.same _ _ f2),hat,?_⟩
     refine aA ok2 w3 fun dx vx H3 Z3 ok3 x3 rx w4=>?_
     cases dx with
     | int jx =>
      rw[Rep]at rx
      have h3a:H3 a=some (.lst (rs.map V.ref)):=x3.same _ _ (x2.same _ _ f2)
      have rows3:Rows F H3 Z3 m rs:=f3.mono (x2.z.trans x3.z) fun b _ o eo=>x3.same _ _ (x2.same _ _ eo)
      have erow:m[a0]?=some m[a0]:=List.getElem?_eq_getElem hlt
      obtain⟨r',vs,g1,g2,g3⟩:=rows3.at erow
      rw[er]at g1;cases g1
      have w5:WG F H3 Z3 (R.bind (match m[a0]? with | some row=>(match ixN row.length jx with | some b=>R.ok (m.set a0 (row.set b d)) | none=>R.stuck) | none=>R.stuck) fun m'=>R.ok (O.nx (S.set i (some (Sl.mat m'))))) _:=w4
      rw[erow]at w5
      cases qx:ixN (m[a0]).length jx with
      | none =>
       have w6:WG F H3 Z3 (R.bind (match ixN (m[a0]).length jx with | some b=>R.ok (m.set a0 ((m[a0]).set b d)) | none=>R.stuck) fun m'=>R.ok (O.nx (S.set i (some (Sl.mat m'))))) _:=w5
       rw[qx]at w6
       exact w6.elim
      | some b =>
       have w6:WG F H3 Z3 (R.bind (match ixN (m[a0]).length jx with | some b=>R.ok (m.set a0 ((m[a0]).set b d)) | none=>R.stuck) fun m'=>R.ok (O.nx (S.set i (some (Sl.mat m'))))) _:=w5
       rw[qx]at w6
       refine⟨r,vs,jx,b,rfl,rx,g2,by rw[← g3.length];exact qx,?_⟩
       have w7:=WG.now w6 ok3.sub
       have hr:r∈rs:=List.mem_of_getElem? er
       have nd:=List.nodup_cons.mp f4.nd
       have ne:a≠r:=fun z=>nd.1 (by rw[z];exact hr)
       refine w7 σ _ Z3 (Same.refl _) (ok3.rewr (x:=.mat m) (A:=a::rs) e0 f1 ⟨a,rs,rfl,rfl,h3a,rows3⟩ ⟨a,rs,rfl,rfl,by rw[ag ne];exact h3a,Rows.set (Reps.setAt (rv.mono (x2.z.trans x3.z)) b g3) nd.2 rows3 er⟩ fun c hc=>ag fun z=>hc (by rw[z];exact .tail _ hr))
     | _=>exact w4.elim
   | _=>exact w2.elim
  ·exact w.elim
end
def sqsL:List D→R (List (List D))
 | []=>.ok []
 | d::r=>(asSeq d).bind fun xs=>(sqsL r).bind fun m=>.ok (xs::m)
def sMatOf (i:Nat)(git:SS→R (List D)):SS→O:=fun S=>rO (((git S).bind sqsL).bind fun m=>.ok (.nx (S.set i (some (.mat m)))))
theorem l7:∀ {ds:List D} {m:List (List D)},sqsL ds=.ok m→m.length=ds.length∧∀ (j:Nat) d,ds[j]?=some d→∃ xs,m[j]?=some xs∧asSeq d=.ok xs
 | [],m,h=>by cases h;exact⟨rfl,fun j d e=>by simp at e⟩
 | d::ds,m,h=>by
  rw[sqsL]at h
  cases e1:asSeq d with
  | err k=>rw[e1]at h;cases h
  | stuck=>rw[e1]at h;cases h
  | ok xs =>
   rw[e1,R.bind_ok]at h
   cases e2:sqsL ds with
   | err k=>rw[e2]at h;cases h
   | stuck=>rw[e2]at h;cases h
   | ok m' =>
    rw[e2,R.bind_ok]at h
    cases h
    obtain⟨hl,hg⟩:=l7 e2
    refine⟨by rw[List.length_cons,List.length_cons,hl],fun j c e=>?_⟩
    cases j with
    | zero=>cases e;exact⟨xs,rfl,e1⟩
    | succ j=>exact hg j c e
theorem v9 {ds:List D}{k:Nat}:sqsL ds≠.err k:=by
 induction ds with
 | nil=>exact fun h=>nomatch h
 | cons d ds ih =>
  intro h
  rw[sqsL]at h
  cases d with
  | lst xs =>
   have h':((sqsL ds).bind fun m=>R.ok (xs::m))=.err k:=h
   cases e:sqsL ds with
   | ok m=>rw[e]at h';cases h'
   | err j=>exact ih (by rw[e]at h';cases h';exact e)
   | stuck=>rw[e]at h';cases h'
  | tup xs =>
   have h':((sqsL ds).bind fun m=>R.ok (xs::m))=.err k:=h
   cases e:sqsL ds with
   | ok m=>rw[e]at h';cases h'
   | err j=>exact ih (by rw[e]at h';cases h';exact e)
   | stuck=>rw[e]at h';cases h'
  | _=>cases h
theorem Rows.snoc {F:Fx}{H Z:Hp}{r:Addr}{ds:List D}{vs:List V}(h1:H r=some (.lst vs))(h2:Reps F.K F.C Z ds vs):∀ {m:List (List D)} {rs:List Addr},Rows F H Z m rs→Rows F H Z (m++[ds]) (rs++[r])
 | [],[],_=>⟨⟨vs,h1,h2⟩,trivial⟩
 | _::_,_::_,h=>⟨h.1,Rows.snoc h1 h2 h.2⟩
 | [],_::_,h=>h.elim
 | _::_,[],h=>h.elim
abbrev rLst (K:PySem.W.Frag):List V→Hp→VK→Prop:=fun xs H Q=>∃ p ys,xs=[.ref p]∧(SqL K H p ys∨SqT K H p ys)∧∀ l,H l=none→Q (.ref l) (upd H l (.lst ys))
section
variable {X:Cx}{F:Fx}{tg iter elt:Expr}{scope:Scope}{N:List Str}{own:Nat}{cap:List Nat}{pos:Pos}{git:SS→R (List D)}
theorem ug {i:Nat}{D:Ends}{σ:St}{H Z:Hp}{S:SS}{tc:TT}(hown:0 < own)(ok:StOk F H Z S σ)(w:WO F Z (sMatOf i git S) D) :
  tCompSet i own cap (tI F git) (gName 0) (tTests [] tc) (tCB (rLst F.K) (tCons (tVar 0) tNil)) D σ H:=by
 have w:=WO.wg ok w
 refine⟨Z,S,ok,?_⟩
 cases e:git S with
 | err k=>rw[e]at w;exact w
 | stuck=>rw[e]at w;exact w
 | ok ds =>
  rw[e]at w
  intro H1 Z1 x1 J wk hlen D' hD
  have w1:=WG.more (r:=(sqsL ds).bind fun m=>R.ok (O.nx (S.set i (some (.mat m))))) w x1
  have ok1:=ok.more x1
  cases em:sqsL ds with
  | err k=>exact(v9 em).elim
  | stuck=>rw[em]at w1;exact w1.elim
  | ok m =>
   rw[em]at w1
   obtain⟨ml,mg⟩:=l7 em
   have hS:=sizeLine_eq
   refine⟨fun j n σ' H' ys=>n=ds.length - j∧j≤ds.length∧0 < σ'.length∧H' D'=some (.lst ys)∧∃ Z' rs,Ex H1 Z1 H' Z'∧ys=rs.map V.ref∧Rows F H' Z' (m.take j) rs∧(D'::rs).Nodup∧∀ r∈D'::rs,Z' r=none∧H1 r=none,?_,
    ds.length,rfl,Nat.zero_le _,by unfold startB;simp;omega,aj,Z1,[],Ex.hidden ok1.sub hD,rfl,trivial,by simp,fun r hr=>by cases List.mem_singleton.mp hr;exact⟨ok1.sub.free hD,hD⟩⟩
   rintro j n σ2 H2 ys ⟨rfl,hle,hσ,hDy,Z2,rs,x2,rfl,rows,nd,fr⟩
   refine⟨hDy,?_⟩
   obtain⟨k1,k2⟩:=wk j H2 Z2 x2.z x2.sub
   have rl:rs.length=j:=by rw[rows.len,List.length_take];omega
   by_cases hlt:j < ds.length
   ·obtain⟨go,y⟩:=k1 hlt
    refine .inr ⟨go,fun x H' hy=>?_⟩
    obtain⟨Z3,d,x3,e3,rd⟩:=y x H' hy
    obtain⟨xs,em2,ea⟩:=mg j d e3
    show tCB (rLst F.K) (tCons (tVar 0) tNil) (σ2.set 0 (some x)) H' _
    refine⟨x,List.getElem?_set_self hσ,?_⟩
    obtain⟨b,p,vs,rfl,sb,rp⟩:=ym ea rd
    have h3D:H' D'=some (.lst (rs.map V.ref)):=x3.same _ _ hDy
    have there:∀ r∈D'::rs,∃ o,H2 r=some o:=fun r hr=>by
     rcases List.mem_cons.mp hr with rfl | hr
     ·exact⟨_,hDy⟩
     ·exact rows.there r hr
    have z3:∀ r∈D'::rs,Z3 r=none:=fun r hr=>by
     cases q:Z3 r with
     | none=>rfl
     | some o =>
      rcases x3.new r (by rw[q];simp) with z | z
      ·exact absurd (fr r hr).1 z
      ·obtain⟨u,hu⟩:=there r hr
       rw[hu]at z;cases z
    refine⟨p,vs,rfl,?_,fun l hl=>?_⟩
    ·cases b with
     | true=>exact .inr ((show SqT F.K Z3 p vs from sb).mono x3.sub)
     | false=>exact .inl (x3.sub.seq (show SqL F.K Z3 p vs from sb))
    ·have lD:l≠D':=fun z=>by rw[z,h3D]at hl;cases hl
     have lr:l∉rs:=fun z=>by
      obtain⟨u,hu⟩:=there l (.tail _ z)
      rw[x3.same _ _ hu]at hl;cases hl
     have l1:H1 l=none:=x2.same.free (x3.same.free hl)
     have zl:Z3 l=none:=x3.sub.free hl
     have xx:=x2.trans x3
     have ex':Ex H1 Z1 (upd (upd H' l (.lst vs)) D' (.lst (rs.map V.ref++[.ref l]))) Z3:=by
      refine⟨fun b o e=>?_,xx.z,fun b o e=>?_,xx.new⟩
      ·rw[ag (fun z=>by subst z;rw[hD]at e;cases e),ag (fun z=>by subst z;rw[l1]at e;cases e)];exact xx.same b o e
      ·rw[ag (fun z=>by subst z;rw[z3 _ (.head _)]at e;cases e),ag (fun z=>by subst z;rw[zl]at e;cases e)];exact xx.sub b o e
     refine⟨by rw[ag (Ne.symm lD)];exact h3D,by rw[List.length_map,rl];omega,ds.length - (j+1),by omega,rfl,hlt,by rw[List.length_set];exact hσ,aj,Z3,rs++[l],ex',by rw[List.map_append];rfl,?_,?_,?_⟩
     ·rw[List.take_succ,em2]
      refine Rows.snoc (vs:=vs) (by rw[ag lD,aj]) rp (rows.mono x3.z fun r hr o eo=>?_)
      have n1:r≠D':=fun z=>(List.nodup_cons.mp nd).1 (by rw[← z];exact hr)
      have n2:r≠l:=fun z=>lr (by rw[← z];exact hr)
      rw[ag n1,ag n2]
      exact x3.same _ _ eo
     ·rw[← List.cons_append,List.nodup_append]
      refine⟨nd,by simp,fun a ha b hb=>?_⟩
      cases List.mem_singleton.mp hb
      intro z
      subst z
      rcases List.mem_cons.mp ha with z | z
      ·exact lD z
      ·exact lr z
     ·intro r hr
      rw[← List.cons_append]at hr
      rcases List.mem_append.mp hr with hr | hr
      ·exact⟨z3 r hr,(fr r hr).2⟩
      ·cases List.mem_singleton.mp hr;exact⟨zl,l1⟩
   ·have ej:j=ds.length:=by omega
    refine .inl ⟨k2 (by omega),?_⟩
    have hm:m.take j=m:=List.take_of_length_le (by omega)
    rw[hm]at rows
    have w2:WO F Z2 (.nx (S.set i (some (.mat m)))) D:=w1 H2 Z2 x2
    exact w2 _ H2 Z2 (Same.refl _) (ok1.putNew (x:=.mat m) (A:=D'::rs) x2 ⟨D',rs,rfl,rfl,hDy,rows⟩ ⟨nd,fun a ha=>(fr a ha).1,fun a ha=>ok1.ex.same.free (fr a ha).2⟩ fun a ha=>(fr a ha).2)
theorem wa {X:Cx}{F:Fx}{r:Str}{pl pr pc:Pos}(hK:X.K=F.K)(hg:Gl X "list")(hm:X.mg "list"=none)(hr:X.N[0]?=some r:=by rfl)(hv:Vis X.env.scope r:=by first | exact Or.inl rfl | exact Or.inr (Or.inl rfl) | exact Or.inr (Or.inr rfl))
  (hd:(r==("__debug__":Str))=false:=by decide) (hcd:(r==("__classdict__":Str))=false:=by decide) (he:starEach [.Name r pr] X.env=(false,eval (.Name r pr) X.env)::starEach [] X.env:=by rfl) (hpl:(backTo pc (starEach [] X.env)).any (·.1)=false:=by rfl) :
  PE X (.Call (.Name "list" pl) [.Name r pr] [] pc) (tCB (rLst F.K) (tCons (tVar 0) tNil)):=by
 have:=d6 (p:=pl) (pos:=pc) (kJ (X:=X)) hg hm (by decide +kernel) (d5 (ci (pos:=pr) hr hv hd hcd) iF he) (he:=he) (hpl:=hpl)
 rw[hK]at this
 exact this
end
section
variable {X:Cx}{F:Fx}{tg iter elt:Expr}{ifs:List Expr}{scope:Scope}{N:List Str}{own:Nat}{cap:List Nat}{pos:Pos}{git:SS→R (List D)}{g:D→SS→R SS}{gc:SS→R Bool}{ge:SS→R D}
end
section
variable {X:Cx}{F:Fx}{p pos p1 p2 p3:Pos}{e:Expr}{g:SS→R D}{k:Nat}
end
end FF
end
noncomputable section
namespace L2
open PySem PySem.Spec PyProof.Rows
section
variable {κ:Type}[DecidableEq κ]
def valV (kvs:List (κ×V))(k:κ):Option V:=(kvs.find? fun kv=>decide (kv.1=k)).map (·.2)
def putK (kvs:List (κ×V))(k:κ)(v:V):List (κ×V) :=
 if (kvs.any fun kv=>decide (kv.1=k))=true then kvs.map (fun kv=>if kv.1=k then (kv.1,v) else kv) else kvs++[(k,v)]
theorem fF {p:κ×V}{r:List (κ×V)}{k:κ}(e:p.1=k):valV (p::r) k=some p.2:=by simp[valV,List.find?_cons,e]
theorem fG {p:κ×V}{r:List (κ×V)}{k:κ}(e:¬ p.1=k):valV (p::r) k=valV r k:=by simp[valV,List.find?_cons,e]
theorem l8 (k:κ):∀ kvs:List (κ×V),(kvs.any fun kv=>decide (kv.1=k))=(valV kvs k).isSome
 | []=>rfl
 | p::r=>by
  rw[List.any_cons]
  by_cases e:p.1=k
  ·simp only[fF e,decide_eq_true e,Bool.true_or,Option.isSome_some]
  ·rw[fG e,decide_eq_false e,Bool.false_or];exact l8 k r
theorem ik (kvs:List (κ×V))(k:κ)(v:V):(putK kvs k v).length≤kvs.length+1:=by
 unfold putK
 grind
theorem RelO.isSome_eq {o:Option V}{u:Option Value}(r:RelO o u):o.isSome=u.isSome:=by
 cases o with
 | none=>cases u with
  | none=>rfl
  | some _=>exact(show False from r).elim
 | some _=>cases u with
  | none=>exact(show False from r).elim
  | some _=>rfl
theorem RelO.getD {o:Option V}{u:Option Value}{d:V}{d':Value}(r:RelO o u)(rd:RelV d d'):RelV (o.getD d) (u.getD d'):=by
 cases o with
 | none=>cases u with
  | none=>exact rd
  | some _=>exact(show False from r).elim
 | some _=>cases u with
  | none=>exact(show False from r).elim
  | some _=>exact r
theorem KV.val {kvs:List (κ×V)}{vs:List (κ×Value)}(r:KV kvs vs)(k:κ):RelO (valV kvs k) (valueAt vs k):=by
 unfold KV at r
 induction r with
 | nil=>exact True.intro
 | @cons p q ps qs h t ih =>
  obtain⟨h1,h2⟩:=h
  by_cases e:p.1=k
  ·have e':q.1=k:=h1.symm.trans e
   have b:valueAt (q::qs) k=some q.2:=by simp[valueAt,List.find?_cons,e']
   rw[fF e,b];exact h2
  ·have e':¬ q.1=k:=fun z=>e (h1.trans z)
   have b:valueAt (q::qs) k=valueAt qs k:=by simp[valueAt,List.find?_cons,e']
   rw[fG e,b];exact ih
theorem KV.any {kvs:List (κ×V)}{vs:List (κ×Value)}(r:KV kvs vs)(k:κ):(kvs.any fun kv=>decide (kv.1=k))=vs.any fun kv=>decide (kv.1=k):=by
 unfold KV at r
 induction r with
 | nil=>rfl
 | cons h t ih=>rw[List.any_cons,List.any_cons,ih,h.1]
theorem KV.repl {kvs:List (κ×V)}{vs:List (κ×Value)}(r:KV kvs vs)(k:κ){y:V}{u:Value}(ry:RelV y u) :
  KV (kvs.map fun kv=>if kv.1=k then (kv.1,y) else kv) (vs.map fun kv=>if kv.1=k then (kv.1,u) else kv):=by
 unfold KV at r ⊢
 induction r with
 | nil=>exact .nil
 | @cons p q ps qs h t ih =>
  rw[List.map_cons,List.map_cons]
  refine .cons ?_ ih
  grind
theorem KV.put {kvs:List (κ×V)}{vs:List (κ×Value)}(r:KV kvs vs)(k:κ){y:V}{u:Value}(ry:RelV y u):KV (putK kvs k y) (stored vs k u):=by
 unfold putK stored
 rw[r.any k]
 by_cases e:(vs.any fun kv=>decide (kv.1=k))=true
 ·rw[if_pos e,if_pos e];exact r.repl k ry
 ·rw[if_neg e,if_neg e];exact Paired.snoc r ⟨rfl,ry⟩
theorem KV.length {kvs:List (κ×V)}{vs:List (κ×Value)}(r:KV kvs vs):kvs.length=vs.length:=Paired.length r
end
theorem uh {P:Program}{w:World}{k:Key}{u:Value}(r:RelV (kV k) u):(mixKind P w).is k u=true:=by
 cases k with
 | inl i=>obtain⟨t,e⟩:=(show ∃ t,u=Value.int i t from r);subst e;exact lI P w i t
 | inr x=>obtain⟨t,e⟩:=(show ∃ t,u=Value.str x t from r);subst e;exact lJ P w x t
theorem km {P:Program}{w:World}:∀ {ks:List Key} {us:List Value},Vals (ks.map kV) us→ItemsAre (mixKind P w) ks us
 | [],_,r=>by rw[List.map_nil]at r;cases r;exact .nil
 | k::ks,_,r=>by
  rw[List.map_cons]at r
  cases r with
  | cons h t=>exact .cons (uh h) (km t)
abbrev KT (H:Hp):List (List Key×V)→List (List Key×Addr×Value)→Prop:=Paired fun p q=>p.1=q.1∧H q.2.1=some (.tup (p.1.map kV))∧RelV p.2 q.2.2
theorem KT.val {H:Hp}{kvs:List (List Key×V)}{xs:List (List Key×Addr×Value)}(r:KT H kvs xs)(k:List Key):RelO (valV kvs k) ((atKey xs k).map (·.2)):=by
 induction r with
 | nil=>exact True.intro
 | @cons p q ps qs h t ih =>
  obtain⟨h1,_,h2⟩:=h
  by_cases e:p.1=k
  ·have e':q.1=k:=h1.symm.trans e
   have b:atKey (q::qs) k=some q.2:=by simp[atKey,List.find?_cons,e']
   rw[fF e,b];exact h2
  ·have e':¬ q.1=k:=fun z=>e (h1.trans z)
   have b:atKey (q::qs) k=atKey qs k:=by simp[atKey,List.find?_cons,e']
   rw[fG e,b];exact ih
theorem KT.repl {H:Hp}{kvs:List (List Key×V)}{xs:List (List Key×Addr×Value)}(r:KT H kvs xs)(k:List Key){y:V}{u:Value}(ry:RelV y u) :
  KT H (kvs.map fun kv=>if kv.1=k then (kv.1,y) else kv) (xs.map (putAt k u)):=by
 induction r with
 | nil=>exact .nil
 | @cons p q ps qs h t ih =>
  rw[List.map_cons,List.map_cons]
  refine .cons ?_ ih
  obtain⟨h1,h2,h3⟩:=h
  unfold putAt
  by_cases e:p.1=k
  ·rw[if_pos e,if_pos (h1.symm.trans e)];exact⟨h1,h2,ry⟩
  ·rw[if_neg e,if_neg (fun z=>e (h1.trans z))];exact⟨h1,h2,h3⟩
theorem KT.put {H:Hp}{kvs:List (List Key×V)}{xs:List (List Key×Addr×Value)}(r:KT H kvs xs)(k:List Key){b:Addr}{y:V}{u:Value}(hb:H b=some (.tup (k.map kV)))(ry:RelV y u) :
  KT H (putK kvs k y) (storedH xs k b u):=by
 have e:(kvs.any fun kv=>decide (kv.1=k))=(atKey xs k).isSome:=by
  rw[l8,(r.val k).isSome_eq,Option.isSome_map]
 unfold putK storedH
 rw[e]
 by_cases q:(atKey xs k).isSome=true
 ·rw[if_pos q,if_pos q];exact r.repl k ry
 ·rw[if_neg q,if_neg q];exact Paired.snoc r ⟨rfl,hb,ry⟩
theorem KT.keeps {H H':Hp}{kvs:List (List Key×V)}{xs:List (List Key×Addr×Value)}(r:KT H kvs xs)(ht:∀ b ys,H b=some (.tup ys)→H' b=some (.tup ys)):KT H' kvs xs :=
 Paired.mapP r fun _ _ z=>⟨z.1,ht _ _ z.2.1,z.2.2⟩
section
variable {P:Program}{w:World}{H:Hp}{h:Heap}{a:Addr}
theorem xk {u:HO}(ok:HOk P w H h)(e:Rd H a u):ObjOk P w H h a u:=e.ok ok
theorem ui {kvs:List (Key×V)}(ok:HOk P w H h)(e:Rd H a (.dK kvs)):kvs.length≤sizeLine∧(a==sysModules)=false∧∃ vs,KV kvs vs∧h.DictOf (mixKind P w) a vs :=
 show ObjOk P w H h a (.dK kvs) from xk ok e
theorem ze {kvs:List (Key×V)}(ok:HOk P w H h)(e:H a=some (.dK kvs)):kvs.length≤sizeLine∧(a==sysModules)=false∧∃ vs,KV kvs vs∧h.DictOf (mixKind P w) a vs:=ui ok (.inl e)
theorem nX {ks:List Key}(ok:HOk P w H h)(e:H a=some (.tup (ks.map kV))):(tupleKind (mixKind P w)).is h ks a:=by
 obtain⟨_,its,r,o,h1,h2,_,n,h3⟩:=(show ObjOk P w H h a (.tup (ks.map kV)) from ok a _ e)
 exact⟨o,its.toArray,n,h1,h2,h3,by simpa using km r⟩
theorem uj {kvs:List (List Key×V)}(ok:HOk P w H h)(e:Rd H a (.dT kvs)):kvs.length≤sizeLine∧(a==sysModules)=false ∧
  ∃ xs,KT H kvs xs∧h.DictOfH (tupleKind (mixKind P w)) a xs:=by
 obtain⟨z,y,xs,r,o,es,ep,h1,h2,h3,h4,h5⟩:=(show ObjOk P w H h a (.dT kvs) from xk ok e)
 refine⟨z,y,xs,r,o,es,ep,h1,h2,h3,h4,fun x hx=>?_,h5⟩
 have all:∀ {l:List (List Key×V)} {m:List (List Key×Addr×Value)},KT H l m→∀ x∈m,(tupleKind (mixKind P w)).is h x.1 x.2.1:=by
  intro l m q
  induction q with
  | nil=>intro x hx;exact nomatch hx
  | @cons p q ps qs hq t ih =>
   intro x hx
   rcases List.mem_cons.mp hx with e | hx
   ·subst e
    exact nX ok (by grind)
   ·exact ih x hx
 exact all r x hx
theorem zf {kvs:List (List Key×V)}(ok:HOk P w H h)(e:H a=some (.dT kvs)):kvs.length≤sizeLine∧(a==sysModules)=false ∧
  ∃ xs,KT H kvs xs∧h.DictOfH (tupleKind (mixKind P w)) a xs:=uj ok (.inl e)
end
def DGet (H:Hp)(a:Addr)(y:V)(r:Option V):Prop :=
 (∃ kvs k,Rd H a (.dK kvs)∧y=kV k∧r=valV kvs k)∨∃ kvs k b,Rd H a (.dT kvs)∧y=.ref b∧H b=some (.tup (k.map kV))∧r=valV kvs k
def DPut (H:Hp)(a:Addr)(y v:V)(H':Hp):Prop :=
 (∃ kvs k,H a=some (.dK kvs)∧y=kV k∧kvs.length < sizeLine∧H'=upd H a (.dK (putK kvs k v))) ∨
 ∃ kvs k b,H a=some (.dT kvs)∧y=.ref b∧H b=some (.tup (k.map kV))∧kvs.length < sizeLine∧H'=upd H a (.dT (putK kvs k v))
theorem DGet.k {H:Hp}{a:Addr}{kvs:List (Key×V)}{k:Key}(e:H a=some (.dK kvs)):DGet H a (kV k) (valV kvs k):=.inl ⟨kvs,k,.inl e,rfl,rfl⟩
theorem DPut.k {H:Hp}{a:Addr}{kvs:List (Key×V)}{k:Key}{v:V}(e:H a=some (.dK kvs))(hl:kvs.length < sizeLine):DPut H a (kV k) v (upd H a (.dK (putK kvs k v))):=.inl ⟨kvs,k,e,rfl,hl,rfl⟩
section
variable {X:Cx}{pins:List (Addr×Obj)}{σ:St}{H:Hp}{s:Shared}{a:Addr}{y v:V}{u r:Value}{o:Option V}{A:Around}{E:Value→Shared→Prop}
theorem Inv.big (I:Inv X pins σ H s):sysModules < s.heap.objs.size:=by
 have h:=(I.mod.glob.keeps I.bk).lt
 exact Nat.lt_trans (by decide) h
theorem rh {Q:Value→Shared→Prop}(hu:A.units+1 < cLine)(I:Inv X pins σ H s)(g:DGet H a y (some v))(ry:RelV y u)(h:∀ w' s',Inv X pins σ H s'→RelV v w'→Q w' s') :
  wpAny (model X.prog X.w) A (getItem (.ref a) u) Q E s:=by
 rcases g with ⟨kvs,k,e,ey,l⟩ | ⟨kvs,k,b,e,ey,eb,l⟩
 ·subst ey
  obtain⟨z,hd,vs,rel,dd⟩:=ui I.hok e
  obtain⟨w',hw,rw'⟩:=RelO.some_of (by rw[l];exact rel.val k)
  exact wpAny_getItem_of (uh ry) dd.mapOf hw (h w' _ (I.tok _) rw')
 ·subst ey
  cases (show u=Value.ref b from ry)
  obtain⟨z,hd,xs,rel,dd⟩:=uj I.hok e
  obtain⟨w',hw,rw'⟩:=RelO.some_of (by rw[l];exact rel.val k)
  obtain⟨p,hp,hp2⟩:=Option.map_eq_some_iff.mp hw
  refine wpAny_getItem_heap (tupleKind_room_in1 hu) (nX I.hok eb) dd hp ?_
  rw[hp2]
  exact h w' _ (I.tok _) rw'
theorem iC {h':Heap}{t':Nat}{ob:HO}(I:Inv X pins σ H s)(mu:Mut (H a))(hs:Heap.SameBut a s.heap h')(he:∃ q,h'.get? a=some q)(new:ObjOk X.prog X.w (upd H a ob) h' a ob) :
  Inv X pins σ (upd H a ob) { s with heap:=h',toks:=t' } :=
 I.write mu (.inl rfl) (fun b q hb z=>(hs.2 b hb).trans z) he new
theorem yo {P:Program}{w:World}{H':Hp}{h':Heap}{kvs:List (Key×V)}{vs:List (Key×Value)}(z:kvs.length≤sizeLine)(hd:(a==sysModules)=false)(rel:KV kvs vs)(dd:h'.DictOf (mixKind P w) a vs) :
  ObjOk P w H' h' a (.dK kvs):=⟨z,hd,vs,rel,dd⟩
theorem rj {H':Hp}{Q:Unit→Shared→Prop}(hu:A.units+1 < cLine)(I:Inv X pins σ H s)(g:DPut H a y v H')(ry:RelV y u)(rv:RelV v r)(h:∀ s',Inv X pins σ H' s'→Q () s') :
  wpAny (model X.prog X.w) A (setItem (.ref a) u r) Q E s:=by
 rcases g with ⟨kvs,k,e,ey,l,eH⟩ | ⟨kvs,k,b,e,ey,eb,l,eH⟩
 ·subst ey eH
  obtain⟨z,hd,vs,rel,dd⟩:=ze I.hok e
  have hz:vs.length≤sizeLine:=by rw[← rel.length];exact z
  have hl:(putK kvs k v).length≤sizeLine:=by have:=ik kvs k v;omega
  refine wpAny_setItem_pairs (uh ry) dd fun h' dd' hs=>h _ ?_
  have he:∃ q,h'.get? a=some q:=let ⟨q,_,_,hq,_⟩:=dd';⟨q,hq⟩
  exact iC I (by rw[e];exact True.intro) hs he (yo hl hd (rel.put k rv) dd')
 ·subst ey eH
  cases (show u=Value.ref b from ry)
  obtain⟨z,hd,xs,rel,dd⟩:=zf I.hok e
  have hz:xs.length≤sizeLine:=by rw[← Paired.length rel];exact z
  have hl:(putK kvs k v).length≤sizeLine:=by have:=ik kvs k v;omega
  refine wpAny_setItem_heap (tupleKind_room_in1 hu) (nX I.hok eb) dd fun h' dd' hs=>h _ ?_
  obtain⟨q,es,ep,hq,h2,h3,h4,_,h5⟩:=dd'
  refine iC I (by rw[e];exact True.intro) hs ⟨q,hq⟩ ⟨hl,hd,_,(rel.put k eb rv).keeps fun c ys ec=>?_,q,es,ep,hq,h2,h3,h4,h5⟩
  rw[ag (yG ec e (fun z=>nomatch z))]
  exact ec
end
section
variable {X:Cx}{pins:List (Addr×Obj)}{σ:St}{H:Hp}{s:Shared}{a:Addr}{kvs:List (Key×V)}{k:Key}{u:Value}{A:Around}{E:Value→Shared→Prop}
end
def NoSl (i:Expr):Prop:=∀ ov iv,subscripted i false ov iv=operate [ov,iv] (getItem ov iv)
theorem wb {prog:Program}{w:World}{A:Around}{E:Value→Shared→Prop}{s:Shared}{env:Env}{value slice:Expr}{pos:Pos}{T id:String}{Q:Value→Shared→Prop}
  (hl:typeLookup (.type T) "__getitem__"=pure (some (.builtin id))) (hs:NoSl slice)
  (h:wpAny (model prog w) A (eval value env) (fun o s₁=>wpAny (model prog w) A (eval slice env) (fun i s₂=>s₂.TypeIs o T∧wpAny (model prog w) A (getItem o i) Q E s₂) E s₁) E s) :
  wpAny (model prog w) A (eval (.Subscript value slice pos) env) Q E s:=by
 refine Subscript_ (wpAny_mono h (fun o s₁ h₁=>wpAny_mono h₁ (fun i s₂ h₂=>?_) fun _ _ x=>x) fun _ _ x=>x)
 obtain⟨hT,h₂⟩:=h₂
 unfold subscriptTail
 refine wpAny_bind ?_
 rw[getitemInPython_of_ne hT.not_modules]
 refine wpAny_bind (wpAny_specialOf hT hl ?_)
 have fin:wpAny (model prog w) A (subscripted slice false o i) (fun r s₃=>wpAny (model prog w) A (letTemporaryGo value o r >>= fun _=>pure r) Q E s₃) E s₂:=by
  rw[hs o i]
  exact wpAny_operating (wpAny_mono h₂ (fun r s₃ h₃=>wpAny_bind (wpAny_letTemporaryGo (wpAny_pure h₃))) fun _ _ x=>x)
 first
  | exact wpAny_pure (wpAny_bind fin)
  | exact wpAny_bind (wpAny_pure (wpAny_bind fin))
  | exact wpAny_bind fin
theorem l9 {X:Cx}{pins:List (Addr×Obj)}{σ:St}{H:Hp}{s:Shared}{a:Addr}{y:V}{o:Option V}(I:Inv X pins σ H s)(g:DGet H a y o):s.TypeIs (.ref a) "dict" := by
 rcases g with ⟨kvs,k,e,_,_⟩ | ⟨kvs,k,b,e,_,_,_⟩
 ·obtain⟨_,_,vs,_,dd⟩:=ui I.hok e
  exact dd.typeIs
 ·obtain⟨_,_,xs,_,dd⟩:=uj I.hok e
  exact dd.typeIs
def tDGet (td ty:TE):TE:=fun σ H Q=>td σ H fun x H1=>ty σ H1 fun y H2=>∃ a v,x=.ref a∧DGet H2 a y (some v)∧Q v H2
def sDPut (td ty tv:TE):TS:=fun D σ H=>tv σ H fun v H1=>td σ H1 fun x H2=>ty σ H2 fun y H3=>∃ a H4,x=.ref a∧DPut H3 a y v H4∧D.nx σ H4
section
variable {X:Cx}{o i e value:Expr}{pos pos' tpos:Pos}{td ty tv:TE}
theorem pz (hu:X.A.units+1 < cLine)(ho:PE X o td)(hi:PE X i ty)(hs:NoSl i):PE X (.Subscript o i pos) (tDGet td ty):=by
 intro pins s σ H Q I h
 refine wb PySem.F.slot_dict_getitem.lookup hs (thn (ho pins s σ H _ I h) fun u s1 ⟨x,H1,I1,rx,q1⟩=>thn (hi pins s1 σ H1 _ I1 q1) fun iv s2 ⟨y,H2,I2,ry,a,v,ex,g,q2⟩=>?_)
 subst ex
 obtain rfl:u=Value.ref a:=rx
 exact⟨l9 I2 g,rh hu I2 g ry fun w' s3 I3 rw'=>⟨v,H2,I3,rw',q2⟩⟩
theorem wc (hu:X.A.units+1 < cLine)(ho:PE X o td)(hi:PE X i ty)(hv:PE X value tv)(hs:swapsWith value (some (.Subscript o i pos')) pos.line X.env=pure false) :
  PS X (.Assign [.Subscript o i pos'] value pos) (sDPut td ty tv):=by
 intro pins s σ H D I h
 refine wpAny_Assign_Subscript (thn (hv pins s σ H _ I h) fun r s1 ⟨v,H1,I1,rv,q1⟩=>thn (ho pins s1 σ H1 _ I1 q1) fun u s2 ⟨x,H2,I2,rx,q2⟩=>thn (hi pins s2 σ H2 _ I2 q2) fun iv s3 ⟨y,H3,I3,ry,a,H4,ex,g,q3⟩=>?_) hs
 subst ex
 obtain rfl:u=Value.ref a:=rx
 exact rj hu I3 g ry rv fun s4 I4=>⟨σ,H4,I4,q3⟩
end
theorem uk {P:Program}{w:World}{H:Hp}(h:Heap)(hb:sysModules < h.objs.size):ObjOk P w H (h.push { cls:=.type "dict",data:=.dict #[] }) h.objs.size (.dK []) :=
 ⟨Nat.zero_le _,beq_eq_false_iff_ne.mpr (Ne.symm (Nat.ne_of_lt hb)),[],.nil,Heap.DictOf.new h⟩
def tDNewK:TE:=fun _ H Q=>∀ p,H p=none→Q (.ref p) (upd H p (.dK []))
section
variable {X:Cx}{pos:Pos}
theorem ul:PE X (.Dict [] [] pos) tDNewK:=fun pins s σ H Q I h =>
 wpAny_Dict_empty ⟨.ref s.heap.objs.size,_,I.laid (a:=s.heap.objs.size) (o:=.dK []) (t':=s.toks) (fun _ _ q=>Heap.get?_push_of_some _ q) (Nat.le_refl _) (uk s.heap I.big),rfl,h _ (I.hok.fresh (Nat.le_refl _))⟩
end
section
variable {X:Cx}{pins:List (Addr×Obj)}{σ:St}{H:Hp}{s:Shared}{a:Addr}{y d:V}{u r:Value}{o:Option V}{A:Around}{E:Value→Shared→Prop}
end
section
variable {X:Cx}{o e f:Expr}{apos cpos:Pos}{td ty tx:TE}
end
section
variable {X:Cx}{pins:List (Addr×Obj)}{σ:St}{H:Hp}{s:Shared}{a:Addr}{kvs:List (Key×V)}{A:Around}{E:Value→Shared→Prop}
end
section
variable {X:Cx}{pins:List (Addr×Obj)}{σ:St}{H:Hp}{s:Shared}{a:Addr}{y:V}{u:Value}{A:Around}{E:Value→Shared→Prop}
end
end L2
end
noncomputable section
namespace FF
open PySem PySem.Spec PyProof.Rows L2
def keyOf:D→Option Key
 | .int i=>some (.inl i)
 | .str s=>some (.inr s)
 | _=>none
def dicGet {κ:Type}[DecidableEq κ](m:List (κ×D))(k:κ):Option D:=(m.find? fun p=>decide (p.1=k)).map (·.2)
def dicPut {κ:Type}[DecidableEq κ](m:List (κ×D))(k:κ)(d:D):List (κ×D):=if (m.any fun p=>decide (p.1=k))=true then m.map (fun p=>if p.1=k then (p.1,d) else p) else m++[(k,d)]
def oDIx (m:List (Key×D))(k:D):R D:=match keyOf k with
 | some k=>match dicGet m k with
  | some d=>.ok d
  | none=>.stuck
 | none=>.stuck
def oDSt (m:List (Key×D))(k d:D):R (List (Key×D)):=match keyOf k with
 | some k=>if m.length < 1000000 then .ok (dicPut m k d) else .stuck
 | none=>.stuck
section
variable {κ:Type}{F:Fx}{Z:Hp}{m:List (κ×D)}{kvs:List (κ×V)}{k:κ}{d:D}{v:V}
theorem Pairs.cons (r:Rep F.K F.C Z d v)(h:Pairs F Z m kvs):Pairs F Z ((k,d)::m) ((k,v)::kvs) :=
 ⟨by rw[List.map_cons,List.map_cons,h.1],by rw[List.map_cons,List.map_cons,Reps];exact⟨_,_,rfl,r,h.2⟩⟩
theorem Pairs.nil:Pairs F Z ([]:List (κ×D)) []:=⟨rfl,by rw[List.map_nil,Reps];rfl⟩
theorem Pairs.inv (h:Pairs F Z ((k,d)::m) kvs):∃ v r,kvs=(k,v)::r∧Rep F.K F.C Z d v∧Pairs F Z m r:=by
 cases kvs with
 | nil=>have:=h.1;cases this
 | cons p r =>
  obtain⟨k',v⟩:=p
  obtain⟨h1,h2⟩:=h
  rw[List.map_cons,List.map_cons]at h1
  injection h1 with h1 h3
  rw[List.map_cons,List.map_cons,Reps]at h2
  obtain⟨v',r',e,q1,q2⟩:=h2
  injection e with e1 e2
  subst e1 e2
  cases (show k'=k from h1)
  exact⟨v,r,rfl,q1,h3,q2⟩
theorem Pairs.inv0 (h:Pairs F Z ([]:List (κ×D)) kvs):kvs=[]:=by
 cases kvs with
 | nil=>rfl
 | cons p r=>have:=h.1;cases this
theorem Pairs.mono {Z':Hp}(h:Pairs F Z m kvs)(s:Same Z Z'):Pairs F Z' m kvs:=⟨h.1,h.2.mono s⟩
theorem Pairs.length (h:Pairs F Z m kvs):kvs.length=m.length:=by have:=congrArg List.length h.1;simpa using this
theorem Pairs.append {m':List (κ×D)}{r:List (κ×V)}:∀ {m:List (κ×D)} {kvs:List (κ×V)},Pairs F Z m kvs→Pairs F Z m' r→Pairs F Z (m++m') (kvs++r)
 | [],kvs,h,h'=>by rw[h.inv0];exact h'
 | (k,d)::m,kvs,h,h'=>by
  obtain⟨v,q,rfl,h1,h2⟩:=h.inv
  exact(h2.append h').cons h1
variable [DecidableEq κ]
theorem Pairs.get:∀ {m:List (κ×D)} {kvs:List (κ×V)},Pairs F Z m kvs→dicGet m k=some d→∃ v,valV kvs k=some v∧Rep F.K F.C Z d v
 | [],kvs,h,e=>nomatch e
 | (k',d')::m,kvs,h,e=>by
  obtain⟨v,q,rfl,h1,h2⟩:=h.inv
  unfold dicGet at e
  rw[List.find?_cons]at e
  by_cases hk:k'=k
  ·rw[decide_eq_true (show (k',d').1=k from hk)]at e
   cases e
   exact⟨v,fF hk,h1⟩
  ·rw[decide_eq_false (show ¬ (k',d').1=k from hk)]at e
   obtain⟨u,e1,e2⟩:=h2.get e
   exact⟨u,by rw[fG hk];exact e1,e2⟩
theorem Pairs.any:∀ {m:List (κ×D)} {kvs:List (κ×V)},Pairs F Z m kvs→(kvs.any fun kv=>decide (kv.1=k))=(m.any fun p=>decide (p.1=k))
 | [],kvs,h=>by rw[h.inv0];rfl
 | (k',d')::m,kvs,h=>by
  obtain⟨v,q,rfl,h1,h2⟩:=h.inv
  rw[List.any_cons,List.any_cons,h2.any]
theorem Pairs.upd (r:Rep F.K F.C Z d v):∀ {m:List (κ×D)} {kvs:List (κ×V)},Pairs F Z m kvs→Pairs F Z (m.map fun p=>if p.1=k then (p.1,d) else p) (kvs.map fun kv=>if kv.1=k then (kv.1,v) else kv)
 | [],kvs,h=>by rw[h.inv0];exact Pairs.nil
 | (k',d')::m,kvs,h=>by
  obtain⟨u,q,rfl,h1,h2⟩:=h.inv
  rw[List.map_cons,List.map_cons]
  by_cases hk:k'=k
  ·rw[if_pos (show (k',d').1=k from hk),if_pos (show (k',u).1=k from hk)]
   exact(h2.upd r).cons r
  ·rw[if_neg (show ¬ (k',d').1=k from hk),if_neg (show ¬ (k',u).1=k from hk)]
   exact(h2.upd r).cons h1
theorem Pairs.put (r:Rep F.K F.C Z d v)(h:Pairs F Z m kvs):Pairs F Z (dicPut m k d) (putK kvs k v):=by
 unfold dicPut putK
 rw[h.any]
 split
 ·exact h.upd r
 ·exact h.append (Pairs.nil.cons r)
end
section
variable {F:Fx}{H Z:Hp}{S:SS}{σ:St}
theorem StOk.dic (h:StOk F H Z S σ)(i:Nat)(m:List (Key×D))(e:S[i]?=some (some (.dic m))):∃ a kvs,σ[i]?=some (some (.ref a))∧H a=some (.dK kvs)∧Pairs F Z m kvs:=by
 obtain⟨v,A,e1,⟨a,kvs,rfl,rfl,e2,r⟩,_⟩:=h.sl i _ e
 grind
theorem gF {K:PySem.W.Frag}{C:Nat→Addr}{d:D}{k:Key}{y:V}(e:keyOf d=some k)(r:Rep K C Z d y):y=kV k:=by
 cases d with
 | int i=>cases e;rw[Rep]at r;exact r
 | str s=>cases e;rw[Rep]at r;exact r
 | _=>cases e
end
def sDicNew (i:Nat):SS→O:=fun S=>.nx (S.set i (some (.dic [])))
def eDicIx (i:Nat)(g:SS→R D):SS→R D:=fun S=>match S[i]? with
 | some (some (.dic m))=>(g S).bind fun k=>oDIx m k
 | _=>.stuck
def sDicSt (i:Nat)(gi ge:SS→R D):SS→O:=fun S=>match S[i]? with
 | some (some (.dic m))=>rO (((ge S).bind fun v=>(gi S).bind fun k=>oDSt m k v).bind fun m'=>.ok (.nx (S.set i (some (.dic m')))))
 | _=>.stuck
section
variable {X:Cx}{F:Fx}{pos p:Pos}{k:Nat}{g ge:SS→R D}{e ei:Expr}{x:Str}
theorem rk (i:Nat){pos':Pos}(hN:X.N.Nodup)(hi:X.N[i]?=some x:=by rfl)(hx:Loc X.env.scope x:=by first | exact Or.inl rfl | exact Or.inr rfl)(hs:swapsWith (.Dict [] [] p) (some (.Name x pos')) pos.line X.env=pure false:=by rfl)
  (hf:X.fn x=true∨X.env.scope.names.lookup x=some .local:=by first | exact .inl rfl | exact .inr rfl):FS X F (.Assign [.Name x pos'] (.Dict [] [] p) pos) (sDicNew i) :=
 (gn hN hi hx ul hs hf).weak fun D σ H ⟨Z,S,ok,w⟩=>fun a hp=>by
  have w2:WO F Z (.nx (S.set i (some (.dic [])))) D:=w
  exact w2 _ _ Z (Same.refl _) (ok.putNew (x:=.dic []) (A:=[a]) (Ex.hidden ok.sub hp) ⟨a,[],rfl,rfl,aj,Pairs.nil⟩ ⟨by simp,fun b hb=>by cases List.mem_singleton.mp hb;exact ok.sub.free hp,fun b hb=>by cases List.mem_singleton.mp hb;exact ok.ex.same.free hp⟩ fun b hb=>by cases List.mem_singleton.mp hb;exact hp)
theorem zg (i:Nat){p0:Pos}(bx:BX X F k)(he:FE X F e g)(hs:NoSl e:=by intro _ _;rfl)(hi:X.N[i]?=some x:=by rfl)(hv:Vis X.env.scope x:=by first | exact Or.inl rfl | exact Or.inr (Or.inl rfl) | exact Or.inr (Or.inr rfl))(hd:(x==("__debug__":Str))=false:=by decide)
  (hcd:(x==("__classdict__":Str))=false:=by decide):FE X F (.Subscript (.Name x p0) e pos) (eDicIx i g) :=
 (pz (by have:=bx.room.un;omega) (ci hi hv hd hcd) he hs).weak fun σ H Q ⟨Z,S,ok,w⟩=>by
  unfold eDicIx at w
  split at w
  ·rename_i m e0
   obtain⟨a,kvs,e1,e2,r⟩:=ok.dic i m e0
   refine⟨.ref a,e1,aA ok w fun d y H1 Z1 ok1 x1 ry w1=>?_⟩
   unfold oDIx at w1
   split at w1
   ·rename_i kk ek
    split at w1
    ·rename_i d' ed
     obtain⟨v,f1,f2⟩:=(r.mono x1.z).get ed
     rw[gF ek ry]
     refine⟨a,v,rfl,?_,WG.now w1 ok1.sub v f2⟩
     rw[← f1]
     exact DGet.k (x1.same _ _ e2)
    ·exact w1.elim
   ·exact w1.elim
  ·exact w.elim
theorem um (i:Nat){p0 pos':Pos}(bx:BX X F k)(he:FE X F e ge)(hix:FE X F ei g)(hi:X.N[i]?=some x:=by rfl)(hv:Vis X.env.scope x:=by first | exact Or.inl rfl | exact Or.inr (Or.inl rfl) | exact Or.inr (Or.inr rfl))(hd:(x==("__debug__":Str))=false:=by decide)
  (hcd:(x==("__classdict__":Str))=false:=by decide) (hs:swapsWith e (some (.Subscript (.Name x p0) ei pos')) pos.line X.env=pure false:=by rfl) :
  FS X F (.Assign [.Subscript (.Name x p0) ei pos'] e pos) (sDicSt i g ge) :=
 (wc (by have:=bx.room.un;omega) (ci hi hv hd hcd) hix he hs).weak fun D σ H ⟨Z,S,ok,w⟩=>by
  unfold sDicSt at w
  split at w
  ·rename_i m e0
   have w0:=WO.wg ok w
   rw[R.bind_assoc]at w0
   refine aA ok w0 fun d v H1 Z1 ok1 x1 rv w1=>?_
   obtain⟨a,kvs,e1,e2,r⟩:=ok1.dic i m e0
   rw[R.bind_assoc]at w1
   refine⟨.ref a,e1,aA ok1 w1 fun dk y H2 Z2 ok2 x2 ry w2=>?_⟩
   unfold oDSt at w2
   split at w2
   ·rename_i kk ek
    split at w2
    ·rename_i hl
     rw[gF ek ry]
     have e3:=x2.same _ _ e2
     have r2:=r.mono x2.z
     refine⟨a,_,rfl,DPut.k e3 (by rw[r2.length,sizeLine_eq];omega),?_⟩
     have w3:=WG.now w2 ok2.sub
     exact w3 σ _ Z2 (Same.refl _) (ok2.rewr e0 e1 ⟨a,kvs,rfl,rfl,e3,r2⟩ ⟨a,_,rfl,rfl,aj,r2.put (rv.mono x2.z)⟩ fun b hb=>ag (fun z=>hb (by rw[z];exact List.mem_singleton.mpr rfl)))
    ·exact w2.elim
   ·exact w2.elim
  ·exact w.elim
end
abbrev dc (m:List (Key×D)):Option Sl:=some (.dic m)
section
variable {X:Cx}{F:Fx}{pos p:Pos}{keys:List (Option Expr)}{values:List Expr}{ks:List Key}{gs:List (SS→R D)}{g:SS→R D}{e:Expr}{x:Str}
end
def insS (i:Int):List Int→List Int
 | []=>[i]
 | a::r=>if i≤a then i::a::r else a::insS i r
def sortI (is:List Int):List Int:=is.foldr insS []
theorem gG (i:Int):∀ l:List Int,(insS i l).Perm (i::l)
 | []=>.refl _
 | a::r=>by
  unfold insS
  split
  ·exact .refl _
  ·exact((gG i r).cons a).trans (.swap i a r)
theorem eZ:∀ is:List Int,(sortI is).Perm is
 | []=>.refl _
 | i::is=>(gG i _).trans ((eZ is).cons i)
theorem pA (i:Int):∀ l:List Int,l.Pairwise (·≤·)→(insS i l).Pairwise (·≤·)
 | [],_=>by unfold insS;exact List.pairwise_singleton _ _
 | a::r,h=>by
  unfold insS
  have h1:=List.pairwise_cons.mp h
  split
  ·rename_i q
   exact List.pairwise_cons.mpr ⟨fun b hb=>by rcases List.mem_cons.mp hb with rfl | hb;exact q;exact Int.le_trans q (h1.1 b hb),h⟩
  ·rename_i q
   exact List.pairwise_cons.mpr ⟨fun b hb=>by rcases List.mem_cons.mp ((gG i r).subset hb) with rfl | hb;omega;exact h1.1 b hb,pA i r h1.2⟩
theorem ma:∀ is:List Int,(sortI is).Pairwise (·≤·)
 | []=>.nil
 | i::is=>pA i _ (ma is)
theorem iZ:∀ {a b:List Int},a.Perm b→a.Pairwise (·≤·)→b.Pairwise (·≤·)→a=b
 | [],b,p,_,_=>(List.nil_perm.mp p).symm
 | x::xs,[],p,_,_=>nomatch p.length_eq
 | x::xs,y::ys,p,ha,hb=>by
  have h1:=List.pairwise_cons.mp ha
  have h2:=List.pairwise_cons.mp hb
  have e:x=y:=by
   have m1:x∈y::ys:=p.subset List.mem_cons_self
   have m2:y∈x::xs:=p.symm.subset List.mem_cons_self
   rcases List.mem_cons.mp m1 with e | m1
   ·exact e
   ·rcases List.mem_cons.mp m2 with e | m2
    ·exact e.symm
    ·have a1:=h1.1 y m2
     have a2:=h2.1 x m1
     omega
  subst e
  rw[iZ (List.Perm.cons_inv p) h1.2 h2.2]
section
variable {X:Cx}{F:Fx}{p pos:Pos}{e:Expr}{gs:SS→R (List D)}{k:Nat}
theorem me:CallR X (.builtin "sorted") (fun xs H Q=>∃ (a:Addr) (is:List Int),xs=[.ref a]∧SqL X.K H a (is.map V.int)∧is.length < 64∧∀ p,H p=none→Q (.ref p) (upd H p (.lst ((sortI is).map V.int)))):=by
 intro pins s σ H xs us Q I r h
 obtain⟨a,is,rfl,hq,hl,q⟩:=h
 obtain⟨u,rfl,ru⟩:=vals1 r
 cases ru
 obtain⟨its,rv,pl,hz⟩:=I.list hq
 have hlen:its.length=is.length:=by have:=rv.length;rw[List.length_map]at this;omega
 refine sorted_ints (ns:=is) pl.isList (cX rv) (by omega) fun out ns' a1 a2 a3=>?_
 have e:=iZ (a2.trans (eZ is).symm) a3 (ma is)
 subst e
 obtain⟨n,hn⟩:=sortedAll_at s.heap its out
 have hz2:((sortI is).map V.int).length≤sizeLine:=by rw[List.length_map,(eZ is).length_eq,sizeLine_eq];omega
 exact⟨.ref (s.heap.objs.size+1),_,I.laid (o:=.lst ((sortI is).map V.int)) (t':=s.toks) (fun b u q=>sortedAll_old q) (Nat.le_succ _) ⟨hz2,out.toList,n,L2.aT a1,by simpa [seqObj] using hn⟩,rfl,q _ (I.hok.fresh (Nat.le_succ _))⟩
theorem e9 {F:Fx}{Z:Hp}:∀ is:List Int,Reps F.K F.C Z (is.map .int) (is.map V.int)
 | []=>Reps.nil
 | i::is=>Reps.cons aF (e9 is)
end
section
variable {X:Cx}{F:Fx}{pos p:Pos}{k:Nat}{ga gb:SS→R D}{a b:Expr}{x:Str}
end
theorem fH {α β:Type}{f g:α→Option β}:∀ {l:List α},(∀ x∈l,f x=g x)→l.filterMap f=l.filterMap g
 | [],_=>rfl
 | a::r,h=>by rw[List.filterMap_cons,List.filterMap_cons,h a List.mem_cons_self,fH fun x hx=>h x (List.mem_cons_of_mem _ hx)]
theorem gH {α:Type}:∀ l:List α,(List.range l.length).filterMap (fun m=>l[l.length - 1 - m]?)=l.reverse
 | []=>rfl
 | a::r=>by
  rw[List.length_cons,List.range_succ,List.filterMap_append,List.reverse_cons]
  congr 1
  ·rw[← gH r]
   refine fH fun m hm=>?_
   have hm:=List.mem_range.mp hm
   rw[show r.length+1 - 1 - m=(r.length - 1 - m)+1 by omega,List.getElem?_cons_succ]
  ·simp
theorem uo (xs:Array Value):((List.range xs.size).filterMap fun (m:Nat)=>xs[(((xs.size:Int) - 1)+(m:Int)*(-1)).toNat]?).toArray=xs.toList.reverse.toArray:=by
 rw[← gH xs.toList,Array.length_toList]
 congr 1
 refine fH fun m hm=>?_
 have hm:=List.mem_range.mp hm
 rw[show (((xs.size:Int) - 1)+(m:Int)*(-1)).toNat=xs.size - 1 - m by omega,Array.getElem?_toList]
section
variable {prog:Program}{w:World}{A:Around}{E:Value→Shared→Prop}{s:Shared}
theorem gJ {sl:Addr}{t:Tok}{n:Nat}{Q:Int×Int×Nat→Shared→Prop}(hs:s.heap.IsSliceOf sl .none .none (.int (-1) t))
  (h:Q ((n:Int) - 1,-1,n) s):wpAny (model prog w) A (Builtin.Slice.sliceApplied (.ref sl) (pure (n:Int))) Q E s:=by
 obtain⟨os,hos,hcs,hds⟩:=id hs
 unfold Builtin.Slice.sliceApplied Builtin.Slice.sliceFields
 refine wpAny_bind (wpAny_bind (wpAny_field hos hds (x:=.none) rfl (wpAny_bind (wpAny_field hos hds (x:=.none) rfl (wpAny_bind (wpAny_field hos hds (x:=.int (-1) t) rfl (wpAny_pure ?_)))))))
 refine wpAny_bind (slicePart_int ?_)
 show wpAny _ _ (if ((-1:Int)==0)=true then _ else _) _ _ s
 rw[if_neg (by decide)]
 refine wpAny_bind (slicePart_none (wpAny_bind (slicePart_none (wpAny_bind (wpAny_pure ?_)))))
 show wpAny _ _ (match Builtin.Slice.sliceAdjust none none (-1) (n:Int) with | (lo,hi)=>pure (lo,(-1:Int),Builtin.Slice.slicePlaces lo hi (-1))) _ _ s
 have e:Builtin.Slice.sliceAdjust none none (-1) (n:Int)=((n:Int) - 1,-1):=rfl
 rw[e]
 show wpAny _ _ (pure ((n:Int) - 1,(-1:Int),Builtin.Slice.slicePlaces ((n:Int) - 1) (-1) (-1))) _ _ s
 have p:Builtin.Slice.slicePlaces ((n:Int) - 1) (-1) (-1)=n:=by
  unfold Builtin.Slice.slicePlaces
  rw[if_neg (by decide),show (-(-1):Int)=1 by decide,Int.ediv_one]
  split<;>omega
 rw[p]
 exact wpAny_pure h
theorem fJ {t sl:Addr}{items:Array Value}{tk:Tok}{Q:Value→Shared→Prop}(ht:IsTup s.heap t items)(hs:s.heap.IsSliceOf sl .none .none (.int (-1) tk))
  (h:Q (.ref s.heap.objs.size) { s with heap:=s.heap.push { cls:=.type "tuple",data:=.seq items.toList.reverse.toArray } })
  (hsz:items.size≤sizeLine):wpAny (model prog w) A (getItem (.ref t) (.ref sl)) Q E s:=by
 have htake:sizeOk (.seq items.toList.reverse.toArray):=by
  show items.toList.reverse.toArray.size≤sizeLine
  rw[List.size_toArray,List.length_reverse,Array.length_toList]
  exact hsz
 obtain⟨os,hos,hcs,hds⟩:=id hs
 have hTs:s.TypeIs (.ref sl) "slice" := ⟨os,hos,hcs⟩
 unfold getItem
 try with_reducible refine wpAny_holding ?_
 first | refine wpAny_bind (wpAny_pure ?_) | skip
 refine wpAny_bind (wpAny_sequenceKey ht.typeIs (by decide) ?_)
 refine wpAny_bind (wpAny_callSpecial?_slot (name:=Str.ofString "__getitem__") ht.typeIs PyProof.Rows.slot_tuple_getitem
  (wpAny_call_entry PyProof.Rows.slot_tuple_getitem ht.typeIs entry_tuple_getitem ?_ (args_tuple_getitem _ _)))
 show wpAny _ _ (Builtin.Tuple.tupleItemsOf (.ref t) >>= _) _ _ s
 refine wpAny_bind (tupleItemsOf_ ht ?_)
 refine wpAny_bind (wpAny_typeOf hTs ?_)
 rw[if_pos (by decide)]
 refine wpAny_bind (gJ hs ?_)
 have hno:¬ ((((items.size:Int) - 1)==0&&(-1:Int)==1&&items.size==items.size)=true):=by
  intro q
  rw[Bool.and_eq_true,Bool.and_eq_true]at q
  exact absurd q.1.2 (by decide)
 show wpAny _ _ (if (((items.size:Int) - 1)==0&&(-1:Int)==1&&items.size==items.size)=true then _ else _) _ _ s
 rw[if_neg hno,uo]
 first
  | exact wpAny_bind (m:=Builtin.Tuple.tupleExact _) (wpAny_newObj_type (wpAny_pure ⟨_,rfl,wpAny_pure h⟩) htake)
  | exact wpAny_bind (m:=Builtin.Tuple.tupleExact _) (wpAny_newObj_type (wpAny_bind (wpAny_pure (wpAny_pure ⟨_,rfl,wpAny_pure h⟩))) htake)
  | exact wpAny_bind (wpAny_bind (m:=Builtin.Tuple.tupleExact _) (wpAny_newObj_type (wpAny_pure (wpAny_pure ⟨_,rfl,wpAny_pure h⟩)) htake))
  | exact wpAny_bind (wpAny_bind (m:=Builtin.Tuple.tupleExact _) (wpAny_newObj_type (wpAny_pure ⟨_,rfl,wpAny_pure h⟩) htake))
theorem jL (items:Array Value):slicePick items none none (some (-1))=items.toList.reverse.toArray:=by
 unfold slicePick
 have b:sliceBounds none none (some (-1)) items.size=((items.size:Int) - 1,-1,-1):=rfl
 rw[b]
 have r:sliceRange ((items.size:Int) - 1) (-1) (-1)=(List.range items.size).map fun k=>items.size - 1 - k:=by
  unfold sliceRange
  have c:(if (-1:Int) > 0 then (if (items.size:Int) - 1 < -1 then (-1 - ((items.size:Int) - 1) + -1 - 1) / -1 else 0) else (if (items.size:Int) - 1 > -1 then ((items.size:Int) - 1 - -1 - -1 - 1)/(-(-1)) else 0)).toNat=items.size:=by
   rw[if_neg (by decide),show (-(-1):Int)=1 by decide,Int.ediv_one]
   split<;>omega
  show (List.range _).map _=_
  rw[c]
  exact List.map_congr_left fun k hk=>by have:=List.mem_range.mp hk;omega
 show ((sliceRange ((items.size:Int) - 1) (-1) (-1)).filterMap (items[·]?)).toArray=_
 rw[r,List.filterMap_map,← gH items.toList,Array.length_toList]
 congr 1
 exact fH fun m _=>by rw[Array.getElem?_toList];rfl
end
section
variable {X:Cx}{F:Fx}{e st:Expr}{te:TE}{g:SS→R D}{pos p2:Pos}
def rRev (K:PySem.W.Frag):V→Hp→VK→Prop:=fun x H Q=>∃ a xs,x=.ref a∧((SqT K H a xs∧∀ p,H p=none→Q (.ref p) (upd H p (.tup xs.reverse)))∨(SqL K H a xs∧∀ p,H p=none→Q (.ref p) (upd H p (.lst xs.reverse))))
theorem i0:∀ {xs:List V} {us:List Value},Vals xs us→Vals xs.reverse us.reverse
 | _,_,.nil=>.nil
 | _,_,.cons h r=>by rw[List.reverse_cons,List.reverse_cons];exact(i0 r).append (.cons h .nil)
theorem mf {pins:List (Addr×Obj)}{s:Shared}{σ:L2.St}{H:Hp}{x:V}{v:Value}{sl:Addr}{tk:Tok}{Q:VK}(I:Inv X pins σ H s)(rx:RelV x v)(hs:s.heap.IsSliceOf sl .none .none (.int (-1) tk))(h:rRev X.K x H Q) :
  ∃ T id,typeLookup (.type T) "__getitem__"=pure (some (.builtin id))∧s.TypeIs v T∧wpAny (model X.prog X.w) X.A (getItem v (.ref sl)) (EP X pins σ Q) X.xe s:=by
 obtain⟨a,xs,rfl,h⟩:=h
 cases rx
 rcases h with ⟨hx,q⟩ | ⟨hx,q⟩
 ·obtain⟨its,r,ht,hz⟩:=I.tuple hx
  have hlen:its.toArray.size=xs.length:=by rw[List.size_toArray];exact r.length.symm
  refine⟨"tuple",_,PyProof.Rows.slot_tuple_getitem.lookup,ht.typeIs,?_⟩
  refine fJ ht hs ?_ (by rw[hlen];exact hz)
  refine⟨.ref s.heap.objs.size,_,I.laid (t':=s.toks) (o:=.tup xs.reverse) (fun b ob q=>Heap.get?_push_of_some _ q) (Nat.le_refl _) ?_,rfl,q _ (I.hok.fresh (Nat.le_refl _))⟩
  exact⟨by rw[List.length_reverse];exact hz,_,i0 r,TupO.new _ _⟩
 ·obtain⟨its,r,pl,hz⟩:=I.list hx
  have hlen:its.toArray.size=xs.length:=by rw[List.size_toArray];exact r.length.symm
  refine⟨"list",_,list_getitem_lookup,pl.isList.typeIs,?_⟩
  refine wpAny_getItem_list_slice (lo:=none) (hi:=none) (st:=some (-1)) pl.isList hs .none .none (.int _ _) (by decide) ?_ (by rw[hlen];exact hz)
  rw[jL]
  exact⟨.ref s.heap.objs.size,_,I.lnew (t':=s.toks) (i0 r) (by rw[List.length_reverse];exact hz),rfl,q _ (I.hok.fresh (Nat.le_refl _))⟩
def tRev (K:PySem.W.Frag)(te:TE):TE:=fun σ H Q=>te σ H fun x H1=>rRev K x H1 Q
theorem yq (he:PE X e te)(hst:PE X st (tC (.int (-1)))):PE X (.Subscript e (.Slice none none (some st) p2) pos) (tRev X.K te):=by
 intro pins s σ H Q I h
 refine Subscript_ (thn (he pins s σ H _ I h) fun v s1 ⟨x,H1,I1,r1,q1⟩=>?_)
 refine wpAny_Slice ?_
 rw[evalPart_none]
 refine wpAny_pure (wpAny_pure ?_)
 rw[evalPart_some]
 refine thn (hst pins s1 σ H1 (fun y H2=>y=.int (-1)∧H2=H1) I1 ⟨rfl,rfl⟩) fun u s2 ⟨y,H2,I2,r2,ey,eh⟩=>?_
 subst ey eh
 obtain⟨tk,rfl⟩:=r2
 have I4:Inv X pins σ H2 { s2 with heap:=s2.heap.push { cls:=.type "slice",data:=.fields #[.none,.none,.int (-1) tk] } }:=I2.kept (t':=s2.toks) fun b ob q=>Heap.get?_push_of_some _ q
 obtain⟨T,id,hT,ht,hg⟩:=mf (sl:=s2.heap.objs.size) (tk:=tk) I4 r1 (Heap.IsSliceOf.new ..) q1
 show wpAny (model X.prog X.w) X.A (subscriptTail e (.Slice none none (some st) p2) v (.ref s2.heap.objs.size)) (EP X pins σ Q) X.xe { s2 with heap:=s2.heap.push { cls:=.type "slice",data:=.fields #[.none,.none,.int (-1) tk] } }
 exact tail_any (ops:=[v,.ref s2.heap.objs.size]) ht hT hg (by with_unfolding_all rfl)
theorem zi {j p3}:PE X (.UnaryOp .USub (.Constant (.int 1) j p3) pos) (tC (.int (-1))):=(xb sJ sE).weak fun σ H Q h=>⟨1,rfl,h⟩
theorem i4 {F:Fx}{Z:Hp}:∀ {ds:List D} {vs:List V},Reps F.K F.C Z ds vs→Reps F.K F.C Z ds.reverse vs.reverse
 | [],vs,h=>by rw[Reps]at h;subst h;exact Reps.nil
 | d::ds,vs,h=>by
  rw[Reps]at h
  obtain⟨v,r,rfl,h1,h2⟩:=h
  rw[List.reverse_cons,List.reverse_cons]
  exact(i4 h2).append (Reps.cons h1 Reps.nil)
theorem yr (hK:X.K=F.K)(he:FE X F e g)(hst:PE X st (tC (.int (-1)))):FE X F (.Subscript e (.Slice none none (some st) p2) pos) (fun S=>(g S).bind dRev) :=
 (yq he hst).weak fun σ H Q ⟨Z,S,ok,w⟩=>aA ok w fun d v H1 Z1 ok1 x1 rv w1=>by
  unfold dRev at w1
  split at w1
  ·rename_i xs
   rw[Rep]at rv
   obtain⟨a,vs,rfl,h1,h2⟩:=rv
   refine⟨a,vs,rfl,.inr ⟨by rw[hK];exact ok1.sub.seq h1,fun p hp=>?_⟩⟩
   have z:Same Z1 (upd Z1 p (.lst vs.reverse)):=aC (ok1.sub.free hp)
   exact w1 _ _ (Ex.alloc ok1.sub hp) _ (by rw[Rep];exact⟨p,_,rfl,SqL.of aj,(i4 h2).mono z⟩)
  ·rename_i xs
   rw[Rep]at rv
   obtain⟨a,vs,rfl,h1,h2⟩:=rv
   refine⟨a,vs,rfl,.inl ⟨by rw[hK];exact h1.mono ok1.sub,fun p hp=>?_⟩⟩
   have z:Same Z1 (upd Z1 p (.tup vs.reverse)):=aC (ok1.sub.free hp)
   exact w1 _ _ (Ex.alloc ok1.sub hp) _ (by rw[Rep];exact⟨p,_,rfl,SqT.of aj,(i4 h2).mono z⟩)
  ·exact w1.elim
end
end FF
end
noncomputable section
namespace HT
open PySem PyProof.Rows
section
open PySem.SeqAt
open PySem.AutoSeq1 (wpAny_loadPart')
open PySem.MeetsSeq PySem.MeetsSeq2 PySem.MeetsSeq3
end
section
variable {prog:Program}{w:World}{A:Around}{E:Value→Shared→Prop}{s:Shared}
end
end HT
end
noncomputable section
namespace FF
open PySem PySem.Spec PyProof.Rows L2
section
variable {X:Cx}{F:Fx}{a b:Expr}{ga gb:SS→R D}{pos:Pos}{k:Nat}
end
section
variable {M:Model}{A:Around}{E:Value→Shared→Prop}{s:Shared}
def HeldA (B:Heap)(l:List Env)(e:Addr)(cls a0:Value)(h:Heap):Prop:=B.StaysIn h∧B.get? e=none∧h.FunFrames B l∧∃ fl,h.TracedAtW B e cls a0 fl
theorem mh {B:Heap}{l:List Env}{e:Addr}{fr:Option Addr}{cls a0:Value}{Q:Unit→Shared→Prop}(hh:HeldA B l e cls a0 s.heap)
  (hQ:∀ h',HeldA B l e cls a0 h'→s.heap.UpToSlots h'→Q () { s with heap:=h' }):wpAny M A (setFlight (.ref e) fr) Q E s:=by
 obtain⟨st,en,ff,fl,oe,vs,T,oT,ts,he,hc,hd,v1,bT,Te,hT,dT,v3⟩:=hh
 have lt3:3 < ts.size:=(Array.getElem?_eq_some_iff.mp v3).1
 have oth:∀ b,b≠T→(s.heap.update T (Obj.mapFields (·.setIfInBounds 3 (fr.elim Value.none fun f=>rawInt f)))).get? b=s.heap.get? b:=fun b hb=>Heap.get?_update_other _ _ (Ne.symm hb)
 have nT:∀ b o,s.heap.get? b=some o→(∀ vs,o.data≠.fields vs)→b≠T:=fun b o hb n q=>by
  subst q;rw[hT]at hb;cases hb;exact n ts dT
 unfold setFlight
 refine wpAny_bind (wpAny_field he hd v1 ?_)
 rw[if_pos (by simp)]
 refine wpAny_setField hT dT lt3 (hQ _ ⟨fun b o q=>?_,en,ff.of_keeps fun b o q n=>⟨o,by rw[oth b (nT b o q n)];exact q,rfl⟩,fr.elim Value.none fun f=>rawInt f,oe,vs,T,_,_,by rw[oth e (Ne.symm Te)];exact he,hc,hd,v1,bT,Te,
  Heap.get?_update_self _ hT (Obj.isFreed_of_fields (Obj.data_mapFields dT _)),Obj.data_mapFields dT _,by simp[lt3]⟩ fun b o q n=>⟨o.slots,by rw[oth b (nT b o q n)];exact q⟩)
 rw[oth b fun z=>by subst z;rw[bT]at q;cases q]
 exact st b o q
theorem rm {α:Type}{what:String}{env:Env}{B:Heap}{l:List Env}{e:Addr}{cls a0:Value}{Q:α→Shared→Prop}(hh:HeldA B l e cls a0 s.heap)
  (hQ:∀ h',HeldA B l e cls a0 h'→s.heap.UpToSlots h'→E (.ref e) { s with heap:=h' }):wpAny M A (PySem.passOn what (.ref e) env:Sem α) Q E s:=by
 obtain⟨_,_,_,_,oe,vs,T,_,_,he,_,hd,v1,_⟩:=id hh
 unfold PySem.passOn
 refine wpAny_bind (wpAny_field he hd v1 ?_)
 rw[if_neg (by simp)]
 exact wpAny_bind (mh hh fun h' a b=>wpAny_throw (hQ h' a b))
theorem nY {B:Heap}{env:Env}{outer:List Env}{L e:Addr}{cls a0:Value}{Q:Unit→Shared→Prop}(hfr:A.frames=some (env::outer))(hf:env.frame=some L)(hh:HeldA B (env::outer) e cls a0 s.heap)
  (hQ:∀ h',Heap.FlyingW B outer e cls a0 h'→s.heap.UpToSlots h'→Q () { s with heap:=h' }):wpAny M A (leaving env (.ref e)) Q E s:=by
 obtain⟨st,en,ff,fl,tr⟩:=hh
 by_cases hL:fl=rawInt L
 ·subst hL
  unfold leaving
  refine wpAny_bind (wpAny_noteFrame_againW hf tr (wpAny_landsW ⟨st,en,ff,tr⟩ fun h' x up=>?_))
  exact hQ h' ⟨x.1,x.2.1,x.2.2.1.2.2,x.2.2.2⟩ up
 ·
  obtain⟨oe,vs,T,oT,ts,he,hc,hd,v1,bT,Te,hT,dT,v3⟩:=tr
  have lt3:3 < ts.size:=(Array.getElem?_eq_some_iff.mp v3).1
  unfold leaving noteFrame
  rw[hf]
  refine wpAny_bind (wpAny_bind (wpAny_field he hd v1 ?_))
  rw[if_pos (by simp)]
  refine wpAny_bind (wpAny_field hT dT v3 ?_)
  rw[if_neg (by simpa using hL)]
  refine wpAny_bind (wpAny_setField hT dT lt3 ?_)
  have oth:∀ b,b≠T→(s.heap.update T (Obj.mapFields (·.setIfInBounds 3 Value.none))).get? b=s.heap.get? b:=fun b hb=>Heap.get?_update_other _ _ (Ne.symm hb)
  have nT:∀ b o,s.heap.get? b=some o→(∀ vs,o.data≠.fields vs)→b≠T:=fun b o hb n q=>by
   subst q;rw[hT]at hb;cases hb;exact n ts dT
  subst_vars
  obtain⟨hc1,hc2⟩:=hc
  subst hc1
  refine wpAny_newEntryW (base:=B) hfr (ff.of_keeps fun b o q n=>⟨o,by rw[oth b (nT b o q n)];exact q,rfl⟩) hf (by rw[oth e (Ne.symm Te)];exact he) (fun b o q=>?_) en hd (Array.getElem?_eq_some_iff.mp v1).1 hc2 fun h' x=>hQ h' ⟨x.1,en,x.2.1.2.2,x.2.2.1⟩ fun b o q n=>x.2.2.2 b o (by rw[oth b (nT b o q n)];exact q) n
  rw[oth b fun z=>by subst z;rw[bT]at q;cases q]
  exact st b o q
end
structure Noted (X:Cx)(E:XK):Prop where
 stk:X.stack=X.env::X.outer
 fr:X.env.frame=some X.env.locals
 pass:∀ (pins:List (Addr×Obj)) (σ:L2.St) (H':Hp) (s':Shared) (h2:Heap) (ea C t:Addr) (B:Heap),Inv X pins σ H' s' →
  (∀ b o,s'.heap.get? b=some o→(H' b≠none∨((∃ o',X.s₀.heap.get? b=some o')∧b∉X.ex))→b∉frs X.stack→B.get? b=some o) →
  s'.heap.UpToSlots h2→HeldA B X.stack ea (.ref C) (.ref t) h2→H' ea=none→E (.ref C) none H'→X.xe (.ref ea) { s' with heap:=h2 }
section
variable {P:Program}{w:World}{K:PySem.W.Frag}{mg:Str→Option Value}{base:Heap}{N:List Str}{qual:Str}{scope:Scope}{f:Addr}{cd:Value}{A:Around}{outer:List Env}{s0:Shared}{H0:Hp}{E:XK}
theorem nZ:Noted (bodyX P w K mg base N qual scope f cd A outer s0 H0 E) E:=by
 refine⟨rfl,rfl,fun pins σ H' s' h2 ea C t B J cov up hh hn hE=>?_⟩
 show wpAny _ _ (leaving _ (.ref ea)) _ _ { s' with heap:=h2 }
 refine nY J.ok.frames rfl hh fun h3 fl up3=>?_
 refine kP (s':=s') (B:=B) J (fun b o e hc hb=>cov b o e ?_ hb) (up.trans up3) fl hn hE
 rcases hc with z | z
 ·exact .inl z
 ·exact .inr ⟨z,fun q=>nomatch q⟩
end
def blkE (X:Cx)(E:XK)(scope:Scope)(cl:List (Str×Addr))(C:Addr)(s:Shared)(H:Hp)(fp:List Addr)(N:List Str):Cx :=
 { blk X scope cl C s H fp N with xe:=fun e s'=>∃ pins σ H1 s1,Inv (blk X scope cl C s H fp N) pins σ H1 s1∧CXE X.prog X.w X.stack H1 s1 E e s' }
section
variable {X:Cx}{E:XK}{scope:Scope}{cl:List (Str×Addr)}{C:Addr}{s:Shared}{H:Hp}{fp:List Addr}{N:List Str}{pins:List (Addr×Obj)}{σ:L2.St}{H1:Hp}{s1:Shared}
theorem uq (I:Inv (blk X scope cl C s H fp N) pins σ H1 s1):Inv (blkE X E scope cl C s H fp N) pins σ H1 s1 :=
 ⟨⟨I.ok.mod,I.ok.kind,I.ok.glob,I.ok.blt,I.ok.above,I.ok.inj,I.ok.has,I.ok.cab,I.ok.hd,I.ok.frames,I.ok.stk,I.ok.exf,I.ok.bs,I.ok.bsz,I.ok.noex,I.ok.exfs,I.ok.funs,I.ok.frf⟩,I.os,I.bare,I.base,I.loc,I.cell,I.free,I.freeC,I.pin,I.hok,I.len⟩
theorem pB (I:Inv (blkE X E scope cl C s H fp N) pins σ H1 s1):Inv (blk X scope cl C s H fp N) pins σ H1 s1 :=
 ⟨⟨I.ok.mod,I.ok.kind,I.ok.glob,I.ok.blt,I.ok.above,I.ok.inj,I.ok.has,I.ok.cab,I.ok.hd,I.ok.frames,I.ok.stk,I.ok.exf,I.ok.bs,I.ok.bsz,I.ok.noex,I.ok.exfs,I.ok.funs,I.ok.frf⟩,I.os,I.bare,I.base,I.loc,I.cell,I.free,I.freeC,I.pin,I.hok,I.len⟩
end
theorem we {X:Cx}{F:Fx}{k:Nat}(bx:BX X F k){scope:Scope}{cl:List (Str×Addr)}{C:Addr}{s:Shared}{H:Hp}{fp:List Addr}{N:List Str}:BX (blkE X F.E scope cl C s H fp N) F k :=
 ⟨bx.room,bx.K,rfl,fun pins σ H s e s' I h=>⟨pins,σ,H,s,pB I,h⟩⟩
theorem n4 {prog:Program}{w:World}{A:Around}{R:Result→Shared→Prop}{s:Shared}{elt target iter:Expr}{scope:Scope}{pos:Pos}{it acc:Value}{env:Env}(W:Nat→Shared→Prop)
  (turn:∀ n s,W n s→wpAny (model prog w) A (pyNext it) (fun r s1=>match r with
   | none=>R (.ok .next) s1
   | some v=>wpAny (model prog w) A (letOwnedTupleGo target it v) (fun _ s2=>wpAny (model prog w) A (assign target env v) (fun _ s3 =>
     wpAny (model prog w) A (eval elt env) (fun x s5=>wpAny (model prog w) A (call (.builtin "list.append") [acc,x]) (fun _ s6=>∃ m,m < n∧W m s6) (notedBy (model prog w) A env fun e s'=>R (.error e) s') s5) (notedBy (model prog w) A env fun e s'=>R (.error e) s') s3) (notedBy (model prog w) A env fun e s'=>R (.error e) s') s2) (fun _ _=>False) s1) (fun _ _=>False) s)
  (n:Nat) (h:W n s):codeAny (model prog w) A (.compLoop (.ListComp elt [⟨target,iter,[],0⟩] scope pos) 0 it acc env) R s:=by
 have weak:∀ {α:Type} {t:Sem α} {Q Q':α→Shared→Prop} {E:Value→Shared→Prop} {s:Shared},wpAny (model prog w) A t Q (fun _ _=>False) s→(∀ a s,Q a s→Q' a s)→wpAny (model prog w) A t Q' E s :=
  fun h k=>wpAny_mono h k fun _ _ z=>z.elim
 refine codeAny_loop rfl W (fun n s hW=>?_) n h
 show wpAny _ A ((compTurn (.ListComp elt [⟨target,iter,[],0⟩] scope pos) 0 it acc env).onRaise (fun x=>do noteFrame x env;theTreesLotGoes x)) _ _ s
 refine wpAny_noted ?_
 rw[compTurn_list]
 refine wpAny_bind (wpAny_standAt (wpAny_bind (weak (turn n s hW) fun r s1 h1=>?_)))
 cases r with
 | none=>exact wpAny_pure h1
 | some v =>
  refine wpAny_bind (weak h1 fun _ s2 h2=>wpAny_bind (wpAny_mono h2 (fun _ s3 h3=>wpAny_bind ?_) fun _ _ z=>z))
  refine wpAny_tests_nil ?_
  have fin:∀ (ok:Bool) (s4:Shared),(ok=true∧s4=s3)→wpAny (model prog w) A (if ok=true then ((do let _ ← call (.builtin "list.append") [acc,← eval elt env];pure ()) >>= fun _=>again (.compLoop (.ListComp elt [⟨target,iter,[],0⟩] scope pos) 0 it acc env)) else again (.compLoop (.ListComp elt [⟨target,iter,[],0⟩] scope pos) 0 it acc env))
      (fun fin s'=>match fin with | .done f=>R (.ok f) s' | .again c'=>c'=(.compLoop (.ListComp elt [⟨target,iter,[],0⟩] scope pos) 0 it acc env)∧∃ m,m < n∧W m s') (notedBy (model prog w) A env fun e s'=>R (.error e) s') s4:=by
   rintro ok s4 ⟨rfl,rfl⟩
   rw[if_pos rfl]
   exact wpAny_bind (wpAny_bind (wpAny_mono h3 (fun x s5 h5=>wpAny_bind (wpAny_mono h5 (fun _ s6 h6=>wpAny_pure (wpAny_pure ⟨rfl,h6⟩)) fun _ _ z=>z)) fun _ _ z=>z))
  have h0:wpAny (model prog w) A (pure true:Sem Bool) (fun ok s=>ok=true∧s=s3) (fun _ _=>False) s3:=wpAny_pure ⟨rfl,rfl⟩
  exact wpAny_bind (m:=(pure true:Sem Bool)) (weak h0 fin)
section
variable {X:Cx}{E:XK}{elt tg iter:Expr}{scope:Scope}{N:List Str}{own:Nat}{cap:List Nat}{pos:Pos}{wi:TI}{g:TG}{tc:TT}{te:TE}
set_option maxHeartbeats 4000000 in
theorem rn {pins:List (Addr×Obj)}{σ:L2.St}{H:Hp}{s:Shared}{it:Addr}{fp:List Addr}{tn:Nat→Heap→Prop}{J:It}{cl:List (Str×Addr)}{Er:Value→Shared→Prop}{RR:Value→Addr→Result→Shared→Prop}{Fin:Addr→Hp→List V→Prop}
  (b:BlkOk X.N X.env.scope scope N own cap) (hc:X.calm=true)
  (hg:∀ cl C s H fp,PG (blkE X E scope cl C s H fp N) tg g) (he:∀ cl C s H fp,PE (blkE X E scope cl C s H fp N) elt te)
  (hclos:closureFor scope X.env=pure cl) (c1:∀ n c,cl.lookup n=some c→X.env.cells.lookup n=some c) (c2:∀ y∈scope.names,y.2=.free→∃ c,cl.lookup y.1=some c)
  (I:Inv X pins σ H s) (T:Turn X.prog X.w X.K tg J fp it tn) (st:tn 0 s.heap) (hf:∀ b∈fp,FpOk X pins H b)
  (hW:∀ D,H D=none→∃ W,BlkW sizeLine J g (tTests [] tc) te D (Fin D) W∧∃ m,W 0 m (startB own cap σ) (upd H D (.lst [])) [])
  (fin:∀ D C s' H' ys,Inv X pins σ H' s'→FpOk X pins H' C→(∃ m,s'.heap.Ns C m)→H' D=some (.lst ys)→Fin D H' ys→RR (.ref D) C (.ok .next) s')
  (ferr:∀ D C s' H' ea C0 t B,Inv X pins σ H' s'→FpOk X pins H' C→(∃ m,s'.heap.Ns C m)→Heap.FlyingW B X.stack ea (.ref C0) (.ref t) s'.heap→H' ea=none →
   (∀ b o,s'.heap.get? b=some o→(H' b≠none∨((∃ o',X.s₀.heap.get? b=some o')∧b∉X.ex))→b∉frs X.stack→B.get? b=some o)→E (.ref C0) none H' →
   wpAny (model X.prog X.w) X.A (noteFrame (.ref ea) X.env) (fun _ s''=>RR (.ref D) C (.error (.ref ea)) s'') (fun e s''=>RR (.ref D) C (.error e) s'') s') :
  wpAny (model X.prog X.w) X.A (newList []) (fun acc s3=>wpAny (model X.prog X.w) X.A (newFunctionEnv scope X.env.globals cl [] X.env.qual none .none (some X.env)) (fun cenv s4 =>
   codeAny (model X.prog X.w) X.A (.compStart (.ListComp elt [⟨tg,iter,[],0⟩] scope pos) 0 (.ref it) acc { cenv with scope:=relabel scope X.env }) (RR acc cenv.locals) s4) Er s3) Er s:=by
 have hfo:∀ b∈fp,b < s.heap.objs.size:=fun b hb=>by
  obtain⟨o,e,_⟩:=T.obj 0 _ st b hb
  exact Heap.lt_size e
 have hD:H s.heap.objs.size=none:=I.hok.fresh (Nat.le_refl _)
 obtain⟨W,hturn,m0,w0⟩:=hW _ hD
 refine wpAny_newObj_type (fB fun h1 cl2 hns kk cb=>?_)
 have I3:Inv X pins σ (upd H s.heap.objs.size (.lst [])) { s with heap:=s.heap.push { cls:=.type "list",data:=.seq #[] } }:=I.lnew (t':=s.toks) (its:=[]) .nil (Nat.zero_le _)
 have hfp3:∀ b∈fp,FpOk X pins (upd H s.heap.objs.size (.lst [])) b:=fun b hb=>⟨by rw[ag (Nat.ne_of_lt (hfo b hb))];exact(hf b hb).1,(hf b hb).2⟩
 have st1:tn 0 h1:=T.keep 0 _ _ st fun b hb o e=>kk b o (Heap.get?_push_of_some _ e)
 have er:∀ e s',(blkE X E scope cl2 (s.heap.push { cls:=.type "list",data:=.seq #[] }).objs.size { s with heap:=s.heap.push { cls:=.type "list",data:=.seq #[] } } (upd H s.heap.objs.size (.lst [])) fp N).xe e s' →
   notedBy (model X.prog X.w) X.A (compEnvC scope cl2 (s.heap.push { cls:=.type "list",data:=.seq #[] }).objs.size X.env) (fun e s''=>RR (.ref s.heap.objs.size) (s.heap.push { cls:=.type "list",data:=.seq #[] }).objs.size (.error e) s'') e s':=by
  rintro e s' ⟨pl,σ1,H1,s1,I1,ea,C0,t,H',B,rfl,os,bare,un,hok,fl,hn,cov,hE⟩
  have J:Inv (blk X scope cl2 (s.heap.push { cls:=.type "list",data:=.seq #[] }).objs.size { s with heap:=s.heap.push { cls:=.type "list",data:=.seq #[] } } (upd H s.heap.objs.size (.lst [])) fp N) pl σ1 H' s' :=
   I1.call' (ch:=[]) os un hok bare fun b z=>nomatch z
  obtain⟨J1,J2,J3⟩:=iN I hf rfl rfl rfl rfl J
  refine ferr _ _ s' H' ea C0 t B J1 J2 J3 fl hn (fun b o eb hb hs=>cov b o eb ?_ hs) hE
  rcases hb with z | ⟨⟨o',z⟩,hx⟩
  ·exact .inl z
  ·obtain⟨o1,e1⟩:=I.base.there b o' z hx
   obtain⟨o2,e2⟩:=I1.base.there b o1 (Heap.get?_push_of_some _ e1) fun q=>by
    rcases(hf b q).2.2.2.1 with y | y
    ·exact hx y
    ·exact absurd (Heap.lt_size z) (Nat.not_lt.mpr y)
   exact .inr ⟨o2,e2⟩
 generalize hX:blkE X E scope cl2 (s.heap.push { cls:=.type "list",data:=.seq #[] }).objs.size { s with heap:=s.heap.push { cls:=.type "list",data:=.seq #[] } } (upd H s.heap.objs.size (.lst [])) fp N=X' at er
 have I4:Inv X' [] (startB own cap σ) (upd H s.heap.objs.size (.lst [])) { s with heap:=h1 }:=by
  rw[← hX]
  exact uq (o9 b hc I3 hfp3 (fun b hb=>Nat.lt_of_lt_of_le (hfo b hb) (by show _≤(s.heap.push _).objs.size;rw[Heap.size_push];exact Nat.le_succ _)) c1 c2 hns kk cb)
 have eP:X'.prog=X.prog:=by rw[← hX];rfl
 have ew:X'.w=X.w:=by rw[← hX];rfl
 have eK:X'.K=X.K:=by rw[← hX];rfl
 have eA:X'.A=X.A:=by rw[← hX];rfl
 have ec:X'.calm=true:=by rw[← hX];rfl
 have ee:X'.env=compEnvC scope cl2 (s.heap.push { cls:=.type "list",data:=.seq #[] }).objs.size X.env:=by rw[← hX];rfl
 have epn:X'.pn=[]:=by rw[← hX];rfl
 have eex:X'.ex=fp:=by rw[← hX];rfl
 have pg:PG X' tg g:=by rw[← hX];exact hg _ _ _ _ _
 have pe:PE X' elt te:=by rw[← hX];exact he _ _ _ _ _
 have fpB:∀ {H':Hp},(∀ b∈fp,H' b=none)→∀ {s'':Shared} {σ':L2.St},Inv X' [] σ' H' s''→∀ b∈fp,FpOk X' [] H' b:=fun {H'} hn {s'' σ'} Iv b hb =>
  ⟨hn b hb,(Iv.ok.exf b (by rw[eex];exact hb)).1,Iv.ok.exfs b (by rw[eex];exact hb),.inl (by rw[eex];exact hb),(Iv.ok.exf b (by rw[eex];exact hb)).2,fun p hp=>by rw[epn]at hp;exact(nomatch hp)⟩
 have loop:codeAny (model X.prog X.w) X.A (.compLoop (.ListComp elt [⟨tg,iter,[],0⟩] scope pos) 0 (.ref it) (.ref s.heap.objs.size) (compEnvC scope cl2 (s.heap.push { cls:=.type "list",data:=.seq #[] }).objs.size X.env))
   (RR (.ref s.heap.objs.size) (s.heap.push { cls:=.type "list",data:=.seq #[] }).objs.size) { s with heap:=h1 }:=by
  refine n4 (fun n s'=>∃ i σ' H' ys,Inv X' [] σ' H' s'∧tn i s'.heap∧(∀ b∈fp,H' b=none)∧W i n σ' H' ys) (fun n s5 ⟨i,σ5,H5,ys,I5,st5,fr5,w5⟩=>?_) m0
   ⟨0,startB own cap σ,_,[],I4,st1,fun b hb=>(hfp3 b hb).1,w0⟩
  obtain⟨hDy,hgo⟩:=hturn i n σ5 H5 ys w5
  have hs5:=fpB fr5 I5
  rcases hgo with ⟨stop,hfin⟩ | ⟨go,step⟩
  ·have q:=T.done X' eP ew eK ec i [] s5 σ5 H5 (fun _ _=>False) I5 hs5 st5 stop
   rw[eA]at q
   refine wpAny_mono q (fun r s6 ⟨hr,I6⟩=>?_) fun _ _ z=>z
   subst hr
   rw[← hX]at I6
   obtain⟨J1,J2,J3⟩:=iN I hf rfl rfl rfl rfl (pB I6)
   exact fin _ _ s6 H5 ys J1 J2 J3 hDy hfin
  ·have q:=T.item X' eP ew eK ec i [] s5 σ5 H5 (fun _ _=>False) I5 hs5 st5 go
   rw[eA]at q
   refine wpAny_mono q (fun r s6 ⟨u,hr,h6⟩=>?_) fun _ _ z=>z
   subst hr
   refine wpAny_mono h6 (fun _ s7 ⟨x,H7,I7,r7,y7,st7,fr7⟩=>?_) fun _ _ z=>z
   have I7':=I7.pinned (fpB fr7 I7) (T.obj _ _ st7)
   rw[List.nil_append]at I7'
   have qg:=pg _ s7 σ5 H7 x u _ I7' r7 (step x H7 y7)
   rw[eP,ew,eA,ee]at qg
   refine wpAny_mono qg (fun _ s8 ⟨σ8,H8,I8,q8⟩=>?_) er
   have again:∀ {s9:Shared} {H9:Hp} {zs:List V},Inv X' (pinsAt fp s7.heap) σ8 H9 s9→(∃ m',m' < n∧W (i+1) m' σ8 H9 zs) →
     ∃ m,m < n∧∃ i σ' H' ys,Inv X' [] σ' H' s9∧tn i s9.heap∧(∀ b∈fp,H' b=none)∧W i m σ' H' ys:=fun {s9 H9 zs} I9 ⟨m',hm,w9⟩=>by
    have I9':Inv X' ([]++pinsAt fp s7.heap) σ8 H9 s9:=by rw[List.nil_append];exact I9
    refine⟨m',hm,i+1,σ8,H9,zs,I9'.unpinned,T.keep _ _ _ st7 fun b hb o e=>(I9.pin (b,o) (List.mem_append_right _ (bD hb e))).1,fun b hb=>?_,w9⟩
    obtain⟨o,e,d⟩:=T.obj _ _ st7 b hb
    exact(I9.pin (b,o) (List.mem_append_right _ (bD hb e))).2.1
   have h9:=iO rfl q8
   rw[if_pos rfl]at h9
   have qe:=pe _ s8 σ8 H8 _ I8 h9
   rw[eP,ew,eA,ee]at qe
   refine wpAny_mono qe (fun u s10 ⟨y,H10,I10,r10,hD10,hlt,m',hm,w10⟩=>?_) er
   have qa:=gq (X:=X') (pinsAt fp s7.heap) s10 σ8 H10 (.ref s.heap.objs.size) [y] (.ref s.heap.objs.size) [u] (fun _ H11=>H11=upd H10 s.heap.objs.size (.lst (ys++[y]))) I10 rfl (.cons r10 .nil)
    ⟨s.heap.objs.size,ys,y,rfl,rfl,hD10,hlt,rfl⟩
   rw[eP,ew,eA]at qa
   refine wpAny_mono qa (fun _ s11 ⟨_,H11,I11,_,e11⟩=>?_) er
   subst e11
   exact again I11 ⟨m',hm,w10⟩
 exact codeAny_compStart_list loop (T.self _ 0 _ _ _ st1 loop)
theorem ur (nt:Noted X E)(b:BlkOk X.N X.env.scope scope N own cap)(hc:X.calm=true)(hi:PI X tg iter wi)
  (hg:∀ cl C s H fp,PG (blkE X E scope cl C s H fp N) tg g) (he:∀ cl C s H fp,PE (blkE X E scope cl C s H fp N) elt te)
  (hs:∀ x,foldedSetIterable iter X.env x=pure x:=by intro _;rfl):PE X (.ListComp elt [⟨tg,iter,[],0⟩] scope pos) (tComp own cap wi g (tTests [] tc) te):=by
 intro pins s σ H Q I h
 obtain⟨cl,hclos,c1,c2⟩:=eX scope X.env fun y hy hf=>I.ok.has y.1 (b.free y hy hf)
 rw[eval_ListComp]
 refine wpAny_comprehension_free (use:=none) rfl hs hclos b.kind b.nloc (thn (hi pins s σ H _ I h) fun v s1 h1=>thn h1 fun itv s2 h2=>?_)
 obtain⟨it,fp,tn,J,H2,e,I2,T,st2,f2,hW⟩:=h2
 subst e
 refine rn (RR:=fun acc C=>compPost (model X.prog X.w) X.A X.xe none (EP X pins σ Q) acc C) b hc hg he hclos c1 c2 I2 T st2 f2 hW (fun D C s' H' ys J1 J2 ⟨m,hm⟩ hD hQ=>?_) fun D C s' H' ea C0 t B J1 J2 ⟨m,hm⟩ fl hn cov hE=>?_
 ·refine⟨m,hm,fun h' hsb=>⟨.ref D,H',?_,rfl,hQ⟩⟩
  obtain⟨f0,f1,f2,f3,f4,f5⟩:=J2
  exact J1.turned (t':=s'.toks) (fun b o hb e=>(hsb.2 b hb).trans e) f0 f1 f3 f4 f5
 ·obtain⟨f0,f1,f2,f3,f4,f5⟩:=J2
  have hst:=nt.stk
  have fl':=fl
  rw[hst]at fl'
  refine wpAny_looks_onW (by rw[← hst];exact J1.ok.frames) nt.fr fl' fun h1 hh up=>?_
  rw[← hst]at hh
  have hm1:=up.ns hm
  refine⟨m,hm1,fun h2 hsb cenv hl=>?_⟩
  have nfr:∀ env∈X.stack,∀ a∈[C],env.frame≠some a:=fun env he a ha q=>by
   rw[List.mem_singleton.mp ha]at q
   have:C∈frs X.stack:=List.mem_filterMap.mpr ⟨env,he,q⟩
   rcases List.mem_cons.mp (J1.stkSub C this) with z | z
   ·exact f1 z
   ·exact f2 z
  have hd:∀ b o vs,h1.get? b=some o→o.data=.fields vs→b≠C:=fun b o vs e d q=>by
   obtain⟨o',es,ep,e',d',_⟩:=hm1
   rw[q]at e
   have e'':h1.get? C=some o':=e'
   rw[e]at e'';cases e''
   rw[d]at d';cases d'
  have keep:∀ b o,b≠C→h1.get? b=some o→h2.get? b=some o:=fun b o hb e=>(hsb.2 b hb).trans e
  have hB:(PySem.W.hideAll B [C]).StaysIn B:=fun b o q=>PySem.W.of_hideAll _ q
  have bC:∀ b o,(PySem.W.hideAll B [C]).get? b=some o→b≠C:=fun b o q z=>by
   rw[z,PySem.W.hideAll_none [C] (List.mem_singleton.mpr rfl)]at q;cases q
  have hnone:∀ b,B.get? b=none→(PySem.W.hideAll B [C]).get? b=none:=fun b q=>by
   cases r:(PySem.W.hideAll B [C]).get? b with
   | none=>rfl
   | some o=>rw[hB b o r]at q;cases q
  have hh2:HeldA (PySem.W.hideAll B [C]) X.stack ea (.ref C0) (.ref t) h2:=by
   obtain⟨k1,k2,k3,oe,vs,T',oT,ts,he',hcls,hdd,hv1,hnT,hTe,hT,hdT,h3⟩:=hh
   refine⟨fun b o q=>keep b o (bC b o q) (k1 b o (hB b o q)),hnone _ k2,?_,_,oe,vs,T',oT,ts,keep _ _ (hd _ _ _ he' hdd) he',hcls,hdd,hv1,hnone _ hnT,hTe,keep _ _ (hd _ _ _ hT hdT) hT,hdT,h3⟩
   have q1:=PySem.W.funFrames_hideAll (as:=[C]) k3 nfr
   have q2:h2.FunFrames B X.stack:=q1.of_keeps fun b o e _=>by
    have hb:b≠C:=fun z=>by rw[z,PySem.W.hideAll_none [C] (List.mem_singleton.mpr rfl)]at e;cases e
    exact⟨o,keep b o hb (PySem.W.of_hideAll _ e),rfl⟩
   exact PySem.W.funFrames_base hB q2
  refine rm hh2 fun h3 hh3 up3=>?_
  have J2':Inv X pins σ H' { s' with heap:=PySem.W.hideAll s'.heap [C],toks:=s'.toks }:=J1.turned (t':=s'.toks) (fun b o hb e=>PySem.W.hideAll_get _ e (by simpa using hb)) f0 f1 f3 f4 f5
  refine nt.pass pins σ H' { s' with heap:=PySem.W.hideAll s'.heap [C] } h3 ea C0 t (PySem.W.hideAll B [C]) J2' (fun b o e hb hs=>?_) (fun b o e hnf=>?_) hh3 hn hE
  ·have hbC:b≠C:=fun z=>by
    have e':(PySem.W.hideAll s'.heap [C]).get? b=some o:=e
    rw[z,PySem.W.hideAll_none [C] (List.mem_singleton.mpr rfl)]at e';cases e'
   exact PySem.W.hideAll_get _ (cov b o (PySem.W.of_hideAll _ e) hb hs) (by simpa using hbC)
  ·have hbC:b≠C:=fun z=>by
    have e':(PySem.W.hideAll s'.heap [C]).get? b=some o:=e
    rw[z,PySem.W.hideAll_none [C] (List.mem_singleton.mpr rfl)]at e';cases e'
   obtain⟨sl,q⟩:=up b o (PySem.W.of_hideAll _ e) hnf
   obtain⟨sl2,q2⟩:=up3 b _ (keep b _ hbC q) hnf
   exact⟨sl2,q2⟩
def cGoE (e:D→R D):List D→R (List D)
 | []=>.ok []
 | d::r=>(e d).bind fun y=>(cGoE e r).bind fun ys=>.ok (y::ys)
def cMapE (e:D→R D)(xs:List D):R D:=(cGoE e xs).bind fun ys=>.ok (.lst ys)
def eCE (own:Nat)(cap:List Nat)(it:SS→R (List D))(g:D→SS→R SS)(e:SS→R D):SS→R D:=fun S=>(it S).bind fun ds=>cMapE (fun d=>(g d (blkS own cap S)).bind e) ds
end
section
variable {X:Cx}{F:Fx}{tg iter elt:Expr}{scope:Scope}{N:List Str}{own:Nat}{cap:List Nat}{pos:Pos}{git:SS→R (List D)}{g:D→SS→R SS}{ge:SS→R D}
theorem n5 {σ:L2.St}{H Z:Hp}{S:SS}{P:D→Hp→Hp→Prop}{Q:Addr→Hp→Prop}(hgo:Own own g)(ok:StOk F H Z S σ)(w:WG F H Z (eCE own cap git g ge S) P)
  (hP:∀ D ys ds H1 Z1 H' Z',Ex H Z H1 Z1→H1 D=none→Ex H1 Z1 H' Z'→Z' D=none→(∀ H'' Z'',Ex H1 Z1 H'' Z''→P (.lst ds) H'' Z'')→H' D=some (.lst ys)→Reps F.K F.C Z' ds ys→Q D H') :
  tI F git σ H fun J H1=>∀ D,H1 D=none→∃ W,BlkW sizeLine J (tGd F g) (tTests [] (tT F tTrue)) (tE F ge) D (fun H' _=>Q D H') W∧∃ m,W 0 m (startB own cap σ) (upd H1 D (.lst [])) []:=by
 refine⟨Z,S,ok,?_⟩
 unfold eCE cMapE at w
 cases e:git S with
 | err k=>rw[e]at w;exact w
 | stuck=>rw[e]at w;exact w
 | ok ds =>
  rw[e]at w
  intro H1 Z1 x1 J wk hlen D hD
  have w1:=WG.more (r:=(cGoE (fun d=>(g d (blkS own cap S)).bind ge) ds).bind fun ys=>R.ok (FF.D.lst ys)) w x1
  have ok1:=ok.more x1
  have hS:=sizeLine_eq
  have hst:StOk F (upd H1 D (.lst [])) Z1 (blkS own cap S) (startB own cap σ):=(j8 ok1 hD).wish F.E
  refine⟨fun i m σ' H' ys=>m=ds.length - i∧i≤ds.length∧H' D=some (.lst ys)∧ys.length≤i∧∃ Z' acc,Ex H1 Z1 H' Z'∧Z' D=none∧Reps F.K F.C Z' acc ys∧StOk F H' Z' (blkS own cap S) σ' ∧
   WG F H1 Z1 ((cGoE (fun d=>(g d (blkS own cap S)).bind ge) (ds.drop i)).bind fun zs=>R.ok (FF.D.lst (acc++zs))) P,?_,ds.length,rfl,Nat.zero_le _,aj,Nat.le_refl _,Z1,[],Ex.hidden ok1.sub hD,ok1.sub.free hD,Reps.nil,hst,w1⟩
  rintro i m σ2 H2 ys ⟨rfl,hle,hDy,hyl,Z2,acc,x2,hZD,ra,ok2,w2⟩
  refine⟨hDy,?_⟩
  obtain⟨k1,k2⟩:=wk i H2 Z2 x2.z x2.sub
  by_cases hlt:i < ds.length
  ·obtain⟨go,y⟩:=k1 hlt
   refine .inr ⟨go,fun x H' hy=>?_⟩
   obtain⟨Z2',d,x',e3,rd⟩:=y x H' hy
   have ok2:=ok2.more x'
   have hZD:Z2' D=none:=by
    cases r:Z2' D with
    | none=>rfl
    | some o =>
     rcases x'.new D (by rw[r];simp) with z | z
     ·exact absurd hZD z
     ·rw[hDy]at z;cases z
   have hDy:=x'.same _ _ hDy
   have x2:=x2.trans x'
   have ra:=ra.mono x'.z
   have hd:ds.drop i=d::ds.drop (i+1):=by
    obtain⟨hi,e4⟩:=List.getElem?_eq_some_iff.mp e3
    rw[List.drop_eq_getElem_cons hi,e4]
   rw[hd]at w2
   unfold cGoE at w2
   refine⟨Z2',blkS own cap S,d,ok2,rd,?_⟩
   cases qg:g d (blkS own cap S) with
   | err k=>rw[qg]at w2;exact fun H'' q=>w2 H'' (x2.same.trans q)
   | stuck=>rw[qg]at w2;exact w2.elim
   | ok S1 =>
    rw[qg,R.bind_ok]at w2
    intro H3 Z3 x3 σ3 ok3
    obtain⟨gl,gk⟩:=hgo _ _ _ qg
    have back:∀ {H Z:Hp},StOk F H Z S1 σ3→StOk F H Z (blkS own cap S) σ3:=fun h=>h.forget gl.symm fun j z q=>by
     rw[gk j (cz q).1];exact q
    have zD:∀ {H Z:Hp},Ex H1 Z1 H Z→Ex H' Z2' H Z→Z D=none:=fun {H Z} _ q=>by
     cases r:Z D with
     | none=>rfl
     | some o =>
      rcases q.new D (by rw[r];simp) with z | z
      ·exact absurd hZD z
      ·rw[hDy]at z;cases z
    dsimp only[tTests]
    rw[if_pos rfl]
    refine⟨Z3,S1,ok3,?_⟩
    cases qe:ge S1 with
    | err k=>rw[qe]at w2;exact fun H'' q=>w2 H'' ((x2.trans x3).same.trans q)
    | stuck=>rw[qe]at w2;exact w2.elim
    | ok yd =>
     rw[qe,R.bind_ok]at w2
     intro H5 Z5 x5 yv ry
     have hD5:H5 D=some (.lst ys):=x5.same _ _ (x3.same _ _ hDy)
     have x25:=x3.trans x5
     have z5:=zD (x2.trans x25) x25
     have ok5:=ok3.more x5
     have n0:F.H0 D=none:=ok1.ex.same.free hD
     have xu:Ex H1 Z1 (upd H5 D (.lst (ys++[yv]))) Z5:=by
      have q:=x2.trans x25
      refine⟨fun b o e=>?_,q.z,fun b o e=>?_,q.new⟩
      ·rw[ag (fun z=>by subst z;rw[hD]at e;cases e)];exact q.same b o e
      ·rw[ag (fun z=>by subst z;rw[z5]at e;cases e)];exact q.sub b o e
     refine⟨hD5,by omega,ds.length - (i+1),by omega,rfl,hlt,aj,by simp;omega,Z5,acc++[yd],xu,z5,(ra.mono x25.z).append (Reps.cons ry Reps.nil),?_,?_⟩
     ·have q:=back ok5
      refine⟨⟨fun b o e=>?_,q.ex.z,fun b o e=>?_,q.ex.new⟩,q.len,fun j x e=>?_,fun j k x y v w A B _ e1 _ _ _ o1 _=>?_⟩
      ·rw[ag (fun z=>by subst z;have e':F.H0 b=some o:=e;rw[n0]at e';cases e')];exact q.ex.same b o e
      ·rw[ag (fun z=>by subst z;rw[z5]at e;cases e)];exact q.ex.sub b o e
      ·obtain⟨_,_,_,_,_,z⟩:=cz e
       cases z
       obtain⟨v,e1,r⟩:=q.val j _ e
       exact⟨v,[],e1,⟨rfl,r⟩,Priv.nil⟩
      ·obtain⟨_,_,_,_,_,z⟩:=cz e1
       cases z
       rw[o1.1];exact fun a ha=>nomatch ha
     ·cases qr:cGoE (fun d=>(g d (blkS own cap S)).bind ge) (ds.drop (i+1)) with
      | err k=>rw[qr]at w2;exact w2
      | stuck=>rw[qr]at w2;exact w2.elim
      | ok zs=>rw[qr]at w2;simpa [List.append_assoc] using w2
  ·have ei:i=ds.length:=by omega
   refine .inl ⟨k2 (by omega),?_⟩
   rw[List.drop_eq_nil_of_le (by omega)]at w2
   have w3:WG F H1 Z1 (R.ok (FF.D.lst (acc++[]))) P:=w2
   rw[List.append_nil]at w3
   exact hP D ys acc H1 Z1 H2 Z2 x1 hD x2 hZD w3 hDy ra
theorem ut {k:Nat}(nt:Noted X F.E)(bx:BX X F k)(b:BlkOk X.N X.env.scope scope N own cap)(hi:FI X F tg iter git)(hgo:Own own g)
  (hg:∀ cl C s H fp,FG (blkE X F.E scope cl C s H fp N) F tg g) (he:∀ cl C s H fp,FE (blkE X F.E scope cl C s H fp N) F elt ge)
  (hs:∀ x,foldedSetIterable iter X.env x=pure x:=by intro _;rfl):FE X F (.ListComp elt [⟨tg,iter,[],0⟩] scope pos) (eCE own cap git g ge) :=
 (ur (tc:=tT F tTrue) nt b bx.calm hi hg he hs).weak fun σ H Q ⟨Z,S,ok,w⟩ =>
  n5 hgo ok w fun D ys ds H1 Z1 H2 Z2 x1 hD x2 hZD w3 hDy ra=>by
   have hz:Same Z2 (upd Z2 D (.lst ys)):=aC hZD
   have xf:Ex H1 Z1 H2 (upd Z2 D (.lst ys)):=by
    refine⟨x2.same,x2.z.trans hz,fun b o e=>?_,fun b hb=>?_⟩
    ·by_cases q:b=D
     ·subst q;rw[aj]at e;cases e;exact hDy
     ·rw[ag q]at e;exact x2.sub b o e
    ·by_cases q:b=D
     ·subst q;exact .inr hD
     ·rw[ag q]at hb;exact x2.new b hb
   exact w3 H2 _ xf _ (by rw[Rep];exact⟨D,ys,rfl,SqL.of aj,ra.mono hz⟩)
end
section
variable {X:Cx}{F:Fx}{p pos:Pos}{e:Expr}{kws:List Keyword}{gs:SS→R (List D)}{k:Nat}
end
section
variable {X:Cx}{F:Fx}{tg:Expr}{gs:SS→R (List D)}
end
section
variable {prog:Program}{w:World}{A:Around}{E:Value→Shared→Prop}{R:Result→Shared→Prop}{h₀:Heap}{l I S:Addr}{its:List Value}{ks:Nat→List Int}{s0:Shared}
end
def tupI?:D→Option (List Int)
 | .tup ds=>intsOf ds
 | _=>none
section
variable {X:Cx}{F:Fx}{p pos:Pos}{e:Expr}{gs:SS→R (List D)}{k:Nat}
end
section
variable {X:Cx}{F:Fx}{p pos:Pos}{e:Expr}{gs:SS→R (List D)}{k:Nat}
end
section
variable {prog:Program}{w:World}{A:Around}{E:Value→Shared→Prop}{s:Shared}
abbrev byT (w:World):Bool:=w.params.followText "set-order"
end
section
variable {prog:Program}{w:World}{A:Around}{E:Value→Shared→Prop}{s:Shared}{R:Result→Shared→Prop}
abbrev bare (w:World):Obj:={ cls:=.type "set",dict:=none,data:=.set #[] 0 (.fresh 0 0 (!byT w)) }
end
section
variable {prog:Program}{w:World}{A:Around}{E:Value→Shared→Prop}{s:Shared}
end
section
variable {prog:Program}{w:World}{A:Around}{E:Value→Shared→Prop}{s:Shared}
end
section
variable {prog:Program}{w:World}{A:Around}{E:Value→Shared→Prop}{s:Shared}
end
section
variable {prog:Program}{w:World}{A:Around}{E:Value→Shared→Prop}{s:Shared}
end
section
variable {prog:Program}{w:World}{A:Around}{E:Value→Shared→Prop}{s:Shared}
end
section
variable {X:Cx}{F:Fx}{p p2 pos pos2:Pos}{e:Expr}{gs:SS→R (List D)}{k:Nat}
end
section
variable {X:Cx}{F:Fx}
variable {σ':Type}{S:SS}{st:Stmt}{rest:List Stmt}{J:σ'→SS→Prop}
end
inductive Prd {α β:Type}(R:α→β→Prop):List α→List β→Prop
 | nil:Prd R [] []
 | cons {a b l r}:R a b→Prd R l r→Prd R (a::l) (b::r)
section
variable {prog:Program}{w:World}{E:Value→Shared→Prop}
end
theorem Prd.length {α β:Type}{R:α→β→Prop}:∀ {l:List α} {r:List β},Prd R l r→l.length=r.length
 | _,_,.nil=>rfl
 | _,_,.cons _ t=>by rw[List.length_cons,List.length_cons,t.length]
section
variable {prog:Program}{w:World}{A:Around}{E:Value→Shared→Prop}{s:Shared}{R:Result→Shared→Prop}
end
section
variable {X:Cx}{F:Fx}{p p2 pos pos2:Pos}{e:Expr}{gs:SS→R (List D)}{k:Nat}{pins:List (Addr×Obj)}{σ:List (Option V)}{H:Hp}{s:Shared}
end
end FF
end
noncomputable section
set_option maxRecDepth 1000000
namespace FF
open PySem PySem.Spec PyProof.Rows L2
def ltOf:Code→Option Value→Option Bool
 | .call (.builtin id) ⟨[.int a _,.int b _],[]⟩,none=>if id="int.__lt__" then some (decide (a < b)) else none
 | _,_=>none
def ev {α:Type}(σ:Setting):Sem α→Option α
 | .pure a=>some a
 | .rule _ k=>ev σ (k ())
 | .point _ k=>ev σ (k ())
 | .ask k=>ev σ (k σ)
 | .call c h _ _ k=>match ltOf c h with
  | some b=>ev σ (k (.ok (.ret (.bool b))))
  | none=>none
 | _=>none
section
variable {prog:Program}{w:World}{A:Around}{E:Value→Shared→Prop}{s:Shared}
theorem wf {a b:Int}{t u:Tok}{R:Result→Shared→Prop}(h:R (.ok (.ret (.bool (decide (a < b))))) s):codeAny (model prog w) A (.call (.builtin "int.__lt__") ⟨[.int a t,.int b u],[]⟩) R s :=
 codeAny_call_builtin slot_int_lt.plain entry_int_lt (slot_int_lt.check _ _ _ _ _ _ _ _ (typeIs_int s a t) (args_int_lt _ _) (show wpAny _ _ (ret (.bool (decide (a < b)))) _ _ s from wpAny_pure h))
theorem rz {c:Code}{h:Option Value}{b:Bool}(e:ltOf c h=some b):h=none∧∀ {A:Around} {s:Shared} {R:Result→Shared→Prop},R (.ok (.ret (.bool b))) s→codeAny (model prog w) A c R s:=by
 unfold ltOf at e
 split at e
 ·split at e
  ·rename_i id a t b' u hid
   cases e
   subst hid
   exact⟨rfl,fun r=>wf r⟩
  ·cases e
 ·cases e
theorem zj {α:Type}(m:Sem α):∀ {a:α} {Q:α→Shared→Prop},ev ⟨prog,w.params⟩ m=some a→Q a s→wpAny (model prog w) A m Q E s:=by
 induction m with
 | pure x =>
  intro a Q e q
  cases e
  exact wpAny_pure q
 | rule tag k ih =>
  intro a Q e q Γ p hΓ
  rw[Sem.wp_rule]
  exact ih () e q Γ p hΓ
 | point l k ih =>
  intro a Q e q Γ p hΓ
  rw[Sem.wp_point]
  exact ih () e q Γ p hΓ
 | ask k ih =>
  intro a Q e q Γ p hΓ
  rw[Sem.wp_ask]
  exact ih _ e q Γ p hΓ
 | call c h g l k ih =>
  intro a Q e q Γ p hΓ
  unfold ev at e
  split at e
  ·rename_i b eb
   obtain⟨rfl,hc⟩:=rz (prog:=prog) (w:=w) eb
   rw[Sem.wp_call]
   exact hc (A:=A) (s:=s) (ih _ e q Γ p hΓ) _ p rfl (hΓ.enter c none p (by intro x;cases x))
  ·cases e
 | _=>intro a Q e q;cases e
end
def sg (σ:Setting)(b:Bool):Setting:={ σ with params:={ σ.params with followText:=fun x=>if x="special-get-raises" then b else σ.params.followText x } }
theorem wj (σ:Setting):sg σ (σ.params.followText "special-get-raises")=σ:=by
 unfold sg
 have:(fun x=>if x="special-get-raises" then σ.params.followText "special-get-raises" else σ.params.followText x)=σ.params.followText:=by
  funext x
  split
  ·rename_i e;rw[e]
  ·rfl
 rw[this]
def numsV:List Value→Option (List Int)
 | []=>some []
 | .int n _::r=>(numsV r).map (n::·)
 | _=>none
theorem i5:∀ {vs:List Value} {ns:List Int},numsV vs=some ns→IntsAre vs ns
 | [],ns,e=>by cases e;exact .nil
 | v::vs,ns,e=>by
  cases v with
  | int n t =>
   unfold numsV at e
   cases q:numsV vs with
   | none=>rw[q]at e;cases e
   | some ms =>
    rw[q]at e
    cases e
    exact .cons n t (i5 q)
  | _=>cases e
def outS (r:Unit×SortSt):Option (List Int):=if (failedOf r.2).isNone=true then numsV ((arrOf r.2).map (·.2)).toList else none
def evSort (σ:Setting)(vs:List Value):Option (List Int):=(ev σ (sortRuns'.run (SortSt.mk' oneType' (vs.toArray.zip vs.toArray) #[] 7 none))).bind outS
def known (f:Nat→Int)(t:Nat→Tok):List Value:=(List.range 64).map fun i=>.int (f i) (t i)
def tokOf (vs:List Value)(i:Nat):Tok:=match vs[i]? with
 | some (.int _ t)=>t
 | _=>0
theorem uu {vs:List Value}{f:Nat→Int}(h:IntsAre vs ((List.range 64).map f)):vs=known f (tokOf vs):=by
 have hl:vs.length=64:=by have:=h.length;simpa using this
 apply List.ext_getElem?
 intro i
 unfold known
 rw[List.getElem?_map]
 by_cases c:i < 64
 ·have hi:i < vs.length:=by omega
  obtain⟨t,e⟩:=IntsAre.int_at h i vs[i] (List.getElem?_eq_getElem hi)
  have ef:((List.range 64).map f).getD i 0=f i:=by simp[List.getD,c]
  rw[List.getElem?_range c,List.getElem?_eq_getElem hi]
  have et:tokOf vs i=t:=by
   unfold tokOf
   rw[List.getElem?_eq_getElem hi,e]
  rw[Option.map_some,et,e,ef]
 ·rw[List.getElem?_eq_none (by omega),List.getElem?_eq_none (by simp;omega)]
  rfl
section
variable {prog:Program}{w:World}{A:Around}{E:Value→Shared→Prop}{s:Shared}
theorem kY {a:Addr}{vs:List Value}{is ms:List Int}{n:Nat}{P:PySem.Fin→Shared→Prop}(ho:s.heap.get? a=some (seqObj "list" vs.toArray n))(hI:IntsAre vs is)(h2:2≤vs.length)(hz:vs.length≤1000)(hm:ms.length=vs.length)(he:evSort ⟨prog,w.params⟩ vs=some ms)
  (h:∀ out:Array Value,IntsAre out.toList ms→P (.done (.ret .none)) { s with heap:=sortedHeap s.heap a vs out }):wpAny (model prog w) A (Builtin.«list.sort» ⟨[.ref a],[]⟩) P E s:=by
 have la:a < s.heap.objs.size:=Heap.lt_size ho
 obtain⟨v1,v2,r,rfl⟩:∃ v1 v2 r,vs=v1::v2::r:=by
  rcases vs with _ | ⟨v1,_ | ⟨v2,r⟩⟩
  ·simp at h2
  ·simp at h2
  ·exact⟨v1,v2,r,rfl⟩
 unfold evSort at he
 cases q:ev ⟨prog,w.params⟩ (sortRuns'.run (SortSt.mk' oneType' ((v1::v2::r).toArray.zip (v1::v2::r).toArray) #[] 7 none)) with
 | none=>rw[q]at he;cases he
 | some z =>
  rw[q]at he
  have he:outS z=some ms:=he
  unfold outS at he
  split at he
  ·rename_i hf
   have out:=i5 he
   have sz:((arrOf z.2).map (·.2)).size=(v1::v2::r).length:=by rw[← hm,← out.length,Array.length_toList]
   rw[list_sort_plain]
   refine wpAny_bind (listItems_at ho rfl (wpAny_bind (listUpdate_at ho rfl ?_ (by rw[List.size_toArray,sizeLine_eq];omega) (by simp))))
   have e1:=get?_update_seq ho (fun _=>#[])
   refine wpAny_bind (seqEpoch_at e1 rfl (wpAny_bind (wpAny_newTuple ?_ (by rw[sizeLine_eq];show (v1::v2::r).length≤_;omega))))
   refine wpAny_bind (wpAny_newList (wpAny_holding ?_))
   have e2:(((s.heap.update a (Obj.mapSeq fun _=>#[])).push (seqObj "tuple" (v1::v2::r).toArray 0)).push (seqObj "list" #[] 0)).get? a=some (seqObj "list" #[] _):=Heap.get?_push_of_some _ (Heap.get?_push_of_some _ e1)
   rw[if_neg (by rw[List.size_toArray];omega),if_neg (by rw[List.size_toArray];omega),keyKind_ints hI]
   refine wpAny_bind (wpAny_pure (wpAny_bind (zj _ q ?_)))
   dsimp only
   refine wpAny_bind (seqEpoch_at e2 rfl (wpAny_bind (listUpdate_at e2 rfl ?_ (by simp) (by rw[sz,sizeLine_eq];omega))))
   rw[Option.isNone_iff_eq_none.mp hf]
   simp only[bne_self_eq_false,Bool.false_eq_true,if_false]
   exact wpAny_pure (h _ out)
  ·cases he
end
section
variable {X:Cx}{F:Fx}{p pos:Pos}{e:Expr}{gs:SS→R (List D)}{k:Nat}
end
section
variable {X:Cx}{F:Fx}{pos:Pos}{k:Nat}{g ge:SS→R D}{e ei:Expr}{x:Str}
end
section
variable {X:Cx}{F:Fx}{p pos:Pos}{e a b:Expr}{ga gb:SS→R D}{gs:SS→R (List D)}{k:Nat}
end
section
variable {X:Cx}{F:Fx}{o e:Expr}{g:SS→R D}{gs:List (SS→R D)}{apos cpos:Pos}{k:Nat}
end
section
variable {X:Cx}{F:Fx}{e:Expr}{lo hi:Option Expr}{g:SS→R D}{l h:SS→R (Option Int)}{pos p2:Pos}
end
section
variable {X:Cx}
end
section
variable {X:Cx}{F:Fx}{e ei:Expr}{gs:SS→R (List D)}{pos p0 apos cpos:Pos}{x:Str}
end
section
variable {X:Cx}{pins:List (Addr×Obj)}{σ:St}
structure Two (X:Cx)(pins:List (Addr×Obj))(H:Hp)(I S:Addr):Prop where
 i:FpOk X pins H I
 s:FpOk X pins H S
 ne:I≠S
theorem b0 {H H':Hp}{b:Addr}{pl:List (Addr×Obj)}(h:FpOk X pins H b)(hn:H' b=none)(hp:∀ p∈pl,p∈pins∨p.1≠b):FpOk X pl H' b :=
 ⟨hn,h.2.1,h.2.2.1,h.2.2.2.1,h.2.2.2.2.1,fun p hpp=>(List.mem_append.mp hpp).elim (fun z=>h.2.2.2.2.2 p (List.mem_append_left _ z)) fun z=>(hp p z).elim (fun y=>h.2.2.2.2.2 p (List.mem_append_right _ y)) id⟩
theorem eB {pl:List (Addr×Obj)}{H:Hp}{s:Shared}{it:Addr}{h':Heap}{t':Nat}(J:Inv X pl σ H s)(f:FpOk X pl H it)(k:∀ b o,b≠it→s.heap.get? b=some o→h'.get? b=some o):Inv X pl σ H { s with heap:=h',toks:=t' } :=
 J.turned k f.1 f.2.1 f.2.2.2.1 f.2.2.2.2.1 f.2.2.2.2.2
theorem fK {pl:List (Addr×Obj)}{H:Hp}{s:Shared}{I S:Addr}{oI oS:Obj}(J:Inv X pl σ H s)(hp:∀ p∈pins,p∈pl)(t:Two X pins H I S)(eI:s.heap.get? I=some oI)(eS:s.heap.get? S=some oS)(dI:∀ v,oI.data≠.cell v)(dS:∀ v,oS.data≠.cell v) :
  Inv X (pins++[(I,oI),(S,oS)]) σ H s:=J.pins_of fun p hpp=>by
 rcases List.mem_append.mp hpp with z | z
 ·exact J.pin p (List.mem_append_right _ (hp p z))
 ·rcases List.mem_cons.mp z with rfl | z
  ·exact⟨eI,t.i.1,t.i.2.1,t.i.2.2.1,dI⟩
  ·rw[List.mem_singleton.mp z]
   exact⟨eS,t.s.1,t.s.2.1,t.s.2.2.1,dS⟩
variable {F:Fx}{k:Nat}{f:Addr}{fd:FuncData}{ps:List Str}{t:List D→R D}{ds:List D}{l I S:Addr}{H0 Z0:Hp}{R:Result→Shared→Prop}{d:D}
theorem c6 {h:Heap}{oI:Obj}{j:Nat}(e:h.get? I=some oI)(it:h.IsListIter I l j):∀ v,oI.data≠.cell v:=fun v z=>by
 obtain⟨o,e1,_,e3⟩:=it
 rw[e]at e1;cases e1
 rw[z]at e3;cases e3
end
section
variable {X:Cx}{F:Fx}{p pos kp np:Pos}{e:Expr}{g:SS→R D}{k:Nat}{x:Str}{ps:List Str}{t:List D→R D}
end
def tget (kvs:List TKV)(ks:List Int):Option V:=(kvs.find? fun p=>decide (p.1=ks)).map (·.2.2)
section
variable {kvs:List TKV}{xs:List TKU}{ks:List Int}
theorem rA {α β:Type}{R:α→β→Prop}{as:List α}{bs:List β}{a:α}{b:β}(r:Paired R as bs)(h:R a b):Paired R (as++[a]) (bs++[b]):=by
 induction r with
 | nil=>exact .cons h .nil
 | cons h' _ ih=>exact .cons h' ih
theorem uv {α β:Type}{R:α→β→Prop}{as:List α}{bs:List β}(r:Paired R as bs):∀ b∈bs,∃ a∈as,R a b:=by
 induction r with
 | nil=>exact fun b hb=>nomatch hb
 | cons h _ ih =>
  intro b hb
  rcases List.mem_cons.mp hb with rfl | hb
  ·exact⟨_,.head _,h⟩
  ·obtain⟨a,ha,q⟩:=ih b hb
   exact⟨a,.tail _ ha,q⟩
theorem mi {α β:Type}{R:α→β→Prop}{as:List α}{bs:List β}(r:Paired R as bs):as.length=bs.length:=by
 induction r with
 | nil=>rfl
 | cons h _ ih=>rw[List.length_cons,List.length_cons,ih]
end
section
variable {X:Cx}{pins:List (Addr×Obj)}{σ:St}{H:Hp}{s:Shared}{a b:Addr}{kvs:List TKV}{ks:List Int}{A:Around}{E:Value→Shared→Prop}
def KeysAt (K:PySem.W.Frag)(H:Hp)(kvs:List TKV):Prop:=∀ x∈kvs,SqT K H x.2.1 (x.1.map V.int)
end
section
variable {X:Cx}{pos:Pos}{o i e value:Expr}{td ty tv:TE}{pos':Pos}
end
structure TabOk (F:Fx)(Z:Hp)(m:List (List Int×D))(kvs:List TKV):Prop where
 ks:kvs.map (·.1)=m.map (·.1)
 at_:KeysAt F.K Z kvs
 vs:Reps F.K F.C Z (m.map (·.2)) (kvs.map (·.2.2))
section
variable {F:Fx}{Z Z':Hp}{m:List (List Int×D)}{kvs:List TKV}{ks:List Int}{d:D}{v:V}{b:Addr}
theorem TabOk.mono (h:TabOk F Z m kvs)(z:Same Z Z'):TabOk F Z' m kvs:=⟨h.ks,fun x hx=>(h.at_ x hx).mono z,h.vs.mono z⟩
theorem TabOk.inv {k:List Int×D}(h:TabOk F Z (k::m) kvs):∃ b v r,kvs=(k.1,b,v)::r∧SqT F.K Z b (k.1.map V.int)∧Rep F.K F.C Z k.2 v∧TabOk F Z m r:=by
 cases kvs with
 | nil=>have:=h.ks;cases this
 | cons p r =>
  obtain⟨k',b,v⟩:=p
  obtain⟨h1,h2,h3⟩:=h
  rw[List.map_cons,List.map_cons]at h1
  injection h1 with h1 h4
  have q:=h2 _ (.head _)
  obtain⟨r1,r2⟩:=Reps.uncons h3
  cases (show k'=k.1 from h1)
  exact⟨b,v,r,rfl,q,r1,h4,fun x hx=>h2 x (.tail _ hx),r2⟩
theorem TabOk.inv0 (h:TabOk F Z [] kvs):kvs=[]:=by
 cases kvs with
 | nil=>rfl
 | cons p r=>have:=h.ks;cases this
theorem TabOk.any:∀ {m:List (List Int×D)} {kvs:List TKV},TabOk F Z m kvs→(kvs.any fun p=>decide (p.1=ks))=(m.any fun p=>decide (p.1=ks))
 | [],kvs,h=>by rw[h.inv0];rfl
 | k::m,kvs,h=>by
  obtain⟨b,v,r,rfl,_,_,h2⟩:=h.inv
  rw[List.any_cons,List.any_cons,h2.any]
theorem TabOk.len (h:TabOk F Z m kvs):kvs.length=m.length:=by have:=congrArg List.length h.ks;simpa using this
theorem TabOk.get:∀ {m:List (List Int×D)} {kvs:List TKV},TabOk F Z m kvs→dicGet m ks=some d→∃ v,tget kvs ks=some v∧Rep F.K F.C Z d v
 | [],kvs,h,e=>nomatch e
 | k::m,kvs,h,e=>by
  obtain⟨b,v,r,rfl,h0,h1,h2⟩:=h.inv
  unfold dicGet at e
  rw[List.find?_cons]at e
  unfold tget
  rw[List.find?_cons]
  by_cases hk:k.1=ks
  ·rw[decide_eq_true hk]at e
   rw[decide_eq_true (show (k.1,b,v).1=ks from hk)]
   cases e
   exact⟨v,rfl,h1⟩
  ·rw[decide_eq_false hk]at e
   rw[decide_eq_false (show ¬ (k.1,b,v).1=ks from hk)]
   exact h2.get e
theorem uw {K:PySem.W.Frag}{C:Nat→Addr}{k:D}{y:V}(e:tupI? k=some ks)(r:Rep K C Z k y):∃ b,y=.ref b∧SqT K Z b (ks.map V.int):=by
 cases k with
 | tup ds =>
  rw[Rep]at r
  obtain⟨a,vs,rfl,h1,h2⟩:=r
  have:=a9 h2 e
  subst this
  exact⟨a,rfl,h1⟩
 | _=>cases e
end
abbrev dt (m:List (List Int×D)):Option Sl:=some (.dit m)
section
variable {F:Fx}{H Z:Hp}{S:SS}{σ:St}
end
section
variable {X:Cx}{F:Fx}{pos p p0:Pos}{k:Nat}{g ge:SS→R D}{e ei:Expr}{x:Str}
end
section
variable {σ:Type}{X:Cx}{F:Fx}{S:SS}{J:σ→SS→Prop}
end
section
variable {X:Cx}{F:Fx}
variable {σ':Type}{S:SS}{st:Stmt}{rest:List Stmt}{J:σ'→SS→Prop}
end
section
variable {X:Cx}{G:Gx}{W:Wd}{S:SS}{a b e:Expr}{es:List Expr}{st:Stmt}{rest:List Stmt}{α σ τ V':Type}{J:σ→SS→Prop}{k:Nat}{r:RW}{pos pos':Pos}
end
section
variable {X:Cx}{G:Gx}{W:Wd}{S:SS}{τ V':Type}{k:Nat}{tg iter:Expr}{body:List Stmt}{pos:Pos}{git:SS→R (List D)}{inj:τ→V'→SS}{step:Wd→τ→D→LW τ}
end
def spR (K:PySem.W.Frag)(C:Nat→Addr)(n:Nat)(f:Wd→List D→R D):Sp:=fun vs H Q E =>
 vs.length=n∧∃ W Z ds,Same Z H∧WdOk K C H Z W∧Reps K C Z ds vs∧WG ⟨K,C,H,Z,E⟩ H Z (f W ds) fun d H' Z'=>∀ v,Rep K C Z' d v→Q v H'
structure MeR (P:Program)(w:World)(K:PySem.W.Frag)(mg:Str→Option Value)(base:Heap)(C:Nat→Addr)(k:Nat)(c:Nat)(m:Str)(f:Wd→List D→R D):Prop where
 ex:∃ a fd x,FnOk P w K mg base (CXE P w) k a fd [x] (spR K C 1 f)∧Meth K (C c) m a∧Binds K fd [x] []
 cls:Cls K (C c)
section
variable {X:Cx}{F:Fx}{W:Wd}{c k:Nat}{m:Str}{o:Expr}{go:SS→R D}{f:Wd→List D→R D}{pos apos:Pos}
end
def OkG (P:Program)(w:World)(K:PySem.W.Frag)(mg:Str→Option Value)(base:Heap)(C:Nat→Addr)(k:Nat)(x qual:Str)(st:Stmt)(ps:List Str)(fn:Wd→List D→RW):Prop :=
 ∀ {f:Addr} {fd:FuncData},Fun K x qual st f fd→FnOk P w K mg base (CXE P w) (k+1) f fd ps (spG K C ps.length fn)
def OkR (P:Program)(w:World)(K:PySem.W.Frag)(mg:Str→Option Value)(base:Heap)(C:Nat→Addr)(k:Nat)(x qual:Str)(st:Stmt)(p:Str)(fn:Wd→List D→R D):Prop :=
 ∀ {f:Addr} {fd:FuncData},Fun K x qual st f fd→FnOk P w K mg base (CXE P w) (k+1) f fd [p] (spR K C 1 fn)
def b1 (k:Wd→D→LW Unit):Wd→List D→RW
 | W,[a]=>outW (k W a)
 | _,_=>.stuck
def b2 (k:Wd→D→D→LW Unit):Wd→List D→RW
 | W,[a,b]=>outW (k W a b)
 | _,_=>.stuck
def b3 (k:Wd→D→D→D→LW Unit):Wd→List D→RW
 | W,[a,b,c]=>outW (k W a b c)
 | _,_=>.stuck
def b4 (k:Wd→D→D→D→D→LW Unit):Wd→List D→RW
 | W,[a,b,c,d]=>outW (k W a b c d)
 | _,_=>.stuck
def b5 (k:Wd→D→D→D→D→D→LW Unit):Wd→List D→RW
 | W,[a,b,c,d,e]=>outW (k W a b c d e)
 | _,_=>.stuck
def r1 (k:Wd→D→L Unit):Wd→List D→R D
 | W,[a]=>outL (k W a)
 | _,_=>.stuck
section
variable {P:Program}{w:World}{K:PySem.W.Frag}{mg:Str→Option Value}{base:Heap}{C:Nat→Addr}{k:Nat}{N ps:List Str}{x qual:Str}{st:Stmt}
theorem gK {f:Addr}{fd:FuncData}{n:Nat}:FnOk P w K mg base (CXE P w) k f fd ps (spG K C n fun _ _=>.stuck) :=
 ⟨fun vs H Q E h=>by obtain⟨_,_,_,_,_,_,_,_,_,_,z⟩:=h;exact z.elim,fun A outer s H args us vs Q E _ _ _ _ h=>by obtain⟨_,_,_,_,_,_,_,_,_,_,z⟩:=h;exact z.elim⟩
theorem rB {f:Addr}{fd:FuncData}{n:Nat}:FnOk P w K mg base (CXE P w) k f fd ps (spR K C n fun _ _=>.stuck) :=
 ⟨fun vs H Q E h=>by obtain⟨_,_,_,_,_,_,_,z⟩:=h;exact z.elim,fun A outer s H args us vs Q E _ _ _ _ h=>by obtain⟨_,_,_,_,_,_,_,z⟩:=h;exact z.elim⟩
structure Md (K:PySem.W.Frag)(C:Nat→Addr)(c:Nat)(m qual:Str)(ps:List Str)(st:Stmt):Prop where
 ex:∃ a fd,Fun K m qual st a fd∧Meth K (C c) m a∧Binds K fd ps []
structure Kl (K:PySem.W.Frag)(mg:Str→Option Value)(C:Nat→Addr)(c:Nat)(x qual:Str)(ps:List Str)(st:Stmt):Prop where
 ex:∃ a fd,Fun K "__init__" qual st a fd∧Mk K (C c) a∧mg x=some (.ref (C c))∧Binds K fd ps []
 cls:Cls K (C c)
variable {c:Nat}{m:Str}{fn:Wd→List D→RW}{fr:Wd→List D→R D}{p:Str}
theorem w0 (F:Fd K mg x ps st):FnW P w K mg base C 0 x ps (fun _ _=>.stuck):=by obtain⟨a,fd,F,h,b⟩:=F.ex;exact⟨a,fd,gK,h,F.kp,b⟩
theorem w1 (F:Fd K mg x ps st)(ok:OkG P w K mg base C k x x st ps fn):FnW P w K mg base C (k+1) x ps fn:=by obtain⟨a,fd,F,h,b⟩:=F.ex;exact⟨a,fd,ok F,h,F.kp,b⟩
theorem m0 (F:Md K C c m qual ps st):MeW P w K mg base C 0 c m ps (fun _ _=>.stuck):=by obtain⟨a,fd,F,h,b⟩:=F.ex;exact⟨a,fd,gK,h,b⟩
theorem m1 (F:Md K C c m qual ps st)(ok:OkG P w K mg base C k m qual st ps fn):MeW P w K mg base C (k+1) c m ps fn:=by obtain⟨a,fd,F,h,b⟩:=F.ex;exact⟨a,fd,ok F,h,b⟩
theorem e0 (F:Md K C c m qual [p] st)(cl:Cls K (C c)):MeR P w K mg base C 0 c m (fun _ _=>.stuck):=by obtain⟨a,fd,F,h,b⟩:=F.ex;exact⟨⟨a,fd,p,rB,h,b⟩,cl⟩
theorem e1 (F:Md K C c m qual [p] st)(cl:Cls K (C c))(ok:OkR P w K mg base C k m qual st p fr):MeR P w K mg base C (k+1) c m fr:=by obtain⟨a,fd,F,h,b⟩:=F.ex;exact⟨⟨a,fd,p,ok F,h,b⟩,cl⟩
theorem n0 (F:Kl K mg C c x qual ps st):MkW P w K mg base C 0 c x ps (fun _ _=>.stuck):=by obtain⟨a,fd,F1,h,h2,b⟩:=F.ex;exact⟨⟨a,fd,gK,h,h2,b⟩,F.cls⟩
theorem n1 (F:Kl K mg C c x qual ps st)(ok:OkG P w K mg base C k "__init__" qual st ps fn):MkW P w K mg base C (k+1) c x ps fn:=by obtain⟨a,fd,F1,h,h2,b⟩:=F.ex;exact⟨⟨a,fd,ok F1,h,h2,b⟩,F.cls⟩
end
section
variable {X:Cx}{G:Gx}{W:Wd}{S:SS}{a b o e oe ie:Expr}{st:Stmt}{rest:List Stmt}{σ:Type}{J:σ→SS→Prop}{r0 r:RW}{pos pos':Pos}{k:Nat}{gb go gi:SS→R D}
end
section
variable {X:Cx}{F:Fx}{W:Wd}{c k:Nat}{m:Str}{o e:Expr}{es:List Expr}{go:SS→R D}{gs:SS→R (List D)}{f:Wd→List D→R D}{ps:List Str}{pos apos:Pos}
end
section
variable {X:Cx}{G:Gx}{W:Wd}{S:SS}{k:Nat}{x:Str}{ps:List Str}{f:Wd→List D→RW}{p pos:Pos}{c:Nat}
end
section
variable {X:Cx}{G:Gx}{W:Wd}{S:SS}{oe e:Expr}{go:SS→R D}{gs:SS→R (List D)}{apos cpos:Pos}
end
def r2 (k:Wd→D→D→L Unit):Wd→List D→R D
 | W,[a,b]=>outL (k W a b)
 | _,_=>.stuck
def r3 (k:Wd→D→D→D→L Unit):Wd→List D→R D
 | W,[a,b,c]=>outL (k W a b c)
 | _,_=>.stuck
section
variable {P:Program}{w:World}{K:PySem.W.Frag}{mg:Str→Option Value}{base:Heap}{C:Nat→Addr}{k:Nat}{N ps:List Str}{x qual:Str}{st:Stmt}
variable {c:Nat}{m:Str}{fr:Wd→List D→R D}
end
section
variable {X:Cx}{G:Gx}{W:Wd}{S:SS}{a b:Expr}{r:RW}{gb:SS→R D}{pos:Pos}{k:Nat}
end
section
variable {P:Program}{w:World}{K:PySem.W.Frag}{mg:Str→Option Value}{base:Heap}{N:List Str}{qual:Str}{scope:Scope}{f:Addr}{cd:Value}{cl:List (Str×Addr)}{A:Around}{outer:List Env}{s0:Shared}{H0:Hp}{E:XK}
end
end FF
namespace L2
open PySem PySem.Spec PyProof.Rows
structure RoomH (k:Nat)(A:Around):Prop where
 dp:A.depth+3*k+3 < recursionLimit
 un:A.units+16*k+190 < cLine
theorem RoomH.deeper {k:Nat}{A:Around}(r:RoomH (k+1) A)(env:Env):RoomH k (A.deeper env) :=
 ⟨by have:=r.dp;show A.depth+1+3*k+3 < _;omega,by have:=r.un;show A.units+3+16*k+190 < _;omega⟩
theorem RoomH.depth {k:Nat}{A:Around}(r:RoomH k A):A.depth < recursionLimit:=by have:=r.dp;omega
end L2
end
noncomputable section
namespace FF
open PySem PySem.Spec PyProof.Rows L2
section
variable {X:Cx}{pins:List (Addr×Obj)}{σ:St}{H:Hp}{s:Shared}{qual:Str}{params:Arguments}{scope:Scope}{body:Expr}{N:List Str}{f:Addr}{vs:List V}
end
def CodeK (K:PySem.W.Frag)(c P:Addr):Prop :=
 ∃ o vs file tf flags tg inF text tt,K.lookup c=some o∧o.cls=.type "code" ∧ o.data=.fields vs∧vs[11]?=some (.ref P)∧vs.getD 11 .none=.ref P∧vs.getD 18 .none=.str file tf ∧
  vs.getD 7 .none=.int flags tg∧vs.getD 9 .none=.bool inF∧vs.getD 10 .none=.int text tt∧c≠P
theorem CodeK.hd {K:PySem.W.Frag}{c P:Addr}{h:Heap}(x:CodeK K c P)(k:K.In h):PySem.W.CodeHd h c P :=
 let ⟨o,vs,file,tf,flags,tg,inF,text,tt,e,r⟩:=x;⟨o,vs,file,tf,flags,tg,inF,text,tt,k _ _ e,r⟩
def BMn (mg:Str→Option Value)(base:Heap):Prop:=∃ bm ob,mg "__builtins__"=some (.ref bm)∧bm≠builtinsNs∧base.get? bm=some ob∧ob.cls=.type "module" ∧ ob.dict=some builtinsNs∧ob.data=.plain
structure LamX (X:Cx)(K:PySem.W.Frag)(C:Nat→Addr)(i:Nat):Prop where
 lt:i < C 900
 q:qOf K (C (902+2*i))=X.env.qual ++ "<lambda>"
 cd:∃ c,X.env.code=.ref c∧CodeK K c (C (901+2*i))
 bm:BMn X.mg X.base
 inj:∀ j,j < C 900→C (901+2*j)=C (901+2*i)→j=i
theorem rC {pos:Pos}(m:List Value)(l:List Value)(h:TriplesOk l):codeAmong pos (l++m)=(codeAmong pos l).or (codeAmong pos m):=by
 fun_induction TriplesOk l with
 | case1=>simp[codeAmong]
 | case2 a t b u x rest ih =>
  simp only[List.cons_append,codeAmong]
  grind
 | case3 l h1 h2=>exact h.elim
section
variable {X:Cx}{G:Gx}{W:Wd}{HW Z H:Hp}{S:SS}{ρ:St}{pins:List (Addr×Obj)}{s:Shared}{params:Arguments}{scope:Scope}{body:Expr}{lpos:Pos}{clos:List (Str×Addr)}
theorem yt {Q:Value→Shared→Prop}(i:Nat)(I:Inv X pins ρ H s)(ok:GOk G W HW Z H S ρ)(hK:X.K=G.K)(lx:LamX X G.K G.C i)(hcl:closureFor scope X.env=pure clos)(hdef:defaultsOf params X.env=([],[]))
  (h:∀ f c ctv oc ws t pm s1 H1 HW1,Inv X pins ρ H1 s1→GX HW Z H HW1 Z H1→WdOk G.K G.C HW1 Z W→H1 f=some (.frz (PySem.W.kla_obj "<lambda>" (X.env.qual ++ "<lambda>") params body scope clos pm c ctv) (.own 0)) →
   H1 c=some (.frz oc (.own 0))→oc.data=.fields ws→ws[1]?=some (.str (X.env.qual ++ "<lambda>") t)→Q (.ref f) s1) :
  wpAny (model X.prog X.w) X.A (eval (.Lambda params body scope lpos) X.env) Q X.xe s:=by
 obtain⟨c,hcode,ck⟩:=lx.cd
 obtain⟨ps,hP,tp,hits⟩:=ok.wd.tb i lx.lt
 rw[lx.q]at hits
 have tbo:=ok.wd.tb
 have q0:=lx.q
 generalize hPe:G.C (901+2*i)=P at hP ck
 have hP':=ok.wh _ _ hP
 have heP:=I.hok P _ hP'
 have CH:=ck.hd (hK ▸ I.kIn)
 have hg:=I.ok.mod.glob.keeps I.bk
 have hbs:∀ b o,X.base.get? b=some o→b≠P:=fun b o e z=>by
  have:=(I.bs b o e).2
  rw[z,hP']at this;cases this
 have hgP:mainGlobals≠P:=by obtain⟨o,es,ep,e,_⟩:=I.ok.mod.glob;exact hbs _ _ e
 obtain⟨bm,ob,b1,b2,b3,b4,b5,b6⟩:=lx.bm
 have hbG:bm≠mainGlobals:=fun q=>by
  obtain⟨o,es,ep,e,hd,_⟩:=I.ok.mod.glob
  rw[q,e]at b3;cases b3;rw[hd]at b6;cases b6
 have hb:s.heap.BuiltinsAt X.mg P:=⟨bm,ob,b1,b2,hbG,hbs _ _ b3,I.bk _ _ b3,b4,b5,b6⟩
 refine PySem.W.kla_eval hdef ?_
 cases hq:codeAmong lpos ps.toList with
 | some cv =>
  obtain⟨c',oc,ws,t,rfl,hc',d1,d2⟩:=hits lpos cv hq
  refine PySem.W.kla_makeFunctionHit hcl I.ok.glob hg hcode CH heP tp hq hb fun ctv h' tk hk hsz=>?_
  have hf:=I.hok.fresh hsz
  have hcH:=ok.wh _ _ hc'
  refine h _ c' ctv oc ws t _ _ _ HW (I.laid (o:=.frz (PySem.W.kla_obj "<lambda>" (X.env.qual ++ "<lambda>") params body scope clos ((X.mg "__name__").getD .none) c' ctv) (.own 0)) (fun b u e=>Heap.get?_push_of_some _ (hk b u e)) hsz ⟨Heap.get?_push_size _ rfl,⟨_,Heap.get?_push_size _ rfl⟩⟩) ?_ ok.wd aj ?_ d1 d2
  ·exact ok.ex ⟨fun b u e=>by rw[ag (aN e hf)];exact e,Same.refl _,fun b u e=>by have e1:=ok.zh b u e;rw[ag (aN e1 hf)];exact e1,fun _ q=>.inl q⟩
  ·rw[ag (aN hcH hf)];exact hcH
 | none =>
  refine PySem.W.kla_makeFunction hcl I.ok.glob hg hcode CH heP tp hq hgP hb fun c' ctv h' tk hx hge hlt hrec htb=>?_
  obtain⟨c2,oc,ws,t,ec,hoc,d1,d2⟩:=hrec
  cases ec
  have hszf:=Nat.le_trans hge (Nat.le_of_lt hlt)
  have hc0:H c'=none:=I.hok.fresh hge
  have hf0:=I.hok.fresh hszf
  have ncf:=Nat.ne_of_lt hlt
  have ncP:P≠c':=aN hP' hc0
  have nfP:=aN hP' hf0
  let fo:HO:=.frz (PySem.W.kla_obj "<lambda>" (X.env.qual ++ "<lambda>") params body scope clos ((X.mg "__name__").getD .none) c' ctv) (.own 0)
  let H1:Hp:=upd (upd (upd H P (.tbl (ps++#[rawInt lpos.line,rawInt lpos.col,.ref c']))) c' (.frz oc (.own 0))) h'.objs.size fo
  let HW1:Hp:=upd (upd HW P (.tbl (ps++#[rawInt lpos.line,rawInt lpos.col,.ref c']))) c' (.frz oc (.own 0))
  have a1:H1 h'.objs.size=some fo:=aj
  have a2:H1 c'=some (.frz oc (.own 0)):=by show upd _ _ _ c'=_;rw[ag ncf,aj]
  have a3:H1 P=some (.tbl (ps++#[rawInt lpos.line,rawInt lpos.col,.ref c'])):=by show upd _ _ _ P=_;rw[ag nfP,ag ncP,aj]
  have a4:∀ b,b≠P→H b≠none→H1 b=H b:=fun b h1 h2=>by
   show upd _ _ _ b=_
   rw[ag (fun z=>h2 (by rw[z];exact hf0)),ag (fun z=>h2 (by rw[z];exact hc0)),ag h1]
  have w2:HW1 c'=some (.frz oc (.own 0)):=aj
  have w3:HW1 P=some (.tbl (ps++#[rawInt lpos.line,rawInt lpos.col,.ref c'])):=by show upd _ _ _ P=_;rw[ag ncP,aj]
  have wc0:=ok.wh.free hc0
  have w4:∀ b,b≠P→HW b≠none→HW1 b=HW b:=fun b h1 h2=>by
   show upd _ _ _ b=_
   rw[ag (fun z=>h2 (by rw[z];exact wc0)),ag h1]
  have g1:∀ b o,b≠P→s.heap.get? b=some o→(h'.push (PySem.W.kla_obj "<lambda>" (X.env.qual ++ "<lambda>") params body scope clos ((X.mg "__name__").getD .none) c' ctv)).get? b=some o:=fun b o hb e=>Heap.get?_push_of_some _ (hx b o hb e)
  have nP:∀ b,H b=none→b≠P:=fun b n z=>by rw[z,hP']at n;cases n
  have nsz:∀ b o,s.heap.get? b=some o→b≠c'∧b≠h'.objs.size:=fun b o e=>⟨Nat.ne_of_lt (Nat.lt_of_lt_of_le (Heap.lt_size e) hge),Nat.ne_of_lt (Nat.lt_of_lt_of_le (Heap.lt_size e) hszf)⟩
  have un:Un X.fs [] H H1 s.heap (h'.push (PySem.W.kla_obj "<lambda>" (X.env.qual ++ "<lambda>") params body scope clos ((X.mg "__name__").getD .none) c' ctv)):=by
   refine⟨fun b o e n _ _=>g1 b o (nP b n) e,fun b o e n _ _=>⟨o.slots,g1 b o (nP b n) e⟩,fun b o e n _=>?_,fun b o e _=>?_,fun b xs e=>?_,fun b o u e=>?_,fun b qs e=>?_⟩
   ·show upd _ _ _ b=_
    rw[ag (nsz b o e).2,ag (nsz b o e).1,ag (nP b n)];exact n
   ·by_cases hb:b=P
    ·exact⟨_,by rw[hb];exact Heap.get?_push_of_some _ htb⟩
    ·exact⟨o,g1 b o hb e⟩
   ·rw[a4 b (fun z=>by rw[z,hP']at e;cases e) (by rw[e];simp)];exact e
   ·rw[a4 b (fun z=>by rw[z,hP']at e;cases e) (by rw[e];simp)];exact e
   ·by_cases hb:b=P
    ·subst hb;rw[hP']at e;cases e;exact⟨_,a3⟩
    ·exact⟨#[],by rw[a4 b hb (by rw[e];simp),e];simp⟩
  have hok:HOk X.prog X.w H1 (h'.push (PySem.W.kla_obj "<lambda>" (X.env.qual ++ "<lambda>") params body scope clos ((X.mg "__name__").getD .none) c' ctv)):=fun b u e=>by
   by_cases hb1:b=h'.objs.size
   ·subst hb1;rw[a1]at e;cases e
    exact⟨Heap.get?_push_size _ rfl,⟨_,Heap.get?_push_size _ rfl⟩⟩
   ·by_cases hb2:b=c'
    ·subst hb2;rw[a2]at e;cases e
     exact⟨Heap.get?_push_of_some _ hoc,⟨_,Heap.get?_push_of_some _ hoc⟩⟩
    ·by_cases hb3:b=P
     ·subst hb3;rw[a3]at e;cases e
      exact Heap.get?_push_of_some _ htb
     ·have e0:H b=some u:=by
       have:H1 b=H b:=by show upd _ _ _ b=_;rw[ag hb1,ag hb2,ag hb3]
       rw[← this];exact e
      refine(I.hok b u e0).stay (fun d v hd q=>g1 d v ?_ q) (fun d q=>?_) fun d xs q=>?_
      ·rcases hd with z | z
       ·rw[z];exact hb3
       ·intro z2;rw[z2,hP']at z;cases z
      ·rw[a4 d (fun z=>by rw[z,hP']at q;cases q) (by rw[q];simp)];exact q
      ·rw[a4 d (fun z=>by rw[z,hP']at q;cases q) (by rw[q];simp)];exact q
  have gx:GX HW Z H HW1 Z H1:=by
   refine⟨fun b o n e=>?_,Same.refl _,fun b o e=>?_,fun b o e=>?_,fun b n=>?_,fun b n=>?_,fun b n=>.inl n,fun b n=>?_⟩
   ·rw[a4 b (fun z=>by rw[z,hP]at n;cases n) (by rw[e];simp)];exact e
   ·have e1:=ok.zh b o e
    rw[a4 b (fun z=>by rw[z]at e;rw[ok.gx.dj P (bI hP)]at e;cases e) (by rw[e1];simp)];exact e1
   ·by_cases hb:b=P
    ·subst hb;rw[w3]at e;rw[a3];exact e
    ·by_cases hb2:b=c'
     ·subst hb2;rw[w2]at e;rw[a2];exact e
     ·have e0:HW b=some o:=by
       have:HW1 b=HW b:=by show upd _ _ _ b=_;rw[ag hb2,ag hb]
       rw[← this];exact e
      have e1:=ok.wh b o e0
      rw[a4 b hb (by rw[e1];simp)];exact e1
   ·by_cases hb:b=P
    ·rw[hb,w3];simp
    ·rw[w4 b hb n];exact n
   ·by_cases hb:b=P
    ·exact .inl (by rw[hb,hP];simp)
    ·by_cases hb2:b=c'
     ·exact .inr (by rw[hb2];exact hc0)
     ·have:HW1 b=HW b:=by show upd _ _ _ b=_;rw[ag hb2,ag hb]
      rw[this]at n;exact .inl n
   ·by_cases hb:b=P
    ·rw[hb];exact ok.gx.dj P (bI hP)
    ·by_cases hb2:b=c'
     ·rw[hb2];exact ok.zh.free hc0
     ·have:HW1 b=HW b:=by show upd _ _ _ b=_;rw[ag hb2,ag hb]
      rw[this]at n;exact ok.gx.dj b n
  have keepW:∀ b u,HW b=some u→(∀ qs,u≠.tbl qs)→HW1 b=some u:=fun b u e hn=>by
   rw[w4 b (fun z=>by rw[z,hP]at e;cases e;exact hn _ rfl) (by rw[e];simp)];exact e
  have wd:WdOk G.K G.C HW1 Z W:=by
   refine⟨fun b o e=>?_,fun j hj=>?_⟩
   ·have q:=ok.wd b o e
    cases o with
    | ins n fs=>obtain⟨dx,vs,e1,e2,cl,e3,r⟩:=q;exact⟨dx,vs,keepW _ _ e1 (fun _ z=>nomatch z),keepW _ _ e2 (fun _ z=>nomatch z),cl,e3,r⟩
    | lst ds=>obtain⟨vs,e1,r⟩:=q;exact⟨vs,keepW _ _ e1 (fun _ z=>nomatch z),r⟩
   ·obtain⟨qs,f1,f2,f3⟩:=tbo j hj
    by_cases hb:G.C (901+2*j)=P
    ·rw[hb]at f1 ⊢
     have ej:qs=ps:=by rw[hP]at f1;cases f1;rfl
     subst ej
     refine⟨_,w3,?_,fun pos cv q=>?_⟩
     ·rw[Array.toList_append];exact TriplesOk_snoc _ _ _ _ f2
     ·rw[Array.toList_append,rC _ _ f2]at q
      cases hh:codeAmong pos qs.toList with
      | some v =>
       rw[hh]at q
       cases q
       obtain⟨c3,oc3,ws3,t3,k1,k2,k3,k4⟩:=f3 pos cv hh
       exact⟨c3,oc3,ws3,t3,k1,keepW _ _ k2 (fun _ z=>nomatch z),k3,k4⟩
      | none =>
       rw[hh]at q
       have q':=q
       simp only[codeAmong,rawInt]at q'
       split at q'
       ·cases q'
        refine⟨c',oc,ws,t,rfl,w2,d1,?_⟩
        rw[d2]
        rw[lx.inj j hj (hb.trans hPe.symm),q0]
       ·cases q'
    ·refine⟨qs,by rw[w4 _ hb (by rw[f1];simp)];exact f1,f2,fun pos cv q=>?_⟩
     obtain⟨c3,oc3,ws3,t3,k1,k2,k3,k4⟩:=f3 pos cv q
     exact⟨c3,oc3,ws3,t3,k1,keepW _ _ k2 (fun _ z=>nomatch z),k3,k4⟩
  exact h _ c' ctv oc ws t _ _ H1 HW1 (I.un un hok) gx wd a1 a2 d1 d2
end
theorem BG.mono {X:Cx}{G:Gx}{j k:Nat}(b:BG X G k)(h:j≤k):BG X G j:=⟨b.room.mono h,b.K,b.calm,b.pass⟩
section
variable {X:Cx}{G:Gx}{W:Wd}{S:SS}{k:Nat}{N:List Str}{qual:Str}{params:Arguments}{scope:Scope}{body:Expr}{ds:List D}{vs:List V}{rf:Wd→RW}{f:Addr}{x:Str}{p pos:Pos}
def tLam (G:Gx)(W:Wd)(S:SS)(qual:Str)(params:Arguments)(scope:Scope)(body:Expr)(clos:List (Str×Addr)):TE:=fun ρ H Q=>∃ HW Z,GOk G W HW Z H S ρ∧∀ f c ctv oc ws t pm H1 HW1,GX HW Z H HW1 Z H1→WdOk G.K G.C HW1 Z W →
 H1 f=some (.frz (PySem.W.kla_obj "<lambda>" qual params body scope clos pm c ctv) (.own 0))→H1 c=some (.frz oc (.own 0))→oc.data=.fields ws→ws[1]?=some (.str qual t)→Q (.ref f) H1
theorem zz {clos:List (Str×Addr)}{lpos:Pos}(i:Nat)(hK:X.K=G.K)(lx:LamX X G.K G.C i)(hcl:closureFor scope X.env=pure clos)(hdef:defaultsOf params X.env=([],[])) :
  PE X (.Lambda params body scope lpos) (tLam G W S (X.env.qual ++ "<lambda>") params scope body clos):=fun pins s ρ H Q I ⟨HW,Z,ok,w⟩ =>
 yt i I ok hK lx hcl hdef fun f c ctv oc ws t pm s1 H1 HW1 I1 gx wd a1 a2 a3 a4=>⟨.ref f,H1,I1,rfl,w f c ctv oc ws t pm H1 HW1 gx wd a1 a2 a3 a4⟩
end
section
variable {X:Cx}{F:Fx}{o e a b:Expr}{g ga gb:SS→R D}{gs:SS→R (List D)}{apos cpos p pos:Pos}{ec:Expr}{k:Nat}{y:V}{q:D→Option Bool}
end
structure FnHd (P:Program)(w:World)(K:PySem.W.Frag)(mg:Str→Option Value)(base:Heap)(C:Nat→Addr)(k:Nat)(x:Str)(ps:List Str)(f:List D→R D):Prop where
 ex:∃ a fd,(∀ (A:Around) (outer:List Env) (s:Shared) (H:Hp) (args:Args) (us:List Value) (vs:List V) (Q:VK),RoomH k A→Env0 P w K mg base A outer s H→BindsTo s fd args (ps.zip us)→Vals vs us→spF K C ps.length f vs H Q E0 →
  codeAny (model P w) A (.call (.ref a) args) (CR CX0 outer P w H s Q E0) s)∧mg x=some (.ref a)∧PySem.W.keepIn K (.ref a)=true∧Binds K fd ps []
section
variable {P:Program}{w:World}{K:PySem.W.Frag}{mg:Str→Option Value}{base:Heap}{C:Nat→Addr}{k:Nat}{N:List Str}{x p:Str}{st:Stmt}
end
section
variable {X:Cx}{body:List Stmt}{c n cl yp:Str}{np np2 cp rp apos hpos pos:Pos}{fh:List D→R D}{k:Nat}{q:Nat→Bool}{C0:Addr}{C:Nat→Addr}{tb:XK→TS}
end
section
variable {X:Cx}{G:Gx}{W:Wd}{S:SS}{σ:Type}{J:σ→SS→Prop}{body:List Stmt}{c n cl yp:Str}{np np2 cp rp apos hpos pos:Pos}{k:Nat}{q:Nat→Bool}{C0:Addr}{fh:List D→R D}
end
section
variable {X:Cx}{G:Gx}{W:Wd}{S:SS}{σ:Type}{J:σ→SS→Prop}{e:Expr}{r:RW}{rest:List Stmt}{x:Str}{pos pos' lpos p0 apos cpos:Pos}
end
section
variable {P:Program}{w:World}{K:PySem.W.Frag}{mg:Str→Option Value}{base:Heap}{C:Nat→Addr}{k i:Nat}{N ps:List Str}{x:Str}{st:Stmt}{fn:Wd→List D→RW}
end
theorem _root_.L2.RoomH.mono {j k:Nat}{A:Around}(r:RoomH k A)(h:j≤k):RoomH j A:=⟨by have:=r.dp;omega,by have:=r.un;omega⟩
theorem FnHd.mono {P:Program}{w:World}{K:PySem.W.Frag}{mg:Str→Option Value}{base:Heap}{C:Nat→Addr}{j k:Nat}{x:Str}{ps:List Str}{f:List D→R D}(h:FnHd P w K mg base C j x ps f)(hj:j≤k):FnHd P w K mg base C k x ps f:=by
 obtain⟨a,fd,h1,h2⟩:=h.ex
 exact⟨a,fd,fun A outer s H args us vs Q hr=>h1 A outer s H args us vs Q (hr.mono hj),h2⟩
end FF
namespace L2
open PySem PySem.Spec PyProof.Rows
end L2
end
noncomputable section
namespace FF
open PySem PySem.Spec PyProof.Rows L2
end FF
namespace FF
open PySem PySem.Spec PyProof.Rows L2
def dDx (d k:D):R D:=match d with
 | .dic ks xs=>match keyOf k with
  | some k=>match dicGet (ks.zip xs) k with
   | some d=>.ok d
   | none=>.stuck
  | none=>.stuck
 | _=>.stuck
section
variable {X:Cx}{F:Fx}{o e:Expr}{go g:SS→R D}{pos:Pos}{k:Nat}
theorem DGet.kf {H:Hp}{a:Addr}{o:Obj}{kvs:List (Key×V)}{k:Key}(e:H a=some (.frz o (.dK kvs))):DGet H a (kV k) (valV kvs k):=.inl ⟨kvs,k,.inr ⟨o,e⟩,rfl,rfl⟩
theorem wm {Z:Hp}{ks:List Key}{xs:List D}{v:V}(h:Rep F.K F.C Z (.dic ks xs) v):∃ a kvs o,v=.ref a∧Z a=some (.frz o (.dK kvs))∧Pairs F Z (ks.zip xs) kvs:=by
 rw[Rep]at h
 obtain⟨a,kvs,h1,⟨o,h2⟩,h3,h4⟩:=h
 have l1:ks.length=kvs.length:=by rw[← h3,List.length_map]
 have l2:xs.length=kvs.length:=by have:=h4.length;rw[List.length_map]at this;exact this
 refine⟨a,kvs,o,h1,h2,?_,?_⟩
 ·rw[List.map_fst_zip (by omega)];exact h3
 ·rw[List.map_snd_zip (by omega)];exact h4
theorem wn (bx:BX X F k)(ho:FE X F o go)(he:FE X F e g)(hs:NoSl e:=by intro _ _;rfl):FE X F (.Subscript o e pos) (eOp dDx go g) :=
 (pz (by have:=bx.room.un;omega) ho he hs).weak fun σ H Q ⟨Z,S,ok,w⟩=>by
  refine aA ok w fun d x H1 Z1 ok1 x1 rx w1=>aA ok1 w1 fun dk y H2 Z2 ok2 x2 ry w2=>?_
  cases d with
  | dic ks xs =>
   obtain⟨a,kvs,o,rfl,ez,r⟩:=wm rx
   unfold dDx at w2
   simp only at w2
   cases ek:keyOf dk with
   | none=>rw[ek]at w2;exact w2.elim
   | some kk =>
    rw[ek]at w2
    simp only at w2
    cases ed:dicGet (ks.zip xs) kk with
    | none=>rw[ed]at w2;exact w2.elim
    | some d' =>
     rw[ed]at w2
     obtain⟨v,f1,f2⟩:=(r.mono x2.z).get ed
     rw[gF ek ry]
     refine⟨a,v,rfl,?_,WG.now w2 ok2.sub v f2⟩
     rw[← f1]
     exact DGet.kf (ok2.sub _ _ (x2.z _ _ ez))
  | _=>exact w2.elim
end
def dicD (m:List (Key×D)):D:=.dic (m.map (·.1)) (m.map (·.2))
section
variable {X:Cx}{F:Fx}{S:SS}{σ:Type}{J:σ→SS→Prop}
theorem StOk.freezeD {H Z:Hp}{ρ:St}(h:StOk F H Z S ρ){i:Nat}{m:List (Key×D)}(e:S[i]?=some (some (.dic m))):∃ a kvs,H a=some (.dK kvs)∧Same Z (upd Z a (.dK kvs))∧∀ o:Obj,Same Z (upd Z a (.frz o (.dK kvs)))∧StOk F (upd H a (.frz o (.dK kvs))) (upd Z a (.frz o (.dK kvs))) (S.set i (some (.val (dicD m)))) ρ:=by
 obtain⟨v,A,e1,ow,p⟩:=h.sl i _ e
 obtain⟨a,kvs,rfl,rfl,e2,r⟩:=id ow
 have zn:Z a=none:=p.z a (.head _)
 refine⟨a,kvs,e2,aC zn,fun o=>?_⟩
 have hz:Same Z (upd Z a (.frz o (.dK kvs))):=aC zn
 refine⟨hz,h.frzAllH e e1 ow (fun b hb=>ag fun z=>hb (by rw[z];exact .head _)) hz (fun b u q=>?_) (fun b q=>?_) (by rw[dicD,Rep];exact⟨a,kvs,rfl,⟨o,aj⟩,r.1,r.2.mono hz⟩)⟩
 ·by_cases z:b=a
  ·subst z;rw[aj]at q ⊢;exact q
  ·rw[ag z]at q ⊢;exact h.sub b u q
 ·by_cases z:b=a
  ·subst z;exact .inr (.head _)
  ·rw[ag z]at q;exact .inl q
theorem wp {pins:List (Addr×Obj)}{s:Shared}{ρ:St}{H:Hp}{a:Addr}{kvs:List (Key×V)}(I:Inv X pins ρ H s)(e:H a=some (.dK kvs)):∃ o,Inv X pins ρ (upd H a (.frz o (.dK kvs))) s:=by
 obtain⟨hz,hs,vs,kv,o,es,ep,e1,dd⟩:=I.hok a _ e
 exact⟨o,iC I (by rw[e];trivial) ⟨rfl,fun _ _=>rfl⟩ ⟨o,e1⟩ ⟨e1,hz,hs,vs,kv,o,es,ep,e1,dd⟩⟩
theorem wq (i:Nat){m:List (Key×D)}{S':SS}{sts:List Stmt}{l:L σ}(hi:S[i]?=some (some (.dic m)))(hS:S.set i (some (.val (dicD m)))=S')(h:FL X F S' sts J l):FL X F S sts J l :=
 fun pins s ρ H D I ⟨Z,ok,w⟩=>by
  obtain⟨a,kvs,e,_,k⟩:=ok.freezeD hi
  obtain⟨o,I'⟩:=wp I e
  obtain⟨z,ok'⟩:=k o
  rw[hS]at ok'
  exact h pins s ρ _ D I' ⟨_,ok',WL.more w z⟩
end
section
variable {X:Cx}{F:Fx}{tg a b e o:Expr}{g ga gb go:SS→R D}{gs:SS→R (List D)}{p pos:Pos}{k:Nat}
end
section
variable {X:Cx}{F:Fx}{e ei:Expr}{g:SS→R D}{gs:SS→R (List D)}{p pos pos' p0 apos cpos:Pos}{k:Nat}{x:Str}
end
section
variable {prog:Program}{w:World}{A:Around}{E:Value→Shared→Prop}{s:Shared}{κ:Type}[DecidableEq κ]{knd:PySem.KeyKind prog w κ}
end
theorem pC {κ:Type}:∀ {kvs:List (κ×V)} {vs:List (κ×Value)},KV kvs vs→kvs.map (·.1)=vs.map (·.1)
 | _,_,.nil=>rfl
 | _,_,.cons r t=>by rw[List.map_cons,List.map_cons,r.1,pC t]
section
variable {X:Cx}{F:Fx}{e:Expr}{gs:SS→R (List D)}{p pos:Pos}{k:Nat}
end
section
variable {X:Cx}{F:Fx}{e:Expr}{es:List Expr}{g:SS→R D}{gs:List (SS→R D)}{x:Str}{pos pos' lpos p0 apos cpos:Pos}{k:Nat}
end
section
variable {X:Cx}{G:Gx}{W:Wd}{S:SS}{σ:Type}{J:σ→SS→Prop}{st:Stmt}{rest:List Stmt}{α:Type}
end
end FF
namespace FF
open PySem PySem.Spec PyProof.Rows L2
section
variable {X:Cx}{G:Gx}{W:Wd}{S:SS}{σ:Type}{J:σ→SS→Prop}{st:Stmt}{rest sts:List Stmt}{α:Type}
end
section
variable {P:Program}{w:World}{K:PySem.W.Frag}{mg:Str→Option Value}{base:Heap}{C:Nat→Addr}{k i:Nat}{N ps:List Str}{x:Str}{st:Stmt}{fn:Wd→List D→RW}
end
section
variable {X:Cx}{F:Fx}{st:Stmt}{g:SS→R D}{i:Nat}
end
section
variable {X:Cx}{G:Gx}{W:Wd}{S:SS}{σ:Type}{J:σ→SS→Prop}
end
section
variable {X:Cx}{G:Gx}{W:Wd}{S:SS}{a b:Expr}{rest:List Expr}{r:RW}{r2:Wd→RW}{gb:SS→R D}{pos:Pos}{k:Nat}
end
section
variable {X:Cx}{F:Fx}{o e:Expr}{g:SS→R D}{gs:List (SS→R D)}{apos cpos:Pos}{k:Nat}
end
section
variable {X:Cx}{F:Fx}{o e:Expr}{g:SS→R D}{gs:List (SS→R D)}{apos cpos:Pos}{k:Nat}
open Builtin Builtin.Str in
end
section
variable {X:Cx}{F:Fx}{e e':Expr}{g:SS→R D}{gs:List (SS→R D)}{es:List Expr}{pos:Pos}
end
end FF
end
noncomputable section
namespace L2
open PySem PySem.Spec PyProof.Rows
section
variable {X:Cx}{pins:List (Addr×Obj)}{σ:List (Option V)}{H H':Hp}{s:Shared}{h':Heap}
end
theorem wr {P:Program}{w:World}{k:Key}{u:Value}(h:(mixKind P w).is k u=true):RelV (kV k) u:=by
 rcases aK (show keyIs k u=true from h) with ⟨i,t,rfl,rfl⟩ | ⟨x,t,rfl,rfl⟩
 ·exact⟨t,rfl⟩
 ·exact⟨t,rfl⟩
end L2
namespace FF
open PySem PySem.Spec PyProof.Rows L2
def keyD:Key→D
 | .inl i=>.int i
 | .inr x=>.str x
theorem wu {K:PySem.W.Frag}{C:Nat→Addr}{Z:Hp}(k:Key):Rep K C Z (keyD k) (kV k):=by cases k<;>(unfold keyD;rw[Rep];rfl)
section
variable {X:Cx}{F:Fx}{tg a b e o:Expr}{g ga gb go:SS→R D}{gs:SS→R (List D)}{p pos apos cpos:Pos}{k:Nat}
end
end FF
namespace FF
open PySem PySem.Spec PyProof.Rows L2
section
variable {X:Cx}{F:Fx}{a b:Expr}{ga gb:SS→R D}{pos:Pos}{k:Nat}
end
set_option maxHeartbeats 1000000 in
section
variable {prog:Program}{w:World}{A:Around}{E:Value→Shared→Prop}{R:Result→Shared→Prop}
end
end FF
namespace FF
open PySem PySem.Spec PyProof.Rows L2
inductive Prs (K:PySem.W.Frag)(H:Hp):List V→List (Key×V)→Prop
 | nil:Prs K H [] []
 | cons {b:Addr} {k:Key} {v:V} {ps:List V} {kvs:List (Key×V)} (h:SqT K H b [kV k,v]) (t:Prs K H ps kvs):Prs K H (.ref b::ps) ((k,v)::kvs)
theorem Prs.mono {K:PySem.W.Frag}{Z H:Hp}(z:Same Z H):∀ {ps:List V} {kvs:List (Key×V)},Prs K Z ps kvs→Prs K H ps kvs
 | _,_,.nil=>.nil
 | _,_,.cons h t=>.cons (h.mono z) (Prs.mono z t)
theorem Prs.length {K:PySem.W.Frag}{H:Hp}:∀ {ps:List V} {kvs:List (Key×V)},Prs K H ps kvs→ps.length=kvs.length
 | _,_,.nil=>rfl
 | _,_,.cons h t=>by rw[List.length_cons,List.length_cons,t.length]
section
variable {X:Cx}{F:Fx}{e o:Expr}{go:SS→R D}{gs:SS→R (List D)}{p pos apos cpos:Pos}{k:Nat}
end
section
variable {X:Cx}{F:Fx}{o:Expr}{go:SS→R D}{p pos apos cpos:Pos}{k:Nat}
end
section
variable {X:Cx}{G:Gx}{W:Wd}{S:SS}{a b e:Expr}{es:List Expr}{st:Stmt}{rest:List Stmt}{α σ τ V':Type}{J:σ→SS→Prop}{n:Nat}{r r0:RW}{pos pos':Pos}{gb:SS→R D}
end
section
variable {X:Cx}{F:Fx}{S:SS}{σ τ W:Type}{J:σ→SS→Prop}{st:Stmt}{rest:List Stmt}
end
section
variable {X:Cx}{F:Fx}{pos p:Pos}{keys:List (Option Expr)}{values:List Expr}{ks:List Key}{gs:List (SS→R D)}{e:Expr}{te:TE}
end
section
variable {K:PySem.W.Frag}{C:Nat→Addr}{es is:List Nat}{a:Addr}
end
section
variable {X:Cx}{F:Fx}{e:Expr}{es:List Expr}{g:SS→R D}{gs:List (SS→R D)}
end
section
variable {X:Cx}{F:Fx}{e:Expr}{lo hi:Option Expr}{g:SS→R D}{l h:SS→R (Option Int)}{pos p2:Pos}
end
section
variable {prog:Program}{w:World}{A:Around}{E:Value→Shared→Prop}{s:Shared}{cs:List Obj}{o:Obj}{vs:Array Value}{i j m:Nat}{x:Value}
variable {l₁ l₂:Addr}{k:Int}{xs ys:Array Value}{y:Value}{u:Bool}{rest:List Obj}{f:Value}
end
section
variable {X:Cx}{F:Fx}{a b:Expr}{ga gb:SS→R D}{k:Nat}
def H5 (H:Hp)(n:Nat)(t:Nat→List V)(b:Nat):Option HO:=if b=n+5 then some (.lst [.ref (n+6),.ref (n+7),.ref (n+8),.ref (n+9)]) else if n+6≤b∧b≤n+9 then some (.tup (t (b - (n+6)))) else H b
end
def lWh {τ:Type}(c:τ→R Bool)(f:τ→L τ):Nat→τ→L τ
 | 0,_=>.stuck
 | n+1,s=>lB (c s) fun b=>if b=true then lS (f s) (lWh c f n) else .nx s
section
variable {τ W:Type}{X:Cx}{F:Fx}{S:SS}{c:Expr}{body:List Stmt}{pos:Pos}{inj:τ→W→SS}{gt:SS→R Bool}{r:τ→R Bool}{step:τ→L τ}
theorem gL (n:Nat){s0:τ}(w0:W)(hp:PassesOwn (model X.prog X.w) X.A X.env X.xe)(hc:FT X F c gt)(hr:∀ s w,gt (inj s w)=r s)(hS:S=inj s0 w0)(hb:∀ s w,FL X F (inj s w) body (JX inj) (step s)) :
  FL1 X F S (.While c body [] pos) (JX inj) (lWh r step n s0):=by
 have hbb:PSs X body (fun D ρ H=>∃ q:τ×W,tL F (inj q.1 q.2) (JX inj) (step q.1) D ρ H):=kX fun q=>hb q.1 q.2
 refine(sG hp hc hbb).weak fun D ρ H ⟨Z,ok,w⟩=>⟨fun m ρ H=>∃ Z s w,StOk F H Z (inj s w) ρ∧WL F Z (JX inj) (lWh r step m s) D,⟨n,Z,s0,w0,hS ▸ ok,w⟩,?_⟩
 rintro m ρ1 H1 ⟨Z1,s,w1,ok1,wl⟩
 cases m with
 | zero=>exact wl.elim
 | succ m =>
  refine d7 (P:=fun b _ Z'=>WL F Z' (JX inj) (if b=true then lS (step s) (lWh r step m) else .nx s) D) ok1 (by
   rw[hr]
   have:=WL.wg ok1 (r:=r s) wl
   cases q:r s<;>rw[q]at this<;>exact this) fun b H2 Z2 ok2 x2 w2=>?_
  have w2:=WG.now w2 ok2.sub
  cases b with
  | false=>exact w2 _ ρ1 H2 Z2 ⟨w1,rfl⟩ (Same.refl _) ok2
  | true =>
   refine⟨fun ρ H=>∃ Z s w,StOk F H Z (inj s w) ρ∧WL F Z (JX inj) (lWh r step m s) D,fun ρ H h=>⟨m,Nat.lt_succ_self m,h⟩,⟨s,w1⟩,Z2,ok2,?_⟩
   rw[if_pos rfl]at w2
   cases q:step s with
   | nx s'=>rw[q]at w2;exact fun S' ρ' H' Z' ⟨w',e⟩ z ok'=>⟨Z',s',w',e ▸ ok',WL.more w2 z⟩
   | rt d=>rw[q]at w2;exact w2
   | er k=>rw[q]at w2;exact w2
   | stuck=>rw[q]at w2;exact w2
end
end FF
end
noncomputable section

end
noncomputable section
namespace FF
open PySem PySem.Spec PyProof.Rows L2
def rdT {α:Type}(i:Nat)(g:SS→R α):SS→R α:=fun S=>match S[i]? with
 | some (some (.own ds))=>g (S.set i (some (.val (.lst ds))))
 | _=>.stuck
theorem pD (i:Nat){X:Cx}{F:Fx}{e:Expr}{g:SS→R Bool}(h:FT X F e g):FT X F e (rdT i g) :=
 fun pins s σ H Q I ⟨Z,S,ok,w⟩=>h pins s σ H Q I (by
  unfold rdT at w
  split at w
  ·rename_i ds e0
   obtain⟨Z',z,ok'⟩:=ok.freeze e0
   refine⟨Z',_,ok',?_⟩
   cases q:g (S.set i (some (.val (.lst ds)))) with
   | ok b=>rw[q]at w;exact fun H' Z'' x=>w H' Z ⟨x.same,Same.refl _,ok.sub.trans x.same,fun _ h=>.inl h⟩
   | err k=>rw[q]at w;exact w
   | stuck=>rw[q]at w;exact w
  ·exact w.elim)
def oRem (ds:List D)(v:D):R (List D):=match v with
 | .int j=>match intsOf ds with
  | some is=>if j∈is then .ok ((is.erase j).map .int) else .stuck
  | none=>.stuck
 | _=>.stuck
def rRem:V→List V→Hp→VK→Prop:=fun x vs H Q=>∃ (l:Addr) (is:List Int) (j:Int),x=.ref l∧vs=[.int j]∧H l=some (.lst (is.map V.int))∧j∈is∧Q .non (upd H l (.lst ((is.erase j).map V.int)))
theorem mj {j:Int}:∀ {is:List Int},j∈is→∃ n,∃ h:n < is.length,is[n]=j∧(∀ m (hm:m < is.length),m < n→is[m]≠j)∧is.erase j=is.eraseIdx n
 | a::is,h=>by
  by_cases e:a=j
  ·subst e
   exact⟨0,by simp,rfl,fun m _ z=>absurd z (Nat.not_lt_zero _),by simp⟩
  ·obtain⟨n,hn,h1,h2,h3⟩:=mj ((List.mem_cons.mp h).resolve_left fun z=>e z.symm)
   refine⟨n+1,by simpa using hn,by simpa using h1,fun m hm z=>?_,?_⟩
   ·cases m with
    | zero=>exact e
    | succ m=>exact h2 m (by simpa using hm) (by omega)
   ·rw[List.erase_cons_tail (by simpa using e),h3];rfl
section
variable {X:Cx}
theorem yu:MtM X "list.remove" rRem:=by
 intro pins s σ H x vs v us Q I rx rv h
 obtain⟨l,is,j,rfl,rfl,hH,hj,q⟩:=h
 cases rx
 obtain⟨u,rfl,ru⟩:=vals1 rv
 obtain⟨t,rfl⟩:=(show ∃ t,u=Value.int j t from ru)
 obtain⟨z,its,n,r,hl,e⟩:=I.lstM hH
 have ia:=cX r
 obtain⟨k,hk,k1,k2,k3⟩:=mj hj
 have ln:its.length=is.length:=ia.length
 have at_:∀ (m:Nat) (hm:m < its.toArray.size),∃ t,its.toArray[m]=Value.int (is[m]'(by simp at hm;omega)) t:=fun m hm=>by
  have hm':m < its.length:=by simpa using hm
  obtain⟨t,et⟩:=IntsAre.int_at ia m its[m] (List.getElem?_eq_getElem hm')
  refine⟨t,?_⟩
  rw[List.getElem_toArray,et,List.getD_eq_getElem?_getD,List.getElem?_eq_getElem (by omega)];rfl
 have eqf:∀ y∈its.toArray,MeetsSeq.EqGives y (.int j t) (match y with | .int a _=>a==j | _=>false):=fun y hy=>by
  obtain⟨m,hm,rfl⟩:=Array.mem_iff_getElem.mp hy
  obtain⟨t',e'⟩:=at_ m hm
  rw[e']
  exact MeetsSeq.EqGives.int _ _ _ _
 refine call_meets F.slot_list_remove ⟨_,e,rfl⟩ F.entry_list_remove (F.args_list_remove_2 _ _) (MeetsSeq.list_remove l its.toArray n _ _ eqf k (by simp;omega) ?_ (fun m hm hlt=>?_) (by rw[List.size_toArray];omega)) ⟨e,.non,_,I.lset (its':=its.eraseIdx k) (t':=s.toks) hH e ?_ ?_ ?_,rfl,q⟩
 ·obtain⟨t',e'⟩:=at_ k (by simp;omega)
  rw[e',k1];simp
 ·obtain⟨t',e'⟩:=at_ m hm
  rw[e']
  simpa using k2 m (by simp at hm;omega) hlt
 ·simp[Array.eraseIdxIfInBounds,hk,ln]
 ·rw[k3,List.eraseIdx_eq_take_drop_succ,List.eraseIdx_eq_take_drop_succ,List.map_append,List.map_take,List.map_drop]
  exact(r.take k).append (r.drop (k+1))
 ·rw[List.length_map]
  exact Nat.le_trans (List.erase_sublist.length_le) (by rw[List.length_map]at z;exact z)
end
def sRem (i:Nat)(gs:SS→R (List D)):SS→O:=fun S=>match S[i]? with
 | some (some (.own ds))=>rO ((gs S).bind fun es=>match es with
  | [d]=>(oRem ds d).bind fun ds'=>.ok (.nx (S.set i (some (.own ds'))))
  | _=>.stuck)
 | _=>.stuck
section
variable {X:Cx}{F:Fx}{e:Expr}{gs:SS→R (List D)}{ge:SS→R D}{pos p0 apos cpos:Pos}{x:Str}
theorem rD (i:Nat)(ha:FA X F [e] gs)(hi:X.N[i]?=some x:=by rfl)(hv:Vis X.env.scope x:=by first | exact Or.inl rfl | exact Or.inr (Or.inl rfl) | exact Or.inr (Or.inr rfl))(hd:(x==("__debug__":Str))=false:=by decide)
  (hcd:(x==("__classdict__":Str))=false:=by decide)
  (hbase:attributeBase (.Name x p0) "remove" X.env (eval (.Name x p0) X.env)=eval (.Name x p0) X.env:=by rfl)
  (hfew:((backTo cpos (starEach [e] X.env)).all (fun x=>!x.1)&&(backToKw cpos (keywordEach [] X.env)).all (fun x=>x.1.isSome)
   && decide ([e].length+([]:List Keyword).length+(if ([]:List Keyword).isEmpty then 0 else 1) < 30))=true:=by rfl)
  (hline:(apos.endLine==cpos.line)=true:=by rfl) (hs:starEach [e] X.env=(false,eval e X.env)::starEach [] X.env:=by rfl) (hplain:(backTo cpos (starEach [] X.env)).any (·.1)=false:=by rfl)
  (hsw:swapsWith (.Call (.Attribute (.Name x p0) "remove" apos) [e] [] cpos) none pos.line X.env=pure false:=by rfl) :
  FS X F (.Expr (.Call (.Attribute (.Name x p0) "remove" apos) [e] [] cpos) pos) (sRem i gs) :=
 (iA (lN PySem.F.plainAttrs_list PySem.F.slot_list_remove (by kernel_rfl) (yu (X:=X)) (ci hi hv hd hcd) ha hbase hfew hline hs hplain) hsw).weak fun D σ H ⟨Z,S,ok,w⟩=>by
  unfold sRem at w
  split at w
  ·rename_i ds e0
   obtain⟨a,vs,e1,e2,e3,e4,r⟩:=ok.own i ds e0
   refine⟨.ref a,e1,.inl ⟨rfl,vs,SqL.of e2⟩,aO ok (WO.wg ok w) fun es' us H1 Z1 ok1 x1 rs w1=>?_⟩
   split at w1
   ·rename_i d
    unfold oRem at w1
    split at w1
    ·rename_i j
     split at w1
     ·rename_i is ei
      split at w1
      ·rename_i hj
       obtain⟨y,rfl,ry⟩:=aP rs
       rw[Rep]at ry
       subst ry
       have ev:=a9 (r.mono x1.z) ei
       subst ev
       have w2:=WG.now w1 ok1.sub
       exact⟨a,is,j,rfl,rfl,x1.same _ _ e2,hj,w2 σ _ Z1 (Same.refl _) (ok1.write e0 e1 (e9 _))⟩
      ·exact w1.elim
     ·exact w1.elim
    ·exact w1.elim
   ·exact w1.elim
  ·exact w.elim
def sRemC (i:Nat)(g:SS→R D):SS→O:=fun S=>match S[i]? with
 | some (some (.own ds))=>rO (((g S).bind fun v=>oRem ds v).bind fun ds'=>.ok (.nx (S.set i (some (.own ds')))))
 | _=>.stuck
theorem zk {i:Nat}{st:Stmt}(h:FS X F st (sRem i (aL [ge]))):FS X F st (sRemC i ge):=eg h fun S=>by
 unfold sRem sRemC
 split
 ·rename_i ds e
  show rO (((ge S).bind fun d=>R.ok [d]).bind _)=_
  cases ge S<;>rfl
 ·rfl
end
end FF
end
noncomputable section
set_option maxRecDepth 1000000
namespace FF
open PySem PySem.Spec PyProof.Rows L2
theorem pE:∀ {xs:List V} {us:List Value},us.length=xs.length→(∀ (j:Nat) (x:V) (u:Value),xs[j]?=some x→us[j]?=some u→RelV x u)→Vals xs us
 | [],[],_,_=>.nil
 | x::xs,u::us,hl,h=>.cons (h 0 x u rfl rfl) (pE (by simpa using hl) fun j y v e1 e2=>h (j+1) y v (by simpa using e1) (by simpa using e2))
 | [],_::_,hl,_=>by simp at hl
 | _::_,[],hl,_=>by simp at hl
theorem n6 {X:Cx}(hc:X.calm=true):CallR X (.type "list") (fun xs H Q=>∃ a o kvs,xs=[.ref a]∧H a=some (.frz o (.dK kvs))∧kvs.length≤1000∧∀ p,H p=none→Q (.ref p) (upd H p (.lst ((kvs.map (·.1)).map kV)))):=by
 intro pins s σ H xs us Q I r h
 obtain⟨a,o,kvs,rfl,ez,hl,q⟩:=h
 obtain⟨u,rfl,ru⟩:=vals1 r
 cases ru
 obtain⟨e1,hz,hs,vs,kv,o',es,ep,e2,dd⟩:=I.hok a _ ez
 rw[e1]at e2;cases e2
 have kk:=pC kv
 have ln:vs.length=kvs.length:=by have:=congrArg List.length kk;simpa using this.symm
 refine iY (knd:=mixKind X.prog X.w) (I.ok.hd hc) hs ⟨o,es,e1,dd⟩ (by omega) fun h' tk acc' c' hk hS hacc=>?_
 have hv:Vals ((kvs.map (·.1)).map kV) acc'.toList:=by
  refine pE (by have:=hacc.1;simp;omega) fun j x u e3 e4=>?_
  obtain⟨k,y,f1,f2⟩:=hacc.2 j u (by simpa using e4)
  rw[kk,List.getElem?_map,List.getElem?_map,f1]at e3
  cases e3
  exact wr f2
 exact⟨.ref s.heap.objs.size,_,I.laid (o:=.lst ((kvs.map (·.1)).map kV)) (t':=tk) hk (Nat.le_refl _) ⟨by rw[List.length_map,List.length_map,sizeLine_eq];omega,acc'.toList,c',hv,by simpa using hS⟩,rfl,q _ (I.hok.fresh (Nat.le_refl _))⟩
def dListK:List D→R D
 | [.dic ks _]=>if ks.length≤1000 then .ok (.lst (ks.map keyD)) else .stuck
 | _=>.stuck
def zs64:List Int:=(List.range 64).map fun (i:Nat)=>(i:Int)
theorem ez_t (σ:Setting)(t:Nat→Tok):evSort (sg σ true) (known (fun i=>(i:Int)) t)=some zs64:=by kernel_rfl
theorem ez_f (σ:Setting)(t:Nat→Tok):evSort (sg σ false) (known (fun i=>(i:Int)) t)=some zs64:=by kernel_rfl
theorem sortz:sortI zs64=zs64∧zs64.length=64:=by decide +kernel
section
variable {prog:Program}{w:World}{A:Around}{E:Value→Shared→Prop}{s:Shared}
theorem ux {l:Addr}{vs:List Value}{Q:Value→Shared→Prop}(hl:s.heap.IsList l vs.toArray)(hI:IntsAre vs zs64)
  (h:∀ out:Array Value,IntsAre out.toList zs64→Q (.ref (s.heap.objs.size+1)) { s with heap:=sortedAll s.heap vs out }):wpAny (model prog w) A (call (.builtin "sorted") [.ref l]) Q E s:=by
 have ln:vs.length=64:=by rw[hI.length];exact sortz.2
 have ev:evSort ⟨prog,w.params⟩ vs=some zs64:=by
  rw[← wj ⟨prog,w.params⟩,uu (f:=fun i=>(i:Int)) hI]
  cases (Setting.mk prog w.params).params.followText "special-get-raises"
  ·exact ez_f _ _
  ·exact ez_t _ _
 refine Calls.call_function_entry kind_sorted plain_sorted entry_sorted (args_sorted1 _) ?_
 have go:wpAny (model prog w) A.in1 (collect (.ref l) >>= fun xs=>newList xs >>= fun l=>holding [l] (call (.builtin "list.sort") [l]) >>= fun _=>ret l) (fun fin s'=>∃ v,fin=.done (.ret v)∧Q v s') E s:=by
  refine wpAny_bind (collect_list hl ?_ (by rw[sizeLine_eq];omega))
  refine wpAny_bind (wpAny_newList ?_ (by rw[sizeLine_eq];omega))
  have hs:((s.heap.push (seqObj "list" #[] 0)).update s.heap.objs.size (Obj.mapSeq (·++vs.toArray))).objs.size=s.heap.objs.size+1:=by rw[Heap.size_update,size_push']
  have e1:(((s.heap.push (seqObj "list" #[] 0)).update s.heap.objs.size (Obj.mapSeq (·++vs.toArray))).push (seqObj "list" vs.toArray 0)).get? (s.heap.objs.size+1)=some (seqObj "list" vs.toArray 0):=by
   rw[← hs];exact Heap.get?_push_size _ rfl
  show wpAny _ _ _ _ _ { s with heap:=((s.heap.push (seqObj "list" #[] 0)).update s.heap.objs.size (Obj.mapSeq (·++vs.toArray))).push (seqObj "list" vs.toArray 0) }
  rw[hs]
  refine wpAny_bind (wpAny_holding (wpAny_call_entry slot_list_sort ⟨_,e1,rfl⟩ entry_list_sort (kY e1 hI (by omega) (by omega) (by rw[ln];exact sortz.2) ev fun out a1=>⟨_,rfl,?_⟩) (args_list_sort _)))
  exact wpAny_pure ⟨_,rfl,h out a1⟩
 exact go
end
section
variable {X:Cx}{F:Fx}{p pos:Pos}{e:Expr}{gs:SS→R (List D)}{k:Nat}{x:Str}
theorem uy (bx:BX X F k)(hg:Gl X "list")(hm:X.mg "list"=none)(ha:FA X F [e] gs)(he:starEach [e] X.env=(false,eval e X.env)::starEach [] X.env:=by rfl)(hpl:(backTo pos (starEach [] X.env)).any (·.1)=false:=by rfl) :
  FE X F (.Call (.Name "list" p) [e] [] pos) (eCall dListK gs) :=
 (d6 (n6 bx.calm) hg hm (by decide +kernel) ha (he:=he) (hpl:=hpl)).weak fun σ H Q ⟨Z,S,ok,w⟩=>by
  refine aO ok w fun ds vs H1 Z1 ok1 x1 rs w1=>?_
  unfold dListK at w1
  split at w1
  ·rename_i ks xs
   split at w1
   ·rename_i hl
    obtain⟨v,rfl,rv⟩:=aP rs
    rw[Rep]at rv
    obtain⟨a,kvs,rfl,⟨o,ez⟩,e3,e4⟩:=rv
    subst e3
    refine⟨a,o,kvs,rfl,ok1.sub _ _ ez,by simpa using hl,fun q hq=>?_⟩
    refine w1 _ _ (Ex.alloc ok1.sub hq) _ ?_
    rw[Rep]
    refine⟨q,_,rfl,SqL.of aj,?_⟩
    generalize kvs.map (·.1)=ks
    exact pq (by simp) fun j d v e1 e2=>by
     rw[List.getElem?_map]at e1 e2
     cases hj:ks[j]? with
     | none=>rw[hj]at e1;cases e1
     | some y=>rw[hj]at e1 e2;cases e1;cases e2;exact wu y
   ·exact w1.elim
  ·exact w1.elim
theorem n8:CallR X (.builtin "sorted") (fun xs H Q=>∃ (a:Addr) (is:List Int),xs=[.ref a]∧SqL X.K H a (is.map V.int)∧(is.length < 64∨is=zs64)∧∀ p,H p=none→Q (.ref p) (upd H p (.lst ((sortI is).map V.int)))):=by
 intro pins s σ H xs us Q I r h
 obtain⟨a,is,rfl,hq,hl,q⟩:=h
 by_cases c:is.length < 64
 ·exact me pins s σ H _ us Q I r ⟨a,is,rfl,hq,c,q⟩
 cases hl.resolve_left c
 obtain⟨u,rfl,ru⟩:=vals1 r
 cases ru
 obtain⟨its,rv,pl,hz⟩:=I.list hq
 refine ux pl.isList (cX rv) fun out a1=>?_
 obtain⟨n,hn⟩:=sortedAll_at s.heap its out
 rw[sortz.1]at q
 exact⟨.ref (s.heap.objs.size+1),_,I.laid (o:=.lst (zs64.map V.int)) (t':=s.toks) (fun b u q=>sortedAll_old q) (Nat.le_succ _) ⟨by rw[List.length_map,sortz.2,sizeLine_eq];decide,out.toList,n,L2.aT a1,by simpa [seqObj] using hn⟩,rfl,q _ (I.hok.fresh (Nat.le_succ _))⟩
def oSortZ:List D→R (List D)
 | [.lst xs]=>match intsOf xs with
  | some is=>if is.length < 64∨is=zs64 then .ok ((sortI is).map .int) else .stuck
  | none=>.stuck
 | _=>.stuck
def sSortZ (i:Nat)(gs:SS→R (List D)):SS→O:=fun S=>rO ((gs S).bind fun es=>(oSortZ es).bind fun ds=>.ok (.nx (S.set i (some (.own ds)))))
theorem uz (i:Nat){p1 pos':Pos}(bx:BX X F k)(hN:X.N.Nodup)(hg:Gl X "sorted")(hm:X.mg "sorted"=none)(ha:FA X F [e] gs)(he:starEach [e] X.env=(false,eval e X.env)::starEach [] X.env:=by rfl)(hpl:(backTo p (starEach [] X.env)).any (·.1)=false:=by rfl)
  (hi:X.N[i]?=some x:=by rfl) (hx:Loc X.env.scope x:=by first | exact Or.inl rfl | exact Or.inr rfl) (hs:swapsWith (.Call (.Name "sorted" p1) [e] [] p) (some (.Name x pos')) pos.line X.env=pure false:=by rfl) (hf:X.fn x=true∨X.env.scope.names.lookup x=some .local:=by first | exact .inl rfl | exact .inr rfl) :
  FS X F (.Assign [.Name x pos'] (.Call (.Name "sorted" p1) [e] [] p) pos) (sSortZ i gs) :=
 (gn hN hi hx (cI n8 hg hm boot_sorted ha (he:=he) (hpl:=hpl)) hs hf).weak fun D σ H ⟨Z,S,ok,w⟩=>aO ok (WO.wg ok w) fun ds us H1 Z1 ok1 x1 rs w1=>by
  unfold oSortZ at w1
  split at w1
  ·rename_i xs
   split at w1
   ·rename_i is ei
    split at w1
    ·rename_i hl
     obtain⟨v,rfl,h⟩:=aP rs
     rw[Rep]at h
     obtain⟨a,vs,rfl,h1,h2⟩:=h
     have e2:=a9 h2 ei
     subst e2
     refine⟨a,is,rfl,by rw[bx.K];exact ok1.sub.seq h1,hl,fun p hp=>?_⟩
     have w2:=WG.now w1 ok1.sub
     exact w2 _ _ Z1 (Same.refl _) (ok1.newOwn hp (e9 _))
    ·exact w1.elim
   ·exact w1.elim
  ·exact w1.elim
def sSortZC (i:Nat)(g:SS→R D):SS→O:=fun S=>rO (((g S).bind fun d=>oSortZ [d]).bind fun ds=>.ok (.nx (S.set i (some (.own ds)))))
theorem zm {i:Nat}{st:Stmt}{g:SS→R D}(h:FS X F st (sSortZ i (aL [g]))):FS X F st (sSortZC i g):=eg h fun S=>by
 unfold sSortZ sSortZC
 show rO (((g S).bind fun d=>R.ok [d]).bind _)=_
 cases g S<;>rfl
end
open PySem.SeqAt (EqAt)
def LtAt (A:Around)(s:Shared)(x y:Value)(c:Bool):Prop:=∀ (prog:Program) (w:World) (E:Value→Shared→Prop) (Q:Value→Shared→Prop),Q (.bool c) s→wpAny (model prog w) A (richCompare .Lt x y) Q E s
inductive LexAt (A:Around)(s:Shared):List Value→List Value→Bool→Prop
 | nn:LexAt A s [] [] false
 | nc {y:Value} {ys:List Value}:LexAt A s [] (y::ys) true
 | cn {x:Value} {xs:List Value}:LexAt A s (x::xs) [] false
 | eq {x y:Value} {xs ys:List Value} {c:Bool}:EqAt A s x y true→LexAt A s xs ys c→LexAt A s (x::xs) (y::ys) c
 | ne {x y:Value} {xs ys:List Value} {c:Bool}:EqAt A s x y false→LtAt A s x y c→LexAt A s (x::xs) (y::ys) c
section
open PySem.AutoSeq1 (wpAny_loadPart')
theorem mm (l b:Addr)(us vs:Array Value)(n m:Nat)(dl db:Option Addr)(sl sb:Array (Option Value)) :
  Meets (Builtin.«tuple.__lt__» ⟨[.ref l,.ref b],[]⟩)
   (fun A R s=>s.heap.get? l=some ⟨.type "tuple",dl,.seq us n,sl⟩∧s.heap.get? b=some ⟨.type "tuple",db,.seq vs m,sb⟩∧∃ c,LexAt A.in1 s us.toList vs.toList c∧R (.ok (.ret (.bool c))) s) :=
 .of_wp fun prog w A R s h=>by
  obtain⟨hp,g,d,tk,os⟩:=s
  obtain⟨hl,hb,c,lx,h⟩:=h
  have st:=AutoSeq1.sub_tuple_tuple
  wp_walk using wpAny_loadPart' hl,wpAny_loadPart' hb,wpAny_forIn_list _ (fun rest q s'=>q.1=none∧s'=⟨hp,g,d,tk,os⟩∧∃ xs ys:List Value,rest=xs.zip ys∧LexAt A.in1 ⟨hp,g,d,tk,os⟩ xs ys c∧xs.length+vs.size=ys.length+us.size) _
  case turn =>
   rintro ⟨x,y⟩ rest q s' ⟨hq,rfl,xs,ys,hz,lx,hn⟩
   cases lx with
   | nn=>cases hz
   | nc=>cases hz
   | cn=>rw[List.zip_nil_right]at hz;cases hz
   | eq e t =>
    rw[List.zip_cons_cons]at hz
    cases hz
    refine wpAny_bind (e prog w _ _ ?_)
    simp only[List.length_cons]at hn
    wp_walk
    exact⟨rfl,rfl,_,_,rfl,t,by omega⟩
   | ne e t =>
    rw[List.zip_cons_cons]at hz
    cases hz
    refine wpAny_bind (e prog w _ _ ?_)
    have tt:=t prog w
    wp_walk using tt
    exact⟨_,rfl,by simpa using h⟩
  case fin =>
   rintro ⟨q1,q2⟩ s' ⟨hq,rfl,xs,ys,hz,lx,hn⟩
   simp only at hq
   subst hq
   have hv:c=decide (us.size < vs.size):=by
    cases lx with
    | nn=>simp only[List.length_nil]at hn;exact(decide_eq_false (by omega)).symm
    | nc=>simp only[List.length_nil,List.length_cons]at hn;exact(decide_eq_true (by omega)).symm
    | cn=>simp only[List.length_nil,List.length_cons]at hn;exact(decide_eq_false (by omega)).symm
    | eq _ _=>cases hz
    | ne _ _=>cases hz
   rw[hv]at h
   wp_walk
   exact⟨_,rfl,by simpa [Builtin.Tuple.tupleCompareSizes] using h⟩
  case h=>exact⟨rfl,rfl,us.toList,vs.toList,rfl,lx,by simp;omega⟩
end
theorem LtAt.tup {A:Around}{s:Shared}{l b:Addr}{us vs:Array Value}{c:Bool}(hl:IsTup s.heap l us)(hb:IsTup s.heap b vs)(hu:A.units < cLine)(h:LexAt A.in1 s us.toList vs.toList c):LtAt A s (.ref l) (.ref b) c:=fun prog w E Q q=>by
 obtain⟨⟨cl,dl,al,sl⟩,ho,hc,n,hd⟩:=id hl
 obtain⟨⟨cb,db,ab,sb⟩,ho2,hc2,m,hd2⟩:=id hb
 simp only at hc hd hc2 hd2
 subst hc hd hc2 hd2
 exact richCompare_meets_room (op:=.Lt) ⟨_,ho,rfl⟩ ⟨_,ho2,rfl⟩ PySem.F.slot_tuple_lt PySem.F.entry_tuple_lt (PySem.F.args_tuple_lt_2 _ _) (mm l b us vs n m dl db sl sb) ⟨ho,ho2,c,h,show Value.bool c≠Value.notImplemented∧Q (.bool c) s from ⟨(fun x=>nomatch x),q⟩⟩ hu
def lexF (f:D→D→Option Bool):List D→List D→Option Bool
 | [],[]=>some false
 | [],_::_=>some true
 | _::_,[]=>some false
 | x::xs,y::ys=>if eqD x y=true then lexF f xs ys else f x y
def ltN:Nat→D→D→Option Bool
 | 0,_,_=>none
 | n+1,d,e=>match d,e with
  | .int a,.int b=>some (decide (a < b))
  | .tup xs,.tup ys=>lexF (ltN n) xs ys
  | _,_=>none
section
variable {X:Cx}{K:PySem.W.Frag}{C:Nat→Addr}{pins:List (Addr×Obj)}{σ:St}{H Z:Hp}{s:Shared}
theorem pF {f:D→D→Option Bool}{A:Around}{m:Nat}(he:∀ (d e:D) (v u:V) (x y:Value),good m d=true→good m e=true→Rep K C Z d v→Rep K C Z e u→RelV v x→RelV u y→EqAt A s x y (eqD d e))
  (hl:∀ (d e:D) (v u:V) (x y:Value) (c:Bool),f d e=some c→good m d=true→good m e=true→Rep K C Z d v→Rep K C Z e u→RelV v x→RelV u y→LtAt A s x y c) :
  ∀ {ds es:List D} {vs us:List V} {xs ys:List Value} {c:Bool},lexF f ds es=some c→goods m ds=true→goods m es=true→Reps K C Z ds vs→Reps K C Z es us→Vals vs xs→Vals us ys→LexAt A s xs ys c
 | [],[],vs,us,xs,ys,c,e,_,_,r,r',k,k'=>by
  cases e
  rw[Reps]at r r';subst r;subst r'
  cases k;cases k'
  exact .nn
 | [],b::es,vs,us,xs,ys,c,e,_,_,r,r',k,k'=>by
  cases e
  rw[Reps]at r;subst r
  rw[Reps]at r'
  obtain⟨u,_,rfl,_,_⟩:=r'
  cases k;cases k'
  exact .nc
 | a::ds,[],vs,us,xs,ys,c,e,_,_,r,r',k,k'=>by
  cases e
  rw[Reps]at r';subst r'
  rw[Reps]at r
  obtain⟨u,_,rfl,_,_⟩:=r
  cases k;cases k'
  exact .cn
 | a::ds,b::es,vs,us,xs,ys,c,e,g,g',r,r',k,k'=>by
  rw[Reps]at r r'
  obtain⟨v,vs,rfl,r1,r2⟩:=r
  obtain⟨u,us,rfl,r1',r2'⟩:=r'
  cases k with | cons k1 k2=>cases k' with | cons k1' k2' =>
  have g1:good m a=true∧goods m ds=true:=by simpa [goods] using g
  have g2:good m b=true∧goods m es=true:=by simpa [goods] using g'
  have q:=he a b v u _ _ g1.1 g2.1 r1 r1' k1 k1'
  unfold lexF at e
  split at e
  ·rename_i h
   rw[h]at q
   exact .eq q (pF he hl e g1.2 g2.2 r2 r2' k2 k2')
  ·rename_i h
   rw[Bool.not_eq_true]at h
   rw[h]at q
   exact .ne q (hl a b v u _ _ c e g1.1 g2.1 r1 r1' k1 k1')
theorem ltB (hK:X.K=K)(I:Inv X pins σ H s)(z:Same Z H):∀ (n:Nat) (A:Around) (d e:D) (v u:V) (x y:Value) (c:Bool),ltN n d e=some c→good n d=true→good n e=true→Rep K C Z d v→Rep K C Z e u→RelV v x→RelV u y→A.units+n < cLine→LtAt A s x y c
 | 0,_,_,_,_,_,_,_,_,h,_,_,_,_,_,_,_=>nomatch h
 | n+1,A,d,e,v,u,x,y,c,h,g,g',r,r',k,k',hu=>by
  unfold ltN at h
  split at h
  ·cases h
   rw[Rep]at r r'
   subst r;subst r'
   obtain⟨t,rfl⟩:=(show ∃ t,x=Value.int _ t from k)
   obtain⟨t',rfl⟩:=(show ∃ t,y=Value.int _ t from k')
   exact fun prog w E Q q=>PyProof.Rows.lt_int q
  ·rename_i xs ys
   rw[Rep]at r r'
   obtain⟨a,vs,rfl,h1,h2⟩:=r
   obtain⟨b,us,rfl,k1,k2⟩:=r'
   cases k
   cases k'
   obtain⟨its,rv,p,_⟩:=I.tuple (by rw[hK];exact h1.mono z)
   obtain⟨its2,rv2,p2,_⟩:=I.tuple (by rw[hK];exact k1.mono z)
   have gg:goods n xs=true:=by simpa [good] using g
   have gg':goods n ys=true:=by simpa [good] using g'
   have un:A.in1.units+n < cLine:=by show A.units+1+n < cLine;omega
   exact .tup p p2 (by omega) (pF (fun d e v u x y g1 g2 h h' rx ry=>(eqB hK I z n A.in1 d e v u x y g1 g2 h h' rx ry un).1) (fun d e v u x y c hc g1 g2 h h' rx ry=>ltB hK I z n A.in1 d e v u x y c hc g1 g2 h h' rx ry un) h gg gg' h2 k2 rv rv2)
  ·cases h
end
section
variable {prog:Program}{w:World}{A:Around}{E:Value→Shared→Prop}{R:Result→Shared→Prop}{h₀:Heap}{l I S:Addr}{its:List Value}{bt:Nat→Nat→Bool}{s0:Shared}
theorem rE (hh:A.handled=none)(hl:h₀.IsList l its.toArray)(hlI:l≠I)(hSI:S≠I)(hI:h₀.get? I=none)(hS:h₀.get? S=none)
  (hc:∀ (j:Nat) (u v:Value) (h:Heap) (tk:Nat),its[j+1]?=some u→its[argBest bt j]?=some v→(∀ b o,h₀.get? b=some o→h.get? b=some o)→LtAt A.in1 { s0 with heap:=h,toks:=tk } u v (bt (j+1) (argBest bt j)))
  (hR:∀ v h' tk',its[argBest bt (its.length - 1)]?=some v→(∀ b o,h₀.get? b=some o→h'.get? b=some o)→R (.ok (.ret v)) { s0 with heap:=h',toks:=tk' }) :
  ∀ (r j:Nat) (h:Heap) (tk:Nat) (vb:Value) (c:Nat),its.length - (j+1)=r→j+1≤its.length→(∀ b o,h₀.get? b=some o→h.get? b=some o)→h.get? S=some (seqObj "list" #[vb,vb] c)→h.IsListIter I l (j+1) →
   its[argBest bt j]?=some vb→codeAny (model prog w) A (.builtin "min.loop" ⟨[.ref I,.none,.ref S],[]⟩) R { s0 with heap:=h,toks:=tk }:=by
 have nm:(toString "min" ++ toString ".loop":String)="min.loop" := by decide
 have W:=Walks.list (prog:=prog) (w:=w) (A:=A.in1) hh I l hlI its.toArray
 have hz:its.toArray.size=its.length:=List.size_toArray ..
 have nI:∀ b o,h₀.get? b=some o→b∉[I]:=fun b o e q=>by rw[List.mem_singleton.mp q,hI]at e;cases e
 have nS:∀ b o,h₀.get? b=some o→b≠S:=fun b o e q=>by rw[q,hS]at e;cases e
 intro r
 induction r with
 | zero =>
  intro j h tk vb c hr hj k hb hit hv
  have hjn:j=its.length - 1:=by omega
  refine codeAny_builtin PySem.F.entry_min_loop ?_
  rw[Around.under_plainId PySem.F.plain_min_loop _]
  show wpAny _ A.in1 (seqItems? (.ref S) >>= _) _ _ _
  refine wpAny_bind (wpAny_seqItems hb rfl ?_)
  show wpAny _ A.in1 (tryCatch (pyNext (.ref I)) _ >>= _) _ _ _
  refine wpAny_bind (wpAny_tryCatch (W.done _ _ _ ⟨by rw[hz,show its.length=j+1 by omega];exact hit,k _ _ hl.choose_spec.1 |> fun e=>⟨_,e,hl.choose_spec.2⟩⟩ fun h' tk' hk'=>?_))
  have hb':=hk' S _ (by simpa using hSI) hb
  show wpAny _ A.in1 (updateSeq S (fun _=>#[]) >>= _) _ _ _
  refine wpAny_bind ?_
  refine wpAny_updateSeq hb' rfl (wpAny_bind (wpAny_letGo (wpAny_pure ?_)))
  refine hR vb _ _ (by rw[← hjn];exact hv) fun b o e=>?_
  rw[(Heap.SameBut.update h' S _).2 b (nS b o e)]
  exact hk' b o (nI b o e) (k b o e)
 | succ r ih =>
  intro j h tk vb c hr hj k hb hit hv
  have hlt:j+1 < its.length:=by omega
  refine codeAny_builtin PySem.F.entry_min_loop ?_
  rw[Around.under_plainId PySem.F.plain_min_loop _]
  show wpAny _ A.in1 (seqItems? (.ref S) >>= _) _ _ _
  refine wpAny_bind (wpAny_seqItems hb rfl ?_)
  show wpAny _ A.in1 (tryCatch (pyNext (.ref I)) _ >>= _) _ _ _
  refine wpAny_bind (wpAny_tryCatch (W.item (j+1) _ _ _ (by rw[hz];exact hlt) ⟨hit,⟨_,k _ _ hl.choose_spec.1,hl.choose_spec.2⟩⟩ fun v h' tk' hP hst' hk'=>?_))
  have hv':its[j+1]?=some v:=by simpa using hP
  have hb':=hk' S _ (by simpa using hSI) hb
  have k':∀ b o,h₀.get? b=some o→h'.get? b=some o:=fun b o e=>hk' b o (nI b o e) (k b o e)
  refine wpAny_bind (wpAny_pure ?_)
  show wpAny _ A.in1 (tryCatch (holding [v,v] (richCompare .Lt v vb >>= _)) _ >>= _) _ _ _
  refine wpAny_bind (wpAny_tryCatch (wpAny_holding (wpAny_bind (hc _ _ _ _ _ hv' hv k' prog w _ _ ?_))))
  refine wpAny_bind (wpAny_holding (wpAny_truthy_bool ?_))
  refine wpAny_bind (wpAny_letGo (wpAny_pure ?_))
  have ab:argBest bt (j+1)=if bt (j+1) (argBest bt j)=true then j+1 else argBest bt j:=rfl
  by_cases hd:bt (j+1) (argBest bt j)=true
  ·simp only[hd,if_true]
   refine wpAny_bind ?_
   refine wpAny_updateSeq hb' rfl (wpAny_bind (wpAny_letGo ?_))
   rw[nm]
   have sb:=Heap.SameBut.update h' S (Obj.mapSeq fun _=>#[v,v])
   obtain⟨oI,e1,e2,e3⟩:=id hst'.1
   refine wpAny_pure ⟨plainId_quiet PySem.F.plain_min_loop _,ih (j+1) _ _ v _ (by omega) hlt (fun b o e=>?_) (get?_update_seq hb' fun _=>#[v,v]) ⟨oI,(sb.2 I (Ne.symm hSI)).trans e1,e2,e3⟩ ?_⟩
   ·rw[sb.2 b (nS b o e)];exact k' b o e
   ·rw[ab,if_pos hd];exact hv'
  ·have hd':bt (j+1) (argBest bt j)=false:=Bool.not_eq_true _ ▸ hd
   simp only[hd',Bool.false_eq_true,if_false]
   refine wpAny_bind (wpAny_letGo ?_)
   rw[nm]
   refine wpAny_pure ⟨plainId_quiet PySem.F.plain_min_loop _,ih (j+1) _ _ vb _ (by omega) hlt k' hb' hst'.1 ?_⟩
   rw[ab,if_neg hd];exact hv
theorem zo {s:Shared}{Q:Value→Shared→Prop}(hh:A.handled=none)(hl:s.heap.IsList l its.toArray)(hne:0 < its.length)
  (hc:∀ (j:Nat) (u v:Value) (h:Heap) (tk:Nat),its[j+1]?=some u→its[argBest bt j]?=some v→(∀ b o,s.heap.get? b=some o→h.get? b=some o)→LtAt A.in1 { s with heap:=h,toks:=tk } u v (bt (j+1) (argBest bt j)))
  (hQ:∀ v h' tk',its[argBest bt (its.length - 1)]?=some v→(∀ b o,s.heap.get? b=some o→h'.get? b=some o)→Q v { s with heap:=h',toks:=tk' }) :
  wpAny (model prog w) A (call (.builtin "min") [.ref l]) Q E s:=by
 have nm:(toString "min" ++ toString ".loop":String)="min.loop" := by decide
 obtain⟨ol,hol,_⟩:=id hl
 have hll:l < s.heap.objs.size:=Heap.lt_size hol
 refine call_function_tree PySem.F.kind_min PySem.F.plain_min PySem.F.entry_min (PySem.F.args_min1 _) ?_
 show wpAny _ A.in1 (Builtin.Builtins.bindParams "min" ["key","default"] 0 ⟨[],[]⟩ >>= _) _ _ s
 refine wpAny_bind (wpAny_of_eq (show Builtin.Builtins.bindParams "min" ["key","default"] 0 ⟨[],[]⟩=pure [none,none] from rfl) ?_)
 refine wpAny_bind (wpAny_pure ?_)
 refine wpAny_bind (wpAny_pyIter_list hl ?_)
 refine wpAny_bind (wpAny_newList ?_ (Nat.zero_le _))
 rw[nm]
 refine wpAny_pure ⟨plainId_quiet PySem.F.plain_min_loop _,?_⟩
 have hS:(s.heap.push { cls:=.type "list_iterator",data:=.fields #[.ref l,.int 0 0] }).objs.size=s.heap.objs.size+1:=size_push' ..
 have hlI:l≠s.heap.objs.size:=Nat.ne_of_lt hll
 have hSI:(s.heap.push { cls:=.type "list_iterator",data:=.fields #[.ref l,.int 0 0] }).objs.size≠s.heap.objs.size:=by rw[hS];exact Nat.succ_ne_self _
 have gI:((s.heap.push { cls:=.type "list_iterator",data:=.fields #[.ref l,.int 0 0] }).push (seqObj "list" #[] 0)).get? s.heap.objs.size=some { cls:=.type "list_iterator",data:=.fields #[.ref l,.int 0 0] }:=Heap.get?_push_of_some _ (Heap.get?_push_size _ rfl)
 have gS:((s.heap.push { cls:=.type "list_iterator",data:=.fields #[.ref l,.int 0 0] }).push (seqObj "list" #[] 0)).get? (s.heap.push { cls:=.type "list_iterator",data:=.fields #[.ref l,.int 0 0] }).objs.size=some (seqObj "list" #[] 0):=Heap.get?_push_size _ rfl
 have k0:∀ b o,s.heap.get? b=some o→((s.heap.push { cls:=.type "list_iterator",data:=.fields #[.ref l,.int 0 0] }).push (seqObj "list" #[] 0)).get? b=some o:=fun b o e=>Heap.get?_push_of_some _ (Heap.get?_push_of_some _ e)
 generalize (s.heap.push { cls:=.type "list_iterator",data:=.fields #[.ref l,.int 0 0] }).objs.size=S at *
 generalize (s.heap.push { cls:=.type "list_iterator",data:=.fields #[.ref l,.int 0 0] }).push (seqObj "list" #[] 0)=h1 at *
 have zI:s.heap.get? s.heap.objs.size=none:=Heap.get?_none_of_le (Nat.le_refl _)
 have zS:s.heap.get? S=none:=Heap.get?_none_of_le (by rw[hS];exact Nat.le_succ _)
 have W:=Walks.list (prog:=prog) (w:=w) (A:=A.in1) hh s.heap.objs.size l hlI its.toArray
 have hz:its.toArray.size=its.length:=List.size_toArray ..
 have nI:∀ b o,s.heap.get? b=some o→b∉[s.heap.objs.size]:=fun b o e q=>by rw[List.mem_singleton.mp q,zI]at e;cases e
 have nS:∀ b o,s.heap.get? b=some o→b≠S:=fun b o e q=>by rw[q,zS]at e;cases e
 refine codeAny_builtin PySem.F.entry_min_loop ?_
 rw[Around.under_plainId PySem.F.plain_min_loop _]
 show wpAny _ A.in1 (seqItems? (.ref S) >>= _) _ _ _
 refine wpAny_bind (wpAny_seqItems gS rfl ?_)
 show wpAny _ A.in1 (tryCatch (pyNext (.ref s.heap.objs.size)) _ >>= _) _ _ _
 refine wpAny_bind (wpAny_tryCatch (W.item 0 _ _ _ (by rw[hz];exact hne) ⟨⟨_,gI,rfl,rfl⟩,⟨_,k0 _ _ hl.choose_spec.1,hl.choose_spec.2⟩⟩ fun v h' tk' hP hst' hk'=>?_))
 have hv':its[0]?=some v:=by simpa using hP
 have gS':=hk' S _ (by simpa using hSI) gS
 refine wpAny_bind (wpAny_pure ?_)
 refine wpAny_bind ?_
 refine wpAny_updateSeq gS' rfl ?_
 rw[nm]
 have sb:=Heap.SameBut.update h' S (Obj.mapSeq fun _=>#[v,v])
 obtain⟨oI,e1,e2,e3⟩:=id hst'.1
 refine wpAny_pure ⟨plainId_quiet PySem.F.plain_min_loop _,rE (h₀:=s.heap) (s0:=s) hh hl hlI hSI zI zS hc (fun v' h2 tk2 a b=>hQ v' h2 tk2 a b) _ 0 _ _ v _ rfl hne (fun b o e=>?_) (get?_update_seq gS' fun _=>#[v,v]) ⟨oI,(sb.2 _ (Ne.symm hSI)).trans e1,e2,e3⟩ hv'⟩
 rw[sb.2 b (nS b o e)]
 exact hk' b o (nI b o e) (k0 b o e)
end
def minK (f:List D→R D)(b kb:D):List D→R D
 | []=>.ok b
 | x::r=>match f [x] with
  | .ok q=>if good 60 q=true then (match ltN 60 q kb with | some true=>minK f x q r | some false=>minK f b kb r | none=>.stuck) else .stuck
  | _=>.stuck
def dMinK (f:List D→R D)(d:D):R D:=match d with
 | .lst (x::r)=>match f [x] with
  | .ok k=>if good 60 k=true then minK f x k r else .stuck
  | _=>.stuck
 | _=>.stuck
section
variable {X:Cx}{pins:List (Addr×Obj)}{σ:St}
structure Mk (X:Cx)(F:Fx)(pins:List (Addr×Obj))(σ:St)(ds:List D)(l I S:Addr)(b kb:D)(j:Nat)(H Z:Hp)(s:Shared)(oI:Obj)(vb kv:Value)(c:Nat):Prop where
 inv:Inv X (pins++[(I,oI),(S,seqObj "list" #[vb,kv] c)]) σ H s
 it:s.heap.IsListIter I l j
 two:Two X pins H I S
 sub:Same Z H
 lst:∃ vs,SqL F.K Z l vs∧Reps F.K F.C Z ds vs
 bst:∃ v,RelV v vb∧Rep F.K F.C Z b v
 key:good 60 kb=true∧∃ v,RelV v kv∧Rep F.K F.C Z kb v
variable {F:Fx}{k:Nat}{f:Addr}{fd:FuncData}{ps:List Str}{t:List D→R D}{ds:List D}{l I S:Addr}{H0 Z0:Hp}{R:Result→Shared→Prop}{d:D}
theorem mo (FO:FnOk X.prog X.w X.K X.mg X.base (CXE X.prog X.w) k f fd ps (spF F.K F.C ps.length t))(hb:Binds X.K fd ps [])(hps:ps.length=1)(hr:Room k X.A){pl:List (Addr×Obj)}{H Z:Hp}{s:Shared}{u:Value}{v:V}{x q:D}{Q:Value→Shared→Prop}{E:Value→Shared→Prop}
  (J:Inv X pl σ H s) (hs:Same Z H) (ru:RelV v u) (rv:Rep F.K F.C Z x v) (ht:t [x]=.ok q) (h:∀ (u2:Value) (v2:V) H' Z' s',Inv X pl σ H' s'→Ex H Z H' Z'→RelV v2 u2→Rep F.K F.C Z' q v2→Q u2 s') :
  wpAny (model X.prog X.w) X.A.in1 (call (.ref f) [u]) Q E s:=by
 have sp:spF F.K F.C ps.length t [v] H (fun v' H'=>∃ Z',Ex H Z H' Z'∧Rep F.K F.C Z' q v') (fun _ _ _=>False):=by
  refine⟨by rw[hps];rfl,Z,[x],hs,Reps.cons rv Reps.nil,?_⟩
  rw[ht]
  intro H' Z' ex v' r'
  exact⟨Z',ex,r'⟩
 refine wpAny_call (codeAny_mono (FO.run X.A.in1 X.stack s H ⟨[u],[]⟩ [u] [v] _ (fun _ _ _=>False) hr.w1 J.env0.in1 (hb s [u] J.kIn (by rw[hps];rfl)) (.cons ru .nil) sp) fun r s' hq=>?_)
 cases r with
 | error e =>
  obtain⟨_,_,_,_,_,_,_,_,_,_,_,_,_,hE⟩:=hq
  exact hE.elim
 | ok fl =>
  cases fl with
  | ret w =>
   obtain⟨v',H',I',r',Z',ex,rq⟩:=J.after hq
   exact h _ v' H' Z' s' I' ex r' rq
  | next=>exact False.elim hq
  | brk=>exact False.elim hq
  | cont=>exact False.elim hq
theorem rF (FO:FnOk X.prog X.w X.K X.mg X.base (CXE X.prog X.w) k f fd ps (spF F.K F.C ps.length t))(hb:Binds X.K fd ps [])(hps:ps.length=1)(hK:X.K=F.K)(hc:X.calm=true)(hr:Room k X.A)
  (hR:∀ u v H' Z' s',Inv X pins σ H' s'→Ex H0 Z0 H' Z'→RelV v u→Rep F.K F.C Z' d v→R (.ok (.ret u)) s') :
  ∀ (r j:Nat) (b kb:D) (H Z:Hp) (s:Shared) (oI:Obj) (vb kv:Value) (c:Nat),ds.length - j=r→j≤ds.length→Ex H0 Z0 H Z→Mk X F pins σ ds l I S b kb j H Z s oI vb kv c→minK t b kb (ds.drop j)=.ok d →
   codeAny (model X.prog X.w) X.A (.builtin "min.loop" ⟨[.ref I,.ref f,.ref S],[]⟩) R s:=by
 have nm:(toString "min" ++ toString ".loop":String)="min.loop" := by decide
 intro r
 induction r with
 | zero =>
  intro j b kb H Z s oI vb kv c hl hj ex M hm
  obtain⟨vs,hq,rs⟩:=M.lst
  have hlen:=rs.length
  obtain⟨its,rv,pl,hz⟩:=M.inv.list (by rw[hK];exact M.sub.seq hq)
  have hil:=rv.length
  have eI:=(M.inv.pin (I,oI) (List.mem_append_right _ (List.mem_append_right _ (.head _)))).1
  have eS:=(M.inv.pin (S,seqObj "list" #[vb,kv] c) (List.mem_append_right _ (List.mem_append_right _ (.tail _ (.head _))))).1
  have hlI:l≠I:=fun z=>by
   obtain⟨o,e1,c1,_⟩:=M.it
   obtain⟨o2,e2,c2,_⟩:=pl.isList
   rw[z,e1]at e2;cases e2
   rw[c1]at c2;injection c2 with z2;exact absurd z2 (by decide)
  have W:=Walks.list (prog:=X.prog) (w:=X.w) (A:=X.A.in1) (M.inv.ok.hd hc) I l hlI its.toArray
  have hz':its.toArray.size=its.length:=List.size_toArray ..
  refine codeAny_builtin PySem.F.entry_min_loop ?_
  rw[Around.under_plainId PySem.F.plain_min_loop _]
  show wpAny _ X.A.in1 (seqItems? (.ref S) >>= _) _ _ _
  refine wpAny_bind (wpAny_seqItems eS rfl ?_)
  show wpAny _ X.A.in1 (tryCatch (pyNext (.ref I)) _ >>= _) _ _ _
  refine wpAny_bind (wpAny_tryCatch (W.done _ _ _ ⟨by rw[hz',show its.length=j by omega];exact M.it,pl.isList⟩ fun h' tk' hk'=>?_))
  have fI:FpOk X (pins++[(S,seqObj "list" #[vb,kv] c)]) H I:=b0 M.two.i M.two.i.1 fun p hp=>(List.mem_append.mp hp).elim .inl fun z=>.inr (by rw[List.mem_singleton.mp z];exact M.two.ne.symm)
  have J1:Inv X (pins++[(S,seqObj "list" #[vb,kv] c)]) σ H { s with heap:=h',toks:=tk' }:=eB (M.inv.pins_of fun p hp=>M.inv.pin p (List.mem_append_right _ ((List.mem_append.mp hp).elim (List.mem_append_left _) fun z=>List.mem_append_right _ (.tail _ z)))) fI fun b o nb e=>hk' b o (by simpa using nb) e
  have eS':=hk' S _ (by simpa using M.two.ne.symm) eS
  show wpAny _ X.A.in1 (updateSeq S (fun _=>#[]) >>= _) _ _ _
  refine wpAny_bind ?_
  refine wpAny_updateSeq eS' rfl (wpAny_bind (wpAny_letGo (wpAny_pure ?_)))
  have sb:=Heap.SameBut.update h' S (Obj.mapSeq fun _=>(#[]:Array Value))
  have J2:Inv X pins σ H _:=eB (t':=tk') (h':=h'.update S (Obj.mapSeq fun _=>(#[]:Array Value))) (J1.pins_of fun p hp=>J1.pin p (List.mem_append_right _ (List.mem_append_left _ hp))) (b0 M.two.s M.two.s.1 fun p hp=>.inl hp) fun b o nb e=>(sb.2 b nb).trans e
  rw[List.drop_eq_nil_of_le (by omega)]at hm
  cases hm
  obtain⟨v,r1,r2⟩:=M.bst
  exact hR vb v H Z _ J2 ex r1 r2
 | succ r ih =>
  intro j b kb H Z s oI vb kv c hl hj ex M hm
  have hlt:j < ds.length:=by omega
  rw[List.drop_eq_getElem_cons hlt,minK]at hm
  obtain⟨vs,hq,rs⟩:=M.lst
  have hlen:=rs.length
  obtain⟨its,rv,pl,hz⟩:=M.inv.list (by rw[hK];exact M.sub.seq hq)
  have hil:=rv.length
  have eI:=(M.inv.pin (I,oI) (List.mem_append_right _ (List.mem_append_right _ (.head _)))).1
  have eS:=(M.inv.pin (S,seqObj "list" #[vb,kv] c) (List.mem_append_right _ (List.mem_append_right _ (.tail _ (.head _))))).1
  have hlI:l≠I:=fun z=>by
   obtain⟨o,e1,c1,_⟩:=M.it
   obtain⟨o2,e2,c2,_⟩:=pl.isList
   rw[z,e1]at e2;cases e2
   rw[c1]at c2;injection c2 with z2;exact absurd z2 (by decide)
  have W:=Walks.list (prog:=X.prog) (w:=X.w) (A:=X.A.in1) (M.inv.ok.hd hc) I l hlI its.toArray
  have hz':its.toArray.size=its.length:=List.size_toArray ..
  refine codeAny_builtin PySem.F.entry_min_loop ?_
  rw[Around.under_plainId PySem.F.plain_min_loop _]
  show wpAny _ X.A.in1 (seqItems? (.ref S) >>= _) _ _ _
  refine wpAny_bind (wpAny_seqItems eS rfl ?_)
  show wpAny _ X.A.in1 (tryCatch (pyNext (.ref I)) _ >>= _) _ _ _
  refine wpAny_bind (wpAny_tryCatch (W.item j _ _ _ (by rw[hz'];omega) ⟨M.it,pl.isList⟩ fun u h' tk' hP hst' hk'=>?_))
  have hu:its[j]?=some u:=by simpa using hP
  obtain⟨xv,ex1,rx⟩:∃ v,vs[j]?=some v∧RelV v u:=by
   cases e':vs[j]? with
   | none=>rw[Vals.none_of rv e']at hu;cases hu
   | some v =>
    obtain⟨u',e1,r1⟩:=rv.get e'
    rw[hu]at e1;cases e1
    exact⟨v,rfl,r1⟩
  obtain⟨xd,ed,rd⟩:=rs.get' ex1
  rw[List.getElem?_eq_getElem hlt]at ed
  cases ed
  obtain⟨oI',hoI',hoc,hod⟩:=id hst'.1
  have fI:FpOk X (pins++[(S,seqObj "list" #[vb,kv] c)]) H I:=b0 M.two.i M.two.i.1 fun p hp=>(List.mem_append.mp hp).elim .inl fun z=>.inr (by rw[List.mem_singleton.mp z];exact M.two.ne.symm)
  have J1:Inv X (pins++[(S,seqObj "list" #[vb,kv] c)]) σ H { s with heap:=h',toks:=tk' }:=eB (M.inv.pins_of fun p hp=>M.inv.pin p (List.mem_append_right _ ((List.mem_append.mp hp).elim (List.mem_append_left _) fun z=>List.mem_append_right _ (.tail _ z)))) fI fun b o nb e=>hk' b o (by simpa using nb) e
  have eS':=hk' S _ (by simpa using M.two.ne.symm) eS
  have J2:=fK (pins:=pins) J1 (fun p hp=>List.mem_append_left _ hp) M.two hoI' eS' (c6 hoI' hst'.1) (fun v z=>nomatch z)
  show wpAny _ X.A.in1 (tryCatch (holding [u] (call (.ref f) [u])) _ >>= _) _ _ _
  cases ht:t [ds[j]] with
  | err e=>rw[ht]at hm;cases hm
  | stuck=>rw[ht]at hm;cases hm
  | ok kd =>
   rw[ht]at hm
   have hm0:(if good 60 kd=true then (match ltN 60 kd kb with | some true=>minK t ds[j] kd (ds.drop (j+1)) | some false=>minK t b kb (ds.drop (j+1)) | none=>FF.R.stuck) else FF.R.stuck)=.ok d:=hm
   split at hm0
   ·rename_i hg
    refine wpAny_bind (wpAny_tryCatch (wpAny_holding (mo FO hb hps hr J2 M.sub rx rd ht fun u2 v2 H2 Z2 s2 J3 x2 ru2 rq2=>?_)))
    have p3I:=J3.pin (I,oI') (List.mem_append_right _ (List.mem_append_right _ (.head _)))
    have p3S:=J3.pin (S,seqObj "list" #[vb,kv] c) (List.mem_append_right _ (List.mem_append_right _ (.tail _ (.head _))))
    have two2:Two X pins H2 I S:=⟨b0 M.two.i p3I.2.1 fun p hp=>.inl hp,b0 M.two.s p3S.2.1 fun p hp=>.inl hp,M.two.ne⟩
    have it2:s2.heap.IsListIter I l (j+1):=⟨oI',p3I.1,hoc,hod⟩
    have lst2:∃ vs,SqL F.K Z2 l vs∧Reps F.K F.C Z2 ds vs:=⟨vs,x2.z.seq hq,Reps.mono x2.z _ _ rs⟩
    have ex2:=ex.trans x2
    obtain⟨hp2,g2,d2,tk2,os2⟩:=s2
    show wpAny _ X.A.in1 (tryCatch (holding [u,u2] (richCompare .Lt u2 kv >>= _)) _ >>= _) _ _ _
    obtain⟨gk,kw,rk1,rk2⟩:=M.key
    cases hlt2:ltN 60 kd kb with
    | none=>rw[hlt2]at hm0;cases hm0
    | some cc =>
    rw[hlt2]at hm0
    refine wpAny_bind (wpAny_tryCatch (wpAny_holding (wpAny_bind (ltB hK J3 x2.sub 60 X.A.in1 kd kb v2 kw u2 kv cc hlt2 hg gk rq2 (Rep.mono x2.z _ _ rk2) ru2 rk1 (by have:=hr.un;show X.A.units+1+60 < cLine;omega) X.prog X.w _ _ ?_))))
    refine wpAny_bind (wpAny_holding (wpAny_truthy_bool ?_))
    refine wpAny_bind (wpAny_letGo (wpAny_pure ?_))
    cases cc with
    | true =>
     have hm':minK t ds[j] kd (ds.drop (j+1))=.ok d:=hm0
     have sb:=Heap.SameBut.update hp2 S (Obj.mapSeq fun _=>#[u,u2])
     have hc2:=get?_update_seq p3S.1 fun _=>#[u,u2]
     rw[if_pos rfl]
     refine wpAny_bind ?_
     refine wpAny_updateSeq p3S.1 rfl (wpAny_bind (wpAny_letGo ?_))
     rw[nm]
     refine wpAny_pure ⟨plainId_quiet PySem.F.plain_min_loop _,?_⟩
     have fS:FpOk X (pins++[(I,oI')]) H2 S:=b0 two2.s two2.s.1 fun p hp=>(List.mem_append.mp hp).elim .inl fun z=>.inr (by rw[List.mem_singleton.mp z];exact M.two.ne)
     have J4:=fun t':Nat=>eB (t':=t') (h':=hp2.update S (Obj.mapSeq fun _=>#[u,u2])) (J3.pins_of (pins':=pins++[(I,oI')]) fun p hp=>J3.pin p (List.mem_append_right _ ((List.mem_append.mp hp).elim (List.mem_append_left _) fun z=>List.mem_append_right _ (by rw[List.mem_singleton.mp z];exact .head _)))) fS fun b o nb e=>(sb.2 b nb).trans e
     have eI4:(hp2.update S (Obj.mapSeq fun _=>#[u,u2])).get? I=some oI':=(sb.2 I M.two.ne).trans p3I.1
     have J5:=fun t':Nat=>fK (pins:=pins) (J4 t') (fun p hp=>List.mem_append_left _ hp) two2 eI4 hc2 (c6 hoI' hst'.1) (fun v z=>nomatch z)
     exact ih (j+1) ds[j] kd H2 Z2 _ oI' u u2 _ (by omega) (by omega) ex2 ⟨J5 _,⟨oI',eI4,hoc,hod⟩,two2,x2.sub,lst2,⟨xv,rx,Rep.mono x2.z _ _ rd⟩,hg,v2,ru2,rq2⟩ hm'
    | false =>
     have hm':minK t b kb (ds.drop (j+1))=.ok d:=hm0
     rw[if_neg Bool.false_ne_true]
     refine wpAny_bind (wpAny_letGo ?_)
     rw[nm]
     obtain⟨bv,b1,b2⟩:=M.bst
     refine wpAny_pure ⟨plainId_quiet PySem.F.plain_min_loop _,ih (j+1) b kb H2 Z2 _ oI' vb kv c (by omega) (by omega) ex2 ⟨J3.tok _,it2,two2,x2.sub,lst2,⟨bv,b1,Rep.mono x2.z _ _ b2⟩,gk,kw,rk1,Rep.mono x2.z _ _ rk2⟩ hm'⟩
   ·cases hm0
theorem rG (FO:FnOk X.prog X.w X.K X.mg X.base (CXE X.prog X.w) k f fd ps (spF F.K F.C ps.length t))(hb:Binds X.K fd ps [])(hps:ps.length=1)(hK:X.K=F.K)(hc:X.calm=true)(hr:Room k X.A){H Z:Hp}{s:Shared}{vs:List V}{Q:VK}
  (J:Inv X pins σ H s) (hs:Same Z H) (hq:SqL F.K Z l vs) (rs:Reps F.K F.C Z ds vs) (hm:dMinK t (.lst ds)=.ok d) (hQ:∀ v H' Z',Ex H Z H' Z'→Rep F.K F.C Z' d v→Q v H') :
  wpAny (model X.prog X.w) X.A (call (.builtin "min") [.ref l] [(Str.ofString "key",.ref f)]) (EP X pins σ Q) X.xe s:=by
 have nm:(toString "min" ++ toString ".loop":String)="min.loop" := by decide
 obtain⟨its,rv,pl,hz⟩:=J.list (by rw[hK];exact hs.seq hq)
 have hil:=rv.length
 have hlen:=rs.length
 obtain⟨x,r,rfl⟩:∃ x r,ds=x::r:=by
  cases ds with
  | nil=>cases hm
  | cons x r=>exact⟨x,r,rfl⟩
 have hm1:(match t [x] with | .ok k=>(if good 60 k=true then minK t x k r else FF.R.stuck) | _=>FF.R.stuck)=.ok d:=hm
 have hls:=pl.isList
 obtain⟨ol,hol,_⟩:=id hls
 have hll:l < s.heap.objs.size:=Heap.lt_size hol
 refine kmk_tree PySem.F.kind_min PySem.F.plain_min PySem.F.entry_min (kmk_min_key _ _) ?_
 show wpAny _ X.A.in1 (Builtin.Builtins.bindParams "min" ["key","default"] 0 ⟨[],[(Str.ofString "key",.ref f)]⟩ >>= _) _ _ s
 refine wpAny_bind (wpAny_of_eq (show Builtin.Builtins.bindParams "min" ["key","default"] 0 ⟨[],[(Str.ofString "key",.ref f)]⟩=pure [some (.ref f),none] from rfl) ?_)
 refine wpAny_bind (wpAny_pure ?_)
 refine wpAny_bind (wpAny_pyIter_list hls ?_)
 refine wpAny_bind (wpAny_newList ?_ (Nat.zero_le _))
 rw[nm]
 refine wpAny_pure ⟨plainId_quiet PySem.F.plain_min_loop _,?_⟩
 have hS:(s.heap.push { cls:=.type "list_iterator",data:=.fields #[.ref l,.int 0 0] }).objs.size=s.heap.objs.size+1:=size_push' ..
 have hlI:l≠s.heap.objs.size:=Nat.ne_of_lt hll
 have hSI:(s.heap.push { cls:=.type "list_iterator",data:=.fields #[.ref l,.int 0 0] }).objs.size≠s.heap.objs.size:=by rw[hS];exact Nat.succ_ne_self _
 have gI:((s.heap.push { cls:=.type "list_iterator",data:=.fields #[.ref l,.int 0 0] }).push (seqObj "list" #[] 0)).get? s.heap.objs.size=some { cls:=.type "list_iterator",data:=.fields #[.ref l,.int 0 0] }:=Heap.get?_push_of_some _ (Heap.get?_push_size _ rfl)
 have gS:((s.heap.push { cls:=.type "list_iterator",data:=.fields #[.ref l,.int 0 0] }).push (seqObj "list" #[] 0)).get? (s.heap.push { cls:=.type "list_iterator",data:=.fields #[.ref l,.int 0 0] }).objs.size=some (seqObj "list" #[] 0):=Heap.get?_push_size _ rfl
 have k0:∀ b o,s.heap.get? b=some o→((s.heap.push { cls:=.type "list_iterator",data:=.fields #[.ref l,.int 0 0] }).push (seqObj "list" #[] 0)).get? b=some o:=fun b o e=>Heap.get?_push_of_some _ (Heap.get?_push_of_some _ e)
 have two:Two X pins H s.heap.objs.size (s.heap.push { cls:=.type "list_iterator",data:=.fields #[.ref l,.int 0 0] }).objs.size :=
  ⟨J.fpOk (Nat.le_refl _) (J.hok.fresh (Nat.le_refl _)),J.fpOk (by rw[hS];exact Nat.le_succ _) (J.hok.fresh (by rw[hS];exact Nat.le_succ _)),hSI.symm⟩
 generalize (s.heap.push { cls:=.type "list_iterator",data:=.fields #[.ref l,.int 0 0] }).objs.size=S at *
 generalize (s.heap.push { cls:=.type "list_iterator",data:=.fields #[.ref l,.int 0 0] }).push (seqObj "list" #[] 0)=h1 at *
 generalize s.heap.objs.size=I at *
 have J0:∀ tk,Inv X pins σ H { s with heap:=h1,toks:=tk }:=fun tk=>J.kept k0
 have W:=Walks.list (prog:=X.prog) (w:=X.w) (A:=X.A.in1) (J.ok.hd hc) I l hlI its.toArray
 have hz':its.toArray.size=its.length:=List.size_toArray ..
 have hl1:h1.IsList l its.toArray:=⟨_,k0 _ _ hls.choose_spec.1,hls.choose_spec.2⟩
 refine codeAny_builtin PySem.F.entry_min_loop ?_
 rw[Around.under_plainId PySem.F.plain_min_loop _]
 show wpAny _ X.A.in1 (seqItems? (.ref S) >>= _) _ _ _
 refine wpAny_bind (wpAny_seqItems gS rfl ?_)
 show wpAny _ X.A.in1 (tryCatch (pyNext (.ref I)) _ >>= _) _ _ _
 refine wpAny_bind (wpAny_tryCatch (W.item 0 _ _ _ (by rw[hz',← hil,← hlen];exact Nat.succ_pos _) ⟨⟨_,gI,rfl,rfl⟩,hl1⟩ fun u h' tk' hP hst' hk'=>?_))
 have hu:its[0]?=some u:=by simpa using hP
 obtain⟨xv,ex1,rx⟩:∃ v,vs[0]?=some v∧RelV v u:=by
  cases e':vs[0]? with
  | none=>rw[Vals.none_of rv e']at hu;cases hu
  | some v =>
   obtain⟨u',e1,r1⟩:=rv.get e'
   rw[hu]at e1;cases e1
   exact⟨v,rfl,r1⟩
 obtain⟨xd,ed,rd⟩:=rs.get' ex1
 cases ed
 obtain⟨oI',hoI',hoc,hod⟩:=id hst'.1
 have gS':=hk' S _ (by simpa using two.ne.symm) gS
 have J1:Inv X pins σ H { s with heap:=h',toks:=tk' }:=eB (s:={ s with heap:=h1,toks:=tk' }) (J0 tk') two.i fun b o nb e=>hk' b o (by simpa using nb) e
 have J2:=fK (pins:=pins) J1 (fun p hp=>hp) two hoI' gS' (c6 hoI' hst'.1) (fun v z=>nomatch z)
 show wpAny _ X.A.in1 (tryCatch (holding [u] (call (.ref f) [u])) _ >>= _) _ _ _
 cases ht:t [x] with
 | err e=>rw[ht]at hm1;cases hm1
 | stuck=>rw[ht]at hm1;cases hm1
 | ok kd =>
  rw[ht]at hm1
  have hm0:(if good 60 kd=true then minK t x kd r else FF.R.stuck)=.ok d:=hm1
  split at hm0
  ·rename_i hg
   have hm2:=hm0
   refine wpAny_bind (wpAny_tryCatch (wpAny_holding (mo FO hb hps hr J2 hs rx rd ht fun u2 v2 H2 Z2 s2 J3 x2 ru2 rq2=>?_)))
   have p3I:=J3.pin (I,oI') (List.mem_append_right _ (List.mem_append_right _ (.head _)))
   have p3S:=J3.pin (S,seqObj "list" #[] 0) (List.mem_append_right _ (List.mem_append_right _ (.tail _ (.head _))))
   have two2:Two X pins H2 I S:=⟨b0 two.i p3I.2.1 fun p hp=>.inl hp,b0 two.s p3S.2.1 fun p hp=>.inl hp,two.ne⟩
   obtain⟨hp2,g2,d2,tk2,os2⟩:=s2
   have sb:=Heap.SameBut.update hp2 S (Obj.mapSeq fun _=>#[u,u2])
   have hc2:=get?_update_seq p3S.1 fun _=>#[u,u2]
   show wpAny _ X.A.in1 (updateSeq S (fun _=>#[u,u2]) >>= _) _ _ _
   refine wpAny_bind ?_
   refine wpAny_updateSeq p3S.1 rfl ?_
   rw[nm]
   refine wpAny_pure ⟨plainId_quiet PySem.F.plain_min_loop _,?_⟩
   have fS:FpOk X (pins++[(I,oI')]) H2 S:=b0 two2.s two2.s.1 fun p hp=>(List.mem_append.mp hp).elim .inl fun z=>.inr (by rw[List.mem_singleton.mp z];exact two.ne)
   have J4:=fun t':Nat=>eB (t':=t') (h':=hp2.update S (Obj.mapSeq fun _=>#[u,u2])) (J3.pins_of (pins':=pins++[(I,oI')]) fun p hp=>J3.pin p (List.mem_append_right _ ((List.mem_append.mp hp).elim (List.mem_append_left _) fun z=>List.mem_append_right _ (by rw[List.mem_singleton.mp z];exact .head _)))) fS fun b o nb e=>(sb.2 b nb).trans e
   have eI4:(hp2.update S (Obj.mapSeq fun _=>#[u,u2])).get? I=some oI':=(sb.2 I two.ne).trans p3I.1
   have J5:=fun t':Nat=>fK (pins:=pins) (J4 t') (fun p hp=>List.mem_append_left _ hp) two2 eI4 hc2 (c6 hoI' hst'.1) (fun v z=>nomatch z)
   refine rF (H0:=H) (Z0:=Z) (d:=d) FO hb hps hK hc hr (fun u' v' H' Z' s' I' x' r1 r2=>?_) _ 1 x kd H2 Z2 _ oI' u u2 _ rfl (by simp) x2 ⟨J5 _,⟨oI',eI4,hoc,hod⟩,two2,x2.sub,⟨vs,x2.z.seq hq,Reps.mono x2.z _ _ rs⟩,⟨xv,rx,Rep.mono x2.z _ _ rd⟩,hg,v2,ru2,rq2⟩ hm2
   exact⟨v',H',I',r1,hQ v' H' Z' x' r2⟩
  ·cases hm0
end
section
variable {X:Cx}{F:Fx}{p pos kp np:Pos}{e:Expr}{g:SS→R D}{k:Nat}{x:Str}{ps:List Str}{t:List D→R D}
theorem ww (bx:BX X F k)(hg:Gl X "min")(hm:X.mg "min"=none)(hgf:Gl X x)(h:Fn1 X.prog X.w F.K X.mg X.base F.C k x ps t)(ha:FE X F e g)(hps:ps.length=1:=by rfl)(hdb:(x==("__debug__":Str))=false:=by decide)
  (he:starEach [e] X.env=(false,eval e X.env)::starEach [] X.env:=by rfl) (he':backTo pos (starEach [e] X.env)=(false,eval e X.env)::backTo pos (starEach [] X.env):=by rfl) (hpl:(backTo pos (starEach [e] X.env)).any (·.1)=false:=by rfl) :
  FE X F (.Call (.Name "min" p) [e] [⟨some (Str.ofString "key"),.Name x np,kp⟩] pos) (fun S=>(g S).bind (dMinK t)):=by
 obtain⟨a,fd,h1,h2,h3,h4⟩:=h.ex
 have hK:=bx.K
 intro pins s σ H Q I hq
 obtain⟨Z,S,ok,w⟩:=hq
 have hA:FA X F [e] (aCons g aNil):=o8 ha sZ he
 have w':WG F H Z ((aCons g aNil S).bind fun ds=>match ds with | [d]=>dMinK t d | _=>.stuck) fun d H' Z'=>∀ v,Rep F.K F.C Z' d v→Q v H':=by
  have:((aCons g aNil S).bind fun ds=>match ds with | [d]=>dMinK t d | _=>.stuck)=(g S).bind (dMinK t):=by
   unfold aCons aNil
   cases g S<;>rfl
  rw[this];exact w
 refine wpAny_Call_Name_kw (iE (u:=.builtin "min") I hg hm (by decide +kernel) ?_)
 refine callWith_kw (thn (hA pos pins s σ H (fun vs H1=>∃ l ds d Z1 us,vs=[.ref l]∧Same Z1 H1∧SqL F.K Z1 l us∧Reps F.K F.C Z1 ds us∧dMinK t (.lst ds)=.ok d∧∀ v H' Z',Ex H1 Z1 H' Z'→Rep F.K F.C Z' d v→Q v H') I ?_) fun us s1 ⟨vs,H1,I1,r1,q1⟩=>?_) he' hpl rfl rfl
 ·refine aO ok w' fun ds vs H1 Z1 ok1 x1 rs w1=>?_
  match ds,rs,w1 with
  | [d0],rs,w1 =>
   obtain⟨v,rfl,r⟩:=aP rs
   cases q:dMinK t d0 with
   | ok d =>
    have w2:WG F H1 Z1 (.ok d) fun d H' Z'=>∀ v,Rep F.K F.C Z' d v→Q v H':=by rw[← q];exact w1
    cases d0 with
    | lst ds =>
     rw[Rep]at r
     obtain⟨l,us,rfl,r1,r2⟩:=r
     exact⟨l,ds,d,Z1,us,rfl,ok1.sub,r1,r2,q,fun v' H' Z' x' r'=>w2 H' Z' x' v' r'⟩
    | _=>cases q
   | err z =>
    exfalso
    have key:∀ (r:List D) (b kb:D),minK t b kb r≠.err z:=fun r=>by
     induction r with
     | nil=>intro b kb h;cases h
     | cons x r ih =>
      intro b kb h
      rw[minK]at h
      split at h
      ·split at h
       ·split at h
        ·exact ih _ _ h
        ·exact ih _ _ h
        ·cases h
       ·cases h
      ·cases h
    unfold dMinK at q
    split at q
    ·split at q
     ·split at q
      ·exact key _ _ _ q
      ·cases q
     ·cases q
    ·cases q
   | stuck =>
    have w1:WG F H1 Z1 (dMinK t d0) _:=w1
    rw[q]at w1;exact w1.elim
  | [],_,w1=>exact w1.elim
  | _::_::_,_,w1=>exact w1.elim
 ·obtain⟨l,ds,d,Z1,us',rfl,s1',hq1,rs1,hm1,hQ⟩:=q1
  obtain⟨u,rfl,ru⟩:=vals1 r1
  cases ru
  refine kws_cons (iy I1 hgf h2 ?_ hdb)
  refine kws_nil ?_
  exact rG (by rw[hK];exact h1) (by rw[hK];exact h4) hps hK bx.calm bx.room I1 s1' hq1 rs1 hm1 hQ
end
def dLtD (x y:D):R D:=if good 60 x=true∧good 60 y=true then (match ltN 60 x y with | some c=>.ok (.bl c) | none=>.stuck) else .stuck
def rLtD (K:PySem.W.Frag)(C:Nat→Addr):R2:=fun x y H Q=>∃ Z d e c,Same Z H∧Rep K C Z d x∧Rep K C Z e y∧good 60 d=true∧good 60 e=true∧ltN 60 d e=some c∧Q (.bl c) H
section
variable {X:Cx}{F:Fx}{a b e:Expr}{ga gb:SS→R D}{gs:SS→R (List D)}{p pos:Pos}{k:Nat}
theorem yw (hK:X.K=F.K)(hr:Room k X.A):OpR X (compareOp .Lt) (rLtD F.K F.C):=by
 intro pins s σ H x y v u Q I rx ry h
 obtain⟨Z,d,e,c,z,h1,h2,g1,g2,hc,q⟩:=h
 exact ltB hK I z 60 X.A d e x y v u c hc g1 g2 h1 h2 rx ry (by have:=hr.un;omega) X.prog X.w X.xe _ ⟨.bl c,H,I,rfl,q⟩
theorem wx:OpD F (rLtD F.K F.C) dLtD:=by
 intro H Z x y dx dy Q s rx ry w
 unfold dLtD at w
 split at w
 ·rename_i g
  split at w
  ·rename_i c hc
   exact⟨Z,dx,dy,c,s,rx,ry,g.1,g.2,hc,WG.now w s _ a7⟩
  ·exact w.elim
 ·exact w.elim
theorem yx (bx:BX X F k)(ha:FE X F a ga)(hb:FE X F b gb):FT X F (.Compare a [.Lt] [b] pos) (gB (eOp dLtD ga gb)):=eY (yw bx.K bx.room) wx ha hb
end
def minD (b:D):List D→R D
 | []=>.ok b
 | x::r=>if good 60 x=true then (match ltN 60 x b with | some true=>minD x r | some false=>minD b r | none=>.stuck) else .stuck
def dMinD:List D→R D
 | [.lst (x::r)]=>if good 60 x=true then minD x r else .stuck
 | _=>.stuck
def btD (ds:List D):Nat→Nat→Bool:=fun i j=>match ds[i]?,ds[j]? with
 | some x,some y=>(ltN 60 x y).getD false
 | _,_=>false
theorem gM {ds:List D}{d:D}:∀ (m j:Nat) (b:D),ds.length - (j+1)=m→j+1≤ds.length→ds[argBest (btD ds) j]?=some b→good 60 b=true→minD b (ds.drop (j+1))=.ok d →
  (∃ i,ds[i]?=some d∧argBest (btD ds) (ds.length - 1)=i)∧∀ q,j≤q→q+1 < ds.length→∃ x y c,ds[q+1]?=some x∧ds[argBest (btD ds) q]?=some y∧good 60 x=true∧good 60 y=true∧ltN 60 x y=some c∧btD ds (q+1) (argBest (btD ds) q)=c
 | 0,j,b,hm,hj,hb,gb,h=>by
  rw[List.drop_eq_nil_of_le (by omega)]at h
  cases h
  rw[show ds.length - 1=j by omega]
  exact⟨⟨_,hb,rfl⟩,fun q h1 h2=>by omega⟩
 | m+1,j,b,hm,hj,hb,gb,h=>by
  have hlt:j+1 < ds.length:=by omega
  rw[List.drop_eq_getElem_cons hlt,minD]at h
  have e1:ds[j+1]?=some ds[j+1]:=List.getElem?_eq_getElem hlt
  have ab:argBest (btD ds) (j+1)=if btD ds (j+1) (argBest (btD ds) j)=true then j+1 else argBest (btD ds) j:=rfl
  split at h
  ·rename_i gx
   cases hc:ltN 60 ds[j+1] b with
   | none=>rw[hc]at h;cases h
   | some c =>
    rw[hc]at h
    have bt:btD ds (j+1) (argBest (btD ds) j)=c:=by
     have:∀ i x y,ds[j+1]?=some x→ds[i]?=some y→btD ds (j+1) i=(ltN 60 x y).getD false:=fun i x y h1 h2=>by unfold btD;rw[h1,h2]
     rw[this _ _ _ e1 hb,hc];rfl
    have fst:∃ x y c,ds[j+1]?=some x∧ds[argBest (btD ds) j]?=some y∧good 60 x=true∧good 60 y=true∧ltN 60 x y=some c∧btD ds (j+1) (argBest (btD ds) j)=c:=⟨_,b,c,e1,hb,gx,gb,hc,bt⟩
    cases c with
    | true =>
     obtain⟨r1,r2⟩:=gM m (j+1) ds[j+1] (by omega) hlt (by rw[ab,if_pos bt];exact e1) gx h
     exact⟨r1,fun q h1 h2=>if z:q=j then z ▸ fst else r2 q (by omega) h2⟩
    | false =>
     obtain⟨r1,r2⟩:=gM m (j+1) b (by omega) hlt (by rw[ab,if_neg (by rw[bt];decide)];exact hb) gb h
     exact⟨r1,fun q h1 h2=>if z:q=j then z ▸ fst else r2 q (by omega) h2⟩
  ·cases h
theorem kZ:∀ (r:List D) (b:D) (e:Nat),minD b r=.err e→False
 | [],b,e,h=>nomatch h
 | x::r,b,e,h=>by
  rw[minD]at h
  split at h
  ·split at h
   ·exact kZ r _ e h
   ·exact kZ r _ e h
   ·cases h
  ·cases h
section
variable {X:Cx}{F:Fx}{e:Expr}{gs:SS→R (List D)}{p pos:Pos}{k:Nat}
theorem rH (hK:X.K=F.K)(hc:X.calm=true)(hr:Room k X.A):CallR X (.builtin "min") (fun xs H Q=>∃ (p:Addr) (vs:List V) (ds:List D) (d:D) (Z:Hp),xs=[.ref p]∧Same Z H∧SqL X.K H p vs∧Reps F.K F.C Z ds vs∧dMinD [.lst ds]=.ok d∧∀ v,Rep F.K F.C Z d v→Q v H):=by
 intro pins s σ H xs us Q I r h
 obtain⟨p,vs,ds,d,Z,rfl,z,hq,rs,hm,q⟩:=h
 obtain⟨u,rfl,ru⟩:=vals1 r
 cases ru
 obtain⟨its,rv,pl,hz⟩:=I.list hq
 have l1:=rv.length
 have l2:=rs.length
 obtain⟨x,r,rfl⟩:∃ x r,ds=x::r:=by
  cases ds with
  | nil=>cases hm
  | cons x r=>exact⟨x,r,rfl⟩
 have hm1:(if good 60 x=true then minD x r else FF.R.stuck)=.ok d:=hm
 split at hm1
 ·rename_i gx
  obtain⟨⟨i,e1,e2⟩,e3⟩:=gM (ds:=x::r) _ 0 x rfl (by simp) rfl gx hm1
  have back:∀ (i:Nat) u,its[i]?=some u→∃ v d,vs[i]?=some v∧RelV v u∧(x::r)[i]?=some d∧Rep F.K F.C Z d v:=fun i u e=>by
   cases e':vs[i]? with
   | none=>rw[Vals.none_of rv e']at e;cases e
   | some v =>
    obtain⟨u',f1,r1⟩:=rv.get e'
    rw[e]at f1;cases f1
    obtain⟨d,f2,r2⟩:=rs.get' e'
    exact⟨v,d,rfl,r1,f2,r2⟩
  refine zo (bt:=btD (x::r)) (I.ok.hd hc) pl.isList (by simp at l2;omega) (fun j u w h tk eu ew kk=>?_) fun u h' tk' e kk=>?_
  ·obtain⟨v1,d1,_,r1,f1,g1⟩:=back _ _ eu
   obtain⟨v2,d2,_,r2,f2,g2⟩:=back _ _ ew
   obtain⟨y1,y2,c,a1,a2,a3,a4,a5,a6⟩:=e3 j (Nat.zero_le _) (List.getElem?_eq_some_iff.mp f1).1
   rw[a1]at f1;cases f1
   rw[a2]at f2;cases f2
   rw[a6]
   exact ltB hK (I.kept (t':=tk) kk) z 60 X.A.in1 _ _ v1 v2 u w c a5 a3 a4 g1 g2 r1 r2 (by have:=hr.un;show X.A.units+1+60 < cLine;omega)
  ·rw[show its.length - 1=(x::r).length - 1 by omega,e2]at e
   obtain⟨v,d',f0,r1,f1,r2⟩:=back _ u e
   rw[e1]at f1;cases f1
   exact⟨v,H,I.kept fun b o e=>kk b o e,r1,q v r2⟩
 ·cases hm1
theorem pG (bx:BX X F k)(hg:Gl X "min")(hm:X.mg "min"=none)(ha:FA X F [e] gs)(he:starEach [e] X.env=(false,eval e X.env)::starEach [] X.env:=by rfl)(hpl:(backTo pos (starEach [] X.env)).any (·.1)=false:=by rfl) :
  FE X F (.Call (.Name "min" p) [e] [] pos) (eCall dMinD gs) :=
 (cI (rH bx.K bx.calm bx.room) hg hm (by decide +kernel) ha (he:=he) (hpl:=hpl)).weak fun σ H Q ⟨Z,S,ok,w⟩=>by
  refine aO ok w fun ds vs H1 Z1 ok1 x1 rs w1=>?_
  unfold dMinD at w1
  split at w1
  ·rename_i x r
   split at w1
   ·rename_i g
    obtain⟨v,rfl,h⟩:=aP rs
    rw[Rep]at h
    obtain⟨a,us,rfl,h1,h2⟩:=h
    cases em:minD x r with
    | err z=>exact(kZ _ _ _ em).elim
    | stuck=>rw[em]at w1;exact w1.elim
    | ok d =>
     rw[em]at w1
     exact⟨a,us,x::r,d,Z1,rfl,ok1.sub,by rw[bx.K];exact ok1.sub.seq h1,h2,by show (if good 60 x=true then minD x r else FF.R.stuck)=_;rw[if_pos g,em],fun v rv=>WG.now w1 ok1.sub _ rv⟩
   ·exact w1.elim
  ·exact w1.elim
end
open PySem.SeqAt (EqAt RcAt)
def IsRow (h:Heap)(ks:List Int)(a:Addr):Prop:=∃ its:List Value,IsTup h a its.toArray∧IntsAre its ks
inductive RowsAre (h:Heap):List (List Int)→List Value→Prop
 | nil:RowsAre h [] []
 | cons {ks:List Int} {a:Addr} {kss:List (List Int)} {vs:List Value}:IsRow h ks a→RowsAre h kss vs→RowsAre h (ks::kss) (.ref a::vs)
def IsRows (h:Heap)(kss:List (List Int))(a:Addr):Prop:=∃ its:List Value,IsTup h a its.toArray∧RowsAre h kss its
section
variable {h h':Heap}{ks ms:List Int}{kss mss:List (List Int)}{a b d:Addr}{vs us:List Value}
theorem pH {xs ys:List Value}(x:IsTup h a xs.toArray)(y:IsTup h a ys.toArray):xs=ys:=by
 obtain⟨o,e,_,n,d⟩:=x
 obtain⟨o',e',_,n',d'⟩:=y
 rw[e]at e';cases e'
 rw[d]at d'
 injection d' with d' _
 exact congrArg Array.toList d'
theorem uA {xs:List Value}(x:IntsAre xs ks):∀ {ms:List Int},IntsAre xs ms→ks=ms:=by
 induction x with
 | nil=>intro ms y;cases y;rfl
 | cons n t _ ih=>intro ms y;cases y with | cons m u y=>rw[ih y]
theorem pI (x:IsRow h ks a)(y:IsRow h ms a):ks=ms:=by
 obtain⟨xs,p,q⟩:=x
 obtain⟨ys,p',q'⟩:=y
 cases pH p p'
 exact uA q q'
theorem rJ (x:RowsAre h kss vs):∀ {mss:List (List Int)},RowsAre h mss vs→kss=mss:=by
 induction x with
 | nil=>intro ms y;cases y;rfl
 | cons r _ ih=>intro ms y;cases y with | cons r' y=>rw[ih y,pI r r']
theorem mq (x:IsRows h kss a)(y:IsRows h mss a):kss=mss:=by
 obtain⟨xs,p,q⟩:=x
 obtain⟨ys,p',q'⟩:=y
 cases pH p p'
 exact rJ q q'
theorem mr {its:Array Value}{o:Obj}{es:Array DictEntry}{ep:Nat}(x:IsTup h a its)(ho:h.get? d=some o)(hd:o.data=.dict es ep)(hs:Heap.SameBut d h h'):IsTup h' a its:=by
 obtain⟨o',e,c,n,q⟩:=x
 refine⟨o',(hs.2 a fun z=>?_).trans e,c,n,q⟩
 subst z
 rw[ho]at e;cases e
 rw[hd]at q;cases q
theorem rK {o:Obj}{es:Array DictEntry}{ep:Nat}(ho:h.get? d=some o)(hd:o.data=.dict es ep)(hs:Heap.SameBut d h h')(x:RowsAre h kss vs):RowsAre h' kss vs:=by
 induction x with
 | nil=>exact .nil
 | cons r _ ih=>obtain⟨its,p,q⟩:=r;exact .cons ⟨its,mr p ho hd hs,q⟩ ih
theorem RowsAre.len (x:RowsAre h kss vs):vs.length=kss.length:=by
 induction x with
 | nil=>rfl
 | cons _ _ ih=>rw[List.length_cons,List.length_cons,ih]
theorem RowsAre.at_ (x:RowsAre h kss vs):∀ (j:Nat) (v:Value),vs[j]?=some v→∃ c ks,v=.ref c∧kss[j]?=some ks∧IsRow h ks c:=by
 induction x with
 | nil=>intro j v e;cases e
 | cons r _ ih =>
  intro j v e
  cases j with
  | zero=>cases e;exact⟨_,_,rfl,rfl,r⟩
  | succ j=>exact ih j v e
end
section
variable {A:Around}{s:Shared}{ks ms:List Int}{kss mss:List (List Int)}{a b:Addr}
theorem pJ {c:Bool}(hc:a=b→c=true)(w:RcAt A s (.ref a) (.ref b) c):EqAt A s (.ref a) (.ref b) c:=by
 by_cases hab:a=b
 ·subst hab;rw[hc rfl];exact .same _
 ·exact .of_refs hab w
theorem c7 {h:Heap}{its:Array Value}(x:IsTup h a its):h.IsTuple a its:=x
theorem uB {α:Type}[DecidableEq α](d:α):∀ (xs ys:List α),((List.range (min xs.length ys.length)).all (fun j=>decide (xs.getD j d=ys.getD j d))&&xs.length==ys.length)=decide (xs=ys):=by
 intro xs ys
 rw[Bool.eq_iff_iff]
 simp only[Bool.and_eq_true,List.all_eq_true,List.mem_range,decide_eq_true_eq,beq_iff_eq]
 constructor
 ·rintro ⟨h,hl⟩
  apply List.ext_getElem hl
  intro i h1 h2
  have:=h i (by omega)
  simpa [List.getD,h1,h2] using this
 ·intro h;subst h;exact⟨fun j _=>rfl,rfl⟩
theorem yy (hu:A.units < cLine)(x:IsRow s.heap ks a)(y:IsRow s.heap ms b):EqAt A s (.ref a) (.ref b) (decide (ks=ms)):=by
 obtain⟨xs,p,q⟩:=x
 obtain⟨ys,p',q'⟩:=y
 have l1:=q.length
 have l2:=q'.length
 refine pJ (fun hab=>?_) ?_
 ·subst hab
  exact decide_eq_true (pI ⟨xs,p,q⟩ ⟨ys,p',q'⟩)
 ·have:=RcAt.tuples (A:=A) (s:=s) (e:=fun j=>decide (ks.getD j 0=ms.getD j 0)) (c7 p) (c7 p') hu fun j h1 h2=>by
   obtain⟨t,e1⟩:=IntsAre.int_at q j (xs.toArray[j]) (by simp at h1 ⊢)
   obtain⟨u,e2⟩:=IntsAre.int_at q' j (ys.toArray[j]) (by simp at h2 ⊢)
   rw[e1,e2]
   exact(EqAt.int_int _ _ _ _)
  rw[List.size_toArray,List.size_toArray,l1,l2,uB]at this
  exact this
theorem wy (hu:A.units+1 < cLine)(x:IsRows s.heap kss a)(y:IsRows s.heap mss b):EqAt A s (.ref a) (.ref b) (decide (kss=mss)):=by
 obtain⟨xs,p,q⟩:=x
 obtain⟨ys,p',q'⟩:=y
 have l1:=q.len
 have l2:=q'.len
 refine pJ (fun hab=>?_) ?_
 ·subst hab
  exact decide_eq_true (mq ⟨xs,p,q⟩ ⟨ys,p',q'⟩)
 ·have:=RcAt.tuples (A:=A) (s:=s) (e:=fun j=>decide (kss.getD j []=mss.getD j [])) (c7 p) (c7 p') (by omega) fun j h1 h2=>by
   obtain⟨c,ks,e1,k1,r1⟩:=q.at_ j (xs.toArray[j]) (by simp at h1 ⊢)
   obtain⟨d,ms,e2,k2,r2⟩:=q'.at_ j (ys.toArray[j]) (by simp at h2 ⊢)
   rw[e1,e2]
   simp only[List.getD,k1,k2,Option.getD_some]
   exact yy hu r1 r2
  rw[List.size_toArray,List.size_toArray,l1,l2,uB]at this
  exact this
end
section
variable {prog:Program}{w:World}{A:Around}{E:Value→Shared→Prop}{s:Shared}{ks:List Int}{kss:List (List Int)}{a:Addr}
def drawR:List (List Int)→Nat
 | []=>0
 | ks::kss=>ks.length+1+drawR kss
theorem uC {Q:Int→Shared→Prop}(hu:A.units < cLine)(x:IsRow s.heap ks a)(h:Q (hashT ks) { s with toks:=s.toks+(ks.length+1) }):wpAny (model prog w) A (pyHash (.ref a)) Q E s:=by
 obtain⟨its,⟨o,e,c,n,d⟩,q⟩:=x
 refine wpAny_pyHash_tuple (knd:=intKind prog w) hu ⟨o,its.toArray,n,e,c,d,?_⟩ h
 show PySem.ItemsAre _ _ its
 clear d e c h
 induction q with
 | nil=>exact .nil
 | cons k t _ ih=>exact .cons (by show Value.isInt k (.int k t)=true;simp[Value.isInt]) ih
theorem mw (x:IsRows s.heap kss a):s.TypeIs (.ref a) "tuple" := let ⟨_,⟨o,e,c,_⟩,_⟩:=x;⟨o,e,c⟩
theorem rL {Q:Int→Shared→Prop}(hu:A.units+1 < cLine)(x:IsRows s.heap kss a)(h:Q (hashR kss) { s with toks:=s.toks+(drawR kss+1) }):wpAny (model prog w) A (pyHash (.ref a)) Q E s:=by
 have ty:=mw x
 obtain⟨its,⟨o,e,c,n,d⟩,q⟩:=x
 unfold pyHash
 first | unfold pyHashByItsType | skip
 first | refine wpAny_bind (wpAny_cRoomFor_or (.inr (by omega)) ?_) | skip
 refine wpAny_bind (wpAny_specialOf ty F.slot_tuple_hash.lookup ?_)
 rw[if_neg (by rw[beq_builtin_none];exact Bool.false_ne_true)]
 refine wpAny_bind (wpAny_specialOf ty F.slot_tuple_hash.lookup (wpAny_bind (wpAny_callSpecialIfBoundUnlessNone?_slot ty F.slot_tuple_hash (wpAny_call_entry F.slot_tuple_hash ty F.entry_tuple_hash ?_ (F.args_tuple_hash_1 _)))))
 show wpAny _ _ (Builtin.Tuple.tupleItemsOf (.ref a) >>= _) _ _ _
 refine wpAny_bind (wpAny_tupleItemsOf e d (wpAny_bind ?_))
 rw[← Array.forIn_toList]
 refine wpAny_forIn_list _ (fun rest (b:Array Int) s'=>∃ l r,kss=l++r∧RowsAre s.heap r rest∧b.toList=l.map hashT∧s'={ s with toks:=s.toks+drawR l }) _ ?_ ?_ _ _ ⟨[],kss,rfl,q,rfl,rfl⟩
 ·rintro v rest b s' ⟨l,r,rfl,hr,hb,rfl⟩
  cases hr with
  | cons r1 hr =>
   rename_i ks c kss'
   have dr:∀ (l:List (List Int)),drawR (l++[ks])=drawR l+(ks.length+1):=fun l=>by
    induction l with
    | nil=>simp[drawR]
    | cons m l ih=>rw[List.cons_append,drawR,drawR,ih];omega
   refine wpAny_bind (uC (by show A.units+1 < cLine;omega) r1 ?_)
   first
    | exact wpAny_pure ⟨l++[ks],kss',by simp,hr,by simp[hb],by rw[dr,Nat.add_assoc]⟩
    | exact wpAny_bind (wpAny_pure (wpAny_pure ⟨l++[ks],kss',by simp,hr,by simp[hb],by rw[dr,Nat.add_assoc]⟩))
 ·rintro b s' ⟨l,r,rfl,hr,hb,rfl⟩
  cases hr
  rw[List.append_nil]at h
  show wpAny _ _ (retInt (Builtin.Tuple.tupleHashOf b.toList)) _ _ _
  rw[hb]
  refine wpAny_ret_mkInt ?_
  unfold hashR reduceHash at h
  generalize Builtin.Tuple.tupleHashOf (l.map hashT)=T at h ⊢
  show wpAny _ _ (if (decide (-(2:Int)^63≤T)&&decide (T < 2^63))=true then _ else _) Q E _
  split at h
  ·rename_i z
   rw[if_pos z]
   exact wpAny_pure (by simpa [Nat.add_assoc] using h)
  ·rename_i z
   rw[if_neg z]
   exact wpAny_bind (wpAny_rule (wpAny_pure (by simpa [Nat.add_assoc] using h)))
theorem rM (m:Nat){Q:Bool→Shared→Prop}(x:IsRow s.heap ks a)(h:Q true s):wpAny (model prog w) A (eqIsQuiet (m+1) (.ref a)) Q E s:=by
 obtain⟨its,⟨o,e,c,n,d⟩,q⟩:=x
 have ty:s.TypeIs (.ref a) "tuple" := ⟨o,e,c⟩
 unfold eqIsQuiet
 refine wpAny_bind (wpAny_specialOf ty F.slot_tuple_eq.lookup ?_)
 show wpAny _ _ (isInstance (.ref a) (.type "tuple") >>= _) _ _ s
 refine wpAny_bind (wpAny_isInstance ty isSubtype_tuple_tuple ?_)
 simp only[Bool.not_true,Bool.false_eq_true,if_false]
 refine wpAny_bind (wpAny_seqItems e d (wpAny_bind ?_))
 show wpAny _ _ (forIn its.toArray _ _) _ _ s
 rw[← Array.forIn_toList]
 refine wpAny_forIn_list _ (fun rest r s'=>r.1=none∧s'=s∧∃ ms,IntsAre rest ms) _ ?_ ?_ _ _ ⟨rfl,rfl,ks,q⟩
 ·rintro v rest r s' ⟨hr,rfl,ms,q⟩
  cases q with
  | cons k t q =>
   rw[eqIsQuiet_byValue _ rfl]
   refine wpAny_bind (wpAny_pure ?_)
   simp only[Bool.not_true,Bool.false_eq_true,if_false]
   exact wpAny_pure ⟨rfl,rfl,_,q⟩
 ·rintro ⟨r1,r2⟩ s' ⟨hr,rfl,_⟩
  simp only at hr
  subst hr
  exact wpAny_pure h
theorem n9 (m:Nat){Q:Bool→Shared→Prop}(x:IsRows s.heap kss a)(h:Q true s):wpAny (model prog w) A (eqIsQuiet (m+2) (.ref a)) Q E s:=by
 have ty:=mw x
 obtain⟨its,⟨o,e,c,n,d⟩,q⟩:=x
 unfold eqIsQuiet
 refine wpAny_bind (wpAny_specialOf ty F.slot_tuple_eq.lookup ?_)
 show wpAny _ _ (isInstance (.ref a) (.type "tuple") >>= _) _ _ s
 refine wpAny_bind (wpAny_isInstance ty isSubtype_tuple_tuple ?_)
 simp only[Bool.not_true,Bool.false_eq_true,if_false]
 refine wpAny_bind (wpAny_seqItems e d (wpAny_bind ?_))
 show wpAny _ _ (forIn its.toArray _ _) _ _ s
 rw[← Array.forIn_toList]
 refine wpAny_forIn_list _ (fun rest r s'=>r.1=none∧s'=s∧∃ ms,RowsAre s.heap ms rest) _ ?_ ?_ _ _ ⟨rfl,rfl,kss,q⟩
 ·rintro v rest r s' ⟨hr,rfl,ms,q⟩
  cases q with
  | cons r1 q =>
   refine wpAny_bind (rM m r1 ?_)
   simp only[Bool.not_true,Bool.false_eq_true,if_false]
   exact wpAny_pure ⟨rfl,rfl,_,q⟩
 ·rintro ⟨r1,r2⟩ s' ⟨hr,rfl,_⟩
  simp only at hr
  subst hr
  exact wpAny_pure h
end
def rowsKind (prog:Program)(w:World):HeapKind prog w (List (List Int)) where
 is:=IsRows
 hash:=hashR
 draws:=fun kss=>drawR kss+1
 room:=fun A=>A.units+1 < cLine
 inj:=mq
 keeps:=fun ⟨its,p,q⟩ ho hd hs=>⟨its,mr p ho hd hs,rK ho hd hs q⟩
 pyHash:=fun hu x h=>rL hu x h
 eqBool:=fun hu x y h=>wy hu x y _ _ _ _ h
 quiet:=fun x h=>n9 6 x h
def rput (kvs:List RKV)(ks:List (List Int))(b:Addr)(v:V):List RKV:=if (kvs.any fun p=>decide (p.1=ks))=true then kvs.map (fun p=>if p.1=ks then (p.1,p.2.1,v) else p) else kvs++[(ks,b,v)]
section
variable {kvs:List RKV}{xs:List RKU}{ks:List (List Int)}
theorem uD (r:Paired rabR kvs xs):(atKey xs ks).isSome=(kvs.any fun p=>decide (p.1=ks)):=by
 unfold atKey
 rw[Option.isSome_map]
 induction r with
 | nil=>rfl
 | cons h _ ih =>
  rename_i p q ps qs _
  obtain⟨h1,h2,h3⟩:=h
  rw[List.find?_cons,List.any_cons,← h1,← ih]
  by_cases c:p.1=ks
  ·rw[decide_eq_true c];rfl
  ·rw[decide_eq_false c];rfl
theorem wz {v:V}{u:Value}(rv:RelV v u)(r:Paired rabR kvs xs):Paired rabR (kvs.map fun p=>if p.1=ks then (p.1,p.2.1,v) else p) (xs.map (putAt ks u)):=by
 induction r with
 | nil=>exact .nil
 | cons h _ ih =>
  rename_i p q ps qs _
  refine .cons ?_ ih
  obtain⟨h1,h2,h3⟩:=h
  show rabR (if p.1=ks then (p.1,p.2.1,v) else p) (if q.1=ks then (q.1,q.2.1,u) else q)
  rw[← h1]
  by_cases c:p.1=ks
  ·rw[if_pos c,if_pos c];exact⟨rfl,h2,rv⟩
  ·rw[if_neg c,if_neg c];exact⟨h1,h2,h3⟩
theorem wA {v:V}{u:Value}{b:Addr}(rv:RelV v u)(r:Paired rabR kvs xs):Paired rabR (rput kvs ks b v) (storedH xs ks b u):=by
 unfold rput storedH
 rw[uD r]
 split
 ·exact wz rv r
 ·exact rA r ⟨rfl,rfl,rv⟩
theorem uE {v:V}{b:Addr}:(rput kvs ks b v).length≤kvs.length+1:=by unfold rput;split<;>simp
end
section
variable {X:Cx}{pins:List (Addr×Obj)}{σ:St}{H:Hp}{s:Shared}{a b:Addr}{kvs:List RKV}{ks:List (List Int)}{A:Around}{E:Value→Shared→Prop}
theorem pK (I:Inv X pins σ H s):∀ {as:List Addr} {kss:List (List Int)} {its:List Value},RowsT X.K H as kss→Vals (as.map V.ref) its→RowsAre s.heap kss its
 | [],[],its,_,r=>by cases r;exact .nil
 | c::as,ks::kss,its,h,r=>by
  cases r with
  | cons r1 r2 =>
   cases r1
   obtain⟨is,rv,p,_⟩:=I.tuple h.1
   exact .cons ⟨is,p,cX rv⟩ (pK I h.2 r2)
 | [],_::_,_,h,_=>h.elim
 | _::_,[],_,h,_=>h.elim
theorem pL (I:Inv X pins σ H s)(h:SqR X.K H b ks):IsRows s.heap ks b:=by
 obtain⟨as,p,q⟩:=h
 obtain⟨its,r,e,_⟩:=I.tuple p
 exact⟨its,e,pK I q r⟩
def KeysR (K:PySem.W.Frag)(H:Hp)(kvs:List RKV):Prop:=∀ x∈kvs,SqR K H x.2.1 x.1
theorem mx (I:Inv X pins σ H s)(e:H a=some (rabO a kvs))(hk:KeysR X.K H kvs):∃ xs:List RKU,Paired rabR kvs xs∧xs.length≤sizeLine∧(a==sysModules)=false∧s.heap.DictOfH (rowsKind X.prog X.w) a xs:=by
 obtain⟨xs,r,hl,hm,o,es,ep,h1,h2,h3,h4,h5⟩:=(show ObjOk X.prog X.w H s.heap a (rabO a kvs) from I.hok a _ e).1
 refine⟨xs,r,hl,hm,o,es,ep,h1,h2,h3,h4,fun x hx=>?_,h5⟩
 obtain⟨p,hp,q1,q2,_⟩:=uv r x hx
 have:=pL I (hk p hp)
 rw[← q1,← q2];exact this
theorem pM {P:Program}{w:World}{H':Hp}{h':Heap}(h:rabφ a kvs h'):ObjOk P w H' h' a (rabO a kvs):=by
 refine⟨h,?_,fun h1 h2 ⟨xs,r,hl,hm,o,es,ep,g1,g⟩ kk=>⟨xs,r,hl,hm,o,es,ep,kk o g1,g⟩⟩
 obtain⟨xs,r,hl,hm,o,es,ep,g1,g⟩:=h
 exact⟨o,g1⟩
theorem rN {v:V}{u:Value}{Q:Unit→Shared→Prop}(hu:A.units+1+1 < cLine)(I:Inv X pins σ H s)(e:H a=some (rabO a kvs))(hk:KeysR X.K H kvs)(hb:SqR X.K H b ks)(rv:RelV v u)(hl:kvs.length < 1000000)(h:∀ s',Inv X pins σ (upd H a (rabO a (rput kvs ks b v))) s'→Q () s') :
  wpAny (model X.prog X.w) A (setItem (.ref a) (.ref b) u) Q E s:=by
 obtain⟨xs,r,hl',hm,dd⟩:=mx I e hk
 refine wpAny_setItem_heap (hsz:=hl') (show A.units+1+1 < cLine from hu) (pL I hb) dd fun h' dd' hs=>h _ ?_
 obtain⟨q,es,ep,hq,h2,h3,h4,_,h5⟩:=dd'
 have rp:=wA (ks:=ks) (b:=b) rv r
 refine iC I (by rw[e];exact True.intro) hs ⟨q,hq⟩ (pM ⟨_,rp,?_,hm,q,es,ep,hq,h2,h3,h4,h5⟩)
 rw[← mi rp,sizeLine_eq]
 have:=uE (kvs:=kvs) (ks:=ks) (b:=b) (v:=v)
 omega
theorem rP {xs:List RKU}(hm:(a==sysModules)=false):MeetsIn X.prog X.w (Builtin.«dict.__len__» ⟨[.ref a],[]⟩) (fun _ R s=>s.heap.DictOfH (rowsKind X.prog X.w) a xs∧R (.ok (.ret (.int xs.length s.toks))) { s with toks:=s.toks+1 }) :=
 .of_wp fun A R s ⟨dd,h⟩=>by
  obtain⟨o,es,ep,g1,g2,g3,g4,_⟩:=dd
  have en:es.size=xs.length:=size_of_entries g4
  show wpAny _ _ (dictSize a >>= _) _ _ s
  unfold dictSize
  refine wpAny_bind (wpAny_bind (wpAny_dictEntries g1 g3 (wpAny_pure ?_)))
  show wpAny _ _ (Builtin.Dict.pendingCount a >>= _) _ _ s
  refine wpAny_bind (wpAny_pendingCount_other hm (wpAny_ret_mkInt ?_))
  rw[en]
  exact h
theorem zp {Q:Value→Shared→Prop}(I:Inv X pins σ H s)(e:H a=some (rabO a kvs))(hk:KeysR X.K H kvs)(h:∀ t s',Inv X pins σ H s'→Q (.int kvs.length t) s'):wpAny (model X.prog X.w) A (call (.builtin "len") [.ref a]) Q E s:=by
 obtain⟨xs,r,hl,hm,dd⟩:=mx I e hk
 have hz:xs.length < 2^63:=by rw[sizeLine_eq]at hl;omega
 rw[mi r]at h
 refine Calls.call_function_entry PySem.kind_len PySem.plain_len PySem.entry_len (PySem.args_len1 _) ?_
 unfold Builtin.«len»
 refine wpAny_bind (m:=oneArg "len" _) (wpAny_pure (wpAny_bind (m:=callSpecial? (.ref a) (Str.ofString "__len__")) (wpAny_callSpecial?_slot (name:=Str.ofString "__len__") dd.typeIs PySem.F.slot_dict_len
  (call_meetsIn PySem.F.slot_dict_len dd.typeIs PySem.F.entry_dict_len (PySem.F.args_dict_len_1 _) (rP hm) ⟨dd,?_⟩))))
 show wpAny _ _ _ _ _ { s with toks:=s.toks+1 }
 refine wpAny_bind (wpAny_holding (wpAny_pure (wpAny_bind (wpAny_letGo ?_))))
 show wpAny _ _ (if ((xs.length:Nat):Int) < 0 then _ else _) _ _ _
 rw[if_neg (by omega)]
 show wpAny _ _ (if ((xs.length:Nat):Int)≥2^63 then _ else _) _ _ _
 rw[if_neg (by omega)]
 exact wpAny_bind (wpAny_mkInt (wpAny_pure ⟨_,rfl,h _ _ (I.tok _)⟩))
end
section
variable {X:Cx}{pos:Pos}{o i e value:Expr}{td ty tv:TE}{pos':Pos}
theorem wB:PE X (.Dict [] [] pos) (fun _ H Q=>∀ p,H p=none→Q (.ref p) (upd H p (rabO p []))):=fun pins s σ H Q I h =>
 wpAny_Dict_empty ⟨.ref s.heap.objs.size,_,I.laid (a:=s.heap.objs.size) (o:=rabO s.heap.objs.size []) (t':=s.toks) (fun _ _ q=>Heap.get?_push_of_some _ q) (Nat.le_refl _)
  (pM ⟨[],.nil,Nat.zero_le _,beq_eq_false_iff_ne.mpr (Ne.symm (Nat.ne_of_lt I.big)),_,#[],0,Heap.get?_push_size _ rfl,⟨rfl,rfl,rfl⟩,rfl,rfl,List.nodup_nil⟩),rfl,h _ (I.hok.fresh (Nat.le_refl _))⟩
theorem wC (hu:X.A.units+1+1 < cLine)(ho:PE X o td)(hi:PE X i ty)(hv:PE X value tv)(hs:swapsWith value (some (.Subscript o i pos')) pos.line X.env=pure false):PS X (.Assign [.Subscript o i pos'] value pos)
  (fun D σ H=>tv σ H fun v H1=>td σ H1 fun x H2=>ty σ H2 fun y H3=>∃ a b kvs ks,x=.ref a∧y=.ref b∧H3 a=some (rabO a kvs)∧KeysR X.K H3 kvs∧SqR X.K H3 b ks∧kvs.length < 1000000∧D.nx σ (upd H3 a (rabO a (rput kvs ks b v)))):=by
 intro pins s σ H D I h
 refine wpAny_Assign_Subscript (thn (hv pins s σ H _ I h) fun r s1 ⟨v,H1,I1,rv,q1⟩=>thn (ho pins s1 σ H1 _ I1 q1) fun u s2 ⟨x,H2,I2,rx,q2⟩=>thn (hi pins s2 σ H2 _ I2 q2) fun iv s3 ⟨y,H3,I3,ry,a,b,kvs,ks,ex,ey,g1,g2,g3,g4,q3⟩=>?_) hs
 subst ex;subst ey
 cases (show u=Value.ref a from rx)
 cases (show iv=Value.ref b from ry)
 exact rN hu I3 g1 g2 g3 rv g4 fun s4 I4=>⟨σ,_,I4,q3⟩
end
def rowsI:List D→Option (List (List Int))
 | []=>some []
 | d::ds=>match tupI? d with
  | some ks=>match rowsI ds with
   | some kss=>some (ks::kss)
   | none=>none
  | none=>none
def rowI?:D→Option (List (List Int))
 | .tup ds=>rowsI ds
 | _=>none
def oRSt (m:List (List (List Int)×D))(k d:D):R (List (List (List Int)×D)):=match rowI? k with
 | some k=>if m.length < 1000000 then .ok (dicPut m k d) else .stuck
 | none=>.stuck
structure RabOk (F:Fx)(Z:Hp)(m:List (List (List Int)×D))(kvs:List RKV):Prop where
 ks:kvs.map (·.1)=m.map (·.1)
 at_:KeysR F.K Z kvs
 vs:Reps F.K F.C Z (m.map (·.2)) (kvs.map (·.2.2))
section
variable {F:Fx}{Z Z':Hp}{m:List (List (List Int)×D)}{kvs:List RKV}{ks:List (List Int)}{d:D}{v:V}{b:Addr}
theorem RabOk.mono (h:RabOk F Z m kvs)(z:Same Z Z'):RabOk F Z' m kvs:=⟨h.ks,fun x hx=>(h.at_ x hx).mono z,h.vs.mono z⟩
theorem RabOk.nil:RabOk F Z [] []:=⟨rfl,(fun x hx=>nomatch hx),Reps.nil⟩
theorem RabOk.cons (h:RabOk F Z m kvs)(hb:SqR F.K Z b ks)(r:Rep F.K F.C Z d v):RabOk F Z ((ks,d)::m) ((ks,b,v)::kvs) :=
 ⟨by rw[List.map_cons,List.map_cons,h.ks],fun x hx=>(List.mem_cons.mp hx).elim (fun z=>by rw[z];exact hb) (h.at_ x),Reps.cons r h.vs⟩
theorem RabOk.inv {k:List (List Int)×D}(h:RabOk F Z (k::m) kvs):∃ b v r,kvs=(k.1,b,v)::r∧SqR F.K Z b k.1∧Rep F.K F.C Z k.2 v∧RabOk F Z m r:=by
 cases kvs with
 | nil=>have:=h.ks;cases this
 | cons p r =>
  obtain⟨k',b,v⟩:=p
  obtain⟨h1,h2,h3⟩:=h
  rw[List.map_cons,List.map_cons]at h1
  injection h1 with h1 h4
  have q:=h2 _ (.head _)
  obtain⟨r1,r2⟩:=Reps.uncons h3
  cases (show k'=k.1 from h1)
  exact⟨b,v,r,rfl,q,r1,h4,fun x hx=>h2 x (.tail _ hx),r2⟩
theorem RabOk.inv0 (h:RabOk F Z [] kvs):kvs=[]:=by
 cases kvs with
 | nil=>rfl
 | cons p r=>have:=h.ks;cases this
theorem RabOk.any:∀ {m:List (List (List Int)×D)} {kvs:List RKV},RabOk F Z m kvs→(kvs.any fun p=>decide (p.1=ks))=(m.any fun p=>decide (p.1=ks))
 | [],kvs,h=>by rw[h.inv0];rfl
 | k::m,kvs,h=>by
  obtain⟨b,v,r,rfl,_,_,h2⟩:=h.inv
  rw[List.any_cons,List.any_cons,h2.any]
theorem RabOk.len (h:RabOk F Z m kvs):kvs.length=m.length:=by have:=congrArg List.length h.ks;simpa using this
theorem RabOk.upd (r:Rep F.K F.C Z d v):∀ {m:List (List (List Int)×D)} {kvs:List RKV},RabOk F Z m kvs→RabOk F Z (m.map fun p=>if p.1=ks then (p.1,d) else p) (kvs.map fun p=>if p.1=ks then (p.1,p.2.1,v) else p)
 | [],kvs,h=>by rw[h.inv0];exact RabOk.nil
 | k::m,kvs,h=>by
  obtain⟨b,u,q,rfl,h0,h1,h2⟩:=h.inv
  rw[List.map_cons,List.map_cons]
  by_cases hk:k.1=ks
  ·rw[if_pos hk,if_pos (show (k.1,b,u).1=ks from hk)]
   exact(h2.upd r).cons h0 r
  ·rw[if_neg hk,if_neg (show ¬ (k.1,b,u).1=ks from hk)]
   obtain⟨k1,k2⟩:=k
   exact(h2.upd r).cons h0 h1
theorem RabOk.snoc (r:Rep F.K F.C Z d v)(hb:SqR F.K Z b ks):∀ {m:List (List (List Int)×D)} {kvs:List RKV},RabOk F Z m kvs→RabOk F Z (m++[(ks,d)]) (kvs++[(ks,b,v)])
 | [],kvs,h=>by rw[h.inv0];exact RabOk.nil.cons hb r
 | k::m,kvs,h=>by
  obtain⟨b',u,q,rfl,h0,h1,h2⟩:=h.inv
  obtain⟨k1,k2⟩:=k
  exact(h2.snoc r hb).cons h0 h1
theorem RabOk.put (h:RabOk F Z m kvs)(r:Rep F.K F.C Z d v)(hb:SqR F.K Z b ks):RabOk F Z (dicPut m ks d) (rput kvs ks b v):=by
 unfold dicPut rput
 rw[h.any]
 split
 ·exact h.upd r
 ·exact h.snoc r hb
theorem kn {K:PySem.W.Frag}{C:Nat→Addr}:∀ {ds:List D} {kss:List (List Int)} {vs:List V},rowsI ds=some kss→Reps K C Z ds vs→∃ as:List Addr,vs=as.map V.ref∧RowsT K Z as kss
 | [],kss,vs,e,r=>by cases e;rw[Reps]at r;subst r;exact⟨[],rfl,True.intro⟩
 | d::ds,kss,vs,e,r=>by
  rw[Reps]at r
  obtain⟨v,vs,rfl,r1,r2⟩:=r
  unfold rowsI at e
  cases e1:tupI? d with
  | none=>rw[e1]at e;cases e
  | some ks =>
   rw[e1]at e
   cases e2:rowsI ds with
   | none=>rw[e2]at e;cases e
   | some kss' =>
    rw[e2]at e
    cases e
    obtain⟨b,rfl,hb⟩:=uw e1 r1
    obtain⟨as,rfl,q⟩:=kn e2 r2
    exact⟨b::as,rfl,hb,q⟩
theorem uF {K:PySem.W.Frag}{C:Nat→Addr}{k:D}{y:V}(e:rowI? k=some ks)(r:Rep K C Z k y):∃ b,y=.ref b∧SqR K Z b ks:=by
 cases k with
 | tup ds =>
  rw[Rep]at r
  obtain⟨a,vs,rfl,h1,h2⟩:=r
  obtain⟨as,rfl,q⟩:=kn e h2
  exact⟨a,rfl,as,h1,q⟩
 | _=>cases e
end
abbrev dr (m:List (List (List Int)×D)):Option Sl:=some (.dir m)
def sRNew (i:Nat):SS→O:=fun S=>.nx (S.set i (some (.dir [])))
def sRSt (i:Nat)(gi ge:SS→R D):SS→O:=fun S=>match S[i]? with
 | some (some (.dir m))=>rO (((ge S).bind fun v=>(gi S).bind fun k=>oRSt m k v).bind fun m'=>.ok (.nx (S.set i (some (.dir m')))))
 | _=>.stuck
def eRLen (i:Nat):SS→R D:=fun S=>match S[i]? with
 | some (some (.dir m))=>.ok (.int (m.length:Nat))
 | _=>.stuck
section
variable {F:Fx}{H Z:Hp}{S:SS}{σ:St}
theorem StOk.dir (h:StOk F H Z S σ)(i:Nat)(m:List (List (List Int)×D))(e:S[i]?=some (some (.dir m))):∃ a kvs,σ[i]?=some (some (.ref a))∧H a=some (rabO a kvs)∧RabOk F Z m kvs:=by
 obtain⟨v,A,e1,⟨a,kvs,rfl,rfl,e2,r1,r2,r3⟩,_⟩:=h.sl i _ e
 exact⟨a,kvs,e1,e2,r1,r2,r3⟩
end
section
variable {X:Cx}{F:Fx}{pos p p0:Pos}{k:Nat}{g ge:SS→R D}{e ei:Expr}{x:Str}
theorem rQ (i:Nat){pos':Pos}(hN:X.N.Nodup)(hi:X.N[i]?=some x:=by rfl)(hx:Loc X.env.scope x:=by first | exact Or.inl rfl | exact Or.inr rfl)(hs:swapsWith (.Dict [] [] p) (some (.Name x pos')) pos.line X.env=pure false:=by rfl)
  (hf:X.fn x=true∨X.env.scope.names.lookup x=some .local:=by first | exact .inl rfl | exact .inr rfl):FS X F (.Assign [.Name x pos'] (.Dict [] [] p) pos) (sRNew i) :=
 (gn hN hi hx wB hs hf).weak fun D σ H ⟨Z,S,ok,w⟩=>fun a hp=>by
  have w2:WO F Z (.nx (S.set i (some (.dir [])))) D:=w
  exact w2 _ _ Z (Same.refl _) (ok.putNew (x:=.dir []) (A:=[a]) (Ex.hidden ok.sub hp) ⟨a,[],rfl,rfl,aj,rfl,(fun x hx=>nomatch hx),Reps.nil⟩ ⟨by simp,fun b hb=>by cases List.mem_singleton.mp hb;exact ok.sub.free hp,fun b hb=>by cases List.mem_singleton.mp hb;exact ok.ex.same.free hp⟩ fun b hb=>by cases List.mem_singleton.mp hb;exact hp)
theorem uG (i:Nat){pos':Pos}(bx:BX X F k)(he:FE X F e ge)(hix:FE X F ei g)(hi:X.N[i]?=some x:=by rfl)(hv:Vis X.env.scope x:=by first | exact Or.inl rfl | exact Or.inr (Or.inl rfl) | exact Or.inr (Or.inr rfl))(hd:(x==("__debug__":Str))=false:=by decide)
  (hcd:(x==("__classdict__":Str))=false:=by decide) (hs:swapsWith e (some (.Subscript (.Name x p0) ei pos')) pos.line X.env=pure false:=by rfl) :
  FS X F (.Assign [.Subscript (.Name x p0) ei pos'] e pos) (sRSt i g ge) :=
 (wC (X:=X) (by have:=bx.room.un;omega) (ci hi hv hd hcd) hix he hs).weak fun D σ H ⟨Z,S,ok,w⟩=>by
  unfold sRSt at w
  split at w
  ·rename_i m e0
   have w0:=WO.wg ok w
   rw[R.bind_assoc]at w0
   refine aA ok w0 fun d v H1 Z1 ok1 x1 rv w1=>?_
   obtain⟨a,kvs,e1,e2,r⟩:=ok1.dir i m e0
   rw[R.bind_assoc]at w1
   refine⟨.ref a,e1,aA ok1 w1 fun dk y H2 Z2 ok2 x2 ry w2=>?_⟩
   unfold oRSt at w2
   split at w2
   ·rename_i ks ek
    split at w2
    ·rename_i hl
     obtain⟨b,rfl,hb⟩:=uF ek ry
     have e3:=x2.same _ _ e2
     have r2:=r.mono x2.z
     have rp:=r2.put (rv.mono x2.z) hb
     refine⟨a,b,kvs,ks,rfl,rfl,e3,by rw[bx.K];exact fun x hx=>(r2.at_ x hx).mono ok2.sub,by rw[bx.K];exact hb.mono ok2.sub,by rw[r2.len];exact hl,?_⟩
     have w3:=WG.now w2 ok2.sub
     exact w3 σ _ Z2 (Same.refl _) (ok2.rewr (x:=.dir m) (x':=.dir (dicPut m ks d)) (A:=[a]) e0 e1 ⟨a,kvs,rfl,rfl,e3,r2.ks,r2.at_,r2.vs⟩ ⟨a,_,rfl,rfl,aj,rp.ks,rp.at_,rp.vs⟩ fun b hb=>ag (fun z=>hb (by rw[z];exact List.mem_singleton.mpr rfl)))
    ·exact w2.elim
   ·exact w2.elim
  ·exact w.elim
theorem rR (hK:X.K=F.K):CallR X (.builtin "len") (fun xs H Q=>∃ a kvs,xs=[.ref a]∧H a=some (rabO a kvs)∧KeysR F.K H kvs∧Q (.int (kvs.length:Nat)) H):=by
 intro pins s σ H xs us Q I r h
 obtain⟨a,kvs,rfl,g1,g2,q⟩:=h
 obtain⟨u,rfl,ru⟩:=vals1 r
 cases ru
 exact zp I g1 (by rw[hK];exact g2) fun t s' I'=>⟨.int (kvs.length:Nat),H,I',⟨t,rfl⟩,q⟩
theorem oa (i:Nat)(bx:BX X F k)(hg:Gl X "len")(hm:X.mg "len"=none)(hi:X.N[i]?=some x:=by rfl)(hv:Vis X.env.scope x:=by first | exact Or.inl rfl | exact Or.inr (Or.inl rfl) | exact Or.inr (Or.inr rfl))(hd:(x==("__debug__":Str))=false:=by decide)
  (hcd:(x==("__classdict__":Str))=false:=by decide) (he:starEach [.Name x p0] X.env=(false,eval (.Name x p0) X.env)::starEach [] X.env:=by rfl) (hpl:(backTo pos (starEach [] X.env)).any (·.1)=false:=by rfl) :
  FE X F (.Call (.Name "len" p) [.Name x p0] [] pos) (eRLen i) :=
 (cI (rR bx.K) hg hm (by decide +kernel) (d5 (ci hi hv hd hcd) iF he) (he:=he) (hpl:=hpl)).weak fun σ H Q ⟨Z,S,ok,w⟩=>by
  unfold eRLen at w
  split at w
  ·rename_i m e0
   obtain⟨a,kvs,e1,e2,r⟩:=ok.dir i m e0
   refine⟨.ref a,e1,a,kvs,rfl,e2,fun x hx=>(r.at_ x hx).mono ok.sub,?_⟩
   rw[r.len]
   exact WG.now w ok.sub _ aF
  ·exact w.elim
end
section
variable {X:Cx}{F:Fx}{iter:Expr}{scope:Scope}{N:List Str}{own:Nat}{cap:List Nat}{pos:Pos}{git:SS→R (List D)}
theorem rS {k:Nat}(i:Nat){y r:Str}{py spos pl pr tp pc:Pos}(bx:BX X F k)(b:BlkOk X.N X.env.scope scope N own cap)(hi:FI X F (.Name r tp) iter git)(hown:0 < own)
  (hg:∀ cl C s H fp,PG (blk X scope cl C s H fp N) (.Name r tp) (gName 0)) (he:∀ cl C s H fp,PE (blk X scope cl C s H fp N) (.Call (.Name "list" pl) [.Name r pr] [] pc) (tCB (rLst F.K) (tCons (tVar 0) tNil))) (hN:X.N.Nodup)
  (hsw:swapsWith (.ListComp (.Call (.Name "list" pl) [.Name r pr] [] pc) [⟨.Name r tp,iter,[],0⟩] scope pos) (some (.Name y py)) spos.line X.env=pure false:=by rfl) (hiy:X.N[i]?=some y:=by rfl) (hy:Loc X.env.scope y:=by first | exact Or.inl rfl | exact Or.inr rfl)
  (hfn:X.fn y=true∨X.env.scope.names.lookup y=some .local:=by first | exact .inl rfl | exact .inr rfl) (hs:∀ x,foldedSetIterable iter X.env x=pure x:=by intro _;rfl) :
  FS X F (.Assign [.Name y py] (.ListComp (.Call (.Name "list" pl) [.Name r pr] [] pc) [⟨.Name r tp,iter,[],0⟩] scope pos) spos) (sMatOf i git) :=
 (gn hN hiy hy (kO (ifs:=[]) (tc:=tT (noE F) tTrue) b bx.calm (by simp) hi hg (fun c q=>nomatch q) he hs) hsw hfn).weak fun D σ H ⟨Z,S,ok,w⟩=>ug hown ok w
end
end FF
end
noncomputable section
namespace Lw
open PySem FF
def esL:List Nat:=[1,2]
namespace F
abbrev au:Nat:=20
abbrev ag:Nat:=21
abbrev aE:Nat:=22
abbrev ar:Nat:=23
abbrev aq:Nat:=24
abbrev aj:Nat:=25
abbrev an:Nat:=26
abbrev av:Nat:=43
abbrev al:Nat:=44
abbrev aA:Nat:=27
abbrev af:Nat:=28
abbrev aF:Nat:=45
abbrev ax:Nat:=49
abbrev ac:Nat:=50
abbrev aM:Nat:=51
abbrev aJ:Nat:=52
abbrev aP:Nat:=53
abbrev aN:Nat:=29
abbrev ak:Nat:=69
abbrev aG:Nat:=70
abbrev aR:Nat:=125
abbrev aK:Nat:=84
abbrev aC:Nat:=127
abbrev aD:Nat:=128
abbrev aB:Nat:=129
abbrev aO:Nat:=130
abbrev aI:Nat:=131
abbrev ay:Nat:=137
abbrev ai:Nat:=138
abbrev ad:Nat:=139
abbrev aL:Nat:=140
abbrev aV:Nat:=141
abbrev aQ:Nat:=142
abbrev aa:Nat:=143
abbrev aS:Nat:=30
abbrev ab:Nat:=31
abbrev ao:Nat:=32
abbrev ae:Nat:=33
abbrev ap:Nat:=54
abbrev aw:Nat:=55
abbrev aH:Nat:=56
abbrev aT:Nat:=57
abbrev ah:Nat:=133
abbrev aU:Nat:=144
abbrev az:Nat:=145
end F
def fvL:List Nat:=[21]
def fc (t:Nat→List D→R D)(thing:D):L Unit :=
 lB (vAnd (dIsA qInt thing) (vNot (dIsA qBool thing))) .rt
def c8 (t:Nat→List D→R D)(thing:D):L Unit :=
 lB (vAnd (t F.au [thing]) (rCh dLe dLe (.int 0) thing (.ok (.int 9)))) .rt
def eD (t:Nat→List D→R D)(thing:D):L Unit :=
 lB (vAnd (t F.au [thing]) (rCh dLe dLe (.int 0) thing (.ok (.int 3)))) .rt
def cL (t:Nat→List D→R D)(size_:D)(thing:D)(is_end:D):L Unit :=
 lS (lB (σ:=Unit) (rNot (asB (dIsA qTup thing))) fun b=>if b=true then lB (onF fvL is_end fun i=>t i [thing]) .rt else .nx ()) fun _ =>
 lS (lB (σ:=Unit) (rOr (asB (dEq size_ (.int 0))) (asB ((dLen [thing]).bind fun x=>dNf x (.int 4)))) fun b1=>if b1=true then .rt (.bl false) else .nx ()) fun _ =>
 lB (((sq thing).bind fun xs=>cMap (fun part=>(dSub size_ (.int 1)).bind fun x1=>t F.ar [x1,part,is_end]) xs).bind fun x2=>dAll [x2]) .rt
def bd (t:Nat→List D→R D)(thing:D)(is_end:D):L Unit :=
 lS (lB (σ:=Unit) (rOr (rNot (asB (dIsA qTup thing))) (asB ((dLen [thing]).bind fun x=>dNf x (.int 2)))) fun b=>if b=true then .rt (.bl false) else .nx ()) fun _ =>
 lB (vAnd ((dIx thing (.int 0)).bind fun x3=>t F.aE [x3]) ((dIx thing (.int 0)).bind fun x1=>(dIx thing (.int 1)).bind fun x2=>t F.ar [x1,x2,is_end])) .rt
def bq (t:Nat→List D→R D)(four:D):L Unit :=
 lB (dIx four (.int 0)) fun first =>
 lS (lB (σ:=Unit) (rAnd (rNot (asB (dIsA qTup first))) (asB (dEq four (.tup [first,first,first,first])))) fun b=>if b=true then .rt first else .nx ()) fun _ =>
 .rt four
def bM (t:Nat→List D→R D)(tree_:D):L Unit :=
 lS (lB (σ:=Unit) (rNot (asB (dIsA qTup tree_))) fun b=>if b=true then .rt tree_ else .nx ()) fun _ =>
 lB ((((sq tree_).bind fun xs=>cMap (fun part=>t F.an [part]) xs).bind fun x=>dTuple [x]).bind fun x1=>t F.aj [x1]) .rt
def cj (t:Nat→List D→R D)(tree_:D)(side:D)(x:D)(y:D):L Unit :=
 lS (lB (σ:=Unit) (rNot (asB (dIsA qTup tree_))) fun b=>if b=true then .rt tree_ else .nx ()) fun _ =>
 lB (dDiv side (.int 2)) fun half =>
 lB (((dDiv y half).bind fun x1=>dMul (.int 2) x1).bind fun x2=>(dDiv x half).bind fun x3=>dAdd x2 x3) fun number =>
 lB ((dIx tree_ number).bind fun x4=>(dMod x half).bind fun x5=>(dMod y half).bind fun x6=>t F.av [x4,half,x5,x6]) .rt
def cM (t:Nat→List D→R D)(rows:D)(left:D)(top:D)(side:D):L Unit :=
 lS (lB (σ:=Unit) (asB (dEq side (.int 1))) fun b=>if b=true then lB ((dIx rows top).bind fun x=>dIx x left) .rt else .nx ()) fun _ =>
 lB (dDiv side (.int 2)) fun half =>
 lB (((t F.al [rows,left,top,half]).bind fun x1=>((dAdd left half).bind fun x2=>t F.al [rows,x2,top,half]).bind fun x3=>((dAdd top half).bind fun x4=>t F.al [rows,left,x4,half]).bind fun x5=>((dAdd left half).bind fun x6=>(dAdd top half).bind fun x7=>t F.al [rows,x6,x7,half]).bind fun x8=>.ok (.tup [x1,x3,x5,x8])).bind fun x9=>t F.aj [x9]) .rt
def b7 (t:Nat→List D→R D)(thing:D):L Unit :=
 lB (t F.aq [thing,(.fn F.ag)]) .rt
def bf (t:Nat→List D→R D)(thing:D):L Unit :=
 lB (rNot (asB (t F.aA [thing]))) fun b=>if b=true then .er 1 else .nx ()
def eE (t:Nat→List D→R D)(picture:D):L Unit :=
 lB ((dIx picture (.int 0)).bind fun x=>dIx (tupI [1,2,4,8]) x) .rt
def cA (t:Nat→List D→R D)(picture:D)(y:D):L Unit :=
 lB (t F.aF [picture]) fun side =>
 lB (((rng1 [side]).bind fun xs=>cMap (fun x=>(dIx picture (.int 1)).bind fun x1=>t F.av [x1,side,x,y]) xs).bind fun x2=>dTuple [x2]) .rt
def b8 (t:Nat→List D→R D)(picture:D):L Unit :=
 lB (t F.af [picture]) fun _ =>
 lB ((((t F.aF [picture]).bind fun x=>rng1 [x]).bind fun xs=>cMap (fun y=>t F.ax [picture,y]) xs).bind fun x1=>dTuple [x1]) .rt
def fL (t:Nat→List D→R D)(thing:D)(side:D):L Unit :=
 lS (lB (σ:=Unit) (rOr (rNot (asB (dIsA qTup thing))) (asB ((dLen [thing]).bind fun x=>dNf x side))) fun b=>if b=true then .rt (.bl false) else .nx ()) fun _ =>
 lB (((sq thing).bind fun xs=>cMap (fun worth=>t F.ag [worth]) xs).bind fun x1=>dAll [x1]) .rt
def c9 (t:Nat→List D→R D)(thing:D):L Unit :=
 lS (lB (σ:=Unit) (rOr (rNot (asB (dIsA qTup thing))) (asB ((dLen [thing]).bind fun x=>dNotInD x (tupI [1,2,4,8])))) fun b=>if b=true then .rt (.bl false) else .nx ()) fun _ =>
 lB (((sq thing).bind fun xs=>cMap (fun row=>(dLen [thing]).bind fun x1=>t F.aM [row,x1]) xs).bind fun x2=>dAll [x2]) .rt
def eF (t:Nat→List D→R D)(rows:D):L Unit :=
 lS (lB (σ:=Unit) (rNot (asB (t F.aJ [rows]))) fun b=>if b=true then .er 1 else .nx ()) fun _ =>
 lB (dLen [rows]) fun side =>
 lB ((onT (tupI [1,2,4,8]) fun ls=>dIndexI ls [side]).bind fun x=>(t F.al [rows,(.int 0),(.int 0),side]).bind fun x1=>.ok (.tup [x,x1])) .rt
def k6 (t:Nat→List D→R D)(picture:D):L Unit :=
 lB (t F.af [picture]) fun _ =>
 lB ((dIx picture (.int 0)).bind fun x=>((dIx picture (.int 1)).bind fun x1=>t F.an [x1]).bind fun x2=>.ok (.tup [x,x2])) .rt
def br (t:Nat→List D→R D)(tree_:D)(order:D):L Unit :=
 lS (lB (σ:=Unit) (rNot (asB (dIsA qTup tree_))) fun b=>if b=true then .rt tree_ else .nx ()) fun _ =>
 lB (((sq order).bind fun xs=>cMap (fun number=>(dIx tree_ number).bind fun x=>t F.ak [x,order]) xs).bind fun x1=>dTuple [x1]) .rt
def iD (t:Nat→List D→R D)(picture:D)(order:D):L Unit :=
 lB (t F.aN [picture]) fun shown =>
 lB ((dIx shown (.int 0)).bind fun x=>((dIx shown (.int 1)).bind fun x1=>t F.ak [x1,order]).bind fun x2=>.ok (.tup [x,x2])) .rt
def fM (t:Nat→List D→R D)(picture:D):L Unit :=
 lB (t F.aG [picture,(tupI [2,0,3,1])]) .rt
def da (t:Nat→List D→R D)(picture:D):L Unit :=
 lB (t F.aG [picture,(tupI [1,0,3,2])]) .rt
def cB (t:Nat→List D→R D)(thing:D):L Unit :=
 lB (rOr (rNot (asB (t F.au [thing]))) (rNot (asB (rCh dLe dLt (.int 0) thing (.ok (.int 8)))))) fun b=>if b=true then .er 2 else .nx ()
def cC (t:Nat→List D→R D)(told:D)(step:D):L (D) :=
 lB (t F.aR [told]) fun told1 =>
 .nx told1
def fN (t:Nat→List D→R D)(picture:D)(way:D):L Unit :=
 lB (t F.aN [picture]) fun told =>
 lB (t F.aC [way]) fun _ =>
 lS (lB (σ:=D) (asB (dGe way (.int 4))) fun b=>if b=true then lB (t F.aK [told]) fun told1 =>
 .nx told1 else .nx told) fun told2 =>
 lS (lB ((dMod way (.int 4)).bind fun x=>rng1 [x]) fun xs=>lFor (τ:=D) (fun s x=>cC t s x) xs told2) fun told4 =>
 .rt told4
def de (t:Nat→List D→R D)(picture:D):L Unit :=
 lB ((rng1 [(.int 8)]).bind fun xs=>cMapE (fun way=>t F.aD [picture,way]) xs) .rt
def k7 (t:Nat→List D→R D)(side:D)(step:D):L (D) :=
 lB (dMul side (.int 2)) fun side1 =>
 .nx side1
def ko (t:Nat→List D→R D)(size_:D):L Unit :=
 lS (lB (rng1 [size_]) fun xs=>lFor (τ:=D) (fun s x=>k7 t s x) xs (.int 1)) fun side1 =>
 .rt side1
def gN (t:Nat→List D→R D)(last:D)(spot:D)(step:D):L (D) :=
 lB (((dIx spot (.int 1)).bind fun x=>dSub last x).bind fun x1=>(dIx spot (.int 0)).bind fun x2=>.ok (.tup [x1,x2])) fun spot1 =>
 .nx spot1
def eV (t:Nat→List D→R D)(size_:D)(way:D)(x:D)(y:D):L Unit :=
 lB ((t F.aO [size_]).bind fun x1=>dSub x1 (.int 1)) fun last =>
 lS (lB (σ:=D) (asB (dGe way (.int 4))) fun b=>if b=true then lB ((dSub last x).bind fun x2=>.ok (.tup [x2,y])) fun spot =>
 .nx spot else .nx (.tup [x,y])) fun spot1 =>
 lS (lB ((dMod way (.int 4)).bind fun x3=>rng1 [x3]) fun xs=>lFor (τ:=D) (fun s x=>gN t last s x) xs spot1) fun spot3 =>
 .rt spot3
def eG (t:Nat→List D→R D)(one:D)(other:D):L Unit :=
 lB (t F.aB [one]) fun told =>
 lB (t F.aN [other]) fun aim =>
 lB ((rng1 [(.int 8)]).bind fun xs=>cFil (fun way=>(asB ((dIx told way).bind fun x=>dEq x aim))) (fun way=>.ok way) xs) .rt
def eJ (t:Nat→List D→R D)(one:D)(other:D):L Unit :=
 lB (((t F.ay [one,other]).bind fun x=>dLen [x]).bind fun x1=>dGt x1 (.int 0)) .rt
def cD (t:Nat→List D→R D)(picture:D):L Unit :=
 lB ((t F.aB [picture]).bind fun x=>dMinK (t F.ac) x) .rt
def dE (t:Nat→List D→R D)(size_:D)(way:D)(x:D)(y:D)(spot:D):L (D) :=
 lS (lB (σ:=Unit) (asB (dLtD spot (.tup [x,y]))) fun b=>if b=true then .rt (.bl false) else .nx ()) fun _ =>
 lB ((dIx spot (.int 0)).bind fun x1=>(dIx spot (.int 1)).bind fun x2=>t F.aI [size_,way,x1,x2]) fun spot1 =>
 .nx spot1
def df (t:Nat→List D→R D)(size_:D)(way:D)(x:D)(y:D)(spot:D):R Bool :=
 (asB (dNf spot (.tup [x,y])))
def cm (t:Nat→List D→R D)(size_:D)(way:D)(x:D)(y:D):L Unit :=
 lB (t F.aI [size_,way,x,y]) fun spot =>
 lS (lWh (τ:=D) (fun s=>df t size_ way x y s) (fun s=>dE t size_ way x y s) 10 spot) fun spot2 =>
 .rt (.bl true)
def og (t:Nat→List D→R D)(size_:D)(way:D)(y:D)(many:D)(x:D):L (D) :=
 lB (asB (t F.aL [size_,way,x,y])) fun b=>if b=true then lB (dAdd many (.int 1)) fun many1 =>
 .nx many1 else .nx many
def oh (t:Nat→List D→R D)(size_:D)(way:D)(many:D)(y:D):L (D) :=
 lS (lB ((t F.aO [size_]).bind fun x=>rng1 [x]) fun xs=>lFor (τ:=D) (fun s x=>og t size_ way y s x) xs many) fun many2 =>
 .nx many2
def pN (t:Nat→List D→R D)(size_:D)(way:D):L Unit :=
 lS (lB ((t F.aO [size_]).bind fun x=>rng1 [x]) fun xs1=>lFor (τ:=D) (fun s x=>oh t size_ way s x) xs1 (.int 0)) fun many2 =>
 .rt many2
def fe (t:Nat→List D→R D)(worths:D)(many:D)(step:D):L (D) :=
 lB (dMul many worths) fun many1 =>
 .nx many1
def dC (t:Nat→List D→R D)(size_:D)(worths:D)(way:D):L Unit :=
 lS (lB ((t F.aV [size_,way]).bind fun x=>rng1 [x]) fun xs=>lFor (τ:=D) (fun s x=>fe t worths s x) xs (.int 1)) fun many1 =>
 .rt many1
def cN (t:Nat→List D→R D)(size_:D)(worths:D):L Unit :=
 lB ((((rng1 [(.int 8)]).bind fun xs=>cMap (fun way=>t F.aQ [size_,worths,way]) xs).bind fun x=>dSum [x]).bind fun x1=>dDiv x1 (.int 8)) .rt
def fO (t:Nat→List D→R D)(zA:D)(zY:D):L Unit :=
 lS (lB (σ:=Unit) (asB ((dLen [zA]).bind fun x=>dLt zY x)) fun b=>if b=true then lB (dIx zA zY) .rt else .nx ()) fun _ =>
 lS (lB (σ:=Unit) (asB (dEq zA (.lst []))) fun b1=>if b1=true then .rt (.int 0) else .nx ()) fun _ =>
 lB (((((dLen [zA]).bind fun x1=>dMod zY x1).bind fun x2=>dIx zA x2).bind fun x3=>dMul x3 (.int 31)).bind fun x4=>dAdd x4 zY) .rt
def fP (t:Nat→List D→R D)(zA:D)(zY:D)(Ad:D):L Unit :=
 lB ((((t F.aS [zA,zY]).bind fun x=>((dAdd zY (.int 1)).bind fun x1=>dMul (.int 6151) x1).bind fun x2=>dAdd x x2).bind fun x3=>dMul x3 (.int 40692)).bind fun x4=>dMod x4 (.int 2147483399)) fun Ao =>
 lB ((((dMul Ao Ao).bind fun x5=>(dDiv Ao (.int 31)).bind fun x6=>dAdd x5 x6).bind fun x7=>dMod x7 (.int 2147483629)).bind fun x8=>dMod x8 Ad) .rt
def dJ (t:Nat→List D→R D)(zA:D)(Aj:D)(zG:D):L Unit :=
 lB (t F.ab [zA,Aj,(.int 6)]) fun zC =>
 lS (lB (σ:=Unit) (rOr (asB (dEq zG (.int 0))) (asB (dLt zC (.int 2)))) fun b=>if b=true then lB ((((dAdd Aj (.int 1)).bind fun x=>t F.ab [zA,x,(.int 10)]).bind fun x1=>.ok (.lst [(.int 0),(.int 1),(.int 1),(.int 2),(.int 9),x1])).bind fun x2=>((dAdd Aj (.int 2)).bind fun x3=>t F.ab [zA,x3,(.int 6)]).bind fun x4=>dIx x2 x4) .rt else .nx ()) fun _ =>
 lS (lB (σ:=Unit) (asB (dEq zC (.int 2))) fun b1=>if b1=true then lB ((((dAdd Aj (.int 3)).bind fun x5=>(dSub zG (.int 1)).bind fun x6=>t F.ao [zA,x5,x6]).bind fun x7=>.ok (.tup [x7])).bind fun x8=>dMul x8 (.int 4)) .rt else .nx ()) fun _ =>
 lB (((rng1 [(.int 4)]).bind fun xs=>cMap (fun zY=>(((dMul (.int 5) Aj).bind fun x9=>dAdd x9 (.int 7)).bind fun x10=>(dMul (.int 11) zY).bind fun x11=>dAdd x10 x11).bind fun x12=>(dSub zG (.int 1)).bind fun x13=>t F.ao [zA,x12,x13]) xs).bind fun x14=>dTuple [x14]) .rt
def cE (t:Nat→List D→R D)(zA:D)(Aj:D)(AA:D):L Unit :=
 lB ((((t F.ab [zA,Aj,(.int 7)]).bind fun x=>dIx (.lst [(.int 0),(.int 0),(.int 0),(.int 1),(.int 1),(.int 2),(.int 3)]) x).bind fun x1=>dSub AA x1).bind fun x2=>dMax2 [(.int 0),x2]) fun zG =>
 lB (((dAdd Aj (.int 1)).bind fun x3=>t F.ao [zA,x3,zG]).bind fun x4=>.ok (.tup [zG,x4])) .rt
def cq (t:Nat→List D→R D)(zQ:D)(Ak:List D)(AB:D):L (List D) :=
 lB (((((dIx zQ AB).bind fun x=>dLen [x]).bind fun x1=>rng1 [x1]).bind fun xs=>cMap (fun zY=>((dIx zQ AB).bind fun x2=>dIx x2 zY).bind fun x3=>(((dAdd AB (.int 1)).bind fun x4=>dIx zQ x4).bind fun x5=>dIx x5 zY).bind fun x6=>dAdd x3 x6) xs).bind fun x7=>oExt Ak x7) fun Ac =>
 .nx Ac
def bN (t:Nat→List D→R D)(zG:D)(zP:D):L Unit :=
 lS (lB (σ:=Unit) (asB (dEq zG (.int 0))) fun b=>if b=true then .rt (.lst [(.lst [zP])]) else .nx ()) fun _ =>
 lB (rIf (asB (dIsA qTup zP)) (.ok zP) (dMul (.tup [zP]) (.int 4))) fun zU =>
 lB ((sq zU).bind fun xs=>cMap (fun AE=>(dSub zG (.int 1)).bind fun x=>t F.ap [x,AE]) xs) fun zQ =>
 lS (lB (sq (.tup [(.int 0),(.int 2)])) fun xs2=>lFor (τ:=List D) (fun s x=>cq t zQ s x) xs2 []) fun Ac =>
 .rt (.lst Ac)
def fQ (t:Nat→List D→R D)(Ah:D):L Unit :=
 lB (((((dIx Ah (.int 0)).bind fun x=>(dIx Ah (.int 1)).bind fun x1=>t F.ap [x,x1]).bind fun x2=>sq x2).bind fun xs=>cMap (fun Aa=>dTuple [Aa]) xs).bind fun x3=>dTuple [x3]) .rt
def b9 (t:Nat→List D→R D)(zE:List D)(Aa:D):L (List D) :=
 lB (oExt zE Aa) fun zR =>
 .nx zR
def dg (t:Nat→List D→R D)(zB:D)(zW:D)(AD:D)(zU:List D)(zZ:D):L (List D) :=
 lB ((((((asI AD).bind fun i=>((dAdd AD zW).bind asI).bind fun i1=>dSw zB i i1).bind fun x=>sq x).bind fun xs=>cMap (fun Aa=>(asI zZ).bind fun i2=>((dAdd zZ zW).bind asI).bind fun i3=>dSw Aa i2 i3) xs).bind fun x1=>t F.aH [x1]).bind fun x2=>oApp zU x2) fun AF =>
 .nx AF
def dh (t:Nat→List D→R D)(zB:D)(zW:D)(zU:List D)(AD:D):L (List D) :=
 lS (lB (sq (.tup [(.int 0),zW])) fun xs1=>lFor (τ:=List D) (fun s x=>dg t zB zW AD s x) xs1 zU) fun Ap =>
 .nx Ap
def cO (t:Nat→List D→R D)(zB:D):L Unit :=
 lS (lB (sq zB) fun xs=>lFor (τ:=List D) (fun s x=>b9 t s x) xs []) fun zR =>
 lS (lB (σ:=Unit) (asB ((dLenSet [(.lst zR)]).bind fun x1=>dEq x1 (.int 1))) fun b=>if b=true then lB (dIx (.lst zR) (.int 0)) .rt else .nx ()) fun _ =>
 lB ((dLen [zB]).bind fun x2=>dDiv x2 (.int 2)) fun zW =>
 lS (lB (sq (.tup [(.int 0),zW])) fun xs3=>lFor (τ:=List D) (fun s x=>dh t zB zW s x) xs3 []) fun Ap =>
 lB (dTuple [(.lst Ap)]) .rt
def k8 (t:Nat→List D→R D)(zB:D):L Unit :=
 lB ((onL (.lst [(.int 1),(.int 2),(.int 4),(.int 8)]) fun ls=>(dLen [zB]).bind fun x=>dIndexI ls [x]).bind fun x1=>(t F.aH [zB]).bind fun x2=>.ok (.tup [x1,x2])) .rt
def bJ (t:Nat→List D→R D)(zJ:D)(zB:D)(AJ:D):L (D) :=
 lB (((rng1 [zJ]).bind fun xs=>cMap (fun Az=>((rng1 [zJ]).bind fun xs1=>cMap (fun AC=>(((dSub zJ (.int 1)).bind fun x=>dSub x AC).bind fun x1=>dIx zB x1).bind fun x2=>dIx x2 Az) xs1).bind fun x3=>dTuple [x3]) xs).bind fun x4=>dTuple [x4]) fun Ae =>
 .nx Ae
def di (t:Nat→List D→R D)(zB:D)(zC:D):L Unit :=
 lB (dLen [zB]) fun zJ =>
 lS (lB (σ:=D) (asB (dGe zC (.int 4))) fun b=>if b=true then lB (((sq zB).bind fun xs=>cMap (fun Aa=>dRev Aa) xs).bind fun x=>dTuple [x]) fun Ae =>
 .nx Ae else .nx zB) fun Al =>
 lS (lB ((dMod zC (.int 4)).bind fun x1=>rng1 [x1]) fun xs3=>lFor (τ:=D) (fun s x=>bJ t zJ s x) xs3 Al) fun As =>
 .rt As
def jM (t:Nat→List D→R D)(zM:D)(zO:D)(Az:D)(Af:List (L2.Key×D))(AC:D):L (List (L2.Key×D)) :=
 lB (((dIx zO Az).bind fun x=>dIx x AC).bind fun x1=>((dIx zM Az).bind fun x2=>dIx x2 AC).bind fun x3=>oDSt Af x3 x1) fun AH=>.nx AH
def jN (t:Nat→List D→R D)(zJ:D)(zM:D)(zO:D)(Af:List (L2.Key×D))(Az:D):L (List (L2.Key×D)) :=
 lS (lB (rng1 [zJ]) fun xs=>lFor (τ:=List (L2.Key×D)) (fun s x=>jM t zM zO Az s x) xs Af) fun zX =>
 .nx zX
def jO (t:Nat→List D→R D)(Af:D)(zZ:List D)(Am:D):L (List D×D) :=
 lB (oRem zZ Am) fun Aq =>
 lB (dDx Af Am) fun Au =>
 .nx (Aq,Au)
def i6 (t:Nat→List D→R D)(Af:D)(zZ:List D)(Am:D):R Bool :=
 (asB (dInD Am (.lst zZ)))
def jP (t:Nat→List D→R D)(Af:D)(Ad:D)(zZ:List D):L (D×List D) :=
 lB (dAdd Ad (.int 1)) fun AK =>
 lB (oIx zZ (.int 0)) fun Am =>
 lS (lWh (τ:=List D×D) (fun s=>i6 t Af s.1 s.2) (fun s=>jO t Af s.1 s.2) 100 (zZ,Am)) fun s1 =>
 .nx (AK,s1.1)
def i7 (t:Nat→List D→R D)(Af:D)(Ad:D)(zZ:List D):R Bool :=
 (asB (dNf (.lst zZ) (.lst [])))
def i8 (t:Nat→List D→R D)(zJ:D)(zC:D):L Unit :=
 lB (((rng1 [zJ]).bind fun xs=>cMap (fun Az=>((rng1 [zJ]).bind fun xs1=>cMap (fun AC=>(dMul zJ Az).bind fun x=>dAdd x AC) xs1).bind fun x1=>dTuple [x1]) xs).bind fun x2=>dTuple [x2]) fun zM =>
 lB (t F.ah [zM,zC]) fun zO =>
 lS (lB (rng1 [zJ]) fun xs3=>lFor (τ:=List (L2.Key×D)) (fun s x=>jN t zJ zM zO s x) xs3 []) fun zX =>
 lB ((dListK [(dicD zX)]).bind fun x9=>oSortZ [x9]) fun zZ=>lS (lWh (τ:=D×List D) (fun s=>i7 t (dicD zX) s.1 s.2) (fun s=>jP t (dicD zX) s.1 s.2) 100 ((.int 0),zZ)) fun s5 =>
 .rt s5.1
def fR (t:Nat→List D→R D)(zE:D)(Av:List (List (List Int)×D))(AI:D):L (List (List (List Int)×D)) :=
 lB ((rng1 [(.int 4)]).bind fun xs=>cMap (fun zY=>((((dMul zE zE).bind fun x=>((dMul zE zE).bind fun x1=>dMul x1 zE).bind fun x2=>.ok (.lst [(.int 1),zE,x,x2])).bind fun x3=>dIx x3 zY).bind fun x4=>dDiv AI x4).bind fun x5=>dMod x5 zE) xs) fun zQ =>
 lB ((((rng1 [(.int 8)]).bind fun xs1=>cMap (fun AG=>(((dSw zQ none (some 2)).bind fun x6=>dTuple [x6]).bind fun x7=>((dSw zQ (some 2) none).bind fun x8=>dTuple [x8]).bind fun x9=>.ok (.tup [x7,x9])).bind fun x10=>t F.ah [x10,AG]) xs1).bind fun x11=>dMinD [x11]).bind fun x12=>oRSt Av x12 (.bl true)) fun zV=>.nx zV
def k9 (t:Nat→List D→R D)(zE:D)(Ak:D)(AJ:D):L (D) :=
 lB (dMul Ak zE) fun Ac =>
 .nx Ac
def fT (t:Nat→List D→R D)(zE:D)(zG:D)(Aw:D)(zY:D):L (D) :=
 lS (lB (((dIx (.lst [(.int 1),(.int 2),(.int 4),(.int 8)]) zG).bind fun x=>t F.aU [x,zY]).bind fun x1=>rng1 [x1]) fun xs=>lFor (τ:=D) (fun s x=>k9 t zE s x) xs (.int 1)) fun Ac =>
 lB (dAdd Aw Ac) fun Ar =>
 .nx Ar
def eL (t:Nat→List D→R D)(zA:D):L Unit :=
 lB (t F.ae [zA,(.int 0),(.int 2)]) fun zK =>
 lB (t F.aw [zK]) fun zL =>
 lB (t F.ab [zA,(.int 5000),(.int 8)]) fun zC =>
 lB (t F.aD [zK,zC]) fun Ax =>
 lS (lB (σ:=D) (asB ((t F.ab [zA,(.int 5001),(.int 3)]).bind fun x=>dEq x (.int 0))) fun b=>if b=true then lB (t F.ae [zA,(.int 5100),(.int 2)]) fun Ag =>
 .nx Ag else .nx Ax) fun Ab =>
 lS (lB (σ:=D) (asB ((t F.ab [zA,(.int 5002),(.int 3)]).bind fun x1=>dEq x1 (.int 0))) fun b1=>if b1=true then lB (((t F.aw [Ab]).bind fun x2=>sq x2).bind sqsL) fun zQ=>lB ((t F.ab [zA,(.int 5003),(.int 3)]).bind fun x3=>(mIx zQ (.int (-1))).bind fun q=>mStA zQ q (.int 0) x3) fun Ai=>lB ((((sq (.lst (Ai.map .lst))).bind fun xs=>cMap (fun Aa=>dTuple [Aa]) xs).bind fun x4=>dTuple [x4]).bind fun x5=>t F.aT [x5]) fun An =>
 .nx An else .nx Ab) fun zH =>
 lB (t F.aw [zH]) fun zN =>
 lB ((rng1 [(.int 8)]).bind fun xs1=>cFil (fun zY=>(asB ((t F.ah [zL,zY]).bind fun x6=>dEq x6 zN))) (fun zY=>.ok zY) xs1) fun zT =>
 lS (lB (σ:=Unit) (rOr (asB ((t F.ay [zK,zH]).bind fun x11=>dNf x11 zT)) (rOr (asB ((t F.ai [zK,zH]).bind fun x9=>(dNf zT (.lst [])).bind fun x10=>dNf x9 x10)) (asB ((t F.ai [zH,zK]).bind fun x7=>(dNf zT (.lst [])).bind fun x8=>dNf x7 x8)))) fun b2=>if b2=true then .rt (.bl false) else .nx ()) fun _ =>
 lB (((rng1 [(.int 8)]).bind fun xs2=>cMap (fun AG=>t F.ah [zL,AG]) xs2).bind fun x12=>dMinD [x12]) fun zF =>
 lS (lB (σ:=Unit) (rOr (asB (((t F.ad [zK]).bind fun x17=>t F.ac [x17]).bind fun x18=>dNf x18 zF)) (asB (((t F.ad [zK]).bind fun x13=>(t F.ad [zH]).bind fun x14=>dEq x13 x14).bind fun x15=>(dNf zT (.lst [])).bind fun x16=>dNf x15 x16))) fun b3=>if b3=true then .rt (.bl false) else .nx ()) fun _ =>
 lS (lB (σ:=Unit) (asB (((t F.aD [zK,zC]).bind fun x19=>t F.ad [x19]).bind fun x20=>(t F.ad [zK]).bind fun x21=>dNf x20 x21)) fun b4=>if b4=true then .rt (.bl false) else .nx ()) fun _ =>
 lB ((t F.ab [zA,(.int 5004),(.int 3)]).bind fun x22=>dAdd (.int 1) x22) fun zE =>
 lS (lB ((((dMul zE zE).bind fun x23=>dMul x23 zE).bind fun x24=>dMul x24 zE).bind fun x25=>rng1 [x25]) fun xs5=>lFor (τ:=List (List (List Int)×D)) (fun s x=>fR t zE s x) xs5 []) fun zV =>
 lS (lB (σ:=Unit) (rOr (asB ((t F.aa [(.int 1),zE]).bind fun x41=>dNf x41 (.int (zV.length:Nat)))) (asB ((t F.aa [(.int 0),zE]).bind fun x40=>dNf x40 zE))) fun b5=>if b5=true then .rt (.bl false) else .nx ()) fun _ =>
 lB ((((t F.ab [zA,(.int 5005),(.int 6)]).bind fun x42=>dEq x42 (.int 0)).bind fun x43=>dIntB [x43]).bind fun x44=>dAdd (.int 2) x44) fun zG =>
 lS (lB (rng1 [(.int 8)]) fun xs7=>lFor (τ:=D) (fun s x=>fT t zE zG s x) xs7 (.int 0)) fun Ar =>
 lB (vAnd (((t F.aa [zG,zE]).bind fun x51=>dMul x51 (.int 8)).bind fun x52=>dEq x52 Ar) (((t F.aP [zL]).bind fun x49=>t F.ai [zK,x49]).bind fun x50=>dIs x50 (.bl true))) .rt
def pf:Nat→Nat→List D→R D
 | 0,_=>fun _=>.stuck
 | n+1,i=>match i with
  | 20=>a1 (fc (pf n))
  | 21=>a1 (c8 (pf n))
  | 22=>a1 (eD (pf n))
  | 23=>a3 (cL (pf n))
  | 24=>a2 (bd (pf n))
  | 25=>a1 (bq (pf n))
  | 26=>a1 (bM (pf n))
  | 43=>a4 (cj (pf n))
  | 44=>a4 (cM (pf n))
  | 27=>a1 (b7 (pf n))
  | 28=>a1 (bf (pf n))
  | 45=>a1 (eE (pf n))
  | 49=>a2 (cA (pf n))
  | 50=>a1 (b8 (pf n))
  | 51=>a2 (fL (pf n))
  | 52=>a1 (c9 (pf n))
  | 53=>a1 (eF (pf n))
  | 29=>a1 (k6 (pf n))
  | 69=>a2 (br (pf n))
  | 70=>a2 (iD (pf n))
  | 125=>a1 (fM (pf n))
  | 84=>a1 (da (pf n))
  | 127=>a1 (cB (pf n))
  | 128=>a2 (fN (pf n))
  | 129=>a1 (de (pf n))
  | 130=>a1 (ko (pf n))
  | 131=>a4 (eV (pf n))
  | 137=>a2 (eG (pf n))
  | 138=>a2 (eJ (pf n))
  | 139=>a1 (cD (pf n))
  | 140=>a4 (cm (pf n))
  | 141=>a2 (pN (pf n))
  | 142=>a3 (dC (pf n))
  | 143=>a2 (cN (pf n))
  | 30=>a2 (fO (pf n))
  | 31=>a3 (fP (pf n))
  | 32=>a3 (dJ (pf n))
  | 33=>a3 (cE (pf n))
  | 54=>a2 (bN (pf n))
  | 55=>a1 (fQ (pf n))
  | 56=>a1 (cO (pf n))
  | 57=>a1 (k8 (pf n))
  | 133=>a2 (di (pf n))
  | 144=>a2 (i8 (pf n))
  | 145=>a1 (eL (pf n))
  | _=>fun _=>.stuck
theorem my (n:Nat)(a0:D):pf (n+1) F.au [a0]=outL (fc (pf n) a0):=rfl
theorem mz (n:Nat)(a0:D):pf (n+1) F.ag [a0]=outL (c8 (pf n) a0):=rfl
theorem oi (n:Nat)(a0:D):pf (n+1) F.aE [a0]=outL (eD (pf n) a0):=rfl
theorem i9 (n:Nat)(a0 a1 a2:D):pf (n+1) F.ar [a0,a1,a2]=outL (cL (pf n) a0 a1 a2):=rfl
theorem gO (n:Nat)(a0 a1:D):pf (n+1) F.aq [a0,a1]=outL (bd (pf n) a0 a1):=rfl
theorem iw (n:Nat)(a0:D):pf (n+1) F.aj [a0]=outL (bq (pf n) a0):=rfl
theorem fU (n:Nat)(a0:D):pf (n+1) F.an [a0]=outL (bM (pf n) a0):=rfl
theorem il (n:Nat)(a0 a1 a2 a3:D):pf (n+1) F.av [a0,a1,a2,a3]=outL (cj (pf n) a0 a1 a2 a3):=rfl
theorem ja (n:Nat)(a0 a1 a2 a3:D):pf (n+1) F.al [a0,a1,a2,a3]=outL (cM (pf n) a0 a1 a2 a3):=rfl
theorem jQ (n:Nat)(a0:D):pf (n+1) F.aA [a0]=outL (b7 (pf n) a0):=rfl
theorem gP (n:Nat)(a0:D):pf (n+1) F.af [a0]=outL (bf (pf n) a0):=rfl
theorem oj (n:Nat)(a0:D):pf (n+1) F.aF [a0]=outL (eE (pf n) a0):=rfl
theorem lb (n:Nat)(a0 a1:D):pf (n+1) F.ax [a0,a1]=outL (cA (pf n) a0 a1):=rfl
theorem jR (n:Nat)(a0:D):pf (n+1) F.ac [a0]=outL (b8 (pf n) a0):=rfl
theorem rT (n:Nat)(a0 a1:D):pf (n+1) F.aM [a0,a1]=outL (fL (pf n) a0 a1):=rfl
theorem mB (n:Nat)(a0:D):pf (n+1) F.aJ [a0]=outL (c9 (pf n) a0):=rfl
theorem om (n:Nat)(a0:D):pf (n+1) F.aP [a0]=outL (eF (pf n) a0):=rfl
theorem wD (n:Nat)(a0:D):pf (n+1) F.aN [a0]=outL (k6 (pf n) a0):=rfl
theorem eW (n:Nat)(a0 a1:D):pf (n+1) F.ak [a0,a1]=outL (br (pf n) a0 a1):=rfl
theorem uH (n:Nat)(a0 a1:D):pf (n+1) F.aG [a0,a1]=outL (iD (pf n) a0 a1):=rfl
theorem rV (n:Nat)(a0:D):pf (n+1) F.aR [a0]=outL (fM (pf n) a0):=rfl
theorem mC (n:Nat)(a0:D):pf (n+1) F.aK [a0]=outL (da (pf n) a0):=rfl
theorem lc (n:Nat)(a0:D):pf (n+1) F.aC [a0]=outL (cB (pf n) a0):=rfl
theorem rW (n:Nat)(a0 a1:D):pf (n+1) F.aD [a0,a1]=outL (fN (pf n) a0 a1):=rfl
theorem mD (n:Nat)(a0:D):pf (n+1) F.aB [a0]=outL (de (pf n) a0):=rfl
theorem on (n:Nat)(a0 a1:D):pf (n+1) F.ay [a0,a1]=outL (eG (pf n) a0 a1):=rfl
theorem oo (n:Nat)(a0 a1:D):pf (n+1) F.ai [a0,a1]=outL (eJ (pf n) a0 a1):=rfl
theorem lg (n:Nat)(a0:D):pf (n+1) F.ad [a0]=outL (cD (pf n) a0):=rfl
theorem rX (n:Nat)(a0 a1:D):pf (n+1) F.aS [a0,a1]=outL (fO (pf n) a0 a1):=rfl
theorem rY (n:Nat)(a0 a1 a2:D):pf (n+1) F.ab [a0,a1,a2]=outL (fP (pf n) a0 a1 a2):=rfl
theorem kq (n:Nat)(a0 a1 a2:D):pf (n+1) F.ao [a0,a1,a2]=outL (dJ (pf n) a0 a1 a2):=rfl
theorem li (n:Nat)(a0 a1 a2:D):pf (n+1) F.ae [a0,a1,a2]=outL (cE (pf n) a0 a1 a2):=rfl
theorem fV (n:Nat)(a0 a1:D):pf (n+1) F.ap [a0,a1]=outL (bN (pf n) a0 a1):=rfl
theorem rZ (n:Nat)(a0:D):pf (n+1) F.aw [a0]=outL (fQ (pf n) a0):=rfl
theorem jb (n:Nat)(a0:D):pf (n+1) F.aH [a0]=outL (cO (pf n) a0):=rfl
theorem wE (n:Nat)(a0:D):pf (n+1) F.aT [a0]=outL (k8 (pf n) a0):=rfl
theorem mE (n:Nat)(a0 a1:D):pf (n+1) F.ah [a0,a1]=outL (di (pf n) a0 a1):=rfl
theorem oq (n:Nat)(a0:D):pf (n+1) F.az [a0]=outL (eL (pf n) a0):=rfl
end Lw
end
noncomputable section
set_option maxHeartbeats 4000000
namespace Lw
open PySem PySem.Spec PyProof.Rows L2 FF
def top (i:Nat):Stmt:=PySem.Challenge.pw_fourfold_k31_whole_kin.main.body.getD i (.Pass ⟨0,0,0,0⟩)
abbrev fg:Stmt:=top 7
theorem mF:FnScope ["thing"] ["thing"] (defScope fg):=mkSc
abbrev fi:Stmt:=top 8
theorem mG:FnScope ["thing"] ["thing"] (defScope fi):=mkSc
abbrev gQ:Stmt:=top 9
theorem ot:FnScope ["thing"] ["thing"] (defScope gQ):=mkSc
abbrev gR:Stmt:=top 10
theorem ou:FnScope ["size","thing","is_end"] ["size","thing","is_end"] (defScope gR):=mkSc
abbrev bU:Stmt:=top 11
theorem gT:FnScope ["thing","is_end"] ["thing","is_end"] (defScope bU):=mkSc
abbrev cr:Stmt:=top 12
theorem dD:FnScope ["four","first"] ["four"] (defScope cr):=mkSc
abbrev dL:Stmt:=top 13
theorem lj:FnScope ["tree"] ["tree"] (defScope dL):=mkSc
abbrev fj:Stmt:=top 14
theorem dM:FnScope ["tree","side","x","y","half","number"] ["tree","side","x","y"] (defScope fj):=mkSc
abbrev gU:Stmt:=top 15
theorem jc:FnScope ["rows","left","top","side","half"] ["rows","left","top","side"] (defScope gU):=mkSc
abbrev dn:Stmt:=top 18
theorem jS:FnScope ["thing"] ["thing"] (defScope dn):=mkSc
abbrev bV:Stmt:=top 19
theorem gW:FnScope ["thing"] ["thing"] (defScope bV):=mkSc
abbrev gX:Stmt:=top 20
theorem oy:FnScope ["picture"] ["picture"] (defScope gX):=mkSc
abbrev dN:Stmt:=top 21
theorem fW:FnScope ["picture","y","side"] ["picture","y"] (defScope dN):=mkSc
abbrev dq:Stmt:=top 22
theorem jT:FnScope ["picture"] ["picture"] (defScope dq):=mkSc
abbrev jd:Stmt:=top 23
theorem r6:FnScope ["thing","side"] ["thing","side"] (defScope jd):=mkSc
abbrev fk:Stmt:=top 24
theorem mH:FnScope ["thing"] ["thing"] (defScope fk):=mkSc
abbrev gY:Stmt:=top 25
theorem je:FnScope ["rows","side"] ["rows"] (defScope gY):=mkSc
abbrev oz:Stmt:=top 26
theorem wF:FnScope ["picture"] ["picture"] (defScope oz):=mkSc
abbrev du:Stmt:=top 32
theorem jU:FnScope ["tree","order"] ["tree","order"] (defScope du):=mkSc
abbrev ll:Stmt:=top 33
theorem mI:FnScope ["picture","order","shown"] ["picture","order"] (defScope ll):=mkSc
abbrev jf:Stmt:=top 34
theorem r8:FnScope ["picture"] ["picture"] (defScope jf):=mkSc
abbrev fm:Stmt:=top 35
theorem mJ:FnScope ["picture"] ["picture"] (defScope fm):=mkSc
abbrev dO:Stmt:=top 36
theorem lm:FnScope ["thing"] ["thing"] (defScope dO):=mkSc
abbrev jg:Stmt:=top 37
theorem cP:FnScope ["picture","way","told","step"] ["picture","way"] (defScope jg):=mkSc
abbrev fq:Stmt:=top 38
theorem mK:FnScope ["picture"] ["picture"] (defScope fq):=mkSc
abbrev gZ:Stmt:=top 39
theorem dv:FnScope ["size","side","step"] ["size"] (defScope gZ):=mkSc
abbrev cH:Stmt:=top 40
theorem aX:FnScope ["size","way","x","y","last","spot","step"] ["size","way","x","y"] (defScope cH):=mkSc
abbrev g5:Stmt:=top 41
theorem ft:FnScope ["one","other","told","aim"] ["one","other"] (defScope g5):=mkSc
abbrev g6:Stmt:=top 42
theorem oA:FnScope ["one","other"] ["one","other"] (defScope g6):=mkSc
abbrev dP:Stmt:=top 43
theorem lp:FnScope ["picture"] ["picture"] (defScope dP):=mkSc
abbrev bi:Stmt:=top 44
theorem bb:FnScope ["size","way","x","y","spot"] ["size","way","x","y"] (defScope bi):=mkSc
abbrev lq:Stmt:=top 45
theorem dQ:FnScope ["size","way","many","y","x"] ["size","way"] (defScope lq):=mkSc
abbrev bW:Stmt:=top 46
theorem ba:FnScope ["size","worths","way","many","step"] ["size","worths","way"] (defScope bW):=mkSc
abbrev bH:Stmt:=top 47
theorem fX:FnScope ["size","worths"] ["size","worths"] (defScope bH):=mkSc
abbrev jh:Stmt:=top 49
theorem r9:FnScope ["_law_script","_law_k"] ["_law_script","_law_k"] (defScope jh):=mkSc
abbrev ji:Stmt:=top 50
theorem kr:FnScope ["_law_script","_law_k","_law_many","_law_drawn"] ["_law_script","_law_k","_law_many"] (defScope ji):=mkSc
abbrev jj:Stmt:=top 51
theorem ku:FnScope ["_law_script","_law_at","_law_size","_law_way"] ["_law_script","_law_at","_law_size"] (defScope jj):=mkSc
abbrev dR:Stmt:=top 52
theorem fY:FnScope ["_law_script","_law_at","_law_most","_law_size"] ["_law_script","_law_at","_law_most"] (defScope dR):=mkSc
abbrev dU:Stmt:=top 53
theorem bu:FnScope ["_law_size","_law_tree_here","_law_parts","_law_some","_law_made","_law_upper"] ["_law_size","_law_tree_here"] (defScope dU):=mkSc
abbrev jk:Stmt:=top 54
theorem sd:FnScope ["_law_picture_here"] ["_law_picture_here"] (defScope jk):=mkSc
abbrev g7:Stmt:=top 55
theorem bj:FnScope ["_law_rows_here","_law_worths","_law_row","_law_half","_law_parts","_law_top","_law_left"] ["_law_rows_here"] (defScope g7):=mkSc
abbrev oB:Stmt:=top 56
theorem wG:FnScope ["_law_rows_here"] ["_law_rows_here"] (defScope oB):=mkSc
abbrev fu:Stmt:=top 57
theorem bO:FnScope ["_law_rows_here","_law_way","_law_side","_law_again"] ["_law_rows_here","_law_way"] (defScope fu):=mkSc
abbrev fv:Stmt:=top 58
theorem aH:FnScope ["_law_side","_law_way","_law_marks","_law_goals","_law_book","_law_y","_law_x","_law_many","_law_left","_law_spot"] ["_law_side","_law_way"] (defScope fv):=mkSc
abbrev aZ:Stmt:=top 59
theorem ay:FnScope ["_law_script","_law_one","_law_mine","_law_way","_law_other","_law_some","_law_yours","_law_due","_law_least_here","_law_worths","_law_kinds","_law_number","_law_size","_law_whole","_law_k","_law_made","_law_again"] ["_law_script"] (defScope aZ):=mkSc
structure Txt (K:PySem.W.Frag)(mg:Str→Option Value)(C:Nat→Addr)(wP:Params):Prop where
 b_all:mg "all"=none
 b_bool:mg "bool"=none
 b_int:mg "int"=none
 b_isinstance:mg "isinstance"=none
 b_len:mg "len"=none
 b_list:mg "list"=none
 b_max:mg "max"=none
 b_min:mg "min"=none
 b_range:mg "range"=none
 b_set:mg "set"=none
 b_sorted:mg "sorted"=none
 b_sum:mg "sum"=none
 b_tuple:mg "tuple"=none
 k_GREATEST_WORTH:∃ t,mg "GREATEST_WORTH"=some (.int 9 t)
 k_LARGEST_SIZE:∃ t,mg "LARGEST_SIZE"=some (.int 3 t)
 k_TURNS:∃ t,mg "TURNS"=some (.int 4 t)
 k_WAYS:∃ t,mg "WAYS"=some (.int 8 t)
 t_BY_MIRRORING:∃ a,mg "BY_MIRRORING"=some (.ref a)∧TupK K a [1,0,3,2]
 t_BY_TURNING:∃ a,mg "BY_TURNING"=some (.ref a)∧TupK K a [2,0,3,1]
 t_SIDES:∃ a,mg "SIDES"=some (.ref a)∧TupK K a [1,2,4,8]
 f_is_worth:mg "is_worth"=some (.ref (C F.ag))
 c_FourError:mg "FourError"=some (.ref (C 0))
 c_NoPicture:mg "NoPicture"=some (.ref (C 1))
 c_NoSpot:mg "NoSpot"=some (.ref (C 2))
 x_NoPicture:PySem.W.excIn K (C 1) bmVE "ValueError.__new__"=true
 x_NoSpot:PySem.W.excIn K (C 2) bmVE "ValueError.__new__"=true
 takes:Takes K C (C 0) (qTk esL)
structure Tab (P:Program)(w:World)(K:PySem.W.Frag)(mg:Str→Option Value)(base:Heap)(C:Nat→Addr)(k:Nat)(t:Nat→List FF.D→FF.R FF.D):Prop where
 g20:Fn1 P w K mg base C k "is_whole" ["thing"] (t F.au)
 g21:Fn1 P w K mg base C k "is_worth" ["thing"] (t F.ag)
 g22:Fn1 P w K mg base C k "is_size" ["thing"] (t F.aE)
 g23:Fn1 P w K mg base C k "is_tree" ["size","thing","is_end"] (t F.ar)
 g24:Fn1 P w K mg base C k "is_sized_tree" ["thing","is_end"] (t F.aq)
 g25:Fn1 P w K mg base C k "put_together" ["four"] (t F.aj)
 g26:Fn1 P w K mg base C k "lean_tree" ["tree"] (t F.an)
 g43:Fn1 P w K mg base C k "worth_in" ["tree","side","x","y"] (t F.av)
 g44:Fn1 P w K mg base C k "tree_of" ["rows","left","top","side"] (t F.al)
 g27:Fn1 P w K mg base C k "is_picture" ["thing"] (t F.aA)
 g28:Fn1 P w K mg base C k "check_picture" ["thing"] (t F.af)
 g45:Fn1 P w K mg base C k "side_of" ["picture"] (t F.aF)
 g49:Fn1 P w K mg base C k "shown_row" ["picture","y"] (t F.ax)
 g50:Fn1 P w K mg base C k "shown_rows" ["picture"] (t F.ac)
 g51:Fn1 P w K mg base C k "is_row" ["thing","side"] (t F.aM)
 g52:Fn1 P w K mg base C k "are_rows" ["thing"] (t F.aJ)
 g53:Fn1 P w K mg base C k "of_rows" ["rows"] (t F.aP)
 g29:Fn1 P w K mg base C k "lean" ["picture"] (t F.aN)
 g69:Fn1 P w K mg base C k "moved_tree" ["tree","order"] (t F.ak)
 g70:Fn1 P w K mg base C k "moved" ["picture","order"] (t F.aG)
 g125:Fn1 P w K mg base C k "turned" ["picture"] (t F.aR)
 g84:Fn1 P w K mg base C k "mirrored" ["picture"] (t F.aK)
 g127:Fn1 P w K mg base C k "check_way" ["thing"] (t F.aC)
 g128:Fn1 P w K mg base C k "by_way" ["picture","way"] (t F.aD)
 g129:Fn1 P w K mg base C k "all_ways" ["picture"] (t F.aB)
 g130:Fn1 P w K mg base C k "side_at" ["size"] (t F.aO)
 g131:Fn1 P w K mg base C k "spot_behind" ["size","way","x","y"] (t F.aI)
 g137:Fn1 P w K mg base C k "ways_to" ["one","other"] (t F.ay)
 g138:Fn1 P w K mg base C k "are_kin" ["one","other"] (t F.ai)
 g139:Fn1 P w K mg base C k "least_way" ["picture"] (t F.ad)
 g140:Fn1 P w K mg base C k "is_first_of_ring" ["size","way","x","y"] (t F.aL)
 g141:Fn1 P w K mg base C k "rings" ["size","way"] (t F.aV)
 g142:Fn1 P w K mg base C k "how_many_kept" ["size","worths","way"] (t F.aQ)
 g143:Fn1 P w K mg base C k "how_many_kinds" ["size","worths"] (t F.aa)
 g30:Fn1 P w K mg base C k "_law_cell" ["_law_script","_law_k"] (t F.aS)
 g31:Fn1 P w K mg base C k "_law_pick" ["_law_script","_law_k","_law_many"] (t F.ab)
 g32:Fn1 P w K mg base C k "_law_tree" ["_law_script","_law_at","_law_size"] (t F.ao)
 g33:Fn1 P w K mg base C k "_law_picture" ["_law_script","_law_at","_law_most"] (t F.ae)
 g54:Fn1 P w K mg base C k "_law_rows_of" ["_law_size","_law_tree_here"] (t F.ap)
 g55:Fn1 P w K mg base C k "_law_rows" ["_law_picture_here"] (t F.aw)
 g56:Fn1 P w K mg base C k "_law_least" ["_law_rows_here"] (t F.aH)
 g57:Fn1 P w K mg base C k "_law_of" ["_law_rows_here"] (t F.aT)
 g133:Fn1 P w K mg base C k "_law_by_way" ["_law_rows_here","_law_way"] (t F.ah)
 g144:Fn1 P w K mg base C k "_law_rounds" ["_law_side","_law_way"] (t F.aU)
 g145:Fn1 P w K mg base C k "law" ["_law_script"] (t F.az)
 v:∀ i∈fvL,FnV P w K mg base C k i (t i)
section
variable {P:Program}{w:World}{K:PySem.W.Frag}{mg:Str→Option Value}{base:Heap}{C:Nat→Addr}{k:Nat}{t:Nat→List FF.D→FF.R FF.D}(T:Txt K mg C w.params)(G:Tab P w K mg base C k t)
include T G
theorem mL:OkD P w K mg base C k "is_whole" fg ["thing"] (a1 (fc t)):=ok1 mF fun thing _ _ _ _ _ _ _ _ bx _ _=>by
 show FL _ _ [vv thing] _ _ _
 refine az (ak (iK (aV bx rfl T.b_isinstance vS (ac 0) (bo rfl T.b_int (by decide +kernel) rfl)) (iJ (xS (aV bx rfl T.b_isinstance tY (ac 0) (bo rfl T.b_bool (by decide +kernel) rfl)))))) ?_
 rfl
theorem im:OkD P w K mg base C k "is_worth" fi ["thing"] (a1 (c8 t)):=ok1 mG fun thing _ _ _ _ _ _ _ _ bx _ _=>by
 show FL _ _ [vv thing] _ _ _
 refine az (ak (iK (ae bx G.g20 rfl (aa (ac 0) ad)) (iJ (pd af (ac 0) (bp T.k_GREATEST_WORTH rfl))))) ?_
 rfl
theorem oC:OkD P w K mg base C k "is_size" gQ ["thing"] (a1 (eD t)):=ok1 ot fun thing _ _ _ _ _ _ _ _ bx _ _=>by
 show FL _ _ [vv thing] _ _ _
 refine az (ak (iK (ae bx G.g20 rfl (aa (ac 0) ad)) (iJ (pd af (ac 0) (bp T.k_LARGEST_SIZE rfl))))) ?_
 rfl
theorem oD:OkD P w K mg base C k "is_tree" gR ["size","thing","is_end"] (a3 (cL t)):=ok3 ou fun size_ thing is_end _ _ _ _ _ _ _ _ bx _ _=>by
 show FL _ _ [vv size_,vv thing,vv is_end] _ _ _
 refine ax (inj:=fun (_:Unit) (w:Unit)=>[vv size_,vv thing,vv is_end]) (aD (bS (bE (aV bx rfl T.b_isinstance bY (ac 1) (bo rfl T.b_tuple (by decide +kernel) rfl)))) ?_ ?_ ?_) (fun _ w=>?_)
 rfl
 ·refine az (ak (ub bx G.v (ac 2) (aa (ac 1) ad))) ?_
  rfl
 ·exact ar ⟨(),rfl⟩
 refine ax (inj:=fun (_:Unit) (w1:Unit)=>[vv size_,vv thing,vv is_end]) (aD (ft_w (eU (dB bx (ac 0) af) (cZ (cK bx (fe_N (bF bx rfl T.b_len (FAL.out (aa (ac 1) ad)))) af)))) ?_ ?_ ?_) (fun _ w1=>?_)
 rfl
 ·refine aB (ak dA) ?_
  rfl
 ·exact ar ⟨(),rfl⟩
 refine az (ak (fe_N (nL bx rfl T.b_all (FAL.out (aa (fe_C (aE (N:=["part","is_end","size"]) (own:=1) (cap:=[2,0]) bx (BlkOk.of (by kernel_rfl)) (bh bx.K (ac 1)) (aI (by decide)) (fun _ _ _ _ _=>au 0 (show List.Nodup (α:=Str) ["part","is_end","size"] by decide +kernel)) (fun _ _ _ _ _=>(ae (ap bx) G.g23 rfl (aa (cF (ac 2) af) (aa (ac 0) (aa (ac 1) ad))))))) ad))))) ?_
 rfl
theorem g8:OkD P w K mg base C k "is_sized_tree" bU ["thing","is_end"] (a2 (bd t)):=ok2 gT fun thing is_end _ _ _ _ _ _ _ _ bx _ _=>by
 show FL _ _ [vv thing,vv is_end] _ _ _
 refine ax (inj:=fun (_:Unit) (w:Unit)=>[vv thing,vv is_end]) (aD (ft_w (eU (bS (bE (aV bx rfl T.b_isinstance bY (ac 0) (bo rfl T.b_tuple (by decide +kernel) rfl)))) (cZ (cK bx (fe_N (bF bx rfl T.b_len (FAL.out (aa (ac 0) ad)))) af)))) ?_ ?_ ?_) (fun _ w=>?_)
 rfl
 ·refine aB (ak dA) ?_
  rfl
 ·exact ar ⟨(),rfl⟩
 refine az (ak (iK (ae bx G.g22 rfl (aa (ao bx.K (ac 0) af) ad)) (iJ (ae bx G.g23 rfl (aa (ao bx.K (ac 0) af) (aa (ao bx.K (ac 0) af) (aa (ac 1) ad))))))) ?_
 rfl
theorem ix:OkD P w K mg base C k "put_together" cr ["four"] (a1 (bq t)):=ok1 dD fun four _ _ _ _ _ _ _ _ bx _ _=>by
 show FL _ _ [vv four,nn] _ _ _
 refine ah (S':=fun first=>[vv four,vv first]) (aq 1 dD.nd (ao bx.K (ac 0) af)) ?_ (fun first=>?_)
 rfl
 refine ax (inj:=fun (_:Unit) (w:Unit)=>[vv four,vv first]) (aD (ft_w (xR (bS (bE (aV bx rfl T.b_isinstance bY (ac 1) (bo rfl T.b_tuple (by decide +kernel) rfl)))) (vF (dB bx (ac 0) (aQ (aa (ac 1) (aa (ac 1) (aa (ac 1) (aa (ac 1) ad))))))))) ?_ ?_ ?_) (fun _ w=>?_)
 rfl
 ·refine aB (ak (ac 1)) ?_
  rfl
 ·exact ar ⟨(),rfl⟩
 refine aB (ak (ac 0)) ?_
 rfl
theorem lu:OkD P w K mg base C k "lean_tree" dL ["tree"] (a1 (bM t)):=ok1 lj fun tree_ _ _ _ _ _ _ _ _ bx _ _=>by
 show FL _ _ [vv tree_] _ _ _
 refine ax (inj:=fun (_:Unit) (w:Unit)=>[vv tree_]) (aD (bS (bE (aV bx rfl T.b_isinstance bY (ac 0) (bo rfl T.b_tuple (by decide +kernel) rfl)))) ?_ ?_ ?_) (fun _ w=>?_)
 rfl
 ·refine aB (ak (ac 0)) ?_
  rfl
 ·exact ar ⟨(),rfl⟩
 refine az (ak (ae bx G.g25 rfl (aa (fe_N (aG bx rfl T.b_tuple (FAL.out (aa (fe_C (aE (N:=["part"]) (own:=1) (cap:=[]) bx (BlkOk.of (by kernel_rfl)) (bh bx.K (ac 0)) (aI (by decide)) (fun _ _ _ _ _=>au 0 (show List.Nodup (α:=Str) ["part"] by decide +kernel)) (fun _ _ _ _ _=>(ae (ap bx) G.g26 rfl (aa (ac 0) ad))))) ad)))) ad))) ?_
 rfl
theorem mM:OkD P w K mg base C k "worth_in" fj ["tree","side","x","y"] (a4 (cj t)):=ok4 dM fun tree_ side x y _ _ _ _ _ _ _ _ bx _ _=>by
 show FL _ _ [vv tree_,vv side,vv x,vv y,nn,nn] _ _ _
 refine ax (inj:=fun (_:Unit) (w:Unit)=>[vv tree_,vv side,vv x,vv y,nn,nn]) (aD (bS (bE (aV bx rfl T.b_isinstance bY (ac 0) (bo rfl T.b_tuple (by decide +kernel) rfl)))) ?_ ?_ ?_) (fun _ w=>?_)
 rfl
 ·refine aB (ak (ac 0)) ?_
  rfl
 ·exact ar ⟨(),rfl⟩
 refine ah (S':=fun half=>[vv tree_,vv side,vv x,vv y,vv half,nn]) (aq 4 dM.nd (dH (ac 1) af)) ?_ (fun half=>?_)
 rfl
 refine ah (S':=fun number=>[vv tree_,vv side,vv x,vv y,vv half,vv number]) (aq 5 dM.nd (aJ bx.K (aU bx.K af (dH (ac 3) (ac 4))) (dH (ac 2) (ac 4)))) ?_ (fun number=>?_)
 rfl
 refine az (ak (ae bx G.g43 rfl (aa (ao bx.K (ac 0) (ac 5)) (aa (ac 4) (aa (cG (ac 2) (ac 4)) (aa (cG (ac 3) (ac 4)) ad)))))) ?_
 rfl
theorem oE:OkD P w K mg base C k "tree_of" gU ["rows","left","top","side"] (a4 (cM t)):=ok4 jc fun rows left top side _ _ _ _ _ _ _ _ bx _ _=>by
 show FL _ _ [vv rows,vv left,vv top,vv side,nn] _ _ _
 refine ax (inj:=fun (_:Unit) (w:Unit)=>[vv rows,vv left,vv top,vv side,nn]) (aD (dB bx (ac 3) af) ?_ ?_ ?_) (fun _ w=>?_)
 rfl
 ·refine az (ak (ao bx.K (ao bx.K (ac 0) (ac 2)) (ac 1))) ?_
  rfl
 ·exact ar ⟨(),rfl⟩
 refine ah (S':=fun half=>[vv rows,vv left,vv top,vv side,vv half]) (aq 4 jc.nd (dH (ac 3) af)) ?_ (fun half=>?_)
 rfl
 refine az (ak (ae bx G.g25 rfl (aa (aQ (aa (ae bx G.g44 rfl (aa (ac 0) (aa (ac 1) (aa (ac 2) (aa (ac 4) ad))))) (aa (ae bx G.g44 rfl (aa (ac 0) (aa (aJ bx.K (ac 1) (ac 4)) (aa (ac 2) (aa (ac 4) ad))))) (aa (ae bx G.g44 rfl (aa (ac 0) (aa (ac 1) (aa (aJ bx.K (ac 2) (ac 4)) (aa (ac 4) ad))))) (aa (ae bx G.g44 rfl (aa (ac 0) (aa (aJ bx.K (ac 1) (ac 4)) (aa (aJ bx.K (ac 2) (ac 4)) (aa (ac 4) ad))))) ad))))) ad))) ?_
 rfl
theorem jV:OkD P w K mg base C k "is_picture" dn ["thing"] (a1 (b7 t)):=ok1 jS fun thing _ _ _ _ _ _ _ _ bx _ _=>by
 show FL _ _ [vv thing] _ _ _
 refine az (ak (ae bx G.g24 rfl (aa (ac 0) (aa (y4 T.f_is_worth rfl) ad)))) ?_
 rfl
theorem g9:OkD P w K mg base C k "check_picture" bV ["thing"] (a1 (bf t)):=ok1 gW fun thing _ _ _ _ _ _ _ _ bx _ made=>by
 show FL _ _ [vv thing] _ _ _
 refine nU (aD (bS (bE (ae bx G.g27 rfl (aa (ac 0) ad)))) ?_ ?_ ?_)
 rfl
 ·refine t8 (iW 1 bx made rfl T.c_NoPicture T.x_NoPicture (FAL.out (aa nE ad))) ?_
  rfl
 ·exact ar True.intro
theorem oF:OkD P w K mg base C k "side_of" gX ["picture"] (a1 (eE t)):=ok1 oy fun picture _ _ _ _ _ _ _ _ bx _ _=>by
 show FL _ _ [vv picture] _ _ _
 refine az (ak (ao bx.K (iB T.t_SIDES rfl) (ao bx.K (ac 0) af))) ?_
 rfl
theorem lv:OkD P w K mg base C k "shown_row" dN ["picture","y"] (a2 (cA t)):=ok2 fW fun picture y _ _ _ _ _ _ _ _ bx _ _=>by
 show FL _ _ [vv picture,vv y,nn] _ _ _
 refine ah (S':=fun side=>[vv picture,vv y,vv side]) (aq 2 fW.nd (ae bx G.g45 rfl (aa (ac 0) ad))) ?_ (fun side=>?_)
 rfl
 refine az (ak (fe_N (aG bx rfl T.b_tuple (FAL.out (aa (fe_C (aE (N:=["x","side","y","picture"]) (own:=1) (cap:=[2,1,0]) bx (BlkOk.of (by kernel_rfl)) (aW (av rfl T.b_range (FAL.out (aa (ac 2) ad)))) (aI (by decide)) (fun _ _ _ _ _=>au 0 (show List.Nodup (α:=Str) ["x","side","y","picture"] by decide +kernel)) (fun _ _ _ _ _=>(ae (ap bx) G.g43 rfl (aa (ao (ap bx).K (ac 3) af) (aa (ac 1) (aa (ac 0) (aa (ac 2) ad)))))))) ad))))) ?_
 rfl
theorem jW:OkD P w K mg base C k "shown_rows" dq ["picture"] (a1 (b8 t)):=ok1 jT fun picture _ _ _ _ _ _ _ _ bx _ _=>by
 show FL _ _ [vv picture] _ _ _
 refine ah (S':=fun _=>[vv picture]) (kN (ae bx G.g28 rfl (aa (ac 0) ad))) ?_ (fun _=>?_)
 rfl
 refine az (ak (fe_N (aG bx rfl T.b_tuple (FAL.out (aa (fe_C (aE (N:=["y","picture"]) (own:=1) (cap:=[0]) bx (BlkOk.of (by kernel_rfl)) (aW (av rfl T.b_range (FAL.out (aa (ae bx G.g45 rfl (aa (ac 0) ad)) ad)))) (aI (by decide)) (fun _ _ _ _ _=>au 0 (show List.Nodup (α:=Str) ["y","picture"] by decide +kernel)) (fun _ _ _ _ _=>(ae (ap bx) G.g49 rfl (aa (ac 1) (aa (ac 0) ad)))))) ad))))) ?_
 rfl
theorem se:OkD P w K mg base C k "is_row" jd ["thing","side"] (a2 (fL t)):=ok2 r6 fun thing side _ _ _ _ _ _ _ _ bx _ _=>by
 show FL _ _ [vv thing,vv side] _ _ _
 refine ax (inj:=fun (_:Unit) (w:Unit)=>[vv thing,vv side]) (aD (ft_w (eU (bS (bE (aV bx rfl T.b_isinstance bY (ac 0) (bo rfl T.b_tuple (by decide +kernel) rfl)))) (cZ (cK bx (fe_N (bF bx rfl T.b_len (FAL.out (aa (ac 0) ad)))) (ac 1))))) ?_ ?_ ?_) (fun _ w=>?_)
 rfl
 ·refine aB (ak dA) ?_
  rfl
 ·exact ar ⟨(),rfl⟩
 refine az (ak (fe_N (nL bx rfl T.b_all (FAL.out (aa (fe_C (aE (N:=["worth"]) (own:=1) (cap:=[]) bx (BlkOk.of (by kernel_rfl)) (bh bx.K (ac 0)) (aI (by decide)) (fun _ _ _ _ _=>au 0 (show List.Nodup (α:=Str) ["worth"] by decide +kernel)) (fun _ _ _ _ _=>(ae (ap bx) G.g21 rfl (aa (ac 0) ad))))) ad))))) ?_
 rfl
theorem mO:OkD P w K mg base C k "are_rows" fk ["thing"] (a1 (c9 t)):=ok1 mH fun thing _ _ _ _ _ _ _ _ bx _ _=>by
 show FL _ _ [vv thing] _ _ _
 refine ax (inj:=fun (_:Unit) (w:Unit)=>[vv thing]) (aD (ft_w (eU (bS (bE (aV bx rfl T.b_isinstance bY (ac 0) (bo rfl T.b_tuple (by decide +kernel) rfl)))) (cZ (q9 bx (fe_N (bF bx rfl T.b_len (FAL.out (aa (ac 0) ad)))) (iB T.t_SIDES rfl))))) ?_ ?_ ?_) (fun _ w=>?_)
 rfl
 ·refine aB (ak dA) ?_
  rfl
 ·exact ar ⟨(),rfl⟩
 refine az (ak (fe_N (nL bx rfl T.b_all (FAL.out (aa (fe_C (aE (N:=["row","thing"]) (own:=1) (cap:=[0]) bx (BlkOk.of (by kernel_rfl)) (bh bx.K (ac 0)) (aI (by decide)) (fun _ _ _ _ _=>au 0 (show List.Nodup (α:=Str) ["row","thing"] by decide +kernel)) (fun _ _ _ _ _=>(ae (ap bx) G.g51 rfl (aa (ac 0) (aa (fe_N (bF (ap bx) rfl T.b_len (FAL.out (aa (ac 1) ad)))) ad)))))) ad))))) ?_
 rfl
theorem oG:OkD P w K mg base C k "of_rows" gY ["rows"] (a1 (eF t)):=ok1 je fun rows _ _ _ _ _ _ _ _ bx _ made=>by
 show FL _ _ [vv rows,nn] _ _ _
 refine ax (inj:=fun (_:Unit) (w:Unit)=>[vv rows,nn]) (aD (bS (bE (ae bx G.g52 rfl (aa (ac 0) ad)))) ?_ ?_ ?_) (fun _ w=>?_)
 rfl
 ·refine t8 (iW 1 bx made rfl T.c_NoPicture T.x_NoPicture (FAL.out (aa nE ad))) ?_
  rfl
 ·exact ar ⟨(),rfl⟩
 refine ah (S':=fun side=>[vv rows,vv side]) (aq 1 je.nd (fe_N (bF bx rfl T.b_len (FAL.out (aa (ac 0) ad))))) ?_ (fun side=>?_)
 rfl
 refine az (ak (aQ (aa (y8 (qW bx T.t_SIDES rfl (FAL.out (aa (ac 1) ad)))) (aa (ae bx G.g44 rfl (aa (ac 0) (aa af (aa af (aa (ac 1) ad))))) ad)))) ?_
 rfl
theorem wH:OkD P w K mg base C k "lean" oz ["picture"] (a1 (k6 t)):=ok1 wF fun picture _ _ _ _ _ _ _ _ bx _ _=>by
 show FL _ _ [vv picture] _ _ _
 refine ah (S':=fun _=>[vv picture]) (kN (ae bx G.g28 rfl (aa (ac 0) ad))) ?_ (fun _=>?_)
 rfl
 refine az (ak (aQ (aa (ao bx.K (ac 0) af) (aa (ae bx G.g26 rfl (aa (ao bx.K (ac 0) af) ad)) ad)))) ?_
 rfl
theorem jX:OkD P w K mg base C k "moved_tree" du ["tree","order"] (a2 (br t)):=ok2 jU fun tree_ order _ _ _ _ _ _ _ _ bx _ _=>by
 show FL _ _ [vv tree_,vv order] _ _ _
 refine ax (inj:=fun (_:Unit) (w:Unit)=>[vv tree_,vv order]) (aD (bS (bE (aV bx rfl T.b_isinstance bY (ac 0) (bo rfl T.b_tuple (by decide +kernel) rfl)))) ?_ ?_ ?_) (fun _ w=>?_)
 rfl
 ·refine aB (ak (ac 0)) ?_
  rfl
 ·exact ar ⟨(),rfl⟩
 refine az (ak (fe_N (aG bx rfl T.b_tuple (FAL.out (aa (fe_C (aE (N:=["number","order","tree"]) (own:=1) (cap:=[1,0]) bx (BlkOk.of (by kernel_rfl)) (bh bx.K (ac 1)) (aI (by decide)) (fun _ _ _ _ _=>au 0 (show List.Nodup (α:=Str) ["number","order","tree"] by decide +kernel)) (fun _ _ _ _ _=>(ae (ap bx) G.g69 rfl (aa (ao (ap bx).K (ac 2) (ac 0)) (aa (ac 1) ad)))))) ad))))) ?_
 rfl
theorem uI:OkD P w K mg base C k "moved" ll ["picture","order"] (a2 (iD t)):=ok2 mI fun picture order _ _ _ _ _ _ _ _ bx _ _=>by
 show FL _ _ [vv picture,vv order,nn] _ _ _
 refine ah (S':=fun shown=>[vv picture,vv order,vv shown]) (aq 2 mI.nd (ae bx G.g29 rfl (aa (ac 0) ad))) ?_ (fun shown=>?_)
 rfl
 refine az (ak (aQ (aa (ao bx.K (ac 2) af) (aa (ae bx G.g69 rfl (aa (ao bx.K (ac 2) af) (aa (ac 1) ad))) ad)))) ?_
 rfl
theorem sf:OkD P w K mg base C k "turned" jf ["picture"] (a1 (fM t)):=ok1 r8 fun picture _ _ _ _ _ _ _ _ bx _ _=>by
 show FL _ _ [vv picture] _ _ _
 refine az (ak (ae bx G.g70 rfl (aa (ac 0) (aa (iB T.t_BY_TURNING rfl) ad)))) ?_
 rfl
theorem mP:OkD P w K mg base C k "mirrored" fm ["picture"] (a1 (da t)):=ok1 mJ fun picture _ _ _ _ _ _ _ _ bx _ _=>by
 show FL _ _ [vv picture] _ _ _
 refine az (ak (ae bx G.g70 rfl (aa (ac 0) (aa (iB T.t_BY_MIRRORING rfl) ad)))) ?_
 rfl
theorem lw:OkD P w K mg base C k "check_way" dO ["thing"] (a1 (cB t)):=ok1 lm fun thing _ _ _ _ _ _ _ _ bx _ made=>by
 show FL _ _ [vv thing] _ _ _
 refine nU (aD (ft_w (eU (bS (bE (ae bx G.g20 rfl (aa (ac 0) ad)))) (cZ (bS (vP af (ac 0) (bp T.k_WAYS rfl)))))) ?_ ?_ ?_)
 rfl
 ·refine t8 (iW 2 bx made rfl T.c_NoSpot T.x_NoSpot (FAL.out (aa nE ad))) ?_
  rfl
 ·exact ar True.intro
theorem si:OkD P w K mg base C k "by_way" jg ["picture","way"] (a2 (fN t)):=ok2 cP fun picture way _ _ _ _ _ _ _ _ bx hpo _=>by
 show FL _ _ [vv picture,vv way,nn,nn] _ _ _
 refine ah (S':=fun told=>[vv picture,vv way,vv told,nn]) (aq 2 cP.nd (ae bx G.g29 rfl (aa (ac 0) ad))) ?_ (fun told=>?_)
 rfl
 refine ah (S':=fun _=>[vv picture,vv way,vv told,nn]) (kN (ae bx G.g127 rfl (aa (ac 1) ad))) ?_ (fun _=>?_)
 rfl
 refine ax (inj:=fun (told2:D) (w:Unit)=>[vv picture,vv way,vv told2,nn]) (aD (tN (ac 1) (bp T.k_TURNS rfl)) ?_ ?_ ?_) (fun told2 w=>?_)
 rfl
 ·refine ah (S':=fun told1=>[vv picture,vv way,vv told1,nn]) (aq 2 cP.nd (ae bx G.g84 rfl (aa (ac 2) ad))) ?_ (fun told1=>?_)
  rfl
  exact ar ⟨(),rfl⟩
 ·exact ar ⟨(),rfl⟩
 refine ax (inj:=fun (s:D) (w1:Option Sl)=>[vv picture,vv way,vv s,w1]) (aR 3 (B:=fun (s:D) (w1:Option Sl) x1=>[vv picture,vv way,vv s,vv x1]) nn hpo rfl (aW (av rfl T.b_range (FAL.out (aa (cG (ac 1) (bp T.k_TURNS rfl)) ad)))) ?_ (au 3 cP.nd) rfl (fun _ _ _=>rfl) (fun s w1 x1=>?_)) (fun told4 w2=>?_)
 rfl
 ·refine ah (S':=fun told3=>[vv picture,vv way,vv told3,vv x1]) (aq 2 cP.nd (ae bx G.g125 rfl (aa (ac 2) ad))) ?_ (fun told3=>?_)
  rfl
  exact ar ⟨vv x1,rfl⟩
 refine aB (ak (ac 2)) ?_
 rfl
theorem mQ:OkD P w K mg base C k "all_ways" fq ["picture"] (a1 (de t)):=ok1 mK fun picture _ _ _ _ _ _ _ _ bx _ _=>by
 show FL _ _ [vv picture] _ _ _
 refine az (ak (ut nZ (N:=["way","picture"]) (own:=1) (cap:=[0]) bx (BlkOk.of (by kernel_rfl)) (aW (av rfl T.b_range (FAL.out (aa (bp T.k_WAYS rfl) ad)))) (aI (by decide)) (fun _ _ _ _ _=>au 0 (show List.Nodup (α:=Str) ["way","picture"] by decide +kernel)) (fun _ _ _ _ _=>(ae (we bx) G.g128 rfl (aa (ac 1) (aa (ac 0) ad)))))) ?_
 rfl
theorem oH:OkD P w K mg base C k "side_at" gZ ["size"] (a1 (ko t)):=ok1 dv fun size_ _ _ _ _ _ _ _ _ bx hpo _=>by
 show FL _ _ [vv size_,nn,nn] _ _ _
 refine aY (S':=[vv size_,vv (.int 1),nn]) (aq 1 dv.nd af) ?_ ?_
 rfl
 refine ax (inj:=fun (s:D) (w:Option Sl)=>[vv size_,vv s,w]) (aR 2 (B:=fun (s:D) (w:Option Sl) x=>[vv size_,vv s,vv x]) nn hpo rfl (aW (av rfl T.b_range (FAL.out (aa (ac 0) ad)))) ?_ (au 2 dv.nd) rfl (fun _ _ _=>rfl) (fun s w x=>?_)) (fun side1 w1=>?_)
 rfl
 ·refine ah (S':=fun side=>[vv size_,vv side,vv x]) (aq 1 dv.nd (aU bx.K (ac 1) af)) ?_ (fun side=>?_)
  rfl
  exact ar ⟨vv x,rfl⟩
 refine aB (ak (ac 1)) ?_
 rfl
theorem jl:OkD P w K mg base C k "spot_behind" cH ["size","way","x","y"] (a4 (eV t)):=ok4 aX fun size_ way x y _ _ _ _ _ _ _ _ bx hpo _=>by
 show FL _ _ [vv size_,vv way,vv x,vv y,nn,nn,nn] _ _ _
 refine ah (S':=fun last=>[vv size_,vv way,vv x,vv y,vv last,nn,nn]) (aq 4 aX.nd (cF (ae bx G.g130 rfl (aa (ac 0) ad)) af)) ?_ (fun last=>?_)
 rfl
 refine aY (S':=[vv size_,vv way,vv x,vv y,vv last,vv (.tup [x,y]),nn]) (aq 5 aX.nd (aQ (aa (ac 2) (aa (ac 3) ad)))) ?_ ?_
 rfl
 refine ax (inj:=fun (spot1:D) (w:Unit)=>[vv size_,vv way,vv x,vv y,vv last,vv spot1,nn]) (aD (tN (ac 1) (bp T.k_TURNS rfl)) ?_ ?_ ?_) (fun spot1 w=>?_)
 rfl
 ·refine ah (S':=fun spot=>[vv size_,vv way,vv x,vv y,vv last,vv spot,nn]) (aq 5 aX.nd (aQ (aa (cF (ac 4) (ac 2)) (aa (ac 3) ad)))) ?_ (fun spot=>?_)
  rfl
  exact ar ⟨(),rfl⟩
 ·exact ar ⟨(),rfl⟩
 refine ax (inj:=fun (s:D) (w1:Option Sl)=>[vv size_,vv way,vv x,vv y,vv last,vv s,w1]) (aR 6 (B:=fun (s:D) (w1:Option Sl) x4=>[vv size_,vv way,vv x,vv y,vv last,vv s,vv x4]) nn hpo rfl (aW (av rfl T.b_range (FAL.out (aa (cG (ac 1) (bp T.k_TURNS rfl)) ad)))) ?_ (au 6 aX.nd) rfl (fun _ _ _=>rfl) (fun s w1 x4=>?_)) (fun spot3 w2=>?_)
 rfl
 ·refine ah (S':=fun spot2=>[vv size_,vv way,vv x,vv y,vv last,vv spot2,vv x4]) (aq 5 aX.nd (aQ (aa (cF (ac 4) (ao bx.K (ac 5) af)) (aa (ao bx.K (ac 5) af) ad)))) ?_ (fun spot2=>?_)
  rfl
  exact ar ⟨vv x4,rfl⟩
 refine aB (ak (ac 5)) ?_
 rfl
theorem oJ:OkD P w K mg base C k "ways_to" g5 ["one","other"] (a2 (eG t)):=ok2 ft fun one other _ _ _ _ _ _ _ _ bx _ _=>by
 show FL _ _ [vv one,vv other,nn,nn] _ _ _
 refine ah (S':=fun told=>[vv one,vv other,vv told,nn]) (aq 2 ft.nd (ae bx G.g129 rfl (aa (ac 0) ad))) ?_ (fun told=>?_)
 rfl
 refine ah (S':=fun aim=>[vv one,vv other,vv told,vv aim]) (aq 3 ft.nd (ae bx G.g29 rfl (aa (ac 1) ad))) ?_ (fun aim=>?_)
 rfl
 refine az (ak (fe_C (qL (N:=["way","aim","told"]) (own:=1) (cap:=[3,2]) bx (BlkOk.of (by kernel_rfl)) (aW (av rfl T.b_range (FAL.out (aa (bp T.k_WAYS rfl) ad)))) (aI (by decide)) (fun _ _ _ _ _=>au 0 (show List.Nodup (α:=Str) ["way","aim","told"] by decide +kernel)) (fun _ _ _ _ _=>(dB (ap bx) (ao (ap bx).K (ac 2) (ac 0)) (ac 1))) (fun _ _ _ _ _=>(ac 0))))) ?_
 rfl
theorem oK:OkD P w K mg base C k "are_kin" g6 ["one","other"] (a2 (eJ t)):=ok2 oA fun one other _ _ _ _ _ _ _ _ bx _ _=>by
 show FL _ _ [vv one,vv other] _ _ _
 refine az (ak (yQ (fe_N (bF bx rfl T.b_len (FAL.out (aa (ae bx G.g137 rfl (aa (ac 0) (aa (ac 1) ad))) ad)))) af)) ?_
 rfl
theorem ly:OkD P w K mg base C k "least_way" dP ["picture"] (a1 (cD t)):=ok1 lp fun picture _ _ _ _ _ _ _ _ bx _ _=>by
 show FL _ _ [vv picture] _ _ _
 refine az (ak (ww bx rfl T.b_min rfl G.g50 (ae bx G.g129 rfl (aa (ac 0) ad)))) ?_
 rfl
theorem eT:OkD P w K mg base C k "is_first_of_ring" bi ["size","way","x","y"] (a4 (cm t)):=ok4 bb fun size_ way x y _ _ _ _ _ _ _ _ bx hpo _=>by
 show FL _ _ [vv size_,vv way,vv x,vv y,nn] _ _ _
 refine ah (S':=fun spot=>[vv size_,vv way,vv x,vv y,vv spot]) (aq 4 bb.nd (ae bx G.g131 rfl (aa (ac 0) (aa (ac 1) (aa (ac 2) (aa (ac 3) ad)))))) ?_ (fun spot=>?_)
 rfl
 refine ax (inj:=fun (s:D) (w:Unit)=>[vv size_,vv way,vv x,vv y,vv s]) (gL 10 () hpo (cK bx (ac 4) (aQ (aa (ac 2) (aa (ac 3) ad)))) (fun _ _=>rfl) rfl (fun s w=>?_)) (fun spot2 w2=>?_)
 ·refine ax (inj:=fun (_:Unit) (w1:Unit)=>[vv size_,vv way,vv x,vv y,vv s]) (aD (yx bx (ac 4) (aQ (aa (ac 2) (aa (ac 3) ad)))) ?_ ?_ ?_) (fun _ w1=>?_)
  rfl
  ·refine aB (ak dA) ?_
   rfl
  ·exact ar ⟨(),rfl⟩
  refine ah (S':=fun spot1=>[vv size_,vv way,vv x,vv y,vv spot1]) (aq 4 bb.nd (ae bx G.g131 rfl (aa (ac 0) (aa (ac 1) (aa (ao bx.K (ac 4) af) (aa (ao bx.K (ac 4) af) ad)))))) ?_ (fun spot1=>?_)
  rfl
  exact ar ⟨(),rfl⟩
 refine aB (ak dA) ?_
 rfl
theorem uJ:OkD P w K mg base C k "rings" lq ["size","way"] (a2 (pN t)):=ok2 dQ fun size_ way _ _ _ _ _ _ _ _ bx hpo _=>by
 show FL _ _ [vv size_,vv way,nn,nn,nn] _ _ _
 refine aY (S':=[vv size_,vv way,vv (.int 0),nn,nn]) (aq 2 dQ.nd af) ?_ ?_
 rfl
 refine ax (inj:=fun (s:D) (w:Option Sl×Option Sl)=>[vv size_,vv way,vv s,w.1,w.2]) (aR 3 (B:=fun (s:D) (w:Option Sl×Option Sl) x1=>[vv size_,vv way,vv s,vv x1,w.2]) (nn,nn) hpo rfl (aW (av rfl T.b_range (FAL.out (aa (ae bx G.g130 rfl (aa (ac 0) ad)) ad)))) ?_ (au 3 dQ.nd) rfl (fun _ _ _=>rfl) (fun s w x1=>?_)) (fun many2 w3=>?_)
 rfl
 ·refine ax (inj:=fun (s1:D) (w1:Option Sl)=>[vv size_,vv way,vv s1,vv x1,w1]) (aR 4 (B:=fun (s1:D) (w1:Option Sl) x3=>[vv size_,vv way,vv s1,vv x1,vv x3]) w.2 hpo rfl (aW (av rfl T.b_range (FAL.out (aa (ae bx G.g130 rfl (aa (ac 0) ad)) ad)))) ?_ (au 4 dQ.nd) rfl (fun _ _ _=>rfl) (fun s1 w1 x3=>?_)) (fun many1 w2=>?_)
  rfl
  ·refine nU (aD (bE (ae bx G.g140 rfl (aa (ac 0) (aa (ac 1) (aa (ac 4) (aa (ac 3) ad)))))) ?_ ?_ ?_)
   rfl
   ·refine ah (S':=fun many=>[vv size_,vv way,vv many,vv x1,vv x3]) (aq 2 dQ.nd (aJ bx.K (ac 2) af)) ?_ (fun many=>?_)
    rfl
    exact ar ⟨vv x3,rfl⟩
   ·exact ar ⟨vv x3,rfl⟩
  exact ar ⟨(vv x1,w2),rfl⟩
 refine aB (ak (ac 2)) ?_
 rfl
theorem hG:OkD P w K mg base C k "how_many_kept" bW ["size","worths","way"] (a3 (dC t)):=ok3 ba fun size_ worths way _ _ _ _ _ _ _ _ bx hpo _=>by
 show FL _ _ [vv size_,vv worths,vv way,nn,nn] _ _ _
 refine aY (S':=[vv size_,vv worths,vv way,vv (.int 1),nn]) (aq 3 ba.nd af) ?_ ?_
 rfl
 refine ax (inj:=fun (s:D) (w:Option Sl)=>[vv size_,vv worths,vv way,vv s,w]) (aR 4 (B:=fun (s:D) (w:Option Sl) x1=>[vv size_,vv worths,vv way,vv s,vv x1]) nn hpo rfl (aW (av rfl T.b_range (FAL.out (aa (ae bx G.g141 rfl (aa (ac 0) (aa (ac 2) ad))) ad)))) ?_ (au 4 ba.nd) rfl (fun _ _ _=>rfl) (fun s w x1=>?_)) (fun many1 w1=>?_)
 rfl
 ·refine ah (S':=fun many=>[vv size_,vv worths,vv way,vv many,vv x1]) (aq 3 ba.nd (aU bx.K (ac 3) (ac 1))) ?_ (fun many=>?_)
  rfl
  exact ar ⟨vv x1,rfl⟩
 refine aB (ak (ac 3)) ?_
 rfl
theorem fZ:OkD P w K mg base C k "how_many_kinds" bH ["size","worths"] (a2 (cN t)):=ok2 fX fun size_ worths _ _ _ _ _ _ _ _ bx _ _=>by
 show FL _ _ [vv size_,vv worths] _ _ _
 refine az (ak (dH (fe_N (ye bx rfl T.b_sum (FAL.out (aa (fe_C (aE (N:=["way","size","worths"]) (own:=1) (cap:=[0,1]) bx (BlkOk.of (by kernel_rfl)) (aW (av rfl T.b_range (FAL.out (aa (bp T.k_WAYS rfl) ad)))) (aI (by decide)) (fun _ _ _ _ _=>au 0 (show List.Nodup (α:=Str) ["way","size","worths"] by decide +kernel)) (fun _ _ _ _ _=>(ae (ap bx) G.g142 rfl (aa (ac 1) (aa (ac 2) (aa (ac 0) ad))))))) ad)))) (bp T.k_WAYS rfl))) ?_
 rfl
theorem sj:OkD P w K mg base C k "_law_cell" jh ["_law_script","_law_k"] (a2 (fO t)):=ok2 r9 fun zA zY _ _ _ _ _ _ _ _ bx _ _=>by
 show FL _ _ [vv zA,vv zY] _ _ _
 refine ax (inj:=fun (_:Unit) (w:Unit)=>[vv zA,vv zY]) (aD (xh (ac 1) (fe_N (bF bx rfl T.b_len (FAL.out (aa (ac 0) ad))))) ?_ ?_ ?_) (fun _ w=>?_)
 rfl
 ·refine az (ak (ao bx.K (ac 0) (ac 1))) ?_
  rfl
 ·exact ar ⟨(),rfl⟩
 refine ax (inj:=fun (_:Unit) (w1:Unit)=>[vv zA,vv zY]) (aD (dB bx (ac 0) (bc ad)) ?_ ?_ ?_) (fun _ w1=>?_)
 rfl
 ·refine aB (ak af) ?_
  rfl
 ·exact ar ⟨(),rfl⟩
 refine az (ak (aJ bx.K (aU bx.K (ao bx.K (ac 0) (cG (ac 1) (fe_N (bF bx rfl T.b_len (FAL.out (aa (ac 0) ad)))))) af) (ac 1))) ?_
 rfl
theorem sk:OkD P w K mg base C k "_law_pick" ji ["_law_script","_law_k","_law_many"] (a3 (fP t)):=ok3 kr fun zA zY Ad _ _ _ _ _ _ _ _ bx _ _=>by
 show FL _ _ [vv zA,vv zY,vv Ad,nn] _ _ _
 refine ah (S':=fun Ao=>[vv zA,vv zY,vv Ad,vv Ao]) (aq 3 kr.nd (cG (aU bx.K (aJ bx.K (ae bx G.g30 rfl (aa (ac 0) (aa (ac 1) ad))) (aU bx.K af (aJ bx.K (ac 1) af))) af) af)) ?_ (fun Ao=>?_)
 rfl
 refine az (ak (cG (cG (aJ bx.K (aU bx.K (ac 3) (ac 3)) (dH (ac 3) af)) af) (ac 2))) ?_
 rfl
theorem so:OkD P w K mg base C k "_law_tree" jj ["_law_script","_law_at","_law_size"] (a3 (dJ t)):=ok3 ku fun zA Aj zG _ _ _ _ _ _ _ _ bx _ _=>by
 show FL _ _ [vv zA,vv Aj,vv zG,nn] _ _ _
 refine ah (S':=fun zC=>[vv zA,vv Aj,vv zG,vv zC]) (aq 3 ku.nd (ae bx G.g31 rfl (aa (ac 0) (aa (ac 1) (aa af ad))))) ?_ (fun zC=>?_)
 rfl
 refine ax (inj:=fun (_:Unit) (w:Unit)=>[vv zA,vv Aj,vv zG,vv zC]) (aD (ft_w (eU (dB bx (ac 2) af) (cZ (xh (ac 3) af)))) ?_ ?_ ?_) (fun _ w=>?_)
 rfl
 ·refine az (ak (ao bx.K (bc (aa af (aa af (aa af (aa af (aa af (aa (ae bx G.g31 rfl (aa (ac 0) (aa (aJ bx.K (ac 1) af) (aa af ad)))) ad))))))) (ae bx G.g31 rfl (aa (ac 0) (aa (aJ bx.K (ac 1) af) (aa af ad)))))) ?_
  rfl
 ·exact ar ⟨(),rfl⟩
 refine ax (inj:=fun (_:Unit) (w1:Unit)=>[vv zA,vv Aj,vv zG,vv zC]) (aD (dB bx (ac 3) af) ?_ ?_ ?_) (fun _ w1=>?_)
 rfl
 ·refine az (ak (aU bx.K (aQ (aa (ae bx G.g32 rfl (aa (ac 0) (aa (aJ bx.K (ac 1) af) (aa (cF (ac 2) af) ad)))) ad)) af)) ?_
  rfl
 ·exact ar ⟨(),rfl⟩
 refine az (ak (fe_N (aG bx rfl T.b_tuple (FAL.out (aa (fe_C (aE (N:=["_law_k","_law_script","_law_size","_law_at"]) (own:=1) (cap:=[0,2,1]) bx (BlkOk.of (by kernel_rfl)) (aW (av rfl T.b_range (FAL.out (aa af ad)))) (aI (by decide)) (fun _ _ _ _ _=>au 0 (show List.Nodup (α:=Str) ["_law_k","_law_script","_law_size","_law_at"] by decide +kernel)) (fun _ _ _ _ _=>(ae (ap bx) G.g32 rfl (aa (ac 1) (aa (aJ (ap bx).K (aJ (ap bx).K (aU (ap bx).K af (ac 3)) af) (aU (ap bx).K af (ac 0))) (aa (cF (ac 2) af) ad))))))) ad))))) ?_
 rfl
theorem lz:OkD P w K mg base C k "_law_picture" dR ["_law_script","_law_at","_law_most"] (a3 (cE t)):=ok3 fY fun zA Aj AA _ _ _ _ _ _ _ _ bx _ _=>by
 show FL _ _ [vv zA,vv Aj,vv AA,nn] _ _ _
 refine ah (S':=fun zG=>[vv zA,vv Aj,vv AA,vv zG]) (aq 3 fY.nd (fe_N (vR bx rfl T.b_max (FAL.out (aa af (aa (cF (ac 2) (ao bx.K (bc (aa af (aa af (aa af (aa af (aa af (aa af (aa af ad)))))))) (ae bx G.g31 rfl (aa (ac 0) (aa (ac 1) (aa af ad)))))) ad)))))) ?_ (fun zG=>?_)
 rfl
 refine az (ak (aQ (aa (ac 3) (aa (ae bx G.g32 rfl (aa (ac 0) (aa (aJ bx.K (ac 1) af) (aa (ac 3) ad)))) ad)))) ?_
 rfl
theorem lA:OkD P w K mg base C k "_law_rows_of" dU ["_law_size","_law_tree_here"] (a2 (bN t)):=ok2 bu fun zG zP _ _ _ _ _ _ _ _ bx hpo _=>by
 show FL _ _ [vv zG,vv zP,nn,nn,nn,nn] _ _ _
 refine ax (inj:=fun (_:Unit) (w:Unit)=>[vv zG,vv zP,nn,nn,nn,nn]) (aD (dB bx (ac 0) af) ?_ ?_ ?_) (fun _ w=>?_)
 rfl
 ·refine aB (ak (bc (aa (bc (aa (ac 1) ad)) ad))) ?_
  rfl
 ·exact ar ⟨(),rfl⟩
 refine ah (S':=fun zU=>[vv zG,vv zP,vv zU,nn,nn,nn]) (aq 2 bu.nd (yP (bE (aV bx rfl T.b_isinstance bY (ac 1) (bo rfl T.b_tuple (by decide +kernel) rfl))) (ac 1) (aU bx.K (aQ (aa (ac 1) ad)) af))) ?_ (fun zU=>?_)
 rfl
 refine ah (S':=fun zQ=>[vv zG,vv zP,vv zU,vv zQ,nn,nn]) (aq 3 bu.nd (fe_C (aE (N:=["_law_part","_law_size"]) (own:=1) (cap:=[0]) bx (BlkOk.of (by kernel_rfl)) (bh bx.K (ac 2)) (aI (by decide)) (fun _ _ _ _ _=>au 0 (show List.Nodup (α:=Str) ["_law_part","_law_size"] by decide +kernel)) (fun _ _ _ _ _=>(ae (ap bx) G.g54 rfl (aa (cF (ac 1) af) (aa (ac 0) ad)))))) (hs:=by kernel_rfl)) ?_ (fun zQ=>?_)
 rfl
 refine aY (S':=[vv zG,vv zP,vv zU,vv zQ,ow [],nn]) (fs_O (nO 4 bu.nd (FAL.out ad))) ?_ ?_
 rfl
 refine ax (inj:=fun (s:List D) (w1:Option Sl)=>[vv zG,vv zP,vv zU,vv zQ,ow s,w1]) (aR 5 (B:=fun (s:List D) (w1:Option Sl) x1=>[vv zG,vv zP,vv zU,vv zQ,ow s,vv x1]) nn hpo rfl (bh bx.K (aQ (aa af (aa af ad)))) ?_ (au 5 bu.nd) rfl (fun _ _ _=>rfl) (fun s w1 x1=>?_)) (fun Ac w2=>?_)
 rfl
 ·refine ah (S':=fun Ak=>[vv zG,vv zP,vv zU,vv zQ,ow Ak,vv x1]) (fs_X (ki 4 bx.K (FAL.out (aa (fe_C (aE (N:=["_law_k","_law_some","_law_upper"]) (own:=1) (cap:=[3,5]) bx (BlkOk.of (by kernel_rfl)) (aW (av rfl T.b_range (FAL.out (aa (fe_N (bF bx rfl T.b_len (FAL.out (aa (ao bx.K (ac 3) (ac 5)) ad)))) ad)))) (aI (by decide)) (fun _ _ _ _ _=>au 0 (show List.Nodup (α:=Str) ["_law_k","_law_some","_law_upper"] by decide +kernel)) (fun _ _ _ _ _=>(aJ (ap bx).K (ao (ap bx).K (ao (ap bx).K (ac 1) (ac 2)) (ac 0)) (ao (ap bx).K (ao (ap bx).K (ac 1) (aJ (ap bx).K (ac 2) af)) (ac 0)))))) ad)))) ?_ (fun Ak=>?_)
  rfl
  exact ar ⟨vv x1,rfl⟩
 refine nR 4 (S':=[vv zG,vv zP,vv zU,vv zQ,vv (.lst Ac),w2]) rfl rfl ?_
 refine aB (ak (ac 4)) ?_
 rfl
theorem sr:OkD P w K mg base C k "_law_rows" jk ["_law_picture_here"] (a1 (fQ t)):=ok1 sd fun Ah _ _ _ _ _ _ _ _ bx _ _=>by
 show FL _ _ [vv Ah] _ _ _
 refine az (ak (fe_N (aG bx rfl T.b_tuple (FAL.out (aa (fe_C (aE (N:=["_law_row"]) (own:=1) (cap:=[]) bx (BlkOk.of (by kernel_rfl)) (bh bx.K (ae bx G.g54 rfl (aa (ao bx.K (ac 0) af) (aa (ao bx.K (ac 0) af) ad)))) (aI (by decide)) (fun _ _ _ _ _=>au 0 (show List.Nodup (α:=Str) ["_law_row"] by decide +kernel)) (fun _ _ _ _ _=>(fe_N (aG (ap bx) rfl T.b_tuple (FAL.out (aa (ac 0) ad))))))) ad))))) ?_
 rfl
theorem oM:OkD P w K mg base C k "_law_least" g7 ["_law_rows_here"] (a1 (cO t)):=ok1 bj fun zB _ _ _ _ _ _ _ _ bx hpo _=>by
 show FL _ _ [vv zB,nn,nn,nn,nn,nn,nn] _ _ _
 refine aY (S':=[vv zB,ow [],nn,nn,nn,nn,nn]) (fs_O (nO 1 bj.nd (FAL.out ad))) ?_ ?_
 rfl
 refine ax (inj:=fun (s:List D) (w:Option Sl)=>[vv zB,ow s,w,nn,nn,nn,nn]) (aR 2 (B:=fun (s:List D) (w:Option Sl) x=>[vv zB,ow s,vv x,nn,nn,nn,nn]) nn hpo rfl (bh bx.K (ac 0)) ?_ (au 2 bj.nd) rfl (fun _ _ _=>rfl) (fun s w x=>?_)) (fun zR w1=>?_)
 rfl
 ·refine ah (S':=fun zE=>[vv zB,ow zE,vv x,nn,nn,nn,nn]) (fs_X (ki 1 bx.K (FAL.out (aa (ac 2) ad)))) ?_ (fun zE=>?_)
  rfl
  exact ar ⟨vv x,rfl⟩
 refine nR 1 (S':=[vv zB,vv (.lst zR),w1,nn,nn,nn,nn]) rfl rfl ?_
 refine ax (inj:=fun (_:Unit) (w2:Unit)=>[vv zB,vv (.lst zR),w1,nn,nn,nn,nn]) (aD (dB bx (fe_N (rb bx rfl T.b_len rfl T.b_set (FAL.out (aa (ac 1) ad)))) af) ?_ ?_ ?_) (fun _ w2=>?_)
 rfl
 ·refine az (ak (ao bx.K (ac 1) af)) ?_
  rfl
 ·exact ar ⟨(),rfl⟩
 refine ah (S':=fun zW=>[vv zB,vv (.lst zR),w1,vv zW,nn,nn,nn]) (aq 3 bj.nd (dH (fe_N (bF bx rfl T.b_len (FAL.out (aa (ac 0) ad)))) af)) ?_ (fun zW=>?_)
 rfl
 refine aY (S':=[vv zB,vv (.lst zR),w1,vv zW,ow [],nn,nn]) (fs_O (nO 4 bj.nd (FAL.out ad))) ?_ ?_
 rfl
 refine ax (inj:=fun (s1:List D) (w3:Option Sl×Option Sl)=>[vv zB,vv (.lst zR),w1,vv zW,ow s1,w3.1,w3.2]) (aR 5 (B:=fun (s1:List D) (w3:Option Sl×Option Sl) x3=>[vv zB,vv (.lst zR),w1,vv zW,ow s1,vv x3,w3.2]) (nn,nn) hpo rfl (bh bx.K (aQ (aa af (aa (ac 3) ad)))) ?_ (au 5 bj.nd) rfl (fun _ _ _=>rfl) (fun s1 w3 x3=>?_)) (fun Ap w6=>?_)
 rfl
 ·refine ax (inj:=fun (s2:List D) (w4:Option Sl)=>[vv zB,vv (.lst zR),w1,vv zW,ow s2,vv x3,w4]) (aR 6 (B:=fun (s2:List D) (w4:Option Sl) x4=>[vv zB,vv (.lst zR),w1,vv zW,ow s2,vv x3,vv x4]) w3.2 hpo rfl (bh bx.K (aQ (aa af (aa (ac 3) ad)))) ?_ (au 6 bj.nd) rfl (fun _ _ _=>rfl) (fun s2 w4 x4=>?_)) (fun AF w5=>?_)
  rfl
  ·refine ah (S':=fun zU=>[vv zB,vv (.lst zR),w1,vv zW,ow zU,vv x3,vv x4]) (fs_A (qP 4 (FAL.out (aa (ae bx G.g56 rfl (aa (fe_C (aE (N:=["_law_row","_law_left","_law_half"]) (own:=1) (cap:=[6,3]) bx (BlkOk.of (by kernel_rfl)) (bh bx.K (kT bx.K (ac 0) (kg (ac 5)) (kg (aJ bx.K (ac 5) (ac 3))))) (aI (by decide)) (fun _ _ _ _ _=>au 0 (show List.Nodup (α:=Str) ["_law_row","_law_left","_law_half"] by decide +kernel)) (fun _ _ _ _ _=>(kT (ap bx).K (ac 0) (kg (ac 1)) (kg (aJ (ap bx).K (ac 1) (ac 2))))))) ad)) ad)))) ?_ (fun zU=>?_)
   rfl
   exact ar ⟨vv x4,rfl⟩
  exact ar ⟨(vv x3,w5),rfl⟩
 refine nR 4 (S':=[vv zB,vv (.lst zR),w1,vv zW,vv (.lst Ap),w6.1,w6.2]) rfl rfl ?_
 refine az (ak (fe_N (aG bx rfl T.b_tuple (FAL.out (aa (ac 4) ad))))) ?_
 rfl
theorem wI:OkD P w K mg base C k "_law_of" oB ["_law_rows_here"] (a1 (k8 t)):=ok1 wG fun zB _ _ _ _ _ _ _ _ bx _ _=>by
 show FL _ _ [vv zB] _ _ _
 refine az (ak (aQ (aa (y6 (qY bx (bc (aa af (aa af (aa af (aa af ad))))) (FAL.out (aa (fe_N (bF bx rfl T.b_len (FAL.out (aa (ac 0) ad)))) ad)))) (aa (ae bx G.g56 rfl (aa (ac 0) ad)) ad)))) ?_
 rfl
theorem mR:OkD P w K mg base C k "_law_by_way" fu ["_law_rows_here","_law_way"] (a2 (di t)):=ok2 bO fun zB zC _ _ _ _ _ _ _ _ bx hpo _=>by
 show FL _ _ [vv zB,vv zC,nn,nn] _ _ _
 refine ah (S':=fun zJ=>[vv zB,vv zC,vv zJ,nn]) (aq 2 bO.nd (fe_N (bF bx rfl T.b_len (FAL.out (aa (ac 0) ad))))) ?_ (fun zJ=>?_)
 rfl
 refine ax (inj:=fun (Al:D) (w:Unit)=>[vv Al,vv zC,vv zJ,nn]) (aD (tN (ac 1) af) ?_ ?_ ?_) (fun Al w=>?_)
 rfl
 ·refine ah (S':=fun Ae=>[vv Ae,vv zC,vv zJ,nn]) (aq 0 bO.nd (fe_N (aG bx rfl T.b_tuple (FAL.out (aa (fe_C (aE (N:=["_law_row"]) (own:=1) (cap:=[]) bx (BlkOk.of (by kernel_rfl)) (bh bx.K (ac 0)) (aI (by decide)) (fun _ _ _ _ _=>au 0 (show List.Nodup (α:=Str) ["_law_row"] by decide +kernel)) (fun _ _ _ _ _=>(yr (ap bx).K (ac 0) zi)))) ad))))) ?_ (fun Ae=>?_)
  rfl
  exact ar ⟨(),rfl⟩
 ·exact ar ⟨(),rfl⟩
 refine ax (inj:=fun (s:D) (w1:Option Sl)=>[vv s,vv zC,vv zJ,w1]) (aR 3 (B:=fun (s:D) (w1:Option Sl) x2=>[vv s,vv zC,vv zJ,vv x2]) nn hpo rfl (aW (av rfl T.b_range (FAL.out (aa (cG (ac 1) af) ad)))) ?_ (au 3 bO.nd) rfl (fun _ _ _=>rfl) (fun s w1 x2=>?_)) (fun As w2=>?_)
 rfl
 ·refine ah (S':=fun At=>[vv At,vv zC,vv zJ,vv x2]) (aq 0 bO.nd (fe_N (aG bx rfl T.b_tuple (FAL.out (aa (fe_C (aE (N:=["_law_y","_law_rows_here","_law_side"]) (own:=1) (cap:=[0,2]) bx (BlkOk.of (by kernel_rfl)) (aW (av rfl T.b_range (FAL.out (aa (ac 2) ad)))) (aI (by decide)) (fun _ _ _ _ _=>au 0 (show List.Nodup (α:=Str) ["_law_y","_law_rows_here","_law_side"] by decide +kernel)) (fun _ _ _ _ _=>(fe_N (aG (ap bx) rfl T.b_tuple (FAL.out (aa (fe_C (aE (N:=["_law_x","_law_y","_law_rows_here","_law_side"]) (own:=1) (cap:=[0,1,2]) (ap bx) (BlkOk.of (by kernel_rfl)) (aW (av rfl T.b_range (FAL.out (aa (ac 2) ad)))) (aI (by decide)) (fun _ _ _ _ _=>au 0 (show List.Nodup (α:=Str) ["_law_x","_law_y","_law_rows_here","_law_side"] by decide +kernel)) (fun _ _ _ _ _=>(ao (ap (ap bx)).K (ao (ap (ap bx)).K (ac 2) (cF (cF (ac 3) af) (ac 0))) (ac 1))))) ad))))))) ad))))) ?_ (fun At=>?_)
  rfl
  exact ar ⟨vv x2,rfl⟩
 refine aB (ak (ac 0)) ?_
 rfl
theorem mS:OkD P w K mg base C k "_law_rounds" fv ["_law_side","_law_way"] (a2 (i8 t)):=ok2 aH fun zJ zC _ _ _ _ _ _ _ _ bx hpo _=>by
 show FL _ _ [vv zJ,vv zC,nn,nn,nn,nn,nn,nn,nn,nn] _ _ _
 refine ah (S':=fun zM=>[vv zJ,vv zC,vv zM,nn,nn,nn,nn,nn,nn,nn]) (aq 2 aH.nd (fe_N (aG bx rfl T.b_tuple (FAL.out (aa (fe_C (aE (N:=["_law_y","_law_side"]) (own:=1) (cap:=[0]) bx (BlkOk.of (by kernel_rfl)) (aW (av rfl T.b_range (FAL.out (aa (ac 0) ad)))) (aI (by decide)) (fun _ _ _ _ _=>au 0 (show List.Nodup (α:=Str) ["_law_y","_law_side"] by decide +kernel)) (fun _ _ _ _ _=>(fe_N (aG (ap bx) rfl T.b_tuple (FAL.out (aa (fe_C (aE (N:=["_law_x","_law_side","_law_y"]) (own:=1) (cap:=[1,0]) (ap bx) (BlkOk.of (by kernel_rfl)) (aW (av rfl T.b_range (FAL.out (aa (ac 1) ad)))) (aI (by decide)) (fun _ _ _ _ _=>au 0 (show List.Nodup (α:=Str) ["_law_x","_law_side","_law_y"] by decide +kernel)) (fun _ _ _ _ _=>(aJ (ap (ap bx)).K (aU (ap (ap bx)).K (ac 1) (ac 2)) (ac 0))))) ad))))))) ad))))) ?_ (fun zM=>?_)
 rfl
 refine ah (S':=fun zO=>[vv zJ,vv zC,vv zM,vv zO,nn,nn,nn,nn,nn,nn]) (aq 3 aH.nd (ae bx G.g133 rfl (aa (ac 2) (aa (ac 1) ad)))) ?_ (fun zO=>?_)
 rfl
 refine aY (S':=[vv zJ,vv zC,vv zM,vv zO,dc [],nn,nn,nn,nn,nn]) (rk 4 aH.nd) ?_ ?_
 rfl
 refine ax (inj:=fun (s:List (L2.Key×D)) (w:Option Sl×Option Sl)=>[vv zJ,vv zC,vv zM,vv zO,dc s,w.1,w.2,nn,nn,nn]) (aR 5 (B:=fun (s:List (L2.Key×D)) (w:Option Sl×Option Sl) x3=>[vv zJ,vv zC,vv zM,vv zO,dc s,vv x3,w.2,nn,nn,nn]) (nn,nn) hpo rfl (aW (av rfl T.b_range (FAL.out (aa (ac 0) ad)))) ?_ (au 5 aH.nd) rfl (fun _ _ _=>rfl) (fun s w x3=>?_)) (fun zX w3=>?_)
 rfl
 ·refine ax (inj:=fun (s1:List (L2.Key×D)) (w1:Option Sl)=>[vv zJ,vv zC,vv zM,vv zO,dc s1,vv x3,w1,nn,nn,nn]) (aR 6 (B:=fun (s1:List (L2.Key×D)) (w1:Option Sl) x4=>[vv zJ,vv zC,vv zM,vv zO,dc s1,vv x3,vv x4,nn,nn,nn]) w.2 hpo rfl (aW (av rfl T.b_range (FAL.out (aa (ac 0) ad)))) ?_ (au 6 aH.nd) rfl (fun _ _ _=>rfl) (fun s1 w1 x4=>?_)) (fun AH w2=>?_)
  rfl
  ·refine ah (S':=fun Af=>[vv zJ,vv zC,vv zM,vv zO,dc Af,vv x3,vv x4,nn,nn,nn]) (um 4 bx (ao bx.K (ao bx.K (ac 3) (ac 5)) (ac 6)) (ao bx.K (ao bx.K (ac 2) (ac 5)) (ac 6))) ?_ (fun Af=>?_)
   rfl
   exact ar ⟨vv x4,rfl⟩
  exact ar ⟨(vv x3,w2),rfl⟩
 refine aY (S':=[vv zJ,vv zC,vv zM,vv zO,dc zX,w3.1,w3.2,vv (.int 0),nn,nn]) (aq 7 aH.nd af) ?_ ?_
 rfl
 refine wq 4 (S':=[vv zJ,vv zC,vv zM,vv zO,vv (dicD zX),w3.1,w3.2,vv (.int 0),nn,nn]) rfl rfl ?_
 refine ah (S':=fun zZ=>[vv zJ,vv zC,vv zM,vv zO,vv (dicD zX),w3.1,w3.2,vv (.int 0),ow zZ,nn]) (zm (uz 8 bx aH.nd rfl T.b_sorted (FAL.out (aa (fe_N (uy bx rfl T.b_list (FAL.out (aa (ac 4) ad)))) ad)))) ?_ (fun zZ=>?_)
 rfl
 refine ax (inj:=fun (s2:D×List D) (w4:Option Sl)=>[vv zJ,vv zC,vv zM,vv zO,vv (dicD zX),w3.1,w3.2,vv s2.1,ow s2.2,w4]) (gL 100 nn hpo (pD 8 (cK bx (ac 8) (bc ad))) (fun _ _=>rfl) rfl (fun s2 w4=>?_)) (fun s5 w7=>?_)
 ·refine ah (S':=fun Ad=>[vv zJ,vv zC,vv zM,vv zO,vv (dicD zX),w3.1,w3.2,vv Ad,ow s2.2,w4]) (aq 7 aH.nd (aJ bx.K (ac 7) af)) ?_ (fun Ad=>?_)
  rfl
  refine ah (S':=fun Am=>[vv zJ,vv zC,vv zM,vv zO,vv (dicD zX),w3.1,w3.2,vv Ad,ow s2.2,vv Am]) (aq 9 aH.nd (t0 8 bx.K af)) ?_ (fun Am=>?_)
  rfl
  refine ax (inj:=fun (s3:List D×D) (w5:Unit)=>[vv zJ,vv zC,vv zM,vv zO,vv (dicD zX),w3.1,w3.2,vv Ad,ow s3.1,vv s3.2]) (gL 100 () hpo (pD 8 (yl bx (ac 9) (ac 8))) (fun _ _=>rfl) rfl (fun s3 w5=>?_)) (fun s4 w6=>?_)
  ·refine ah (S':=fun Aq=>[vv zJ,vv zC,vv zM,vv zO,vv (dicD zX),w3.1,w3.2,vv Ad,ow Aq,vv s3.2]) (zk (rD 8 (FAL.out (aa (ac 9) ad)))) ?_ (fun Aq=>?_)
   rfl
   refine ah (S':=fun Au=>[vv zJ,vv zC,vv zM,vv zO,vv (dicD zX),w3.1,w3.2,vv Ad,ow Aq,vv Au]) (aq 9 aH.nd (wn bx (ac 4) (ac 9))) ?_ (fun Au=>?_)
   rfl
   exact ar ⟨(),rfl⟩
  exact ar ⟨vv s4.2,rfl⟩
 refine aB (ak (ac 7)) ?_
 rfl
theorem jm:OkD P w K mg base C k "law" aZ ["_law_script"] (a1 (eL t)):=ok1 ay fun zA _ _ _ _ _ _ _ _ bx hpo _=>by
 show FL _ _ [vv zA,nn,nn,nn,nn,nn,nn,nn,nn,nn,nn,nn,nn,nn,nn,nn,nn] _ _ _
 refine ah (S':=fun zK=>[vv zA,vv zK,nn,nn,nn,nn,nn,nn,nn,nn,nn,nn,nn,nn,nn,nn,nn]) (aq 1 ay.nd (ae bx G.g33 rfl (aa (ac 0) (aa af (aa af ad))))) ?_ (fun zK=>?_)
 rfl
 refine ah (S':=fun zL=>[vv zA,vv zK,vv zL,nn,nn,nn,nn,nn,nn,nn,nn,nn,nn,nn,nn,nn,nn]) (aq 2 ay.nd (ae bx G.g55 rfl (aa (ac 1) ad))) ?_ (fun zL=>?_)
 rfl
 refine ah (S':=fun zC=>[vv zA,vv zK,vv zL,vv zC,nn,nn,nn,nn,nn,nn,nn,nn,nn,nn,nn,nn,nn]) (aq 3 ay.nd (ae bx G.g31 rfl (aa (ac 0) (aa af (aa af ad))))) ?_ (fun zC=>?_)
 rfl
 refine ah (S':=fun Ax=>[vv zA,vv zK,vv zL,vv zC,vv Ax,nn,nn,nn,nn,nn,nn,nn,nn,nn,nn,nn,nn]) (aq 4 ay.nd (ae bx G.g128 rfl (aa (ac 1) (aa (ac 3) ad)))) ?_ (fun Ax=>?_)
 rfl
 refine ax (inj:=fun (Ab:D) (w:Unit)=>[vv zA,vv zK,vv zL,vv zC,vv Ab,nn,nn,nn,nn,nn,nn,nn,nn,nn,nn,nn,nn]) (aD (dB bx (ae bx G.g31 rfl (aa (ac 0) (aa af (aa af ad)))) af) ?_ ?_ ?_) (fun Ab w=>?_)
 rfl
 ·refine ah (S':=fun Ag=>[vv zA,vv zK,vv zL,vv zC,vv Ag,nn,nn,nn,nn,nn,nn,nn,nn,nn,nn,nn,nn]) (aq 4 ay.nd (ae bx G.g33 rfl (aa (ac 0) (aa af (aa af ad))))) ?_ (fun Ag=>?_)
  rfl
  exact ar ⟨(),rfl⟩
 ·exact ar ⟨(),rfl⟩
 refine ax (inj:=fun (zH:D) (w1:Option Sl)=>[vv zA,vv zK,vv zL,vv zC,vv zH,w1,nn,nn,nn,nn,nn,nn,nn,nn,nn,nn,nn]) (aD (dB bx (ae bx G.g31 rfl (aa (ac 0) (aa af (aa af ad)))) af) ?_ ?_ ?_) (fun zH w1=>?_)
 rfl
 ·refine ah (S':=fun zQ=>[vv zA,vv zK,vv zL,vv zC,vv Ab,mt zQ,nn,nn,nn,nn,nn,nn,nn,nn,nn,nn,nn]) (rS 5 (N:=["_law_row"]) (own:=1) (cap:=[]) bx (BlkOk.of (by kernel_rfl)) (bh bx.K (ae bx G.g55 rfl (aa (ac 4) ad))) (by decide) (fun _ _ _ _ _=>o4 (show List.Nodup (α:=Str) ["_law_row"] by decide +kernel) rfl (by first | exact Or.inl rfl | exact Or.inr rfl)) (fun _ _ _ _ _=>wa (ap bx).K rfl T.b_list) ay.nd (hsw:=by kernel_rfl)) ?_ (fun zQ=>?_)
  rfl
  refine ah (S':=fun Ai=>[vv zA,vv zK,vv zL,vv zC,vv Ab,mt Ai,nn,nn,nn,nn,nn,nn,nn,nn,nn,nn,nn]) (uf 5 bx (ae bx G.g31 rfl (aa (ac 0) (aa af (aa af ad)))) (yc af) af) ?_ (fun Ai=>?_)
  rfl
  refine v8 5 (S':=[vv zA,vv zK,vv zL,vv zC,vv Ab,vv (.lst (Ai.map .lst)),nn,nn,nn,nn,nn,nn,nn,nn,nn,nn,nn]) rfl rfl ?_
  refine ah (S':=fun An=>[vv zA,vv zK,vv zL,vv zC,vv An,vv (.lst (Ai.map .lst)),nn,nn,nn,nn,nn,nn,nn,nn,nn,nn,nn]) (aq 4 ay.nd (ae bx G.g57 rfl (aa (fe_N (aG bx rfl T.b_tuple (FAL.out (aa (fe_C (aE (N:=["_law_row"]) (own:=1) (cap:=[]) bx (BlkOk.of (by kernel_rfl)) (bh bx.K (ac 5)) (aI (by decide)) (fun _ _ _ _ _=>au 0 (show List.Nodup (α:=Str) ["_law_row"] by decide +kernel)) (fun _ _ _ _ _=>(fe_N (aG (ap bx) rfl T.b_tuple (FAL.out (aa (ac 0) ad))))))) ad)))) ad))) ?_ (fun An=>?_)
  rfl
  exact ar ⟨vv (.lst (Ai.map .lst)),rfl⟩
 ·exact ar ⟨nn,rfl⟩
 refine ah (S':=fun zN=>[vv zA,vv zK,vv zL,vv zC,vv zH,w1,vv zN,nn,nn,nn,nn,nn,nn,nn,nn,nn,nn]) (aq 6 ay.nd (ae bx G.g55 rfl (aa (ac 4) ad))) ?_ (fun zN=>?_)
 rfl
 refine ah (S':=fun zT=>[vv zA,vv zK,vv zL,vv zC,vv zH,w1,vv zN,vv zT,nn,nn,nn,nn,nn,nn,nn,nn,nn]) (fs_C (kQ 7 (N:=["_law_k","_law_yours","_law_mine"]) (own:=1) (cap:=[6,2]) bx (BlkOk.of (by kernel_rfl)) (aW (av rfl T.b_range (FAL.out (aa af ad)))) (aI (by decide)) (fun _ _ _ _ _=>au 0 (show List.Nodup (α:=Str) ["_law_k","_law_yours","_law_mine"] by decide +kernel)) (fun _ _ _ _ _=>(dB (ap bx) (ae (ap bx) G.g133 rfl (aa (ac 2) (aa (ac 0) ad))) (ac 1))) (fun _ _ _ _ _=>(ac 0)) ay.nd (hsw:=by kernel_rfl))) ?_ (fun zT=>?_)
 rfl
 refine ax (inj:=fun (_:Unit) (w2:Unit)=>[vv zA,vv zK,vv zL,vv zC,vv zH,w1,vv zN,vv zT,nn,nn,nn,nn,nn,nn,nn,nn,nn]) (aD (ft_w (eU (cK bx (ae bx G.g137 rfl (aa (ac 1) (aa (ac 4) ad))) (ac 7)) (eU (cK bx (ae bx G.g138 rfl (aa (ac 1) (aa (ac 4) ad))) (t5 bx (ac 7) (bc ad))) (cZ (cK bx (ae bx G.g138 rfl (aa (ac 4) (aa (ac 1) ad))) (t5 bx (ac 7) (bc ad))))))) ?_ ?_ ?_) (fun _ w2=>?_)
 rfl
 ·refine aB (ak dA) ?_
  rfl
 ·exact ar ⟨(),rfl⟩
 refine ah (S':=fun zF=>[vv zA,vv zK,vv zL,vv zC,vv zH,w1,vv zN,vv zT,vv zF,nn,nn,nn,nn,nn,nn,nn,nn]) (aq 8 ay.nd (fe_N (pG bx rfl T.b_min (FAL.out (aa (fe_C (aE (N:=["_law_k","_law_mine"]) (own:=1) (cap:=[2]) bx (BlkOk.of (by kernel_rfl)) (aW (av rfl T.b_range (FAL.out (aa af ad)))) (aI (by decide)) (fun _ _ _ _ _=>au 0 (show List.Nodup (α:=Str) ["_law_k","_law_mine"] by decide +kernel)) (fun _ _ _ _ _=>(ae (ap bx) G.g133 rfl (aa (ac 1) (aa (ac 0) ad)))))) ad))))) ?_ (fun zF=>?_)
 rfl
 refine ax (inj:=fun (_:Unit) (w3:Unit)=>[vv zA,vv zK,vv zL,vv zC,vv zH,w1,vv zN,vv zT,vv zF,nn,nn,nn,nn,nn,nn,nn,nn]) (aD (ft_w (eU (cK bx (ae bx G.g50 rfl (aa (ae bx G.g139 rfl (aa (ac 1) ad)) ad)) (ac 8)) (cZ (cK bx (tR bx (ae bx G.g139 rfl (aa (ac 1) ad)) (ae bx G.g139 rfl (aa (ac 4) ad))) (t5 bx (ac 7) (bc ad)))))) ?_ ?_ ?_) (fun _ w3=>?_)
 rfl
 ·refine aB (ak dA) ?_
  rfl
 ·exact ar ⟨(),rfl⟩
 refine ax (inj:=fun (_:Unit) (w4:Unit)=>[vv zA,vv zK,vv zL,vv zC,vv zH,w1,vv zN,vv zT,vv zF,nn,nn,nn,nn,nn,nn,nn,nn]) (aD (cK bx (ae bx G.g139 rfl (aa (ae bx G.g128 rfl (aa (ac 1) (aa (ac 3) ad))) ad)) (ae bx G.g139 rfl (aa (ac 1) ad))) ?_ ?_ ?_) (fun _ w4=>?_)
 rfl
 ·refine aB (ak dA) ?_
  rfl
 ·exact ar ⟨(),rfl⟩
 refine ah (S':=fun zE=>[vv zA,vv zK,vv zL,vv zC,vv zH,w1,vv zN,vv zT,vv zF,vv zE,nn,nn,nn,nn,nn,nn,nn]) (aq 9 ay.nd (aJ bx.K af (ae bx G.g31 rfl (aa (ac 0) (aa af (aa af ad)))))) ?_ (fun zE=>?_)
 rfl
 refine aY (S':=[vv zA,vv zK,vv zL,vv zC,vv zH,w1,vv zN,vv zT,vv zF,vv zE,dr [],nn,nn,nn,nn,nn,nn]) (rQ 10 ay.nd) ?_ ?_
 rfl
 refine ax (inj:=fun (s:List (List (List Int)×D)) (w5:Option Sl×Option Sl)=>[vv zA,vv zK,vv zL,vv zC,vv zH,w5.1,vv zN,vv zT,vv zF,vv zE,dr s,w5.2,nn,nn,nn,nn,nn]) (aR 11 (B:=fun (s:List (List (List Int)×D)) (w5:Option Sl×Option Sl) x26=>[vv zA,vv zK,vv zL,vv zC,vv zH,w5.1,vv zN,vv zT,vv zF,vv zE,dr s,vv x26,nn,nn,nn,nn,nn]) (w1,nn) hpo rfl (aW (av rfl T.b_range (FAL.out (aa (aU bx.K (aU bx.K (aU bx.K (ac 9) (ac 9)) (ac 9)) (ac 9)) ad)))) ?_ (au 11 ay.nd) rfl (fun _ _ _=>rfl) (fun s w5 x26=>?_)) (fun zV w6=>?_)
 rfl
 ·refine ah (S':=fun Ay=>[vv zA,vv zK,vv zL,vv zC,vv zH,vv Ay,vv zN,vv zT,vv zF,vv zE,dr s,vv x26,nn,nn,nn,nn,nn]) (aq 5 ay.nd (fe_C (aE (N:=["_law_k","_law_worths","_law_number"]) (own:=1) (cap:=[9,11]) bx (BlkOk.of (by kernel_rfl)) (aW (av rfl T.b_range (FAL.out (aa af ad)))) (aI (by decide)) (fun _ _ _ _ _=>au 0 (show List.Nodup (α:=Str) ["_law_k","_law_worths","_law_number"] by decide +kernel)) (fun _ _ _ _ _=>(cG (dH (ac 2) (ao (ap bx).K (bc (aa af (aa (ac 1) (aa (aU (ap bx).K (ac 1) (ac 1)) (aa (aU (ap bx).K (aU (ap bx).K (ac 1) (ac 1)) (ac 1)) ad))))) (ac 0))) (ac 1))))) (hs:=by kernel_rfl)) ?_ (fun Ay=>?_)
  rfl
  refine ah (S':=fun Av=>[vv zA,vv zK,vv zL,vv zC,vv zH,vv Ay,vv zN,vv zT,vv zF,vv zE,dr Av,vv x26,nn,nn,nn,nn,nn]) (uG 10 bx dA (fe_N (pG bx rfl T.b_min (FAL.out (aa (fe_C (aE (N:=["_law_k","_law_some"]) (own:=1) (cap:=[5]) bx (BlkOk.of (by kernel_rfl)) (aW (av rfl T.b_range (FAL.out (aa af ad)))) (aI (by decide)) (fun _ _ _ _ _=>au 0 (show List.Nodup (α:=Str) ["_law_k","_law_some"] by decide +kernel)) (fun _ _ _ _ _=>(ae (ap bx) G.g133 rfl (aa (aQ (aa (fe_N (aG (ap bx) rfl T.b_tuple (FAL.out (aa (kT (ap bx).K (ac 1) xi (kg af)) ad)))) (aa (fe_N (aG (ap bx) rfl T.b_tuple (FAL.out (aa (kT (ap bx).K (ac 1) (kg af) xi) ad)))) ad))) (aa (ac 0) ad)))))) ad))))) ?_ (fun Av=>?_)
  rfl
  exact ar ⟨(vv Ay,vv x26),rfl⟩
 refine ax (inj:=fun (_:Unit) (w7:Unit)=>[vv zA,vv zK,vv zL,vv zC,vv zH,w6.1,vv zN,vv zT,vv zF,vv zE,dr zV,w6.2,nn,nn,nn,nn,nn]) (aD (ft_w (eU (cK bx (ae bx G.g143 rfl (aa af (aa (ac 9) ad))) (oa 10 bx rfl T.b_len)) (cZ (cK bx (ae bx G.g143 rfl (aa af (aa (ac 9) ad))) (ac 9))))) ?_ ?_ ?_) (fun _ w7=>?_)
 rfl
 ·refine aB (ak dA) ?_
  rfl
 ·exact ar ⟨(),rfl⟩
 refine ah (S':=fun zG=>[vv zA,vv zK,vv zL,vv zC,vv zH,w6.1,vv zN,vv zT,vv zF,vv zE,dr zV,w6.2,vv zG,nn,nn,nn,nn]) (aq 12 ay.nd (aJ bx.K af (fe_N (v7 bx rfl T.b_int (FAL.out (aa (tR bx (ae bx G.g31 rfl (aa (ac 0) (aa af (aa af ad)))) af) ad)))))) ?_ (fun zG=>?_)
 rfl
 refine aY (S':=[vv zA,vv zK,vv zL,vv zC,vv zH,w6.1,vv zN,vv zT,vv zF,vv zE,dr zV,w6.2,vv zG,vv (.int 0),nn,nn,nn]) (aq 13 ay.nd af) ?_ ?_
 rfl
 refine ax (inj:=fun (s1:D) (w8:Option Sl×Option Sl×Option Sl)=>[vv zA,vv zK,vv zL,vv zC,vv zH,w6.1,vv zN,vv zT,vv zF,vv zE,dr zV,w6.2,vv zG,vv s1,w8.1,w8.2.1,w8.2.2]) (aR 14 (B:=fun (s1:D) (w8:Option Sl×Option Sl×Option Sl) x45=>[vv zA,vv zK,vv zL,vv zC,vv zH,w6.1,vv zN,vv zT,vv zF,vv zE,dr zV,w6.2,vv zG,vv s1,vv x45,w8.2.1,w8.2.2]) (nn,nn,nn) hpo rfl (aW (av rfl T.b_range (FAL.out (aa af ad)))) ?_ (au 14 ay.nd) rfl (fun _ _ _=>rfl) (fun s1 w8 x45=>?_)) (fun Ar w11=>?_)
 rfl
 ·refine aY (S':=[vv zA,vv zK,vv zL,vv zC,vv zH,w6.1,vv zN,vv zT,vv zF,vv zE,dr zV,w6.2,vv zG,vv s1,vv x45,vv (.int 1),w8.2.2]) (aq 15 ay.nd af) ?_ ?_
  rfl
  refine ax (inj:=fun (s2:D) (w9:Option Sl)=>[vv zA,vv zK,vv zL,vv zC,vv zH,w6.1,vv zN,vv zT,vv zF,vv zE,dr zV,w6.2,vv zG,vv s1,vv x45,vv s2,w9]) (aR 16 (B:=fun (s2:D) (w9:Option Sl) x48=>[vv zA,vv zK,vv zL,vv zC,vv zH,w6.1,vv zN,vv zT,vv zF,vv zE,dr zV,w6.2,vv zG,vv s1,vv x45,vv s2,vv x48]) w8.2.2 hpo rfl (aW (av rfl T.b_range (FAL.out (aa (ae bx G.g144 rfl (aa (ao bx.K (bc (aa af (aa af (aa af (aa af ad))))) (ac 12)) (aa (ac 14) ad))) ad)))) ?_ (au 16 ay.nd) rfl (fun _ _ _=>rfl) (fun s2 w9 x48=>?_)) (fun Ac w10=>?_)
  rfl
  ·refine ah (S':=fun Ak=>[vv zA,vv zK,vv zL,vv zC,vv zH,w6.1,vv zN,vv zT,vv zF,vv zE,dr zV,w6.2,vv zG,vv s1,vv x45,vv Ak,vv x48]) (aq 15 ay.nd (aU bx.K (ac 15) (ac 9))) ?_ (fun Ak=>?_)
   rfl
   exact ar ⟨vv x48,rfl⟩
  refine ah (S':=fun Aw=>[vv zA,vv zK,vv zL,vv zC,vv zH,w6.1,vv zN,vv zT,vv zF,vv zE,dr zV,w6.2,vv zG,vv Aw,vv x45,vv Ac,w10]) (aq 13 ay.nd (aJ bx.K (ac 13) (ac 15))) ?_ (fun Aw=>?_)
  rfl
  exact ar ⟨(vv x45,vv Ac,w10),rfl⟩
 refine az (ak (iK (tR bx (aU bx.K (ae bx G.g143 rfl (aa (ac 12) (aa (ac 9) ad))) af) (ac 13)) (iJ (yR (ae bx G.g138 rfl (aa (ac 1) (aa (ae bx G.g53 rfl (aa (ac 2) ad)) ad))) dA)))) ?_
 rfl
end
end Lw
end
noncomputable section
section
namespace Lw
open PySem FF
inductive Q (α:Type) where
 | lf (a:α) | nd (a b c d:Q α)
 deriving DecidableEq
section
variable {α β γ:Type}
def Q.dep:Q α→Nat
 | .lf _=>0
 | .nd a b c d=>1+max (max a.dep b.dep) (max c.dep d.dep)
def Q.at:Nat→Q α→Nat→Nat→α
 | _,.lf a,_,_=>a
 | 0,.nd a _ _ _,x,y=>Q.at 0 a x y
 | n+1,.nd a b c d,x,y=>if y < 2^n then (if x < 2^n then a.at n x y else b.at n (x - 2^n) y) else (if x < 2^n then c.at n x (y - 2^n) else d.at n (x - 2^n) (y - 2^n))
def Q.All (p:α→Prop):Q α→Prop
 | .lf a=>p a
 | .nd a b c d=>a.All p∧b.All p∧c.All p∧d.All p
def sh (f:Nat→Nat→α)(a b:Nat):Nat→Nat→α:=fun x y=>f (x+a) (y+b)
@[simp] theorem kx (n:Nat)(a:α)(x y:Nat):Q.at n (.lf a) x y=a:=by cases n<;>rfl
variable [DecidableEq α][DecidableEq β][DecidableEq γ]
def put4 (a b c d:Q α):Q α:=match a with
 | .lf v=>if b=.lf v∧c=.lf v∧d=.lf v then .lf v else .nd a b c d
 | _=>.nd a b c d
def T (f:Nat→Nat→α):Nat→Q α
 | 0=>.lf (f 0 0)
 | n+1=>put4 (T f n) (T (sh f (2^n) 0) n) (T (sh f 0 (2^n)) n) (T (sh f (2^n) (2^n)) n)
def Q.lean:Q α→Q α
 | .lf a=>.lf a
 | .nd a b c d=>put4 a.lean b.lean c.lean d.lean
theorem bz (n:Nat):(2^(n+1):Nat)=2^n+2^n:=by rw[Nat.pow_succ];omega
theorem eM (v:α):put4 (.lf v) (.lf v) (.lf v) (.lf v)=.lf v:=by simp[put4]
theorem wJ (n:Nat)(a b c d:Q α)(x y:Nat):(put4 a b c d).at (n+1) x y=(Q.nd a b c d).at (n+1) x y:=by
 unfold put4
 split
 ·split
  ·rename_i h
   obtain⟨rfl,rfl,rfl⟩:=h
   simp only[Q.at,kx,ite_self]
  ·rfl
 ·rfl
theorem uK (n:Nat)(a b c d:Q α)(ha:a.dep≤n)(hb:b.dep≤n)(hc:c.dep≤n)(hd:d.dep≤n):(put4 a b c d).dep≤n+1:=by
 unfold put4
 split
 ·split
  ·exact Nat.zero_le _
  ·simp only[Q.dep] at *;omega
 ·simp only[Q.dep] at *;omega
theorem aS:∀ (n:Nat) (f g:Nat→Nat→α),(∀ x y,x < 2^n→y < 2^n→f x y=g x y)→T f n=T g n
 | 0,f,g,h=>by rw[T,T,h 0 0 (by decide) (by decide)]
 | n+1,f,g,h=>by
  rw[bz]at h
  rw[T,T,aS n f g fun x y hx hy=>h x y (by omega) (by omega),aS n (sh f (2^n) 0) (sh g (2^n) 0) fun x y hx hy=>h _ _ (by omega) (by omega),
   aS n (sh f 0 (2^n)) (sh g 0 (2^n)) fun x y hx hy=>h _ _ (by omega) (by omega),aS n (sh f (2^n) (2^n)) (sh g (2^n) (2^n)) fun x y hx hy=>h _ _ (by omega) (by omega)]
theorem lC (v:α):∀ n,T (fun _ _=>v) n=.lf v
 | 0=>rfl
 | n+1=>by
  rw[T]
  show put4 (T (fun _ _=>v) n) (T (fun _ _=>v) n) (T (fun _ _=>v) n) (T (fun _ _=>v) n)=_
  rw[lC v n,eM]
theorem dW:∀ (n:Nat) (f:Nat→Nat→α),(T f n).dep≤n
 | 0,f=>Nat.le_refl _
 | n+1,f=>uK n _ _ _ _ (dW n _) (dW n _) (dW n _) (dW n _)
theorem T_at:∀ (n:Nat) (f:Nat→Nat→α) (x y:Nat),x < 2^n→y < 2^n→(T f n).at n x y=f x y
 | 0,f,x,y,hx,hy=>by
  have:x=0:=by simp at hx;exact hx
  have:y=0:=by simp at hy;exact hy
  subst x;subst y
  rfl
 | n+1,f,x,y,hx,hy=>by
  rw[bz]at hx hy
  rw[T,wJ,Q.at]
  by_cases h1:y < 2^n
  ·rw[if_pos h1]
   by_cases h2:x < 2^n
   ·rw[if_pos h2,T_at n f x y h2 h1]
   ·rw[if_neg h2,T_at n _ _ _ (by omega) h1]
    unfold sh
    rw[show x - 2^n+2^n=x by omega,Nat.add_zero]
  ·rw[if_neg h1]
   by_cases h2:x < 2^n
   ·rw[if_pos h2,T_at n _ _ _ h2 (by omega)]
    unfold sh
    rw[show y - 2^n+2^n=y by omega,Nat.add_zero]
   ·rw[if_neg h2,T_at n _ _ _ (by omega) (by omega)]
    unfold sh
    rw[show x - 2^n+2^n=x by omega,show y - 2^n+2^n=y by omega]
theorem zq {n:Nat}{f g:Nat→Nat→α}(h:T f n=T g n):∀ x y,x < 2^n→y < 2^n→f x y=g x y:=fun x y hx hy=>by
 rw[← T_at n f x y hx hy,h,T_at n g x y hx hy]
theorem cu {n:Nat}{f g:Nat→Nat→α}:T f n=T g n↔∀ x y,x < 2^n→y < 2^n→f x y=g x y:=⟨zq,aS n f g⟩
theorem mU {p:α→Prop}:∀ (n:Nat) (f:Nat→Nat→α),(∀ x y,x < 2^n→y < 2^n→p (f x y))→(T f n).All p
 | 0,f,h=>h 0 0 (by decide) (by decide)
 | n+1,f,h=>by
  rw[bz]at h
  have ha:=mU n f fun x y hx hy=>h x y (by omega) (by omega)
  have hb:=mU n (sh f (2^n) 0) fun x y hx hy=>h _ _ (by omega) (by omega)
  have hc:=mU n (sh f 0 (2^n)) fun x y hx hy=>h _ _ (by omega) (by omega)
  have hd:=mU n (sh f (2^n) (2^n)) fun x y hx hy=>h _ _ (by omega) (by omega)
  rw[T]
  unfold put4
  split
  ·rename_i v e
   split
   ·rw[e]at ha;exact ha
   ·exact⟨ha,hb,hc,hd⟩
  ·exact⟨ha,hb,hc,hd⟩
theorem hJ {p:α→Prop}:∀ (n:Nat) (t:Q α) (x y:Nat),t.All p→p (t.at n x y)
 | n,.lf a,x,y,h=>by rw[kx];exact h
 | 0,.nd a _ _ _,x,y,h=>hJ 0 a x y h.1
 | n+1,.nd a b c d,x,y,h=>by
  rw[Q.at]
  split
  ·split
   ·exact hJ n a _ _ h.1
   ·exact hJ n b _ _ h.2.1
  ·split
   ·exact hJ n c _ _ h.2.2.1
   ·exact hJ n d _ _ h.2.2.2
theorem uL (n:Nat)(a b c d:Q α):T ((Q.nd a b c d).at (n+1)) (n+1)=put4 (T (a.at n) n) (T (b.at n) n) (T (c.at n) n) (T (d.at n) n):=by
 rw[T]
 congr 1
 ·exact aS n _ _ fun x y hx hy=>by rw[Q.at,if_pos hy,if_pos hx]
 ·exact aS n _ _ fun x y hx hy=>by
   unfold sh
   rw[Q.at,if_pos (by omega),if_neg (by omega)]
   simp
 ·exact aS n _ _ fun x y hx hy=>by
   unfold sh
   rw[Q.at,if_neg (by omega),if_pos (by omega)]
   simp
 ·exact aS n _ _ fun x y hx hy=>by
   unfold sh
   rw[Q.at,if_neg (by omega),if_neg (by omega)]
   simp
theorem hU:∀ (n:Nat) (t:Q α),t.dep≤n→t.lean=T (t.at n) n
 | n,.lf a,_=>by
  rw[Q.lean]
  exact(lC a n).symm.trans (aS _ _ _ fun x y _ _=>(kx _ _ _ _).symm)
 | 0,.nd a b c d,h=>by simp[Q.dep]at h
 | n+1,.nd a b c d,h=>by
  have h':1+max (max a.dep b.dep) (max c.dep d.dep)≤n+1:=h
  rw[uL,Q.lean,hU n a (by omega),hU n b (by omega),hU n c (by omega),hU n d (by omega)]
theorem f8 {n:Nat}{t:Q α}(h:t.dep≤n):t.lean.dep≤n:=by rw[hU n t h];exact dW n _
structure En (e:α→D):Prop where
 tup:∀ a,isTup (e a)=false
 gd:∀ n a,good n (e a)=true
 eq:∀ a b,eqD (e a) (e b)=decide (a=b)
 tD:∀ a xs,eqD (e a) (.tup xs)=false
 dT:∀ a xs,eqD (.tup xs) (e a)=false
end
section
variable {α:Type}[DecidableEq α]{e:α→D}
def Q.d (e:α→D):Q α→D
 | .lf a=>e a
 | .nd a b c d=>.tup [a.d e,b.d e,c.d e,d.d e]
theorem Q.gd (E:En e):∀ (n:Nat) (t:Q α),t.dep≤n→good n (t.d e)=true
 | n,.lf a,_=>E.gd n a
 | 0,.nd a b c d,h=>by simp[Q.dep]at h
 | n+1,.nd a b c d,h=>by
  have h':1+max (max a.dep b.dep) (max c.dep d.dep)≤n+1:=h
  rw[Q.d,good,goods,goods,goods,goods,goods,Q.gd E n a (by omega),Q.gd E n b (by omega),Q.gd E n c (by omega),Q.gd E n d (by omega)]
  rfl
theorem Q.eqd (E:En e):∀ (s t:Q α),eqD (s.d e) (t.d e)=decide (s=t)
 | .lf a,.lf b=>by rw[Q.d,Q.d,E.eq];simp
 | .lf a,.nd ..=>by rw[Q.d,Q.d,E.tD];simp
 | .nd ..,.lf b=>by rw[Q.d,Q.d,E.dT];simp
 | .nd a b c d,.nd a' b' c' d'=>by
  rw[Q.d,Q.d,eqD,eqDs,eqDs,eqDs,eqDs,eqDs,Q.eqd E a a',Q.eqd E b b',Q.eqd E c c',Q.eqd E d d']
  simp[Bool.eq_iff_iff]
end
theorem En.int:En FF.D.int:=⟨fun _=>rfl,fun n a=>by cases n<;>rfl,fun a b=>by simp[eqD,Bool.beq_eq_decide_eq],fun a xs=>by simp[eqD],fun a xs=>by simp[eqD]⟩
theorem fw {xs:List D}(h:xs.length≤16777216):sq (.tup xs)=.ok xs:=by unfold sq asSeq;rw[R.bind_ok,if_pos h]
theorem oN {xs:List D}(h:xs.length≤16777216):sq (.lst xs)=.ok xs:=by unfold sq asSeq;rw[R.bind_ok,if_pos h]
theorem sq4 (a b c d:D):sq (.tup [a,b,c,d])=.ok [a,b,c,d]:=fw (by show 4≤16777216;decide)
theorem uM {e:D→R D}{f:D→D}:∀ {xs:List D},(∀ d∈xs,e d=.ok (f d))→cGo (fun _=>.ok true) e xs=.ok (xs.map f)
 | [],_=>rfl
 | x::xs,h=>by
  rw[cGo]
  simp only
  rw[h x (.head _),uM fun d hd=>h d (.tail _ hd)]
  rfl
theorem wK {e:D→R D}{xs:List D}(f:D→D)(h:∀ d∈xs,e d=.ok (f d)):cMap e xs=.ok (.lst (xs.map f)):=by
 unfold cMap;rw[uM h];rfl
theorem bg {α:Type}{e:D→R D}{l:List α}(c g:α→D)(h:∀ a∈l,e (c a)=.ok (g a)):cMap e (l.map c)=.ok (.lst (l.map g)):=by
 unfold cMap
 have:∀ {l:List α},(∀ a∈l,e (c a)=.ok (g a))→cGo (fun _=>.ok true) e (l.map c)=.ok (l.map g):=by
  intro l
  induction l with
  | nil=>intro _;rfl
  | cons a l ih =>
   intro h
   rw[List.map_cons,cGo]
   simp only
   rw[h a (.head _),ih fun b hb=>h b (.tail _ hb)]
   rfl
 rw[this h];rfl
theorem cMap4 {e:D→R D}{a b c d a' b' c' d':D}(ha:e a=.ok a')(hb:e b=.ok b')(hc:e c=.ok c')(hd:e d=.ok d'):cMap e [a,b,c,d]=.ok (.lst [a',b',c',d']):=by
 unfold cMap;simp only[cGo,ha,hb,hc,hd];rfl
theorem pO {α:Type}{c:D→R Bool}{e:D→R D}{l:List α}(k g:α→D)(p:α→Bool)(h:∀ a∈l,c (k a)=.ok (p a)∧(p a=true→e (k a)=.ok (g a))):cFil c e (l.map k)=.ok (.lst ((l.filter p).map g)):=by
 unfold cFil
 have:∀ {l:List α},(∀ a∈l,c (k a)=.ok (p a)∧(p a=true→e (k a)=.ok (g a)))→cGo c e (l.map k)=.ok ((l.filter p).map g):=by
  intro l
  induction l with
  | nil=>intro _;rfl
  | cons a l ih =>
   intro h
   have h1:=h a (.head _)
   have h2:=ih fun b hb=>h b (.tail _ hb)
   rw[List.map_cons,cGo,h1.1]
   cases q:p a with
   | false=>simp only;rw[h2,List.filter_cons_of_neg (by simp[q])]
   | true=>simp only;rw[h1.2 q,h2,List.filter_cons_of_pos q];rfl
 rw[this h];rfl
@[simp] theorem jn (xs:List D):dTuple [.lst xs]=.ok (.tup xs):=rfl
@[simp] theorem oO (xs:List D):dTuple [.tup xs]=.ok (.tup xs):=rfl
@[simp] theorem ss (xs:List D):dList [.tup xs]=.ok (.lst xs):=rfl
@[simp] theorem su (xs:List D):dList [.lst xs]=.ok (.lst xs):=rfl
@[simp] theorem cQ (xs:List D):dLen [.tup xs]=.ok (.int xs.length):=rfl
@[simp] theorem jo (xs:List D):dLen [.lst xs]=.ok (.int xs.length):=rfl
@[simp] theorem bP (a b:Int):dAdd (.int a) (.int b)=.ok (.int (a+b)):=rfl
@[simp] theorem cR (a b:Int):dSub (.int a) (.int b)=.ok (.int (a - b)):=rfl
@[simp] theorem wL (a b:Int):dLt (.int a) (.int b)=.ok (.bl (decide (a < b))):=rfl
@[simp] theorem wM (a b:Int):dLe (.int a) (.int b)=.ok (.bl (decide (a≤b))):=rfl
@[simp] theorem pP (a b:Int):dGt (.int a) (.int b)=.ok (.bl (decide (b < a))):=rfl
@[simp] theorem lE (a b:Int):dGe (.int a) (.int b)=.ok (.bl (decide (b≤a))):=rfl
@[simp] theorem pQ (a b:Int):dEq (.int a) (.int b)=.ok (.bl (decide (a=b))):=by
 show R.ok (D.bl (a==b))=_
 rw[Bool.beq_eq_decide_eq]
@[simp] theorem lF (a b:Int):dNf (.int a) (.int b)=.ok (.bl (!decide (a=b))):=by
 show R.ok (D.bl (!(a==b)))=_
 rw[Bool.beq_eq_decide_eq]
theorem bQ {a b:Int}(h:(-(2^64) < b∧b < 2^64)∨(-(2^64) < a∧a < 2^64)):dMul (.int a) (.int b)=.ok (.int (a*b)):=by
 have:cMul a b=true:=by unfold cMul;simp only[Bool.or_eq_true,Bool.and_eq_true,decide_eq_true_eq];rcases h with h | h;exact .inr h;exact .inl h
 show (if cMul a b=true then R.ok (D.int (a*b)) else R.stuck)=_
 rw[if_pos this]
theorem mV {a b:Int}(h0:0 < b)(h1:b < 1073741824):dDiv (.int a) (.int b)=.ok (.int (a/b)):=by
 have:cDiv a b=true:=by unfold cDiv;simp only[Bool.and_eq_true,decide_eq_true_eq];exact⟨h0,h1⟩
 show (if cDiv a b=true then R.ok (D.int (a/b)) else R.stuck)=_
 rw[if_pos this]
theorem cw {a b:Int}(h0:0 < b):dMod (.int a) (.int b)=.ok (.int (a%b)):=by
 show (if decide (0 < b)=true then R.ok (D.int (a%b)) else R.stuck)=_
 rw[if_pos (by simpa using h0)]
theorem bB {x y:D}(hx:good 60 x=true)(hy:good 60 y=true):dEq x y=.ok (.bl (eqD x y)):=by unfold dEq;rw[if_pos ⟨hx,hy⟩]
theorem mW {x y:D}(hx:good 60 x=true)(hy:good 60 y=true):dNf x y=.ok (.bl (!eqD x y)):=by unfold dNf;rw[if_pos ⟨hx,hy⟩]
theorem kF {α:Type}{xs:List α}{i:Nat}{x:α}(h:xs[i]?=some x):L2.atI xs ((i:Nat):Int)=some x:=by
 have hi:i < xs.length:=(List.getElem?_eq_some_iff.mp h).1
 unfold L2.atI L2.ixN
 rw[if_pos (by omega),if_pos (by omega)]
 simpa using h
theorem ixT {xs:List D}{i:Nat}{x:D}(h:xs[i]?=some x):dIx (.tup xs) (.int ((i:Nat):Int))=.ok x:=by
 show (match L2.atI xs (i:Int) with | some d=>R.ok d | none=>R.stuck)=_
 rw[kF h]
theorem ixL {xs:List D}{i:Nat}{x:D}(h:xs[i]?=some x):dIx (.lst xs) (.int ((i:Nat):Int))=.ok x:=by
 show (match L2.atI xs (i:Int) with | some d=>R.ok d | none=>R.stuck)=_
 rw[kF h]
@[simp] theorem ix20 (a b:D):dIx (.tup [a,b]) (.int 0)=.ok a:=rfl
@[simp] theorem ix21 (a b:D):dIx (.tup [a,b]) (.int 1)=.ok b:=rfl
@[simp] theorem ix40 (a b c d:D):dIx (.tup [a,b,c,d]) (.int 0)=.ok a:=rfl
@[simp] theorem ix41 (a b c d:D):dIx (.tup [a,b,c,d]) (.int 1)=.ok b:=rfl
@[simp] theorem ix42 (a b c d:D):dIx (.tup [a,b,c,d]) (.int 2)=.ok c:=rfl
@[simp] theorem ix43 (a b c d:D):dIx (.tup [a,b,c,d]) (.int 3)=.ok d:=rfl
@[simp] theorem hV (xs:List D):dIsA qTup (.tup xs)=.ok (.bl true):=rfl
@[simp] theorem sv (i:Int):dIsA qTup (.int i)=.ok (.bl false):=rfl
theorem jp {α:Type}(p:α→Bool):∀ l:List α,boolsD (l.map fun d=>D.bl (p d))=some (l.map p)
 | []=>rfl
 | a::r=>by simp only[List.map_cons,boolsD,jp p r,Option.map_some]
theorem jq {α:Type}(p:α→Bool)(l:List α):dAll [.lst (l.map fun d=>D.bl (p d))]=.ok (.bl (l.all p)):=by
 show (match boolsD (l.map fun d=>D.bl (p d)) with | some bs=>R.ok (D.bl (bs.all id)) | none=>R.stuck)=_
 rw[jp]
 simp[List.all_map,Function.comp_def]
theorem pR (f:Int→Int→Bool)(F' G':D→D→R D){x y w:Int}{g:Int→Int→Bool}(h1:F' (.int x) (.int y)=.ok (.bl (f x y)))(h2:G' (.int y) (.int w)=.ok (.bl (g y w))):rCh F' G' (.int x) (.int y) (.ok (.int w))=.ok (.bl (f x y&&g y w)):=by
 unfold rCh
 rw[h1]
 cases f x y with
 | true=>show G' (.int y) (.int w)=_;rw[h2];rfl
 | false=>rfl
@[simp] theorem uN (x y w:Int):rCh dLe dLe (.int x) (.int y) (.ok (.int w))=.ok (.bl (decide (x≤y)&&decide (y≤w))):=pR (fun a b=>decide (a≤b)) _ _ (g:=fun a b=>decide (a≤b)) rfl rfl
@[simp] theorem uO (x y w:Int):rCh dLe dLt (.int x) (.int y) (.ok (.int w))=.ok (.bl (decide (x≤y)&&decide (y < w))):=pR (fun a b=>decide (a≤b)) _ _ (g:=fun a b=>decide (a < b)) rfl rfl
theorem wN (a b:Bool):vAnd (.ok (.bl a)) (.ok (.bl b))=.ok (.bl (a&&b)):=by cases a<;>rfl
theorem yz (a b:Bool):vOr (.ok (.bl a)) (.ok (.bl b))=.ok (.bl (a||b)):=by cases a<;>rfl
theorem wO (a b:Bool):rAnd (.ok a) (.ok b)=.ok (a&&b):=by cases a<;>rfl
theorem oP (a b:Bool):rOr (.ok a) (.ok b)=.ok (a||b):=by cases a<;>rfl
def isW:D→Bool
 | .int _=>true
 | _=>false
def noX:D→Bool
 | .tab _ _=>false
 | .dic _ _=>false
 | .ptr _=>false
 | .exc _=>false
 | .fn _=>false
 | _=>true
def inTo (hi:Int):D→Bool
 | .int i=>decide (0≤i)&&decide (i≤hi)
 | _=>false
theorem bR {n:Nat}{d:D}(h:good n d=true):noX d=true:=by
 cases d<;>first | rfl | (cases n<;>simp[good]at h)
theorem jr {n:Nat}(hn:1≤n){d:D}(h:noX d=true):pf n F.au [d]=.ok (.bl (isW d)):=by
 obtain⟨m,rfl⟩:∃ m,n=m+1:=⟨n - 1,by omega⟩
 rw[my]
 cases d<;>first | rfl | (cases h)
theorem mX {n:Nat}(hn:2≤n){d:D}(h:noX d=true):pf n F.ag [d]=.ok (.bl (inTo 9 d)):=by
 obtain⟨m,rfl⟩:∃ m,n=m+1:=⟨n - 1,by omega⟩
 rw[mz,c8,jr (by omega) h]
 cases d<;>first | rfl | (cases h;done) | skip
 simp[isW,inTo]
theorem wQ {n:Nat}(hn:2≤n){d:D}(h:noX d=true):pf n F.aE [d]=.ok (.bl (inTo 3 d)):=by
 obtain⟨m,rfl⟩:∃ m,n=m+1:=⟨n - 1,by omega⟩
 rw[oi,eD,jr (by omega) h]
 cases d<;>first | rfl | (cases h;done) | skip
 simp[isW,inTo]
def STP:=And.intro @aM (And.intro @yf (And.intro @bX (And.intro @yT (And.intro @yU (And.intro @vW (And.intro @vV (And.intro @vX (And.intro @R.bind_ok (And.intro @R.bind_err (And.intro @bG (And.intro @kW (And.intro @wO (And.intro @oP (And.intro @yg (And.intro @yh (And.intro @yW (And.intro @lZ (And.intro @t7 (And.intro @yi (And.intro @yX (And.intro @yY (And.intro @wN (And.intro @yz (And.intro @vY (And.intro @yZ (And.intro @y3 (And.intro @Bool.not_true (And.intro @Bool.not_false (And.intro @Bool.false_or (And.intro @Bool.true_or (And.intro @Bool.or_false (And.intro @Bool.or_true (And.intro @Bool.true_and (And.intro @Bool.false_and (And.intro @Bool.and_true (And.intro @Bool.and_false (And.intro @Bool.false_eq_true (@Bool.true_eq_false))))))))))))))))))))))))))))))))))))))
def OPP:=And.intro @bP (And.intro @cR (And.intro @wL (And.intro @wM (And.intro @pP (And.intro @lE (And.intro @pQ (And.intro @lF (And.intro @cQ (And.intro @jo (And.intro @jn (And.intro @oO (And.intro @ss (And.intro @su (And.intro @ix20 (And.intro @ix21 (And.intro @ix40 (And.intro @ix41 (And.intro @ix42 (And.intro @ix43 (And.intro @hV (And.intro @sv (And.intro @uN (@uO)))))))))))))))))))))))
def slim:Nat→D→Bool
 | n+1,.tup xs=>decide (xs.length≤1000)&&xs.all (slim n)
 | n+1,.lst xs=>decide (xs.length≤1000)&&xs.all (slim n)
 | _,_=>true
def treeOk (p:D→Bool):Nat→Int→D→Bool
 | n+1,s,.tup xs=>decide (s≠0)&&(decide (xs.length=4)&&xs.all (treeOk p n (s - 1)))
 | _,_,d=>p d
theorem cg {n:Nat}:∀ {xs:List D},goods n xs=true→∀ d∈xs,good n d=true
 | x::xs,h,d,hd=>by
  rw[goods,Bool.and_eq_true]at h
  cases hd with
  | head=>exact h.1
  | tail _ hd=>exact cg h.2 d hd
theorem dX {n:Nat}:∀ {xs:List D},(∀ d∈xs,good n d=true)→goods n xs=true
 | [],_=>rfl
 | x::xs,h=>by rw[goods,h x (.head _),dX fun d hd=>h d (.tail _ hd)];rfl
theorem ex1 {n k:Nat}(h:k+1≤n):∃ m,n=m+1∧k≤m:=⟨n - 1,by omega,by omega⟩
theorem cS {d:D}(h:isTup d=false)(h':noX d=true):dIsA qTup d=.ok (.bl false):=by cases d<;>first | rfl | (cases h;done) | (cases h';done)
theorem wR {i c:Nat}{p:D→Bool}(hi:fvL.contains i=true)(hp:∀ m d,c≤m→noX d=true→pf m i [d]=.ok (.bl (p d))):∀ (n m:Nat) (s:Int) (d:D),good n d=true→slim n d=true→n+c+1≤m→pf m F.ar [.int s,d,.fn i]=.ok (.bl (treeOk p n s d)):=by
 have flat:∀ (n m:Nat) (s:Int) (d:D),isTup d=false→noX d=true→c+1≤m→treeOk p n s d=p d→pf m F.ar [.int s,d,.fn i]=.ok (.bl (treeOk p n s d)):=fun n m s d ht hx hm e=>by
  obtain⟨m,rfl,hm⟩:=ex1 hm
  rw[i9,cL,cS ht hx,e]
  have:onF fvL (.fn i) (fun i=>pf m i [d])=.ok (.bl (p d)):=by
   show (if fvL.contains i=true then pf m i [d] else R.stuck)=_
   rw[if_pos hi,hp m d (by omega) hx]
  simp[this]
 intro n
 induction n with
 | zero =>
  intro m s d hg hs hm
  have ht:isTup d=false:=by cases d<;>first | rfl | (simp[good]at hg)
  exact flat 0 m s d ht (bR hg) (by omega) (by cases d<;>rfl)
 | succ n ih =>
  intro m s d hg hs hm
  by_cases ht:isTup d=true
  ·cases d with
   | tup xs =>
    rw[good]at hg
    rw[slim,Bool.and_eq_true,decide_eq_true_eq,List.all_eq_true]at hs
    obtain⟨m,rfl,hm⟩:=ex1 (show n+c+1+1≤m by omega)
    rw[i9,cL]
    have hc:cMap (fun part=>(dSub (.int s) (.int 1)).bind fun x1=>pf m F.ar [x1,part,.fn i]) xs=.ok (.lst (xs.map fun d=>.bl (treeOk p n (s - 1) d))) :=
     wK _ fun d hd=>by rw[cR,R.bind_ok];exact ih m (s - 1) d (cg hg d hd) (hs.2 d hd) (by omega)
    simp only[hV,bG,kW,Bool.not_true,aM,bX,pQ,cQ,R.bind_ok,lF,oP,fw (show xs.length≤16777216 by omega),hc,jq,treeOk]
    by_cases h0:s=0
    ·simp[h0]
    ·by_cases h4:xs.length=4
     ·simp[h0,h4]
     ·have h4':¬ ((xs.length:Int)=4):=by omega
      simp[h0,h4,h4']
   | _=>cases ht
  ·have ht':isTup d=false:=by simpa using ht
   exact flat (n+1) m s d ht' (bR hg) (by omega) (by cases d<;>first | rfl | (cases ht';done))
def sizedOk (p:D→Bool)(n:Nat):D→Bool
 | .tup [s,t]=>inTo 3 s&&(match s with
  | .int i=>treeOk p n i t
  | _=>false)
 | _=>false
theorem uP {i c:Nat}{p:D→Bool}(hc:2≤c)(hi:fvL.contains i=true)(hp:∀ m d,c≤m→noX d=true→pf m i [d]=.ok (.bl (p d)))(n m:Nat)(d:D)(hg:good (n+1) d=true)(hs:slim (n+1) d=true)(hm:n+c+2≤m):pf m F.aq [d,.fn i]=.ok (.bl (sizedOk p n d)):=by
 obtain⟨m,rfl,hm⟩:=ex1 (show n+c+1+1≤m by omega)
 rw[gO,bd]
 by_cases ht:isTup d=true
 ·cases d with
  | tup xs =>
   rw[good]at hg
   rw[slim,Bool.and_eq_true,decide_eq_true_eq,List.all_eq_true]at hs
   by_cases h2:xs.length=2
   ·match xs,h2 with
    | [a,b],_ =>
     have ga:=cg hg a (by simp)
     have gb:=cg hg b (by simp)
     have sb:=hs.2 b (by simp)
     have hz:pf m F.aE [a]=.ok (.bl (inTo 3 a)):=wQ (by omega) (bR ga)
     simp only[hV,bG,kW,Bool.not_true,cQ,R.bind_ok,lF,ix20,ix21,oP,List.length_cons,List.length_nil,hz]
     cases a with
     | int v =>
      rw[wR hi hp n m v b gb sb (by omega)]
      by_cases hv:inTo 3 (.int v)=true
      ·simp[hv,sizedOk]
      ·have hv':inTo 3 (.int v)=false:=by simpa using hv
       simp[hv',sizedOk]
     | _=>simp[sizedOk,inTo]
   ·have h2':¬ ((xs.length:Int)=2):=by omega
    have e:sizedOk p n (.tup xs)=false:=by
     match xs,h2 with
     | [],_=>rfl
     | [_],_=>rfl
     | _::_::_::_,_=>rfl
    simp[h2',e]
  | _=>cases ht
 ·have ht':isTup d=false:=by simpa using ht
  rw[cS ht' (bR hg)]
  have e:sizedOk p n d=false:=by cases d<;>first | rfl | (cases ht';done)
  simp[e]
def scr (ns:List Int):D:=.lst (ns.map .int)
def cell (ns:List Int)(k:Nat):Int:=if k < ns.length then ns.getD k 0 else if ns=[] then 0 else ns.getD (k%ns.length) 0*31+k
def pk (ns:List Int)(k:Nat)(m:Int):Int :=
 let d:=(cell ns k+6151*((k:Int)+1))*40692%2147483399
 (d*d+d/31)%2147483629%m
theorem js {ns:List Int}{k:Nat}{m:Int}(h:0 < m):0≤pk ns k m:=Int.emod_nonneg _ (by omega)
theorem jt {ns:List Int}{k:Nat}{m:Int}(h:0 < m):pk ns k m < m:=Int.emod_lt_of_pos _ h
theorem ky (n:Nat):∀ ns:List Int,goods n (ns.map .int)=true
 | []=>rfl
 | i::r=>by rw[List.map_cons,goods,ky n r];cases n<;>rfl
theorem wS {n:Nat}(hn:1≤n)(ns:List Int)(k:Nat):pf n F.aS [scr ns,.int k]=.ok (.int (cell ns k)):=by
 obtain⟨n,rfl,hn⟩:=ex1 hn
 rw[rX,fO]
 unfold scr cell
 by_cases h:k < ns.length
 ·have h':((k:Int) < (ns.length:Int)):=by omega
  have e0:=ixL (xs:=ns.map .int) (i:=k) (x:=.int (ns.getD k 0)) (by rw[List.getElem?_map,List.getElem?_eq_getElem h];simp[List.getD,h])
  simp only[STP,if_true,if_false,ite_true,ite_false,reduceIte,reduceCtorEq,OPP,List.length_map,decide_eq_true h',e0,if_pos h]
 ·have h':¬ ((k:Int) < (ns.length:Int)):=by omega
  cases ns with
  | nil =>
   have e1:dEq (.lst []) (.lst [])=.ok (.bl true):=rfl
   have h2:¬ ((k:Int) < ((0:Nat):Int)):=by omega
   simp only[STP,if_true,if_false,ite_true,ite_false,reduceIte,reduceCtorEq,OPP,List.map_nil,List.length_nil,decide_eq_false h2,e1,if_neg (Nat.not_lt_zero k)]
  | cons a r =>
   have hl:0 < (a::r).length:=by simp
   have hk:k%(a::r).length < (a::r).length:=Nat.mod_lt _ hl
   have e1:dEq (.lst ((a::r).map .int)) (.lst [])=.ok (.bl false):=by
    rw[bB (by rw[good];exact ky _ _) rfl]
    simp[eqD,eqDs]
   have e2:dMod (.int (k:Int)) (.int ((a::r).length:Int))=.ok (.int ((k%(a::r).length:Nat):Int)):=by
    rw[cw (by omega)];rfl
   have e3:dIx (.lst ((a::r).map .int)) (.int ((k%(a::r).length:Nat):Int))=.ok (.int ((a::r).getD (k%(a::r).length) 0)) :=
    ixL (by rw[List.getElem?_map,List.getElem?_eq_getElem hk,List.getD,List.getElem?_eq_getElem hk];rfl)
   have e4:=bQ (a:=(a::r).getD (k%(a::r).length) 0) (b:=31) (.inl (by decide))
   simp only[STP,if_true,if_false,ite_true,ite_false,reduceIte,reduceCtorEq,OPP,List.length_map,decide_eq_false h',e1,e2,e3,e4,if_neg h]
theorem bL {n:Nat}(hn:2≤n)(ns:List Int)(k:Nat){m:Int}(hm:0 < m):pf n F.ab [scr ns,.int k,.int m]=.ok (.int (pk ns k m)):=by
 obtain⟨n,rfl,hn⟩:=ex1 hn
 rw[rY,fP,wS (by omega)]
 simp only[R.bind_ok,bP]
 rw[bQ (.inr (by decide))]
 simp only[R.bind_ok,bP]
 rw[bQ (.inl (by decide))]
 simp only[R.bind_ok]
 rw[cw (by decide)]
 simp only[aM]
 have h0:0≤(cell ns k+6151*((k:Int)+1))*40692%2147483399:=Int.emod_nonneg _ (by decide)
 have h1:(cell ns k+6151*((k:Int)+1))*40692%2147483399 < 2147483399:=Int.emod_lt_of_pos _ (by decide)
 rw[bQ (.inl ⟨by omega,by omega⟩),mV (by decide) (by decide)]
 simp only[R.bind_ok,bP]
 rw[cw (by decide)]
 simp only[R.bind_ok]
 rw[cw hm]
 rfl
theorem pS {n:Nat}(hn:2≤n)(ns:List Int)(k:Nat){a m:Int}(ha:a=(k:Int))(hm:0 < m):pf n F.ab [scr ns,.int a,.int m]=.ok (.int (pk ns k m)):=by subst ha;exact bL hn ns k hm
def W9 (v:Int):Prop:=0≤v∧v≤9
def dleaf (ns:List Int)(k:Nat):Int:=[0,1,1,2,9,pk ns (k+1) 10].getD (pk ns (k+2) 6).toNat 0
def dt (ns:List Int):Nat→Nat→Q Int
 | 0,k=>.lf (dleaf ns k)
 | n+1,k=>if pk ns k 6 < 2 then .lf (dleaf ns k) else if pk ns k 6=2 then .nd (dt ns n (k+3)) (dt ns n (k+3)) (dt ns n (k+3)) (dt ns n (k+3)) else
  .nd (dt ns n (5*k+7)) (dt ns n (5*k+18)) (dt ns n (5*k+29)) (dt ns n (5*k+40))
theorem pT (ns:List Int)(k:Nat):W9 (dleaf ns k):=by
 unfold dleaf W9
 have h0:=js (ns:=ns) (k:=k+2) (m:=6) (by decide)
 have h1:=jt (ns:=ns) (k:=k+2) (m:=6) (by decide)
 have g0:=js (ns:=ns) (k:=k+1) (m:=10) (by decide)
 have g1:=jt (ns:=ns) (k:=k+1) (m:=10) (by decide)
 obtain⟨j,hj⟩:∃ j:Nat,pk ns (k+2) 6=(j:Int):=⟨(pk ns (k+2) 6).toNat,by omega⟩
 rw[hj]at h1 ⊢
 have:j < 6:=by omega
 rcases j with _ | _ | _ | _ | _ | _ | j<;>first | (simp;done) | (simp;omega) | omega
theorem uQ (ns:List Int):∀ n k,(dt ns n k).dep≤n
 | 0,k=>Nat.le_refl _
 | n+1,k=>by
  rw[dt]
  have h1:=uQ ns n
  split
  ·exact Nat.zero_le _
  ·split
   ·have:=h1 (k+3);simp only[Q.dep];omega
   ·have a:=h1 (5*k+7);have b:=h1 (5*k+18);have c:=h1 (5*k+29);have d:=h1 (5*k+40);simp only[Q.dep];omega
theorem uR (ns:List Int):∀ n k,(dt ns n k).All W9
 | 0,k=>pT ns k
 | n+1,k=>by
  rw[dt]
  have h1:=uR ns n
  split
  ·exact pT ns k
  ·split
   ·exact⟨h1 _,h1 _,h1 _,h1 _⟩
   ·exact⟨h1 _,h1 _,h1 _,h1 _⟩
theorem mY {n:Nat}(hn:2≤n)(ns:List Int)(k:Nat):((((dAdd (.int (k:Int)) (.int 1)).bind fun x=>pf n F.ab [scr ns,x,(.int 10)]).bind fun x1=>.ok (.lst [(.int 0),(.int 1),(.int 1),(.int 2),(.int 9),x1])).bind fun x2=>((dAdd (.int (k:Int)) (.int 2)).bind fun x3=>pf n F.ab [scr ns,x3,(.int 6)]).bind fun x4=>dIx x2 x4)=.ok (.int (dleaf ns k)):=by
 simp only[bP,R.bind_ok]
 rw[pS hn ns (k+1) (by omega) (by decide),pS hn ns (k+2) (by omega) (by decide)]
 simp only[R.bind_ok]
 have h0:=js (ns:=ns) (k:=k+2) (m:=6) (by decide)
 have h1:=jt (ns:=ns) (k:=k+2) (m:=6) (by decide)
 unfold dleaf
 obtain⟨j,hj⟩:∃ j:Nat,pk ns (k+2) 6=(j:Int):=⟨(pk ns (k+2) 6).toNat,by omega⟩
 rw[hj]at h1 ⊢
 have:j < 6:=by omega
 rcases j with _ | _ | _ | _ | _ | _ | j<;>first | rfl | omega
theorem rep4 (x:D):dMul (.tup [x]) (.int 4)=.ok (.tup [x,x,x,x]):=rfl
theorem rng4:rng1 [.int 4]=.ok [.int 0,.int 1,.int 2,.int 3]:=rfl
theorem uS (ns:List Int):∀ (s k n:Nat),s+3≤n→pf n F.ao [scr ns,.int k,.int s]=.ok ((dt ns s k).d .int):=by
 intro s
 induction s with
 | zero =>
  intro k n hn
  obtain⟨n,rfl,hn⟩:=ex1 (show 2+1≤n by omega)
  rw[kq,dJ,bL (by omega) ns k (by decide)]
  simp only[aM]
  rw[mY (by omega)]
  simp[dt,Q.d]
 | succ s ih =>
  intro k n hn
  obtain⟨n,rfl,hn⟩:=ex1 (show s+3+1≤n by omega)
  rw[kq,dJ,bL (by omega) ns k (by decide)]
  simp only[aM]
  rw[mY (by omega)]
  have hs:¬ (((s+1:Nat):Int)=0):=by omega
  have hs1:((s+1:Nat):Int) - 1=(s:Int):=by omega
  have ih':∀ (a:Int) (j:Nat),a=(j:Int)→pf n F.ao [scr ns,.int a,.int (s:Int)]=.ok ((dt ns s j).d .int):=fun a j e=>by subst e;exact ih j n (by omega)
  rw[dt]
  by_cases h2:pk ns k 6 < 2
  ·simp only[STP,if_true,if_false,ite_true,ite_false,reduceIte,reduceCtorEq,OPP,decide_eq_false hs,decide_eq_true h2,if_pos h2,Q.d]
  ·by_cases h3:pk ns k 6=2
   ·have e:=ih' ((k:Int)+3) (k+3) (by omega)
    simp only[STP,if_true,if_false,ite_true,ite_false,reduceIte,reduceCtorEq,OPP,decide_eq_false hs,decide_eq_false h2,decide_eq_true h3,if_neg h2,if_pos h3,hs1,e,rep4,Q.d]
   ·have step:∀ (i:Nat) ,(((dMul (.int 5) (.int (k:Int))).bind fun x9=>dAdd x9 (.int 7)).bind fun x10=>(dMul (.int 11) (.int (i:Int))).bind fun x11=>dAdd x10 x11).bind (fun x12=>pf n F.ao [scr ns,x12,.int (s:Int)])=.ok ((dt ns s (5*k+7+11*i)).d .int):=fun i=>by
     rw[bQ (.inr (by decide)),bQ (.inr (by decide))]
     simp only[R.bind_ok,bP]
     exact ih' _ _ (by omega)
    have e:cMap (fun zY=>(((dMul (.int 5) (.int (k:Int))).bind fun x9=>dAdd x9 (.int 7)).bind fun x10=>(dMul (.int 11) zY).bind fun x11=>dAdd x10 x11).bind fun x12=>pf n F.ao [scr ns,x12,.int (s:Int)]) [.int 0,.int 1,.int 2,.int 3]=.ok (.lst [(dt ns s (5*k+7)).d .int,(dt ns s (5*k+18)).d .int,(dt ns s (5*k+29)).d .int,(dt ns s (5*k+40)).d .int]):=cMap4 (step 0) (step 1) (step 2) (step 3)
    simp only[STP,if_true,if_false,ite_true,ite_false,reduceIte,reduceCtorEq,OPP,decide_eq_false hs,decide_eq_false h2,decide_eq_false h3,if_neg h2,if_neg h3,hs1,rng4]
    rw[e]
    rfl
structure Pc (sz:Nat)(t:Q Int):Prop where
 h3:sz≤3
 dep:t.dep≤sz
 all:t.All W9
def picD (sz:Nat)(t:Q Int):D:=.tup [.int (sz:Int),t.d .int]
theorem pU (ns:List Int)(k most n:Nat)(hm:most≤3)(hn:7≤n):∃ sz t,sz≤most∧Pc sz t∧pf n F.ae [scr ns,.int k,.int most]=.ok (picD sz t):=by
 obtain⟨n,rfl,hn⟩:=ex1 (show 6+1≤n by omega)
 have h0:=js (ns:=ns) (k:=k) (m:=7) (by decide)
 have h1:=jt (ns:=ns) (k:=k) (m:=7) (by decide)
 obtain⟨j,hj⟩:∃ j:Nat,pk ns k 7=(j:Int):=⟨(pk ns k 7).toNat,by omega⟩
 rw[hj]at h1
 have hj7:j < 7:=by omega
 obtain⟨c,hc3,hc⟩:∃ c:Nat,c≤3∧dIx (.lst [(.int 0),(.int 0),(.int 0),(.int 1),(.int 1),(.int 2),(.int 3)]) (.int (j:Int))=.ok (.int (c:Int)):=by
  rcases j with _ | _ | _ | _ | _ | _ | _ | j
  ·exact⟨0,by omega,rfl⟩
  ·exact⟨0,by omega,rfl⟩
  ·exact⟨0,by omega,rfl⟩
  ·exact⟨1,by omega,rfl⟩
  ·exact⟨1,by omega,rfl⟩
  ·exact⟨2,by omega,rfl⟩
  ·exact⟨3,by omega,rfl⟩
  ·omega
 refine⟨most - c,dt ns (most - c) (k+1),by omega,⟨by omega,uQ _ _ _,uR _ _ _⟩,?_⟩
 have hx:dMax2 [.int 0,.int ((most:Int) - (c:Int))]=.ok (.int ((most - c:Nat):Int)):=by
  show R.ok (D.int (if (most:Int) - c > 0 then (most:Int) - c else 0))=_
  congr 2
  split<;>omega
 rw[li,cE,bL (by omega) ns k (by decide),R.bind_ok,hj,hc]
 simp only[R.bind_ok,cR,hx,aM,bP]
 have e:((k:Int)+1)=((k+1:Nat):Int):=by omega
 rw[e,uS ns (most - c) (k+1) n (by omega)]
 rfl
section
variable {α:Type}[DecidableEq α]{e:α→D}
theorem eN:∀ {n m:Nat} {d:D},good n d=true→n≤m→good m d=true
 | n,m,.non,_,_=>by cases m<;>rfl
 | n,m,.bl _,_,_=>by cases m<;>rfl
 | n,m,.int _,_,_=>by cases m<;>rfl
 | n,m,.str _,_,_=>by cases m<;>rfl
 | n,m,.exc _,h,_=>by cases n<;>simp[good]at h
 | n,m,.fn _,h,_=>by cases n<;>simp[good]at h
 | 0,m,.tup _,h,_=>by simp[good]at h
 | 0,m,.lst _,h,_=>by simp[good]at h
 | n+1,0,.tup _,_,l=>by omega
 | n+1,0,.lst _,_,l=>by omega
 | n+1,m+1,.tup xs,h,l=>by
  rw[good]at h ⊢
  exact dX fun d hd=>eN (n:=n) (cg h d hd) (by omega)
 | n+1,m+1,.lst xs,h,l=>by
  rw[good]at h ⊢
  exact dX fun d hd=>eN (n:=n) (cg h d hd) (by omega)
theorem uT (E:En e){n:Nat}(hn:1≤n){a b c d:Q α}(ha:a.dep≤50)(hb:b.dep≤50)(hc:c.dep≤50)(hd:d.dep≤50):pf n F.aj [.tup [a.d e,b.d e,c.d e,d.d e]]=.ok ((put4 a b c d).d e):=by
 obtain⟨n,rfl,hn⟩:=ex1 hn
 rw[iw,bq]
 cases a with
 | nd a1 a2 a3 a4=>simp only[STP,if_true,if_false,ite_true,ite_false,reduceIte,reduceCtorEq,OPP,Q.d,put4]
 | lf v =>
  have e1:dIsA qTup (Q.d e (.lf v))=.ok (.bl false):=cS (E.tup v) (bR (E.gd 0 v))
  have gv:good 59 (e v)=true:=E.gd 59 v
  have e2:dEq (.tup [Q.d e (.lf v),b.d e,c.d e,d.d e]) (.tup [Q.d e (.lf v),Q.d e (.lf v),Q.d e (.lf v),Q.d e (.lf v)])=.ok (.bl (decide (b=.lf v)&&(decide (c=.lf v)&&decide (d=.lf v)))):=by
   rw[bB]
   ·rw[eqD,eqDs,eqDs,eqDs,eqDs,eqDs,Q.eqd E,Q.eqd E,Q.eqd E,Q.eqd E]
    simp
   ·rw[good,goods,goods,goods,goods,goods,eN (Q.gd E 50 b hb) (by decide),eN (Q.gd E 50 c hc) (by decide),eN (Q.gd E 50 d hd) (by decide),Q.d,gv]
    rfl
   ·rw[good,goods,goods,goods,goods,goods,Q.d,gv]
    rfl
  simp only[STP,if_true,if_false,ite_true,ite_false,reduceIte,reduceCtorEq,OPP,e1,e2]
  unfold put4
  by_cases hb':b=.lf v
  ·by_cases hc':c=.lf v
   ·by_cases hd':d=.lf v
    ·simp[hb',hc',hd']
    ·simp[hb',hc',hd',Q.d]
   ·simp[hb',hc',Q.d]
  ·simp[hb',Q.d]
theorem dY (E:En e):∀ (t:Q α) (n:Nat),t.dep≤40→t.dep+2≤n→pf n F.an [t.d e]=.ok (t.lean.d e)
 | .lf a,n,_,hn=>by
  obtain⟨n,rfl,hn⟩:=ex1 (show 1+1≤n by omega)
  rw[fU,bM]
  have e1:dIsA qTup (Q.d e (.lf a))=.ok (.bl false):=cS (E.tup a) (bR (E.gd 0 a))
  simp only[STP,if_true,if_false,ite_true,ite_false,reduceIte,reduceCtorEq,e1,Q.lean]
 | .nd a b c d,n,hd,hn=>by
  have hd':1+max (max a.dep b.dep) (max c.dep d.dep)≤40:=hd
  have hn':1+max (max a.dep b.dep) (max c.dep d.dep)+2≤n:=hn
  obtain⟨n,rfl,hn⟩:=ex1 (show max (max a.dep b.dep) (max c.dep d.dep)+2+1≤n by omega)
  rw[fU,bM]
  have ka:=dY E a n (by omega) (by omega)
  have kb:=dY E b n (by omega) (by omega)
  have kc:=dY E c n (by omega) (by omega)
  have kd:=dY E d n (by omega) (by omega)
  have hm:cMap (fun part=>pf n F.an [part]) [a.d e,b.d e,c.d e,d.d e]=.ok (.lst [a.lean.d e,b.lean.d e,c.lean.d e,d.lean.d e]):=cMap4 ka kb kc kd
  have hp:=uT E (n:=n) (by omega) (a:=a.lean) (b:=b.lean) (c:=c.lean) (d:=d.lean) (f8 (n:=50) (by omega)) (f8 (n:=50) (by omega)) (f8 (n:=50) (by omega)) (f8 (n:=50) (by omega))
  rw[Q.d]
  simp only[STP,if_true,if_false,ite_true,ite_false,reduceIte,reduceCtorEq,OPP,sq4,hm,hp,Q.lean]
theorem pV:∀ {n:Nat} {d:D},isTup d=false→isLst d=false→slim n d=true
 | 0,d,_,_=>by cases d<;>rfl
 | n+1,d,h,h'=>by cases d<;>first | rfl | (cases h;done) | (cases h';done)
theorem ju (hl:∀ a,isLst (e a)=false)(E:En e):∀ (n:Nat) (t:Q α),slim n (t.d e)=true
 | n,.lf a=>pV (E.tup a) (hl a)
 | 0,.nd ..=>rfl
 | n+1,.nd a b c d=>by
  rw[Q.d,Lw.slim]
  simp only[List.all_cons,List.all_nil,ju hl E n a,ju hl E n b,ju hl E n c,ju hl E n d,List.length_cons,List.length_nil]
  rfl
theorem jv {p:D→Bool}(E:En e):∀ (m:Nat) (s:Nat) (t:Q α),t.dep≤m→t.dep≤s→t.All (fun a=>p (e a)=true)→treeOk p m s (t.d e)=true
 | m,s,.lf a,_,_,h=>by
  have:treeOk p m s (e a)=p (e a):=by
   have:=E.tup a
   cases m with
   | zero=>cases e a<;>rfl
   | succ m=>cases q:e a<;>first | rfl | (rw[q]at this;cases this)
  exact this.trans h
 | 0,s,.nd a b c d,h,_,_=>by simp[Q.dep]at h
 | m+1,0,.nd a b c d,_,h,_=>by simp[Q.dep]at h
 | m+1,s+1,.nd a b c d,h,h',hall=>by
  have h1:1+max (max a.dep b.dep) (max c.dep d.dep)≤m+1:=h
  have h2:1+max (max a.dep b.dep) (max c.dep d.dep)≤s+1:=h'
  rw[Q.d,Lw.treeOk,show ((s+1:Nat):Int) - 1=(s:Int) by omega]
  have h0:((s+1:Nat):Int)≠0:=by omega
  simp only[List.all_cons,List.all_nil,jv E m s a (by omega) (by omega) hall.1,jv E m s b (by omega) (by omega) hall.2.1,jv E m s c (by omega) (by omega) hall.2.2.1,jv E m s d (by omega) (by omega) hall.2.2.2,List.length_cons,List.length_nil,decide_eq_true h0]
  rfl
end
theorem f9 {α:Type}{p q:α→Prop}(h:∀ a,p a→q a):∀ {t:Q α},t.All p→t.All q
 | .lf a,x=>h a x
 | .nd _ _ _ _,x=>⟨f9 h x.1,f9 h x.2.1,f9 h x.2.2.1,f9 h x.2.2.2⟩
theorem in9 {v:Int}(h:W9 v):inTo 9 (.int v)=true:=by simp[inTo,h.1,h.2]
theorem uU:fvL.contains F.ag=true:=by decide
theorem uV {n m:Nat}{d:D}(hg:good (m+1) d=true)(hs:slim (m+1) d=true)(hn:m+5≤n):pf n F.aA [d]=.ok (.bl (sizedOk (inTo 9) m d)):=by
 obtain⟨n,rfl,hn⟩:=ex1 (show m+4+1≤n by omega)
 rw[jQ,b7,uP (c:=2) (p:=inTo 9) (by decide) uU (fun m d h1 h2=>mX h1 h2) m n d hg hs (by omega)]
 rfl
theorem sw {n m:Nat}{d:D}(hg:good (m+1) d=true)(hs:slim (m+1) d=true)(hn:m+6≤n):pf n F.af [d]=if sizedOk (inTo 9) m d=true then .ok .non else .err 1:=by
 obtain⟨n,rfl,hn⟩:=ex1 (show m+5+1≤n by omega)
 rw[gP,bf,uV hg hs (by omega)]
 cases sizedOk (inTo 9) m d<;>rfl
section
variable {sz:Nat}{t:Q Int}
theorem Pc.good (p:Pc sz t):good 4 (picD sz t)=true:=by
 unfold picD
 rw[FF.good,goods,goods,goods,Q.gd En.int 3 t (Nat.le_trans p.dep p.h3)]
 rfl
theorem Pc.slim (p:Pc sz t):slim 4 (picD sz t)=true:=by
 unfold picD
 rw[Lw.slim]
 simp only[List.all_cons,List.all_nil,ju (fun _=>rfl) En.int,pV (d:=.int (sz:Int)) rfl rfl,List.length_cons,List.length_nil]
 rfl
theorem Pc.sized (p:Pc sz t):sizedOk (inTo 9) 3 (picD sz t)=true:=by
 have h3:=p.h3
 have h1:inTo 3 (.int (sz:Int))=true:=by simp[inTo];omega
 unfold picD sizedOk
 simp only[h1,jv En.int 3 sz t (Nat.le_trans p.dep p.h3) p.dep (f9 (fun a h=>in9 h) p.all)]
 rfl
theorem Pc.check (p:Pc sz t){n:Nat}(hn:9≤n):pf n F.af [picD sz t]=.ok .non:=by rw[sw p.good p.slim hn,p.sized];rfl
theorem Pc.lean (p:Pc sz t){n:Nat}(hn:10≤n):pf n F.aN [picD sz t]=.ok (picD sz (T (t.at sz) sz)):=by
 obtain⟨n,rfl,hn⟩:=ex1 (show 9+1≤n by omega)
 have h3:=p.h3
 have hd:=p.dep
 have e1:=p.check (n:=n) (by omega)
 have e2:=dY En.int t n (by omega) (by omega)
 rw[wD,k6,e1,← hU sz t p.dep]
 unfold picD
 simp only[STP,if_true,if_false,ite_true,ite_false,reduceIte,reduceCtorEq,OPP,e2]
theorem pc_T {f:Nat→Nat→Int}(h3:sz≤3)(h:∀ x y,x < 2^sz→y < 2^sz→W9 (f x y)):Pc sz (T f sz):=⟨h3,dW sz f,mU sz f h⟩
theorem Pc.at (p:Pc sz t)(x y:Nat):W9 (t.at sz x y):=hJ sz t x y p.all
theorem Pc.side (p:Pc sz t){n:Nat}(hn:1≤n):pf n F.aF [picD sz t]=.ok (.int ((2^sz:Nat):Int)):=by
 obtain⟨n,rfl,hn⟩:=ex1 (show 0+1≤n by omega)
 have h3:=p.h3
 rw[oj,eE]
 unfold picD
 have:sz=0∨sz=1∨sz=2∨sz=3:=by omega
 rcases this with rfl | rfl | rfl | rfl<;>rfl
end
section
variable {α:Type}[DecidableEq α]{e:α→D}
theorem p8 {s:Nat}(h:s≤3):2^s≤8:=by
 have:s=0∨s=1∨s=2∨s=3:=by omega
 rcases this with rfl | rfl | rfl | rfl<;>decide
theorem pos2 (s:Nat):0 < 2^s:=Nat.pow_pos (by decide)
theorem gh {a b:Nat}(h0:0 < b)(h1:b < 1073741824):dDiv (.int (a:Int)) (.int (b:Int))=.ok (.int ((a/b:Nat):Int)):=by
 rw[mV (by omega) (by omega)];rfl
theorem mZ {a b:Nat}(h0:0 < b):dMod (.int (a:Int)) (.int (b:Int))=.ok (.int ((a%b:Nat):Int)):=by
 rw[cw (by omega)];rfl
theorem jw (E:En e):∀ (s:Nat) (t:Q α) (n x y:Nat),s≤3→t.dep≤s→x < 2^s→y < 2^s→t.dep+1≤n→pf n F.av [t.d e,.int ((2^s:Nat):Int),.int (x:Int),.int (y:Int)]=.ok (e (t.at s x y))
 | s,.lf a,n,x,y,_,_,_,_,hn=>by
  obtain⟨n,rfl,hn⟩:=ex1 (show 0+1≤n by omega)
  rw[il,cj,kx]
  have e1:dIsA qTup (Q.d e (.lf a))=.ok (.bl false):=cS (E.tup a) (bR (E.gd 0 a))
  simp only[STP,if_true,if_false,ite_true,ite_false,reduceIte,reduceCtorEq,e1]
  rfl
 | 0,.nd ..,_,_,_,_,h,_,_,_=>by simp[Q.dep]at h
 | s+1,.nd a b c d,n,x,y,h3,hd,hx,hy,hn=>by
  have hd':1+max (max a.dep b.dep) (max c.dep d.dep)≤s+1:=hd
  have hn':1+max (max a.dep b.dep) (max c.dep d.dep)+1≤n:=hn
  obtain⟨n,rfl,hn⟩:=ex1 (show 0+1≤n by omega)
  have hs:=p8 (show s≤3 by omega)
  have hp:=pos2 s
  rw[bz]at hx hy
  rw[il,cj,Q.d]
  have e1:dDiv (.int ((2^(s+1):Nat):Int)) (.int 2)=.ok (.int ((2^s:Nat):Int)):=by
   have:=gh (a:=2^(s+1)) (b:=2) (by decide) (by decide)
   rw[show (2^(s+1)/2:Nat)=2^s by rw[bz];omega]at this
   exact this
  have e2:=gh (a:=y) (b:=2^s) hp (by omega)
  have e3:=gh (a:=x) (b:=2^s) hp (by omega)
  have e4:=mZ (a:=x) (b:=2^s) hp
  have e5:=mZ (a:=y) (b:=2^s) hp
  have e6:dMul (.int 2) (.int ((y/2^s:Nat):Int))=.ok (.int (2*((y/2^s:Nat):Int))):=bQ (.inr (by decide))
  rw[Q.at]
  by_cases h1:y < 2^s
  ·have y0:y/2^s=0:=Nat.div_eq_of_lt h1
   have y1:y%2^s=y:=Nat.mod_eq_of_lt h1
   by_cases h2:x < 2^s
   ·have x0:x/2^s=0:=Nat.div_eq_of_lt h2
    have x1:x%2^s=x:=Nat.mod_eq_of_lt h2
    have k:=jw E s a n x y (by omega) (by omega) h2 h1 (by omega)
    simp only[STP,if_true,if_false,ite_true,ite_false,reduceIte,reduceCtorEq,OPP,e1,e2,e3,e4,e5,e6,if_pos h1,if_pos h2]
    rw[y0,x0,x1,y1]
    show outL (lB ((dIx (.tup [a.d e,b.d e,c.d e,d.d e]) (.int 0)).bind _) _)=_
    simp only[STP,if_true,if_false,ite_true,ite_false,reduceIte,reduceCtorEq,OPP,k]
   ·have x0:x/2^s=1:=by
     have:x=(x - 2^s)+2^s:=by omega
     rw[this,Nat.add_div_right _ hp,Nat.div_eq_of_lt (by omega)]
    have x1:x%2^s=x - 2^s:=by rw[Nat.mod_eq_sub_mod (by omega),Nat.mod_eq_of_lt (by omega)]
    have k:=jw E s b n (x - 2^s) y (by omega) (by omega) (by omega) h1 (by omega)
    simp only[STP,if_true,if_false,ite_true,ite_false,reduceIte,reduceCtorEq,OPP,e1,e2,e3,e4,e5,e6,if_pos h1,if_neg h2]
    rw[y0,x0,x1,y1]
    show outL (lB ((dIx (.tup [a.d e,b.d e,c.d e,d.d e]) (.int 1)).bind _) _)=_
    simp only[STP,if_true,if_false,ite_true,ite_false,reduceIte,reduceCtorEq,OPP,k]
  ·have y0:y/2^s=1:=by
    have:y=(y - 2^s)+2^s:=by omega
    rw[this,Nat.add_div_right _ hp,Nat.div_eq_of_lt (by omega)]
   have y1:y%2^s=y - 2^s:=by rw[Nat.mod_eq_sub_mod (by omega),Nat.mod_eq_of_lt (by omega)]
   by_cases h2:x < 2^s
   ·have x0:x/2^s=0:=Nat.div_eq_of_lt h2
    have x1:x%2^s=x:=Nat.mod_eq_of_lt h2
    have k:=jw E s c n x (y - 2^s) (by omega) (by omega) h2 (by omega) (by omega)
    simp only[STP,if_true,if_false,ite_true,ite_false,reduceIte,reduceCtorEq,OPP,e1,e2,e3,e4,e5,e6,if_neg h1,if_pos h2]
    rw[y0,x0,x1,y1]
    show outL (lB ((dIx (.tup [a.d e,b.d e,c.d e,d.d e]) (.int 2)).bind _) _)=_
    simp only[STP,if_true,if_false,ite_true,ite_false,reduceIte,reduceCtorEq,OPP,k]
   ·have x0:x/2^s=1:=by
     have:x=(x - 2^s)+2^s:=by omega
     rw[this,Nat.add_div_right _ hp,Nat.div_eq_of_lt (by omega)]
    have x1:x%2^s=x - 2^s:=by rw[Nat.mod_eq_sub_mod (by omega),Nat.mod_eq_of_lt (by omega)]
    have k:=jw E s d n (x - 2^s) (y - 2^s) (by omega) (by omega) (by omega) (by omega) (by omega)
    simp only[STP,if_true,if_false,ite_true,ite_false,reduceIte,reduceCtorEq,OPP,e1,e2,e3,e4,e5,e6,if_neg h1,if_neg h2]
    rw[y0,x0,x1,y1]
    show outL (lB ((dIx (.tup [a.d e,b.d e,c.d e,d.d e]) (.int 3)).bind _) _)=_
    simp only[STP,if_true,if_false,ite_true,ite_false,reduceIte,reduceCtorEq,OPP,k]
end
def rowT {α:Type}(e:α→D)(f:Nat→Nat→α)(w y:Nat):D:=.tup ((List.range w).map fun x=>e (f x y))
def rowsT {α:Type}(e:α→D)(f:Nat→Nat→α)(w h:Nat):D:=.tup ((List.range h).map fun y=>rowT e f w y)
theorem ce {s:Nat}(h:s≤16777216):rng1 [.int (s:Int)]=.ok ((List.range s).map fun i=>D.int ((i:Nat):Int)):=by
 show (if -16777216≤(s:Int)∧(s:Int)≤16777216 then R.ok (rngD 0 (s:Int).toNat) else R.stuck)=_
 rw[if_pos ⟨by omega,by omega⟩]
 unfold rngD
 simp
theorem oQ {α:Type}{e:α→D}{f g:Nat→Nat→α}{w y:Nat}(h:∀ x,x < w→f x y=g x y):rowT e f w y=rowT e g w y:=by
 unfold rowT
 congr 1
 exact List.map_congr_left fun x hx=>by rw[h x (List.mem_range.mp hx)]
theorem io {α:Type}{e:α→D}{f g:Nat→Nat→α}{w k:Nat}(h:∀ x y,x < w→y < k→f x y=g x y):rowsT e f w k=rowsT e g w k:=by
 unfold rowsT
 congr 1
 exact List.map_congr_left fun y hy=>oQ fun x hx=>h x y hx (List.mem_range.mp hy)
theorem pW {α:Type}{e:α→D}{f:Nat→Nat→α}{w x y:Nat}(h:x < w):dIx (rowT e f w y) (.int (x:Int))=.ok (e (f x y)):=ixT (by simp[h])
theorem m5 {α:Type}{e:α→D}{f:Nat→Nat→α}{w k y:Nat}(h:y < k):dIx (rowsT e f w k) (.int (y:Int))=.ok (rowT e f w y):=ixT (by simp[h])
theorem sx {α:Type}{e:α→D}(hE:∀ n a,good n (e a)=true)(f:Nat→Nat→α)(w y n:Nat):good (n+1) (rowT e f w y)=true:=by
 unfold rowT
 rw[good]
 exact dX fun d hd=>by
  obtain⟨x,_,rfl⟩:=List.mem_map.mp hd
  exact hE n _
theorem oR {α:Type}{e:α→D}(hE:∀ n a,good n (e a)=true)(f:Nat→Nat→α)(w k n:Nat):good (n+2) (rowsT e f w k)=true:=by
 unfold rowsT
 rw[good]
 exact dX fun d hd=>by
  obtain⟨x,_,rfl⟩:=List.mem_map.mp hd
  exact sx hE f w x n
section
variable {sz:Nat}{t:Q Int}
theorem Pc.row (p:Pc sz t){n:Nat}(hn:5≤n){y:Nat}(hy:y < 2^sz):pf n F.ax [picD sz t,.int (y:Int)]=.ok (rowT .int (t.at sz) (2^sz) y):=by
 obtain⟨n,rfl,hn⟩:=ex1 (show 4+1≤n by omega)
 have h3:=p.h3
 have hd:=p.dep
 have h8:=p8 h3
 have e1:=p.side (n:=n) (by omega)
 have hm:cMap (fun x=>(dIx (picD sz t) (.int 1)).bind fun x1=>pf n F.av [x1,.int ((2^sz:Nat):Int),x,.int (y:Int)]) ((List.range (2^sz)).map fun i=>D.int ((i:Nat):Int))=.ok (.lst ((List.range (2^sz)).map fun x=>D.int (t.at sz x y))) :=
  bg _ _ fun x hx=>by
   unfold picD
   rw[ix21,R.bind_ok]
   exact jw En.int sz t n x y h3 hd (List.mem_range.mp hx) hy (by omega)
 rw[lb,cA]
 simp only[STP,if_true,if_false,ite_true,ite_false,reduceIte,reduceCtorEq,e1,ce (show 2^sz≤16777216 by omega),hm,OPP]
 rfl
theorem Pc.rows (p:Pc sz t){n:Nat}(hn:10≤n):pf n F.ac [picD sz t]=.ok (rowsT .int (t.at sz) (2^sz) (2^sz)):=by
 obtain⟨n,rfl,hn⟩:=ex1 (show 9+1≤n by omega)
 have h8:=p8 p.h3
 have e1:=p.side (n:=n) (by omega)
 have e2:=p.check (n:=n) (by omega)
 have hm:cMap (fun y=>pf n F.ax [picD sz t,y]) ((List.range (2^sz)).map fun i=>D.int ((i:Nat):Int))=.ok (.lst ((List.range (2^sz)).map fun y=>rowT .int (t.at sz) (2^sz) y)) :=
  bg _ _ fun y hy=>p.row (by omega) (List.mem_range.mp hy)
 rw[jR,b8]
 simp only[STP,if_true,if_false,ite_true,ite_false,reduceIte,reduceCtorEq,e1,e2,ce (show 2^sz≤16777216 by omega),hm,OPP]
 rfl
end
theorem pX (n:Nat):dDiv (.int ((2^(n+1):Nat):Int)) (.int 2)=.ok (.int ((2^n:Nat):Int)):=by
 have:=gh (a:=2^(n+1)) (b:=2) (by decide) (by decide)
 rw[show (2^(n+1)/2:Nat)=2^n by rw[bz];omega]at this
 exact this
theorem uW {α:Type}(f:Nat→Nat→α)(a b c d:Nat):sh (sh f a b) c d=sh f (a+c) (b+d):=by
 funext x y;unfold sh;rw[show x+c+a=x+(a+c) by omega,show y+d+b=y+(b+d) by omega]
theorem cT (f:Nat→Nat→Int)(w h:Nat):∀ (n k l tp:Nat),n≤3→l+2^n≤w→tp+2^n≤h→n+2≤k→pf k F.al [rowsT .int f w h,.int (l:Int),.int (tp:Int),.int ((2^n:Nat):Int)]=.ok ((T (sh f l tp) n).d .int)
 | 0,k,l,tp,_,hl,ht,hk=>by
  obtain⟨k,rfl,hk⟩:=ex1 (show 1+1≤k by omega)
  have e1:=m5 (e:=D.int) (f:=f) (w:=w) (k:=h) (y:=tp) (by omega)
  have e2:=pW (e:=D.int) (f:=f) (w:=w) (x:=l) (y:=tp) (by omega)
  rw[ja,cM,show ((2^0:Nat):Int)=1 from rfl]
  simp only[STP,if_true,if_false,ite_true,ite_false,reduceIte,reduceCtorEq,OPP,decide_true,e1,e2]
  unfold T sh Q.d
  simp
 | n+1,k,l,tp,h3,hl,ht,hk=>by
  obtain⟨k,rfl,hk⟩:=ex1 (show n+2+1≤k by omega)
  rw[bz]at hl ht
  have hp:=pos2 n
  have e0:¬ (((2^(n+1):Nat):Int)=1):=by rw[bz];omega
  have k1:=cT f w h n k l tp (by omega) (by omega) (by omega) (by omega)
  have k2:=cT f w h n k (l+2^n) tp (by omega) (by omega) (by omega) (by omega)
  have k3:=cT f w h n k l (tp+2^n) (by omega) (by omega) (by omega) (by omega)
  have k4:=cT f w h n k (l+2^n) (tp+2^n) (by omega) (by omega) (by omega) (by omega)
  have c1:(l:Int)+((2^n:Nat):Int)=((l+2^n:Nat):Int):=by omega
  have c2:(tp:Int)+((2^n:Nat):Int)=((tp+2^n:Nat):Int):=by omega
  have hpt:=uT En.int (n:=k) (by omega) (a:=T (sh f l tp) n) (b:=T (sh f (l+2^n) tp) n) (c:=T (sh f l (tp+2^n)) n) (d:=T (sh f (l+2^n) (tp+2^n)) n) (Nat.le_trans (dW n _) (by omega)) (Nat.le_trans (dW n _) (by omega)) (Nat.le_trans (dW n _) (by omega)) (Nat.le_trans (dW n _) (by omega))
  rw[ja,cM]
  simp only[STP,if_true,if_false,ite_true,ite_false,reduceIte,reduceCtorEq,OPP,decide_eq_false e0,pX,c1,c2,k1,k2,k3,k4,hpt]
  rw[T,uW,uW,uW,Nat.add_zero,Nat.add_zero]
theorem uX {n:Nat}(hn:3≤n)(f:Nat→Nat→Int)(s y:Nat)(hs:s≤1000)(hw:∀ x,x < s→W9 (f x y)):pf n F.aM [rowT .int f s y,.int (s:Int)]=.ok (.bl true):=by
 obtain⟨n,rfl,hn⟩:=ex1 (show 2+1≤n by omega)
 have hm:cMap (fun worth=>pf n F.ag [worth]) ((List.range s).map fun x=>D.int (f x y))=.ok (.lst ((List.range s).map fun x=>D.bl ((fun _=>true) x))) :=
  bg _ _ fun x hx=>by rw[mX (by omega) rfl,in9 (hw x (List.mem_range.mp hx))]
 rw[rT,fL]
 unfold rowT
 have hsq:sq (.tup ((List.range s).map fun x=>D.int (f x y)))=.ok ((List.range s).map fun x=>D.int (f x y)):=fw (by simp;omega)
 simp only[STP,if_true,if_false,ite_true,ite_false,reduceIte,reduceCtorEq,OPP,List.length_map,List.length_range,decide_true,hsq,hm,jq]
 simp
theorem cx {sz:Nat}(h:sz≤3):sz=0∨sz=1∨sz=2∨sz=3:=by omega
theorem m6 {sz:Nat}(h:sz≤3):dNotInD (.int ((2^sz:Nat):Int)) (tupI [1,2,4,8])=.ok (.bl false):=by
 rcases cx h with rfl | rfl | rfl | rfl<;>rfl
theorem m7 {sz:Nat}(h:sz≤3):(onT (tupI [1,2,4,8]) fun ls=>dIndexI ls [.int ((2^sz:Nat):Int)])=.ok (.int (sz:Int)):=by
 rcases cx h with rfl | rfl | rfl | rfl<;>rfl
theorem oU {sz:Nat}(h:sz≤3):dIndexI [(.int 1),(.int 2),(.int 4),(.int 8)] [.int ((2^sz:Nat):Int)]=.ok (.int (sz:Int)):=by
 rcases cx h with rfl | rfl | rfl | rfl<;>rfl
def Wo (f:Nat→Nat→Int)(sz:Nat):Prop:=∀ x y,x < 2^sz→y < 2^sz→W9 (f x y)
theorem oV {n sz:Nat}(hn:4≤n)(h3:sz≤3){f:Nat→Nat→Int}(hw:Wo f sz):pf n F.aJ [rowsT .int f (2^sz) (2^sz)]=.ok (.bl true):=by
 obtain⟨n,rfl,hn⟩:=ex1 (show 3+1≤n by omega)
 have h8:=p8 h3
 have hl:(dLen [rowsT .int f (2^sz) (2^sz)])=.ok (.int ((2^sz:Nat):Int)):=by unfold rowsT;rw[cQ,List.length_map,List.length_range]
 have hm:cMap (fun row=>(dLen [rowsT .int f (2^sz) (2^sz)]).bind fun x1=>pf n F.aM [row,x1]) ((List.range (2^sz)).map fun y=>rowT .int f (2^sz) y)=.ok (.lst ((List.range (2^sz)).map fun x=>D.bl ((fun _=>true) x))) :=
  bg _ _ fun y hy=>by rw[hl,R.bind_ok,uX (by omega) f _ y (by omega) fun x hx=>hw x y hx (List.mem_range.mp hy)]
 have ht:dIsA qTup (rowsT .int f (2^sz) (2^sz))=.ok (.bl true):=rfl
 have hsq:sq (rowsT .int f (2^sz) (2^sz))=.ok ((List.range (2^sz)).map fun y=>rowT .int f (2^sz) y):=fw (by simp;omega)
 rw[mB,c9]
 simp only[STP,if_true,if_false,ite_true,ite_false,reduceIte,reduceCtorEq,ht,hl,m6 h3,hsq]
 rw[hl]at hm
 simp only[STP,if_true,if_false,ite_true,ite_false,reduceIte,reduceCtorEq]at hm
 simp only[STP,if_true,if_false,ite_true,ite_false,reduceIte,reduceCtorEq,hm,jq]
 simp
theorem sy {n sz:Nat}(hn:6≤n)(h3:sz≤3){f:Nat→Nat→Int}(hw:Wo f sz):pf n F.aP [rowsT .int f (2^sz) (2^sz)]=.ok (picD sz (T f sz)):=by
 obtain⟨n,rfl,hn⟩:=ex1 (show 5+1≤n by omega)
 have hl:(dLen [rowsT .int f (2^sz) (2^sz)])=.ok (.int ((2^sz:Nat):Int)):=by unfold rowsT;rw[cQ,List.length_map,List.length_range]
 have e1:=cT f (2^sz) (2^sz) sz n 0 0 h3 (by omega) (by omega) (by omega)
 rw[om,eF,oV (by omega) h3 hw]
 simp only[STP,if_true,if_false,ite_true,ite_false,reduceIte,reduceCtorEq,hl,m7 h3]
 rw[show ((0:Nat):Int)=0 from rfl]at e1
 rw[e1]
 rfl
def rowL {α:Type}(e:α→D)(f:Nat→Nat→α)(w y:Nat):D:=.lst ((List.range w).map fun x=>e (f x y))
def rowsL {α:Type}(e:α→D)(f:Nat→Nat→α)(w h:Nat):D:=.lst ((List.range h).map fun y=>rowL e f w y)
theorem uY {α:Type}{e:α→D}{f:Nat→Nat→α}{w k y:Nat}(h:y < k):dIx (rowsL e f w k) (.int (y:Int))=.ok (rowL e f w y):=ixL (by simp[h])
theorem catL {xs ys:List D}(h:xs.length+ys.length≤16777216):dAdd (.lst xs) (.lst ys)=.ok (.lst (xs++ys)):=by
 show (if xs.length+ys.length≤16777216 then R.ok (D.lst (xs++ys)) else R.stuck)=_
 rw[if_pos h]
theorem uZ {α:Type}{e:α→D}{fa fb F:Nat→Nat→α}{h y y':Nat}(ha:∀ x,x < h→F x y'=fa x y)(hb:∀ x,x < h→F (h+x) y'=fb x y):((List.range h).map fun x=>e (fa x y))++((List.range h).map fun x=>e (fb x y))=(List.range (h+h)).map fun x=>e (F x y'):=by
 rw[List.range_add,List.map_append,List.map_map]
 congr 1
 ·exact List.map_congr_left fun x hx=>by rw[ha x (List.mem_range.mp hx)]
 ·exact List.map_congr_left fun x hx=>by show _=e (F (h+x) y');rw[hb x (List.mem_range.mp hx)]
theorem u3 {xs ys:List D}(h:xs.length+ys.length≤16777216):oExt xs (.lst ys)=.ok (xs++ys):=by unfold oExt;simp[h]
theorem u4 {xs ys:List D}(h:xs.length+ys.length≤16777216):oExt xs (.tup ys)=.ok (xs++ys):=by unfold oExt;simp[h]
theorem wT {xs:List D}{y:D}(h:xs.length < 16777216):oApp xs y=.ok (xs++[y]):=by unfold oApp;simp[h]
section
variable {α:Type}[DecidableEq α]{e:α→D}
theorem m9 {fa fb F:Nat→Nat→α}{h o:Nat}(hh:h≤1000){some_:List D}{u:Nat}(e1:some_[u]?=some (rowsL e fa h h))(e2:some_[u+1]?=some (rowsL e fb h h))(ha:∀ x y,x < h→y < h→F x (o+y)=fa x y)(hb:∀ x y,x < h→y < h→F (h+x) (o+y)=fb x y){t:Nat→List D→R D}{made:List D}(hm:made.length≤1000) :
  cq t (.lst some_) made (.int (u:Int))=.nx (made++(List.range h).map fun y=>rowL e F (h+h) (o+y)):=by
 have i1:=ixL e1
 have i2:dIx (.lst some_) (.int ((u:Int)+1))=.ok (rowsL e fb h h):=by have:=ixL e2;rw[show ((u+1:Nat):Int)=(u:Int)+1 by omega]at this;exact this
 have hl:dLen [rowsL e fa h h]=.ok (.int (h:Int)):=by unfold rowsL;rw[jo,List.length_map,List.length_range]
 have hc:cMap (fun zY=>((dIx (.lst some_) (.int (u:Int))).bind fun x2=>dIx x2 zY).bind fun x3=>(((dAdd (.int (u:Int)) (.int 1)).bind fun x4=>dIx (.lst some_) x4).bind fun x5=>dIx x5 zY).bind fun x6=>dAdd x3 x6) ((List.range h).map fun i=>D.int ((i:Nat):Int))=.ok (.lst ((List.range h).map fun y=>rowL e F (h+h) (o+y))) :=
  bg _ _ fun y hy=>by
   have hy:=List.mem_range.mp hy
   rw[i1]
   simp only[STP,if_true,if_false,ite_true,ite_false,reduceIte,reduceCtorEq,OPP,i2,uY hy]
   unfold rowL
   rw[catL (by simp;omega),uZ (F:=F) (y':=o+y) (fun x hx=>ha x y hx hy) (fun x hx=>hb x y hx hy)]
 unfold cq
 rw[i1]
 simp only[STP,if_true,if_false,ite_true,ite_false,reduceIte,reduceCtorEq,hl,ce (show h≤16777216 by omega)]
 rw[i1]at hc
 simp only[STP,if_true,if_false,ite_true,ite_false,reduceIte,reduceCtorEq]at hc
 simp only[STP,if_true,if_false,ite_true,ite_false,reduceIte,reduceCtorEq,hc]
 rw[u3 (by simp;omega)]
 rfl
theorem cy (E:En e):∀ (s:Nat) (t:Q α) (n:Nat),s≤3→t.dep≤s→s+1≤n→pf n F.ap [.int (s:Int),t.d e]=.ok (rowsL e (t.at s) (2^s) (2^s))
 | 0,t,n,_,hd,hn=>by
  obtain⟨n,rfl,hn⟩:=ex1 (show 0+1≤n by omega)
  rw[fV,bN,show ((0:Nat):Int)=0 from rfl]
  simp only[STP,if_true,if_false,ite_true,ite_false,reduceIte,reduceCtorEq,OPP,decide_true]
  cases t with
  | lf a=>rfl
  | nd=>simp[Q.dep]at hd
 | s+1,t,n,h3,hd,hn=>by
  obtain⟨n,rfl,hn⟩:=ex1 (show s+1+1≤n by omega)
  have e0:¬ (((s+1:Nat):Int)=0):=by omega
  have e1:((s+1:Nat):Int) - 1=(s:Int):=by omega
  have h8:=p8 (show s≤3 by omega)
  obtain⟨a,b,c,d,hq,ha,hb,hc,hd4,hF⟩:∃ a b c d:Q α,(rIf (asB (dIsA qTup (t.d e))) (.ok (t.d e)) (dMul (.tup [t.d e]) (.int 4)))=.ok (.tup [a.d e,b.d e,c.d e,d.d e])∧a.dep≤s∧b.dep≤s∧c.dep≤s∧d.dep≤s∧∀ x y,t.at (s+1) x y=(Q.nd a b c d).at (s+1) x y:=by
   cases t with
   | lf v =>
    refine⟨.lf v,.lf v,.lf v,.lf v,?_,Nat.zero_le _,Nat.zero_le _,Nat.zero_le _,Nat.zero_le _,fun x y=>by simp[Q.at]⟩
    rw[cS (d:=Q.d e (.lf v)) (E.tup v) (bR (E.gd 0 v))]
    rfl
   | nd a b c d =>
    have hd':1+max (max a.dep b.dep) (max c.dep d.dep)≤s+1:=hd
    exact⟨a,b,c,d,rfl,by omega,by omega,by omega,by omega,fun _ _=>rfl⟩
  have ka:=cy E s a n (by omega) ha (by omega)
  have kb:=cy E s b n (by omega) hb (by omega)
  have kc:=cy E s c n (by omega) hc (by omega)
  have kd:=cy E s d n (by omega) hd4 (by omega)
  have hm:cMap (fun AE=>(dSub (.int ((s+1:Nat):Int)) (.int 1)).bind fun x=>pf n F.ap [x,AE]) [a.d e,b.d e,c.d e,d.d e]=.ok (.lst [rowsL e (a.at s) (2^s) (2^s),rowsL e (b.at s) (2^s) (2^s),rowsL e (c.at s) (2^s) (2^s),rowsL e (d.at s) (2^s) (2^s)]):=by
   rw[cR,e1];exact cMap4 ka kb kc kd
  have u1:=m9 (e:=e) (fa:=a.at s) (fb:=b.at s) (F:=t.at (s+1)) (h:=2^s) (o:=0) (by omega) (some_:=[rowsL e (a.at s) (2^s) (2^s),rowsL e (b.at s) (2^s) (2^s),rowsL e (c.at s) (2^s) (2^s),rowsL e (d.at s) (2^s) (2^s)]) (u:=0) rfl rfl
   (fun x y hx hy=>by rw[hF,Q.at,if_pos (by omega),if_pos hx,Nat.zero_add]) (fun x y hx hy=>by rw[hF,Q.at,if_pos (by omega),if_neg (by omega),Nat.zero_add,Nat.add_sub_cancel_left]) (t:=pf n) (made:=[]) (by simp)
  have u2:=m9 (e:=e) (fa:=c.at s) (fb:=d.at s) (F:=t.at (s+1)) (h:=2^s) (o:=2^s) (by omega) (some_:=[rowsL e (a.at s) (2^s) (2^s),rowsL e (b.at s) (2^s) (2^s),rowsL e (c.at s) (2^s) (2^s),rowsL e (d.at s) (2^s) (2^s)]) (u:=2) rfl rfl
   (fun x y hx hy=>by rw[hF,Q.at,if_neg (by omega),if_pos hx,Nat.add_sub_cancel_left]) (fun x y hx hy=>by rw[hF,Q.at,if_neg (by omega),if_neg (by omega),Nat.add_sub_cancel_left,Nat.add_sub_cancel_left]) (t:=pf n) (made:=(List.range (2^s)).map fun y=>rowL e (t.at (s+1)) (2^s+2^s) (0+y)) (by simp;omega)
  rw[fV,bN,hq]
  have hs2:sq (.tup [(.int 0),(.int 2)])=.ok [.int 0,.int 2]:=rfl
  rw[show ((0:Nat):Int)=0 from rfl]at u1
  rw[show ((2:Nat):Int)=2 from rfl]at u2
  simp only[STP,if_true,if_false,ite_true,ite_false,reduceIte,reduceCtorEq,OPP,decide_eq_false e0,sq4,e1,hs2,bn,iX]at hm ⊢
  simp only[STP,if_true,if_false,ite_true,ite_false,reduceIte,reduceCtorEq,hm,u1,List.nil_append]at u2 ⊢
  simp only[STP,if_true,if_false,ite_true,ite_false,reduceIte,reduceCtorEq,u2]
  unfold rowsL
  rw[bz,List.range_add,List.map_append,List.map_map]
  simp[Function.comp_def]
end
theorem Pc.lrows {sz:Nat}{t:Q Int}(p:Pc sz t){n:Nat}(hn:5≤n):pf n F.aw [picD sz t]=.ok (rowsT .int (t.at sz) (2^sz) (2^sz)):=by
 obtain⟨n,rfl,hn⟩:=ex1 (show 4+1≤n by omega)
 have h3:=p.h3
 have h8:=p8 h3
 have e1:=cy En.int sz t n h3 p.dep (by omega)
 have hsq:sq (rowsL .int (t.at sz) (2^sz) (2^sz))=.ok ((List.range (2^sz)).map fun y=>rowL .int (t.at sz) (2^sz) y):=oN (by simp;omega)
 have hm:cMap (fun Aa=>dTuple [Aa]) ((List.range (2^sz)).map fun y=>rowL .int (t.at sz) (2^sz) y)=.ok (.lst ((List.range (2^sz)).map fun y=>rowT .int (t.at sz) (2^sz) y)):=bg _ _ fun y _=>rfl
 rw[rZ,fQ]
 unfold picD
 simp only[STP,if_true,if_false,ite_true,ite_false,reduceIte,reduceCtorEq,OPP,e1,hsq,hm]
 rfl
theorem na {α:Type}(c:α→D){step:List D→D→L (List D)}(g:α→List D)(m:Nat):∀ (l:List α) (acc:List D),(∀ a∈l,∀ acc:List D,acc.length≤10000→step acc (c a)=.nx (acc++g a))→(∀ a∈l,(g a).length≤m)→acc.length+l.length*m≤10000→lFor step (l.map c) acc=.nx (acc++l.flatMap g)
 | [],acc,_,_,_=>by simp
 | a::l,acc,h,hm,hl=>by
  have hl':acc.length+(l.length+1)*m≤10000:=hl
  rw[Nat.add_mul]at hl'
  have ha:=hm a (.head _)
  rw[List.map_cons,bn,h a (.head _) acc (by omega),bX,na c g m l (acc++g a) (fun b hb=>h b (.tail _ hb)) (fun b hb=>hm b (.tail _ hb)) (by rw[List.length_append];omega),List.flatMap_cons,List.append_assoc]
theorem jz:∀ is:List Int,intsOf (is.map .int)=some is
 | []=>rfl
 | i::r=>by rw[List.map_cons,intsOf,jz r];rfl
def vals (f:Nat→Nat→Int)(w k:Nat):List Int:=(List.range k).flatMap fun y=>(List.range w).map fun x=>f x y
theorem u5 (f:Nat→Nat→Int)(w k:Nat):(vals f w k).length=k*w:=by
 unfold vals
 rw[List.length_flatMap]
 have:∀ l:List Nat,(l.map fun y=>((List.range w).map fun x=>f x y).length).sum=l.length*w:=fun l=>by
  induction l with
  | nil=>simp
  | cons a l ih=>rw[List.map_cons,List.sum_cons,ih,List.length_map,List.length_range,List.length_cons,Nat.add_mul];omega
 rw[this,List.length_range]
theorem ng {f:Nat→Nat→Int}{w k:Nat}{v:Int}:v∈vals f w k↔∃ x y,x < w∧y < k∧v=f x y:=by
 unfold vals
 simp only[List.mem_flatMap,List.mem_map,List.mem_range]
 constructor
 ·rintro ⟨y,hy,x,hx,rfl⟩;exact⟨x,y,hx,hy,rfl⟩
 ·rintro ⟨x,y,hx,hy,rfl⟩;exact⟨y,hy,x,hx,rfl⟩
theorem u6:∀ {l:List Int},l.eraseDups.length=1↔∃ a r,l=a::r∧∀ v∈l,v=a
 | []=>by simp
 | a::r=>by
  rw[List.eraseDups_cons]
  constructor
  ·intro h
   have h0:(r.filter fun b=>!b==a).eraseDups=[]:=List.length_eq_zero_iff.mp (by simpa using h)
   have h1:(r.filter fun b=>!b==a)=[]:=by
    cases q:(r.filter fun b=>!b==a) with
    | nil=>rfl
    | cons b s=>rw[q,List.eraseDups_cons]at h0;cases h0
   refine⟨a,r,rfl,fun v hv=>?_⟩
   cases hv with
   | head=>rfl
   | tail _ hv =>
    rw[List.filter_eq_nil_iff]at h1
    simpa using h1 v hv
  ·rintro ⟨a',r',e,h⟩
   cases e
   have:(r.filter fun b=>!b==a)=[]:=List.filter_eq_nil_iff.mpr fun v hv=>by simpa using h v (.tail _ hv)
   rw[this];rfl
theorem kz {f:Nat→Nat→Int}{w k:Nat}(hw:0 < w)(hk:0 < k):∃ r,vals f w k=f 0 0::r:=by
 obtain⟨w,rfl⟩:∃ m,w=m+1:=⟨w - 1,by omega⟩
 obtain⟨k,rfl⟩:∃ m,k=m+1:=⟨k - 1,by omega⟩
 unfold vals
 rw[List.range_succ_eq_map (n:=k),List.flatMap_cons,List.range_succ_eq_map (n:=w),List.map_cons]
 exact⟨_,rfl⟩
theorem u7 {f:Nat→Nat→Int}{w k:Nat}(hw:0 < w)(hk:0 < k):(vals f w k).eraseDups.length=1↔∀ x y,x < w→y < k→f x y=f 0 0:=by
 rw[u6]
 obtain⟨r,hr⟩:=kz (f:=f) hw hk
 constructor
 ·rintro ⟨a,r',e,h⟩ x y hx hy
  rw[hr]at e
  cases e
  exact h _ (ng.mpr ⟨x,y,hx,hy,rfl⟩)
 ·intro h
  refine⟨_,r,hr,fun v hv=>?_⟩
  obtain⟨x,y,hx,hy,rfl⟩:=ng.mp hv
  exact h x y hx hy
theorem T_nd {α:Type}[DecidableEq α]{n:Nat}{f:Nat→Nat→α}(h:¬ ∀ x y,x < 2^(n+1)→y < 2^(n+1)→f x y=f 0 0):T f (n+1)=.nd (T f n) (T (sh f (2^n) 0) n) (T (sh f 0 (2^n)) n) (T (sh f (2^n) (2^n)) n):=by
 by_cases q:∃ v,T f (n+1)=.lf v
 ·obtain⟨v,q⟩:=q
  exfalso
  apply h
  intro x y hx hy
  have:=T_at (n+1) f x y hx hy
  rw[q,kx]at this
  have h0:=T_at (n+1) f 0 0 (pos2 _) (pos2 _)
  rw[q,kx]at h0
  rw[← this,h0]
 ·rw[T]at q ⊢
  unfold put4 at q ⊢
  split
  ·rename_i v e
   split
   ·rename_i h';exfalso;apply q;rw[e];simp only;rw[if_pos h'];exact⟨v,rfl⟩
   ·rw[e]
  ·rfl
theorem pY {n d k:Nat}(h:k≤n):HT.sIx n d (some ((k:Nat):Int))=k:=by
 unfold HT.sIx
 simp only
 rw[if_neg (by omega)]
 rw[Int.toNat_natCast]
 omega
theorem kA {g:Nat→D}{w a h:Nat}(hw:a+h≤w):cutD ((List.range w).map g) (some ((a:Nat):Int)) (some ((a+h:Nat):Int))=(List.range h).map fun i=>g (a+i):=by
 unfold cutD
 rw[List.length_map,List.length_range,pY (by omega),pY (by omega),← List.map_drop,← List.map_take]
 have:((List.range w).drop a).take (a+h - a)=(List.range h).map (a + ·):=by
  rw[show a+h - a=h by omega]
  apply List.ext_getElem?
  intro i
  rw[List.getElem?_take]
  by_cases hi:i < h
  ·rw[if_pos hi,List.getElem?_drop,List.getElem?_range (by omega),List.getElem?_map,List.getElem?_range hi];rfl
  ·rw[if_neg hi,List.getElem?_eq_none (by simp;omega)]
 rw[this,List.map_map]
 rfl
def seqD (b:Bool)(xs:List D):D:=if b then .tup xs else .lst xs
theorem oW {b:Bool}{xs:List D}(h:xs.length≤16777216):sq (seqD b xs)=.ok xs:=by cases b;exact oN h;exact fw h
theorem wU {b:Bool}{xs:List D}{lo hi:Option Int}:dSw (seqD b xs) lo hi=.ok (seqD b (cutD xs lo hi)):=by cases b<;>rfl
theorem nh {b:Bool}{xs:List D}:dLen [seqD b xs]=.ok (.int xs.length):=by cases b<;>rfl
def rowsS {α:Type}(b:Bool)(e:α→D)(f:Nat→Nat→α)(w h:Nat):D:=seqD b ((List.range h).map fun y=>rowT e f w y)
theorem sA:∀ (n:Nat) (b:Bool) (f:Nat→Nat→Int) (k:Nat),n≤3→n+1≤k→pf k F.aH [rowsS b .int f (2^n) (2^n)]=.ok ((T f n).d .int):=by
 have flat:∀ (b:Bool) (f:Nat→Nat→Int) (s:Nat) (t:Nat→List D→R D),s≤8→lFor (τ:=List D) (fun s x=>b9 t s x) ((List.range s).map fun y=>rowT .int f s y) []=.nx ((vals f s s).map .int):=fun b f s t hs=>by
  have h8:s*s≤64:=Nat.mul_le_mul hs hs
  have:=na (fun y=>rowT .int f s y) (step:=fun s x=>b9 t s x) (fun y=>(List.range s).map fun x=>D.int (f x y)) s (List.range s) [] (fun y hy acc ha=>by
   unfold b9 rowT
   rw[u4 (by simp;omega)]
   rfl) (fun y hy=>by simp) (by simp;omega)
  rw[this]
  unfold vals
  simp[List.map_flatMap,Function.comp_def]
 intro n
 induction n with
 | zero =>
  intro b f k _ hk
  obtain⟨k,rfl,hk⟩:=ex1 (show 0+1≤k by omega)
  have hf:=flat b f 1 (pf k) (by decide)
  rw[jb,cO]
  unfold rowsS
  rw[show (2^0:Nat)=1 from rfl,oW (by simp),aM,hf]
  rfl
 | succ n ih =>
  intro b f k h3 hk
  obtain⟨k,rfl,hk⟩:=ex1 (show n+1+1≤k by omega)
  have h8:=p8 h3
  have hp:=pos2 (n+1)
  have hq:=pos2 n
  have hd:=bz n
  have hf:=flat b f (2^(n+1)) (pf k) h8
  have hls:dLenSet [.lst ((vals f (2^(n+1)) (2^(n+1))).map .int)]=.ok (.int ((vals f (2^(n+1)) (2^(n+1))).eraseDups.length:Nat)):=by
   have hl:(vals f (2^(n+1)) (2^(n+1))).length≤4000:=by
    rw[u5];have:=Nat.mul_le_mul h8 h8;omega
   unfold dLenSet;simp only[jz];rw[if_pos hl]
  have hv:=u7 (f:=f) hp hp
  obtain⟨r,hr⟩:=kz (f:=f) hp hp
  have hsq:sq (rowsS b .int f (2^(n+1)) (2^(n+1)))=.ok ((List.range (2^(n+1))).map fun y=>rowT .int f (2^(n+1)) y):=oW (by simp;omega)
  have hln:dLen [rowsS b .int f (2^(n+1)) (2^(n+1))]=.ok (.int ((2^(n+1):Nat):Int)):=by unfold rowsS;rw[nh];simp
  rw[jb,cO]
  by_cases hall:∀ x y,x < 2^(n+1)→y < 2^(n+1)→f x y=f 0 0
  ·have h1:((vals f (2^(n+1)) (2^(n+1))).eraseDups.length:Int)=1:=by have:=hv.mpr hall;omega
   have h2:dIx (.lst ((vals f (2^(n+1)) (2^(n+1))).map .int)) (.int 0)=.ok (.int (f 0 0)):=by
    have:=ixL (xs:=(vals f (2^(n+1)) (2^(n+1))).map .int) (i:=0) (x:=.int (f 0 0)) (by rw[hr];rfl)
    exact this
   have h3:T f (n+1)=.lf (f 0 0):=(aS _ _ _ hall).trans (lC _ _)
   simp only[STP,if_true,if_false,ite_true,ite_false,reduceIte,reduceCtorEq,OPP,hsq,hf,hls,decide_eq_true h1,h2,h3,Q.d]
  ·have h1:¬ ((vals f (2^(n+1)) (2^(n+1))).eraseDups.length:Int)=1:=fun q=>hall (hv.mp (by omega))
   have one:∀ (tp lf:Nat) (parts:List D),tp+2^n≤2^(n+1)→lf+2^n≤2^(n+1)→parts.length≤10→dg (pf k) (rowsS b .int f (2^(n+1)) (2^(n+1))) (.int ((2^n:Nat):Int)) (.int (tp:Int)) parts (.int (lf:Int))=.nx (parts++[(T (sh f lf tp) n).d .int]):=fun tp lf parts htp hlf hpa=>by
    have c1:(tp:Int)+((2^n:Nat):Int)=((tp+2^n:Nat):Int):=by omega
    have c2:(lf:Int)+((2^n:Nat):Int)=((lf+2^n:Nat):Int):=by omega
    have ai:∀ i:Int,asI (.int i)=.ok (some i):=fun _=>rfl
    have s1:dSw (rowsS b .int f (2^(n+1)) (2^(n+1))) (some (tp:Int)) (some ((tp+2^n:Nat):Int))=.ok (seqD b ((List.range (2^n)).map fun i=>rowT .int f (2^(n+1)) (tp+i))):=by
     unfold rowsS
     rw[wU,kA htp]
    have s2:sq (seqD b ((List.range (2^n)).map fun i=>rowT .int f (2^(n+1)) (tp+i)))=.ok ((List.range (2^n)).map fun i=>rowT .int f (2^(n+1)) (tp+i)):=oW (by simp;omega)
    have s3:cMap (fun Aa=>dSw Aa (some (lf:Int)) (some ((lf+2^n:Nat):Int))) ((List.range (2^n)).map fun i=>rowT .int f (2^(n+1)) (tp+i))=.ok (rowsS false .int (sh f lf tp) (2^n) (2^n)):=by
     refine(bg _ (fun i=>rowT .int (sh f lf tp) (2^n) i) fun i hi=>?_).trans rfl
     unfold rowT
     show R.ok (D.tup (cutD _ _ _))=_
     rw[kA (g:=fun x=>D.int (f x (tp+i))) hlf]
     unfold sh
     congr 2
     exact List.map_congr_left fun x _=>by rw[Nat.add_comm lf x,Nat.add_comm tp i]
    have s4:=ih false (sh f lf tp) k (by omega) (by omega)
    unfold dg
    simp only[STP,if_true,if_false,ite_true,ite_false,reduceIte,reduceCtorEq,OPP,ai,c1,c2,s1,s2,s3,s4]
    rw[wT (by omega)]
    rfl
   have pair:∀ (tp:Nat) (parts:List D),tp+2^n≤2^(n+1)→parts.length≤5→dh (pf k) (rowsS b .int f (2^(n+1)) (2^(n+1))) (.int ((2^n:Nat):Int)) parts (.int (tp:Int))=.nx (parts++[(T (sh f 0 tp) n).d .int,(T (sh f (2^n) tp) n).d .int]):=fun tp parts htp hpa=>by
    have h0:=one tp 0 parts htp (by omega) (by omega)
    have h1:=one tp (2^n) (parts++[(T (sh f 0 tp) n).d .int]) htp (by omega) (by simp;omega)
    have hs2:sq (.tup [(.int 0),(.int ((2^n:Nat):Int))])=.ok [.int 0,.int ((2^n:Nat):Int)]:=rfl
    rw[show ((0:Nat):Int)=0 from rfl]at h0
    unfold dh
    simp only[STP,if_true,if_false,ite_true,ite_false,reduceIte,reduceCtorEq,hs2,bn,iX,h0,h1,List.append_assoc,List.cons_append,List.nil_append]
   have p0:=pair 0 [] (by omega) (by simp)
   have p1:=pair (2^n) [(T (sh f 0 0) n).d .int,(T (sh f (2^n) 0) n).d .int] (by omega) (by simp)
   have hs2:sq (.tup [(.int 0),(.int ((2^n:Nat):Int))])=.ok [.int 0,.int ((2^n:Nat):Int)]:=rfl
   rw[show ((0:Nat):Int)=0 from rfl]at p0
   rw[T_nd hall]
   simp only[STP,if_true,if_false,ite_true,ite_false,reduceIte,reduceCtorEq,OPP,hsq,hf,hls,decide_eq_false h1,hln,pX,hs2,bn,iX,p0,List.nil_append,p1,List.cons_append,Q.d]
   rfl
theorem yA {n:Nat}(b:Bool)(f:Nat→Nat→Int){sz:Nat}(h3:sz≤3)(hn:5≤n):pf n F.aT [rowsS b .int f (2^sz) (2^sz)]=.ok (picD sz (T f sz)):=by
 obtain⟨n,rfl,hn⟩:=ex1 (show 4+1≤n by omega)
 have hln:dLen [rowsS b .int f (2^sz) (2^sz)]=.ok (.int ((2^sz:Nat):Int)):=by unfold rowsS;rw[nh];simp
 have e1:(onL (.lst [(.int 1),(.int 2),(.int 4),(.int 8)]) fun ls=>dIndexI ls [.int ((2^sz:Nat):Int)])=.ok (.int (sz:Int)):=oU h3
 have e2:=sA sz b f n h3 (by omega)
 rw[wE,k8]
 simp only[STP,if_true,if_false,ite_true,ite_false,reduceIte,reduceCtorEq,hln,e1,e2]
 rfl
theorem zr {n:Nat}(f:Nat→Nat→Int){sz:Nat}(h3:sz≤3)(hn:5≤n):pf n F.aT [rowsT .int f (2^sz) (2^sz)]=.ok (picD sz (T f sz)):=yA true f h3 hn
section
variable {sz:Nat}{tr:Q Int}
end
section
variable {sz:Nat}{tr:Q Int}
end
theorem ip {α τ:Type}(f:τ→α→L τ):∀ (xs ys:List α) (s:τ),lFor f (xs++ys) s=lS (lFor f xs s) fun s'=>lFor f ys s'
 | [],ys,s=>rfl
 | x::xs,ys,s=>by
  rw[List.cons_append,bn,bn]
  cases f s x with
  | nx s'=>exact ip f xs ys s'
  | rt d=>rfl
  | er k=>rfl
  | stuck=>rfl
theorem jA {α τ:Type}{f:τ→α→L τ}(c:Nat→α)(inv:Nat→τ):∀ n,(∀ i,i < n→f (inv i) (c i)=.nx (inv (i+1)))→lFor f ((List.range n).map c) (inv 0)=.nx (inv n)
 | 0,_=>rfl
 | n+1,h=>by
  rw[List.range_succ,List.map_append,ip,jA c inv n fun i hi=>h i (by omega),bX,List.map_cons,List.map_nil,bn,h n (by omega)]
  rfl
structure Sh (sz:Nat)(g:Nat→Nat→Int)(t:Q Int):Prop where
 p:Pc sz t
 w:∀ x y,x < 2^sz→y < 2^sz→t.at sz x y=g x y
theorem Sh.wo {sz:Nat}{g:Nat→Nat→Int}{t:Q Int}(h:Sh sz g t):Wo g sz:=fun x y hx hy=>by rw[← h.w x y hx hy];exact h.p.at x y
theorem sh_T {sz:Nat}{g:Nat→Nat→Int}(h3:sz≤3)(h:Wo g sz):Sh sz g (T g sz):=⟨pc_T h3 h,fun x y hx hy=>T_at sz g x y hx hy⟩
theorem Pc.sh {sz:Nat}{t:Q Int}(p:Pc sz t):Sh sz (t.at sz) t:=⟨p,fun _ _ _ _=>rfl⟩
section
variable {sz:Nat}{g:Nat→Nat→Int}{t:Q Int}
theorem Sh.lean (q:Sh sz g t){n:Nat}(hn:10≤n):pf n F.aN [picD sz t]=.ok (picD sz (T g sz)):=by rw[q.p.lean hn,aS sz _ _ q.w]
theorem Sh.rows (q:Sh sz g t){n:Nat}(hn:10≤n):pf n F.ac [picD sz t]=.ok (rowsT .int g (2^sz) (2^sz)):=by rw[q.p.rows hn,io q.w]
theorem Sh.lrows (q:Sh sz g t){n:Nat}(hn:5≤n):pf n F.aw [picD sz t]=.ok (rowsT .int g (2^sz) (2^sz)):=by rw[q.p.lrows hn,io q.w]
end
section
variable {sz:Nat}{g:Nat→Nat→Int}{t:Q Int}
end
theorem sB:∀ {n:Nat} {d:D},good n d=true→eqD d d=true:=fun {n d} h=>FF.fC n d h
theorem gj {x:D}(h:good 60 x=true):dNf x x=.ok (.bl false):=by rw[mW h h,FF.fC 60 x h];rfl
theorem Pc.g60 {sz:Nat}{t:Q Int}(p:Pc sz t):FF.good 60 (picD sz t)=true:=eN p.good (by decide)
theorem u8 {sz sz':Nat}{t t':Q Int}:eqD (picD sz t) (picD sz' t')=(decide (sz=sz')&&decide (t=t')):=by
 unfold picD
 rw[eqD,eqDs,eqDs,eqDs,Q.eqd En.int]
 simp only[eqD,Bool.and_true]
 congr 1
 rw[Bool.beq_eq_decide_eq]
 exact decide_eq_decide.mpr (by omega)
section
variable {α:Type}[DecidableEq α]
end
section
variable {sz:Nat}{r:PySem.Str}{i:Nat}{f:Int→Int→Int}
variable {g g':Nat→Nat→Int}{t t':Q Int}
end
def sel {β:Type}(k:Nat)(a b c d:β):β:=match k with
 | 0=>a
 | 1=>b
 | 2=>c
 | _=>d
section
variable {α:Type}[DecidableEq α]
def Q.mv (p q r s:Nat):Q α→Q α
 | .lf v=>.lf v
 | .nd a b c d=>.nd (sel p (a.mv p q r s) (b.mv p q r s) (c.mv p q r s) (d.mv p q r s)) (sel q (a.mv p q r s) (b.mv p q r s) (c.mv p q r s) (d.mv p q r s)) (sel r (a.mv p q r s) (b.mv p q r s) (c.mv p q r s) (d.mv p q r s)) (sel s (a.mv p q r s) (b.mv p q r s) (c.mv p q r s) (d.mv p q r s))
theorem pZ {p q r s:Nat}{t:Q α}{v:α}:t.mv p q r s=.lf v↔t=.lf v:=by cases t<;>simp[Q.mv]
theorem ni (a b c d:Q α):(∃ v,a=.lf v∧b=.lf v∧c=.lf v∧d=.lf v)∨put4 a b c d=.nd a b c d:=by
 unfold put4
 split
 ·split
  ·rename_i h2;exact .inl ⟨_,rfl,h2⟩
  ·exact .inr rfl
 ·exact .inr rfl
structure Odr (p q r s:Nat)(m:Nat→(Nat→Nat→Int)→Nat→Nat→Int):Prop where
 lt:p < 4∧q < 4∧r < 4∧s < 4
 all:∀ k,k < 4→k=p∨k=q∨k=r∨k=s
 one:∀ g:Nat→Nat→Int,m 1 g 0 0=g 0 0
 loc:∀ (n:Nat) (g:Nat→Nat→Int) (x y:Nat),x < n→y < n→∃ x' y',x' < n∧y' < n∧∀ g':Nat→Nat→Int,m n g' x y=g' x' y'
 q0:∀ (h:Nat) (g:Nat→Nat→Int) (x y:Nat),x < h→y < h→m (h+h) g x y=m h (sel p g (sh g h 0) (sh g 0 h) (sh g h h)) x y
 q1:∀ (h:Nat) (g:Nat→Nat→Int) (x y:Nat),x < h→y < h→m (h+h) g (x+h) y=m h (sel q g (sh g h 0) (sh g 0 h) (sh g h h)) x y
 q2:∀ (h:Nat) (g:Nat→Nat→Int) (x y:Nat),x < h→y < h→m (h+h) g x (y+h)=m h (sel r g (sh g h 0) (sh g 0 h) (sh g h h)) x y
 q3:∀ (h:Nat) (g:Nat→Nat→Int) (x y:Nat),x < h→y < h→m (h+h) g (x+h) (y+h)=m h (sel s g (sh g h 0) (sh g 0 h) (sh g h h)) x y
theorem sel4 {k:Nat}(h:k < 4):k=0∨k=1∨k=2∨k=3:=by omega
theorem wV {p q r s:Nat}{m:Nat→(Nat→Nat→Int)→Nat→Nat→Int}(o:Odr p q r s m)(a b c d:Q Int):(put4 a b c d).mv p q r s=put4 (sel p (a.mv p q r s) (b.mv p q r s) (c.mv p q r s) (d.mv p q r s)) (sel q (a.mv p q r s) (b.mv p q r s) (c.mv p q r s) (d.mv p q r s)) (sel r (a.mv p q r s) (b.mv p q r s) (c.mv p q r s) (d.mv p q r s)) (sel s (a.mv p q r s) (b.mv p q r s) (c.mv p q r s) (d.mv p q r s)):=by
 rcases ni a b c d with ⟨v,rfl,rfl,rfl,rfl⟩ | h
 ·have e:∀ k,sel k ((Q.lf v:Q Int).mv p q r s) ((Q.lf v).mv p q r s) ((Q.lf v).mv p q r s) ((Q.lf v).mv p q r s)=.lf v:=fun k=>by unfold sel;split<;>rfl
  rw[eM,e,e,e,e,eM];rfl
 ·rw[h]
  rcases ni (sel p (a.mv p q r s) (b.mv p q r s) (c.mv p q r s) (d.mv p q r s)) (sel q (a.mv p q r s) (b.mv p q r s) (c.mv p q r s) (d.mv p q r s)) (sel r (a.mv p q r s) (b.mv p q r s) (c.mv p q r s) (d.mv p q r s)) (sel s (a.mv p q r s) (b.mv p q r s) (c.mv p q r s) (d.mv p q r s)) with ⟨v,h0,h1,h2,h3⟩ | h'
  ·have al:∀ k,k < 4→sel k (a.mv p q r s) (b.mv p q r s) (c.mv p q r s) (d.mv p q r s)=.lf v:=fun k hk=>by
    rcases o.all k hk with h | h | h | h
    ·rw[h];exact h0
    ·rw[h];exact h1
    ·rw[h];exact h2
    ·rw[h];exact h3
   have ea:=pZ.1 (al 0 (by omega));have eb:=pZ.1 (al 1 (by omega));have ec:=pZ.1 (al 2 (by omega));have ed:=pZ.1 (al 3 (by omega))
   rw[ea,eb,ec,ed,eM]at h
   cases h
  ·rw[h'];rfl
theorem mv_T {p q r s:Nat}{m:Nat→(Nat→Nat→Int)→Nat→Nat→Int}(o:Odr p q r s m):∀ (n:Nat) (g:Nat→Nat→Int),(T g n).mv p q r s=T (m (2^n) g) n
 | 0,g=>by show (Q.lf (g 0 0)).mv p q r s=Q.lf (m 1 g 0 0);rw[o.one];rfl
 | n+1,g=>by
  rw[T,wV o,T,bz]
  have e:∀ k,k < 4→sel k ((T g n).mv p q r s) ((T (sh g (2^n) 0) n).mv p q r s) ((T (sh g 0 (2^n)) n).mv p q r s) ((T (sh g (2^n) (2^n)) n).mv p q r s)=T (m (2^n) (sel k g (sh g (2^n) 0) (sh g 0 (2^n)) (sh g (2^n) (2^n)))) n:=fun k hk=>by
   rcases sel4 hk with rfl | rfl | rfl | rfl<;>exact mv_T o n _
  rw[e p o.lt.1,e q o.lt.2.1,e r o.lt.2.2.1,e s o.lt.2.2.2]
  congr 1
  ·exact aS n _ _ fun x y hx hy=>(o.q0 _ g x y hx hy).symm
  ·exact aS n _ _ fun x y hx hy=>(o.q1 _ g x y hx hy).symm
  ·exact aS n _ _ fun x y hx hy=>(o.q2 _ g x y hx hy).symm
  ·exact aS n _ _ fun x y hx hy=>(o.q3 _ g x y hx hy).symm
end
def mTurn (s:Nat)(g:Nat→Nat→Int):Nat→Nat→Int:=fun x y=>g y (s - 1 - x)
def mMirr (s:Nat)(g:Nat→Nat→Int):Nat→Nat→Int:=fun x y=>g (s - 1 - x) y
theorem u9:Odr 2 0 3 1 mTurn:=⟨by decide,by decide,fun g=>rfl,fun n g x y hx hy=>⟨y,n - 1 - x,hy,by omega,fun _=>rfl⟩,
 fun h g x y hx hy=>by simp only[mTurn,sel,sh];congr 1<;>omega,fun h g x y hx hy=>by simp only[mTurn,sel,sh];congr 1<;>omega,fun h g x y hx hy=>by simp only[mTurn,sel,sh];congr 1<;>omega,fun h g x y hx hy=>by simp only[mTurn,sel,sh];congr 1<;>omega⟩
theorem oX:Odr 1 0 3 2 mMirr:=⟨by decide,by decide,fun g=>rfl,fun n g x y hx hy=>⟨n - 1 - x,y,by omega,hy,fun _=>rfl⟩,
 fun h g x y hx hy=>by simp only[mMirr,sel,sh];congr 1<;>omega,fun h g x y hx hy=>by simp only[mMirr,sel,sh];congr 1<;>omega,fun h g x y hx hy=>by simp only[mMirr,sel,sh];congr 1<;>omega,fun h g x y hx hy=>by simp only[mMirr,sel,sh];congr 1<;>omega⟩
section
variable {p q r s:Nat}{m:Nat→(Nat→Nat→Int)→Nat→Nat→Int}
theorem va (a b c d:Int):sq (tupI [a,b,c,d])=.ok [.int a,.int b,.int c,.int d]:=rfl
theorem yB {k:Nat}(h:k < 4)(a b c d:D):dIx (.tup [a,b,c,d]) (.int (k:Int))=.ok (sel k a b c d):=by rcases sel4 h with rfl | rfl | rfl | rfl<;>rfl
theorem dZ (o:Odr p q r s m):∀ (n:Nat) (t:Q Int),t.dep+1≤n→pf n F.ak [t.d .int,tupI [(p:Int),(q:Int),(r:Int),(s:Int)]]=.ok ((t.mv p q r s).d .int)
 | 0,t,h=>by omega
 | n+1,.lf v,h=>by rw[eW,br];simp only[Q.d,STP,if_true,if_false,ite_true,ite_false,reduceIte,reduceCtorEq,OPP];rfl
 | n+1,.nd a b c d,h=>by
  have hd:a.dep+1≤n∧b.dep+1≤n∧c.dep+1≤n∧d.dep+1≤n:=by simp only[Q.dep]at h;omega
  have ha:=dZ o n a hd.1;have hb:=dZ o n b hd.2.1;have hc:=dZ o n c hd.2.2.1;have hdd:=dZ o n d hd.2.2.2
  have step:∀ k:Nat,k < 4→((dIx (.tup [a.d .int,b.d .int,c.d .int,d.d .int]) (.int (k:Int))).bind fun x=>pf n F.ak [x,tupI [(p:Int),(q:Int),(r:Int),(s:Int)]])=.ok ((sel k (a.mv p q r s) (b.mv p q r s) (c.mv p q r s) (d.mv p q r s)).d .int):=fun k hk=>by
   rw[yB hk,R.bind_ok]
   rcases sel4 hk with rfl | rfl | rfl | rfl
   ·exact ha
   ·exact hb
   ·exact hc
   ·exact hdd
  rw[eW,br]
  simp only[Q.d,STP,if_true,if_false,ite_true,ite_false,reduceIte,reduceCtorEq,OPP,va]
  rw[cMap4 (step p o.lt.1) (step q o.lt.2.1) (step r o.lt.2.2.1) (step s o.lt.2.2.2)]
  rfl
variable {sz:Nat}{g:Nat→Nat→Int}{t:Q Int}
theorem Sh.moved (w:Sh sz g t)(o:Odr p q r s m){n:Nat}(hn:11≤n):pf n F.aG [picD sz t,tupI [(p:Int),(q:Int),(r:Int),(s:Int)]]=.ok (picD sz (T (m (2^sz) g) sz)):=by
 obtain⟨n,rfl⟩:∃ j,n=j+1:=⟨n - 1,by omega⟩
 have e1:=w.lean (n:=n) (by omega)
 have e2:=dZ o n (T g sz) (by have:=dW sz g;have:=w.p.h3;omega)
 rw[mv_T o]at e2
 have e3:dIx (picD sz (T g sz)) (.int 0)=.ok (.int (sz:Int)):=rfl
 have e4:dIx (picD sz (T g sz)) (.int 1)=.ok ((T g sz).d .int):=rfl
 rw[uH,iD]
 simp only[STP,if_true,if_false,ite_true,ite_false,reduceIte,reduceCtorEq,e1,e2,e3,e4]
 rfl
theorem Sh.mv (w:Sh sz g t)(o:Odr p q r s m):Sh sz (m (2^sz) g) (T (m (2^sz) g) sz):=sh_T w.p.h3 fun x y hx hy=>by
 obtain⟨x',y',h1,h2,h3⟩:=o.loc (2^sz) g x y hx hy
 rw[h3];exact w.wo x' y' h1 h2
theorem Sh.turned (w:Sh sz g t){n:Nat}(hn:12≤n):pf n F.aR [picD sz t]=.ok (picD sz (T (mTurn (2^sz) g) sz)):=by
 obtain⟨n,rfl⟩:∃ j,n=j+1:=⟨n - 1,by omega⟩
 have h:pf n F.aG [picD sz t,tupI [2,0,3,1]]=_:=w.moved u9 (n:=n) (by omega)
 rw[rV,fM];simp only[STP,if_true,if_false,ite_true,ite_false,reduceIte,reduceCtorEq,h]
theorem Sh.mirrored (w:Sh sz g t){n:Nat}(hn:12≤n):pf n F.aK [picD sz t]=.ok (picD sz (T (mMirr (2^sz) g) sz)):=by
 obtain⟨n,rfl⟩:∃ j,n=j+1:=⟨n - 1,by omega⟩
 have h:pf n F.aG [picD sz t,tupI [1,0,3,2]]=_:=w.moved oX (n:=n) (by omega)
 rw[mC,da];simp only[STP,if_true,if_false,ite_true,ite_false,reduceIte,reduceCtorEq,h]
def turns (s:Nat):Nat→(Nat→Nat→Int)→Nat→Nat→Int
 | 0,g=>g
 | k+1,g=>mTurn s (turns s k g)
def mWay (s w:Nat)(g:Nat→Nat→Int):Nat→Nat→Int:=turns s (w%4) (if 4≤w then mMirr s g else g)
theorem gm (w:Sh sz g t):∀ k,∃ t',Sh sz (turns (2^sz) k g) t'
 | 0=>⟨t,w⟩
 | k+1=>by obtain⟨t',h⟩:=gm w k;exact⟨_,h.mv u9⟩
theorem Sh.way_ex (w:Sh sz g t)(k:Nat):∃ t',Sh sz (mWay (2^sz) k g) t':=by
 unfold mWay
 split
 ·exact gm (w.mv oX) _
 ·exact gm w _
theorem Sh.way (w:Sh sz g t)(k:Nat):Sh sz (mWay (2^sz) k g) (T (mWay (2^sz) k g) sz):=by obtain⟨t',h⟩:=w.way_ex k;exact sh_T h.p.h3 h.wo
theorem jB (w:Sh sz g t){n:Nat}(hn:12≤n):∀ k,lFor (τ:=D) (fun s x=>cC (pf n) s x) ((List.range k).map fun i:Nat=>D.int (i:Int)) (picD sz (T g sz))=.nx (picD sz (T (turns (2^sz) k g) sz)):=fun k =>
 jA (fun i:Nat=>D.int (i:Int)) (fun i=>picD sz (T (turns (2^sz) i g) sz)) k (fun i _=>by
  obtain⟨t',h⟩:=gm w i
  have:=(sh_T h.p.h3 h.wo).turned hn
  show cC (pf n) (picD sz (T (turns (2^sz) i g) sz)) (.int (i:Int))=_
  unfold cC;simp only[STP,if_true,if_false,ite_true,ite_false,reduceIte,reduceCtorEq,this];rfl)
theorem nj {n:Nat}(hn:2≤n){k:Nat}(hk:k < 8):pf n F.aC [.int (k:Int)]=.ok .non:=by
 obtain⟨n,rfl⟩:∃ j,n=j+1:=⟨n - 1,by omega⟩
 have h1:=jr (n:=n) (by omega) (d:=.int (k:Int)) rfl
 have e:(decide ((0:Int)≤(k:Int))&&decide ((k:Int) < 8))=true:=by simp;omega
 rw[lc,cB]
 simp only[STP,if_true,if_false,ite_true,ite_false,reduceIte,reduceCtorEq,OPP,h1,e]
 rfl
theorem Sh.byway (w:Sh sz g t){n:Nat}(hn:13≤n){k:Nat}(hk:k < 8):pf n F.aD [picD sz t,.int (k:Int)]=.ok (picD sz (T (mWay (2^sz) k g) sz)):=by
 obtain⟨n,rfl⟩:∃ j,n=j+1:=⟨n - 1,by omega⟩
 have e1:=w.lean (n:=n) (by omega)
 have e2:=nj (n:=n) (by omega) hk
 have s:=sh_T w.p.h3 w.wo
 have e3:=s.mirrored (n:=n) (by omega)
 have e4:(k:Int)%4=((k%4:Nat):Int):=by omega
 have e5:=ce (s:=k%4) (by omega)
 have e6:=jB w (n:=n) (by omega) (k%4)
 have e7:=jB (w.mv oX) (n:=n) (by omega) (k%4)
 rw[rW,fN]
 simp only[STP,if_true,if_false,ite_true,ite_false,reduceIte,reduceCtorEq,OPP,e1,e2,cw (show (0:Int) < 4 by decide),e4,e5]
 by_cases h:4≤k
 ·have d:decide ((4:Int)≤(k:Int))=true:=by simp;omega
  simp only[d,STP,if_true,if_false,ite_true,ite_false,reduceIte,reduceCtorEq,e3,e7,mWay,if_pos h]
 ·have d:decide ((4:Int)≤(k:Int))=false:=by simp;omega
  simp only[d,STP,if_true,if_false,ite_true,ite_false,reduceIte,reduceCtorEq,e6,mWay,if_neg h]
end
section
variable {sz:Nat}{g g' g'':Nat→Nat→Int}{t t' t'':Q Int}
end
section
variable {sz:Nat}{g:Nat→Nat→Int}{t:Q Int}
theorem Sh.sqrows (q:Sh sz g t):sq (rowsT .int g (2^sz) (2^sz))=.ok ((List.range (2^sz)).map fun y=>rowT .int g (2^sz) y):=fw (by have:=p8 q.p.h3;simp;omega)
end
section
variable {sz:Nat}{g:Nat→Nat→Int}{t:Q Int}
end
structure Bk where
 l:Nat
 t:Nat
 w:Nat
 v:Int
 deriving DecidableEq
def bks:Nat→Q Int→Nat→Nat→List Bk
 | n,.lf v,l,t=>[⟨l,t,2^n,v⟩]
 | 0,.nd _ _ _ _,_,_=>[]
 | n+1,.nd a b c d,l,t=>bks n a l t++(bks n b (l+2^n) t++(bks n c l (t+2^n)++bks n d (l+2^n) (t+2^n)))
section
variable {sz:Nat}{g:Nat→Nat→Int}{t:Q Int}
def bs (sz:Nat)(g:Nat→Nat→Int):List Bk:=bks sz (T g sz) 0 0
end
theorem eO {α:Type}(a b:α→D):∀ l:List α,eqDs (l.map a) (l.map b)=l.all fun i=>eqD (a i) (b i)
 | []=>by simp[eqDs]
 | x::l=>by rw[List.map_cons,List.map_cons,eqDs,eO a b l,List.all_cons]
theorem nk:∀ {xs ys:List D},xs.length≠ys.length→eqDs xs ys=false
 | [],[],h=>absurd rfl h
 | [],_::_,_=>by simp[eqDs]
 | _::_,[],_=>by simp[eqDs]
 | x::xs,y::ys,h=>by rw[eqDs,nk (by simpa using h),Bool.and_false]
theorem eQ (f:Nat→Nat→Int)(w k:Nat):good 60 (rowsT .int f w k)=true:=oR En.int.gd f w k 58
theorem vc (f g:Nat→Nat→Int)(n:Nat):dEq (rowsT .int f (2^n) (2^n)) (rowsT .int g (2^n) (2^n))=.ok (.bl (decide (T f n=T g n))):=by
 rw[bB (eQ _ _ _) (eQ _ _ _)]
 congr 2
 unfold rowsT
 rw[eqD,eO,Bool.eq_iff_iff]
 simp only[List.all_eq_true,List.mem_range,decide_eq_true_eq,cu]
 unfold rowT
 constructor
 ·intro h x y hx hy
  have:=h y hy
  rw[eqD,eO]at this
  simp only[List.all_eq_true,List.mem_range,eqD,beq_iff_eq]at this
  exact this x hx
 ·intro h y hy
  rw[eqD,eO]
  simp only[List.all_eq_true,List.mem_range,eqD,beq_iff_eq]
  exact fun x hx=>h x y hx hy
theorem wW {a b:Nat}(ha:a≤3)(hb:b≤3)(h:(2^a:Nat)=2^b):a=b:=by
 rcases cx ha with rfl | rfl | rfl | rfl<;>rcases cx hb with rfl | rfl | rfl | rfl<;>simp at h ⊢
theorem wX {a b:Nat}(ha:a≤3)(hb:b≤3)(h:a≠b)(f g:Nat→Nat→Int):dEq (rowsT .int f (2^a) (2^a)) (rowsT .int g (2^b) (2^b))=.ok (.bl false):=by
 rw[bB (eQ _ _ _) (eQ _ _ _)]
 unfold rowsT
 rw[eqD,nk (by simpa using fun z=>h (wW ha hb z))]
section
variable {sz sz':Nat}{g g':Nat→Nat→Int}{t t':Q Int}
end
def rowsM (g:Nat→Nat→Int)(w k:Nat):List (List D):=(List.range k).map fun y=>(List.range w).map fun x=>D.int (g x y)
theorem kB (g:Nat→Nat→Int)(w:Nat):∀ (l:List Nat),sqsL (l.map fun y=>rowT .int g w y)=.ok (l.map fun y=>(List.range w).map fun x=>D.int (g x y))
 | []=>rfl
 | y::l=>by
  rw[List.map_cons,sqsL,kB g w l]
  rfl
theorem lG {n i:Nat}(h:i < n):L2.ixN n (i:Int)=some i:=by
 unfold L2.ixN
 rw[if_pos (by omega),if_pos (by omega)]
 simp
def putF (g:Nat→Nat→Int)(x y:Nat)(v:Int):Nat→Nat→Int:=fun a b=>if a=x∧b=y then v else g a b
theorem vd (g:Nat→Nat→Int){w k x y:Nat}{v:Int}(hx:x < w)(hy:y < k):(mIx (rowsM g w k) (.int (y:Int))).bind (fun q=>mStA (rowsM g w k) q (.int (x:Int)) (.int v))=.ok (rowsM (putF g x y v) w k):=by
 have l1:(rowsM g w k).length=k:=by unfold rowsM;simp
 have e1:mIx (rowsM g w k) (.int (y:Int))=.ok y:=by
  unfold mIx
  simp only[l1,lG hy]
 have e2:(rowsM g w k)[y]?=some ((List.range w).map fun x=>D.int (g x y)):=by unfold rowsM;simp[hy]
 rw[e1,R.bind_ok]
 unfold mStA
 simp only[e2,List.length_map,List.length_range,lG hx]
 congr 1
 unfold rowsM putF
 refine List.ext_getElem (by simp) fun b h1 h2=>?_
 rw[List.getElem_set]
 have hb:b < k:=by simpa using h2
 by_cases q:y=b
 ·subst q
  rw[if_pos rfl,List.getElem_map,List.getElem_range]
  refine List.ext_getElem (by simp) fun a g1 g2=>?_
  rw[List.getElem_set]
  by_cases q2:x=a
  ·subst q2;simp
  ·have q3:¬ (a=x∧y=y):=fun z=>q2 z.1.symm
   rw[if_neg q2,List.getElem_map,List.getElem_map,List.getElem_range,if_neg q3]
 ·rw[if_neg q,List.getElem_map,List.getElem_map,List.getElem_range]
  refine List.map_congr_left fun a _=>?_
  rw[if_neg (fun z=>q z.2.symm)]
theorem wY (g:Nat→Nat→Int){w k:Nat}(hk:k≤1000):(((sq (.lst ((rowsM g w k).map .lst))).bind fun xs=>cMap (fun Aa=>dTuple [Aa]) xs).bind fun x17=>dTuple [x17])=.ok (rowsT .int g w k):=by
 have e:(rowsM g w k).map D.lst=(List.range k).map fun y=>rowL .int g w y:=by unfold rowsM rowL;rw[List.map_map];rfl
 rw[e,oN (by simp;omega),R.bind_ok,bg (fun y=>rowL .int g w y) (fun y=>rowT .int g w y) (fun y _=>rfl)]
 rfl
section
variable {s sz:Nat}{g:Nat→Nat→Int}{t:Q Int}
end
section
variable {s sz:Nat}{g:Nat→Nat→Int}{t:Q Int}
end
section
variable {s:Nat}
end
end Lw
namespace Lw
open PySem FF
end Lw
namespace Lw
open PySem FF
theorem ve {α:Type}{e:D→R D}{l:List α}(c g:α→D)(h:∀ a∈l,e (c a)=.ok (g a)):cMapE e (l.map c)=.ok (.lst (l.map g)):=by
 have:∀ l:List α,(∀ a∈l,e (c a)=.ok (g a))→cGoE e (l.map c)=.ok (l.map g):=by
  intro l
  induction l with
  | nil=>intro _;rfl
  | cons a l ih =>
   intro h
   rw[List.map_cons,cGoE,h a (.head _),R.bind_ok,ih fun b hb=>h b (.tail _ hb)];rfl
 unfold cMapE
 rw[this l h];rfl
theorem revR {α:Type}(f:Nat→α)(s:Nat):((List.range s).map f).reverse=(List.range s).map fun y=>f (s - 1 - y):=by
 apply List.ext_getElem
 ·simp
 ·intro i h1 h2
  simp at h1
  simp[h1]
theorem sC (g:Nat→Nat→Int){s:Nat}(hs:s≤1000){t:Nat→List D→R D}(i:D):bJ t (.int (s:Int)) (rowsT .int g s s) i=.nx (rowsT .int (mTurn s g) s s):=by
 have r:=ce (s:=s) (by omega)
 have h:cMap (fun Az=>((rng1 [.int (s:Int)]).bind fun xs1=>cMap (fun AC=>(((dSub (.int (s:Int)) (.int 1)).bind fun x=>dSub x AC).bind fun x1=>dIx (rowsT .int g s s) x1).bind fun x2=>dIx x2 Az) xs1).bind fun x3=>dTuple [x3]) ((List.range s).map fun i=>D.int ((i:Nat):Int))=.ok (.lst ((List.range s).map fun y=>rowT .int (mTurn s g) s y)):=bg _ _ fun y hy=>by
  have hy:=List.mem_range.mp hy
  rw[r,R.bind_ok,bg (fun i:Nat=>D.int (i:Int)) (fun x:Nat=>D.int (mTurn s g x y)) fun x hx=>by
   have hx:=List.mem_range.mp hx
   have e:(s:Int) - 1 - (x:Int)=((s - 1 - x:Nat):Int):=by omega
   rw[cR,R.bind_ok,cR,R.bind_ok,e,m5 (by omega),R.bind_ok,pW hy]
   rfl]
  rfl
 unfold bJ
 simp only[r,R.bind_ok]at h ⊢
 rw[h]
 rfl
theorem lturns (g:Nat→Nat→Int){s:Nat}(hs:s≤1000){t:Nat→List D→R D}(k:Nat):lFor (τ:=D) (fun r x=>bJ t (.int (s:Int)) r x) ((List.range k).map fun i:Nat=>D.int (i:Int)) (rowsT .int g s s)=.nx (rowsT .int (turns s k g) s s) :=
 jA (fun i:Nat=>D.int (i:Int)) (fun i=>rowsT .int (turns s i g) s s) k fun i _=>sC (turns s i g) hs _
theorem kC (g:Nat→Nat→Int){s:Nat}(hs:s≤1000){n:Nat}(hn:1≤n)(k:Nat):pf n F.ah [rowsT .int g s s,.int (k:Int)]=.ok (rowsT .int (mWay s k g) s s):=by
 obtain⟨n,rfl,hn⟩:=ex1 (show 0+1≤n by omega)
 have e4:(k:Int)%4=((k%4:Nat):Int):=by omega
 have e5:=ce (s:=k%4) (by omega)
 have ln:dLen [rowsT .int g s s]=.ok (.int (s:Int)):=by unfold rowsT;rw[cQ];simp
 have sqr:sq (rowsT .int g s s)=.ok ((List.range s).map fun y=>rowT .int g s y):=fw (by simp;omega)
 have m:cMap (fun Aa=>dRev Aa) ((List.range s).map fun y=>rowT .int g s y)=.ok (.lst ((List.range s).map fun y=>rowT .int (mMirr s g) s y)):=bg _ _ fun y _=>by
  show R.ok (D.tup ((List.range s).map fun x=>D.int (g x y)).reverse)=_
  rw[revR];rfl
 rw[mE,di,ln,aM,cw (show (0:Int) < 4 by decide),R.bind_ok,e4,e5]
 by_cases h:4≤k
 ·have d:dGe (.int (k:Int)) (.int 4)=.ok (.bl true):=by rw[lE,decide_eq_true (by omega)]
  rw[d,bG,aM,if_pos rfl,sqr,R.bind_ok,m,R.bind_ok,jn,aM,bX,aM]
  have:=lturns (t:=pf n) (mMirr s g) hs (k%4)
  rw[show D.tup ((List.range s).map fun y=>rowT .int (mMirr s g) s y)=rowsT .int (mMirr s g) s s from rfl,this,bX]
  unfold mWay
  rw[if_pos h];rfl
 ·have d:dGe (.int (k:Int)) (.int 4)=.ok (.bl false):=by rw[lE,decide_eq_false (by omega)]
  rw[d,bG,aM,if_neg (by decide),bX,aM,lturns (t:=pf n) g hs (k%4),bX]
  unfold mWay
  rw[if_neg h];rfl
def beh (a b:Nat):Nat:=4*((a/4+b/4)%2)+(if 4≤b then (b+8 - a)%4 else (a+b)%4)
theorem lt8 {a:Nat}(h:a < 8):a=0∨a=1∨a=2∨a=3∨a=4∨a=5∨a=6∨a=7:=by omega
theorem d4 {s a b:Nat}(ha:a < 8)(hb:b < 8)(g:Nat→Nat→Int){x y:Nat}(hx:x < s)(hy:y < s):mWay s b (mWay s a g) x y=mWay s (beh a b) g x y:=by
 have h:∀ {a b c d:Nat},a=c→b=d→g a b=g c d:=fun e f=>by rw[e,f]
 rcases lt8 ha with rfl | rfl | rfl | rfl | rfl | rfl | rfl | rfl<;>rcases lt8 hb with rfl | rfl | rfl | rfl | rfl | rfl | rfl | rfl<;>exact h (by omega) (by omega)
theorem vf {a b:Nat}(ha:a < 8)(hb:b < 8):beh a b < 8:=by unfold beh;split<;>omega
section
variable {sz:Nat}{g:Nat→Nat→Int}{t:Q Int}
theorem Sh.allways (w:Sh sz g t){n:Nat}(hn:14≤n):pf n F.aB [picD sz t]=.ok (.lst ((List.range 8).map fun k=>picD sz (T (mWay (2^sz) k g) sz))):=by
 obtain⟨n,rfl,hn⟩:=ex1 (show 13+1≤n by omega)
 have r:rng1 [.int 8]=.ok ((List.range 8).map fun i=>D.int ((i:Nat):Int)):=ce (s:=8) (by decide)
 rw[mD,de,r,R.bind_ok,ve (fun i:Nat=>D.int (i:Int)) (fun k=>picD sz (T (mWay (2^sz) k g) sz)) fun k hk=>w.byway (by omega) (List.mem_range.mp hk)]
 rfl
end
def spT (s:Nat):Nat→Nat→Nat→Nat×Nat
 | 0,x,y=>(x,y)
 | k+1,x,y=>(s - 1 - (spT s k x y).2,(spT s k x y).1)
def sb (s w x y:Nat):Nat×Nat:=spT s (w%4) (if 4≤w then s - 1 - x else x) y
section
variable {α β γ:Type}[DecidableEq α][DecidableEq β][DecidableEq γ]{ea:α→D}{eb:β→D}{ec:γ→D}
end
section
variable {α:Type}[DecidableEq α]{e:α→D}
end
section
variable {sz:Nat}{t:Q (Option Int)}
end
section
variable {sz:Nat}{g g':Nat→Nat→Int}{c c':Nat→Nat→Option Int}{t t':Q Int}{u u':Q (Option Int)}
end
section
variable {sz sz':Nat}{g g':Nat→Nat→Int}{t t':Q Int}
theorem Sh.waysto (q:Sh sz g t)(q':Sh sz' g' t'){n:Nat}(hn:15≤n):pf n F.ay [picD sz t,picD sz' t']=.ok (.lst (((List.range 8).filter fun k=>decide (sz=sz')&&decide (T (mWay (2^sz) k g) sz=T g' sz')).map fun k:Nat=>D.int (k:Int))):=by
 obtain⟨n,rfl,hn⟩:=ex1 (show 14+1≤n by omega)
 have r:rng1 [.int 8]=.ok ((List.range 8).map fun i=>D.int ((i:Nat):Int)):=ce (s:=8) (by decide)
 have f:cFil (fun way=>(asB ((dIx (.lst ((List.range 8).map fun k=>picD sz (T (mWay (2^sz) k g) sz))) way).bind fun x=>dEq x (picD sz' (T g' sz'))))) (fun way=>.ok way) ((List.range 8).map fun i=>D.int ((i:Nat):Int))=.ok (.lst (((List.range 8).filter fun k=>decide (sz=sz')&&decide (T (mWay (2^sz) k g) sz=T g' sz')).map fun k:Nat=>D.int (k:Int))):=pO _ _ _ fun k hk=>by
  have hk:=List.mem_range.mp hk
  refine⟨?_,fun _=>rfl⟩
  rw[ixL (i:=k) (x:=picD sz (T (mWay (2^sz) k g) sz)) (by simp[hk]),R.bind_ok,bB (q.way k).p.g60 (sh_T q'.p.h3 q'.wo).p.g60,u8]
  rfl
 rw[on,eG,q.allways (by omega),aM,q'.lean (by omega),aM,r,R.bind_ok,f]
 rfl
theorem Sh.kin (q:Sh sz g t)(q':Sh sz' g' t'){n:Nat}(hn:16≤n):pf n F.ai [picD sz t,picD sz' t']=.ok (.bl (decide (0 < ((List.range 8).filter fun k=>decide (sz=sz')&&decide (T (mWay (2^sz) k g) sz=T g' sz')).length))):=by
 obtain⟨n,rfl,hn⟩:=ex1 (show 15+1≤n by omega)
 rw[oo,eJ,q.waysto q' (by omega),R.bind_ok,jo,R.bind_ok,pP,List.length_map]
 show R.ok (D.bl _)=_
 congr 2
 exact decide_eq_decide.mpr ⟨fun h=>by omega,fun h=>by omega⟩
end
structure SO {α:Type}(f:α→α→Bool):Prop where
 ir:∀ a,f a a=false
 tr:∀ a b c,f a b=true→f b c=true→f a c=true
 tri:∀ a b,f a b=false→f b a=false→a=b
def lexL {α:Type}[DecidableEq α](f:α→α→Bool):List α→List α→Bool
 | [],[]=>false
 | [],_::_=>true
 | _::_,[]=>false
 | a::r,b::s=>if a=b then lexL f r s else f a b
theorem p6 {α:Type}[DecidableEq α]{f:α→α→Bool}(h:SO f):SO (lexL f):=by
 refine⟨fun a=>?_,fun a=>?_,fun a=>?_⟩
 ·induction a with
  | nil=>rfl
  | cons x r ih=>rw[lexL,if_pos rfl];exact ih
 ·induction a with
  | nil=>intro b c h1 h2;cases b<;>cases c<;>simp_all [lexL]
  | cons x r ih =>
   intro b c h1 h2
   cases b with
   | nil=>simp[lexL]at h1
   | cons y s =>
    cases c with
    | nil=>simp[lexL]at h2
    | cons z u =>
     rw[lexL]at h1 h2 ⊢
     by_cases e1:x=y
     ·subst e1
      rw[if_pos rfl]at h1
      by_cases e2:x=z
      ·subst e2;rw[if_pos rfl]at h2 ⊢;exact ih s u h1 h2
      ·rw[if_neg e2]at h2 ⊢;exact h2
     ·rw[if_neg e1]at h1
      by_cases e2:y=z
      ·subst e2;rw[if_neg e1];exact h1
      ·rw[if_neg e2]at h2
       have:=h.tr x y z h1 h2
       rw[if_neg (fun e=>by subst e;rw[h.ir]at this;cases this)]
       exact this
 ·induction a with
  | nil=>intro b h1 h2;cases b<;>simp_all [lexL]
  | cons x r ih =>
   intro b h1 h2
   cases b with
   | nil=>simp[lexL]at h2
   | cons y s =>
    rw[lexL]at h1 h2
    by_cases e:x=y
    ·subst e;rw[if_pos rfl]at h1 h2;rw[ih s h1 h2]
    ·rw[if_neg e]at h1;rw[if_neg (Ne.symm e)]at h2
     exact absurd (h.tri x y h1 h2) e
def ltI (a b:Int):Bool:=decide (a < b)
theorem yC:SO ltI:=⟨fun a=>by simp[ltI],fun a b c=>by simp only[ltI,decide_eq_true_eq];omega,fun a b=>by simp only[ltI,decide_eq_false_iff_not];omega⟩
abbrev ltR:List (List Int)→List (List Int)→Bool:=lexL (lexL ltI)
theorem vg:SO ltR:=p6 (p6 yC)
def tI (l:List Int):D:=.tup (l.map .int)
def rowsD (l:List (List Int)):D:=.tup (l.map tI)
def rl (g:Nat→Nat→Int)(s:Nat):List (List Int):=(List.range s).map fun y=>(List.range s).map fun x=>g x y
theorem rl_D (g:Nat→Nat→Int)(s:Nat):rowsT .int g s s=rowsD (rl g s):=by
 unfold rowsT rowsD rl rowT tI
 simp only[List.map_map,Function.comp_def]
theorem p7:∀ (a b:List Int),eqDs (a.map .int) (b.map .int)=decide (a=b)
 | [],[]=>rfl
 | [],_::_=>rfl
 | _::_,[]=>rfl
 | x::a,y::b=>by
  rw[List.map_cons,List.map_cons,eqDs,p7 a b]
  simp only[eqD]
  by_cases h1:x=y<;>by_cases h2:a=b<;>simp[h1,h2]
theorem zt (a b:List Int):eqD (tI a) (tI b)=decide (a=b):=by unfold tI;rw[eqD];exact p7 a b
theorem p9 (n:Nat):∀ (a b:List Int),lexF (ltN (n+1)) (a.map .int) (b.map .int)=some (lexL ltI a b)
 | [],[]=>rfl
 | [],_::_=>rfl
 | _::_,[]=>rfl
 | x::a,y::b=>by
  rw[List.map_cons,List.map_cons,lexF,lexL,p9 n a b]
  simp only[eqD]
  by_cases h:x=y
  ·simp[h]
  ·simp only[h,if_false,beq_iff_eq];rfl
theorem qd (n:Nat):∀ (a b:List (List Int)),lexF (ltN (n+2)) (a.map tI) (b.map tI)=some (ltR a b)
 | [],[]=>rfl
 | [],_::_=>rfl
 | _::_,[]=>rfl
 | x::a,y::b=>by
  rw[List.map_cons,List.map_cons,lexF,ltR,lexL,qd n a b,zt]
  by_cases h:x=y
  ·simp[h,ltR]
  ·simp only[h,if_false,decide_eq_true_eq];exact p9 n x y
theorem lt_D (a b:List (List Int)):ltN 60 (rowsD a) (rowsD b)=some (ltR a b):=qd 57 a b
theorem cU {α:Type}(f:α→D)(n:Nat)(h:∀ a,good n (f a)=true):∀ l:List α,goods n (l.map f)=true
 | []=>by simp[goods]
 | a::l=>by rw[List.map_cons];simp[goods,h a,cU f n h l]
theorem cW (l:List (List Int)):good 60 (rowsD l)=true:=by
 unfold rowsD
 simp only[good]
 refine cU tI 59 (fun a=>?_) l
 unfold tI
 simp only[good]
 exact cU D.int 58 (fun a=>by simp[good]) a
def mn {α:Type}(f:α→α→Bool)(b:α):List α→α
 | []=>b
 | x::r=>if f x b=true then mn f x r else mn f b r
theorem nq {α:Type}{f:α→α→Bool}(h:SO f):∀ (r:List α) (b:α),mn f b r∈b::r∧∀ x∈b::r,f x (mn f b r)=false
 | [],b=>⟨.head _,fun x hx=>by cases List.mem_singleton.mp hx;exact h.ir _⟩
 | y::r,b=>by
  rw[mn]
  split
  ·rename_i c
   obtain⟨i1,i2⟩:=nq h r y
   refine⟨.tail _ i1,fun x hx=>?_⟩
   rcases List.mem_cons.mp hx with rfl | hx
   ·cases q:f x (mn f y r) with
    | false=>rfl
    | true=>have:=h.tr y x _ c q;rw[i2 y (.head _)]at this;cases this
   ·exact i2 x hx
  ·rename_i c
   obtain⟨i1,i2⟩:=nq h r b
   refine⟨(List.mem_cons.mp i1).elim (fun z=>by rw[z];exact .head _) fun z=>.tail _ (.tail _ z),fun x hx=>?_⟩
   rcases List.mem_cons.mp hx with rfl | hx
   ·exact i2 x (.head _)
   ·rcases List.mem_cons.mp hx with rfl | hx
    ·cases q:f x (mn f b r) with
     | false=>rfl
     | true =>
      have c':f x b=false:=by simpa using c
      rcases List.mem_cons.mp i1 with e | e
      ·rw[e,c']at q;cases q
      ·have hb:=i2 b (.head _)
       cases q2:f (mn f b r) b with
       | true=>rw[h.tr _ _ _ q q2]at c';cases c'
       | false=>rw[h.tri _ _ q2 hb]at q;rw[c']at q;cases q
    ·exact i2 x (.tail _ hx)
theorem wZ {α:Type}{f:α→α→Bool}(h:SO f){b c:α}{r s:List α}(hs:∀ x,x∈b::r↔x∈c::s):mn f b r=mn f c s:=by
 obtain⟨i1,i2⟩:=nq h r b
 obtain⟨j1,j2⟩:=nq h s c
 exact h.tri _ _ (j2 _ ((hs _).mp i1)) (i2 _ ((hs _).mpr j1))
theorem hZ:∀ (l:List (List (List Int))) (b:List (List Int)),minD (rowsD b) (l.map rowsD)=.ok (rowsD (mn ltR b l))
 | [],b=>rfl
 | x::l,b=>by
  rw[List.map_cons,minD,if_pos (cW x),lt_D,mn]
  cases q:ltR x b with
  | true=>rw[if_pos rfl];exact hZ l x
  | false=>rw[if_neg Bool.false_ne_true];exact hZ l b
theorem oY (x:List (List Int))(l:List (List (List Int))):dMinD [.lst ((x::l).map rowsD)]=.ok (rowsD (mn ltR x l)):=by
 show (if good 60 (rowsD x)=true then minD (rowsD x) (l.map rowsD) else .stuck)=_
 rw[if_pos (cW x)];exact hZ l x
theorem ib {f:List D→R D}:∀ (l:List (D×List (List Int))) (b:D) (kb:List (List Int)),(∀ p∈l,f [p.1]=.ok (rowsD p.2))→∃ d,minK f b (rowsD kb) (l.map (·.1))=.ok d∧(d,mn ltR kb (l.map (·.2)))∈(b,kb)::l
 | [],b,kb,_=>⟨b,rfl,.head _⟩
 | (x,k)::l,b,kb,h=>by
  have hx:=h _ (.head _)
  rw[List.map_cons,List.map_cons,minK,mn]
  simp only[hx,cW,if_true,lt_D]
  cases q:ltR k kb with
  | true =>
   obtain⟨d,e,m⟩:=ib l x k fun p hp=>h p (.tail _ hp)
   exact⟨d,e,.tail _ (by rw[if_pos rfl];exact m)⟩
  | false =>
   obtain⟨d,e,m⟩:=ib l b kb fun p hp=>h p (.tail _ hp)
   exact⟨d,e,by rw[if_neg Bool.false_ne_true];exact(List.mem_cons.mp m).elim (fun z=>by rw[z];exact .head _) fun z=>.tail _ (.tail _ z)⟩
def least (g:Nat→Nat→Int)(s:Nat):List (List Int):=mn ltR (rl (mWay s 0 g) s) ([1,2,3,4,5,6,7].map fun k=>rl (mWay s k g) s)
theorem ways8 (g:Nat→Nat→Int)(s:Nat)(x:List (List Int)):x∈rl (mWay s 0 g) s::[1,2,3,4,5,6,7].map (fun k=>rl (mWay s k g) s)↔∃ k,k < 8∧x=rl (mWay s k g) s:=by
 constructor
 ·intro h
  rcases List.mem_cons.mp h with rfl | h
  ·exact⟨0,by decide,rfl⟩
  ·obtain⟨k,hk,rfl⟩:=List.mem_map.mp h
   exact⟨k,by simp at hk;omega,rfl⟩
 ·rintro ⟨k,hk,rfl⟩
  rcases lt8 hk with rfl | rfl | rfl | rfl | rfl | rfl | rfl | rfl
  ·exact .head _
  all_goals exact .tail _ (List.mem_map.mpr ⟨_,by decide,rfl⟩)
theorem nr (g:Nat→Nat→Int)(s:Nat):∃ k,k < 8∧least g s=rl (mWay s k g) s:=(ways8 g s _).mp (nq vg _ _).1
theorem oZ {g g':Nat→Nat→Int}{s:Nat}(h:∀ x,(∃ k,k < 8∧x=rl (mWay s k g) s)↔∃ k,k < 8∧x=rl (mWay s k g') s):least g s=least g' s :=
 wZ vg fun x=>(ways8 g s x).trans ((h x).trans (ways8 g' s x).symm)
theorem qf {f g:Nat→Nat→Int}{s:Nat}:rl f s=rl g s↔∀ x y,x < s→y < s→f x y=g x y:=by
 unfold rl
 constructor
 ·intro h x y hx hy
  have h1:=congrArg (fun l=>(l[y]?.bind fun r:List Int=>r[x]?)) h
  simpa [hx,hy] using h1
 ·intro h
  exact List.map_congr_left fun y hy=>List.map_congr_left fun x hx=>h x y (List.mem_range.mp hx) (List.mem_range.mp hy)
theorem dz {f g:Nat→Nat→Int}{s:Nat}(h:∀ x y,x < s→y < s→f x y=g x y){k:Nat}(hk:k < 8){x y:Nat}(hx:x < s)(hy:y < s):mWay s k f x y=mWay s k g x y:=by
 have a:s - 1 - x < s:=by omega
 have b:s - 1 - y < s:=by omega
 have a':s - 1 - (s - 1 - x) < s:=by omega
 have b':s - 1 - (s - 1 - y) < s:=by omega
 rcases lt8 hk with rfl | rfl | rfl | rfl | rfl | rfl | rfl | rfl
 all_goals
  simp only[mWay,turns,mTurn,mMirr]
  apply h<;>omega
section
variable {sz sz':Nat}{g g':Nat→Nat→Int}{t t':Q Int}
theorem Sh.leastway (q:Sh sz g t){n:Nat}(hn:15≤n):∃ k,k < 8∧pf n F.ad [picD sz t]=.ok (picD sz (T (mWay (2^sz) k g) sz))∧rl (mWay (2^sz) k g) (2^sz)=least g (2^sz):=by
 obtain⟨n,rfl,hn⟩:=ex1 (show 14+1≤n by omega)
 have aw:=q.allways (n:=n) (by omega)
 have key:∀ k,pf n F.ac [picD sz (T (mWay (2^sz) k g) sz)]=.ok (rowsD (rl (mWay (2^sz) k g) (2^sz))):=fun k=>by rw[(q.way k).rows (by omega),rl_D]
 obtain⟨d,e,m⟩:=ib (f:=pf n F.ac) ([1,2,3,4,5,6,7].map fun k=>(picD sz (T (mWay (2^sz) k g) sz),rl (mWay (2^sz) k g) (2^sz))) (picD sz (T (mWay (2^sz) 0 g) sz)) (rl (mWay (2^sz) 0 g) (2^sz)) fun p hp=>by
  obtain⟨k,_,rfl⟩:=List.mem_map.mp hp
  exact key k
 have hl:([1,2,3,4,5,6,7].map fun k=>(picD sz (T (mWay (2^sz) k g) sz),rl (mWay (2^sz) k g) (2^sz))).map (·.2)=[1,2,3,4,5,6,7].map fun k=>rl (mWay (2^sz) k g) (2^sz):=by rw[List.map_map];rfl
 rw[hl]at m
 change (d,least g (2^sz))∈_ at m
 have m':∃ k,k < 8∧d=picD sz (T (mWay (2^sz) k g) sz)∧rl (mWay (2^sz) k g) (2^sz)=least g (2^sz):=by
  rcases List.mem_cons.mp m with z | z
  ·obtain⟨z1,z2⟩:=Prod.mk.inj z
   exact⟨0,by decide,z1,z2.symm⟩
  ·obtain⟨k,hk,z⟩:=List.mem_map.mp z
   obtain⟨z1,z2⟩:=Prod.mk.inj z
   exact⟨k,by simp at hk;omega,z1.symm,z2⟩
 obtain⟨k,hk,rfl,hr⟩:=m'
 refine⟨k,hk,?_,hr⟩
 have h8:(List.range 8).map (fun k=>picD sz (T (mWay (2^sz) k g) sz))=picD sz (T (mWay (2^sz) 0 g) sz)::([1,2,3,4,5,6,7].map fun k=>(picD sz (T (mWay (2^sz) k g) sz),rl (mWay (2^sz) k g) (2^sz))).map (·.1):=by rw[List.map_map];rfl
 have k0:dMinK (pf n F.ac) (.lst (picD sz (T (mWay (2^sz) 0 g) sz)::([1,2,3,4,5,6,7].map fun k=>(picD sz (T (mWay (2^sz) k g) sz),rl (mWay (2^sz) k g) (2^sz))).map (·.1)))=.ok (picD sz (T (mWay (2^sz) k g) sz)):=by
  unfold dMinK
  simp only[key 0,cW,if_true]
  exact e
 rw[lg,cD,aw,R.bind_ok,h8,k0]
 rfl
def Kin (sz sz':Nat)(g g':Nat→Nat→Int):Prop:=∃ k,k < 8∧sz=sz'∧T (mWay (2^sz) k g) sz=T g' sz'
theorem T_rl {f g:Nat→Nat→Int}:T f sz=T g sz↔rl f (2^sz)=rl g (2^sz):=cu.trans qf.symm
theorem qh:∀ a,a < 8→∃ b,b < 8∧beh a b=0:=by decide
theorem xa:∀ a,a < 8→∀ c,c < 8→∃ b,b < 8∧beh a b=c:=by decide
theorem way0 (s:Nat)(g:Nat→Nat→Int):mWay s 0 g=g:=rfl
theorem Kin.symm (h:Kin sz sz' g g'):Kin sz' sz g' g:=by
 obtain⟨k,hk,rfl,e⟩:=h
 obtain⟨j,hj,z⟩:=qh k hk
 refine⟨j,hj,rfl,cu.mpr fun x y hx hy=>?_⟩
 rw[← dz (cu.mp e) hj hx hy,d4 hk hj g hx hy,z,way0]
theorem Kin.least (h:Kin sz sz g g'):least g (2^sz)=least g' (2^sz):=by
 obtain⟨k,hk,_,e⟩:=h
 refine oZ fun x=>⟨?_,?_⟩
 ·rintro ⟨c,hc,rfl⟩
  obtain⟨b,hb,z⟩:=xa k hk c hc
  refine⟨b,hb,qf.mpr fun x y hx hy=>?_⟩
  rw[← dz (cu.mp e) hb hx hy,d4 hk hb g hx hy,z]
 ·rintro ⟨b,hb,rfl⟩
  refine⟨beh k b,vf hk hb,qf.mpr fun x y hx hy=>?_⟩
  rw[← dz (cu.mp e) hb hx hy,d4 hk hb g hx hy]
theorem lH (h:least g (2^sz)=least g' (2^sz)):Kin sz sz g g':=by
 obtain⟨a,ha,ea⟩:=nr g (2^sz)
 obtain⟨b,hb,eb⟩:=nr g' (2^sz)
 obtain⟨j,hj,z⟩:=qh b hb
 refine⟨beh a j,vf ha hj,rfl,cu.mpr fun x y hx hy=>?_⟩
 rw[← d4 ha hj g hx hy,dz (qf.mp (ea.symm.trans (h.trans eb))) hj hx hy,d4 hb hj g' hx hy,z,way0]
theorem Sh.kinD (q:Sh sz g t)(q':Sh sz' g' t'):∃ b:Bool,(b=true↔Kin sz sz' g g')∧(∀ n,16≤n→pf n F.ai [picD sz t,picD sz' t']=.ok (.bl b))∧(∀ n,16≤n→pf n F.ai [picD sz' t',picD sz t]=.ok (.bl b)) ∧
  ∃ l:List D,(∀ n,15≤n→pf n F.ay [picD sz t,picD sz' t']=.ok (.lst l))∧good 60 (.lst l)=true∧dNf (.lst l) (.lst [])=.ok (.bl b) ∧
   ∀ n,1≤n→cFil (fun zY=>asB ((pf n F.ah [rowsT .int g (2^sz) (2^sz),zY]).bind fun x6=>dEq x6 (rowsT .int g' (2^sz') (2^sz')))) (fun zY=>.ok zY) ((List.range 8).map fun i=>D.int ((i:Nat):Int))=.ok (.lst l):=by
 have h8:=p8 q.p.h3
 have fil:∀ {sz sz':Nat} {g g':Nat→Nat→Int},0 < ((List.range 8).filter fun k=>decide (sz=sz')&&decide (T (mWay (2^sz) k g) sz=T g' sz')).length↔Kin sz sz' g g':=fun {sz sz' g g'}=>by
  rw[List.length_pos_iff_exists_mem]
  constructor
  ·rintro ⟨k,hk⟩
   obtain⟨h1,h2⟩:=List.mem_filter.mp hk
   simp only[Bool.and_eq_true,decide_eq_true_eq]at h2
   exact⟨k,List.mem_range.mp h1,h2.1,h2.2⟩
  ·rintro ⟨k,h1,h2,h3⟩
   exact⟨k,List.mem_filter.mpr ⟨List.mem_range.mpr h1,by simp[h2];rw[← h3,h2]⟩⟩
 refine⟨decide (0 < ((List.range 8).filter fun k=>decide (sz=sz')&&decide (T (mWay (2^sz) k g) sz=T g' sz')).length),by rw[decide_eq_true_eq];exact fil,fun n hn=>q.kin q' hn,fun n hn=>?_,_,fun n hn=>q.waysto q' hn,?_,?_,fun n hn=>?_⟩
 ·rw[q'.kin q hn]
  congr 2
  exact decide_eq_decide.mpr (fil.trans (⟨Kin.symm,Kin.symm⟩:Kin sz' sz g' g↔Kin sz sz' g g') |>.trans fil.symm)
 ·simp only[good]
  exact cU (fun k:Nat=>D.int (k:Int)) 59 (fun a=>by simp[good]) _
 ·generalize (List.range 8).filter (fun k=>decide (sz=sz')&&decide (T (mWay (2^sz) k g) sz=T g' sz'))=L
  have gl:good 60 (.lst (L.map fun k:Nat=>D.int (k:Int)))=true:=by
   simp only[good]
   exact cU (fun k:Nat=>D.int (k:Int)) 59 (fun a=>by simp[good]) _
  rw[mW gl rfl]
  cases L with
  | nil=>rfl
  | cons a r=>simp[eqD,eqDs]
 ·refine pO (fun i:Nat=>D.int (i:Int)) (fun i:Nat=>D.int (i:Int)) _ fun k hk=>⟨?_,fun _=>rfl⟩
  rw[kC g (by omega) hn k,R.bind_ok]
  by_cases hs:sz=sz'
  ·subst hs
   rw[vc,decide_eq_true (rfl:sz=sz),Bool.true_and];rfl
  ·rw[wX q.p.h3 q'.p.h3 hs,decide_eq_false hs,Bool.false_and];rfl
theorem Sh.leastEq (q:Sh sz g t)(q':Sh sz' g' t'){b:Bool}(hb:b=true↔Kin sz sz' g g'){n:Nat}(hn:15≤n):((pf n F.ad [picD sz t]).bind fun x=>(pf n F.ad [picD sz' t']).bind fun y=>dEq x y)=.ok (.bl b):=by
 obtain⟨k,hk,e,r⟩:=q.leastway hn
 obtain⟨k',hk',e',r'⟩:=q'.leastway hn
 rw[e,R.bind_ok,e',R.bind_ok,bB (q.way k).p.g60 (q'.way k').p.g60,u8]
 congr 2
 rw[Bool.eq_iff_iff,hb]
 simp only[Bool.and_eq_true,decide_eq_true_eq]
 constructor
 ·rintro ⟨rfl,h⟩
  have:=T_rl.mp h
  rw[r,r']at this
  exact lH this
 ·intro h
  have hs:sz=sz':=h.choose_spec.2.1
  subst hs
  refine⟨rfl,T_rl.mpr ?_⟩
  rw[r,r']
  exact h.least
theorem Sh.leastRows (q:Sh sz g t){n:Nat}(hn:15≤n):((pf n F.ad [picD sz t]).bind fun x=>pf n F.ac [x])=.ok (rowsD (least g (2^sz))):=by
 obtain⟨k,hk,e,r⟩:=q.leastway hn
 rw[e,R.bind_ok,(q.way k).rows (by omega),rl_D,r]
theorem o0 (h3:sz≤3)(g:Nat→Nat→Int){n:Nat}(hn:1≤n):(cMap (fun AG=>pf n F.ah [rowsT .int g (2^sz) (2^sz),AG]) ((List.range 8).map fun i=>D.int ((i:Nat):Int))).bind (fun x12=>dMinD [x12])=.ok (rowsD (least g (2^sz))):=by
 have h8:=p8 h3
 rw[bg (fun i:Nat=>D.int (i:Int)) (fun k:Nat=>rowsD (rl (mWay (2^sz) k g) (2^sz))) fun k _=>by rw[kC g (by omega) hn k,rl_D],R.bind_ok]
 exact oY (rl (mWay (2^sz) 0 g) (2^sz)) ([1,2,3,4,5,6,7].map fun k=>rl (mWay (2^sz) k g) (2^sz))
end
def nxLen {α:Type}:L (List α)→Option Nat
 | .nx m=>some m.length
 | _=>none
def kindsL (w:Int):L (List (List (List Int)×D)):=lB ((((dMul (.int w) (.int w)).bind fun x23=>dMul x23 (.int w)).bind fun x24=>dMul x24 (.int w)).bind fun x25=>rng1 [x25]) fun xs5=>lFor (τ:=List (List (List Int)×D)) (fun s x=>fR (pf 39) (.int w) s x) xs5 []
def wholeL (w sz:Int):L D:=lB (rng1 [(.int 8)]) fun xs7=>lFor (τ:=D) (fun s x=>fT (pf 39) (.int w) (.int sz) s x) xs7 (.int 0)
theorem kin1:nxLen (kindsL 1)=some 1:=by kernel_rfl
theorem kin2:nxLen (kindsL 2)=some 6:=by kernel_rfl
theorem kin3:nxLen (kindsL 3)=some 21:=by kernel_rfl
theorem hk01:pf 39 F.aa [.int 0,.int 1]=.ok (.int 1):=by kernel_rfl
theorem hk02:pf 39 F.aa [.int 0,.int 2]=.ok (.int 2):=by kernel_rfl
theorem hk03:pf 39 F.aa [.int 0,.int 3]=.ok (.int 3):=by kernel_rfl
theorem hk11:pf 39 F.aa [.int 1,.int 1]=.ok (.int 1):=by kernel_rfl
theorem hk12:pf 39 F.aa [.int 1,.int 2]=.ok (.int 6):=by kernel_rfl
theorem hk13:pf 39 F.aa [.int 1,.int 3]=.ok (.int 21):=by kernel_rfl
theorem hk21:pf 39 F.aa [.int 2,.int 1]=.ok (.int 1):=by kernel_rfl
theorem hk22:pf 39 F.aa [.int 2,.int 2]=.ok (.int 8548):=by kernel_rfl
theorem hk23:pf 39 F.aa [.int 2,.int 3]=.ok (.int 5398083):=by kernel_rfl
theorem hk31:pf 39 F.aa [.int 3,.int 1]=.ok (.int 1):=by kernel_rfl
theorem hk32:pf 39 F.aa [.int 3,.int 2]=.ok (.int 2305843028004192256):=by kernel_rfl
theorem hk33:pf 39 F.aa [.int 3,.int 3]=.ok (.int 429210477536602279123636967061):=by kernel_rfl
theorem wh21:wholeL 1 2=.nx (.int (8*1)):=by kernel_rfl
theorem wh22:wholeL 2 2=.nx (.int (8*8548)):=by kernel_rfl
theorem wh23:wholeL 3 2=.nx (.int (8*5398083)):=by kernel_rfl
theorem wh31:wholeL 1 3=.nx (.int (8*1)):=by kernel_rfl
theorem wh32:wholeL 2 3=.nx (.int (8*2305843028004192256)):=by kernel_rfl
theorem wh33:wholeL 3 3=.nx (.int (8*429210477536602279123636967061)):=by kernel_rfl
theorem vh (g:Nat→Nat→Int){w k:Nat}(hk:0 < k):mIx (rowsM g w k) (.int (-1))=mIx (rowsM g w k) (.int ((k - 1:Nat):Int)):=by
 have l1:(rowsM g w k).length=k:=by unfold rowsM;simp
 unfold mIx
 simp only[l1,lG (show k - 1 < k by omega)]
 unfold L2.ixN
 rw[if_neg (by decide),if_pos (by omega)]
 simp only
 congr 1
 omega
theorem vi (ns:List Int){sz:Nat}{g:Nat→Nat→Int}{t:Q Int}(q:Sh sz g t):∃ sz' g' t',Sh sz' g' t' ∧
  (lS (lB (σ:=D) (asB ((pf 39 F.ab [scr ns,(.int 5001),(.int 3)]).bind fun x=>dEq x (.int 0))) fun b=>if b=true then lB (pf 39 F.ae [scr ns,(.int 5100),(.int 2)]) fun Ag =>
   .nx Ag else .nx (picD sz t)) fun Ab =>
   lS (lB (σ:=D) (asB ((pf 39 F.ab [scr ns,(.int 5002),(.int 3)]).bind fun x1=>dEq x1 (.int 0))) fun b1=>if b1=true then lB (((pf 39 F.aw [Ab]).bind fun x2=>sq x2).bind sqsL) fun zQ=>lB ((pf 39 F.ab [scr ns,(.int 5003),(.int 3)]).bind fun x3=>(mIx zQ (.int (-1))).bind fun q=>mStA zQ q (.int 0) x3) fun Ai=>lB ((((sq (.lst (Ai.map .lst))).bind fun xs=>cMap (fun Aa=>dTuple [Aa]) xs).bind fun x4=>dTuple [x4]).bind fun x5=>pf 39 F.aT [x5]) fun An =>
   .nx An else .nx Ab) fun zH=>L.nx zH)=.nx (picD sz' t'):=by
 have eqz:∀ v:Int,dEq (.int v) (.int 0)=.ok (.bl (decide (v=0))):=fun v=>by
  rw[bB rfl rfl];rfl
 have p1:=bL (n:=39) (by decide) ns 5001 (m:=3) (by decide)
 have p2:=bL (n:=39) (by decide) ns 5002 (m:=3) (by decide)
 have p3:=bL (n:=39) (by decide) ns 5003 (m:=3) (by decide)
 have v0:=js (ns:=ns) (k:=5003) (m:=3) (by decide)
 have v1:=jt (ns:=ns) (k:=5003) (m:=3) (by decide)
 obtain⟨s1,g1,t1,q1,e1⟩:∃ s1 g1 t1,Sh s1 g1 t1∧(lB (σ:=D) (asB ((pf 39 F.ab [scr ns,(.int 5001),(.int 3)]).bind fun x=>dEq x (.int 0))) fun b=>if b=true then lB (pf 39 F.ae [scr ns,(.int 5100),(.int 2)]) fun Ag=>.nx Ag else .nx (picD sz t))=.nx (picD s1 t1):=by
  rw[show (.int 5001:D)=.int ((5001:Nat):Int) from rfl,p1,R.bind_ok,eqz,bG,aM]
  by_cases h:pk ns 5001 3=0
  ·obtain⟨s4,t4,_,p4,hp4⟩:=pU ns 5100 2 39 (by decide) (by decide)
   refine⟨s4,t4.at s4,t4,p4.sh,?_⟩
   rw[decide_eq_true h,if_pos rfl,show pf 39 F.ae [scr ns,.int 5100,.int 2]=.ok (picD s4 t4) from hp4];rfl
  ·refine⟨sz,g,t,q,?_⟩
   rw[decide_eq_false h];rfl
 rw[e1,bX,show (.int 5002:D)=.int ((5002:Nat):Int) from rfl,p2,R.bind_ok,eqz,bG,aM]
 by_cases h:pk ns 5002 3=0
 ·have h3:=q1.p.h3
  have h8:=p8 h3
  have h1:=pos2 s1
  have ms:=vd g1 (w:=2^s1) (k:=2^s1) (x:=0) (y:=2^s1 - 1) (v:=pk ns 5003 3) (by omega) (by omega)
  rw[← vh g1 (by omega)]at ms
  have mT:=wY (putF g1 0 (2^s1 - 1) (pk ns 5003 3)) (w:=2^s1) (k:=2^s1) (by omega)
  have hw':Wo (putF g1 0 (2^s1 - 1) (pk ns 5003 3)) s1:=fun a b ha hb=>by
   unfold putF
   split
   ·exact⟨v0,by omega⟩
   ·exact q1.wo a b ha hb
  refine⟨s1,_,_,sh_T h3 hw',?_⟩
  rw[decide_eq_true h,if_pos rfl,q1.lrows (by decide),R.bind_ok,q1.sqrows,R.bind_ok,kB,aM,show (.int 5003:D)=.int ((5003:Nat):Int) from rfl,p3,R.bind_ok]
  rw[show ((mIx ((List.range (2^s1)).map fun y=>(List.range (2^s1)).map fun x=>D.int (g1 x y)) (.int (-1))).bind fun q=>mStA ((List.range (2^s1)).map fun y=>(List.range (2^s1)).map fun x=>D.int (g1 x y)) q (.int 0) (.int (pk ns 5003 3)))=_ from ms,aM,mT,R.bind_ok,zr _ h3 (by decide)]
  rfl
 ·refine⟨s1,g1,t1,q1,?_⟩
  rw[decide_eq_false h];rfl
theorem lS2 {α β γ:Type}{A:L α}{B:α→L β}{K:β→L γ}{v:β}(h:lS A (fun o=>lS (B o) fun x=>.nx x)=.nx v):lS A (fun o=>lS (B o) K)=K v:=by
 cases A with
 | nx s =>
  simp only[bX]at h ⊢
  cases hb:B s with
  | nx u=>rw[hb]at h;cases h;rfl
  | rt d=>rw[hb]at h;cases h
  | er k=>rw[hb]at h;cases h
  | stuck=>rw[hb]at h;cases h
 | rt d=>cases h
 | er k=>cases h
 | stuck=>cases h
theorem yD {w sz':Int}(hw:w=1∨w=2∨w=3)(hs:sz'=2∨sz'=3):∃ (m:List (List (List Int)×D)) (N:Int),kindsL w=.nx m∧pf 39 F.aa [.int 1,.int w]=.ok (.int (m.length:Nat))∧pf 39 F.aa [.int 0,.int w]=.ok (.int w) ∧
  pf 39 F.aa [.int sz',.int w]=.ok (.int N)∧wholeL w sz'=.nx (.int (8*N))∧N < 2^200∧0≤N:=by
 have len:∀ {k:Nat} {w:Int},nxLen (kindsL w)=some k→∃ m,kindsL w=.nx m∧m.length=k:=fun {k w} h=>by
  cases q:kindsL w with
  | nx m=>rw[q]at h;cases h;exact⟨m,rfl,rfl⟩
  | rt d=>rw[q]at h;cases h
  | er k=>rw[q]at h;cases h
  | stuck=>rw[q]at h;cases h
 rcases hw with rfl | rfl | rfl
 ·obtain⟨m,e,l⟩:=len kin1
  rcases hs with rfl | rfl
  ·exact⟨m,_,e,by rw[l];exact hk11,hk01,hk21,wh21,by decide,by decide⟩
  ·exact⟨m,_,e,by rw[l];exact hk11,hk01,hk31,wh31,by decide,by decide⟩
 ·obtain⟨m,e,l⟩:=len kin2
  rcases hs with rfl | rfl
  ·exact⟨m,_,e,by rw[l];exact hk12,hk02,hk22,wh22,by decide,by decide⟩
  ·exact⟨m,_,e,by rw[l];exact hk12,hk02,hk32,wh32,by decide,by decide⟩
 ·obtain⟨m,e,l⟩:=len kin3
  rcases hs with rfl | rfl
  ·exact⟨m,_,e,by rw[l];exact hk13,hk03,hk23,wh23,by decide,by decide⟩
  ·exact⟨m,_,e,by rw[l];exact hk13,hk03,hk33,wh33,by decide,by decide⟩
theorem vj (a:Int):dNf (.int a) (.int a)=.ok (.bl false):=gj rfl
theorem o3 (a:Bool):dNf (.bl a) (.bl a)=.ok (.bl false):=by cases a<;>rfl
theorem jY (ns:List Int):pf 40 F.az [.lst (ns.map .int)]=.ok (.bl true):=by
 obtain⟨sz,t,hsz,p,hp⟩:=pU ns 0 2 39 (by decide) (by decide)
 have hp':pf 39 F.ae [scr ns,.int 0,.int 2]=.ok (picD sz t):=hp
 have q:=p.sh
 have h3:=p.h3
 generalize t.at sz=g at *
 have lr:=q.lrows (n:=39) (by decide)
 have pw:pf 39 F.ab [scr ns,.int 5000,.int 8]=.ok (.int (pk ns 5000 8)):=bL (by decide) ns 5000 (by decide)
 have w0:=js (ns:=ns) (k:=5000) (m:=8) (by decide)
 have w1:=jt (ns:=ns) (k:=5000) (m:=8) (by decide)
 obtain⟨a,ea⟩:∃ a:Nat,pk ns 5000 8=(a:Int):=⟨(pk ns 5000 8).toNat,by omega⟩
 rw[ea]at pw w1
 have la:a < 8:=by omega
 have bw:=q.byway (n:=39) (by decide) la
 have qw:=q.way a
 obtain⟨sz',g',t',q',e'⟩:=vi ns qw
 have lr':=q'.lrows (n:=39) (by decide)
 obtain⟨b,hb,k1,k2,l,wt,gl,nl,due⟩:=q.kinD q'
 have rg:rng1 [.int 8]=.ok ((List.range 8).map fun i=>D.int ((i:Nat):Int)):=ce (s:=8) (by decide)
 have dl:=due 39 (by decide)
 have lh:=o0 h3 g (n:=39) (by decide)
 have sl:=q.leastRows (n:=39) (by decide)
 have le:=q.leastEq q' hb (n:=39) (by decide)
 obtain⟨i1,hi1,f1,r1⟩:=q.leastway (n:=39) (by decide)
 obtain⟨i2,hi2,f2,r2⟩:=qw.leastway (n:=39) (by decide)
 have same:picD sz (T (mWay (2^sz) i2 (mWay (2^sz) a g)) sz)=picD sz (T (mWay (2^sz) i1 g) sz):=by
  congr 1
  refine T_rl.mpr ?_
  rw[r1,r2]
  exact(Kin.least (g:=g) ⟨a,la,rfl,rfl⟩).symm
 have p4:pf 39 F.ab [scr ns,.int 5004,.int 3]=.ok (.int (pk ns 5004 3)):=bL (by decide) ns 5004 (by decide)
 have p5:pf 39 F.ab [scr ns,.int 5005,.int 6]=.ok (.int (pk ns 5005 6)):=bL (by decide) ns 5005 (by decide)
 have a0:=js (ns:=ns) (k:=5004) (m:=3) (by decide)
 have a1:=jt (ns:=ns) (k:=5004) (m:=3) (by decide)
 generalize pk ns 5004 3=u at *
 have hu:1+u=1∨1+u=2∨1+u=3:=by omega
 have eqz:dEq (.int (pk ns 5005 6)) (.int 0)=.ok (.bl (decide (pk ns 5005 6=0))):=by rw[bB rfl rfl];rfl
 obtain⟨S,hS,eS⟩:∃ S:Int,(S=2∨S=3)∧((dIntB [.bl (decide (pk ns 5005 6=0))]).bind fun x44=>dAdd (.int 2) x44)=.ok (.int S):=by
  by_cases h:pk ns 5005 6=0
  ·rw[decide_eq_true h];exact⟨3,.inr rfl,rfl⟩
  ·rw[decide_eq_false h];exact⟨2,.inl rfl,rfl⟩
 obtain⟨m,N,ek,hk1,hk0,hkS,ew,N1,N0⟩:=yD hu hS
 have orr:=sy (n:=39) (by decide) h3 q.wo
 have qT:=sh_T h3 q.wo
 obtain⟨b2,hb2,kk,_⟩:=q.kinD qT
 have kt:pf 39 F.ai [picD sz t,picD sz (T g sz)]=.ok (.bl true):=by
  rw[kk 39 (by decide),hb2.mpr ⟨0,by decide,rfl,rfl⟩]
 unfold kindsL at ek
 unfold wholeL at ew
 rw[rg]at ew
 have m8:dMul (.int N) (.int 8)=.ok (.int (N*8)):=bQ (.inl ⟨by decide,by decide⟩)
 have e8:dEq (.int (N*8)) (.int (8*N))=.ok (.bl true):=by
  rw[Int.mul_comm,bB rfl rfl,sB (n:=1) rfl]
 rw[show D.lst (ns.map .int)=scr ns from rfl,oq,eL,hp',aM,lr,aM,pw,aM,bw,aM,lS2 e',lr',aM,rg,R.bind_ok,dl,aM,wt 39 (by decide),R.bind_ok,gj gl,k1 39 (by decide),R.bind_ok,nl,R.bind_ok,o3,k2 39 (by decide),R.bind_ok,R.bind_ok,o3,bG,lZ,lZ,aM,if_neg Bool.false_ne_true,bX,R.bind_ok,lh,aM,sl,R.bind_ok,gj (cW _),bG,lZ,le,R.bind_ok,R.bind_ok,o3,bG,aM,if_neg Bool.false_ne_true,bX,R.bind_ok,f2,R.bind_ok,f1,R.bind_ok,same,gj (q.way i1).p.g60,bG,aM,if_neg Bool.false_ne_true,bX,p4,R.bind_ok,bP,aM,ek,bX,hk1,R.bind_ok,vj,bG,lZ,hk0,R.bind_ok,vj,bG,aM,if_neg Bool.false_ne_true,bX,p5,R.bind_ok,eqz,R.bind_ok,eS,aM,ew,bX,hkS,R.bind_ok,m8,R.bind_ok,e8,t7,orr,R.bind_ok,kt,R.bind_ok]
 rfl
end Lw
end
end
noncomputable section
set_option maxHeartbeats 4000000
namespace Lw
open PySem PySem.Spec PyProof.Rows L2 FF
def cname:Nat→Str
 | 0 => "FourError"
 | 1 => "NoPicture"
 | 2 => "NoSpot"
 | 21 => "is_worth"
 | _ => "?"
def Cof (K:PySem.W.Frag)(i:Nat):Addr:=match PySem.W.nsIn K mainGlobals (cname i) with
 | some (some (.ref a))=>a
 | _=>0
theorem cof {K:PySem.W.Frag}{i:Nat}{x:Str}{a:Addr}(h:Ng K x (some (.ref a)))(hx:cname i=x:=by rfl):Cof K i=a:=by unfold Cof;rw[hx,h]
structure Fds (K:PySem.W.Frag)(mg:Str→Option Value):Prop where
 F20:Fd K mg "is_whole" ["thing"] fg
 F21:Fd K mg "is_worth" ["thing"] fi
 F22:Fd K mg "is_size" ["thing"] gQ
 F23:Fd K mg "is_tree" ["size","thing","is_end"] gR
 F24:Fd K mg "is_sized_tree" ["thing","is_end"] bU
 F25:Fd K mg "put_together" ["four"] cr
 F26:Fd K mg "lean_tree" ["tree"] dL
 F43:Fd K mg "worth_in" ["tree","side","x","y"] fj
 F44:Fd K mg "tree_of" ["rows","left","top","side"] gU
 F27:Fd K mg "is_picture" ["thing"] dn
 F28:Fd K mg "check_picture" ["thing"] bV
 F45:Fd K mg "side_of" ["picture"] gX
 F49:Fd K mg "shown_row" ["picture","y"] dN
 F50:Fd K mg "shown_rows" ["picture"] dq
 F51:Fd K mg "is_row" ["thing","side"] jd
 F52:Fd K mg "are_rows" ["thing"] fk
 F53:Fd K mg "of_rows" ["rows"] gY
 F29:Fd K mg "lean" ["picture"] oz
 F69:Fd K mg "moved_tree" ["tree","order"] du
 F70:Fd K mg "moved" ["picture","order"] ll
 F125:Fd K mg "turned" ["picture"] jf
 F84:Fd K mg "mirrored" ["picture"] fm
 F127:Fd K mg "check_way" ["thing"] dO
 F128:Fd K mg "by_way" ["picture","way"] jg
 F129:Fd K mg "all_ways" ["picture"] fq
 F130:Fd K mg "side_at" ["size"] gZ
 F131:Fd K mg "spot_behind" ["size","way","x","y"] cH
 F137:Fd K mg "ways_to" ["one","other"] g5
 F138:Fd K mg "are_kin" ["one","other"] g6
 F139:Fd K mg "least_way" ["picture"] dP
 F140:Fd K mg "is_first_of_ring" ["size","way","x","y"] bi
 F141:Fd K mg "rings" ["size","way"] lq
 F142:Fd K mg "how_many_kept" ["size","worths","way"] bW
 F143:Fd K mg "how_many_kinds" ["size","worths"] bH
 F30:Fd K mg "_law_cell" ["_law_script","_law_k"] jh
 F31:Fd K mg "_law_pick" ["_law_script","_law_k","_law_many"] ji
 F32:Fd K mg "_law_tree" ["_law_script","_law_at","_law_size"] jj
 F33:Fd K mg "_law_picture" ["_law_script","_law_at","_law_most"] dR
 F54:Fd K mg "_law_rows_of" ["_law_size","_law_tree_here"] dU
 F55:Fd K mg "_law_rows" ["_law_picture_here"] jk
 F56:Fd K mg "_law_least" ["_law_rows_here"] g7
 F57:Fd K mg "_law_of" ["_law_rows_here"] oB
 F133:Fd K mg "_law_by_way" ["_law_rows_here","_law_way"] fu
 F144:Fd K mg "_law_rounds" ["_law_side","_law_way"] fv
 F145:Fd K mg "law" ["_law_script"] aZ
theorem tab {P:Program}{w:World}{K:PySem.W.Frag}{mg:Str→Option Value}{base:Heap}{C:Nat→Addr}(T:Txt K mg C w.params)(S:Fds K mg):∀ n,Tab P w K mg base C n (pf n)
 | 0=>⟨g0 S.F20,g0 S.F21,g0 S.F22,g0 S.F23,g0 S.F24,g0 S.F25,g0 S.F26,g0 S.F43,g0 S.F44,g0 S.F27,g0 S.F28,g0 S.F45,g0 S.F49,g0 S.F50,g0 S.F51,g0 S.F52,g0 S.F53,g0 S.F29,g0 S.F69,g0 S.F70,g0 S.F125,g0 S.F84,g0 S.F127,g0 S.F128,g0 S.F129,g0 S.F130,g0 S.F131,g0 S.F137,g0 S.F138,g0 S.F139,g0 S.F140,g0 S.F141,g0 S.F142,g0 S.F143,g0 S.F30,g0 S.F31,g0 S.F32,g0 S.F33,g0 S.F54,g0 S.F55,g0 S.F56,g0 S.F57,g0 S.F133,g0 S.F144,g0 S.F145,
  fun i hi=>by
  simp only[fvL,List.mem_cons,List.not_mem_nil,or_false]at hi
  rcases hi with rfl
  ·exact zb S.F21 T.f_is_worth⟩
 | n+1=>by
  have G:=tab T S n (P:=P) (w:=w) (base:=base)
  exact⟨g1 S.F20 (mL T G),g1 S.F21 (im T G),g1 S.F22 (oC T G),g1 S.F23 (oD T G),g1 S.F24 (g8 T G),g1 S.F25 (ix T G),g1 S.F26 (lu T G),g1 S.F43 (mM T G),g1 S.F44 (oE T G),g1 S.F27 (jV T G),g1 S.F28 (g9 T G),g1 S.F45 (oF T G),g1 S.F49 (lv T G),g1 S.F50 (jW T G),g1 S.F51 (se T G),g1 S.F52 (mO T G),g1 S.F53 (oG T G),g1 S.F29 (wH T G),g1 S.F69 (jX T G),g1 S.F70 (uI T G),g1 S.F125 (sf T G),g1 S.F84 (mP T G),g1 S.F127 (lw T G),g1 S.F128 (si T G),g1 S.F129 (mQ T G),g1 S.F130 (oH T G),g1 S.F131 (jl T G),g1 S.F137 (oJ T G),g1 S.F138 (oK T G),g1 S.F139 (ly T G),g1 S.F140 (eT T G),g1 S.F141 (uJ T G),g1 S.F142 (hG T G),g1 S.F143 (fZ T G),g1 S.F30 (sj T G),g1 S.F31 (sk T G),g1 S.F32 (so T G),g1 S.F33 (lz T G),g1 S.F54 (lA T G),g1 S.F55 (sr T G),g1 S.F56 (oM T G),g1 S.F57 (wI T G),g1 S.F133 (mR T G),g1 S.F144 (mS T G),g1 S.F145 (jm T G),
  fun i hi=>by
  simp only[fvL,List.mem_cons,List.not_mem_nil,or_false]at hi
  rcases hi with rfl
  ·exact zc S.F21 T.f_is_worth (im T G) (fun ds h=>y9 h)⟩
theorem yE {l:PySem.W.OpenLaw}{w:World}{K:PySem.W.Frag}{h:Heap}{mg:Str→Option Value}{fa f1 f44 C0 C1 C2:Addr}(X:K.In h)(G:h.Ns mainGlobals mg)(hfa:mg "law"=some (.ref fa))(S:Fds K mg)
  {od44 an44:Option Addr} {sl44:Array (Option Value)} {oc44 kV44 dc44 pm44 cd44 ct44:Value} {tk_GREATEST_WORTH tk_LARGEST_SIZE tk_TURNS tk_WAYS:Tok} {ta_BY_MIRRORING ta_BY_TURNING ta_SIDES:Addr} {tn_BY_MIRRORING tn_BY_TURNING tn_SIDES:Nat} {ts_BY_MIRRORING ts_BY_TURNING ts_SIDES:Array (Option Value)} {tt_BY_MIRRORING_0 tt_BY_MIRRORING_1 tt_BY_MIRRORING_2 tt_BY_MIRRORING_3 tt_BY_TURNING_0 tt_BY_TURNING_1 tt_BY_TURNING_2 tt_BY_TURNING_3 tt_SIDES_0 tt_SIDES_1 tt_SIDES_2 tt_SIDES_3:Tok}
  (z0:Ng K "is_worth" (some (.ref f1)))
  (z1:Ng K "law" (some (.ref f44)))
  (z2:K.lookup f44=some ⟨oc44,od44,.func (PySem.W.fnOf "law" "law" (defArgs aZ) (defBody aZ) (defScope aZ) .none kV44 dc44 pm44 an44 cd44 ct44),sl44⟩)
  (z3:PySem.W.codeIn K cd44 "law"=true)
  (z4:PySem.W.keepIn K (.ref f44)=true)
  (z5:Ng K "all" none)
  (z6:Ng K "bool" none)
  (z7:Ng K "int" none)
  (z8:Ng K "isinstance" none)
  (z9:Ng K "len" none)
  (z10:Ng K "list" none)
  (z11:Ng K "max" none)
  (z12:Ng K "min" none)
  (z13:Ng K "range" none)
  (z14:Ng K "set" none)
  (z15:Ng K "sorted" none)
  (z16:Ng K "sum" none)
  (z17:Ng K "tuple" none)
  (z18:Ng K "GREATEST_WORTH" (some (.int 9 tk_GREATEST_WORTH)))
  (z19:Ng K "LARGEST_SIZE" (some (.int 3 tk_LARGEST_SIZE)))
  (z20:Ng K "TURNS" (some (.int 4 tk_TURNS)))
  (z21:Ng K "WAYS" (some (.int 8 tk_WAYS)))
  (z22:Ng K "BY_MIRRORING" (some (.ref ta_BY_MIRRORING)))
  (z23:K.lookup ta_BY_MIRRORING=some ⟨.type "tuple",none,.seq #[.int 1 tt_BY_MIRRORING_0,.int 0 tt_BY_MIRRORING_1,.int 3 tt_BY_MIRRORING_2,.int 2 tt_BY_MIRRORING_3] tn_BY_MIRRORING,ts_BY_MIRRORING⟩)
  (z24:Ng K "BY_TURNING" (some (.ref ta_BY_TURNING)))
  (z25:K.lookup ta_BY_TURNING=some ⟨.type "tuple",none,.seq #[.int 2 tt_BY_TURNING_0,.int 0 tt_BY_TURNING_1,.int 3 tt_BY_TURNING_2,.int 1 tt_BY_TURNING_3] tn_BY_TURNING,ts_BY_TURNING⟩)
  (z26:Ng K "SIDES" (some (.ref ta_SIDES)))
  (z27:K.lookup ta_SIDES=some ⟨.type "tuple",none,.seq #[.int 1 tt_SIDES_0,.int 2 tt_SIDES_1,.int 4 tt_SIDES_2,.int 8 tt_SIDES_3] tn_SIDES,ts_SIDES⟩)
  (z28:Ng K "FourError" (some (.ref C0)))
  (z29:Ng K "NoPicture" (some (.ref C1)))
  (z30:Ng K "NoSpot" (some (.ref C2)))
  (z31:PySem.W.excIn K C1 bmVE "ValueError.__new__"=true)
  (z32:PySem.W.excIn K C2 bmVE "ValueError.__new__"=true)
  (z33:PySem.W.excIn K C0 bmVE "ValueError.__new__"=true)
  (z34:PySem.W.subIn K (.ref C1) (.ref C0)=some true)
  (z35:PySem.W.subIn K (.ref C2) (.ref C0)=some true) :
  ∃ fd:FuncData,(∀ (s:Shared) (v:Value),BindsTo s fd ⟨[v],[]⟩ [("_law_script",v)])∧∀ base:Heap,K.In base→base.Ns mainGlobals mg→FnOk l.prog w K mg base (CXE l.prog w) 40 fa fd ["_law_script"] (spF K (Cof K) 1 (pf 40 Lw.F.az)):=by
 have e:=hfa.symm.trans (PySem.W.mg_of X G z1)
 cases e
 have q_FourError:Cof K 0=C0:=cof z28
 have q_NoPicture:Cof K 1=C1:=cof z29
 have q_NoSpot:Cof K 2=C2:=cof z30
 have T:Txt K mg (Cof K) w.params:=⟨PySem.W.mg_none_of X G z5,
  PySem.W.mg_none_of X G z6,
  PySem.W.mg_none_of X G z7,
  PySem.W.mg_none_of X G z8,
  PySem.W.mg_none_of X G z9,
  PySem.W.mg_none_of X G z10,
  PySem.W.mg_none_of X G z11,
  PySem.W.mg_none_of X G z12,
  PySem.W.mg_none_of X G z13,
  PySem.W.mg_none_of X G z14,
  PySem.W.mg_none_of X G z15,
  PySem.W.mg_none_of X G z16,
  PySem.W.mg_none_of X G z17,
  ⟨_,PySem.W.mg_of X G z18⟩,
  ⟨_,PySem.W.mg_of X G z19⟩,
  ⟨_,PySem.W.mg_of X G z20⟩,
  ⟨_,PySem.W.mg_of X G z21⟩,
  ⟨_,PySem.W.mg_of X G z22,_,_,_,z23,rfl,rfl,rfl,by show 4≤sizeLine;decide,(.cons ⟨_,rfl⟩ (.cons ⟨_,rfl⟩ (.cons ⟨_,rfl⟩ (.cons ⟨_,rfl⟩ .nil))))⟩,
  ⟨_,PySem.W.mg_of X G z24,_,_,_,z25,rfl,rfl,rfl,by show 4≤sizeLine;decide,(.cons ⟨_,rfl⟩ (.cons ⟨_,rfl⟩ (.cons ⟨_,rfl⟩ (.cons ⟨_,rfl⟩ .nil))))⟩,
  ⟨_,PySem.W.mg_of X G z26,_,_,_,z27,rfl,rfl,rfl,by show 4≤sizeLine;decide,(.cons ⟨_,rfl⟩ (.cons ⟨_,rfl⟩ (.cons ⟨_,rfl⟩ (.cons ⟨_,rfl⟩ .nil))))⟩,
  (by rw[cof (i:=F.ag) z0];exact PySem.W.mg_of X G z0),
  (by rw[q_FourError];exact PySem.W.mg_of X G z28),
  (by rw[q_NoPicture];exact PySem.W.mg_of X G z29),
  (by rw[q_NoSpot];exact PySem.W.mg_of X G z30),
  (by rw[q_NoPicture];exact z31),
  (by rw[q_NoSpot];exact z32),
  (t6 (by rw[q_FourError];exact z33) (fun j hj=>by
   simp only[esL,List.mem_cons,List.not_mem_nil,or_false]at hj
   rcases hj with rfl | rfl
   ·rw[q_NoPicture,q_FourError];exact z34
   ·rw[q_NoSpot,q_FourError];exact z35))⟩
 have FL:=nD (st:=aZ) z2 z3 z4
 exact⟨PySem.W.fnOf "law" "law" (defArgs aZ) (defBody aZ) (defScope aZ) .none kV44 dc44 pm44 an44 cd44 ct44,fun s v=>.of_eq rfl,fun base _ _=>jm T (tab T S 39) FL⟩
theorem walk {l:PySem.W.OpenLaw}{q:Program}{loose:List Str}{XP:(Str→Option Value)→Heap→Prop}{YP:World→Heap→Prop}{d:DefRec}{K:Params→PySem.W.Frag}(hn:l.most=some 63)(hdf:d.params.defaults=[])
  (hY:∀ (w:World) (h:Heap),YP w h→(K w.params).In h)
  (F:∀ (w:World) (mg:Str→Option Value) (fa:Addr) (h:Heap),(K w.params).In h→h.Ns mainGlobals mg→mg d.name=some (.ref fa) →
   ∃ fd:FuncData,(∀ (s:Shared) (u:Value),BindsTo s fd ⟨[u],[]⟩ [("_law_script",u)])∧∀ base:Heap,(K w.params).In base→base.Ns mainGlobals mg→FnOk l.prog w (K w.params) mg base (CXE l.prog w) 40 fa fd ["_law_script"] (spF (K w.params) (Cof (K w.params)) 1 (pf 40 Lw.F.az))) :
  PySem.W.WalkO q loose XP YP l.row.toRowW d [] (fun f vs=>PySem.call f vs) :=
 L2.vE (n:=63) (k:=40) (x := "_law_script") (CX:=fun w=>CXE l.prog w) (sp:=fun w=>spF (K w.params) (Cof (K w.params)) 1 (pf 40 Lw.F.az)) hn (by decide) hdf ⟨rfl,by decide,by decide⟩ hY F
  (fun w H a ns hl _ hS=>⟨rfl,H,[.lst (ns.map .int)],Same.refl H,by rw[Reps];exact⟨_,_,rfl,by rw[Rep];exact⟨a,_,rfl,hS,px ns⟩,by rw[Reps]⟩,by rw[jY ns];exact fun H' Z' _ v rv=>by rw[Rep]at rv;exact rv⟩)
  fun w H s e s' z=>by obtain⟨_,_,_,_,_,_,_,_,_,_,_,_,_,z⟩:=z;exact z
end Lw
open PySem PySem.W PyProof.Rows
def PySem.W.Fast.tw17568255460422911431:Nat:=0
def PySem.W.Fast.tw2475349524344583068:Nat:=0
def PySem.W.Fast.tw1528933987217012103:Nat:=0
def PySem.W.Fast.tw17680895648536735594:Nat:=0
def PySem.W.Fast.tw11910121016474128747:Nat:=0
def PySem.W.Fast.tw3336107250849051645:Nat:=0
def PySem.W.Fast.tw6956473570863106906:Nat:=0
def PySem.W.Fast.tw16621771122553672311:Nat:=0
def PySem.W.Fast.tw2995899007669536784:Nat:=0
def PySem.W.Fast.tw328398871807087959:Nat:=0
def PySem.W.Fast.tw14435296288407151292:Nat:=0
def PySem.W.Fast.tw17672018702206479945:Nat:=0
def PySem.W.Fast.tw11807304140439854483:Nat:=0
def PySem.W.Fast.tw8703316041245080444:Nat:=0
def PySem.W.Fast.tw8758709639648349674:Nat:=0
def PySem.W.Fast.tw16111679695859720658:Nat:=0
def PySem.W.Fast.tw17669704075735938878:Nat:=0
def PySem.W.Fast.tw7339995733755434897:Nat:=0
def PySem.W.Fast.tw7552846130891633813:Nat:=0
def PySem.W.Fast.tw3339164258942055097:Nat:=0
def PySem.W.Fast.tw9129150558762519630:Nat:=0
def PySem.W.Fast.tw11237409609946778900:Nat:=0
def PySem.W.Fast.tw11628308399429419171:Nat:=0
def PySem.W.Fast.tw14944766069227098828:Nat:=0
def PySem.W.Fast.tw435152689746387567:Nat:=0
def PySem.W.Fast.tw4819338097133526503:Nat:=0
def PySem.W.Fast.tw16984839706740439344:Nat:=0
def PySem.W.Fast.tw5364894114874912266:Nat:=0
def PySem.W.Fast.tw17289753724107593216:Nat:=0
def PySem.W.Fast.tw18407597482056372335:Nat:=0
def PySem.W.Fast.tw9489741519366287650:Nat:=0
def PySem.W.Fast.tw16351823033493548399:Nat:=0
def PySem.W.Fast.tw5963341328781902483:Nat:=0
def PySem.W.Fast.tw14567510644596862439:Nat:=0
def PySem.W.Fast.tw17521550835476928445:Nat:=0
def PySem.W.Fast.tw6129529973077700947:Nat:=0
def PySem.W.Fast.tw7426770940039800852:Nat:=0
def PySem.W.Fast.tw6885100471719857742:Nat:=0
def PySem.W.Fast.tw1870842405544685896:Nat:=0
def PySem.W.Fast.tw11247551936816676999:Nat:=0
def PySem.W.Fast.tw9301114592064659827:Nat:=0
def PySem.W.Fast.tw6130460538061221644:Nat:=0
def PySem.W.Fast.tw13891350592470885556:Nat:=0
def PySem.W.Fast.tw3705599209695687089:Nat:=0
def PySem.W.Fast.tw4086634525785808010:Nat:=0
def PySem.W.Fast.tw4105837754053032233:Nat:=0
def PySem.W.Fast.tw10108458298409477961:Nat:=0
def PySem.W.Fast.tw13232460069558337413:Nat:=0
def PySem.W.Fast.tw8320589536363865384:Nat:=0
def PySem.W.Fast.tw5009527181570967527:Nat:=0
def PySem.W.Fast.tw6320238670663554385:Nat:=0
def PySem.W.Fast.tw6022401799898373928:Nat:=0
def PySem.W.Fast.tw9623708617243412169:Nat:=0
def PySem.W.Fast.tw11813566263701500376:Nat:=0
def PySem.W.Fast.tw10407241688672562949:Nat:=0
def PySem.W.Fast.tw16907303374493467138:Nat:=0
def PySem.W.Fast.tw11388482962044189396:Nat:=0
def PySem.W.Fast.tw775234483268767925:Nat:=0
def PySem.W.Fast.tw15126659053342904179:Nat:=0
def PySem.W.Fast.tw280299699277622457:Nat:=0
def PySem.W.Fast.tw2698878196746089505:Nat:=0
def PySem.W.Fast.tw1413377405777801704:Nat:=0
def PySem.W.Fast.tw9053786646332118763:Nat:=0
def PySem.W.Fast.tw513688337582688782:Nat:=0
def PySem.W.Fast.tw9451881157810678702:Nat:=0
def PySem.W.Fast.tw15445052416584023221:Nat:=0
def PySem.W.Fast.tw2455507492544751966:Nat:=0
def PySem.W.Fast.tw2183799857189111246:Nat:=0
def PySem.W.Fast.tw3610082629354284793:Nat:=0
def PySem.W.Fast.tw12853174174218312074:Nat:=0
def PySem.W.Fast.tw9586079605023404850:Nat:=0
def PySem.W.Fast.tw3544682061489989579:Nat:=0
def PySem.W.Fast.tw15919737466087124989:Nat:=0
def PySem.W.Fast.tw82364032567735559:Nat:=0
def PySem.W.Fast.tw4864060491748185657:Nat:=0
def PySem.W.Fast.tw17486901542366242617:Nat:=0
def PySem.W.Fast.tw5774858014281339255:Nat:=0
def PySem.W.Fast.tw2402996067216813426:Nat:=0
def PySem.W.Fast.tw3021534489848406982:Nat:=0
def PySem.W.Fast.tw16780334281050470754:Nat:=0
def PySem.W.Fast.tw5093944461913429341:Nat:=0
set_option maxRecDepth 100000 in
set_option maxHeartbeats 0 in
theorem PySem.Challenge.cw_fourfold_k31_whole_kin_holds : PySem.Challenge.rw_fourfold_k31_whole_kin.Holds := by
 w_on;o_law;k_head;(case hw=>w_witness2)
 k_fill
 refine Lw.walk (l:=PySem.Challenge.rw_fourfold_k31_whole_kin) rfl rfl (fun w h Y=>PySem.W.kIn_of Y) ?F
 case F =>
  intro w mg fa h KX G hmg
  refine' Lw.yE KX G hmg ?S ?z0 ?z1 ?z2 ?z3 ?z4 ?z5 ?z6 ?z7 ?z8 ?z9 ?z10 ?z11 ?z12 ?z13 ?z14 ?z15 ?z16 ?z17 ?z18 ?z19 ?z20 ?z21 ?z22 ?z23 ?z24 ?z25 ?z26 ?z27 ?z28 ?z29 ?z30 ?z31 ?z32 ?z33 ?z34 ?z35
  case S =>
   constructor
   all_goals
    refine' FF.zd KX G (fun _ _ _ _ _ _ us hl=>by first | (obtain⟨_,rfl⟩:=FF.ln1 hl;rfl) | (obtain⟨_,_,rfl⟩:=FF.ln2 hl;rfl) | (obtain⟨_,_,_,rfl⟩:=FF.ln3 hl;rfl) | (obtain⟨_,_,_,_,rfl⟩:=FF.ln4 hl;rfl) | (obtain⟨_,_,_,_,_,rfl⟩:=FF.ln5 hl;rfl) | (cases List.length_eq_zero_iff.mp hl;rfl)) ?a ?l ?c ?k
    (case a=>k_is);(case l=>k_is);(case c=>k_is);(case k=>k_is)
  (case z0=>show _=_;k_is)
  (case z1=>show _=_;k_is)
  (case z2=>k_is)
  (case z3=>k_is)
  (case z4=>k_is)
  (case z5=>show _=_;k_is)
  (case z6=>show _=_;k_is)
  (case z7=>show _=_;k_is)
  (case z8=>show _=_;k_is)
  (case z9=>show _=_;k_is)
  (case z10=>show _=_;k_is)
  (case z11=>show _=_;k_is)
  (case z12=>show _=_;k_is)
  (case z13=>show _=_;k_is)
  (case z14=>show _=_;k_is)
  (case z15=>show _=_;k_is)
  (case z16=>show _=_;k_is)
  (case z17=>show _=_;k_is)
  (case z18=>show _=_;k_is)
  (case z19=>show _=_;k_is)
  (case z20=>show _=_;k_is)
  (case z21=>show _=_;k_is)
  (case z22=>show _=_;k_is)
  (case z23=>k_is)
  (case z24=>show _=_;k_is)
  (case z25=>k_is)
  (case z26=>show _=_;k_is)
  (case z27=>k_is)
  (case z28=>show _=_;k_is)
  (case z29=>show _=_;k_is)
  (case z30=>show _=_;k_is)
  (case z31=>k_exc)
  (case z32=>k_exc)
  (case z33=>k_exc)
  (case z34=>k_is)
  (case z35=>k_is)
end
