import PyProof.Rows.All
import Wide.All
import OpenK.AllK
import Wide.FinOn
import PyProof.EqAt
import PyProof.EqKinds
import PyProof.TupleCall
import PyProof.ExcArgsOwn
import PyProof.ExcAttrAll.ValueError
import PyProof.IsiH_tuple
import PyProof.Rows.TopTwo
import PyProof.ExcBaseAll.ValueError
import PyProof.RulesAs
import PyProof.RulesDel
import PyProof.Rows.Catch
import PyProof.WalkInts
import PyProof.SumWalkG
import PyProof.Rows.TupAssign
import PyProof.NeKinds
import PyProof.FactsAll.tuple_1
import PyProof.FactsAll.tuple_2
import PyProof.FactsAll.tuple_3
import PyProof.ZipIter
import PyProof.Rows.ZipGen
import PyProof.Draws
import PyProof.EnumMake
import PyProof.LayNew
import OpenK.KTop
import PyProof.DictWalks
import PyProof.ListRange
import Lean
import PySem.Challenge.RW_fourfold_k70_whole_changes
noncomputable section
set_option Elab.async false
set_option linter.all false
set_option maxRecDepth 100000
namespace L2
open PySem PySem.Spec PyProof.Rows
abbrev Key:=Sum Int Str
def keyIs:Key→Value→Bool
  | .inl k,v=>Value.isInt k v
  | .inr x,v=>Value.isStrOf x v
def keyH (w:World):Key→Int
  | .inl k=>hashInt k
  | .inr x=>hashStr w x
theorem bh:∀ {k:Key} {v:Value},keyIs k v=true→(∃ i t,k=Sum.inl i∧v=Value.int i t)∨(∃ x t,k=Sum.inr x∧v=Value.str x t)
  | .inl i,v,h=>by
    obtain ⟨t,e⟩:=Value.isInt_shape (k:=i) (v:=v) h
    exact .inl ⟨i,t,rfl,e⟩
  | .inr x,v,h=>by
    obtain ⟨t,e⟩:=Value.isStrOf_shape (x:=x) (v:=v) h
    exact .inr ⟨x,t,rfl,e⟩
theorem uE (a b:Int):decide ((Sum.inl a:Key)=Sum.inl b)=(a==b):=by
  by_cases e:a=b
  · subst e; simp
  · have h:¬ (Sum.inl a:Key)=Sum.inl b:=fun q=>e (Sum.inl.inj q)
    rw [decide_eq_false h]
    exact (beq_eq_false_iff_ne.mpr e).symm
theorem uF (a b:Str):decide ((Sum.inr a:Key)=Sum.inr b)=decide (a=b):=by
  by_cases e:a=b
  · subst e; simp
  · have h:¬ (Sum.inr a:Key)=Sum.inr b:=fun q=>e (Sum.inr.inj q)
    rw [decide_eq_false h,decide_eq_false e]
theorem uG (a:Int) (b:Str):decide ((Sum.inl a:Key)=Sum.inr b)=false:=decide_eq_false (fun q=>nomatch q)
theorem uH (a:Str) (b:Int):decide ((Sum.inr a:Key)=Sum.inl b)=false:=decide_eq_false (fun q=>nomatch q)
def mixKind (prog:Program) (w:World):PySem.KeyKind prog w Key where
  is:=keyIs
  hash:=keyH w
  inj:=fun v a b ha hb=>by
    rcases bh ha with ⟨i,t,rfl,rfl⟩ | ⟨x,t,rfl,rfl⟩
    · rcases bh hb with ⟨j,u,rfl,e⟩ | ⟨y,u,rfl,e⟩
      · injection e with e1 _; rw [e1]
      · exact nomatch e
    · rcases bh hb with ⟨j,u,rfl,e⟩ | ⟨y,u,rfl,e⟩
      · exact nomatch e
      · injection e with e1 _; rw [e1]
  byValue:=fun k v h=>by
    rcases bh h with ⟨i,t,rfl,rfl⟩ | ⟨x,t,rfl,rfl⟩<;>rfl
  pyHash:=fun hv h=>by
    rcases bh hv with ⟨i,t,rfl,rfl⟩ | ⟨x,t,rfl,rfl⟩
    · exact wpAny_pyHash_int h
    · exact wpAny_pyHash_str h
  eqBool:=fun hu hv h=>by
    rcases bh hu with ⟨i,t,rfl,rfl⟩ | ⟨x,t,rfl,rfl⟩
    · rcases bh hv with ⟨j,u,rfl,rfl⟩ | ⟨y,u,rfl,rfl⟩
      · rw [uE] at h; exact wpAny_eqBool_int h
      · rw [uG] at h; exact SeqAt.EqAt.int_str i t y u _ _ _ _ h
    · rcases bh hv with ⟨j,u,rfl,rfl⟩ | ⟨y,u,rfl,rfl⟩
      · rw [uH] at h; exact SeqAt.EqAt.str_int x t j u _ _ _ _ h
      · rw [uF] at h; exact wpAny_eqBool_str h
  «strs»:=fun k x t v h=>by
    rcases bh h with ⟨i,u,rfl,e⟩ | ⟨y,u,rfl,e⟩
    · exact nomatch e
    · injection e with e1 _
      subst e1
      cases v<;>rfl
end L2
namespace L2
open PySem PySem.Spec PyProof.Rows
inductive V where
  | non | bl (b:Bool) | int (i:Int) | str (x:Str) | byt (b:Array UInt8) | flt (b:UInt64) | ref (a:Addr) | ty (n:String)
  deriving DecidableEq
def RelV:V→Value→Prop
  | .non,u=>u=Value.none
  | .bl b,u=>u=Value.bool b
  | .int i,u=>∃ t,u=Value.int i t
  | .str x,u=>∃ t,u=Value.str x t
  | .byt b,u=>∃ t,u=Value.bytes b t
  | .flt b,u=>∃ t,u=Value.float b t
  | .ref a,u=>u=Value.ref a
  | .ty n,u=>u=Value.type n
abbrev Vals:List V→List Value→Prop:=Paired RelV
theorem Vals.length {xs:List V} {us:List Value} (r:Vals xs us):xs.length=us.length:=Paired.length r
theorem Vals.get:∀ {xs:List V} {us:List Value} {i:Nat} {x:V},Vals xs us→xs[i]?=some x→∃ u,us[i]?=some u∧RelV x u
  | _,_,_,_,.nil,e=>by simp at e
  | _,_,0,_,.cons r _,e=>by simp at e; subst e; exact ⟨_,rfl,r⟩
  | _,_,i+1,x,.cons _ t,e=>by
    obtain ⟨u,h1,h2⟩:=Vals.get (i:=i) (x:=x) t (by simpa using e)
    exact ⟨u,by simpa using h1,h2⟩
theorem Vals.append:∀ {xs ys:List V} {us ws:List Value},Vals xs us→Vals ys ws→Vals (xs++ys) (us++ws)
  | _,_,_,_,.nil,s=>s
  | _,_,_,_,.cons r t,s=>.cons r (Vals.append t s)
theorem Vals.take:∀ {xs:List V} {us:List Value} (n:Nat),Vals xs us→Vals (xs.take n) (us.take n)
  | _,_,0,_=>.nil
  | _,_,_+1,.nil=>.nil
  | _,_,n+1,.cons r t=>.cons r (Vals.take n t)
theorem Vals.drop:∀ {xs:List V} {us:List Value} (n:Nat),Vals xs us→Vals (xs.drop n) (us.drop n)
  | _,_,0,r=>r
  | _,_,_+1,.nil=>.nil
  | _,_,n+1,.cons _ t=>Vals.drop n t
theorem Vals.none_of:∀ {xs:List V} {us:List Value} {i:Nat},Vals xs us→xs[i]?=none→us[i]?=none:=fun {xs us i} r e=>by
  have h1:=r.length
  have h2:xs.length≤i:=List.getElem?_eq_none_iff.mp e
  exact List.getElem?_eq_none_iff.mpr (by omega)
def RelO:Option V→Option Value→Prop
  | some v,some u=>RelV v u
  | none,none=>True
  | _,_=>False
def KV {κ:Type}:List (κ×V)→List (κ×Value)→Prop:=Paired fun (p:κ×V) (q:κ×Value)=>p.1=q.1∧RelV p.2 q.2
def kV:Key→V
  | .inl i=>.int i
  | .inr x=>.str x
inductive HO where
  | lst (xs:List V)
  | tup (xs:List V)
  | dK (kvs:List (Key×V)) | dT (kvs:List (List Key×V))
  | set (S:Int→Bool) (n:Nat)
  | ins (C dx:Addr) (fs:List (Str×V))
  | own (x:Addr)
  | xd (fs:List (Str×V))
  | met (f x:Addr)
  | rng (lo hi:Int)
  | frz (o:Obj) (u:HO)
  | tbl (ps:Array Value)
  | ext (φ:Heap→Prop)
abbrev Hp:=Addr→Option HO
def upd (H:Hp) (a:Addr) (o:HO):Hp:=fun b=>if b=a then some o else H b
theorem ar {H:Hp} {a:Addr} {o:HO}:upd H a o a=some o:=by unfold upd; rw [if_pos rfl]
theorem aq {H:Hp} {a b:Addr} {o:HO} (h:b≠a):upd H a o b=H b:=by unfold upd; rw [if_neg h]
theorem iY {H:Hp} {a:Addr} {o u:HO}:upd (upd H a o) a u=upd H a u:=by
  funext b; unfold upd; split<;>rfl
theorem cr {H:Hp} {a b:Addr} {o:HO} (h:H a=some o) (h':H b=none):a≠b:=by
  intro e; subst e; rw [h] at h'; cases h'
section
variable (P:Program) (w:World)
def ObjOk (H:Hp) (h:Heap) (a:Addr):HO→Prop
  | .lst xs=>xs.length≤sizeLine∧∃ (its:List Value) (n:Nat),Vals xs its∧h.get? a=some { cls:=.type "list",data:=.seq its.toArray n }
  | .tup xs=>xs.length≤sizeLine∧∃ its:List Value,Vals xs its∧IsTup h a its.toArray
  | .dK kvs=>kvs.length≤sizeLine∧(a==sysModules)=false∧∃ vs,KV kvs vs∧h.DictOf (mixKind P w) a vs
  | .dT kvs=>kvs.length≤sizeLine∧(a==sysModules)=false∧∃ xs:List (List Key×Addr×Value),
      Paired (fun (p:List Key×V) (q:List Key×Addr×Value)=>p.1=q.1∧H q.2.1=some (.tup (p.1.map kV))∧RelV p.2 q.2.2) kvs xs ∧
      ∃ o es ep,h.get? a=some o∧o.ExactDict∧o.data=.dict es ep∧es.toList=xs.map (entryOfKey (tupleKind (mixKind P w)))∧(xs.map (·.1)).Nodup
  | .set S n=>h.SetOf (intKind P w) a S n
  | .ins C dx fs=>H dx=some (.own a)∧fs.length≤1000∧dx≠a∧h.get? a=some (PySem.W.instObj C dx) ∧
      ∃ mA,h.Ns1 dx mA∧(∀ f,RelO (fs.lookup f) (mA f))∧PySem.Within mA (fs.map (·.1))
  | .own _=>∃ o,h.get? a=some o
  | .xd fs=>∃ mA,h.Ns1 a mA∧∀ f,RelO (fs.lookup f) (mA f)
  | .rng lo hi=>∃ t u v,h.get? a=some { cls:=.type "range",data:=.fields #[.int lo t,.int hi u,.int 1 v] }
  | .frz o u=>h.get? a=some o∧ObjOk H h a u
  | .tbl ps=>h.get? a=some { cls:=.none,data:=.fields ps }
  | .met f x=>h.get? a=some (PySem.W.methodObj (.ref f) (.ref x))
  | .ext φ=>φ h∧(∃ o,h.get? a=some o)∧∀ h1 h2:Heap,φ h1→(∀ o,h1.get? a=some o→h2.get? a=some o)→φ h2
def HOk (H:Hp) (h:Heap):Prop:=∀ a o,H a=some o→ObjOk P w H h a o
end
section
variable {P:Program} {w:World} {H H':Hp} {h h':Heap} {a:Addr} {o:HO}
theorem ObjOk.lt (x:ObjOk P w H h a o):a < h.objs.size:=by
  cases o with
  | lst xs=>obtain ⟨_,_,_,_,e⟩:=x; exact Heap.lt_size e
  | tup xs=>obtain ⟨_,_,_,p⟩:=x; exact p.lt
  | dK kvs=>obtain ⟨_,_,_,_,o,_,_,e,_⟩:=x; exact Heap.lt_size e
  | dT kvs=>obtain ⟨_,_,_,_,o,_,_,e,_⟩:=x; exact Heap.lt_size e
  | set S n=>obtain ⟨o,_,_,_,e,_⟩:=x; exact Heap.lt_size e
  | ins C dx fs=>obtain ⟨_,_,_,e,_⟩:=x; exact Heap.lt_size e
  | own y=>obtain ⟨_,e⟩:=x; exact Heap.lt_size e
  | xd fs=>obtain ⟨_,⟨_,_,_,e,_⟩,_⟩:=x; exact Heap.lt_size e
  | rng lo hi=>obtain ⟨_,_,_,e⟩:=x; exact Heap.lt_size e
  | frz ob u=>obtain ⟨e,_⟩:=x; exact Heap.lt_size e
  | tbl ps=>exact Heap.lt_size (show h.get? a=some _ from x)
  | met f y=>exact Heap.lt_size (show h.get? a=some _ from x)
  | ext φ=>obtain ⟨_,⟨_,e⟩,_⟩:=x; exact Heap.lt_size e
theorem Paired.mapP {α β:Type} {F G:α→β→Prop}:∀ {l₁:List α} {l₂:List β},Paired F l₁ l₂→(∀ a b,F a b→G a b)→Paired G l₁ l₂
  | _,_,.nil,_=>.nil
  | _,_,.cons r t,f=>.cons (f _ _ r) (Paired.mapP t f)
theorem ObjOk.stay (x:ObjOk P w H h a o) (k:∀ b u,(b=a∨H b=some (.own a))→h.get? b=some u→h'.get? b=some u)
    (ho:∀ b,H b=some (.own a)→H' b=some (.own a)) (ht:∀ b xs,H b=some (.tup xs)→H' b=some (.tup xs)):ObjOk P w H' h' a o:=by
  induction o with
  | lst xs=>obtain ⟨z,its,n,r,e⟩:=x; exact ⟨z,its,n,r,k _ _ (.inl rfl) e⟩
  | tup xs=>obtain ⟨z,its,r,ob,e,c⟩:=x; exact ⟨z,its,r,ob,k _ _ (.inl rfl) e,c⟩
  | dK kvs=>obtain ⟨z,y,vs,r,ob,es,ep,e,c⟩:=x; exact ⟨z,y,vs,r,ob,es,ep,k _ _ (.inl rfl) e,c⟩
  | dT kvs =>
    obtain ⟨z,y,xs,r,ob,es,ep,e,c⟩:=x
    exact ⟨z,y,xs,Paired.mapP r fun p q z=>⟨z.1,ht _ _ z.2.1,z.2.2⟩,ob,es,ep,k _ _ (.inl rfl) e,c⟩
  | set S n=>obtain ⟨ob,es,ep,t,e,c⟩:=x; exact ⟨ob,es,ep,t,k _ _ (.inl rfl) e,c⟩
  | ins C dx fs =>
    obtain ⟨d,z,ne,e,mA,⟨od,es,ep,e2,c⟩,r⟩:=x
    exact ⟨ho _ d,z,ne,k _ _ (.inl rfl) e,mA,⟨od,es,ep,k _ _ (.inr d) e2,c⟩,r⟩
  | own y=>obtain ⟨ob,e⟩:=x; exact ⟨ob,k _ _ (.inl rfl) e⟩
  | xd fs=>obtain ⟨mA,⟨od,es,ep,e,c⟩,r⟩:=x; exact ⟨mA,⟨od,es,ep,k _ _ (.inl rfl) e,c⟩,r⟩
  | rng lo hi=>obtain ⟨t,u,v,e⟩:=x; exact ⟨t,u,v,k _ _ (.inl rfl) e⟩
  | frz ob u ih=>obtain ⟨e,q⟩:=x; exact ⟨k _ _ (.inl rfl) e,ih q⟩
  | tbl ps =>
    have e:h.get? a=some { cls:=.none,data:=.fields ps }:=x
    show h'.get? a=some { cls:=.none,data:=.fields ps }
    exact k a _ (.inl rfl) e
  | met f y =>
    have e:h.get? a=some (PySem.W.methodObj (.ref f) (.ref y)):=x
    show h'.get? a=some (PySem.W.methodObj (.ref f) (.ref y))
    exact k a _ (.inl rfl) e
  | ext φ=>obtain ⟨p,⟨o,e⟩,st⟩:=x; exact ⟨st _ _ p fun o q=>k _ _ (.inl rfl) q,⟨o,k _ _ (.inl rfl) e⟩,st⟩
theorem HOk.lt (x:HOk P w H h) (e:H a=some o):a < h.objs.size:=(x a o e).lt
theorem HOk.fresh (x:HOk P w H h) (e:h.objs.size≤a):H a=none:=by
  cases q:H a with
  | none=>rfl
  | some u=>exact absurd (Nat.lt_of_lt_of_le (x.lt q) e) (Nat.lt_irrefl _)
theorem HOk.kept (x:HOk P w H h) (k:∀ b u,h.get? b=some u→h'.get? b=some u):HOk P w H h':=fun a o e =>
  (x a o e).stay (fun b u _ q=>k b u q) (fun _ q=>q) fun _ _ q=>q
theorem HOk.laid (x:HOk P w H h) (k:∀ b u,h.get? b=some u→h'.get? b=some u) (hp:h.objs.size≤a) (new:ObjOk P w (upd H a o) h' a o):HOk P w (upd H a o) h':=fun b u e=>by
  have hn:=x.fresh hp
  by_cases hb:b=a
  · subst hb; rw [ar] at e; cases e; exact new
  · rw [aq hb] at e
    exact (x b u e).stay (fun c v _ q=>k c v q) (fun c q=>by rw [aq (cr q hn)]; exact q) fun c xs q=>by rw [aq (cr q hn)]; exact q
end
def Rd (H:Hp) (a:Addr) (u:HO):Prop:=H a=some u∨∃ o,H a=some (.frz o u)
theorem Rd.ok {P:Program} {w:World} {H:Hp} {h:Heap} {a:Addr} {u:HO} (r:Rd H a u) (x:HOk P w H h):ObjOk P w H h a u:=by
  rcases r with r | ⟨o,r⟩
  · exact x a u r
  · obtain ⟨_,q⟩:=x a _ r
    exact q
def Mut:Option HO→Prop
  | some (.lst _)=>True
  | some (.dK _)=>True
  | some (.dT _)=>True
  | some (.set _ _)=>True
  | some (.ins _ _ _)=>True
  | some (.ext _)=>True
  | _=>False
section
variable {P:Program} {w:World} {H:Hp} {h h':Heap} {x e:Addr} {o':HO}
theorem HOk.write (ok:HOk P w H h) (mu:Mut (H x)) (he:e=x∨H e=some (.own x)) (k:∀ b u,b≠e→h.get? b=some u→h'.get? b=some u) (heo:∃ u,h'.get? e=some u)
    (new:ObjOk P w (upd H x o') h' x o'):HOk P w (upd H x o') h':=fun b u q=>by
  have nown:∀ c y,H c=some (.own y)→c≠x:=fun c y r z=>by subst z; rw [r] at mu; exact mu
  have ntup:∀ c xs,H c=some (.tup xs)→c≠x:=fun c xs r z=>by subst z; rw [r] at mu; exact mu
  by_cases hb:b=x
  · subst hb; rw [ar] at q; cases q; exact new
  · rw [aq hb] at q
    by_cases hbe:b=e
    · have q':H b=some (.own x):=by
        rcases he with z | z
        · exact absurd (hbe.trans z) hb
        · rw [hbe]; exact z
      rw [q] at q'; cases q'
      obtain ⟨v,hv⟩:=heo
      exact ⟨v,by rw [hbe]; exact hv⟩
    · refine (ok b u q).stay (fun c v hc r=>k c v ?_ r) (fun c r=>by rw [aq (nown c b r)]; exact r) fun c xs r=>by rw [aq (ntup c xs r)]; exact r
      rcases hc with rfl | hc
      · exact hbe
      · rintro rfl
        rcases he with z | z
        · exact nown c b hc z
        · rw [hc] at z; cases z; exact hb rfl
end
structure Un (fs ex:List Addr) (H H':Hp) (h h':Heap):Prop where
  keep:∀ b o,h.get? b=some o→H b=none→b∉fs→b∉ex→h'.get? b=some o
  slot:∀ b o,h.get? b=some o→H b=none→b∈fs→b∉ex→∃ sl,h'.get? b=some { o with slots:=sl }
  free:∀ b o,h.get? b=some o→H b=none→b∉ex→H' b=none
  there:∀ b o,h.get? b=some o→b∉ex→∃ o',h'.get? b=some o'
  tups:∀ b xs,H b=some (.tup xs)→H' b=some (.tup xs)
  frzs:∀ b o u,H b=some (.frz o u)→H' b=some (.frz o u)
  tbls:∀ b ps,H b=some (.tbl ps)→∃ more,H' b=some (.tbl (ps++more))
section
variable {fs fs' ex ex':List Addr} {H H1 H2:Hp} {h h1 h2 h':Heap} {a x e:Addr} {o:HO}
theorem Un.any (u:Un fs ex H H1 h h1) {b:Addr} {ob:Obj} (q:h.get? b=some ob) (n:H b=none) (hx:b∉ex):∃ sl,h1.get? b=some { ob with slots:=sl }:=by
  by_cases hb:b∈fs
  · exact u.slot b ob q n hb hx
  · exact ⟨ob.slots,u.keep b ob q n hb hx⟩
theorem Un.trans (a:Un fs ex H H1 h h1) (b:Un fs ex H1 H2 h1 h2):Un fs ex H H2 h h2 where
  keep:=fun c ob q n hc hx=>b.keep c ob (a.keep c ob q n hc hx) (a.free c ob q n hx) hc hx
  slot:=fun c ob q n hc hx=>by
    obtain ⟨sl,e1⟩:=a.slot c ob q n hc hx
    obtain ⟨sl',e2⟩:=b.slot c _ e1 (a.free c ob q n hx) hc hx
    exact ⟨sl',e2⟩
  free:=fun c ob q n hx=>by
    obtain ⟨o',e1⟩:=a.there c ob q hx
    exact b.free c o' e1 (a.free c ob q n hx) hx
  there:=fun c ob q hx=>by
    obtain ⟨o',e1⟩:=a.there c ob q hx
    exact b.there c o' e1 hx
  tups:=fun c xs q=>b.tups c xs (a.tups c xs q)
  frzs:=fun c ob xs q=>b.frzs c ob xs (a.frzs c ob xs q)
  tbls:=fun c ps q=>by
    obtain ⟨m1,e1⟩:=a.tbls c ps q
    obtain ⟨m2,e2⟩:=b.tbls c _ e1
    exact ⟨m1++m2,by rw [e2,Array.append_assoc]⟩
theorem Un.kept (k:∀ b u,h.get? b=some u→h'.get? b=some u):Un fs ex H H h h' :=
  ⟨fun b ob q _ _ _=>k b ob q,fun b ob q _ _ _=>⟨ob.slots,k b ob q⟩,fun _ _ _ n _=>n,fun b ob q _=>⟨ob,k b ob q⟩,fun _ _ q=>q,fun _ _ _ q=>q,fun _ ps q=>⟨#[],by rw [q]; simp⟩⟩
theorem Un.refl:Un fs ex H H h h:=Un.kept fun _ _ q=>q
theorem Un.laid (k:∀ b u,h.get? b=some u→h'.get? b=some u) (hp:h.objs.size≤a) (hn:H a=none):Un fs ex H (upd H a o) h h' where
  keep:=fun b u q _ _ _=>k b u q
  slot:=fun b u q _ _ _=>⟨u.slots,k b u q⟩
  free:=fun b u q n _=>by rw [aq (Nat.ne_of_lt (Nat.lt_of_lt_of_le (Heap.lt_size q) hp))]; exact n
  there:=fun b u q _=>⟨u,k b u q⟩
  tups:=fun b xs q=>by rw [aq (cr q hn)]; exact q
  frzs:=fun b u xs q=>by rw [aq (cr q hn)]; exact q
  tbls:=fun b ps q=>⟨#[],by rw [aq (cr q hn),q]; simp⟩
theorem Un.write (mu:Mut (H x)) (he:e=x∨H e=some (.own x)) (k:∀ b u,b≠e→h.get? b=some u→h'.get? b=some u) (heo:∃ u,h'.get? e=some u):Un fs ex H (upd H x o) h h':=by
  have hx:∀ b,H b=none→b≠x:=fun b n z=>by subst z; rw [n] at mu; exact mu
  have hb:∀ b,H b=none→b≠e:=fun b n z=>by
    subst z
    rcases he with r | r
    · exact hx b n r
    · rw [n] at r; cases r
  have hm:∀ b u,H b=some u→¬ Mut (some u)→b≠x:=fun b u q nm z=>by subst z; rw [q] at mu; exact nm mu
  refine ⟨fun b u q n _ _=>k b u (hb b n) q,fun b u q n _ _=>⟨u.slots,k b u (hb b n) q⟩,fun b u q n _=>by rw [aq (hx b n)]; exact n,fun b u q _=>?_,
    fun b xs q=>by rw [aq (hm b _ q fun z=>z)]; exact q,fun b u xs q=>by rw [aq (hm b _ q fun z=>z)]; exact q,fun b ps q=>⟨#[],by rw [aq (hm b _ q fun z=>z),q]; simp⟩⟩
  by_cases hbe:b=e
  · subst hbe; exact heo
  · exact ⟨u,k b u hbe q⟩
end
def trk (h:Heap) (H:Hp):List Addr:=(List.range h.objs.size).filter fun a=>(H a).isSome
def hidT (h:Heap) (H:Hp):Heap:=PySem.W.hideAll h (trk h H)
theorem oY (h:Heap) (H:Hp):(hidT h H).objs.size=h.objs.size:=PySem.W.hideAll_size _ _
theorem qw {h:Heap} {H:Hp} {b:Addr} {o:Obj} (e:h.get? b=some o) (n:H b=none):(hidT h H).get? b=some o :=
  PySem.W.hideAll_get _ e fun hm=>by
    have q:(H b).isSome=true:=(List.mem_filter.mp hm).2
    rw [n] at q; simp at q
theorem sB {h:Heap} {H:Hp} {b:Addr} {o:Obj} (e:(hidT h H).get? b=some o):h.get? b=some o∧H b=none:=by
  have e':h.get? b=some o:=PySem.W.of_hideAll (trk h H) e
  refine ⟨e',?_⟩
  cases q:H b with
  | none=>rfl
  | some x =>
    have hm:b∈trk h H:=List.mem_filter.mpr ⟨List.mem_range.mpr (Heap.lt_size e'),by simp [q]⟩
    have z:(hidT h H).get? b=none:=PySem.W.hideAll_none (trk h H) hm
    rw [z] at e; cases e
def allNews (g h:Heap) (L:Addr):List (Addr×Obj):=(List.range h.objs.size).filterMap fun a=>if a=L∨(g.get? a).isSome=true then none else (h.get? a).map fun o=>(a,o)
def rest (g h:Heap) (L d:Addr):List (Addr×Obj):=(allNews g h L).filter fun p=>decide (p.1≠d)
end L2
namespace L2
open PySem PySem.Spec PyProof.Rows
structure Mod (K:PySem.W.Frag) (mg:Str→Option Value) (base:Heap):Prop where
  kin:K.In base
  glob:base.Ns mainGlobals mg
  blt:∃ mb,base.Ns builtinsNs mb∧∀ x:Str,x ≠ "__name__" → mb x=bootBuiltins x
  nolimit:base.NoLimit
structure Cx where
  prog:Program
  w:World
  K:PySem.W.Frag
  mg:Str→Option Value
  base:Heap
  A:Around
  N:List Str
  s₀:Shared
  H₀:Hp
  env:Env
  outer:List Env
  stack:List Env
  ex:List Addr
  fn:Str→Bool
  calm:Bool
  pn:List (Addr×Obj)
  xe:Value→Shared→Prop
def frs (l:List Env):List Addr:=l.filterMap (·.frame)
abbrev Cx.fs (X:Cx):List Addr:=frs X.outer
def Vis (sc:Scope) (x:Str):Prop:=sc.names.lookup x=some .local∨sc.names.lookup x=some .cell∨sc.names.lookup x=some .free
def Loc (sc:Scope) (x:Str):Prop:=sc.names.lookup x=some .local∨sc.names.lookup x=some .cell
def Look (env:Env) (h:Heap) (m:Str→Option Value) (x:Str) (u:Value):Prop :=
  (env.kindOf x=some .local∧m x=some u)∨((env.kindOf x=some .cell∨env.kindOf x=some .free)∧∃ c,env.cells.lookup x=some c∧h.IsCell c (some u))
structure Cx.Ok (X:Cx):Prop where
  mod:Mod X.K X.mg X.base
  kind:X.env.scope.kind=.function
  glob:X.env.globals=mainGlobals
  blt:X.env.builtins=builtinsNs
  above:X.s₀.heap.objs.size≤X.env.locals
  inj:∀ x y c,X.env.cells.lookup x=some c→X.env.cells.lookup y=some c→x=y
  has:∀ x,(X.env.kindOf x=some .cell∨X.env.kindOf x=some .free)→∃ c,X.env.cells.lookup x=some c
  cab:∀ x c,X.fn x=true→X.env.cells.lookup x=some c→X.s₀.heap.objs.size≤c
  hd:X.calm=true→X.A.handled=none
  frames:X.A.frames=some X.stack
  stk:X.stack=X.outer∨(X.stack=X.env::X.outer∧X.env.frame=some X.env.locals)
  exf:∀ b∈X.ex,b≠X.env.locals∧∀ x c,X.env.cells.lookup x=some c→c≠b
  bs:∀ b o,X.base.get? b=some o→X.s₀.heap.get? b=some o∧X.H₀ b=none
  bsz:X.base.objs.size≤X.s₀.heap.objs.size
  noex:∀ b o,X.base.get? b=some o→b∉X.ex
  exfs:∀ b∈X.ex,b∉X.fs
  funs:X.s₀.heap.FunFrames X.base X.outer
  frf:∀ b∈X.fs,X.H₀ b=none
structure Inv (X:Cx) (pins:List (Addr×Obj)) (σ:List (Option V)) (H:Hp) (s:Shared):Prop where
  ok:X.Ok
  os:s.os=X.s₀.os
  bare:AllBare s.gens
  base:Un X.fs X.ex X.H₀ H X.s₀.heap s.heap
  loc:∃ m,s.heap.Ns X.env.locals m∧∀ (i:Nat) (x:Str) (v:V),X.N[i]?=some x→σ[i]?=some (some v)→Vis X.env.scope x→∃ u,RelV v u∧Look X.env s.heap m x u
  cell:∀ x c,X.env.cells.lookup x=some c→∃ v,s.heap.IsCell c v
  free:H X.env.locals=none
  freeC:∀ x c,X.env.cells.lookup x=some c→H c=none
  pin:∀ p∈X.pn++pins,s.heap.get? p.1=some p.2∧H p.1=none∧p.1≠X.env.locals∧p.1∉X.fs∧∀ v,p.2.data≠.cell v
  hok:HOk X.prog X.w H s.heap
  len:σ.length=X.N.length
section
variable {X:Cx} {pins:List (Addr×Obj)} {σ:List (Option V)} {H H':Hp} {s:Shared} {h':Heap}
theorem Cx.Ok.nofr (ok:X.Ok) {b:Addr} {o:Obj} (e:X.base.get? b=some o):b∉X.fs:=fun hb=>by
  have:=(ok.funs.mem hb).1
  rw [e] at this; cases this
theorem Inv.bs (I:Inv X pins σ H s):∀ b o,X.base.get? b=some o→s.heap.get? b=some o∧H b=none:=fun b o e =>
  ⟨I.base.keep b o (I.ok.bs b o e).1 (I.ok.bs b o e).2 (I.ok.nofr e) (I.ok.noex b o e),I.base.free b o (I.ok.bs b o e).1 (I.ok.bs b o e).2 (I.ok.noex b o e)⟩
theorem Inv.bk (I:Inv X pins σ H s):∀ b o,X.base.get? b=some o→s.heap.get? b=some o:=fun b o e=>(I.bs b o e).1
theorem Inv.mod (I:Inv X pins σ H s):Mod X.K X.mg X.base:=I.ok.mod
theorem Inv.kIn (I:Inv X pins σ H s):X.K.In s.heap:=I.ok.mod.kin.keeps I.bk
theorem Inv.lt (I:Inv X pins σ H s):X.env.locals < s.heap.objs.size:=let ⟨_,hn,_⟩:=I.loc; hn.lt
theorem Inv.sz (I:Inv X pins σ H s):X.s₀.heap.objs.size≤s.heap.objs.size:=Nat.le_trans I.ok.above (Nat.le_of_lt I.lt)
theorem Inv.nofs (I:Inv X pins σ H s) {a:Addr} (h:s.heap.objs.size≤a):a∉X.fs:=fun hb=>by
  obtain ⟨_,o,ho,_⟩:=I.ok.funs.mem hb
  exact absurd (Nat.lt_of_lt_of_le (Heap.lt_size ho) (Nat.le_trans I.sz h)) (Nat.lt_irrefl _)
theorem Inv.cne (I:Inv X pins σ H s):∀ x c,X.env.cells.lookup x=some c→c≠X.env.locals:=fun x c e z=>by
  obtain ⟨v,o,ho,hd⟩:=I.cell x c e
  obtain ⟨m,⟨o',es,ep,ho',hd',_⟩,_⟩:=I.loc
  rw [z,ho'] at ho; cases ho; rw [hd'] at hd; cases hd
theorem Inv.funs (I:Inv X pins σ H s):s.heap.FunFrames X.base X.outer:=by
  have all:∀ (l:List Env),(∀ b∈frs l,b∈X.fs)→X.s₀.heap.FunFrames X.base l→s.heap.FunFrames X.base l:=by
    intro l
    induction l with
    | nil=>intro _ _; trivial
    | cons env r ih =>
      intro hs hl
      obtain ⟨hk,⟨L,o,hf,hn,ho,hd⟩,hr⟩:=hl
      have hL:L∈X.fs:=hs L (by unfold frs; rw [List.filterMap_cons,hf]; exact List.mem_cons_self)
      obtain ⟨sl,e⟩:=I.base.slot L o ho (I.ok.frf L hL) hL fun z=>I.ok.exfs L z hL
      exact ⟨hk,⟨L,_,hf,hn,e,hd⟩,ih (fun b hb=>hs b (by unfold frs; rw [List.filterMap_cons,hf]; exact List.mem_cons_of_mem _ hb)) hr⟩
  exact all X.outer (fun _ hb=>hb) I.ok.funs
theorem Inv.stack (I:Inv X pins σ H s):s.heap.FunFrames X.base X.stack:=by
  rcases I.ok.stk with e | ⟨e,hf⟩
  · rw [e]; exact I.funs
  · rw [e]
    obtain ⟨m,hn,_⟩:=I.loc
    refine .cons (by rw [I.ok.kind]; decide) hf hn ?_ I.funs
    exact Heap.get?_none_of_le (Nat.le_trans I.ok.bsz I.ok.above)
theorem Inv.stkSub (I:Inv X pins σ H s):∀ b∈frs X.stack,b∈X.env.locals::X.fs:=fun b hb=>by
  rcases I.ok.stk with e | ⟨e,hf⟩
  · rw [e] at hb; exact List.mem_cons_of_mem _ hb
  · rw [e] at hb
    unfold frs at hb
    rw [List.filterMap_cons,hf] at hb
    exact hb
theorem Inv.stkFree (I:Inv X pins σ H s):∀ b∈frs X.stack,H b=none:=fun b hb=>by
  rcases List.mem_cons.mp (I.stkSub b hb) with e | hb
  · rw [e]; exact I.free
  · obtain ⟨_,o,ho,_⟩:=I.ok.funs.mem hb
    exact I.base.free b o ho (I.ok.frf b hb) fun z=>I.ok.exfs b z hb
theorem Inv.step {g':Array GenState} {t':Nat} {d':Drawn} {ch:List Addr} (I:Inv X pins σ H s)
    (hch:∀ b∈ch,(b∈X.ex∨X.s₀.heap.objs.size≤b)∧b≠X.env.locals∧(∀ x c,X.env.cells.lookup x=some c→c≠b)∧∀ p∈X.pn++pins,p.1≠b)
    (keep:∀ b o,b≠X.env.locals→b∉X.fs→b∉ch→s.heap.get? b=some o→H b=none→h'.get? b=some o)
    (slot:∀ b o,b≠X.env.locals→b∈X.fs→b∉ch→s.heap.get? b=some o→H b=none→∃ sl,h'.get? b=some { o with slots:=sl }) (free:∀ b o,b∉ch→s.heap.get? b=some o→H b=none→H' b=none)
    (there:∀ b o,b∉ch→s.heap.get? b=some o→∃ o',h'.get? b=some o')
    (tups:∀ b xs,H b=some (.tup xs)→H' b=some (.tup xs)) (frzs:∀ b o u,H b=some (.frz o u)→H' b=some (.frz o u)) (tbls:∀ b ps,H b=some (.tbl ps)→∃ more,H' b=some (.tbl (ps++more)))
    (ns:∀ m,s.heap.Ns X.env.locals m→h'.Ns X.env.locals m) (hok:HOk X.prog X.w H' h') (hg:AllBare g') :
    Inv X pins σ H' { s with heap:=h',gens:=g',drawn:=d',toks:=t' }:=by
  have neL:∀ b o,X.s₀.heap.get? b=some o→b≠X.env.locals:=fun b o e=>Nat.ne_of_lt (Nat.lt_of_lt_of_le (Heap.lt_size e) I.ok.above)
  have neC:∀ b o,X.s₀.heap.get? b=some o→b∉X.ex→b∉ch:=fun b o e hx hb=>by
    rcases (hch b hb).1 with z | z
    · exact hx z
    · exact absurd (Nat.lt_of_lt_of_le (Heap.lt_size e) z) (Nat.lt_irrefl _)
  have cellK:∀ x c,X.env.cells.lookup x=some c→∀ v,s.heap.IsCell c v→h'.IsCell c v:=fun x c e v ⟨o,ho,hd⟩=>by
    have nch:c∉ch:=fun z=>(hch c z).2.2.1 x c e rfl
    by_cases hc:c∈X.fs
    · obtain ⟨sl,q⟩:=slot c o (I.cne x c e) hc nch ho (I.freeC x c e)
      exact ⟨_,q,hd⟩
    · exact ⟨o,keep c o (I.cne x c e) hc nch ho (I.freeC x c e),hd⟩
  refine ⟨I.ok,I.os,hg,⟨fun b o e n hb hx=>?_,fun b o e n hb hx=>?_,fun b o e n hx=>?_,fun b o e hx=>?_,fun b xs e=>tups b xs (I.base.tups b xs e),fun b o xs e=>frzs b o xs (I.base.frzs b o xs e),fun b ps e=>?_⟩,?_,fun x c e=>?_,?_,fun x c e=>?_,fun p hp=>?_,hok,I.len⟩
  · exact keep b o (neL b o e) hb (neC b o e hx) (I.base.keep b o e n hb hx) (I.base.free b o e n hx)
  · obtain ⟨sl,e1⟩:=I.base.slot b o e n hb hx
    obtain ⟨sl',e2⟩:=slot b _ (neL b o e) hb (neC b o e hx) e1 (I.base.free b o e n hx)
    exact ⟨sl',e2⟩
  · obtain ⟨o',e1⟩:=I.base.there b o e hx
    exact free b o' (neC b o e hx) e1 (I.base.free b o e n hx)
  · obtain ⟨o',e1⟩:=I.base.there b o e hx
    exact there b o' (neC b o e hx) e1
  · obtain ⟨m1,e1⟩:=I.base.tbls b ps e
    obtain ⟨m2,e2⟩:=tbls b _ e1
    exact ⟨m1++m2,by rw [e2,Array.append_assoc]⟩
  · obtain ⟨m,hn,hl⟩:=I.loc
    refine ⟨m,ns m hn,fun i x v e1 e2 e3=>?_⟩
    obtain ⟨u,r,l⟩:=hl i x v e1 e2 e3
    refine ⟨u,r,?_⟩
    rcases l with l | ⟨k,c,e,z⟩
    · exact .inl l
    · exact .inr ⟨k,c,e,cellK x c e _ z⟩
  · obtain ⟨v,z⟩:=I.cell x c e
    exact ⟨v,cellK x c e v z⟩
  · obtain ⟨m,⟨o,_,_,ho,_⟩,_⟩:=I.loc
    exact free _ o (fun z=>(hch _ z).2.1 rfl) ho I.free
  · obtain ⟨v,o,ho,hd⟩:=I.cell x c e
    exact free c o (fun z=>(hch c z).2.2.1 x c e rfl) ho (I.freeC x c e)
  · obtain ⟨e,n,ne,nf,d⟩:=I.pin p hp
    have nch:p.1∉ch:=fun z=>(hch p.1 z).2.2.2 p hp rfl
    exact ⟨keep p.1 p.2 ne nf nch e n,free p.1 p.2 nch e n,ne,nf,d⟩
theorem Inv.un {t':Nat} (I:Inv X pins σ H s) (u:Un X.fs [] H H' s.heap h') (hok:HOk X.prog X.w H' h'):Inv X pins σ H' { s with heap:=h',toks:=t' }:=by
  obtain ⟨m,⟨o,es,ep,ho,r⟩,_⟩:=id I.loc
  obtain ⟨sl,hL⟩:=u.any ho I.free (by simp)
  exact I.step (g':=s.gens) (d':=s.drawn) (ch:=[]) (fun _ z=>nomatch z) (fun b o _ hb _ e n=>u.keep b o e n hb (by simp)) (fun b o _ hb _ e n=>u.slot b o e n hb (by simp)) (fun b o _ e n=>u.free b o e n (by simp)) (fun b o _ e=>u.there b o e (by simp)) u.tups u.frzs u.tbls (fun m' hm=>by
    obtain ⟨o',es',ep',ho',r'⟩:=hm
    rw [ho] at ho'; cases ho'
    exact ⟨_,es',ep',hL,r'⟩) hok I.bare
theorem Inv.call {g':Array GenState} {t':Nat} {d':Drawn} {ch:List Addr} (I:Inv X pins σ H s) (u:Un (frs X.stack) ch H H' s.heap h') (hok:HOk X.prog X.w H' h') (hg:AllBare g')
    (hch:∀ b∈ch,(b∈X.ex∨X.s₀.heap.objs.size≤b)∧b≠X.env.locals∧(∀ x c,X.env.cells.lookup x=some c→c≠b)∧∀ p∈X.pn++pins,p.1≠b) :
    Inv X pins σ H' { s with heap:=h',gens:=g',drawn:=d',toks:=t' }:=by
  obtain ⟨m,⟨o,es,ep,ho,r⟩,_⟩:=id I.loc
  obtain ⟨sl,hL⟩:=u.any ho I.free fun z=>(hch _ z).2.1 rfl
  exact I.step (ch:=ch) hch (fun b o hL hb hc e n=>u.keep b o e n (fun z=>(List.mem_cons.mp (I.stkSub b z)).elim hL hb) hc) (fun b o _ _ hc e n=>u.any e n hc) (fun b o hc e n=>u.free b o e n hc) (fun b o hc e=>u.there b o e hc) u.tups u.frzs u.tbls (fun m' hm=>by
    obtain ⟨o',es',ep',ho',r'⟩:=hm
    rw [ho] at ho'; cases ho'
    exact ⟨_,es',ep',hL,r'⟩) hok hg
theorem Inv.turned {t':Nat} {it:Addr} (I:Inv X pins σ H s) (k:∀ b o,b≠it→s.heap.get? b=some o→h'.get? b=some o) (hn:H it=none) (hL:it≠X.env.locals)
    (h1:it∈X.ex∨X.s₀.heap.objs.size≤it) (h2:∀ x c,X.env.cells.lookup x=some c→c≠it) (h3:∀ p∈X.pn++pins,p.1≠it):Inv X pins σ H { s with heap:=h',toks:=t' }:=by
  have nit:∀ b u,H b=some u→b≠it:=fun b u e z=>by rw [z,hn] at e; cases e
  refine I.step (g':=s.gens) (d':=s.drawn) (ch:=[it]) (fun b hb=>?_) (fun b o _ _ hc e _=>k b o (fun z=>hc (by simp [z])) e) (fun b o _ _ hc e _=>⟨o.slots,k b o (fun z=>hc (by simp [z])) e⟩) (fun _ _ _ _ n=>n)
    (fun b o hc e=>⟨o,k b o (fun z=>hc (by simp [z])) e⟩) (fun _ _ e=>e) (fun _ _ _ e=>e) (fun b ps e=>⟨#[],by rw [e]; simp⟩) (fun m hm=>?_) (fun b u e=>?_) I.bare
  · have e:b=it:=by simpa using hb
    subst e
    exact ⟨h1,hL,h2,h3⟩
  · obtain ⟨o,es,ep,ho,r⟩:=hm
    exact ⟨o,es,ep,k _ o (Ne.symm hL) ho,r⟩
  · refine (I.hok b u e).stay (fun c v hc q=>k c v ?_ q) (fun _ q=>q) fun _ _ q=>q
    rcases hc with z | z
    · rw [z]; exact nit b u e
    · exact nit c _ z
theorem Inv.tok (I:Inv X pins σ H s) (t:Nat):Inv X pins σ H { s with toks:=t }:=I.un (h':=s.heap) (t':=t) Un.refl I.hok
theorem Inv.kept {t':Nat} (I:Inv X pins σ H s) (k:∀ b u,s.heap.get? b=some u→h'.get? b=some u):Inv X pins σ H { s with heap:=h',toks:=t' }:=I.un (Un.kept k) (I.hok.kept k)
theorem Inv.laid {a:Addr} {o:HO} {t':Nat} (I:Inv X pins σ H s) (k:∀ b u,s.heap.get? b=some u→h'.get? b=some u) (hp:s.heap.objs.size≤a) (new:ObjOk X.prog X.w (upd H a o) h' a o) :
    Inv X pins σ (upd H a o) { s with heap:=h',toks:=t' }:=I.un (Un.laid k hp (I.hok.fresh hp)) (I.hok.laid k hp new)
theorem Inv.write {x e:Addr} {o:HO} {t':Nat} (I:Inv X pins σ H s) (mu:Mut (H x)) (he:e=x∨H e=some (.own x)) (k:∀ b u,b≠e→s.heap.get? b=some u→h'.get? b=some u) (heo:∃ u,h'.get? e=some u)
    (new:ObjOk X.prog X.w (upd H x o) h' x o):Inv X pins σ (upd H x o) { s with heap:=h',toks:=t' }:=I.un (Un.write mu he k heo) (I.hok.write mu he k heo new)
theorem Inv.pins_of {pins':List (Addr×Obj)} (I:Inv X pins σ H s) (h:∀ p∈pins',s.heap.get? p.1=some p.2∧H p.1=none∧p.1≠X.env.locals∧p.1∉X.fs∧∀ v,p.2.data≠.cell v):Inv X pins' σ H s :=
  ⟨I.ok,I.os,I.bare,I.base,I.loc,I.cell,I.free,I.freeC,fun p hp=>(List.mem_append.mp hp).elim (fun z=>I.pin p (List.mem_append_left _ z)) (h p),I.hok,I.len⟩
theorem i9 {N:List Str} (hN:N.Nodup) {i j:Nat} {x:Str} (a:N[i]?=some x) (b:N[j]?=some x):i=j:=by
  obtain ⟨h1,e1⟩:=List.getElem?_eq_some_iff.mp a
  obtain ⟨h2,e2⟩:=List.getElem?_eq_some_iff.mp b
  exact (List.getElem_inj hN).mp (e1.trans e2.symm)
theorem km {M:Model} {A:Around} {E:Value→Shared→Prop} {i:Nat} {x:Str} {v:V} {u:Value} {Q:Unit→Shared→Prop} (I:Inv X pins σ H s) (hN:X.N.Nodup) (hi:X.N[i]?=some x) (hx:Loc X.env.scope x) (r:RelV v u)
    (h:∀ s',Inv X pins (σ.set i (some v)) H s'→(∃ a,Heap.SameBut a s.heap s'.heap∧(a=X.env.locals∨X.env.cells.lookup x=some a))→Q () s') (hf:X.fn x=true∨X.env.scope.names.lookup x=some .local:=by first | exact .inl rfl | exact .inr rfl | assumption):wpAny M A (storeName X.env x u) Q E s:=by
  obtain ⟨m,hn,hl⟩:=id I.loc
  have hcls:(X.env.scope.kind==.class||(X.env.scope.kind==.module&&X.env.locals != X.env.globals))=false:=by rw [I.ok.kind]; rfl
  have hiσ:i < σ.length:=by rw [I.len]; exact (List.getElem?_eq_some_iff.mp hi).1
  have cne:=I.cne
  have tracked:∀ {a:Addr} {h':Heap},(∃ o,s.heap.get? a=some o∧H a=none)→Heap.SameBut a s.heap h'→HOk X.prog X.w H h':=fun {a h'} ha hs b ob e=>by
    obtain ⟨_,_,hfree⟩:=ha
    refine (I.hok b ob e).stay (fun c w' hc q=>(hs.2 c ?_).trans q) (fun _ q=>q) fun _ _ q=>q
    rintro rfl
    rcases hc with rfl | hc
    · rw [hfree] at e; cases e
    · rw [hfree] at hc; cases hc
  rcases hx with hk | hk
  · refine wpAny_storeName_local hk hn (fun h' hn' hs=>?_) hcls
    obtain ⟨oL,_,_,hoL,_⟩:=id hn
    refine h _ ⟨I.ok,I.os,I.bare,⟨fun b o e n hb hx=>?_,fun b o e n hb hx=>?_,I.base.free,fun b o e hx=>?_,I.base.tups,I.base.frzs,I.base.tbls⟩,⟨_,hn',fun j y v' e1 e2 e3=>?_⟩,fun y c e=>?_,I.free,I.freeC,fun p hp=>?_,tracked ⟨oL,hoL,I.free⟩ hs,by simpa using I.len⟩ ⟨_,hs,.inl rfl⟩
    · exact (hs.2 b (Nat.ne_of_lt (Nat.lt_of_lt_of_le (Heap.lt_size e) I.ok.above))).trans (I.base.keep b o e n hb hx)
    · obtain ⟨sl,e1⟩:=I.base.slot b o e n hb hx
      exact ⟨sl,(hs.2 b (Nat.ne_of_lt (Nat.lt_of_lt_of_le (Heap.lt_size e) I.ok.above))).trans e1⟩
    · obtain ⟨o',e1⟩:=I.base.there b o e hx
      exact ⟨o',(hs.2 b (Nat.ne_of_lt (Nat.lt_of_lt_of_le (Heap.lt_size e) I.ok.above))).trans e1⟩
    · by_cases hj:j=i
      · subst hj
        rw [hi] at e1; cases e1
        rw [List.getElem?_set_self hiσ] at e2
        cases e2
        exact ⟨u,r,.inl ⟨hk,by simp⟩⟩
      · rw [List.getElem?_set_ne (Ne.symm hj)] at e2
        obtain ⟨u',r',q⟩:=hl j y v' e1 e2 e3
        refine ⟨u',r',?_⟩
        rcases q with ⟨k,e⟩ | ⟨k,c,e,z⟩
        · refine .inl ⟨k,?_⟩
          have:y≠x:=fun e=>hj (i9 hN e1 (e ▸ hi))
          simp [this,e]
        · exact .inr ⟨k,c,e,z.sameBut hs (cne y c e)⟩
    · obtain ⟨w',z⟩:=I.cell y c e
      exact ⟨w',z.sameBut hs (cne y c e)⟩
    · obtain ⟨e,n,ne,nf,d⟩:=I.pin p hp
      exact ⟨(hs.2 p.1 ne).trans e,n,ne,nf,d⟩
  · have hfn:X.fn x=true:=by
      rcases hf with z | z
      · exact z
      · rw [z] at hk; cases hk
    obtain ⟨c,hc⟩:=I.ok.has x (.inl hk)
    obtain ⟨w',z⟩:=I.cell x c hc
    refine wpAny_storeName_cell I.ok.kind hk hc z (fun h' hc' hs=>?_)
    obtain ⟨oc,hoc,hocd⟩:=id z
    refine h { s with heap:=h' } ⟨I.ok,I.os,I.bare,⟨fun b o e n hb hx=>?_,fun b o e n hb hx=>?_,I.base.free,fun b o e hx=>?_,I.base.tups,I.base.frzs,I.base.tbls⟩,⟨m,hn.sameBut hs (Ne.symm (cne x c hc)),fun j y v' e1 e2 e3=>?_⟩,fun y c' e=>?_,I.free,I.freeC,fun p hp=>?_,tracked ⟨oc,hoc,I.freeC x c hc⟩ hs,by simpa using I.len⟩ ⟨c,hs,.inr hc⟩
    · exact (hs.2 b (Nat.ne_of_lt (Nat.lt_of_lt_of_le (Heap.lt_size e) (I.ok.cab x c hfn hc)))).trans (I.base.keep b o e n hb hx)
    · obtain ⟨sl,e1⟩:=I.base.slot b o e n hb hx
      exact ⟨sl,(hs.2 b (Nat.ne_of_lt (Nat.lt_of_lt_of_le (Heap.lt_size e) (I.ok.cab x c hfn hc)))).trans e1⟩
    · obtain ⟨o',e1⟩:=I.base.there b o e hx
      exact ⟨o',(hs.2 b (Nat.ne_of_lt (Nat.lt_of_lt_of_le (Heap.lt_size e) (I.ok.cab x c hfn hc)))).trans e1⟩
    · by_cases hj:j=i
      · subst hj
        rw [hi] at e1; cases e1
        rw [List.getElem?_set_self hiσ] at e2
        cases e2
        exact ⟨u,r,.inr ⟨.inl hk,c,hc,hc'⟩⟩
      · rw [List.getElem?_set_ne (Ne.symm hj)] at e2
        obtain ⟨u',r',q⟩:=hl j y v' e1 e2 e3
        refine ⟨u',r',?_⟩
        rcases q with q | ⟨k,c',e,z'⟩
        · exact .inl q
        · refine .inr ⟨k,c',e,z'.sameBut hs ?_⟩
          rintro rfl
          exact hj (i9 hN e1 (I.ok.inj _ _ _ e hc ▸ hi))
    · by_cases hcc:c'=c
      · subst hcc; exact ⟨_,hc'⟩
      · obtain ⟨w2,z2⟩:=I.cell y c' e
        exact ⟨w2,z2.sameBut hs hcc⟩
    · obtain ⟨e,n,ne,nf,d⟩:=I.pin p hp
      refine ⟨(hs.2 p.1 ?_).trans e,n,ne,nf,d⟩
      intro q
      rw [q,hoc] at e
      have q':oc=p.2:=Option.some.inj e
      exact d w' (by rw [← q']; exact hocd)
theorem eD {M:Model} {A:Around} {E:Value→Shared→Prop} {i:Nat} {x:Str} {v:V} {u:Value} {Q:Unit→Shared→Prop} (I:Inv X pins σ H s) (hN:X.N.Nodup) (hi:X.N[i]?=some x) (hx:Loc X.env.scope x) (r:RelV v u)
    (h:∀ s',Inv X pins (σ.set i (some v)) H s'→Q () s') (hf:X.fn x=true∨X.env.scope.names.lookup x=some .local:=by first | exact .inl rfl | exact .inr rfl | assumption):wpAny M A (storeName X.env x u) Q E s :=
  km I hN hi hx r (fun s' I' _=>h s' I') hf
theorem Inv.call' {s':Shared} {ch:List Addr} (I:Inv X pins σ H s) (ho:s'.os=s.os) (u:Un (frs X.stack) ch H H' s.heap s'.heap) (hok:HOk X.prog X.w H' s'.heap) (hg:AllBare s'.gens)
    (hch:∀ b∈ch,(b∈X.ex∨X.s₀.heap.objs.size≤b)∧b≠X.env.locals∧(∀ x c,X.env.cells.lookup x=some c→c≠b)∧∀ p∈X.pn++pins,p.1≠b):Inv X pins σ H' s':=by
  obtain ⟨h',g',d',t',o'⟩:=s'
  have e:o'=s.os:=ho
  subst e
  exact I.call (g':=g') (t':=t') (d':=d') u hok hg hch
end
abbrev XK:=Value→Option Addr→Hp→Prop
abbrev St:=List (Option V)
abbrev VK:=V→Hp→Prop
abbrev TE:=St→Hp→VK→Prop
abbrev TT:=St→Hp→(Bool→Hp→Prop)→Prop
abbrev TA:=St→Hp→(List V→Hp→Prop)→Prop
structure Ends where
  nx:St→Hp→Prop
  rt:VK
  bk:St→Hp→Prop:=fun _ _=>False
  ct:St→Hp→Prop:=fun _ _=>False
abbrev TS:=Ends→St→Hp→Prop
def EP (X:Cx) (pins:List (Addr×Obj)) (σ:St) (Q:VK) (u:Value) (s':Shared):Prop:=∃ v H',Inv X pins σ H' s'∧RelV v u∧Q v H'
def TP (X:Cx) (pins:List (Addr×Obj)) (σ:St) (Q:Bool→Hp→Prop) (b:Bool) (s':Shared):Prop:=∃ H',Inv X pins σ H' s'∧Q b H'
def AP (X:Cx) (pins:List (Addr×Obj)) (σ:St) (Q:List V→Hp→Prop) (us:List Value) (s':Shared):Prop:=∃ vs H',Inv X pins σ H' s'∧Vals vs us∧Q vs H'
def SP (X:Cx) (pins:List (Addr×Obj)) (D:Ends) (f:Flow) (s':Shared):Prop :=
  match f with
  | .next=>∃ σ' H',Inv X pins σ' H' s'∧D.nx σ' H'
  | .brk=>∃ σ' H',Inv X pins σ' H' s'∧D.bk σ' H'
  | .cont=>∃ σ' H',Inv X pins σ' H' s'∧D.ct σ' H'
  | .ret u=>∃ v σ' H',Inv X pins σ' H' s'∧RelV v u∧D.rt v H'
def PE (X:Cx) (e:Expr) (t:TE):Prop :=
  ∀ (pins:List (Addr×Obj)) (s:Shared) (σ:St) (H:Hp) (Q:VK),Inv X pins σ H s→t σ H Q→wpAny (model X.prog X.w) X.A (eval e X.env) (EP X pins σ Q) X.xe s
def PT (X:Cx) (e:Expr) (t:TT):Prop :=
  ∀ (pins:List (Addr×Obj)) (s:Shared) (σ:St) (H:Hp) (Q:Bool→Hp→Prop),Inv X pins σ H s→t σ H Q→wpAny (model X.prog X.w) X.A (isTrue e X.env (eval e X.env)) (TP X pins σ Q) X.xe s
def PW (X:Cx) (e:Expr) (t:TT):Prop :=
  ∀ (whole:Sem Value) (pins:List (Addr×Obj)) (s:Shared) (σ:St) (H:Hp) (Q:Bool→Hp→Prop),Inv X pins σ H s→t σ H Q→wpAny (model X.prog X.w) X.A (isTrue e X.env whole) (TP X pins σ Q) X.xe s
theorem PW.pt {X:Cx} {e:Expr} {t:TT} (h:PW X e t):PT X e t:=h _
def PA (X:Cx) (es:List Expr) (t:TA):Prop :=
  ∀ (pos:Pos) (pins:List (Addr×Obj)) (s:Shared) (σ:St) (H:Hp) (Q:List V→Hp→Prop),Inv X pins σ H s→t σ H Q→wpAny (model X.prog X.w) X.A (spliced (backTo pos (starEach es X.env))) (AP X pins σ Q) X.xe s
def PS (X:Cx) (st:Stmt) (t:TS):Prop :=
  ∀ (pins:List (Addr×Obj)) (s:Shared) (σ:St) (H:Hp) (D:Ends),Inv X pins σ H s→t D σ H→wpAny (model X.prog X.w) X.A (exec st X.env) (SP X pins D) X.xe s
def PSs (X:Cx) (st:List Stmt) (t:TS):Prop :=
  ∀ (pins:List (Addr×Obj)) (s:Shared) (σ:St) (H:Hp) (D:Ends),Inv X pins σ H s→t D σ H→wpAny (model X.prog X.w) X.A (execs st X.env) (SP X pins D) X.xe s
theorem thn {α:Type} {t:Sem α} {Q Q':α→Shared→Prop} {M:Model} {A:Around} {E:Value→Shared→Prop} {s:Shared} (h:wpAny M A t Q E s) (hQ:∀ a s,Q a s→Q' a s):wpAny M A t Q' E s:=wpAny_mono h hQ fun _ _ x=>x
end L2
namespace L2
open PySem PySem.Spec PyProof.Rows
section
variable {X:Cx}
theorem bin {a b:Expr} {ta tb:TE} (ha:PE X a ta) (hb:PE X b tb) {pins:List (Addr×Obj)} {s:Shared} {σ:St} {H:Hp} {R:V→V→Hp→Prop} (I:Inv X pins σ H s) (h:ta σ H fun x H1=>tb σ H1 fun y H2=>R x y H2)
    {α:Type} {Q:α→Shared→Prop} {f:Value→Value→Sem α}
    (hf:∀ v u s2 x y H2,Inv X pins σ H2 s2→RelV x v→RelV y u→R x y H2→wpAny (model X.prog X.w) X.A (f v u) Q X.xe s2) :
    wpAny (model X.prog X.w) X.A (eval a X.env) (fun v s₁=>wpAny (model X.prog X.w) X.A (eval b X.env) (fun u s₂=>wpAny (model X.prog X.w) X.A (f v u) Q X.xe s₂) X.xe s₁) X.xe s:=by
  refine thn (ha pins s σ H _ I h) fun v s1 ⟨x,H1,I1,r1,q1⟩=>?_
  refine thn (hb pins s1 σ H1 _ I1 q1) fun u s2 ⟨y,H2,I2,r2,q2⟩=>?_
  exact hf v u s2 x y H2 I2 r1 r2 q2
def tVar (i:Nat):TE:=fun σ H Q=>∃ v,σ[i]?=some (some v)∧Q v H
def tC (v:V):TE:=fun _ H Q=>Q v H
theorem ja {i:Nat} {x:Str} {pos:Pos} (hN:X.N[i]?=some x) (hv:Vis X.env.scope x) (hd:(x==("__debug__":Str))=false:=by decide) (hcd:(x==("__classdict__":Str))=false:=by decide):PE X (.Name x pos) (tVar i):=by
  intro pins s σ H Q I h
  obtain ⟨v,e,h⟩:=h
  obtain ⟨m,hn,hl⟩:=I.loc
  obtain ⟨u,r,l⟩:=hl i x v hN e hv
  have fin:EP X pins σ Q u s:=⟨v,H,I,r,h⟩
  rcases l with ⟨hk,hm⟩ | ⟨hk,c,hc,hcell⟩
  · exact wpAny_Name (wpAny_loadName_local I.ok.kind hk hn hm fin) hd
  · rcases hk with hk | hk
    · exact wpAny_Name (wpAny_loadName_cell I.ok.kind hk hc hcell fin) hd
    · exact wpAny_Name (wpAny_loadName_free I.ok.kind hk hc hcell fin hcd) hd
theorem uI {i j pos}:PE X (.Constant (.int i) j pos) (tC (.int i)):=fun _ _ _ H _ I h=>wpAny_Constant_int ⟨.int i,H,I.tok _,⟨_,rfl⟩,h⟩
theorem vN {b j pos}:PE X (.Constant (.bool b) j pos) (tC (.bl b)):=fun _ _ _ H _ I h=>Constant_bool ⟨.bl b,H,I,rfl,h⟩
theorem uJ {j pos}:PE X (.Constant .none j pos) (tC .non):=fun _ _ _ H _ I h=>Constant_none ⟨.non,H,I,rfl,h⟩
theorem uK {x j pos}:PE X (.Constant (.str x) j pos) (tC (.str x)):=fun _ _ _ H _ I h=>Calls.Constant_str ⟨.str x,H,I.tok _,⟨_,rfl⟩,h⟩
def Gl (X:Cx) (x:Str):Prop:=X.env.kindOf x=some .globalImplicit
theorem iZ {E:Value→Shared→Prop} {pins:List (Addr×Obj)} {s:Shared} {σ:St} {H:Hp} {x:Str} {u:Value} {pos:Pos} {Q:Value→Shared→Prop} (I:Inv X pins σ H s) (hg:Gl X x) (hm:X.mg x=some u) (h:Q u s)
    (hd:(x==("__debug__":Str))=false:=by decide):wpAny (model X.prog X.w) X.A (eval (.Name x pos) X.env) Q E s :=
  Calls.Name_function_global I.ok.kind hg (Calls.loadGlobal_global (by rw [I.ok.glob]; exact I.mod.glob.keeps I.bk) hm h) hd
theorem f8 {E:Value→Shared→Prop} {pins:List (Addr×Obj)} {s:Shared} {σ:St} {H:Hp} {x:Str} {u:Value} {pos:Pos} {Q:Value→Shared→Prop} (I:Inv X pins σ H s) (hg:Gl X x) (hm:X.mg x=none) (hv:bootBuiltins x=some u) (h:Q u s)
    (hn:x ≠ "__name__" := by decide) (hd:(x==("__debug__":Str))=false:=by decide):wpAny (model X.prog X.w) X.A (eval (.Name x pos) X.env) Q E s:=by
  obtain ⟨mb,h1,h2⟩:=I.mod.blt
  exact Calls.Name_function_global I.ok.kind hg (Calls.loadGlobal_builtin (by rw [I.ok.glob]; exact I.mod.glob.keeps I.bk) hm (by rw [I.ok.blt]; exact h1.keeps I.bk) ((h2 x hn).trans hv) h) hd
theorem cq {x:Str} {v:V} {u:Value} {pos:Pos} (hg:Gl X x) (hm:X.mg x=some u) (r:RelV v u) (hd:(x==("__debug__":Str))=false:=by decide):PE X (.Name x pos) (tC v) :=
  fun _ _ _ H _ I h=>iZ I hg hm ⟨v,H,I,r,h⟩ hd
theorem aC {x:Str} {v:V} {u:Value} {pos:Pos} (hg:Gl X x) (hm:X.mg x=none) (hv:bootBuiltins x=some u) (r:RelV v u) (hn:x ≠ "__name__" := by decide) (hd:(x==("__debug__":Str))=false:=by decide):PE X (.Name x pos) (tC v) :=
  fun _ _ _ H _ I h=>f8 I hg hm hv ⟨v,H,I,r,h⟩ hn hd
variable {a b:Expr} {ta tb:TE} {pos:Pos}
def PC (X:Cx) (op:CmpOp) (a b:Expr) (t:TE):Prop :=
  ∀ (pins:List (Addr×Obj)) (s:Shared) (σ:St) (H:Hp) (Q:VK),Inv X pins σ H s→t σ H Q →
    wpAny (model X.prog X.w) X.A (eval a X.env) (fun v s₁=>wpAny (model X.prog X.w) X.A (eval b X.env) (fun u s₂=>wpAny (model X.prog X.w) X.A (compareOp op v u) (EP X pins σ Q) X.xe s₂) X.xe s₁) X.xe s
theorem nobehind (b:Expr) {op:CmpOp} (h:op≠.In) (h2:op≠.NotIn):behindInMarks op b=false:=by
  have e1:(op==CmpOp.In)=false:=by cases op<;>first | rfl | exact absurd rfl h
  have e2:(op==CmpOp.NotIn)=false:=by cases op<;>first | rfl | exact absurd rfl h2
  cases b<;>simp [behindInMarks,e1,e2]
def tB (t:TE):TT:=fun σ H Q=>t σ H fun x H1=>∃ c,x=.bl c∧Q c H1
theorem wC {op:CmpOp} {t:TE} (h:PC X op a b t) (h1:behindInMarks op b=false:=by first | exact nobehind _ (by decide) (by decide) | rfl):PT X (.Compare a [op] [b] pos) (tB t):=by
  intro pins s σ H Q I hw
  refine wpAny_isTrue_Compare1 (thn (h pins s σ H _ I hw) fun v s1 h1=>thn h1 fun u s2 h2=>thn h2 fun c s3 ⟨x,H1,I1,r1,q1⟩=>?_) h1
  obtain ⟨d,rfl,q⟩:=q1
  cases r1
  exact wpAny_truthy_bool ⟨H1,I1,q⟩
theorem uL {e:Expr} {t:TE} (h:PE X e t) (he:∀ whole,isTrue e X.env whole=(do let v ← whole; standAt e.pos; holding [v] (truthy v)):=by intro _; rfl):PT X e (tB t):=by
  intro pins s σ H Q I hw
  refine isTrue_plain (thn (h pins s σ H _ I hw) fun v s1 ⟨x,H1,I1,r1,q1⟩=>?_) (he _)
  obtain ⟨d,rfl,q⟩:=q1
  cases r1
  exact wpAny_truthy_bool ⟨H1,I1,q⟩
variable {tA tB':TT} {rest:List Expr}
def tAnd (t u:TT):TT:=fun σ H Q=>t σ H fun c H1=>if c=true then u σ H1 Q else Q false H1
def tOr (t u:TT):TT:=fun σ H Q=>t σ H fun c H1=>if c=true then Q true H1 else u σ H1 Q
def tNot (t:TT):TT:=fun σ H Q=>t σ H fun c H1=>Q (!c) H1
theorem sC (ha:PT X a tA):PW X (.BoolOp .And [a] pos) tA:=by
  intro wh pins s σ H Q I h
  refine isTrue_and (thn (ha pins s σ H Q I h) fun c s1 e=>?_)
  cases c with
  | true=>exact isTrue_and_nil e
  | false=>exact e
theorem uM (ha:PT X a tA):PW X (.BoolOp .Or [a] pos) tA:=by
  intro wh pins s σ H Q I h
  refine isTrue_or (thn (ha pins s σ H Q I h) fun c s1 e=>?_)
  cases c with
  | false=>exact isTrue_or_nil e
  | true=>exact e
theorem uN (ha:PT X a tA) (hb:PW X (.BoolOp .And (b::rest) pos) tB'):PW X (.BoolOp .And (a::b::rest) pos) (tAnd tA tB'):=by
  intro wh pins s σ H Q I h
  refine isTrue_and (thn (ha pins s σ H _ I h) fun c s1 ⟨H1,I1,q1⟩=>?_)
  cases c with
  | true=>exact hb wh pins s1 σ H1 Q I1 q1
  | false=>exact ⟨H1,I1,q1⟩
theorem vO (ha:PT X a tA) (hb:PW X (.BoolOp .Or (b::rest) pos) tB'):PW X (.BoolOp .Or (a::b::rest) pos) (tOr tA tB'):=by
  intro wh pins s σ H Q I h
  refine isTrue_or (thn (ha pins s σ H _ I h) fun c s1 ⟨H1,I1,q1⟩=>?_)
  cases c with
  | true=>exact ⟨H1,I1,q1⟩
  | false=>exact hb wh pins s1 σ H1 Q I1 q1
theorem uO (ha:PT X a tA):PT X (.UnaryOp .Not a pos) (tNot tA):=by
  intro pins s σ H Q I h
  exact isTrue_not (ha pins s σ H (fun c H1=>Q (!c) H1) I h)
def tAndV (ta tb:TE):TE:=fun σ H Q=>ta σ H fun x H1=>∃ c,x=.bl c∧if c=true then tb σ H1 Q else Q (.bl false) H1
def tOrV (ta tb:TE):TE:=fun σ H Q=>ta σ H fun x H1=>∃ c,x=.bl c∧if c=true then Q (.bl true) H1 else tb σ H1 Q
def tNotV (ta:TE):TE:=fun σ H Q=>ta σ H fun x H1=>∃ c,x=.bl c∧Q (.bl (!c)) H1
theorem uP {op} {t:TE} (h:PE X a t):PE X (.BoolOp op [a] pos) t:=fun pins s σ H Q I hw=>BoolOp_one (h pins s σ H Q I hw)
theorem uQ (ha:PE X a ta) (hb:PE X (.BoolOp .And (b::rest) pos) tb):PE X (.BoolOp .And (a::b::rest) pos) (tAndV ta tb):=by
  intro pins s σ H Q I h
  refine BoolOp_and (thn (ha pins s σ H _ I h) fun v s1 ⟨x,H1,I1,r1,q1⟩=>?_)
  obtain ⟨c,rfl,q1⟩:=q1
  cases r1
  refine wpAny_truthy_bool ?_
  cases c with
  | true=>exact hb pins s1 σ H1 Q I1 q1
  | false=>exact ⟨.bl false,H1,I1,rfl,q1⟩
theorem vP (ha:PE X a ta) (hb:PE X (.BoolOp .Or (b::rest) pos) tb):PE X (.BoolOp .Or (a::b::rest) pos) (tOrV ta tb):=by
  intro pins s σ H Q I h
  refine BoolOp_or (thn (ha pins s σ H _ I h) fun v s1 ⟨x,H1,I1,r1,q1⟩=>?_)
  obtain ⟨c,rfl,q1⟩:=q1
  cases r1
  refine wpAny_truthy_bool ?_
  cases c with
  | false=>exact hb pins s1 σ H1 Q I1 q1
  | true=>exact ⟨.bl true,H1,I1,rfl,q1⟩
theorem uR (ha:PE X a ta):PE X (.UnaryOp .Not a pos) (tNotV ta):=by
  intro pins s σ H Q I h
  refine UnaryOp_ (thn (ha pins s σ H _ I h) fun v s1 ⟨x,H1,I1,r1,q1⟩=>?_)
  obtain ⟨c,rfl,q1⟩:=q1
  cases r1
  exact not_of (wpAny_truthy_bool ⟨.bl (!c),H1,I1,rfl,q1⟩)
def tIf (t:TT) (ta tb:TE):TE:=fun σ H Q=>t σ H fun c H1=>if c=true then ta σ H1 Q else tb σ H1 Q
theorem qz {c:Expr} (hc:PT X c tA) (ha:PE X a ta) (hb:PE X b tb):PE X (.IfExp c a b pos) (tIf tA ta tb):=by
  intro pins s σ H Q I h
  refine wpAny_IfExp (thn (hc pins s σ H _ I h) fun d s1 ⟨H1,I1,q1⟩=>?_)
  cases d with
  | true=>exact ha pins s1 σ H1 Q I1 q1
  | false=>exact hb pins s1 σ H1 Q I1 q1
end
end L2
namespace L2
open PySem PySem.Spec PyProof.Rows
def SqL (K:PySem.W.Frag) (H:Hp) (a:Addr) (xs:List V):Prop :=
  Rd H a (.lst xs) ∨
    ∃ (o:Obj) (its:Array Value) (n:Nat),K.lookup a=some o∧o.cls=.type "list" ∧ o.dict=none∧o.data=.seq its n∧its.size≤sizeLine∧Vals xs its.toList
def SqT (K:PySem.W.Frag) (H:Hp) (a:Addr) (xs:List V):Prop :=
  Rd H a (.tup xs) ∨
    ∃ (o:Obj) (its:Array Value) (n:Nat),K.lookup a=some o∧o.cls=.type "tuple" ∧ o.data=.seq its n∧its.size≤sizeLine∧Vals xs its.toList
def absV:Value→Option V
  | .none=>some .non
  | .bool b=>some (.bl b)
  | .int i _=>some (.int i)
  | .str x _=>some (.str x)
  | .bytes b _=>some (.byt b)
  | .float b _=>some (.flt b)
  | .ref a=>some (.ref a)
  | .type n=>some (.ty n)
  | _=>none
theorem RelV.abs {x:V} {u:Value} (r:RelV x u):absV u=some x:=by
  cases x with
  | non=>cases r; rfl
  | bl _=>cases r; rfl
  | int _=>obtain ⟨t,rfl⟩:=r; rfl
  | str _=>obtain ⟨t,rfl⟩:=r; rfl
  | byt _=>obtain ⟨t,rfl⟩:=r; rfl
  | flt _=>obtain ⟨t,rfl⟩:=r; rfl
  | ref _=>cases r; rfl
  | ty _=>cases r; rfl
theorem RelV.inj {x y:V} {u:Value} (r:RelV x u) (q:RelV y u):x=y:=Option.some.inj (r.abs.symm.trans q.abs)
theorem Vals.inj:∀ {xs ys:List V} {us:List Value},Vals xs us→Vals ys us→xs=ys
  | _,_,_,.nil,.nil=>rfl
  | _,_,_,.cons r t,.cons r' t'=>by rw [r.inj r',Vals.inj t t']
section
variable {X:Cx} {pins:List (Addr×Obj)} {σ:St} {H:Hp} {s:Shared} {a:Addr} {xs ys:List V}
theorem SqL.of {K:PySem.W.Frag} (h:H a=some (.lst xs)):SqL K H a xs:=.inl (.inl h)
theorem SqT.of {K:PySem.W.Frag} (h:H a=some (.tup xs)):SqT K H a xs:=.inl (.inl h)
theorem Inv.list (I:Inv X pins σ H s) (h:SqL X.K H a xs):∃ its:List Value,Vals xs its∧PlainL s.heap a its.toArray∧xs.length≤sizeLine:=by
  rcases h with h | ⟨o,its,n,hk,hc,hd,hs,hz,r⟩
  · obtain ⟨z,its,n,r,e⟩:=h.ok I.hok
    exact ⟨its,r,⟨_,n,e,rfl,rfl,rfl⟩,z⟩
  · refine ⟨its.toList,r,⟨o,n,I.kIn a o hk,hc,hd,by simpa using hs⟩,?_⟩
    have e:=r.length
    simp only [Array.length_toList] at e
    omega
theorem Inv.tuple (I:Inv X pins σ H s) (h:SqT X.K H a xs):∃ its:List Value,Vals xs its∧IsTup s.heap a its.toArray∧xs.length≤sizeLine:=by
  rcases h with h | ⟨o,its,n,hk,hc,hs,hz,r⟩
  · obtain ⟨z,its,r,p⟩:=h.ok I.hok
    exact ⟨its,r,p,z⟩
  · refine ⟨its.toList,r,⟨o,I.kIn a o hk,hc,n,by simpa using hs⟩,?_⟩
    have e:=r.length
    simp only [Array.length_toList] at e
    omega
theorem Inv.list_inj (I:Inv X pins σ H s) (h:SqL X.K H a xs) (h':SqL X.K H a ys):xs=ys:=by
  obtain ⟨its,r,⟨o,n,e,_,_,d⟩,_⟩:=I.list h
  obtain ⟨its',r',⟨o',n',e',_,_,d'⟩,_⟩:=I.list h'
  rw [e] at e'; cases e'
  rw [d] at d'
  injection d' with d1 _
  have:its=its':=by simpa using congrArg Array.toList d1
  subst this
  exact r.inj r'
theorem Inv.tuple_inj (I:Inv X pins σ H s) (h:SqT X.K H a xs) (h':SqT X.K H a ys):xs=ys:=by
  obtain ⟨its,r,⟨o,e,_,n,d⟩,_⟩:=I.tuple h
  obtain ⟨its',r',⟨o',e',_,n',d'⟩,_⟩:=I.tuple h'
  rw [e] at e'; cases e'
  rw [d] at d'
  injection d' with d1 _
  have:its=its':=by simpa using congrArg Array.toList d1
  subst this
  exact r.inj r'
end
section
variable {X:Cx} {pins:List (Addr×Obj)} {σ:St} {H:Hp} {s:Shared} {E:Value→Shared→Prop}
end
section
variable {X:Cx} {st:Stmt} {rest:List Stmt} {t u:TS} {e:Expr} {te:TE} {pos:Pos}
def tNext:TS:=fun D σ H=>D.nx σ H
def tSeq (t u:TS):TS:=fun D σ H=>t { D with nx:=u D } σ H
theorem sD:PSs X [] tNext:=fun _ _ σ H _ I h=>wpAny_execs_nil ⟨σ,H,I,h⟩
theorem eE (h1:PS X st t) (h2:PSs X rest u):PSs X (st::rest) (tSeq t u):=by
  intro pins s σ H D I h
  refine wpAny_execs_cons (thn (h1 pins s σ H { D with nx:=u D } I h) fun f s1 q=>?_)
  cases f with
  | next =>
    obtain ⟨σ',H',I',q⟩:=q
    exact h2 pins s1 σ' H' D I' q
  | ret v=>exact q
  | brk=>exact q
  | cont=>exact q
theorem om (h1:PS X st t):PSs X [st] t:=by
  intro pins s σ H D I h
  refine wpAny_execs_cons (thn (h1 pins s σ H D I h) fun f s1 q=>?_)
  cases f with
  | next=>exact wpAny_execs_nil q
  | ret v=>exact q
  | brk=>exact q
  | cont=>exact q
theorem Inv.quiet {pins:List (Addr×Obj)} {σ:St} {H:Hp} {s:Shared} (I:Inv X pins σ H s):interactive X.env=false:=by simp [interactive,I.ok.kind]
def tDrop (te:TE):TS:=fun D σ H=>te σ H fun _ H1=>D.nx σ H1
theorem kP (he:PE X e te) (hs:swapsWith e none pos.line X.env=pure false:=by rfl):PS X (.Expr e pos) (tDrop te):=by
  intro pins s σ H D I h
  exact wpAny_Expr_any (thn (he pins s σ H _ I h) fun v s1 ⟨x,H1,I1,r1,q1⟩=>⟨σ,H1,I1,q1⟩) I.quiet hs
def tRet (te:TE):TS:=fun D σ H=>te σ H D.rt
theorem uS (he:PE X e te):PS X (.Return (some e) pos) (tRet te):=by
  intro pins s σ H D I h
  exact wpAny_Return_some (thn (he pins s σ H _ I h) fun v s1 ⟨x,H1,I1,r1,q1⟩=>⟨x,σ,H1,I1,r1,q1⟩)
def tIfS (c:TT) (t u:TS):TS:=fun D σ H=>c σ H fun b H1=>if b=true then t D σ H1 else u D σ H1
theorem vQ {c:Expr} {a b:List Stmt} {tc:TT} (hc:PT X c tc) (ha:PSs X a t) (hb:PSs X b u):PS X (.If c a b pos) (tIfS tc t u):=by
  intro pins s σ H D I h
  refine wpAny_If (thn (hc pins s σ H _ I h) fun d s1 ⟨H1,I1,q1⟩=>?_)
  cases d with
  | true=>exact ha pins s1 σ H1 D I1 q1
  | false=>exact hb pins s1 σ H1 D I1 q1
def tNever:TS:=fun _ _ _=>False
theorem kn {sts:List Stmt}:PSs X sts tNever:=fun _ _ _ _ _ _ h=>h.elim
end
abbrev TG:=V→St→Hp→(St→Hp→Prop)→Prop
abbrev TGs:=List V→St→Hp→(St→Hp→Prop)→Prop
def PG (X:Cx) (target:Expr) (t:TG):Prop :=
  ∀ (pins:List (Addr×Obj)) (s:Shared) (σ:St) (H:Hp) (v:V) (u:Value) (Q:St→Hp→Prop),Inv X pins σ H s→RelV v u→t v σ H Q →
    wpAny (model X.prog X.w) X.A (assign target X.env u) (fun _ s'=>∃ σ' H',Inv X pins σ' H' s'∧Q σ' H') X.xe s
def PGs (X:Cx) (ts:List Expr) (t:TGs):Prop :=
  ∀ (pins:List (Addr×Obj)) (s:Shared) (σ:St) (H:Hp) (vs:List V) (us:List Value) (Q:St→Hp→Prop),Inv X pins σ H s→Vals vs us→t vs σ H Q →
    wpAny (model X.prog X.w) X.A (assignInOrder ((assignEach ts X.env).map (·.2)) us) (fun _ s'=>∃ σ' H',Inv X pins σ' H' s'∧Q σ' H') X.xe s
section
variable {X:Cx} {pos:Pos}
def gName (i:Nat):TG:=fun v σ H Q=>Q (σ.set i (some v)) H
theorem kQ {i:Nat} {x:Str} (hN:X.N.Nodup) (hi:X.N[i]?=some x) (hx:Loc X.env.scope x) (hf:X.fn x=true∨X.env.scope.names.lookup x=some .local:=by first | exact .inl rfl | exact .inr rfl | assumption):PG X (.Name x pos) (gName i):=by
  intro pins s σ H v u Q I r h
  exact wpAny_assign_Name (eD I hN hi hx r (fun s' I'=>⟨_,H,I',h⟩) hf)
def gNil:TGs:=fun vs σ H Q=>vs=[]∧Q σ H
def gCons (t:TG) (u:TGs):TGs:=fun vs σ H Q=>∃ v r,vs=v::r∧t v σ H fun σ' H'=>u r σ' H' Q
theorem sE:PGs X [] gNil:=by
  intro pins s σ H vs us Q I r h
  obtain ⟨e,h⟩:=h
  subst e
  cases r
  exact assignInOrder_nil ⟨σ,H,I,h⟩
theorem lA {e:Expr} {es:List Expr} {t:TG} {u:TGs} (h1:PG X e t) (h2:PGs X es u)
    (hs:(assignEach (e::es) X.env).map (·.2)=assign e X.env::(assignEach es X.env).map (·.2):=by rfl):PGs X (e::es) (gCons t u):=by
  intro pins s σ H vs us Q I r h
  obtain ⟨v,vr,e1,h⟩:=h
  subst e1
  cases r with
  | cons r rr =>
    rw [hs]
    refine assignInOrder_cons (thn (h1 pins s σ H _ _ _ I r h) fun _ s1 ⟨σ1,H1,I1,q1⟩=>?_)
    exact h2 pins s1 σ1 H1 _ _ Q I1 rr q1
def gTup (K:PySem.W.Frag) (n:Nat) (t:TGs):TG:=fun v σ H Q=>∃ a xs,v=.ref a∧SqT K H a xs∧xs.length=n∧t xs σ H Q
theorem uT {es:List Expr} {k:Nat} {t:TGs} {n:Nat} (hc:X.calm=true) (h:PGs X es t)
    (hn:(assignEach es X.env).length=n:=by rfl) (hst:(assignEach es X.env).findIdx? (·.1)=none:=by rfl):PG X (.Tuple es k pos) (gTup X.K n t):=by
  intro pins s σ H v u Q I r hw
  obtain ⟨a,xs,e1,hq,hl,hw⟩:=hw
  subst e1
  cases r
  obtain ⟨its,rv,ht,hz⟩:=I.tuple hq
  refine assign_Tuple_tuple (I.ok.hd hc) ht (by simp [hn,← hl,rv.length]) hst fun h' hx=>?_
  have I1:Inv X pins σ H { s with heap:=h' }:=I.kept (t':=s.toks) fun b o e=>hx b o (Nat.ne_of_lt (Heap.lt_size e)) e
  exact h pins _ σ H xs _ Q I1 (by simpa using rv) hw
def tAsg (te:TE) (g:TG):TS:=fun D σ H=>te σ H fun x H1=>g x σ H1 D.nx
theorem mX {i:Nat} {x:Str} {e:Expr} {te:TE} {pos':Pos} (hN:X.N.Nodup) (hi:X.N[i]?=some x) (hx:Loc X.env.scope x) (he:PE X e te) (hs:swapsWith e (some (.Name x pos')) pos.line X.env=pure false:=by rfl) (hf:X.fn x=true∨X.env.scope.names.lookup x=some .local:=by first | exact .inl rfl | exact .inr rfl | assumption) :
    PS X (.Assign [.Name x pos'] e pos) (tAsg te (gName i)):=by
  intro pins s σ H D I h
  refine wpAny_Assign_Name (thn (he pins s σ H _ I h) fun v s1 ⟨y,H1,I1,r1,q1⟩=>?_) hs
  exact eD I1 hN hi hx r1 (fun s2 I2=>⟨_,H1,I2,q1⟩) hf
def tPar (i j:Nat) (ta:TA):TS:=fun D σ H=>ta σ H fun vs H1=>∃ v w,vs=[v,w]∧D.nx ((σ.set i (some v)).set j (some w)) H1
theorem uU {i j:Nat} {x y:Str} {a b:Expr} {ta:TA} {px py pt:Pos} {kt k2 pt2} (hc:X.calm=true) (hN:X.N.Nodup) (hi:X.N[i]?=some x) (hj:X.N[j]?=some y) (hij:i≠j)
    (hx:X.env.scope.names.lookup x=some .local) (hy:X.env.scope.names.lookup y=some .local) (ha:PA X [a,b] ta)
    (hw:swappedStores [.Tuple [.Name x px,.Name y py] kt pt] (.Tuple [a,b] k2 pt2) X.env=pure (some [x,y]))
    (hs:swapsWithSole [.Tuple [.Name x px,.Name y py] kt pt] (.Tuple [a,b] k2 pt2) pos.line X.env=pure false:=by rfl) :
    PS X (.Assign [.Tuple [.Name x px,.Name y py] kt pt] (.Tuple [a,b] k2 pt2) pos) (tPar i j ta):=by
  intro pins s σ H D I h
  rw [exec_Assign_arm]
  refine wpAny_bind (wpAny_standAt ?_)
  rw [hs]
  refine wpAny_bind (wpAny_pure ?_)
  rw [if_neg (by decide)]
  refine wpAny_bind (Tuple_ (thn (ha _ pins s σ H _ I h) fun us s1 ⟨vs,H1,I1,r1,q1⟩=>?_))
  obtain ⟨v,w,e1,q1⟩:=q1
  subst e1
  obtain ⟨u1,u2,rfl,rv,rw'⟩:∃ u1 u2,us=[u1,u2]∧RelV v u1∧RelV w u2:=by
    cases r1 with
    | cons p q =>
      cases q with
      | cons p' q' =>
        cases q'
        exact ⟨_,_,rfl,p,p'⟩
  refine wpAny_newObj_type ?_ (by show 2≤sizeLine; decide)
  have I2:Inv X pins σ H1 { s1 with heap:=s1.heap.push { cls:=.type "tuple",data:=.seq [u1,u2].toArray } }:=I1.kept (t':=s1.toks) fun b o e=>Heap.get?_push_of_some _ e
  rw [hw]
  refine wpAny_bind (wpAny_pure ?_)
  show wpAny (model X.prog X.w) X.A (do rule "assign.swapped-stores"; let items ← unpackItems (.ref s1.heap.objs.size) 2 none; assignInOrder [fun v=>bindName X.env y v,fun v=>bindName X.env x v] items.reverse; pure Flow.next) _ _ _
  refine wpAny_bind (wpAny_rule (wpAny_bind (unpackItems_tuple (items:=#[u1,u2]) (I.ok.hd hc) (IsTup.new s1.heap _) fun h' hx'=>?_)))
  have I3:=I2.kept (h':=h') (t':=s1.toks) fun b o e=>hx' b o (Nat.ne_of_lt (Heap.lt_size e)) e
  show wpAny _ _ (assignInOrder [fun v=>bindName X.env y v,fun v=>bindName X.env x v] [u2,u1] >>= fun _=>pure Flow.next) _ _ _
  refine wpAny_bind (assignInOrder_cons (wpAny_bindName (eD I3 hN hj (.inl hy) rw' (fun s2 I4=>?_) (.inr hy))))
  refine assignInOrder_cons (wpAny_bindName (eD I4 hN hi (.inl hx) rv (fun s3 I5=>assignInOrder_nil (wpAny_pure ?_)) (.inr hx)))
  rw [List.set_comm _ _ (Ne.symm hij)] at I5
  exact ⟨_,H1,I5,q1⟩
end
section
variable {X:Cx} {pos:Pos}
end
structure It where
  go:Nat→Hp→Prop
  yld:Nat→Hp→V→Hp→Prop
  stop:Nat→Hp→Prop
def FpOk (X:Cx) (pins:List (Addr×Obj)) (H:Hp) (b:Addr):Prop :=
  H b=none∧b≠X.env.locals∧b∉X.fs∧(b∈X.ex∨X.s₀.heap.objs.size≤b)∧(∀ x c,X.env.cells.lookup x=some c→c≠b)∧∀ p∈X.pn++pins,p.1≠b
theorem Inv.fpOk {X:Cx} {pins:List (Addr×Obj)} {σ:St} {H H':Hp} {s:Shared} {b:Addr} (I:Inv X pins σ H s) (hb:s.heap.objs.size≤b) (hn:H' b=none):FpOk X pins H' b:=by
  refine ⟨hn,Nat.ne_of_gt (Nat.lt_of_lt_of_le I.lt hb),I.nofs hb,.inr (Nat.le_trans I.sz hb),fun x c e z=>?_,fun p hp z=>?_⟩
  · obtain ⟨v,q⟩:=I.cell x c e
    exact absurd (Nat.lt_of_lt_of_le q.lt (by rw [z]; exact hb)) (Nat.lt_irrefl _)
  · exact absurd (Nat.lt_of_lt_of_le (Heap.lt_size (I.pin p hp).1) (by rw [z]; exact hb)) (Nat.lt_irrefl _)
structure Turn (P:Program) (w:World) (K:PySem.W.Frag) (tg:Expr) (J:It) (fp:List Addr) (it:Addr) (tn:Nat→Heap→Prop):Prop where
  mem:it∈fp
  obj:∀ i h,tn i h→∀ b∈fp,∃ o,h.get? b=some o∧∀ v,o.data≠.cell v
  keep:∀ i h h',tn i h→(∀ b∈fp,∀ o,h.get? b=some o→h'.get? b=some o)→tn i h'
  item:∀ (X:Cx),X.prog=P→X.w=w→X.K=K→X.calm=true→∀ (i:Nat) (pins:List (Addr×Obj)) (s:Shared) (σ:St) (H:Hp) (E:Value→Shared→Prop),Inv X pins σ H s→(∀ b∈fp,FpOk X pins H b)→tn i s.heap→J.go i H →
    wpAny (model P w) X.A (pyNext (.ref it)) (fun r s1=>∃ u,r=some u ∧
      wpAny (model P w) X.A (letOwnedTupleGo tg (.ref it) u) (fun _ s2=>∃ x H',Inv X pins σ H' s2∧RelV x u∧J.yld i H x H'∧tn (i+1) s2.heap∧∀ b∈fp,H' b=none) E s1) E s
  done:∀ (X:Cx),X.prog=P→X.w=w→X.K=K→X.calm=true→∀ (i:Nat) (pins:List (Addr×Obj)) (s:Shared) (σ:St) (H:Hp) (E:Value→Shared→Prop),Inv X pins σ H s→(∀ b∈fp,FpOk X pins H b)→tn i s.heap→J.stop i H →
    wpAny (model P w) X.A (pyNext (.ref it)) (fun r s1=>r=none∧Inv X pins σ H s1) E s
  self:∀ (A:Around) (i:Nat) (s:Shared) (Q:Value→Shared→Prop) (E:Value→Shared→Prop),tn i s.heap→Q (.ref it) s→wpAny (model P w) A (pyIter (.ref it)) Q E s
abbrev TI:=St→Hp→(It→Hp→Prop)→Prop
def PIE (X:Cx) (pins:List (Addr×Obj)) (σ:St) (tg:Expr) (R:It→Hp→Prop) (itv:Value) (s2:Shared):Prop :=
  ∃ (it:Addr) (fp:List Addr) (tn:Nat→Heap→Prop) (J:It) (H':Hp),itv=.ref it∧Inv X pins σ H' s2∧Turn X.prog X.w X.K tg J fp it tn∧tn 0 s2.heap∧(∀ b∈fp,FpOk X pins H' b)∧R J H'
def PI (X:Cx) (tg iter:Expr) (wi:TI):Prop :=
  ∀ (pins:List (Addr×Obj)) (s:Shared) (σ:St) (H:Hp) (R:It→Hp→Prop),Inv X pins σ H s→wi σ H R →
    wpAny (model X.prog X.w) X.A (eval iter X.env) (fun v s1=>wpAny (model X.prog X.w) X.A (pyIter v) (PIE X pins σ tg R) X.xe s1) X.xe s
theorem qA {M:Model} {A:Around} {E:Value→Shared→Prop} {s:Shared} {tg:Expr} {it:Addr} {u:Value} {o:Obj} {n:String} {vs:Array Value} {Q:Unit→Shared→Prop} (ho:s.heap.get? it=some o) (hc:o.cls=.type n) (hd:o.data=.fields vs)
    (hn:["enumerate", "zip", "dict_itemiterator", "dict_reverseitemiterator", "odict_iterator", "itertools.zip_longest", "itertools.pairwise"].contains n=false) (hQ:Q () s):wpAny M A (letOwnedTupleGo tg (.ref it) u) Q E s:=by
  unfold letOwnedTupleGo
  cases tg<;>first
    | exact wpAny_pure hQ
    | (cases u<;>first
        | exact wpAny_pure hQ
        | (refine wpAny_bind (wpAny_load ho ?_)
           rw [hc,hd]
           show wpAny M A (if (["enumerate", "zip", "dict_itemiterator", "dict_reverseitemiterator", "odict_iterator", "itertools.zip_longest", "itertools.pairwise"].contains n&&vs[0]?==some (rawInt _))=true then _ else _) Q E s
           rw [if_neg (by intro h; rw [hn,Bool.false_and] at h; cases h)]
           exact wpAny_pure hQ))
def Itl (K:PySem.W.Frag) (a:Addr):It :=
  ⟨fun i H=>∃ xs x,SqL K H a xs∧xs[i]?=some x,fun i H x H'=>H'=H∧∀ xs,SqL K H a xs→xs[i]?=some x,fun i H=>∃ xs,SqL K H a xs∧xs.length≤i⟩
def Itt (K:PySem.W.Frag) (a:Addr):It :=
  ⟨fun i H=>∃ xs x,SqT K H a xs∧xs[i]?=some x,fun i H x H'=>H'=H∧∀ xs,SqT K H a xs→xs[i]?=some x,fun i H=>∃ xs,SqT K H a xs∧xs.length≤i⟩
def Itr (lo:Int) (n:Nat):It:=⟨fun i _=>i < n,fun i H x H'=>H'=H∧x=.int (lo+i),fun i _=>n≤i⟩
theorem oZ {P:Program} {w:World} {K:PySem.W.Frag} {tg:Expr} (a it:Addr):Turn P w K tg (Itl K a) [it] it (fun i h=>h.IsListIter it a i) where
  mem:=by simp
  obj:=fun i h st b hb=>by
    have e:b=it:=by simpa using hb
    subst e
    obtain ⟨o,e,c,d⟩:=st
    exact ⟨o,e,fun v z=>by rw [d] at z; cases z⟩
  keep:=fun i h h' st k=>st.at fun o e=>k it (by simp) o e
  item:=by
    intro X hP hw hK hc i pins s σ H E I hf st hg
    subst hP hw hK
    obtain ⟨xs,x,hq,hx⟩:=hg
    obtain ⟨its,rv,p,hz⟩:=I.list hq
    obtain ⟨u,hu,ru⟩:=rv.get hx
    obtain ⟨f0,f1,f2,f3,f4,f5⟩:=hf it (by simp)
    refine wpAny_pyNext_list_item st p.isList (x:=u) (by simpa using hu) fun h' st' sb=>?_
    have I1:Inv X pins σ H { s with heap:=h' }:=I.turned (t':=s.toks) (fun b o hb e=>(sb.2 b hb).trans e) f0 f1 f3 f4 f5
    obtain ⟨o,e,c,d⟩:=id st'
    exact ⟨u,rfl,qA (s:={ s with heap:=h' }) e c d (by decide) ⟨x,H,I1,ru,⟨rfl,fun ys hy=>by rw [I.list_inj hy hq]; exact hx⟩,st',fun b hb=>(hf b hb).1⟩⟩
  done:=by
    intro X hP hw hK hc i pins s σ H E I hf st hg
    subst hP hw hK
    obtain ⟨xs,hq,hx⟩:=hg
    obtain ⟨its,rv,p,hz⟩:=I.list hq
    obtain ⟨f0,f1,f2,f3,f4,f5⟩:=hf it (by simp)
    have hl:=rv.length
    exact wpAny_pyNext_list_end (I.ok.hd hc) st p.isList (by simp; omega) fun h' eb=>⟨rfl,I.turned (t':=s.toks) (fun b o hb e=>eb b o hb e) f0 f1 f3 f4 f5⟩
  self:=fun _ _ _ _ _ st h=>wpAny_pyIter_listiter st h
theorem mY {P:Program} {w:World} {K:PySem.W.Frag} {tg:Expr} (a it:Addr):Turn P w K tg (Itt K a) [it] it (fun i h=>h.IsTupleIter it a i) where
  mem:=by simp
  obj:=fun i h st b hb=>by
    have e:b=it:=by simpa using hb
    subst e
    obtain ⟨o,e,c,d⟩:=st
    exact ⟨o,e,fun v z=>by rw [d] at z; cases z⟩
  keep:=fun i h h' st k=>st.at fun o e=>k it (by simp) o e
  item:=by
    intro X hP hw hK hc i pins s σ H E I hf st hg
    subst hP hw hK
    obtain ⟨xs,x,hq,hx⟩:=hg
    obtain ⟨its,rv,p,hz⟩:=I.tuple hq
    obtain ⟨u,hu,ru⟩:=rv.get hx
    obtain ⟨f0,f1,f2,f3,f4,f5⟩:=hf it (by simp)
    refine wpAny_pyNext_tuple_item st (show s.heap.IsTuple a its.toArray from p) (x:=u) (by simpa using hu) fun h' st' sb=>?_
    have I1:Inv X pins σ H { s with heap:=h' }:=I.turned (t':=s.toks) (fun b o hb e=>(sb.2 b hb).trans e) f0 f1 f3 f4 f5
    obtain ⟨o,e,c,d⟩:=id st'
    exact ⟨u,rfl,qA (s:={ s with heap:=h' }) e c d (by decide) ⟨x,H,I1,ru,⟨rfl,fun ys hy=>by rw [I.tuple_inj hy hq]; exact hx⟩,st',fun b hb=>(hf b hb).1⟩⟩
  done:=by
    intro X hP hw hK hc i pins s σ H E I hf st hg
    subst hP hw hK
    obtain ⟨xs,hq,hx⟩:=hg
    obtain ⟨its,rv,p,hz⟩:=I.tuple hq
    obtain ⟨f0,f1,f2,f3,f4,f5⟩:=hf it (by simp)
    have hl:=rv.length
    exact wpAny_pyNext_tuple_end (I.ok.hd hc) st (show s.heap.IsTuple a its.toArray from p) (by simp; omega) fun h' eb=>⟨rfl,I.turned (t':=s.toks) (fun b o hb e=>eb b o hb e) f0 f1 f3 f4 f5⟩
  self:=fun _ _ _ _ _ st h=>wpAny_pyIter_tupleiter st h
theorem mZ {P:Program} {w:World} {K:PySem.W.Frag} {tg:Expr} (it:Addr) (lo:Int) (n:Nat):Turn P w K tg (Itr lo n) [it] it (fun i h=>IsRangeIter h it (lo+(i:Nat)*1) ((n:Int) - (i:Nat)) 1) where
  mem:=by simp
  obj:=fun i h st b hb=>by
    have e:b=it:=by simpa using hb
    subst e
    exact ⟨_,st,fun v z=>by
      have z':Data.fields _=Data.cell v:=z
      cases z'⟩
  keep:=fun i h h' st k=>k it (by simp) _ st
  item:=by
    intro X hP hw hK hc i pins s σ H E I hf st hg
    subst hP hw hK
    obtain ⟨f0,f1,f2,f3,f4,f5⟩:=hf it (by simp)
    have W:=Walks.range (prog:=X.prog) (w:=X.w) (I.ok.hd hc) it lo 1 n
    refine W.item i s _ _ hg st fun v h' tk hv st' kk=>?_
    obtain ⟨t,rfl⟩:=hv
    have I1:Inv X pins σ H { s with heap:=h',toks:=tk }:=I.turned (fun b o hb e=>kk b o (by simpa using hb) e) f0 f1 f3 f4 f5
    refine ⟨_,rfl,qA (s:={ s with heap:=h',toks:=tk }) (n := "range_iterator") st' rfl rfl (by decide) ⟨.int (lo+i),H,I1,⟨t,?_⟩,⟨rfl,rfl⟩,st',fun b hb=>(hf b hb).1⟩⟩
    rw [Int.mul_one]
  done:=by
    intro X hP hw hK hc i pins s σ H E I hf st hg
    subst hP hw hK
    obtain ⟨f0,f1,f2,f3,f4,f5⟩:=hf it (by simp)
    exact wpAny_pyNext_range_end (I.ok.hd hc) st (by have:n≤i:=hg; omega) fun h' eb=>⟨rfl,I.turned (t':=s.toks) (fun b o hb e=>eb b o hb e) f0 f1 f3 f4 f5⟩
  self:=fun _ _ _ _ _ st h=>wpAny_pyIter_rangeiter st h
end L2
namespace L2
open PySem PySem.Spec PyProof.Rows
section
variable {X:Cx} {tg:Expr}
theorem qB {pins:List (Addr×Obj)} {σ:St} {H:Hp} {s:Shared} {R:It→Hp→Prop} {E:Value→Shared→Prop} {lo hi:Int} {t u v:Tok} {tk:Nat} (I:Inv X pins σ H s) (h1 : -(2^62)≤lo) (h2:lo < 2^62) (h3 : -(2^62)≤hi) (h4:hi < 2^62)
    (q:R (Itr lo (hi - lo).toNat) H):wpAny (model X.prog X.w) X.A (pyIter (.ref s.heap.objs.size)) (PIE X pins σ tg R) E { s with heap:=s.heap.push { cls:=.type "range",data:=.fields #[.int lo t,.int hi u,.int 1 v] },toks:=tk }:=by
  refine wpAny_pyIter_range (IsRange.new ..) (small_one h1 h2 h3 h4) ?_
  have I1:Inv X pins σ H { s with heap:=s.heap.push { cls:=.type "range",data:=.fields #[.int lo t,.int hi u,.int 1 v] },toks:=tk }:=I.kept fun b o e=>Heap.get?_push_of_some _ e
  refine ⟨(s.heap.push { cls:=.type "range",data:=.fields #[.int lo t,.int hi u,.int 1 v] }).objs.size,[(s.heap.push { cls:=.type "range",data:=.fields #[.int lo t,.int hi u,.int 1 v] }).objs.size],_,_,H,rfl,
    I1.kept (t':=tk) fun b o e=>Heap.get?_push_of_some _ e,mZ _ lo (hi - lo).toNat,?_,fun b hb=>?_,q⟩
  · have e1:lo+((0:Nat):Int)*1=lo:=by simp
    have e2:(((hi - lo).toNat:Nat):Int) - ((0:Nat):Int)=Builtin.Range.rangeSize lo hi 1:=by rw [rangeSize_one]; split<;>omega
    show IsRangeIter _ _ (lo+((0:Nat):Int)*1) ((((hi - lo).toNat:Nat):Int) - ((0:Nat):Int)) 1
    rw [e1,e2]
    exact Heap.get?_push_size _ rfl
  · have e:b=(s.heap.push { cls:=.type "range",data:=.fields #[.int lo t,.int hi u,.int 1 v] }).objs.size:=by simpa using hb
    subst e
    exact I1.fpOk (Nat.le_refl _) (I1.hok.fresh (Nat.le_refl _))
def iRng1 (ta:TA):TI:=fun σ H R=>ta σ H fun vs H1=>∃ j:Int,vs=[.int j]∧-(2^62)≤j∧j < 2^62∧R (Itr 0 j.toNat) H1
theorem o0 {a:Expr} {ta:TA} {p pos:Pos} (hg:Gl X "range") (hm:X.mg "range"=none) (ha:PA X [a] ta) (hs:starEach [a] X.env=[(false,eval a X.env)]:=by rfl):PI X tg (.Call (.Name "range" p) [a] [] pos) (iRng1 ta):=by
  intro pins s σ H R I h
  refine Call_ (f8 I hg hm boot_range (PyProof.Rows.callWith_type1 (thn (ha pos pins s σ H _ I h) fun us s1 ⟨vs,H1,I1,r1,q1⟩=>?_) hs rfl))
  obtain ⟨j,e,q1,q2,q⟩:=q1
  subst e
  cases r1 with
  | cons r rr =>
    cases rr
    obtain ⟨t,rfl⟩:=r
    exact call_range_1 (qB I1 (by omega) (by omega) q1 q2 (by simpa using q))
def tFor (wi:TI) (g:TG) (tb:TS):TS:=fun D σ H=>wi σ H fun J H1=>∃ W:Nat→Nat→St→Hp→Prop,(∃ m,W 0 m σ H1)∧∀ i m σ H,W i m σ H →
  (J.stop i H∧D.nx σ H)∨(J.go i H∧∃ N:St→Hp→Prop,(∀ σ' H',N σ' H'→∃ m',m' < m∧W (i+1) m' σ' H')∧∀ x H',J.yld i H x H'→g x σ H' fun σ2 H2=>tb { D with nx:=N,ct:=N,bk:=D.nx } σ2 H2)
def pinsAt (fp:List Addr) (h:Heap):List (Addr×Obj):=fp.filterMap fun b=>(h.get? b).map fun o=>(b,o)
theorem eX {fp:List Addr} {h:Heap} {b:Addr} {o:Obj} (hb:b∈fp) (e:h.get? b=some o):(b,o)∈pinsAt fp h:=List.mem_filterMap.mpr ⟨b,hb,by rw [e]; rfl⟩
theorem o3 {fp:List Addr} {h:Heap} {p:Addr×Obj} (hp:p∈pinsAt fp h):p.1∈fp∧h.get? p.1=some p.2:=by
  obtain ⟨b,hb,e⟩:=List.mem_filterMap.mp hp
  cases q:h.get? b with
  | none=>rw [q] at e; cases e
  | some o =>
    rw [q] at e
    have e':(b,o)=p:=Option.some.inj e
    subst e'
    exact ⟨hb,q⟩
theorem Inv.pinned {pins:List (Addr×Obj)} {σ:St} {H:Hp} {s:Shared} {fp:List Addr} (I:Inv X pins σ H s) (hf:∀ b∈fp,FpOk X pins H b) (ho:∀ b∈fp,∃ o,s.heap.get? b=some o∧∀ v,o.data≠.cell v):Inv X (pins++pinsAt fp s.heap) σ H s :=
  I.pins_of fun p hp=>(List.mem_append.mp hp).elim (fun z=>I.pin p (List.mem_append_right _ z)) fun z=>by
    obtain ⟨hb,e⟩:=o3 z
    obtain ⟨f0,f1,f2,_⟩:=hf p.1 hb
    obtain ⟨o,e',d⟩:=ho p.1 hb
    rw [e] at e'; cases e'
    exact ⟨e,f0,f1,f2,d⟩
theorem Inv.unpinned {pins pl:List (Addr×Obj)} {σ:St} {H:Hp} {s:Shared} (I:Inv X (pins++pl) σ H s):Inv X pins σ H s:=I.pins_of fun p hp=>I.pin p (List.mem_append_right _ (List.mem_append_left _ hp))
theorem uV {iter:Expr} {body:List Stmt} {wi:TI} {g:TG} {tb:TS} {pos:Pos} (hp:PassesOwn (model X.prog X.w) X.A X.env X.xe) (hc:X.calm=true) (hi:PI X tg iter wi) (hg:PG X tg g) (hb:PSs X body tb)
    (hs:∀ x,foldedSetIterable iter X.env x=pure x:=by intro _; rfl):PS X (.For tg iter body [] pos) (tFor wi g tb):=by
  intro pins s σ H D I h
  refine wpAny_For (thn (hi pins s σ H _ I h) fun v s1 h1=>thn h1 fun itv s2 h2=>?_) hs
  obtain ⟨it,fp,tn,J,H2,e,I2,T,st2,f2,W,⟨m0,w0⟩,turn⟩:=h2
  subst e
  have stat:∀ {H':Hp},(∀ b∈fp,H' b=none)→∀ b∈fp,FpOk X pins H' b:=fun hn b hb=>⟨hn b hb,(f2 b hb).2⟩
  refine codeAny_forLoop_any (fun n s'=>∃ i σ' H',Inv X pins σ' H' s'∧tn i s'.heap∧(∀ b∈fp,H' b=none)∧W i n σ' H') ?_ m0 ⟨0,σ,H2,I2,st2,fun b hb=>(f2 b hb).1,w0⟩
  rintro n s3 ⟨i,σ3,H3,I3,st3,fr3,w3⟩
  rcases turn i n σ3 H3 w3 with ⟨stop,qn⟩ | ⟨go,N,hN,step⟩
  · refine wpAny_passesOwn hp (thn (T.done X rfl rfl rfl hc i pins s3 σ3 H3 X.xe I3 (stat fr3) st3 stop) fun r s4 ⟨hr,I4⟩=>?_)
    subst hr
    exact wpAny_execs_nil ⟨σ3,H3,I4,qn⟩
  · refine wpAny_passesOwn hp (thn (T.item X rfl rfl rfl hc i pins s3 σ3 H3 X.xe I3 (stat fr3) st3 go) fun r s4 ⟨u,hr,h4⟩=>?_)
    subst hr
    refine wpAny_passesOwn hp (thn h4 fun _ s5 ⟨x,H5,I5,r5,y5,st5,fr5⟩=>?_)
    have I5':=I5.pinned (stat fr5) (T.obj _ _ st5)
    refine wpAny_passesOwn hp (thn (hg _ s5 σ3 H5 x u _ I5' r5 (step x H5 y5)) fun _ s6 ⟨σ6,H6,I6,q6⟩=>?_)
    refine wpAny_passesOwn hp (thn (hb _ s6 σ6 H6 _ I6 q6) fun f s7 q7=>?_)
    have again:∀ {σ7:St} {H7:Hp},Inv X (pins++pinsAt fp s5.heap) σ7 H7 s7→N σ7 H7→∃ m,m < n∧∃ i σ' H',Inv X pins σ' H' s7∧tn i s7.heap∧(∀ b∈fp,H' b=none)∧W i m σ' H':=fun {σ7 H7} I7 n7=>by
      obtain ⟨m',hm,w7⟩:=hN σ7 H7 n7
      refine ⟨m',hm,i+1,σ7,H7,I7.unpinned,T.keep _ _ _ st5 fun b hb o e=>(I7.pin (b,o) (List.mem_append_right _ (List.mem_append_right _ (eX hb e)))).1,fun b hb=>?_,w7⟩
      obtain ⟨o,e,d⟩:=T.obj _ _ st5 b hb
      exact (I7.pin (b,o) (List.mem_append_right _ (List.mem_append_right _ (eX hb e)))).2.1
    cases f with
    | next=>obtain ⟨σ7,H7,I7,n7⟩:=q7; exact again I7 n7
    | cont=>obtain ⟨σ7,H7,I7,n7⟩:=q7; exact again I7 n7
    | brk=>obtain ⟨σ7,H7,I7,q7⟩:=q7; exact ⟨σ7,H7,I7.unpinned,q7⟩
    | ret v=>obtain ⟨x7,σ7,H7,I7,r7,q7⟩:=q7; exact ⟨x7,σ7,H7,I7.unpinned,r7,q7⟩
end
end L2
namespace L2
open PySem PySem.Spec PyProof.Rows
abbrev R2:=V→V→Hp→VK→Prop
def OpR (X:Cx) (f:Value→Value→Sem Value) (r:R2):Prop :=
  ∀ (pins:List (Addr×Obj)) (s:Shared) (σ:St) (H:Hp) (x y:V) (v u:Value) (Q:VK),Inv X pins σ H s→RelV x v→RelV y u→r x y H Q →
    wpAny (model X.prog X.w) X.A (f v u) (EP X pins σ Q) X.xe s
def UnR (X:Cx) (f:Value→Sem Value) (r:V→Hp→VK→Prop):Prop :=
  ∀ (pins:List (Addr×Obj)) (s:Shared) (σ:St) (H:Hp) (x:V) (v:Value) (Q:VK),Inv X pins σ H s→RelV x v→r x H Q →
    wpAny (model X.prog X.w) X.A (f v) (EP X pins σ Q) X.xe s
def CallR (X:Cx) (f:Value) (r:List V→Hp→VK→Prop):Prop :=
  ∀ (pins:List (Addr×Obj)) (s:Shared) (σ:St) (H:Hp) (xs:List V) (us:List Value) (Q:VK),Inv X pins σ H s→Vals xs us→r xs H Q →
    wpAny (model X.prog X.w) X.A (call f us) (EP X pins σ Q) X.xe s
def tOp (r:R2) (ta tb:TE):TE:=fun σ H Q=>ta σ H fun x H1=>tb σ H1 fun y H2=>r x y H2 Q
def tUn (r:V→Hp→VK→Prop) (ta:TE):TE:=fun σ H Q=>ta σ H fun x H1=>r x H1 Q
def rI (C:Int→Int→Prop) (g:Int→Int→V):R2:=fun x y H Q=>∃ i j,x=.int i∧y=.int j∧C i j∧Q (g i j) H
def rI0 (g:Int→Int→V):R2:=fun x y H Q=>∃ i j,x=.int i∧y=.int j∧Q (g i j) H
def rU (g:Int→V):V→Hp→VK→Prop:=fun x H Q=>∃ i,x=.int i∧Q (g i) H
section
variable {X:Cx} {a b c:Expr} {ta tb tc:TE} {pos:Pos}
theorem binT (ha:PE X a ta) (hb:PE X b tb) {pins:List (Addr×Obj)} {s:Shared} {σ:St} {H:Hp} {R:V→V→Hp→Prop} (I:Inv X pins σ H s)
    (h:ta σ H fun x H1=>tb σ H1 fun y H2=>R x y H2) {Q:Value→Shared→Prop} {f:Value→Value→Sem Value}
    (hf:∀ v u s2 x y H2,Inv X pins σ H2 s2→RelV x v→RelV y u→R x y H2→wpAny (model X.prog X.w) X.A (f v u) Q X.xe s2) :
    wpAny (model X.prog X.w) X.A (eval a X.env) (fun v s₁=>wpAny (model X.prog X.w) X.A (eval b X.env) (fun u s₂=>wpAny (model X.prog X.w) X.A (f v u) Q X.xe s₂) X.xe s₁) X.xe s:=by
  refine thn (ha pins s σ H _ I h) fun v s1 ⟨x,H1,I1,r1,q1⟩=>?_
  refine thn (hb pins s1 σ H1 _ I1 q1) fun u s2 ⟨y,H2,I2,r2,q2⟩=>?_
  exact hf v u s2 x y H2 I2 r1 r2 q2
theorem vR {op:Operator} {r:R2} (ho:OpR X (binaryOp op) r) (ha:PE X a ta) (hb:PE X b tb):PE X (.BinOp a op b pos) (tOp r ta tb):=by
  intro pins s σ H Q I h
  exact wpAny_BinOp (binT ha hb I h fun v u s2 x y H2 I2 rx ry q=>ho pins s2 σ H2 x y v u Q I2 rx ry q)
theorem vS {op:UnaryOp} {r:V→Hp→VK→Prop} (ho:UnR X (unaryOp op) r) (ha:PE X a ta):PE X (.UnaryOp op a pos) (tUn r ta):=by
  intro pins s σ H Q I h
  exact UnaryOp_ (thn (ha pins s σ H _ I h) fun v s1 ⟨x,H1,I1,r1,q1⟩=>ho pins s1 σ H1 x v Q I1 r1 q1)
theorem opI {f:Value→Value→Sem Value} {C:Int→Int→Prop} {g:Int→Int→Int}
    (rule:∀ (i j:Int) (t u:Tok) (s:Shared) (Q:Value→Shared→Prop) (E:Value→Shared→Prop),C i j→Q (.int (g i j) s.toks) { s with toks:=s.toks+1 }→wpAny (model X.prog X.w) X.A (f (.int i t) (.int j u)) Q E s) :
    OpR X f (rI C fun i j=>.int (g i j)):=by
  intro pins s σ H x y v u Q I rx ry h
  obtain ⟨i,j,rfl,rfl,hc,q⟩:=h
  obtain ⟨t,rfl⟩:=rx
  obtain ⟨t',rfl⟩:=ry
  exact rule i j t t' s _ _ hc ⟨.int (g i j),H,I.tok _,⟨_,rfl⟩,q⟩
theorem opI0 {f:Value→Value→Sem Value} {g:Int→Int→Int}
    (rule:∀ (i j:Int) (t u:Tok) (s:Shared) (Q:Value→Shared→Prop) (E:Value→Shared→Prop),Q (.int (g i j) s.toks) { s with toks:=s.toks+1 }→wpAny (model X.prog X.w) X.A (f (.int i t) (.int j u)) Q E s) :
    OpR X f (rI0 fun i j=>.int (g i j)):=by
  intro pins s σ H x y v u Q I rx ry h
  obtain ⟨i,j,rfl,rfl,q⟩:=h
  obtain ⟨t,rfl⟩:=rx
  obtain ⟨t',rfl⟩:=ry
  exact rule i j t t' s _ _ ⟨.int (g i j),H,I.tok _,⟨_,rfl⟩,q⟩
theorem opB0 {f:Value→Value→Sem Value} {g:Int→Int→Bool}
    (rule:∀ (i j:Int) (t u:Tok) (s:Shared) (Q:Value→Shared→Prop) (E:Value→Shared→Prop),Q (.bool (g i j)) s→wpAny (model X.prog X.w) X.A (f (.int i t) (.int j u)) Q E s) :
    OpR X f (rI0 fun i j=>.bl (g i j)):=by
  intro pins s σ H x y v u Q I rx ry h
  obtain ⟨i,j,rfl,rfl,q⟩:=h
  obtain ⟨t,rfl⟩:=rx
  obtain ⟨t',rfl⟩:=ry
  exact rule i j t t' s _ _ ⟨.bl (g i j),H,I,rfl,q⟩
def CDiv (i j:Int):Prop:=0 < j∧j < 1073741824
def CMul (i j:Int):Prop:=(-(2^64) < i∧i < 2^64)∨(-(2^64) < j∧j < 2^64)
theorem CMul.ok {i j:Int} (h:CMul i j):IntMulOk i j:=by
  rcases h with ⟨h1,h2⟩ | ⟨h1,h2⟩
  · exact .of_left (intBits_le_64 h1 h2)
  · exact .of_right (intBits_le_64 h1 h2)
theorem uW:OpR X (binaryOp .Add) (rI0 fun i j=>.int (i+j)):=opI0 fun _ _ _ _ _ _ _ q=>add_int q
theorem uX:OpR X (binaryOp .Sub) (rI0 fun i j=>.int (i - j)):=opI0 fun _ _ _ _ _ _ _ q=>sub_int q
theorem uY:OpR X (binaryOp .Mult) (rI CMul fun i j=>.int (i*j)):=opI fun _ _ _ _ _ _ _ hc q=>mul_int q hc.ok
theorem sF:OpR X (binaryOp .FloorDiv) (rI CDiv fun i j=>.int (i/j)):=opI fun i j _ _ _ _ _ hc q=>by
  have h1:(0:Int) < j:=hc.1
  have h2:j < 1073741824:=hc.2
  exact floordiv_int (by omega) (by rw [Int.fdiv_eq_ediv_of_nonneg i (by omega)]; exact q) (.inl (PyProof.noPylong_small (by omega)))
theorem uZ:OpR X (binaryOp .Mod) (rI (fun _ j=>0 < j) fun i j=>.int (i%j)):=opI fun i j _ _ _ _ _ hc q=>by
  have h1:(0:Int) < j:=hc
  exact mod_int' (by omega) (by rw [Int.fmod_eq_emod_of_nonneg i (by omega)]; exact q)
theorem unI {f:Value→Sem Value} {g:Int→Int}
    (rule:∀ (i:Int) (t:Tok) (s:Shared) (Q:Value→Shared→Prop) (E:Value→Shared→Prop),Q (.int (g i) s.toks) { s with toks:=s.toks+1 }→wpAny (model X.prog X.w) X.A (f (.int i t)) Q E s) :
    UnR X f (rU fun i=>.int (g i)):=by
  intro pins s σ H x v Q I rx h
  obtain ⟨i,rfl,q⟩:=h
  obtain ⟨t,rfl⟩:=rx
  exact rule i t s _ _ ⟨.int (g i),H,I.tok _,⟨_,rfl⟩,q⟩
theorem u0:UnR X (unaryOp .USub) (rU fun i=>.int (-i)):=unI fun _ _ _ _ _ q=>neg_int q
end
section
variable {X:Cx} {a b c:Expr} {ta tb tc:TE} {pos:Pos}
theorem fC {pins:List (Addr×Obj)} {σ:St} {H:Hp} {s:Shared} {Q:VK} {k k':Bool} (I:Inv X pins σ H s) (q:Q (.bl k) H) (e:k=k'):EP X pins σ Q (.bool k') s:=by
  subst e
  exact ⟨.bl k,H,I,rfl,q⟩
theorem vT:OpR X (compareOp .Lt) (rI0 fun i j=>.bl (decide (i < j))):=opB0 fun _ _ _ _ _ _ _ q=>lt_int q
theorem on:OpR X (compareOp .LtE) (rI0 fun i j=>.bl (decide (i≤j))):=opB0 fun _ _ _ _ _ _ _ q=>le_int q
theorem OpR.or {f:Value→Value→Sem Value} {r r':R2} (h:OpR X f r) (h':OpR X f r'):OpR X f (fun x y H Q=>r x y H Q∨r' x y H Q):=by
  intro pins s σ H x y v u Q I rx ry q
  rcases q with q | q
  · exact h pins s σ H x y v u Q I rx ry q
  · exact h' pins s σ H x y v u Q I rx ry q
theorem nomark (b:Expr) {op:CmpOp} (h:op≠.In:=by decide) (h2:op≠.NotIn:=by decide):behindInMarks op b=false:=by
  have e1:(op==CmpOp.In)=false:=by cases op<;>first | rfl | exact absurd rfl h
  have e2:(op==CmpOp.NotIn)=false:=by cases op<;>first | rfl | exact absurd rfl h2
  cases b<;>simp [behindInMarks,e1,e2]
theorem sG {op:CmpOp} {r:R2} (ho:OpR X (compareOp op) r) (ha:PE X a ta) (hb:PE X b tb) (hm:behindInMarks op b=false):PE X (.Compare a [op] [b] pos) (tOp r ta tb):=by
  intro pins s σ H Q I h
  exact wpAny_Compare1 (binT ha hb I h fun v u s2 x y H2 I2 rx ry q=>ho pins s2 σ H2 x y v u Q I2 rx ry q) hm
def tTest (t:TE):TT:=fun σ H Q=>t σ H fun x H'=>∃ k,x=.bl k∧Q k H'
theorem sH {op:CmpOp} {r:R2} (ho:OpR X (compareOp op) r) (ha:PE X a ta) (hb:PE X b tb) (hm:behindInMarks op b=false):PT X (.Compare a [op] [b] pos) (tTest (tOp r ta tb)):=by
  intro pins s σ H Q I h
  refine wpAny_isTrue_Compare1 (thn (ha pins s σ H _ I h) fun v s1 ⟨x,H1,I1,r1,q1⟩=>thn (hb pins s1 σ H1 _ I1 q1) fun u s2 ⟨y,H2,I2,r2,q2⟩ =>
    thn (ho pins s2 σ H2 x y v u _ I2 r1 r2 q2) fun c s3 ⟨z,H3,I3,r3,k,e,q3⟩=>?_) hm
  subst e
  cases r3
  exact wpAny_truthy_bool ⟨H3,I3,q3⟩
def tChain (r r':R2) (ta tb tc:TE):TE:=fun σ H Q=>ta σ H fun x H1=>tb σ H1 fun y H2=>r x y H2 fun z H3=>∃ k,z=.bl k ∧
  (if k=true then tc σ H3 fun w' H4=>r' y w' H4 Q else Q (.bl false) H3)
theorem qC {op op':CmpOp} {r r':R2} (ho:OpR X (compareOp op) r) (ho':OpR X (compareOp op') r') (ha:PE X a ta) (hb:PE X b tb) (hc:PE X c tc)
    (hm:lastMarks [op,op'] [b,c]=false:=by with_unfolding_all rfl):PE X (.Compare a [op,op'] [b,c] pos) (tChain r r' ta tb tc):=by
  intro pins s σ H Q I h
  refine Compare_chain (thn (ha pins s σ H _ I h) fun v s1 ⟨x,H1,I1,r1,q1⟩=>chain_link (thn (hb pins s1 σ H1 _ I1 q1) fun u s2 ⟨y,H2,I2,r2,q2⟩ =>
    thn (ho pins s2 σ H2 x y v u _ I2 r1 r2 q2) fun d s3 ⟨z,H3,I3,r3,k,e,q3⟩=>?_)) hm
  subst e
  cases r3
  refine wpAny_truthy_bool ?_
  cases k with
  | false=>exact ite_ff ⟨.bl false,H3,I3,rfl,q3⟩
  | true=>exact ite_tt (chain_last (thn (hc pins s3 σ H3 _ I3 q3) fun w' s4 ⟨z',H4,I4,r4,q4⟩=>ho' pins s4 σ H4 y z' u w' Q I4 r2 r4 q4))
theorem qD {op op':CmpOp} {r r':R2} (ho:OpR X (compareOp op) r) (ho':OpR X (compareOp op') r') (ha:PE X a ta) (hb:PE X b tb) (hc:PE X c tc)
    (hm:lastMarks [op,op'] [b,c]=false:=by with_unfolding_all rfl):PT X (.Compare a [op,op'] [b,c] pos) (tTest (tChain r r' ta tb tc)):=by
  intro pins s σ H Q I h
  refine isTrue_chain (thn (ha pins s σ H _ I h) fun v s1 ⟨x,H1,I1,r1,q1⟩=>test_link (thn (hb pins s1 σ H1 _ I1 q1) fun u s2 ⟨y,H2,I2,r2,q2⟩ =>
    thn (ho pins s2 σ H2 x y v u _ I2 r1 r2 q2) fun d s3 ⟨z,H3,I3,r3,k,e,q3⟩=>?_)) hm
  subst e
  cases r3
  refine wpAny_truthy_bool ?_
  cases k with
  | false =>
    obtain ⟨k',e',q'⟩:=q3
    cases e'
    exact ite_ff ⟨H3,I3,q'⟩
  | true =>
    refine ite_tt (test_last (thn (hc pins s3 σ H3 _ I3 q3) fun w' s4 ⟨z',H4,I4,r4,q4⟩=>thn (ho' pins s4 σ H4 y z' u w' _ I4 r2 r4 q4) fun d' s5 ⟨z2,H5,I5,r5,k2,e2,q5⟩=>?_))
    subst e2
    cases r5
    exact wpAny_truthy_bool ⟨H5,I5,q5⟩
theorem line63:(sizeLine:Nat) < 2^63:=by rw [sizeLine_eq]; decide
theorem vals1 {x:V} {us:List Value} (r:Vals [x] us):∃ u,us=[u]∧RelV x u:=by
  cases r with
  | cons r1 r2=>cases r2; exact ⟨_,rfl,r1⟩
theorem vals2 {x y:V} {us:List Value} (r:Vals [x,y] us):∃ u w',us=[u,w']∧RelV x u∧RelV y w':=by
  cases r with
  | cons r1 r2 =>
    cases r2 with
    | cons r3 r4=>cases r4; exact ⟨_,_,rfl,r1,r3⟩
theorem o4 (hc:X.calm=true):CallR X (.builtin "max") (fun xs H Q=>∃ i j,xs=[.int i,.int j]∧Q (.int (if j > i then j else i)) H):=by
  intro pins s σ H xs us Q I r h
  obtain ⟨i,j,rfl,q⟩:=h
  obtain ⟨u,w',rfl,⟨t,rfl⟩,⟨t',rfl⟩⟩:=vals2 r
  refine max_two_ints (I.ok.hd hc) fun h' tk k=>⟨_,H,I.kept k,?_,q⟩
  by_cases hj:j > i
  · rw [if_pos hj,if_pos hj]; exact ⟨_,rfl⟩
  · rw [if_neg hj,if_neg hj]; exact ⟨_,rfl⟩
end
end L2
namespace L2
open PySem PySem.Spec PyProof.Rows
structure ObjM (h:Heap) (x dx C:Addr) (mA:Str→Option Value):Prop where
  obj:h.get? x=some (PySem.W.instObj C dx)
  ns:h.Ns1 dx mA
  ne:dx≠x
theorem o5 {h:Heap} {dx:Addr} {mA:Str→Option Value} (n:h.Ns1 dx mA):∃ od,h.get? dx=some od∧∀ name,PySem.W.lookIn name od=some (mA name):=by
  obtain ⟨o,es,ep,ho,hd,hk,_,hm⟩:=n
  refine ⟨o,ho,fun name=>?_⟩
  have e:=hm name
  unfold nsFind findBy at e
  rw [← Array.find?_toList] at e
  unfold PySem.W.lookIn
  rw [hd]
  dsimp only
  split
  · rename_i y q
    rw [q] at e
    exact congrArg some e
  · rename_i q
    rw [q] at e
    have a:es.toList.any (·.refKey)=false:=by
      rw [List.any_eq_false]
      intro y hy
      obtain ⟨z,t,hkey⟩:=hk y (Array.mem_toList_iff.mp hy)
      simp [DictEntry.refKey,hkey]
    have a':¬ es.toList.any (·.refKey)=true:=by rw [a]; exact Bool.false_ne_true
    rw [if_neg a']
    exact congrArg some e
theorem ObjM.look {h:Heap} {x dx C:Addr} {mA:Str→Option Value} (I:ObjM h x dx C mA):∃ od,PySem.W.InstAt h x (PySem.W.instObj C dx) C (some od)∧∀ name,PySem.W.lookIn name od=some (mA name) :=
  let ⟨od,ho,hl⟩:=o5 I.ns
  ⟨od,⟨I.obj,rfl,rfl,ho⟩,hl⟩
section
variable {prog:Program} {w:World} {A:Around} {E:Value→Shared→Prop} {s:Shared} {K:PySem.W.Frag} {x dx C f:Addr} {mA:Str→Option Value} {name:Str} {v:Value}
theorem qE {pl:Sem Bool} {Q:Value×List Value→Shared→Prop} (X:K.In s.heap) (I:ObjM s.heap x dx C mA) (hg:PySem.W.plainGet K C name=true)
    (hf:PySem.W.findIn K (.ref C) name=some (some (.ref f))) (ht:PySem.W.isFn K (.ref f)=true) (hv:mA name=none) (h:Q (.ref f,[.ref x]) s) :
    wpAny (model prog w) A (getMethod (.ref x) name pl) Q E s:=by
  obtain ⟨od,J,hl⟩:=I.look
  exact PySem.W.method_fn X J (PySem.W.plainGet_of hg).1 (PySem.W.plainGet_of hg).2 hf (beq_iff_eq.mp ht) (by show (PySem.W.lookIn name od).map (·.isSome)=some false; rw [hl,hv]; rfl) h
theorem vU {R:Result→Shared→Prop} {vs:List Value} {kw:List (Str×Value)} (X:K.In s.heap) (hm:PySem.W.makesIn K C=true)
    (hi:PySem.W.findIn K (.ref C) "__init__"=some (some (.ref f))) (hf:PySem.W.typeIn K (.ref f)=some (.type "function"))
    (h:codeAny (model prog w) (A.under (.builtin "type.__call__" ⟨.ref C::vs,kw⟩)) (.call (.ref f) ⟨.ref (s.heap.objs.size+1)::vs,kw⟩) (PySem.W.InitBack (s.heap.objs.size+1) R)
      { s with heap:=(s.heap.push PySem.W.emptyDict).push (PySem.W.instObj C s.heap.objs.size) }) :
    codeAny (model prog w) A (.call (.ref C) ⟨vs,kw⟩) R s:=by
  obtain ⟨hh,g,d,t,os⟩:=s
  exact PySem.W.make_core (PySem.W.makes_of X hm) (PySem.W.looks_findIn X hi) (fun self=>PySem.W.bind_fn X self hf) (.inl rfl) h
end
theorem RelO.none_of {o:Option Value} (r:RelO none o):o=none:=by
  cases o with
  | none=>rfl
  | some u=>exact (show False from r).elim
section
variable {P:Program} {w:World} {H H':Hp} {h h':Heap} {a C dx:Addr} {fs fs':List (Str×V)}
theorem sI (hok:HOk P w H h) (e:H a=some (.ins C dx fs)):∃ mA,ObjM h a dx C mA∧(∀ f,RelO (fs.lookup f) (mA f))∧PySem.Within mA (fs.map (·.1))∧fs.length≤1000∧H dx=some (.own a):=by
  obtain ⟨d,z,ne,ob,mA,n,r,q⟩:=(show ObjOk P w H h a (.ins C dx fs) from hok a _ e)
  exact ⟨mA,⟨ob,n,ne⟩,r,q,z,d⟩
end
structure Cls (K:PySem.W.Frag) (C:Addr):Prop where
  pg:PySem.W.plainGet K C Str.empty=true
  hd:PySem.W.hasDictIn K C=true
  po:PySem.W.plainOver K C=true
  sa:PySem.W.findIn K (.ref C) "__setattr__"=some (some (.builtin "object.__setattr__"))
theorem Cls.get {K:PySem.W.Frag} {C:Addr} (c:Cls K C) (f:Str):PySem.W.plainGet K C f=true:=c.pg
structure Meth (K:PySem.W.Frag) (C:Addr) (m:Str) (f:Addr):Prop where
  at_:PySem.W.findIn K (.ref C) m=some (some (.ref f))
  fn:PySem.W.isFn K (.ref f)=true
  kp:PySem.W.keepIn K (.ref f)=true
section
variable {X:Cx} {pins:List (Addr×Obj)} {σ:St} {H:Hp} {s:Shared} {a C dx:Addr} {fs:List (Str×V)} {f:Str} {v:V} {A:Around} {E:Value→Shared→Prop}
theorem m6 {m:Str} {g:Addr} {pl:Sem Bool} {Q:Value×List Value→Shared→Prop} (I:Inv X pins σ H s) (e:H a=some (.ins C dx fs)) (c:Cls X.K C) (k:Meth X.K C m g) (l:fs.lookup m=none)
    (h:Q (.ref g,[.ref a]) s):wpAny (model X.prog X.w) A (getMethod (.ref a) m pl) Q E s:=by
  obtain ⟨mA,O,r,_,_,_⟩:=sI I.hok e
  have hn:mA m=none:=RelO.none_of (by rw [← l]; exact r m)
  exact qE I.kIn O (c.get m) k.at_ k.fn hn h
end
section
variable {X:Cx} {o e value:Expr} {f:Str} {pos pos' tpos:Pos} {ta tv:TE}
theorem uv {pl:Sem Bool} {m:Str} {apos:Pos} {args:List Expr} {pins:List (Addr×Obj)} {s:Shared} {σ:St} {H:Hp} {Q:Value→Shared→Prop} {te:TE} (he:PE X e te) (I:Inv X pins σ H s)
    (h:te σ H fun x H1=>∃ a C dx fs g,x=.ref a∧H1 a=some (.ins C dx fs)∧Cls X.K C∧Meth X.K C m g∧fs.lookup m=none ∧
      ∀ s1,Inv X pins σ H1 s1→wpAny (model X.prog X.w) X.A (callWith pos (.ref g) [.ref a] (backTo pos (starEach args X.env)) (backToKw pos (keywordEach [] X.env))) Q X.xe s1)
    (ht:eval (.Call (.Attribute e m apos) args [] pos) X.env=(do
      let ov ← eval e X.env
      standAt apos.atName
      let (f,first) ← holding [ov] (getMethod ov m pl)
      callWith pos f first (backTo pos (starEach args X.env)) (backToKw pos (keywordEach [] X.env)))) :
    wpAny (model X.prog X.w) X.A (eval (.Call (.Attribute e m apos) args [] pos) X.env) Q X.xe s:=by
  refine PySem.W.methodCall_KW (pl:=pl) (thn (he pins s σ H _ I h) fun u s1 ⟨x,H1,I1,rx,a,C,dx,fs,g,ex,ea,c,k,l,q⟩=>?_) ht
  subst ex
  obtain rfl:u=Value.ref a:=rx
  exact m6 I1 ea c k l (q s1 I1)
end
section
variable {X:Cx} {pins:List (Addr×Obj)} {σ:St} {H:Hp} {s:Shared} {A:Around} {E:Value→Shared→Prop} {Q:Value→Shared→Prop} {c:Value} {b:Bool}
inductive TyOf (K:PySem.W.Frag) (H:Hp):V→Value→Prop where
  | non:TyOf K H .non (.type "NoneType")
  | bl (x:Bool):TyOf K H (.bl x) (.type "bool")
  | int (i:Int):TyOf K H (.int i) (.type "int")
  | str (x:Str):TyOf K H (.str x) (.type "str")
  | flt (x:UInt64):TyOf K H (.flt x) (.type "float")
  | lst {a:Addr} {xs:List V} (e:H a=some (.lst xs)):TyOf K H (.ref a) (.type "list")
  | frz {a:Addr} {o:Obj} {xs:List V} (e:H a=some (.frz o (.lst xs))):TyOf K H (.ref a) (.type "list")
  | tup {a:Addr} {xs:List V} (e:H a=some (.tup xs)):TyOf K H (.ref a) (.type "tuple")
  | dK {a:Addr} {kvs:List (Key×V)} (e:H a=some (.dK kvs)):TyOf K H (.ref a) (.type "dict")
  | dT {a:Addr} {kvs:List (List Key×V)} (e:H a=some (.dT kvs)):TyOf K H (.ref a) (.type "dict")
  | ins {a C dx:Addr} {fs:List (Str×V)} (e:H a=some (.ins C dx fs)) (cl:Cls K C) (ha:PySem.W.findIn K (.ref C) "__class__"=some (some (.builtin "object.__class__")))
      (hn:PySem.W.specialIn K (.builtin "object.__class__") "__get__"=some (some (.builtin "getset_descriptor.__get__"))) (htk:PySem.W.takesIn K (.builtin "object.__class__")=some true)
      (hm:PySem.W.mroIn K C (.type "object")=some true):TyOf K H (.ref a) (.ref C)
end
end L2
namespace L2
open PySem PySem.Spec PyProof.Rows
structure Room (k:Nat) (A:Around):Prop where
  hd:A.handled=none
  dp:A.depth+3*k+5 < recursionLimit
  un:A.units+16*k+200 < cLine
theorem Room.deeper {k:Nat} {A:Around} (r:Room (k+1) A) (env:Env):Room k (A.deeper env) :=
  ⟨r.hd,by have:=r.dp; show A.depth+1+3*k+5 < _; omega,by have:=r.un; show A.units+3+16*k+200 < _; omega⟩
theorem Room.depth {k:Nat} {A:Around} (r:Room k A):A.depth < recursionLimit:=by have:=r.dp; omega
def tNil:TA:=fun _ H Q=>Q [] H
def tCons (ta:TE) (tr:TA):TA:=fun σ H Q=>ta σ H fun x H1=>tr σ H1 fun xs H2=>Q (x::xs) H2
section
variable {X:Cx} {e:Expr} {es:List Expr} {te:TE} {t:TA} {pos:Pos}
theorem m7:PA X [] tNil:=fun _ _ _ _ H Q I h=>Calls.spliced_nil ⟨[],H,I,.nil,h⟩
theorem i5 (ha:PE X e te) (hr:PA X es t) (hs:starEach (e::es) X.env=(false,eval e X.env)::starEach es X.env:=by rfl):PA X (e::es) (tCons te t):=by
  intro pos pins s σ H Q I h
  rw [hs]
  show wpAny _ _ (spliced ((false,eval e X.env)::backTo pos (starEach es X.env))) _ _ s
  refine Calls.spliced_cons (thn (ha pins s σ H _ I h) fun u s1 ⟨x,H1,I1,r1,q1⟩=>?_)
  exact thn (hr pos pins s1 σ H1 _ I1 q1) fun us s2 ⟨xs,H2,I2,r2,q2⟩=>⟨x::xs,H2,I2,.cons r1 r2,q2⟩
def tTup (t:TA):TE:=fun σ H Q=>t σ H fun xs H1=>xs.length≤sizeLine∧∀ p,H1 p=none→Q (.ref p) (upd H1 p (.tup xs))
def tLst (t:TA):TE:=fun σ H Q=>t σ H fun xs H1=>xs.length≤sizeLine∧∀ p,H1 p=none→Q (.ref p) (upd H1 p (.lst xs))
theorem u5 {x1} (h:PA X es t):PE X (.Tuple es x1 pos) (tTup t):=by
  intro pins s σ H Q I hq
  refine wpAny_Tuple_spliced (thn (h pos pins s σ H _ I hq) fun us s1 ⟨xs,H1,I1,r,z,q⟩=>⟨by rw [← r.length]; exact z,?_⟩)
  have hf:H1 s1.heap.objs.size=none:=I1.hok.fresh (Nat.le_refl _)
  refine ⟨.ref s1.heap.objs.size,upd H1 s1.heap.objs.size (.tup xs),I1.laid (t':=s1.toks) (fun b u e=>Heap.get?_push_of_some _ e) (Nat.le_refl _) ?_,rfl,q _ hf⟩
  exact ⟨z,us,r,⟨_,Heap.get?_push_size _ rfl,rfl,_,rfl⟩⟩
theorem qF (h:PA X es t):PE X (.List es pos) (tLst t):=by
  intro pins s σ H Q I hq
  refine wpAny_List_spliced (thn (h pos pins s σ H _ I hq) fun us s1 ⟨xs,H1,I1,r,z,q⟩=>⟨by rw [← r.length]; exact z,?_⟩)
  have hf:H1 s1.heap.objs.size=none:=I1.hok.fresh (Nat.le_refl _)
  refine ⟨.ref s1.heap.objs.size,upd H1 s1.heap.objs.size (.lst xs),I1.laid (t':=s1.toks) (fun b u e=>Heap.get?_push_of_some _ e) (Nat.le_refl _) ?_,rfl,q _ hf⟩
  exact ⟨z,us,0,r,Heap.get?_push_size _ rfl⟩
end
abbrev Sp:=List V→Hp→VK→XK→Prop
abbrev CXT:=List Env→Hp→Shared→XK→Value→Shared→Prop
structure Env0 (P:Program) (w:World) (K:PySem.W.Frag) (mg:Str→Option Value) (base:Heap) (A:Around) (outer:List Env) (s:Shared) (H:Hp):Prop where
  frames:A.frames=some outer
  mod:Mod K mg base
  bs:∀ b o,base.get? b=some o→s.heap.get? b=some o∧H b=none
  bsz:base.objs.size≤s.heap.objs.size
  funs:s.heap.FunFrames base outer
  frf:∀ b∈frs outer,H b=none
  hok:HOk P w H s.heap
  bare:AllBare s.gens
def CE (outer:List Env) (P:Program) (w:World) (H:Hp) (s:Shared) (Q:VK) (u:Value) (s':Shared):Prop :=
  ∃ v H',s'.os=s.os∧AllBare s'.gens∧Un (frs outer) [] H H' s.heap s'.heap∧HOk P w H' s'.heap∧RelV v u∧Q v H'
def CR (CX:CXT) (outer:List Env) (P:Program) (w:World) (H:Hp) (s:Shared) (Q:VK) (E:XK) (r:Result) (s':Shared):Prop :=
  match r with
  | .ok (.ret u)=>CE outer P w H s Q u s'
  | .ok _=>False
  | .error e=>CX outer H s E e s'
structure FnOk (P:Program) (w:World) (K:PySem.W.Frag) (mg:Str→Option Value) (base:Heap) (CX:CXT) (k:Nat) (f:Addr) (fd:FuncData) (ps:List Str) (sp:Sp):Prop where
  len:∀ vs H Q E,sp vs H Q E→vs.length=ps.length
  run:∀ (A:Around) (outer:List Env) (s:Shared) (H:Hp) (args:Args) (us:List Value) (vs:List V) (Q:VK) (E:XK),Room k A→Env0 P w K mg base A outer s H→BindsTo s fd args (ps.zip us)→Vals vs us→sp vs H Q E →
    codeAny (model P w) A (.call (.ref f) args) (CR CX outer P w H s Q E) s
section
variable {X:Cx} {pins:List (Addr×Obj)} {σ:St} {H:Hp} {s s':Shared}
theorem Inv.env0 (I:Inv X pins σ H s):Env0 X.prog X.w X.K X.mg X.base X.A X.stack s H :=
  ⟨I.ok.frames,I.ok.mod,I.bs,Nat.le_trans I.ok.bsz I.sz,I.stack,I.stkFree,I.hok,I.bare⟩
theorem Inv.after {Q:VK} {u:Value} (I:Inv X pins σ H s) (h:CE X.stack X.prog X.w H s Q u s'):EP X pins σ Q u s':=by
  obtain ⟨v,H',os,bare,un,hok,r,q⟩:=h
  obtain ⟨hh,g,d,t,os'⟩:=s'
  obtain rfl:os'=s.os:=os
  exact ⟨v,H',I.call (h':=hh) (g':=g) (d':=d) (t':=t) (ch:=[]) un hok bare (fun b z=>absurd z (by simp)),r,q⟩
end
def tCall (sp:Sp) (dvs:List V) (E:XK) (t:TA):TE:=fun σ H Q=>t σ H fun vs H1=>sp (vs++dvs) H1 Q E
def Binds (K:PySem.W.Frag) (fd:FuncData) (ps:List Str) (ds:List Value):Prop :=
  ∀ (s:Shared) (us:List Value),K.In s.heap→(us++ds).length=ps.length→BindsTo s fd ⟨us,[]⟩ (ps.zip (us++ds))
theorem Binds.all {K:PySem.W.Frag} {fd:FuncData} {ps:List Str} (h:∀ us:List Value,us.length=ps.length→bindArgs fd ⟨us,[]⟩=pure (ps.zip us)):Binds K fd ps []:=fun s us _ hl=>by
  rw [List.append_nil] at hl ⊢
  exact .of_eq (h us hl)
def Passes (CX:CXT) (X:Cx) (E:XK):Prop:=∀ (pins:List (Addr×Obj)) (σ:St) (H:Hp) (s:Shared) (e:Value) (s':Shared),Inv X pins σ H s→CX X.stack H s E e s'→X.xe e s'
section
variable {X:Cx} {CX:CXT} {k:Nat} {f C:Addr} {fd:FuncData} {ps:List Str} {sp:Sp} {dvs:List V} {ds:List Value} {E:XK} {x m:Str} {p pos apos:Pos} {e o:Expr} {es:List Expr} {ta:TE} {t:TA}
theorem qG {pins:List (Addr×Obj)} {σ:St} {H:Hp} {s:Shared} {Q:VK} {us:List Value} {vs:List V} (F:FnOk X.prog X.w X.K X.mg X.base CX k f fd ps sp) (hr:Room k X.A) (hb:Binds X.K fd ps ds) (hd:Vals dvs ds) (hx:Passes CX X E)
    (I:Inv X pins σ H s) (r:Vals vs us) (h:sp (vs++dvs) H Q E):wpAny (model X.prog X.w) X.A (call (.ref f) us) (EP X pins σ Q) X.xe s:=by
  have r2:Vals (vs++dvs) (us++ds):=r.append hd
  have hl:(us++ds).length=ps.length:=by rw [← r2.length]; exact F.len _ _ _ _ h
  refine wpAny_call (codeAny_mono (F.run X.A X.stack s H ⟨us,[]⟩ (us++ds) (vs++dvs) Q E hr I.env0 (hb s us I.kIn hl) r2 h) fun r s' hq=>?_)
  cases r with
  | error e=>exact hx pins σ H s e s' I hq
  | ok fl =>
    cases fl with
    | ret u=>exact I.after hq
    | next=>exact False.elim hq
    | brk=>exact False.elim hq
    | cont=>exact False.elim hq
theorem sJ (F:FnOk X.prog X.w X.K X.mg X.base CX k f fd ps sp) (hr:Room k X.A) (hg:Gl X x) (hm:X.mg x=some (.ref f)) (hk:PySem.W.keepIn X.K (.ref f)=true) (hb:Binds X.K fd ps ds) (hd:Vals dvs ds) (hx:Passes CX X E)
    (ha:PA X (e::es) t) (hdb:(x==("__debug__":Str))=false:=by decide) (he:starEach (e::es) X.env=(false,eval e X.env)::starEach es X.env:=by rfl) (hpl:(backTo pos (starEach es X.env)).any (·.1)=false:=by rfl) :
    PE X (.Call (.Name x p) (e::es) [] pos) (tCall sp dvs E t):=by
  intro pins s σ H Q I h
  refine wpAny_Call_Name_kw (iZ I hg hm ?_ hdb)
  refine PySem.W.callWith_K (h₀:=X.base) I.ok.mod.kin hk (thn (ha pos pins s σ H _ I h) fun us s1 ⟨vs,H1,I1,r,q⟩=>⟨I1.kIn,?_⟩) he hpl
  exact qG F hr hb hd hx I1 r q
end
section
variable {X:Cx} {CX:CXT} {k:Nat} {f C:Addr} {fd:FuncData} {ps ks:List Str} {sp:Sp} {E:XK} {x m:Str} {p pos apos kpos:Pos} {e o:Expr} {es:List Expr} {kws:List Keyword} {te ta:TE} {t tk:TA} {nm:Option Str}
variable {g:List Value→List Value→List Value} {gV:List V→List V→List V}
end
structure FnScope (N P:List Str) (sc:Scope):Prop where
  kind:sc.kind=.function
  co:sc.isCoroutine=false
  gen:sc.isGenerator=false
  nd:N.Nodup
  pre:N.take P.length=P
  par:∀ x∈P,sc.names.lookup x=some .local∨sc.names.lookup x=some .cell
  nofree:∀ y∈sc.names,y.2≠.free
theorem ko {kindOf:Str→Option NameKind} {x:Str}:∀ {binds:List (Str×Value)} {m:Str→Option Value},(∀ v,(x,v)∉binds)→bindL kindOf binds m x=m x
  | [],_,_=>rfl
  | (n,v)::r,m,h=>by
    unfold bindL
    rw [ko fun w hw=>h w (List.mem_cons_of_mem _ hw)]
    split
    · have:x≠n:=by rintro rfl; exact h v List.mem_cons_self
      simp [this]
    · rfl
theorem kq {kindOf:Str→Option NameKind} {x:Str}:∀ {binds:List (Str×Value)} {m:Str→Option Value},(∀ v,(x,v)∉binds)→bindC kindOf binds m x=m x
  | [],_,_=>rfl
  | (n,v)::r,m,h=>by
    unfold bindC
    rw [kq fun w hw=>h w (List.mem_cons_of_mem _ hw)]
    split
    · rfl
    · have:x≠n:=by rintro rfl; exact h v List.mem_cons_self
      simp [this]
theorem kr {kindOf:Str→Option NameKind} {x:Str} {v:Value}:∀ {P:List Str} {vs:List Value} {i:Nat} {m:Str→Option Value},P.Nodup→P[i]?=some x→vs[i]?=some v→kindOf x=some .local →
    bindL kindOf (P.zip vs) m x=some v
  | [],_,_,_,_,h,_,_=>by simp at h
  | _::_,[],_,_,_,_,h,_=>by simp at h
  | p::P,w::vs,0,m,nd,h1,h2,hk=>by
    simp at h1 h2; subst h1; subst h2
    show bindL kindOf ((p,w)::P.zip vs) m p=_
    unfold bindL
    rw [ko fun v hv=>(List.nodup_cons.mp nd).1 (List.of_mem_zip hv).1,if_pos hk]
    simp
  | p::P,w::vs,i+1,m,nd,h1,h2,hk=>by
    show bindL kindOf ((p,w)::P.zip vs) m x=_
    unfold bindL
    exact kr (i:=i) (List.nodup_cons.mp nd).2 (by simpa using h1) (by simpa using h2) hk
theorem ku {kindOf:Str→Option NameKind} {x:Str} {v:Value}:∀ {P:List Str} {vs:List Value} {i:Nat} {m:Str→Option Value},P.Nodup→P[i]?=some x→vs[i]?=some v→kindOf x≠some .local →
    bindC kindOf (P.zip vs) m x=some v
  | [],_,_,_,_,h,_,_=>by simp at h
  | _::_,[],_,_,_,_,h,_=>by simp at h
  | p::P,w::vs,0,m,nd,h1,h2,hk=>by
    simp at h1 h2; subst h1; subst h2
    show bindC kindOf ((p,w)::P.zip vs) m p=_
    unfold bindC
    rw [kq fun v hv=>(List.nodup_cons.mp nd).1 (List.of_mem_zip hv).1,if_neg hk]
    simp
  | p::P,w::vs,i+1,m,nd,h1,h2,hk=>by
    show bindC kindOf ((p,w)::P.zip vs) m x=_
    unfold bindC
    exact ku (i:=i) (List.nodup_cons.mp nd).2 (by simpa using h1) (by simpa using h2) hk
def start (N:List Str) (vs:List V):St:=vs.map some++List.replicate (N.length - vs.length) none
def cxOf (CX:CXT) (P:Program) (w:World) (K:PySem.W.Frag) (mg:Str→Option Value) (base:Heap) (N:List Str) (qual:Str) (scope:Scope) (f:Addr) (cd:Value) (A:Around) (outer:List Env) (s:Shared) (H:Hp) (E:XK):Cx where
  prog:=P
  w:=w
  K:=K
  mg:=mg
  base:=base
  A:=A.deeper (envOfC qual scope s.heap.objs.size f cd)
  N:=N
  s₀:=s
  H₀:=H
  env:=envOfC qual scope s.heap.objs.size f cd
  outer:=outer
  stack:=envOfC qual scope s.heap.objs.size f cd::outer
  ex:=[]
  calm:=true
  fn:=fun _=>true
  pn:=[]
  xe:=fun e s'=>wpAny (model P w) (A.deeper (envOfC qual scope s.heap.objs.size f cd)) (leaving (envOfC qual scope s.heap.objs.size f cd) e) (fun _ s''=>CX outer H s E e s'') (fun e' s''=>CX outer H s E e' s'') s'
theorem lC {sc:Scope} {n:Nat} {x:Str} (h:sc.names.lookup x=some .cell):∃ c,(cellsFrom n sc.names []).lookup x=some c:=by
  have q:=PySem.W.cellsFrom_some sc.names n [] (.inl h)
  exact Option.isSome_iff_exists.mp q
theorem o6 {CX:CXT} {P:Program} {w:World} {K:PySem.W.Frag} {mg:Str→Option Value} {base:Heap} {N ps:List Str} {qual:Str} {scope:Scope} {f:Addr} {cd:Value} {A:Around} {outer:List Env} {s s1:Shared} {H:Hp} {E:XK} {us:List Value} {vs:List V}
    (S:FnScope N ps scope) (hd:A.handled=none) (e0:Env0 P w K mg base A outer s H) (hl:vs.length=ps.length) (r:Vals vs us)
    (x:InCallC s s.heap.objs.size (bindL (envOfC qual scope s.heap.objs.size f cd).kindOf (ps.zip us) fun _=>none) (cellsFrom (s.heap.objs.size+1) scope.names []) (bindC (envOfC qual scope s.heap.objs.size f cd).kindOf (ps.zip us) fun _=>none) s1) :
    Inv (cxOf CX P w K mg base N qual scope f cd A outer s H E) [] (start N vs) H s1:=by
  have hpl:ps.length≤N.length:=by have:=congrArg List.length S.pre; rw [List.length_take] at this; omega
  obtain ⟨h1,tk,rfl,hk⟩:=x.done
  have noA:∀ b:Addr,b∉(cxOf CX P w K mg base N qual scope f cd A outer s H E).ex:=fun b z=>absurd (show b∈([]:List Addr) from z) (by simp)
  refine ⟨⟨e0.mod,S.kind,rfl,rfl,Nat.le_refl _,fun y z c h1 h2=>?_,fun y hy=>?_,fun y c _ h=>?_,fun _=>hd,Around.frames_deeper e0.frames,.inr ⟨rfl,rfl⟩,fun b z=>absurd z (noA b),e0.bs,e0.bsz,fun b _ _=>noA b,fun b z=>absurd z (noA b),e0.funs,e0.frf⟩,
    rfl,e0.bare,Un.kept hk,⟨_,x.toInCall.ns,fun i y v h1 h2 h3=>?_⟩,fun y c h=>⟨_,x.cell y c h⟩,e0.hok.fresh (Nat.le_refl _),fun y c h=>?_,fun p hp=>absurd (show p∈([]:List (Addr×Obj)) from hp) (by simp),e0.hok.kept hk,?_⟩
  · exact name_of_addr x.apart (PySem.mem_of_lookup h1) (PySem.mem_of_lookup h2)
  · have hy:scope.names.lookup y=some .cell∨scope.names.lookup y=some .free:=hy
    rcases hy with hy | hy
    · exact lC hy
    · exact absurd rfl (S.nofree _ (PySem.mem_of_lookup hy))
  · exact Nat.le_of_lt (x.above y c (PySem.mem_of_lookup h))
  · have hi:i < vs.length:=by
      unfold start at h2
      by_cases hi:i < vs.length
      · exact hi
      · rw [List.getElem?_append_right (by simpa using hi)] at h2
        rw [List.getElem?_replicate] at h2
        split at h2<;>cases h2
    have ha:vs[i]?=some v:=by
      unfold start at h2
      rw [List.getElem?_append_left (by simpa using hi),List.getElem?_map] at h2
      cases e:vs[i]? with
      | none=>rw [e] at h2; cases h2
      | some a=>rw [e] at h2; cases h2; rfl
    obtain ⟨u,hu,rv⟩:=r.get ha
    have hp:ps[i]?=some y:=by
      rw [← S.pre,List.getElem?_take_of_lt (by omega)]; exact h1
    have ndP:ps.Nodup:=by rw [← S.pre]; exact S.nd.sublist (List.take_sublist _ _)
    refine ⟨u,rv,?_⟩
    rcases S.par y (List.mem_of_getElem? hp) with k | k
    · exact .inl ⟨k,kr ndP hp hu k⟩
    · obtain ⟨c,e⟩:=lC (n:=s.heap.objs.size+1) k
      refine .inr ⟨.inl k,c,e,?_⟩
      have q:=x.cell y c e
      rw [ku ndP hp hu (by show scope.names.lookup y≠_; rw [k]; decide)] at q
      exact q
  · exact e0.hok.fresh (Nat.le_of_lt (x.above y c (PySem.mem_of_lookup h)))
  · unfold start
    show _=N.length
    rw [List.length_append,List.length_map,List.length_replicate]
    omega
theorem uw {CX:CXT} {P:Program} {w:World} {K:PySem.W.Frag} {mg:Str→Option Value} {base:Heap} {k:Nat} {f:Addr} {name qual:Str} {params:Arguments} {body:List Stmt} {scope:Scope} {dV kV doc pm cdv ct oc:Value} {an od:Option Addr}
    {osl:Array (Option Value)} {N ps:List Str} {sp:Sp} (lk:K.lookup f=some ⟨oc,od,.func (PySem.W.fnOf name qual params body scope dV kV doc pm an cdv ct),osl⟩) (hcd:PySem.W.codeIn K cdv qual=true) (S:FnScope N ps scope)
    (len:∀ vs H Q E,sp vs H Q E→vs.length=ps.length)
    (hbody:∀ (A:Around) (outer:List Env) (s:Shared) (H:Hp) (vs:List V) (Q:VK) (E:XK),Room k (A.deeper (envOfC qual scope s.heap.objs.size f cdv))→sp vs H Q E →
      ∃ t,PSs (cxOf CX P w K mg base N qual scope f cdv A outer s H E) body t∧t { nx:=fun _ H'=>Q .non H',rt:=Q } (start N vs) H) :
    FnOk P w K mg base CX (k+1) f (PySem.W.fnOf name qual params body scope dV kV doc pm an cdv ct) ps sp:=by
  refine ⟨len,fun A outer s H args us vs Q E hr e0 hb r hsp=>?_⟩
  have hl:=len _ _ _ _ hsp
  have KX:K.In s.heap:=e0.mod.kin.keeps fun b o e=>(e0.bs b o e).1
  have lim:s.heap.NoLimit:=e0.mod.nolimit.keeps fun b o e=>(e0.bs b o e).1
  have hkind:∀ y∈ps.zip us,scope.names.lookup y.1=some .local∨(scope.names.lookup y.1=some .cell∧((cellsFrom (s.heap.objs.size+1) scope.names []).lookup y.1).isSome=true):=fun ⟨n,v⟩ hy=>by
    rcases S.par n (List.of_mem_zip hy).1 with q | q
    · exact .inl q
    · exact .inr ⟨q,PySem.W.cellsFrom_some _ _ _ (.inl q)⟩
  refine codeAny_call_function hr.depth (KX _ _ lk) rfl S.co S.gen rfl (PySem.W.codeRec_of KX hcd) (hb _ _ _ _ ?_)
  refine wpAny_newFunctionEnv_cells S.kind hkind fun env he s1 x=>?_
  subst he
  refine ⟨lim.keeps x.toInCall.keep,codeAny_func ?_⟩
  obtain ⟨t,ht,hq⟩:=hbody A outer s H vs Q E (hr.deeper _) hsp
  have I:Inv (cxOf CX P w K mg base N qual scope f cdv A outer s H E) [] (start N vs) H s1:=o6 S hr.hd e0 hl r x
  refine wpAny_mono (ht [] s1 (start N vs) H _ I hq) (fun fl s' hs=>?_) fun e s' hs=>hs
  have fin:∀ {σ':St} {H':Hp} {v:V} {u:Value},Inv (cxOf CX P w K mg base N qual scope f cdv A outer s H E) [] σ' H' s'→RelV v u→Q v H'→CE outer P w H s Q u s' :=
    fun {σ' H' v u} J rv q=>⟨v,H',J.os,J.bare,J.base,J.hok,rv,q⟩
  cases fl with
  | ret u =>
    obtain ⟨v,σ',H',J,rv,q⟩:=hs
    exact fin J rv q
  | next =>
    obtain ⟨σ',H',J,q⟩:=hs
    exact fin (v:=V.non) (u:=Value.none) J rfl q
  | brk =>
    obtain ⟨_,_,_,q⟩:=hs
    exact False.elim q
  | cont =>
    obtain ⟨_,_,_,q⟩:=hs
    exact False.elim q
end L2
namespace L2
open PySem PySem.Spec PyProof.Rows
section
variable {X:Cx} {x:Str} {p pos:Pos} {e:Expr} {es:List Expr} {t:TA} {id T:String} {r:List V→Hp→VK→Prop}
def tCB (r:List V→Hp→VK→Prop) (t:TA):TE:=fun σ H Q=>t σ H fun vs H1=>r vs H1 Q
theorem jb (hc:CallR X (.builtin id) r) (hg:Gl X x) (hm:X.mg x=none) (hv:bootBuiltins x=some (.builtin id)) (ha:PA X (e::es) t) (hn:x ≠ "__name__" := by decide) (hdb:(x==("__debug__":Str))=false:=by decide)
    (he:starEach (e::es) X.env=(false,eval e X.env)::starEach es X.env:=by rfl) (hpl:(backTo pos (starEach es X.env)).any (·.1)=false:=by rfl):PE X (.Call (.Name x p) (e::es) [] pos) (tCB r t):=by
  intro pins s σ H Q I h
  refine wpAny_Call_Name_kw (f8 I hg hm hv ?_ hn hdb)
  exact PyProof.Rows.callWith_builtin1 (thn (ha pos pins s σ H _ I h) fun us s1 ⟨vs,H1,I1,r1,q1⟩=>hc pins s1 σ H1 vs us Q I1 r1 q1) he hpl
theorem kv (hc:CallR X (.type T) r) (hg:Gl X x) (hm:X.mg x=none) (hv:bootBuiltins x=some (.type T)) (ha:PA X (e::es) t) (hn:x ≠ "__name__" := by decide) (hdb:(x==("__debug__":Str))=false:=by decide)
    (he:starEach (e::es) X.env=(false,eval e X.env)::starEach es X.env:=by rfl) (hpl:(backTo pos (starEach es X.env)).any (·.1)=false:=by rfl):PE X (.Call (.Name x p) (e::es) [] pos) (tCB r t):=by
  intro pins s σ H Q I h
  refine wpAny_Call_Name_kw (f8 I hg hm hv ?_ hn hdb)
  exact PyProof.Rows.callWith_type1 (thn (ha pos pins s σ H _ I h) fun us s1 ⟨vs,H1,I1,r1,q1⟩=>hc pins s1 σ H1 vs us Q I1 r1 q1) he hpl
end
end L2
namespace HT
open PySem PyProof.Rows
section
open PySem.SeqAt
open PySem.AutoSeq1 (wpAny_loadPart')
open PySem.MeetsSeq PySem.MeetsSeq2 PySem.MeetsSeq3
end
section
variable {prog:Program} {w:World} {A:Around} {E:Value→Shared→Prop} {s:Shared}
theorem sK {t b:Addr} {vs ws:List Value} {Q:Value→Shared→Prop} (ht:IsTup s.heap t vs.toArray) (hb:IsTup s.heap b ws.toArray) (hv:vs≠[])
    (h1:ws=[]→Q (.ref t) s) (h2:ws≠[]→Q (.ref s.heap.objs.size) { s with heap:=s.heap.push { cls:=.type "tuple",data:=.seq (vs++ws).toArray } })
    (hsz:vs.length+ws.length≤sizeLine):wpAny (model prog w) A (binaryOp .Add (.ref t) (.ref b)) Q E s:=by
  obtain ⟨⟨cls,dd,data,sl⟩,ho,hc,n,hd⟩:=id ht
  obtain ⟨⟨cls2,dd2,data2,sl2⟩,ho2,hc2,n2,hd2⟩:=id hb
  simp only at hc hd hc2 hd2
  subst hc hd hc2 hd2
  have e:vs.toArray++ws.toArray=(vs++ws).toArray:=by simp
  by_cases hw:ws=[]
  · exact concat_meets ⟨_,ho,rfl⟩ ⟨_,ho2,rfl⟩ noFill_tuple_add seq_tuple_add PySem.F.slot_tuple_add PySem.F.entry_tuple_add (PySem.F.args_tuple_add_2 _ _)
      (tuple_addW1 t b vs.toArray ws.toArray n n2 dd dd2 sl sl2 (by simpa using hv) (by simp [hw])) ⟨ho,ho2,h1 hw⟩
  · refine concat_meets ⟨_,ho,rfl⟩ ⟨_,ho2,rfl⟩ noFill_tuple_add seq_tuple_add PySem.F.slot_tuple_add PySem.F.entry_tuple_add (PySem.F.args_tuple_add_2 _ _)
      (tuple_addW2 t b vs.toArray ws.toArray n n2 dd dd2 sl sl2 (by simpa using hv) (by simpa using hw) (by rw [List.size_toArray,List.size_toArray]; exact hsz)) ⟨ho,ho2,?_⟩
    rw [e]
    exact h2 hw
def sIx (n d:Nat):Option Int→Nat
  | none=>d
  | some v=>if v < 0 then (v+(n:Int)).toNat else min v.toNat n
theorem lD (n d:Nat):sIx n d none=d:=rfl
theorem u6 (n d:Nat) (hd:d≤n) (o:Option Int):sIx n d o≤n:=by
  cases o with
  | none=>exact hd
  | some v =>
    show (if v < 0 then (v+(n:Int)).toNat else min v.toNat n)≤n
    by_cases hv:v < 0
    · rw [if_pos hv]; omega
    · rw [if_neg hv]; exact Nat.min_le_right _ _
theorem oo (v:Int) (n d:Nat):(if v < 0 then max (v+(n:Int)) 0 else min v (n:Int))=((sIx n d (some v):Nat):Int):=by
  show (if v < 0 then max (v+(n:Int)) 0 else min v (n:Int))=(((if v < 0 then (v+(n:Int)).toNat else min v.toNat n):Nat):Int)
  by_cases hv:v < 0
  · simp only [if_pos hv]; omega
  · simp only [if_neg hv]; omega
theorem m8 (lo hi:Option Int) (n:Nat):Builtin.Slice.sliceAdjust lo hi 1 (n:Int)=(((sIx n 0 lo:Nat):Int),((sIx n n hi:Nat):Int)):=by
  have h1:¬ ((1:Int) < 0):=by omega
  unfold Builtin.Slice.sliceAdjust
  simp only [h1,if_false]
  refine Prod.ext ?_ ?_
  · cases lo with
    | none=>rfl
    | some v=>exact oo v n 0
  · cases hi with
    | none=>rfl
    | some v=>exact oo v n n
theorem m9 (i j:Nat):Builtin.Slice.slicePlaces (i:Int) (j:Int) 1=j - i:=by
  unfold Builtin.Slice.slicePlaces
  have h1:(1:Int) > 0:=by omega
  simp only [h1,if_true,Int.ediv_one]
  split<;>omega
theorem jc {v:Value} {o:Option Int} {Q:Option Int→Shared→Prop} (p:IsPart v o) (h:Q o s):wpAny (model prog w) A (Builtin.Slice.slicePartIndex v) Q E s:=by
  cases p with
  | none=>exact slicePart_none h
  | int i t=>exact slicePart_int h
theorem eF {sl:Addr} {vl vu:Value} {lo hi:Option Int} {n:Nat} {Q:Int×Int×Nat→Shared→Prop} (hs:s.heap.IsSliceOf sl vl vu .none) (pl:IsPart vl lo) (pu:IsPart vu hi)
    (h:Q (((sIx n 0 lo:Nat):Int),1,sIx n n hi - sIx n 0 lo) s):wpAny (model prog w) A (Builtin.Slice.sliceApplied (.ref sl) (pure (n:Int))) Q E s:=by
  obtain ⟨os,hos,hcs,hds⟩:=id hs
  unfold Builtin.Slice.sliceApplied Builtin.Slice.sliceFields
  refine wpAny_bind (wpAny_bind (wpAny_field hos hds (x:=vl) rfl (wpAny_bind (wpAny_field hos hds (x:=vu) rfl (wpAny_bind (wpAny_field hos hds (x:=.none) rfl (wpAny_pure ?_)))))))
  refine wpAny_bind (slicePart_none ?_)
  show wpAny _ _ (if ((1:Int)==0)=true then _ else _) _ _ s
  rw [if_neg (by decide)]
  refine wpAny_bind (jc pl (wpAny_bind (jc pu (wpAny_bind (wpAny_pure ?_)))))
  show wpAny _ _ (match Builtin.Slice.sliceAdjust lo hi 1 (n:Int) with | (lo,hi)=>pure (lo,(1:Int),Builtin.Slice.slicePlaces lo hi 1)) _ _ s
  rw [m8 lo hi n]
  show wpAny _ _ (pure (((sIx n 0 lo:Nat):Int),(1:Int),Builtin.Slice.slicePlaces ((sIx n 0 lo:Nat):Int) ((sIx n n hi:Nat):Int) 1)) _ _ s
  rw [m9]
  exact wpAny_pure h
theorem qH (xs:Array Value) (i k:Nat):((List.range k).filterMap fun (m:Nat)=>xs[((i:Int)+(m:Int)*1).toNat]?).toArray=((xs.toList.drop i).take k).toArray:=by
  have e:(fun (m:Nat)=>xs[((i:Int)+(m:Int)*1).toNat]?)=fun m=>xs[i+m]?:=by
    funext m
    have:((i:Int)+(m:Int)*1).toNat=i+m:=by omega
    rw [this]
  rw [e]
  have:=pick_run xs i k
  rw [List.filterMap_map] at this
  have e2:((fun x=>xs[x]?)∘fun x=>i+x)=fun m=>xs[i+m]?:=rfl
  rw [e2] at this
  rw [this]
theorem gp {t sl:Addr} {items:Array Value} {vl vu:Value} {lo hi:Option Int} {Q:Value→Shared→Prop} (ht:IsTup s.heap t items) (hs:s.heap.IsSliceOf sl vl vu .none) (pl:IsPart vl lo) (pu:IsPart vu hi)
    (hw:¬ (sIx items.size 0 lo=0∧sIx items.size items.size hi=items.size))
    (h:Q (.ref s.heap.objs.size) { s with heap:=s.heap.push { cls:=.type "tuple",data:=.seq ((items.toList.drop (sIx items.size 0 lo)).take (sIx items.size items.size hi - sIx items.size 0 lo)).toArray } })
    (hsz:items.size≤sizeLine):wpAny (model prog w) A (getItem (.ref t) (.ref sl)) Q E s:=by
  have htake:sizeOk (.seq ((items.toList.drop (sIx items.size 0 lo)).take (sIx items.size items.size hi - sIx items.size 0 lo)).toArray):=by
    show ((items.toList.drop (sIx items.size 0 lo)).take (sIx items.size items.size hi - sIx items.size 0 lo)).toArray.size≤sizeLine
    rw [List.size_toArray,List.length_take,List.length_drop,Array.length_toList]
    omega
  have hj:sIx items.size items.size hi≤items.size:=u6 _ _ (Nat.le_refl _) hi
  obtain ⟨os,hos,hcs,hds⟩:=id hs
  have hTs:s.TypeIs (.ref sl) "slice" := ⟨os,hos,hcs⟩
  unfold getItem
  try with_reducible refine wpAny_holding ?_
  first | refine wpAny_bind (wpAny_pure ?_) | skip
  refine wpAny_bind (wpAny_sequenceKey ht.typeIs (by decide) ?_)
  refine wpAny_bind (wpAny_callSpecial?_slot (name:=Str.ofString "__getitem__") ht.typeIs PyProof.Rows.slot_tuple_getitem
    (wpAny_call_entry PyProof.Rows.slot_tuple_getitem ht.typeIs entry_tuple_getitem ?_ (args_tuple_getitem _ _)))
  show wpAny _ _ (Builtin.Tuple.tupleItemsOf (.ref t) >>= _) _ _ s
  refine wpAny_bind (tupleItemsOf_ ht ?_)
  refine wpAny_bind (wpAny_typeOf hTs ?_)
  rw [if_pos (by decide)]
  refine wpAny_bind (eF hs pl pu ?_)
  have hno:¬ ((((sIx items.size 0 lo:Nat):Int)==0&&(1:Int)==1&&(sIx items.size items.size hi - sIx items.size 0 lo)==items.size)=true):=by
    intro q
    rw [Bool.and_eq_true,Bool.and_eq_true] at q
    have q1:((sIx items.size 0 lo:Nat):Int)=0:=eq_of_beq q.1.1
    have q2:sIx items.size items.size hi - sIx items.size 0 lo=items.size:=eq_of_beq q.2
    exact hw ⟨by omega,by omega⟩
  show wpAny _ _ (if (((sIx items.size 0 lo:Nat):Int)==0&&(1:Int)==1&&(sIx items.size items.size hi - sIx items.size 0 lo)==items.size)=true then _ else _) _ _ s
  rw [if_neg hno,qH]
  first
    | exact wpAny_bind (m:=Builtin.Tuple.tupleExact _) (wpAny_newObj_type (wpAny_pure ⟨_,rfl,wpAny_pure h⟩) htake)
    | exact wpAny_bind (m:=Builtin.Tuple.tupleExact _) (wpAny_newObj_type (wpAny_bind (wpAny_pure (wpAny_pure ⟨_,rfl,wpAny_pure h⟩))) htake)
    | exact wpAny_bind (wpAny_bind (m:=Builtin.Tuple.tupleExact _) (wpAny_newObj_type (wpAny_pure (wpAny_pure ⟨_,rfl,wpAny_pure h⟩)) htake))
    | exact wpAny_bind (wpAny_bind (m:=Builtin.Tuple.tupleExact _) (wpAny_newObj_type (wpAny_pure ⟨_,rfl,wpAny_pure h⟩) htake))
end
end HT
namespace L2
open PySem PySem.Spec PyProof.Rows
abbrev TO:=St→Hp→(Option Int→Hp→Prop)→Prop
def PO (X:Cx) (e:Option Expr) (t:TO):Prop :=
  ∀ (pins:List (Addr×Obj)) (s:Shared) (σ:St) (H:Hp) (Q:Option Int→Hp→Prop),Inv X pins σ H s→t σ H Q →
    wpAny (model X.prog X.w) X.A (evalPart e X.env) (fun u s'=>∃ o H',Inv X pins σ H' s'∧IsPart u o∧Q o H') X.xe s
def tNoPart:TO:=fun _ H Q=>Q none H
def tPart (t:TE):TO:=fun σ H Q=>t σ H fun x H1=>∃ i,x=.int i∧Q (some i) H1
section
variable {X:Cx} {e:Expr} {te:TE} {lo hi:Option Expr} {tl th:TO} {pos p2:Pos}
theorem sL:PO X none tNoPart:=by
  intro pins s σ H Q I h
  rw [evalPart_none]
  exact wpAny_pure ⟨none,H,I,.none,h⟩
theorem sM (h:PE X e te):PO X (some e) (tPart te):=by
  intro pins s σ H Q I hw
  rw [evalPart_some]
  refine thn (h pins s σ H _ I hw) fun u s1 ⟨x,H1,I1,r1,q1⟩=>?_
  obtain ⟨i,rfl,q⟩:=q1
  obtain ⟨t,rfl⟩:=r1
  exact ⟨some i,H1,I1,.int i t,q⟩
def SlR (X:Cx) (r:V→Option Int→Option Int→Hp→VK→Prop):Prop :=
  ∀ (pins:List (Addr×Obj)) (s:Shared) (σ:St) (H:Hp) (x:V) (v vl vu:Value) (lo hi:Option Int) (sl:Addr) (Q:VK),Inv X pins σ H s→RelV x v→s.heap.IsSliceOf sl vl vu .none→IsPart vl lo→IsPart vu hi→r x lo hi H Q →
    ∃ T id,typeLookup (.type T) "__getitem__"=pure (some (.builtin id))∧s.TypeIs v T∧wpAny (model X.prog X.w) X.A (getItem v (.ref sl)) (EP X pins σ Q) X.xe s
theorem SlR.or {r r':V→Option Int→Option Int→Hp→VK→Prop} (h:SlR X r) (h':SlR X r'):SlR X (fun x lo hi H Q=>r x lo hi H Q∨r' x lo hi H Q):=by
  intro pins s σ H x v vl vu lo hi sl Q I rx hs pl pu q
  rcases q with q | q
  · exact h pins s σ H x v vl vu lo hi sl Q I rx hs pl pu q
  · exact h' pins s σ H x v vl vu lo hi sl Q I rx hs pl pu q
def tSl (r:V→Option Int→Option Int→Hp→VK→Prop) (te:TE) (tl th:TO):TE:=fun σ H Q=>te σ H fun x H1=>tl σ H1 fun l H2=>th σ H2 fun u H3=>r x l u H3 Q
theorem qI {r:V→Option Int→Option Int→Hp→VK→Prop} (hr:SlR X r) (he:PE X e te) (hl:PO X lo tl) (hu:PO X hi th):PE X (.Subscript e (.Slice lo hi none p2) pos) (tSl r te tl th):=by
  intro pins s σ H Q I h
  refine Subscript_ (thn (he pins s σ H _ I h) fun v s1 ⟨x,H1,I1,r1,q1⟩=>?_)
  refine wpAny_Slice (thn (hl pins s1 σ H1 _ I1 q1) fun vl s2 ⟨l,H2,I2,pl,q2⟩=>thn (hu pins s2 σ H2 _ I2 q2) fun vu s3 ⟨u,H3,I3,pu,q3⟩=>?_)
  rw [evalPart_none]
  refine wpAny_pure ?_
  have I4:Inv X pins σ H3 { s3 with heap:=s3.heap.push { cls:=.type "slice",data:=.fields #[vl,vu,.none] } }:=I3.kept (t':=s3.toks) fun b ob q=>Heap.get?_push_of_some _ q
  obtain ⟨T,id,hT,ht,hg⟩:=hr pins { s3 with heap:=s3.heap.push { cls:=.type "slice",data:=.fields #[vl,vu,.none] } } σ H3 x v vl vu l u s3.heap.objs.size Q I4 r1 (Heap.IsSliceOf.new ..) pl pu q3
  show wpAny (model X.prog X.w) X.A (subscriptTail e (.Slice lo hi none p2) v (.ref s3.heap.objs.size)) (EP X pins σ Q) X.xe { s3 with heap:=s3.heap.push { cls:=.type "slice",data:=.fields #[vl,vu,.none] } }
  exact tail_any (ops:=[.ref s3.heap.objs.size,v]) ht hT hg (by with_unfolding_all rfl)
def cutV (xs:List V) (lo hi:Option Int):List V:=(xs.drop (HT.sIx xs.length 0 lo)).take (HT.sIx xs.length xs.length hi - HT.sIx xs.length 0 lo)
theorem iF (xs:List V) (lo hi:Option Int):(cutV xs lo hi).length≤xs.length:=by
  unfold cutV
  rw [List.length_take,List.length_drop]
  omega
def rSlT (K:PySem.W.Frag):V→Option Int→Option Int→Hp→VK→Prop:=fun x lo hi H Q=>∃ a xs,x=.ref a∧SqT K H a xs ∧
  ¬ (HT.sIx xs.length 0 lo=0∧HT.sIx xs.length xs.length hi=xs.length)∧∀ p,H p=none→Q (.ref p) (upd H p (.tup (cutV xs lo hi)))
theorem u7:SlR X (rSlT X.K):=by
  intro pins s σ H x v vl vu lo hi sl Q I rx hs pl pu h
  obtain ⟨a,xs,rfl,hx,hw,q⟩:=h
  cases rx
  obtain ⟨its,r,ht,hz⟩:=I.tuple hx
  have hlen:its.toArray.size=xs.length:=by rw [List.size_toArray]; exact r.length.symm
  refine ⟨"tuple",_,PyProof.Rows.slot_tuple_getitem.lookup,ht.typeIs,?_⟩
  refine HT.gp ht hs pl pu (by rw [hlen]; exact hw) ?_ (by rw [hlen]; exact hz)
  rw [hlen]
  refine ⟨.ref s.heap.objs.size,_,I.laid (t':=s.toks) (o:=.tup (cutV xs lo hi)) (fun b ob q=>Heap.get?_push_of_some _ q) (Nat.le_refl _) ?_,rfl,q _ (I.hok.fresh (Nat.le_refl _))⟩
  exact ⟨Nat.le_trans (iF xs lo hi) hz,_,(r.drop (HT.sIx xs.length 0 lo)).take (HT.sIx xs.length xs.length hi - HT.sIx xs.length 0 lo),IsTup.new _ _⟩
def rCatT (K:PySem.W.Frag):R2:=fun x y H Q=>∃ a b xs ys,x=.ref a∧y=.ref b∧SqT K H a xs∧SqT K H b ys∧xs≠[]∧xs.length+ys.length≤sizeLine ∧
  (ys=[]→Q (.ref a) H)∧(ys≠[]→∀ p,H p=none→Q (.ref p) (upd H p (.tup (xs++ys))))
theorem Vals.nil_iff {xs:List V} {us:List Value} (r:Vals xs us):us=[]↔xs=[]:=by
  cases r with
  | nil=>simp
  | cons _ _=>simp
theorem sN:OpR X (binaryOp .Add) (rCatT X.K):=by
  intro pins s σ H x y v u Q I rx ry h
  obtain ⟨a,b,xs,ys,rfl,rfl,ha,hb,hx,hz,q1,q2⟩:=h
  cases rx
  cases ry
  obtain ⟨its,r1,p1,_⟩:=I.tuple ha
  obtain ⟨its2,r2,p2,_⟩:=I.tuple hb
  refine HT.sK p1 p2 (fun z=>hx (r1.nil_iff.mp z)) (fun z=>⟨.ref a,H,I,rfl,q1 (r2.nil_iff.mp z)⟩) (fun z=>?_) (by rw [← r1.length,← r2.length]; exact hz)
  refine ⟨.ref s.heap.objs.size,_,I.laid (t':=s.toks) (o:=.tup (xs++ys)) (fun b ob q=>Heap.get?_push_of_some _ q) (Nat.le_refl _) ?_,rfl,q2 (fun w=>z (r2.nil_iff.mpr w)) _ (I.hok.fresh (Nat.le_refl _))⟩
  exact ⟨by rw [List.length_append]; exact hz,_,r1.append r2,IsTup.new _ _⟩
end
end L2
namespace L2
open PySem PySem.Spec PyProof.Rows
def ixN (n:Nat) (i:Int):Option Nat:=if 0≤i then (if i < n then some i.toNat else none) else if -(n:Int)≤i then some (i+n).toNat else none
def atI {α:Type} (xs:List α) (i:Int):Option α:=(ixN xs.length i).bind fun j=>xs[j]?
theorem sO {n:Nat} {i:Int} {j:Nat} (h:ixN n i=some j):seqIndex? i n=some j∧j < n∧-(n:Int)≤i∧i < n:=by
  unfold ixN at h
  by_cases h0:0≤i
  · rw [if_pos h0] at h
    by_cases h1:i < n
    · rw [if_pos h1] at h
      have e:i.toNat=j:=Option.some.inj h
      exact ⟨by rw [seqIndex_of h0 h1,e],by omega,by omega,h1⟩
    · rw [if_neg h1] at h; cases h
  · rw [if_neg h0] at h
    by_cases h1 : -(n:Int)≤i
    · rw [if_pos h1] at h
      have e:(i+n).toNat=j:=Option.some.inj h
      exact ⟨by rw [seqIndex_neg (by omega) h1,e],by omega,h1,by omega⟩
    · rw [if_neg h1] at h; cases h
theorem kR {α:Type} {xs:List α} {i:Int} {v:α} (h:atI xs i=some v):∃ j,seqIndex? i xs.length=some j∧xs[j]?=some v∧j < xs.length∧-(xs.length:Int)≤i∧i < xs.length:=by
  unfold atI at h
  cases e:ixN xs.length i with
  | none=>rw [e] at h; cases h
  | some j =>
    rw [e] at h
    obtain ⟨h1,h2,h3,h4⟩:=sO e
    exact ⟨j,h1,h,h2,h3,h4⟩
theorem oq {α:Type} {xs:List α} {j:Nat} {v:α} (h:xs[j]?=some v):atI xs (j:Int)=some v:=by
  have hj:j < xs.length:=(List.getElem?_eq_some_iff.mp h).1
  have e:ixN xs.length (j:Int)=some j:=by
    unfold ixN
    rw [if_pos (by omega),if_pos (by omega)]; simp
  unfold atI; rw [e]; exact h
def PlainIx (b:Expr):Prop:=∀ o i,subscripted b false o i=operate [o,i] (getItem o i)
def IxR (X:Cx) (r:R2):Prop :=
  ∀ (value slice:Expr) (pins:List (Addr×Obj)) (s:Shared) (σ:St) (H:Hp) (x y:V) (v u:Value) (Q:VK),Inv X pins σ H s→RelV x v→RelV y u→r x y H Q →
    subscripted slice false v u=operate [v,u] (getItem v u)→wpAny (model X.prog X.w) X.A (subscriptTail value slice v u) (EP X pins σ Q) X.xe s
def MtR (X:Cx) (id:String) (r:V→List V→Hp→VK→Prop):Prop :=
  ∀ (pins:List (Addr×Obj)) (s:Shared) (σ:St) (H:Hp) (x:V) (xs:List V) (v:Value) (us:List Value) (Q:VK),Inv X pins σ H s→RelV x v→Vals xs us→r x xs H Q →
    wpAny (model X.prog X.w) X.A (call (.builtin id) (v::us)) (EP X pins σ Q) X.xe s
section
variable {X:Cx} {a b:Expr} {ta tb:TE} {pos:Pos}
theorem IxR.or {r r':R2} (h:IxR X r) (h':IxR X r'):IxR X (fun x y H Q=>r x y H Q∨r' x y H Q):=by
  intro value slice pins s σ H x y v u Q I rx ry q hs
  rcases q with q | q
  · exact h value slice pins s σ H x y v u Q I rx ry q hs
  · exact h' value slice pins s σ H x y v u Q I rx ry q hs
theorem ux {r:R2} (hr:IxR X r) (ha:PE X a ta) (hb:PE X b tb) (hs:PlainIx b):PE X (.Subscript a b pos) (tOp r ta tb):=by
  intro pins s σ H Q I h
  exact Subscript_ (binT ha hb I h fun v u s2 x y H2 I2 rx ry q=>hr a b pins s2 σ H2 x y v u Q I2 rx ry q (hs _ _))
def rIxL (K:PySem.W.Frag):R2:=fun x y H Q=>∃ p xs i v,x=.ref p∧y=.int i∧SqL K H p xs∧atI xs i=some v∧Q v H
def rIxT (K:PySem.W.Frag):R2:=fun x y H Q=>∃ p xs i v,x=.ref p∧y=.int i∧SqT K H p xs∧atI xs i=some v∧Q v H
def rIxS:R2:=fun x y H Q=>∃ z i c,x=.str z∧y=.int i∧z.length≤sizeLine∧atI z.cps.toList i=some c∧Q (.str ⟨#[c]⟩) H
theorem ot:IxR X (rIxL X.K):=by
  intro value slice pins s σ H x y v u Q I rx ry h hs
  obtain ⟨p,xs,i,z,rfl,rfl,hq,he,q⟩:=h
  cases rx
  obtain ⟨t,rfl⟩:=ry
  obtain ⟨its,r,pl,hz⟩:=I.list hq
  obtain ⟨j,h1,h2,h3,h4,h5⟩:=kR he
  obtain ⟨w,ew,rw'⟩:=r.get h2
  have hl:=r.length
  have hn:=line63
  have fin:EP X pins σ Q w s:=⟨z,H,I,rw',q⟩
  by_cases h0:0≤i
  · have hj:i.toNat=j:=by
      rw [seqIndex_of h0 h5] at h1
      exact Option.some.inj h1
    exact item_listR pl.isList h0 (by omega) (by rw [hj]; simpa using ew) fin hs
  · have hj:(i+(its.toArray.size:Int)).toNat=j:=by
      rw [seqIndex_neg (by omega) h4] at h1
      rw [List.size_toArray,← hl]
      exact Option.some.inj h1
    exact subscriptTail_builtinR (x:=w) pl.isList.typeIs slot_list_getitem.lookup
      (wpAny_getItem_list_neg (Q:=fun r s'=>r=w∧EP X pins σ Q r s') pl.isList (by omega) (by rw [List.size_toArray]<;>omega) (by omega) (by rw [hj]; simpa using ew) ⟨rfl,fin⟩) hs
theorem u8:IxR X (rIxT X.K):=by
  intro value slice pins s σ H x y v u Q I rx ry h hs
  obtain ⟨p,xs,i,z,rfl,rfl,hq,he,q⟩:=h
  cases rx
  obtain ⟨t,rfl⟩:=ry
  obtain ⟨its,r,pl,hz⟩:=I.tuple hq
  obtain ⟨j,h1,h2,h3,h4,h5⟩:=kR he
  obtain ⟨w,ew,rw'⟩:=r.get h2
  have hl:=r.length
  have hn:=line63
  have fin:EP X pins σ Q w s:=⟨z,H,I,rw',q⟩
  exact subscriptTail_builtinR (x:=w) pl.typeIs slot_tuple_getitem.lookup
    (getItem_tuple (j:=j) (Q:=fun r s'=>r=w∧EP X pins σ Q r s') pl (by omega) (by omega) (by rw [List.size_toArray,← hl]; exact h1) (by simpa using ew) ⟨rfl,fin⟩) hs
theorem u9:IxR X rIxS:=by
  intro value slice pins s σ H x y v u Q I rx ry h hs
  obtain ⟨z,i,c,rfl,rfl,hz,he,q⟩:=h
  obtain ⟨t,rfl⟩:=rx
  obtain ⟨t',rfl⟩:=ry
  obtain ⟨j,h1,h2,h3,h4,h5⟩:=kR he
  have hl:z.cps.toList.length=z.length:=by simp [Str.length]
  rw [hl] at h1 h4 h5
  have hn:=line63
  exact tail_any (typeIs_str s z t) slot_str_getitem.lookup (getItem_str (c:=c) (by
    have e1:decide (i < -(2^63:Int))=false:=decide_eq_false (by omega)
    have e2:decide (i≥2^63)=false:=decide_eq_false (by omega)
    rw [e1,e2,Bool.or_false]) (by rw [h1]; simpa using h2) ⟨.str ⟨#[c]⟩,H,I.tok _,⟨_,rfl⟩,q⟩) hs
def rIx (K:PySem.W.Frag):R2:=fun x y H Q=>rIxL K x y H Q∨rIxT K x y H Q∨rIxS x y H Q
theorem va:IxR X (rIx X.K):=ot.or (u8.or u9)
theorem Inv.lst {pins:List (Addr×Obj)} {σ:St} {H:Hp} {s:Shared} {p:Addr} {xs:List V} (I:Inv X pins σ H s) (h:H p=some (.lst xs)) :
    ∃ (its:List Value) (n:Nat),Vals xs its∧s.heap.get? p=some { cls:=.type "list",data:=.seq its.toArray n }∧xs.length≤sizeLine:=by
  obtain ⟨z,its,n,r,e⟩:=I.hok p _ h
  exact ⟨its,n,r,e,z⟩
theorem kS (lo hi:Option Int) (n:Nat):(sliceBounds lo hi none n).1=((HT.sIx n 0 lo:Nat):Int)∧(sliceBounds lo hi none n).2.1=((HT.sIx n n hi:Nat):Int)∧(sliceBounds lo hi none n).2.2=1:=by
  refine ⟨?_,?_,rfl⟩
  · cases lo with
    | none=>simp [sliceBounds,HT.sIx]
    | some i =>
      simp only [sliceBounds,HT.sIx,Option.getD_none,show (1:Int) > 0 by decide,if_true]
      by_cases h:i < 0
      · simp only [h,if_true]<;>omega
      · simp only [h,if_false]<;>omega
  · cases hi with
    | none=>simp [sliceBounds,HT.sIx]
    | some i =>
      simp only [sliceBounds,HT.sIx,Option.getD_none,show (1:Int) > 0 by decide,if_true]
      by_cases h:i < 0
      · simp only [h,if_true]<;>omega
      · simp only [h,if_false]<;>omega
theorem j0 (its:List Value) (lo hi:Option Int):slicePick its.toArray lo hi none=((its.drop (HT.sIx its.length 0 lo)).take (HT.sIx its.length its.length hi - HT.sIx its.length 0 lo)).toArray:=by
  obtain ⟨h1,h2,h3⟩:=kS lo hi its.toArray.size
  unfold slicePick
  rw [h1,h2,h3]
  simp only [sliceRange_one,pick_run,List.size_toArray]<;>rfl
def rSlL (K:PySem.W.Frag):V→Option Int→Option Int→Hp→VK→Prop:=fun x lo hi H Q=>∃ a xs,x=.ref a∧SqL K H a xs∧∀ p,H p=none→Q (.ref p) (upd H p (.lst (cutV xs lo hi)))
theorem sP:SlR X (rSlL X.K):=by
  intro pins s σ H x v vl vu lo hi sl Q I rx hs pl pu h
  obtain ⟨a,xs,rfl,hx,q⟩:=h
  cases rx
  obtain ⟨its,r,ht,hz⟩:=I.list hx
  have hlen:=r.length
  refine ⟨"list",_,slot_list_getitem.lookup,ht.isList.typeIs,?_⟩
  refine wpAny_getItem_list_slice ht.isList hs pl pu .none (by simp) ?_ (by rw [List.size_toArray]<;>omega)
  rw [j0,← hlen]
  refine ⟨.ref s.heap.objs.size,_,I.laid (t':=s.toks) (o:=.lst (cutV xs lo hi)) (fun b ob q=>Heap.get?_push_of_some _ q) (Nat.le_refl _) ?_,rfl,q _ (I.hok.fresh (Nat.le_refl _))⟩
  exact ⟨Nat.le_trans (iF xs lo hi) hz,_,0,(r.drop (HT.sIx xs.length 0 lo)).take (HT.sIx xs.length xs.length hi - HT.sIx xs.length 0 lo),Heap.get?_push_size _ rfl⟩
def flatV:V→Bool
  | .non=>true
  | .bl _=>true
  | .int _=>true
  | .str _=>true
  | _=>false
def eqV:V→V→Bool
  | .non,.non=>true
  | .bl a,.bl b=>a==b
  | .bl a,.int b=>(if a then 1 else 0)==b
  | .int a,.bl b=>a==(if b then 1 else 0)
  | .int a,.int b=>a==b
  | .str a,.str b=>a==b
  | _,_=>false
theorem qJ {A:Around} {s:Shared} {y x:V} {u v:Value} (ry:RelV y u) (rx:RelV x v) (fy:flatV y=true) (fx:flatV x=true):SeqAt.EqAt A s u v (eqV y x):=by
  cases y with
  | non =>
    cases ry
    cases x with
    | non=>cases rx; exact SeqAt.EqAt.same _
    | bl b=>cases rx; exact SeqAt.EqAt.none_bool b
    | int b=>obtain ⟨t,rfl⟩:=rx; exact SeqAt.EqAt.none_int b t
    | str b=>obtain ⟨t,rfl⟩:=rx; exact SeqAt.EqAt.none_str b t
    | _=>exact absurd (show false=true from fx) Bool.false_ne_true
  | bl a =>
    cases ry
    cases x with
    | non=>cases rx; exact SeqAt.EqAt.bool_none a
    | bl b=>cases rx; exact SeqAt.EqAt.bool_bool a b
    | int b=>obtain ⟨t,rfl⟩:=rx; exact SeqAt.EqAt.bool_int a b t
    | str b=>obtain ⟨t,rfl⟩:=rx; exact SeqAt.EqAt.bool_str a b t
    | _=>exact absurd (show false=true from fx) Bool.false_ne_true
  | int a =>
    obtain ⟨t',rfl⟩:=ry
    cases x with
    | non=>cases rx; exact SeqAt.EqAt.int_none a t'
    | bl b=>cases rx; exact SeqAt.EqAt.int_bool a t' b
    | int b=>obtain ⟨t,rfl⟩:=rx; exact SeqAt.EqAt.int_int a t' b t
    | str b=>obtain ⟨t,rfl⟩:=rx; exact SeqAt.EqAt.int_str a t' b t
    | _=>exact absurd (show false=true from fx) Bool.false_ne_true
  | str a =>
    obtain ⟨t',rfl⟩:=ry
    cases x with
    | non=>cases rx; exact SeqAt.EqAt.str_none a t'
    | bl b=>cases rx; exact SeqAt.EqAt.str_bool a t' b
    | int b=>obtain ⟨t,rfl⟩:=rx; exact SeqAt.EqAt.str_int a t' b t
    | str b=>obtain ⟨t,rfl⟩:=rx; exact SeqAt.EqAt.str_str a t' b t
    | _=>exact absurd (show false=true from fx) Bool.false_ne_true
  | _=>exact absurd (show false=true from fy) Bool.false_ne_true
theorem kT:CallR X (.builtin "len") (fun xs H Q=>∃ p ys,xs=[.ref p]∧(SqL X.K H p ys∨SqT X.K H p ys)∧Q (.int ys.length) H):=by
  intro pins s σ H xs us Q I r h
  obtain ⟨p,ys,rfl,hq,q⟩:=h
  obtain ⟨u,rfl,rx⟩:=vals1 r
  cases rx
  have hn:=line63
  rcases hq with hq | hq
  · obtain ⟨its,r',pl,hz⟩:=I.list hq
    have hlen:=r'.length
    exact Calls.call_len_list pl.isList (by simp only [List.size_toArray]<;>omega) ⟨.int ys.length,H,I.tok _,⟨s.toks+1,by rw [List.size_toArray,hlen]⟩,q⟩
  · obtain ⟨its,r',pl,hz⟩:=I.tuple hq
    have hlen:=r'.length
    exact len_tuple pl (by simp only [List.size_toArray]<;>omega) ⟨.int ys.length,H,I.tok _,⟨s.toks+1,by rw [List.size_toArray,hlen]⟩,q⟩
theorem j3:CallR X (.type "tuple") (fun xs H Q=>∃ p ys,xs=[.ref p]∧((SqL X.K H p ys∧∀ l,H l=none→Q (.ref l) (upd H l (.tup ys)))∨(SqT X.K H p ys∧Q (.ref p) H))):=by
  intro pins s σ H xs us Q I r h
  obtain ⟨p,ys,rfl,h⟩:=h
  obtain ⟨u,rfl,rx⟩:=vals1 r
  cases rx
  rcases h with ⟨hq,q⟩ | ⟨hq,q⟩
  · obtain ⟨its,r',pl,hz⟩:=I.list hq
    have hlen:=r'.length
    refine call_tuple_list pl.isList (fun h' kp=>?_) (by simp only [List.size_toArray]<;>omega)
    have I1:Inv X pins σ H { s with heap:=h' }:=I.kept (t':=s.toks) kp
    have I2:Inv X pins σ (upd H h'.objs.size (.tup ys)) { s with heap:=h'.push { cls:=.type "tuple",data:=.seq its.toArray } } :=
      I1.laid (t':=s.toks) (fun b o e=>Heap.get?_push_of_some _ e) (Nat.le_refl _) (show ObjOk X.prog X.w _ _ _ (.tup ys) from ⟨hz,its,r',IsTup.new _ _⟩)
    exact ⟨.ref h'.objs.size,_,I2,rfl,q _ (I1.hok.fresh (Nat.le_refl _))⟩
  · obtain ⟨its,r',pl,hz⟩:=I.tuple hq
    exact call_tuple_same pl ⟨.ref p,H,I,rfl,q⟩
def tyV (K:PySem.W.Frag) (T:String) (x:V) (H:Hp):Prop:=match x with
  | .str _=>T="str"
  | .int _=>T="int"
  | .ref p=>(T="list" ∧ ∃ xs,SqL K H p xs)∨(T="tuple" ∧ ∃ o,K.lookup p=some o∧o.cls=.type "tuple" ∧ o.dict=none) ∨
      (T="dict" ∧ ((∃ kvs,H p=some (.dK kvs))∨∃ kvs,H p=some (.dT kvs)))∨(T="set" ∧ ∃ S n,H p=some (.set S n))
  | _=>False
theorem vb {pins:List (Addr×Obj)} {σ:St} {H:Hp} {s:Shared} {T:String} {x:V} {v:Value} (I:Inv X pins σ H s) (r:RelV x v) (ty:tyV X.K T x H) :
    s.TypeIs v T∧∀ a,v=.ref a→∃ ob,s.heap.get? a=some ob∧ob.dict=none:=by
  cases x with
  | str z =>
    obtain ⟨t,rfl⟩:=r
    cases (show T="str" from ty)
    exact ⟨typeIs_str s z t,fun _ e=>nomatch e⟩
  | int i =>
    obtain ⟨t,rfl⟩:=r
    cases (show T="int" from ty)
    exact ⟨typeIs_int s i t,fun _ e=>nomatch e⟩
  | ref p =>
    cases r
    rcases ty with ⟨rfl,xs,hq⟩ | ⟨rfl,o,hk,hc,hd⟩ | ⟨rfl,hk⟩ | ⟨rfl,S,n,hk⟩
    · obtain ⟨its,_,pl,_⟩:=I.list hq
      refine ⟨pl.isList.typeIs,fun a e=>?_⟩
      cases e
      obtain ⟨o,n,e,c,hd,_⟩:=pl
      exact ⟨o,e,hd⟩
    · refine ⟨⟨o,I.kIn p o hk,hc⟩,fun a e=>?_⟩
      cases e
      exact ⟨o,I.kIn _ o hk,hd⟩
    · have z:∃ o,s.heap.get? p=some o∧o.ExactDict:=by
        rcases hk with ⟨kvs,hk⟩ | ⟨kvs,hk⟩
        · obtain ⟨_,_,_,_,o,_,_,e,ex,_⟩:=I.hok p _ hk
          exact ⟨o,e,ex⟩
        · obtain ⟨_,_,_,_,o,_,_,e,ex,_⟩:=I.hok p _ hk
          exact ⟨o,e,ex⟩
      obtain ⟨o,e,ex⟩:=z
      refine ⟨⟨o,e,ex.1⟩,fun a e2=>?_⟩
      cases e2
      exact ⟨o,e,ex.2.1⟩
    · obtain ⟨o,_,_,_,e,ex,_⟩:=I.hok p _ hk
      refine ⟨⟨o,e,ex.1⟩,fun a e2=>?_⟩
      cases e2
      exact ⟨o,e,ex.2.1⟩
  | _=>exact False.elim ty
def tBM (K:PySem.W.Frag) (T:String) (r:V→List V→Hp→VK→Prop) (to:TE) (t:TA):TE:=fun σ H Q=>to σ H fun x H1=>tyV K T x H1∧t σ H1 fun xs H2=>r x xs H2 Q
variable {o e:Expr} {es:List Expr} {to:TE} {t:TA} {name:Str} {apos cpos:Pos} {T id:String} {r:V→List V→Hp→VK→Prop}
theorem lE (pa:PlainAttrs T) (slot:Slot T name id) (hty:typeOf (.builtin id)=pure (.type "method_descriptor")) (hm:MtR X id r) (ho:PE X o to) (ha:PA X (e::es) t)
    (hbase:attributeBase o name X.env (eval o X.env)=eval o X.env:=by rfl)
    (hfew:((backTo cpos (starEach (e::es) X.env)).all (fun x=>!x.1)&&(backToKw cpos (keywordEach [] X.env)).all (fun x=>x.1.isSome)
      && decide ((e::es).length+([]:List Keyword).length+(if ([]:List Keyword).isEmpty then 0 else 1) < 30))=true:=by rfl)
    (hline:(apos.endLine==cpos.line)=true:=by rfl) (hs:starEach (e::es) X.env=(false,eval e X.env)::starEach es X.env:=by rfl) (hplain:(backTo cpos (starEach es X.env)).any (·.1)=false:=by rfl) :
    PE X (.Call (.Attribute o name apos) (e::es) [] cpos) (tBM X.K T r to t):=by
  intro pins s σ H Q I h
  refine wpAny_Call_method_late hbase hfew hline rfl (thn (ho pins s σ H _ I h) fun v s1 ⟨x,H1,I1,r1,ty,q1⟩=>?_)
  obtain ⟨h1,h2⟩:=vb I1 r1 ty
  refine ⟨T,id,pa,slot,hty,h1,h2,?_⟩
  have hA:=ha cpos pins s1 σ H1 _ I1 q1
  rw [hs] at hA ⊢
  refine Calls.callWith_builtin (by show (false||(backTo cpos (starEach es X.env)).any (·.1))=false; rw [hplain]<;>rfl) (Calls.evalArgs_plain ?_)
  exact thn hA fun us s2 ⟨vs,H2,I2,r2,q2⟩=>hm pins s2 σ H2 x vs v us Q I2 r1 r2 q2
end
end L2
namespace L2
open PySem PySem.Spec PyProof.Rows
def MtM (X:Cx) (id:String) (r:V→List V→Hp→VK→Prop):Prop :=
  ∀ (pins:List (Addr×Obj)) (s:Shared) (σ:St) (H:Hp) (x:V) (xs:List V) (v:Value) (us:List Value) (Q:VK),Inv X pins σ H s→RelV x v→Vals xs us→r x xs H Q →
    wpAny (model X.prog X.w) X.A (call (.builtin id) (v::us)) (EP X pins σ Q) X.xe s
theorem Vals.one:∀ {x:V} {us:List Value},Vals [x] us→∃ u,us=[u]∧RelV x u
  | _,_,.cons r .nil=>⟨_,rfl,r⟩
theorem Vals.rep {xs:List V} {us:List Value} (h:Vals xs us):∀ k:Nat,Vals (List.replicate k xs).flatten (List.replicate k us).flatten
  | 0=>.nil
  | k+1=>by
    rw [List.replicate_succ,List.replicate_succ,List.flatten_cons,List.flatten_cons]
    exact Vals.append h (Vals.rep h k)
theorem g7 (its:List Value):∀ (k:Nat) (acc:List Value),
    List.foldl (fun x1 x2=>x1++x2) acc.toArray (List.replicate k its.toArray)=(acc++(List.replicate k its).flatten).toArray
  | 0,acc=>by simp
  | k+1,acc=>by
    have e:acc.toArray++its.toArray=(acc++its).toArray:=by simp
    have e2:(acc++its)++(List.replicate k its).flatten=acc++(List.replicate (k+1) its).flatten:=by
      rw [List.replicate_succ,List.flatten_cons,List.append_assoc]
    rw [← e2,← g7 its k (acc++its),← e,List.replicate_succ,List.foldl_cons]
section
variable {X:Cx} {pins:List (Addr×Obj)} {σ:St} {H:Hp} {s:Shared} {l b:Addr} {xs ys zs:List V}
theorem Inv.lset {its its':List Value} {n:Nat} {f:Array Value→Array Value} {t':Nat} (I:Inv X pins σ H s) (hH:H l=some (.lst xs))
    (e:s.heap.get? l=some { cls:=.type "list",data:=.seq its.toArray n }) (hf:f its.toArray=its'.toArray) (hv:Vals ys its') (hz:ys.length≤sizeLine) :
    Inv X pins σ (upd H l (.lst ys)) { s with heap:=s.heap.update l (Obj.mapSeq f),toks:=t' }:=by
  have q:=PySem.IsL.update e f
  rw [hf] at q
  refine I.write (x:=l) (e:=l) (by rw [hH]; exact trivial) (.inl rfl) (fun b' u hb hu=>(Heap.get?_update_other s.heap (Obj.mapSeq f) (Ne.symm hb)).trans hu) ⟨_,q⟩ ?_
  exact ⟨hz,its',_,hv,q⟩
theorem Inv.lnew {its:List Value} {t':Nat} (I:Inv X pins σ H s) (hv:Vals ys its) (hz:ys.length≤sizeLine) :
    Inv X pins σ (upd H s.heap.objs.size (.lst ys)) { s with heap:=s.heap.push { cls:=.type "list",data:=.seq its.toArray },toks:=t' } :=
  I.laid (fun _ _ q=>Heap.get?_push_of_some _ q) (Nat.le_refl _) ⟨hz,its,0,hv,Heap.get?_push_size _ rfl⟩
theorem Inv.fresh (I:Inv X pins σ H s):H s.heap.objs.size=none:=I.hok.fresh (Nat.le_refl _)
theorem Inv.lstM (I:Inv X pins σ H s) (hH:H l=some (.lst xs)):xs.length≤sizeLine∧∃ (its:List Value) (n:Nat),Vals xs its∧xs.length=its.length∧s.heap.get? l=some { cls:=.type "list",data:=.seq its.toArray n }:=by
  obtain ⟨z,its,n,r,e⟩:=I.hok l _ hH
  exact ⟨z,its,n,r,r.length,e⟩
theorem notLongL {n:Nat} (h:n≤sizeLine):Builtin.List.listTooLong n=false:=by
  unfold Builtin.List.listTooLong
  exact decide_eq_false (by omega)
end
section
variable {X:Cx}
def rAppend:V→List V→Hp→VK→Prop:=fun x vs H Q=>∃ l xs y,x=.ref l∧vs=[y]∧H l=some (.lst xs)∧xs.length < sizeLine∧Q .non (upd H l (.lst (xs++[y])))
theorem kx:MtM X "list.append" rAppend:=by
  intro pins s σ H x vs v us Q I rx rv h
  obtain ⟨l,xs,y,rfl,rfl,hH,hz,q⟩:=h
  cases rx
  obtain ⟨u,rfl,ru⟩:=rv.one
  obtain ⟨z,its,n,r,hl,e⟩:=I.lstM hH
  refine call_meets F.slot_list_append ⟨_,e,rfl⟩ F.entry_list_append (F.args_list_append_2 _ _) (PySem.list_append l its.toArray n u (by rw [List.size_toArray]; omega)) ⟨e,?_⟩
  refine ⟨.non,_,I.lset (its':=its++[u]) hH e (by simp) (r.append (.cons ru .nil)) ?_,rfl,q⟩
  rw [List.length_append,List.length_singleton]
  omega
theorem ou {α:Type} (xs:List α) (k:Nat):(List.replicate k xs).flatten.length=k*xs.length:=by
  induction k with
  | zero=>simp
  | succ k ih=>rw [List.replicate_succ,List.flatten_cons,List.length_append,ih,Nat.succ_mul,Nat.add_comm]
end
section
variable {prog:Program} {w:World} {A:Around} {E:Value→Shared→Prop} {s:Shared}
set_option maxRecDepth 100000 in
end
section
variable {X:Cx}
end
end L2
namespace Att
open PySem PySem.W PySem.Calls PyProof.Rows
theorem iM {P:Params} {h:Heap}:∀ (ns:List Int) (vs:List Value),WellAll P h vs (ns.map WData.int)→IntsAre vs ns:=by
  intro ns
  induction ns with
  | nil =>
    intro vs w
    rw [List.map_nil] at w
    cases w
    exact .nil
  | cons n ns ih =>
    intro vs w
    rw [List.map_cons] at w
    cases w with
    | cons a b =>
      cases a
      exact .cons _ _ (ih _ b)
theorem o7 {l:OpenLaw} {n:Nat} (hn:l.most=some n) {P:Params} {h:Heap} {args:List WData} {vals:List Value}
    (hpre:l.row.toRowW.claim.pre args=true) (hwl:WellAll P h vals args) :
    ∃ a vs ns,vals=[Value.ref a]∧args=[WData.list (ns.map WData.int)]∧h.get? a=some { cls:=.type "list",data:=.seq vs.toArray }∧IntsAre vs ns∧ns.length≤n:=by
  have hsh:WShape.hasAll [] args [.list .int]=true:=(pre_splitW hpre).1
  have hc:l.pre.holds [] { args:=args }=true:=(pre_splitW hpre).2
  obtain ⟨d,r,rfl,h1,h2⟩:=hasAllW_cons hsh
  obtain rfl:=hasAllW_nil h2
  obtain ⟨xs,rfl,h3⟩:=hasW_list h1
  obtain ⟨ns,rfl⟩:=items_int h3
  have hlen:ns.length≤n:=by
    unfold OpenLaw.pre at hc
    have h4:(WTm.not (.lt (.lit (.int (n:Int))) (.len (.arg 0)))).holds [] { args:=[.list (ns.map .int)] }=true:=by
      have h4:=(holds_andW hc).1
      rw [hn] at h4
      exact h4
    have h5:=condW_of h4 (w_not (w_lt w_lit (w_len_list (w_arg rfl))))
    rw [List.length_map] at h5
    refine Nat.le_of_not_lt fun q=>?_
    have q':(n:Int) < ((ns.length:Nat):Int):=by omega
    first
      | (rw [decide_eq_true q'] at h5; exact absurd h5 (by decide))
      | (simp at h5; omega)
  cases hwl with
  | cons w1 w2 =>
    cases w2
    cases w1 with
    | list ho hall=>exact ⟨_,_,ns,rfl,rfl,ho,iM ns _ hall,hlen⟩
theorem o8 (l:OpenLaw) (args:List WData):l.row.toRowW.claim.post args (.bool true) args=true :=
  postW_of (r:=l.row.toRowW) (X:=(true==true))
    (show WShape.has [] (.bool true) .bool=true by first | rfl | decide | simp [WShape.has,WShape.arms,WShape.armsAll])
    (show (WTm.eq .res (.lit (.bool true))).value [] { args:=args,res:=some (.bool true),after:=args }=some (.bool (true==true)) from w_eq_bool (w_res rfl) w_lit) rfl
theorem attach_call {l:OpenLaw} {n:Nat} {q:Program} {loose:List Str} {XP:(Str→Option Value)→Heap→Prop} {YP:World→Heap→Prop} {d:DefRec}
    (hn:l.most=some n) (hdf:d.params.defaults=[])
    (call:∀ (w:World) (s₀ s₁:Shared) (mg mb:Str→Option Value) (fa:Addr) (o:Obj) (pm cd doc:Value) (a:Addr) (vs:List Value) (ns:List Int),
      Ground q loose [] XP w s₀ mg mb s₁.heap→YP w s₁.heap →
      s₁.heap.get? fa=some o→o.data=.func (docDef d.name d.params d.body d.scope pm cd doc)→s₁.heap.CodeRec cd d.name→mg d.name=some (.ref fa) →
      s₁.heap.get? a=some { cls:=.type "list",data:=.seq vs.toArray }→IntsAre vs ns→ns.length≤n→s₁.gens = #[] →
      codeAny (model l.prog w) callerA (.call (.ref fa) ⟨[.ref a],[]⟩) (fun r s'=>r=.ok (.ret (.bool true))∧OldK s₁.heap s'.heap∧s'.os=s₁.os∧AllBare s'.gens) s₁) :
    WalkO q loose XP YP l.row.toRowW d [] (fun f vs=>PySem.call f vs):=by
  intro w s₀ s₁ mg mb G Y fa o pm cd doc dV kV ho hd hcd hD hmg hg args vals as hpre hlay hrd hwl hlo
  obtain rfl:dV=.none:=Dflts.none hD hdf
  obtain rfl:kV=.none:=Dflts.noKw hD
  obtain ⟨a,vs,ns,rfl,rfl,hobj,hints,hlen⟩:=o7 hn hpre hwl
  refine enter_call (codeAny_mono (call w s₀ s₁ mg mb fa o pm cd doc a vs ns G Y ho (fd_plain hd) hcd hmg hobj hints hlen hg) fun r s' hq=>?_)
  obtain ⟨rfl,h2,h3,h4⟩:=hq
  exact ⟨.inl ⟨.bool true,.bool true,[],rfl,fun _=>rfl,.bool true,o8 l _,fun _=>⟨List.Pairwise.nil,fun _ hm=>(nomatch hm)⟩⟩,h2,h3,h4⟩
section
variable {prog:Program} {w:World} {A:Around} {E:Value→Shared→Prop} {s:Shared} {K:Frag}
theorem vM {x C:Addr} {ox:Obj} {es:List DictEntry} {n:Nat} {name:Str} {expr:Bool} {v:Value} {Q:Value→Shared→Prop}
    (X:K.In s.heap) (I:PySem.W.InstAt s.heap x ox C (some (dictOf es n))) (hg:plainGet K C name=true) (hh:hasDictIn K C=true) (ha:findIn K (.ref C) name=some none)
    (hl:getL name es=some (some v)) (hv:handedIn v=true) (h:Q v { s with toks:=s.toks+1 }):wpAny (model prog w) A (getAttr (.ref x) name expr) Q E s :=
  get_value X I (plainGet_of hg).1 (findObj_own hh ha rfl hl) hv h
end
end Att
namespace L2
open PySem PySem.Spec PyProof.Rows
theorem dv:∀ {vs:List Value} {ns:List Int},IntsAre vs ns→Vals (ns.map V.int) vs
  | _,_,.nil=>.nil
  | _,_,.cons n t h=>.cons ⟨t,rfl⟩ (dv h)
def Only (H:Hp):Prop:=∀ b,H b=none∨∃ o xs,H b=some (.frz o (.lst xs))
theorem qK {P:Program} {w:World} {K:PySem.W.Frag} {mg mb:Str→Option Value} {CX:CXT} {k:Nat} {fa a:Addr} {fd:FuncData} {x:Str} {sp:Sp} {s₁:Shared} {vs:List Value} {ns:List Int}
    (KX:K.In s₁.heap) (hns:s₁.heap.Ns mainGlobals mg) (hb:s₁.heap.Ns builtinsNs mb) (hbb:∀ x:Str,x ≠ "__name__" → mb x=bootBuiltins x) (hlim:s₁.heap.NoLimit) (hg:s₁.gens = #[])
    (ha:s₁.heap.get? a=some { cls:=.type "list",data:=.seq vs.toArray }) (hi:IntsAre vs ns) (hl:ns.length≤sizeLine) (hr:Room k callerA)
    (F:∀ base:Heap,K.In base→base.Ns mainGlobals mg→FnOk P w K mg base CX k fa fd [x] sp) (hbind:∀ (s:Shared) (u:Value),BindsTo s fd ⟨[u],[]⟩ [(x,u)])
    (hsp:∀ H:Hp,Only H→SqL K H a (ns.map V.int)→sp [.ref a] H (fun v _=>v=.bl true) fun _ _ _=>False)
    (hCX:∀ H e s',CX [] H s₁ (fun _ _ _=>False) e s'→False) :
    codeAny (model P w) callerA (.call (.ref fa) ⟨[.ref a],[]⟩) (fun r s'=>r=.ok (.ret (.bool true))∧OldK s₁.heap s'.heap∧s'.os=s₁.os∧AllBare s'.gens) s₁:=by
  have rv:=dv hi
  have lenV:=hi.length
  have core:∀ H:Hp,Only H→SqL K H a (ns.map V.int)→HOk P w H s₁.heap→(∀ b,H b≠none→b=a)→(H a≠none→K.lookup a=none) →
      codeAny (model P w) callerA (.call (.ref fa) ⟨[.ref a],[]⟩) (fun r s'=>r=.ok (.ret (.bool true))∧OldK s₁.heap s'.heap∧s'.os=s₁.os∧AllBare s'.gens) s₁:=by
    intro H hO hS hok hA hK
    have base_of:∀ {b:Addr} {o:Obj},s₁.heap.get? b=some o→H b=none→(hidT s₁.heap H).get? b=some o:=fun e n=>qw e n
    have noA:∀ {b:Addr} {o:Obj} {es:Array DictEntry} {ep:Nat},s₁.heap.get? b=some o→o.data=.dict es ep→H b=none:=fun {b o es ep} e d=>by
      cases q:H b with
      | none=>rfl
      | some u =>
        have e':b=a:=hA b (by rw [q]; simp)
        subst e'
        rw [ha] at e; cases e
        have d':Data.seq vs.toArray _=Data.dict es ep:=d
        cases d'
    have nsK:∀ {b:Addr} {m:Str→Option Value},s₁.heap.Ns b m→(hidT s₁.heap H).Ns b m:=fun {b m} ⟨o,es,ep,e,d,r⟩=>⟨o,es,ep,base_of e (noA e d),d,r⟩
    have hKb:K.In (hidT s₁.heap H):=fun b o e=>base_of (KX b o e) (by
      cases q:H b with
      | none=>rfl
      | some u =>
        have e':b=a:=hA b (by rw [q]; simp)
        subst e'
        rw [hK (by rw [q]; simp)] at e; cases e)
    have hM:Mod K mg (hidT s₁.heap H):=⟨hKb,nsK hns,⟨mb,nsK hb,hbb⟩,let ⟨mc,h1,h2⟩:=hlim; ⟨mc,nsK h1,h2⟩⟩
    have e0:Env0 P w K mg (hidT s₁.heap H) callerA [] s₁ H:=⟨rfl,hM,fun b o e=>sB e,Nat.le_of_eq (oY _ _),trivial,fun b hb=>absurd (show b∈([]:List Addr) from hb) (by simp),hok,.of_eq hg⟩
    refine codeAny_mono ((F _ hKb (nsK hns)).run callerA [] s₁ H ⟨[.ref a],[]⟩ [.ref a] [.ref a] _ _ hr e0 (hbind s₁ (.ref a)) (.cons rfl .nil) (hsp H hO hS)) fun r s' h=>?_
    cases r with
    | error e=>exact (hCX H e s' h).elim
    | ok fl =>
      cases fl with
      | next=>exact False.elim h
      | brk=>exact False.elim h
      | cont=>exact False.elim h
      | ret u =>
        obtain ⟨v,H',os,bare,un,hok',r',q⟩:=h
        have q':v=.bl true:=q
        subst q'
        obtain rfl:u=Value.bool true:=r'
        refine ⟨rfl,OldK.of_keep fun b o e=>?_,os,bare⟩
        cases q:H b with
        | none=>exact un.keep b o e q (by intro z; exact absurd (show b∈([]:List Addr) from z) (by simp)) (by simp)
        | some u =>
          rcases hO b with z | ⟨ob,xs,z⟩
          · rw [q] at z; cases z
          · have z2:=un.frzs b ob _ z
            obtain ⟨e1,_⟩:=hok b _ z
            obtain ⟨e2,_⟩:=hok' b _ z2
            rw [e] at e1; cases e1
            exact e2
  cases hk:K.lookup a with
  | some o =>
    have e:=KX a o hk
    rw [ha] at e
    cases e
    refine core (fun _=>none) (fun _=>.inl rfl) (.inr ⟨_,vs.toArray,_,hk,rfl,rfl,rfl,by rw [List.size_toArray,lenV]; exact hl,by simpa using rv⟩) (fun b u z=>by have z':(none:Option HO)=some u:=z; cases z') (fun b z=>absurd rfl z) fun z=>absurd rfl z
  | none =>
    refine core (fun b=>if b=a then some (.frz { cls:=.type "list",data:=.seq vs.toArray } (.lst (ns.map V.int))) else none) (fun b=>?_) (.inl (.inr ⟨{ cls:=.type "list",data:=.seq vs.toArray },if_pos rfl⟩)) (fun b u z=>?_) (fun b z=>?_) fun _=>hk
    · by_cases hb:b=a
      · exact .inr ⟨_,_,if_pos hb⟩
      · exact .inl (if_neg hb)
    · by_cases hb:b=a
      · have z':=(if_pos hb).symm.trans z
        cases z'
        subst hb
        exact ⟨ha,by rw [List.length_map]; exact hl,vs,_,rv,ha⟩
      · have z':=(if_neg hb).symm.trans z
        cases z'
    · by_cases hb:b=a
      · exact hb
      · exact absurd (if_neg hb) z
end L2
namespace L2
open PySem PySem.Spec PyProof.Rows
theorem sQ {l:PySem.W.OpenLaw} {n k:Nat} {q:Program} {loose:List Str} {XP:(Str→Option Value)→Heap→Prop} {YP:World→Heap→Prop} {d:DefRec} {K:Params→PySem.W.Frag} {CX:World→CXT} {sp:World→Sp} {x:Str}
    (hn:l.most=some n) (hn2:n≤sizeLine) (hdf:d.params.defaults=[]) (hr:Room k callerA)
    (hY:∀ (w:World) (h:Heap),YP w h→(K w.params).In h)
    (F:∀ (w:World) (mg:Str→Option Value) (fa:Addr) (h:Heap),(K w.params).In h→h.Ns mainGlobals mg→mg d.name=some (.ref fa) →
      ∃ fd:FuncData,(∀ (s:Shared) (u:Value),BindsTo s fd ⟨[u],[]⟩ [(x,u)]) ∧
        ∀ base:Heap,(K w.params).In base→base.Ns mainGlobals mg→FnOk l.prog w (K w.params) mg base (CX w) k fa fd [x] (sp w))
    (hsp:∀ (w:World) (H:Hp) (a:Addr) (ns:List Int),ns.length≤n→Only H→SqL (K w.params) H a (ns.map V.int)→sp w [.ref a] H (fun v _=>v=.bl true) fun _ _ _=>False)
    (hCX:∀ (w:World) (H:Hp) (s:Shared) (e:Value) (s':Shared),CX w [] H s (fun _ _ _=>False) e s'→False) :
    PySem.W.WalkO q loose XP YP l.row.toRowW d [] (fun f vs=>PySem.call f vs):=by
  refine Att.attach_call hn hdf fun w s₀ s₁ mg mb fa o pm cd doc a vs ns G Y ho hd hcd hmg hobj hints hlen hg=>?_
  have KX:=hY w _ Y
  obtain ⟨fd,hb,hF⟩:=F w mg fa _ KX G.T.g hmg
  exact qK KX G.T.g G.T.b G.T.builtins G.T.nolimit hg hobj hints (Nat.le_trans hlen hn2) hr hF hb (fun H hO hS=>hsp w H a ns hlen hO hS) fun H e s'=>hCX w H s₁ e s'
end L2
namespace L2
open PySem PySem.Spec PyProof.Rows
def defArgs (s:Stmt):Arguments:=match s with
  | .FunctionDef _ a _ _ _ _ _ _ _ _=>a
  | _=>{ posonlyargs:=[],args:=[],vararg:=none,kwonlyargs:=[],kw_defaults:=[],kwarg:=none,defaults:=[] }
def defBody (s:Stmt):List Stmt:=match s with
  | .FunctionDef _ _ b _ _ _ _ _ _ _=>b
  | _=>[]
def defScope (s:Stmt):Scope:=match s with
  | .FunctionDef _ _ _ _ _ _ sc _ _ _=>sc
  | _=>{ kind:=.function,names:=[],isGenerator:=false,isCoroutine:=false }
structure Fun (K:PySem.W.Frag) (x qual:Str) (st:Stmt) (f:Addr) (fd:FuncData):Prop where
  ex:∃ (oc:Value) (od:Option Addr) (kV doc pm:Value) (an:Option Addr) (cdv ct:Value) (osl:Array (Option Value)),
    fd=PySem.W.fnOf x qual (defArgs st) (defBody st) (defScope st) .none kV doc pm an cdv ct∧K.lookup f=some ⟨oc,od,.func fd,osl⟩∧PySem.W.codeIn K cdv qual=true
  kp:PySem.W.keepIn K (.ref f)=true
section
variable {P:Program} {w:World} {K:PySem.W.Frag} {mg:Str→Option Value} {base:Heap}
theorem Fun.binds {x qual:Str} {st:Stmt} {f:Addr} {fd:FuncData} {ps:List Str} (F:Fun K x qual st f fd)
    (h:∀ (kV doc pm:Value) (an:Option Addr) (cdv ct:Value) (us:List Value),us.length=ps.length→bindArgs (PySem.W.fnOf x qual (defArgs st) (defBody st) (defScope st) .none kV doc pm an cdv ct) ⟨us,[]⟩=pure (ps.zip us)):Binds K fd ps []:=by
  obtain ⟨oc,od,kV,doc,pm,an,cdv,ct,osl,rfl,lk,hcd⟩:=F.ex
  exact .all (h kV doc pm an cdv ct)
theorem na {x qual:Str} {st:Stmt} {f:Addr} {oc:Value} {od an:Option Addr} {osl:Array (Option Value)} {kV doc pm cdv ct:Value} (l:K.lookup f=some ⟨oc,od,.func (PySem.W.fnOf x qual (defArgs st) (defBody st) (defScope st) .none kV doc pm an cdv ct),osl⟩)
    (c:PySem.W.codeIn K cdv qual=true) (k:PySem.W.keepIn K (.ref f)=true):Fun K x qual st f (PySem.W.fnOf x qual (defArgs st) (defBody st) (defScope st) .none kV doc pm an cdv ct):=⟨⟨oc,od,kV,doc,pm,an,cdv,ct,osl,rfl,l,c⟩,k⟩
end
section
variable {X:Cx}
end
def Same (H H':Hp):Prop:=∀ b o,H b=some o→H' b=some o
theorem Same.refl (H:Hp):Same H H:=fun _ _ h=>h
theorem Same.trans {H H1 H2:Hp} (a:Same H H1) (b:Same H1 H2):Same H H2:=fun c o h=>b c o (a c o h)
theorem Same.free {H H':Hp} (e:Same H H') {l:Addr} (h:H' l=Option.none):H l=Option.none:=by
  cases q:H l with
  | none=>rfl
  | some o =>
    rw [e l o q] at h
    cases h
theorem Same.seq {K:PySem.W.Frag} {H H':Hp} {a:Addr} {xs:List V} (e:Same H H') (h:SqL K H a xs):SqL K H' a xs:=by
  rcases h with (h | ⟨o,h⟩) | h
  · exact .inl (.inl (e _ _ h))
  · exact .inl (.inr ⟨o,e _ _ h⟩)
  · exact .inr h
end L2
end
noncomputable section
namespace FF
abbrev St:=L2.St
end FF
set_option Elab.async false
set_option linter.all false
set_option maxRecDepth 100000
namespace FF
open PySem
open AutoSeq1 (wpAny_loadPart')
theorem g8:fillsNumberSlot (.type "tuple") "mul"=pure false :=
  fillsNumberSlot_seq (id := "tuple.__mul__") (r:=some (.builtin "tuple.__rmul__")) F.slot_tuple_mul.lookup (by decide +kernel) F.slot_tuple_rmul.lookup (by decide +kernel)
theorem kU:seqRepeat? (.type "tuple")=pure (some (.builtin "tuple.__mul__")):=by
  unfold seqRepeat?
  rw [seqSlot_of (T := "tuple") (name := "__mul__") (id := "tuple.__mul__") F.slot_tuple_mul.lookup (by decide +kernel),seqSlot_of (T := "tuple") (name := "__rmul__") (id := "tuple.__rmul__") F.slot_tuple_rmul.lookup (by decide +kernel)]
  rfl
theorem jd (a:Int) (t:Tok) (l:Addr) (items:Array Value) (n:Nat) (dd:Option Addr) (sl:Array (Option Value)) :
    Meets (Builtin.«int.__rmul__» ⟨[.int a t,.ref l],[]⟩) (fun _ R s=>s.heap.get? l=some { cls:=.type "tuple",dict:=dd,data:=.seq items n,slots:=sl }∧R (.ok (.ret Value.notImplemented)) s) :=
  .of_wp fun prog w A R s h=>by obtain ⟨hp,g,d,tk,os⟩:=s; obtain ⟨hl,h⟩:=h; wp_walk; exact ⟨_,rfl,h⟩
theorem j4 (l:Addr) (items:Array Value) (n:Nat) (k:Int) (t:Tok) (dd:Option Addr) (sl:Array (Option Value)) (h0:2≤k) (h1:k < 1000000) (hsz:items.size*k.toNat≤sizeLine) (hne:items.isEmpty=false) :
    Meets (Builtin.«tuple.__mul__» ⟨[.ref l,.int k t],[]⟩) (fun _ R s=>s.heap.get? l=some { cls:=.type "tuple",dict:=dd,data:=.seq items n,slots:=sl } ∧
      R (.ok (.ret (.ref s.heap.objs.size))) { s with heap:=s.heap.push { cls:=.type "tuple",data:=.seq (List.foldl (fun x1 x2=>x1++x2) #[] (List.replicate k.toNat items)) } }) :=
  .of_wp fun prog w A R s h=>by
    obtain ⟨hp,g,d,tk,os⟩:=s; obtain ⟨hl,h⟩:=h
    have f1:=AutoSeq1.idx_int
    have f2:=AutoSeq1.sub_tuple_tuple
    have c0:¬ (decide (k < -2^63)||decide (k≥2^63))=true:=by
      simp only [Bool.or_eq_true,decide_eq_true_eq]; omega
    have c1:¬ (items.isEmpty||k==1)=true:=by
      rw [hne,Bool.false_or,beq_iff_eq]; omega
    have c2:¬ (decide (k≤0)||items.isEmpty)=true:=by
      rw [hne,Bool.or_false,decide_eq_true_eq]; omega
    have hs:sizeLine=16777216:=sizeLine_eq
    have hk:(items.size:Int)*k=((items.size*k.toNat:Nat):Int):=by
      rw [Int.natCast_mul,Int.toNat_of_nonneg (by omega)]
    have c3:¬ ((items.size:Int)*k > (2^63 - 1)/8):=by
      rw [hk]; omega
    have c4:¬ Builtin.Tuple.tupleTooMany ((items.size:Int)*k)=true:=by
      rw [hk]
      unfold Builtin.Tuple.tupleTooMany
      simp only [decide_eq_true_eq]
      omega
    have hlen:(List.foldl (fun x1 x2=>x1++x2) #[] (List.replicate k.toNat items)).size≤sizeLine:=by
      have:∀ (m:Nat) (acc:Array Value),(List.foldl (fun x1 x2=>x1++x2) acc (List.replicate m items)).size=acc.size+m*items.size:=by
        intro m
        induction m with
        | zero=>intro acc; simp
        | succ m ih=>intro acc; rw [List.replicate_succ,List.foldl_cons,ih,Array.size_append,Nat.succ_mul]; omega
      rw [this,Nat.mul_comm]; simpa using hsz
    unfold Builtin.«tuple.__mul__»
    wp_walk using wpAny_loadPart' hl
    rw [if_neg c0]
    wp_walk using wpAny_loadPart' hl
    rw [if_neg c1]
    try wp_walk using wpAny_loadPart' hl
    rw [if_neg c2]
    try wp_walk using wpAny_loadPart' hl
    rw [if_neg c3]
    try wp_walk using wpAny_loadPart' hl
    rw [if_neg c4]
    try wp_walk using wpAny_loadPart' hl
    rw [if_neg (Nat.not_lt.mpr hlen)]
    try wp_walk using wpAny_loadPart' hl
    exact ⟨_,rfl,h⟩
theorem j5 (l:Addr) (items:Array Value) (n:Nat) (t:Tok) (dd:Option Addr) (sl:Array (Option Value)) :
    Meets (Builtin.«tuple.__mul__» ⟨[.ref l,.int 1 t],[]⟩) (fun _ R s=>s.heap.get? l=some { cls:=.type "tuple",dict:=dd,data:=.seq items n,slots:=sl }∧R (.ok (.ret (.ref l))) s) :=
  .of_wp fun prog w A R s h=>by
    obtain ⟨hp,g,d,tk,os⟩:=s; obtain ⟨hl,h⟩:=h
    have f1:=AutoSeq1.idx_int
    have f2:=AutoSeq1.sub_tuple_tuple
    have c1:(items.isEmpty||(1:Int)==1)=true:=by simp
    unfold Builtin.«tuple.__mul__»
    wp_walk using wpAny_loadPart' hl
    exact ⟨_,rfl,h⟩
theorem j6 (l:Addr) (n:Nat) (k:Int) (t:Tok) (dd:Option Addr) (sl:Array (Option Value)) (h0:0≤k) (h1:k < 1000000) :
    Meets (Builtin.«tuple.__mul__» ⟨[.ref l,.int k t],[]⟩) (fun _ R s=>s.heap.get? l=some { cls:=.type "tuple",dict:=dd,data:=.seq #[] n,slots:=sl }∧R (.ok (.ret (.ref l))) s) :=
  .of_wp fun prog w A R s h=>by
    obtain ⟨hp,g,d,tk,os⟩:=s; obtain ⟨hl,h⟩:=h
    have f1:=AutoSeq1.idx_int
    have f2:=AutoSeq1.sub_tuple_tuple
    have c0:¬ (decide (k < -2^63)||decide (k≥2^63))=true:=by
      simp only [Bool.or_eq_true,decide_eq_true_eq]; omega
    have c1:((#[]:Array Value).isEmpty||k==1)=true:=by simp
    unfold Builtin.«tuple.__mul__»
    wp_walk using wpAny_loadPart' hl
    rw [if_neg c0]
    wp_walk using wpAny_loadPart' hl
    exact ⟨_,rfl,h⟩
theorem je (l:Addr) (items:Array Value) (n:Nat) (t:Tok) (dd:Option Addr) (sl:Array (Option Value)) (hne:items.isEmpty=false) :
    Meets (Builtin.«tuple.__mul__» ⟨[.ref l,.int 0 t],[]⟩) (fun _ R s=>s.heap.get? l=some { cls:=.type "tuple",dict:=dd,data:=.seq items n,slots:=sl } ∧
      R (.ok (.ret (.ref s.heap.objs.size))) { s with heap:=s.heap.push { cls:=.type "tuple",data:=.seq #[] } }) :=
  .of_wp fun prog w A R s h=>by
    obtain ⟨hp,g,d,tk,os⟩:=s; obtain ⟨hl,h⟩:=h
    have f1:=AutoSeq1.idx_int
    have f2:=AutoSeq1.sub_tuple_tuple
    have c1:¬ (items.isEmpty||(0:Int)==1)=true:=by rw [hne]; decide
    have c2:(decide ((0:Int)≤0)||items.isEmpty)=true:=by simp
    unfold Builtin.«tuple.__mul__»
    wp_walk using wpAny_loadPart' hl
    exact ⟨_,rfl,h⟩
end FF
set_option maxRecDepth 100000
namespace FF
open PySem
theorem eY (env:Env):∀ (names:List (Str×NameKind)) (acc:List (Str×Addr)),(∀ y∈names,y.2=.free→∃ c,env.cells.lookup y.1=some c)→(∀ n c,acc.lookup n=some c→env.cells.lookup n=some c) →
    ∃ cl,(forIn names acc fun (x:Str×NameKind) (cs:List (Str×Addr))=>(do
        if x.2==.free then let a ← cellOf env x.1; pure (ForInStep.yield ((x.1,a)::cs)) else pure (ForInStep.yield cs):Sem (ForInStep (List (Str×Addr)))))=pure cl ∧
      (∀ n c,cl.lookup n=some c→env.cells.lookup n=some c)∧(∀ n c,acc.lookup n=some c→∃ c',cl.lookup n=some c')∧(∀ y∈names,y.2=.free→∃ c,cl.lookup y.1=some c)
  | [],acc,_,h=>⟨acc,rfl,h,fun n c e=>⟨c,e⟩,fun _ z=>nomatch z⟩
  | (n,k)::r,acc,hf,h=>by
    by_cases hk:k=.free
    · subst hk
      obtain ⟨c,hc⟩:=hf (n,.free) List.mem_cons_self rfl
      have h':∀ m d,List.lookup m ((n,c)::acc)=some d→env.cells.lookup m=some d:=fun m d e=>by
        by_cases q:(m==n)=true
        · have q':m=n:=eq_of_beq q
          simp only [List.lookup,q] at e
          cases e
          rw [q']; exact hc
        · have q':(m==n)=false:=by simpa using q
          simp only [List.lookup,q'] at e
          exact h m d e
      obtain ⟨cl,e1,e2,e3,e4⟩:=eY env r ((n,c)::acc) (fun y hy=>hf y (List.mem_cons_of_mem _ hy)) h'
      have self:List.lookup n ((n,c)::acc)=some c:=by simp [List.lookup]
      refine ⟨cl,?_,e2,fun m d e=>?_,fun y hy hy2=>?_⟩
      · rw [List.forIn_cons]
        have:cellOf env n=pure c:=by unfold cellOf; rw [hc]
        simp only [beq_self_eq_true,if_true,this]
        exact e1
      · by_cases q:(m==n)=true
        · have q':m=n:=eq_of_beq q
          rw [q']; exact e3 n c self
        · have q':(m==n)=false:=by simpa using q
          exact e3 m d (by simp only [List.lookup,q']; exact e)
      · rcases List.mem_cons.mp hy with z | z
        · subst z; exact e3 n c self
        · exact e4 y z hy2
    · have hb:(k==NameKind.free)=false:=by simpa using hk
      obtain ⟨cl,e1,e2,e3,e4⟩:=eY env r acc (fun y hy=>hf y (List.mem_cons_of_mem _ hy)) h
      refine ⟨cl,?_,e2,e3,fun y hy hy2=>?_⟩
      · rw [List.forIn_cons]
        simp only [hb,Bool.false_eq_true,if_false]
        exact e1
      · rcases List.mem_cons.mp hy with z | z
        · subst z; exact absurd hy2 hk
        · exact e4 y z hy2
theorem jf (scope:Scope) (env:Env) (h:∀ y∈scope.names,y.2=.free→∃ c,env.cells.lookup y.1=some c) :
    ∃ cl,closureFor scope env=pure cl∧(∀ n c,cl.lookup n=some c→env.cells.lookup n=some c)∧(∀ y∈scope.names,y.2=.free→∃ c,cl.lookup y.1=some c):=by
  obtain ⟨cl,e1,e2,_,e4⟩:=eY env scope.names [] h (fun n c e=>by simp at e)
  refine ⟨cl,?_,e2,e4⟩
  exact (congrArg (fun t:Sem (List (Str×Addr))=>t >>= fun s=>pure s) e1).trans rfl
end FF
set_option maxRecDepth 100000
namespace FF
open PySem
def tests (ifs:List Expr) (env:Env):Sem Bool:=match ifs with
  | []=>pure true
  | c::_=>isTrue c env (eval c env)
theorem o9 {prog:Program} {w:World} {A:Around} {R:Result→Shared→Prop} {s:Shared} {elt target iter:Expr} {ifs:List Expr} {scope:Scope} {pos:Pos} {it acc:Value} {env:Env} (hifs:ifs.length≤1) (W:Nat→Shared→Prop)
    (turn:∀ n s,W n s→wpAny (model prog w) A (pyNext it) (fun r s1=>match r with
      | none=>R (.ok .next) s1
      | some v=>wpAny (model prog w) A (letOwnedTupleGo target it v) (fun _ s2=>wpAny (model prog w) A (assign target env v) (fun _ s3=>wpAny (model prog w) A (tests ifs env) (fun ok s4 =>
          if ok=true then wpAny (model prog w) A (eval elt env) (fun x s5=>wpAny (model prog w) A (call (.builtin "list.append") [acc,x]) (fun _ s6=>∃ m,m < n∧W m s6) (fun _ _=>False) s5) (fun _ _=>False) s4
          else ∃ m,m < n∧W m s4) (fun _ _=>False) s3) (fun _ _=>False) s2) (fun _ _=>False) s1) (fun _ _=>False) s)
    (n:Nat) (h:W n s):codeAny (model prog w) A (.compLoop (.ListComp elt [⟨target,iter,ifs,0⟩] scope pos) 0 it acc env) R s:=by
  have weak:∀ {α:Type} {t:Sem α} {Q Q':α→Shared→Prop} {E:Value→Shared→Prop} {s:Shared},wpAny (model prog w) A t Q (fun _ _=>False) s→(∀ a s,Q a s→Q' a s)→wpAny (model prog w) A t Q' E s :=
    fun h k=>wpAny_mono h k fun _ _ z=>z.elim
  refine codeAny_loop rfl W (fun n s hW=>?_) n h
  show wpAny _ A ((compTurn (.ListComp elt [⟨target,iter,ifs,0⟩] scope pos) 0 it acc env).onRaise (fun x=>do noteFrame x env; theTreesLotGoes x)) _ _ s
  refine wpAny_noted ?_
  rw [compTurn_list]
  refine wpAny_bind (wpAny_standAt (wpAny_bind (weak (turn n s hW) fun r s1 h1=>?_)))
  cases r with
  | none=>exact wpAny_pure h1
  | some v =>
    refine wpAny_bind (weak h1 fun _ s2 h2=>wpAny_bind (weak h2 fun _ s3 h3=>wpAny_bind ?_))
    have fin:∀ ok s4,(if ok=true then wpAny (model prog w) A (eval elt env) (fun x s5=>wpAny (model prog w) A (call (.builtin "list.append") [acc,x]) (fun _ s6=>∃ m,m < n∧W m s6) (fun _ _=>False) s5) (fun _ _=>False) s4
          else ∃ m,m < n∧W m s4)→wpAny (model prog w) A (if ok=true then ((do let _ ← call (.builtin "list.append") [acc,← eval elt env]; pure ()) >>= fun _=>again (.compLoop (.ListComp elt [⟨target,iter,ifs,0⟩] scope pos) 0 it acc env)) else again (.compLoop (.ListComp elt [⟨target,iter,ifs,0⟩] scope pos) 0 it acc env))
            (fun fin s'=>match fin with | .done f=>R (.ok f) s' | .again c'=>c'=(.compLoop (.ListComp elt [⟨target,iter,ifs,0⟩] scope pos) 0 it acc env)∧∃ m,m < n∧W m s') (notedBy (model prog w) A env fun e s'=>R (.error e) s') s4:=by
      intro ok s4 h4
      cases ok with
      | true=>exact wpAny_bind (wpAny_bind (weak h4 fun x s5 h5=>wpAny_bind (weak h5 fun _ s6 h6=>wpAny_pure (wpAny_pure ⟨rfl,h6⟩))))
      | false=>exact wpAny_pure ⟨rfl,h4⟩
    match ifs,hifs,h3,fin with
    | [],_,h3,fin =>
      refine wpAny_tests_nil ?_
      exact wpAny_bind (m:=(pure true:Sem Bool)) (weak h3 fin)
    | [c],_,h3,fin =>
      refine wpAny_tests_one ?_
      exact weak h3 fin
end FF
namespace FF
open PySem PyProof.Rows
open AutoSeq1 (wpAny_loadPart')
theorem pc (l b:Addr) (items items2:Array Value) (n n2:Nat) (dd dd2:Option Addr) (sl sl2:Array (Option Value)) (hsz:items.size+items2.size≤sizeLine) :
    Meets (Builtin.«list.__add__» ⟨[.ref l,.ref b],[]⟩) (fun _ R s=>s.heap.get? l=some { cls:=.type "list",dict:=dd,data:=.seq items n,slots:=sl }∧s.heap.get? b=some { cls:=.type "list",dict:=dd2,data:=.seq items2 n2,slots:=sl2 } ∧
      R (.ok (.ret (.ref s.heap.objs.size))) { s with heap:=s.heap.push { cls:=.type "list",data:=.seq (items++items2) } }) :=
  .of_wp fun prog w A R s h=>by
    obtain ⟨hp,g,d,tk,os⟩:=s; obtain ⟨hl,hb,h⟩:=h
    have f1:=AutoSeq1.idx_int; have f2:=AutoSeq1.sub_tuple_tuple; have f3:=AutoSeq1.sub_list_list; have f4:=AutoSeq1.sub_tuple_list; have f5:=AutoSeq1.sub_list_tuple
    have hl0:¬ Builtin.List.listTooLong (items.size+items2.size)=true:=by rw [L2.notLongL hsz]; exact Bool.false_ne_true
    have hz:(items++items2).size≤sizeLine:=by rw [Array.size_append]; exact hsz
    wp_walk using wpAny_loadPart' hl,wpAny_loadPart' hb
    all_goals first | exact ⟨_,rfl,h⟩ | trace_state
theorem pd (l:Addr) (items:Array Value) (n:Nat) (k:Int) (t:Tok) (dd:Option Addr) (sl:Array (Option Value)) (h0 : -(2^63)≤k) (h1:k < 2^63) (hsz:items.size*k.toNat≤sizeLine) :
    Meets (Builtin.«list.__mul__» ⟨[.ref l,.int k t],[]⟩) (fun _ R s=>s.heap.get? l=some { cls:=.type "list",dict:=dd,data:=.seq items n,slots:=sl } ∧
      R (.ok (.ret (.ref s.heap.objs.size))) { s with heap:=s.heap.push { cls:=.type "list",data:=.seq (List.foldl (fun x1 x2=>x1++x2) #[] (List.replicate (if items.isEmpty=true then 0 else k.toNat) items)) } }) :=
  .of_wp fun prog w A R s h=>by
    obtain ⟨hp,g,d,tk,os⟩:=s; obtain ⟨hl,h⟩:=h
    have f1:=AutoSeq1.idx_int; have f2:=AutoSeq1.sub_tuple_tuple; have f3:=AutoSeq1.sub_list_list
    have hs:=sizeLine_eq
    have c1:¬ items.size*k.toNat > (2^63 - 1)/8:=by omega
    have c2:¬ (!Builtin.List.listFitsIndex k)=true:=by rw [fitsIndex_both h0 h1]; exact Bool.false_ne_true
    have c3:¬ Builtin.List.listTooLong (items.size*k.toNat)=true:=by rw [L2.notLongL hsz]; exact Bool.false_ne_true
    have hz:=AutoListH.joined_fits c3
    wp_walk using wpAny_loadPart' hl
    rw [if_neg (Nat.not_lt.mpr hz)]
    wp_walk
    exact ⟨_,rfl,h⟩
theorem j7 (a:Int) (t:Tok) (l:Addr) (items:Array Value) (n:Nat) (dd:Option Addr) (sl:Array (Option Value)) :
    Meets (Builtin.«int.__rmul__» ⟨[.int a t,.ref l],[]⟩) (fun _ R s=>s.heap.get? l=some { cls:=.type "list",dict:=dd,data:=.seq items n,slots:=sl }∧R (.ok (.ret Value.notImplemented)) s) :=
  .of_wp fun prog w A R s h=>by obtain ⟨hp,g,d,tk,os⟩:=s; obtain ⟨hl,h⟩:=h; wp_walk; exact ⟨_,rfl,h⟩
theorem ph (l b:Addr) (items items2:Array Value) (n n2:Nat) (dd2:Option Addr) (sl2:Array (Option Value)) (hsz:items.size+items2.size≤sizeLine) :
    Meets (Builtin.«list.extend» ⟨[.ref l,.ref b],[]⟩) (fun _ R s=>s.heap.get? l=some { cls:=.type "list",data:=.seq items n }∧s.heap.get? b=some { cls:=.type "list",dict:=dd2,data:=.seq items2 n2,slots:=sl2 } ∧
      R (.ok (.ret .none)) { s with heap:=s.heap.update l (Obj.mapSeq fun x=>x++items2) }) :=
  .of_wp fun prog w A R s h=>by
    obtain ⟨hp,g,d,tk,os⟩:=s; obtain ⟨hl,hb,h⟩:=h
    have f1:=AutoSeq1.idx_int; have f2:=AutoSeq1.sub_tuple_tuple; have f3:=AutoSeq1.sub_list_list; have f4:=AutoSeq1.sub_tuple_list; have f5:=AutoSeq1.sub_list_tuple
    have hc0:¬(!items.isEmpty&&Builtin.List.listTooLong (items.size+items2.size))=true:=by rw [L2.notLongL hsz,Bool.and_false]; exact Bool.false_ne_true
    have hc1:items.size≤sizeLine:=by omega
    have hs2:items.size+items2.size≤sizeLine+1:=by omega
    have hz':(items++items2).size≤sizeLine+1:=by rw [Array.size_append]; omega
    wp_walk using (wpAny_updateSeq hl rfl (hz:=hc1) (_hz':=hz')),wpAny_loadPart' hl,wpAny_loadPart' hb
    exact ⟨_,rfl,h⟩
theorem pi (l b:Addr) (items items2:Array Value) (n n2:Nat) (dd2:Option Addr) (sl2:Array (Option Value)) (hsz:items.size+items2.size≤sizeLine) :
    Meets (Builtin.«list.extend» ⟨[.ref l,.ref b],[]⟩) (fun _ R s=>s.heap.get? l=some { cls:=.type "list",data:=.seq items n }∧s.heap.get? b=some { cls:=.type "tuple",dict:=dd2,data:=.seq items2 n2,slots:=sl2 } ∧
      R (.ok (.ret .none)) { s with heap:=s.heap.update l (Obj.mapSeq fun x=>x++items2) }) :=
  .of_wp fun prog w A R s h=>by
    obtain ⟨hp,g,d,tk,os⟩:=s; obtain ⟨hl,hb,h⟩:=h
    have f1:=AutoSeq1.idx_int; have f2:=AutoSeq1.sub_tuple_tuple; have f3:=AutoSeq1.sub_list_list; have f4:=AutoSeq1.sub_tuple_list; have f5:=AutoSeq1.sub_list_tuple
    have hc0:¬(!items.isEmpty&&Builtin.List.listTooLong (items.size+items2.size))=true:=by rw [L2.notLongL hsz,Bool.and_false]; exact Bool.false_ne_true
    have hc1:items.size≤sizeLine:=by omega
    have hs2:items.size+items2.size≤sizeLine+1:=by omega
    have hz':(items++items2).size≤sizeLine+1:=by rw [Array.size_append]; omega
    wp_walk using (wpAny_updateSeq hl rfl (hz:=hc1) (_hz':=hz')),wpAny_loadPart' hl,wpAny_loadPart' hb
    exact ⟨_,rfl,h⟩
end FF
end
noncomputable section
set_option Elab.async false
set_option linter.all false
set_option maxRecDepth 100000
namespace FF
open PySem PySem.Spec PyProof.Rows L2
inductive D where
  | non | bl (b:Bool) | int (i:Int) | str (x:Str) | tup (xs:List D) | lst (xs:List D) | exc (k:Nat) | fn (k:Nat)
inductive R (α:Type) where
  | ok (a:α) | err (k:Nat) | stuck
def R.bind {α β:Type} (r:R α) (f:α→R β):R β:=match r with
  | .ok a=>f a
  | .err k=>.err k
  | .stuck=>.stuck
@[simp] theorem R.bind_ok {α β:Type} (a:α) (f:α→R β):(R.ok a).bind f=f a:=rfl
@[simp] theorem R.bind_err {α β:Type} (k:Nat) (f:α→R β):(R.err k:R α).bind f=.err k:=rfl
@[simp] theorem R.bind_stuck {α β:Type} (f:α→R β):(R.stuck:R α).bind f=.stuck:=rfl
def excO (C:Nat→Addr) (k:Nat) (a:Addr):HO :=
  .ext fun h=>∃ o,h.get? a=some o∧o.cls=.ref (C k)∧∃ vs,o.data=.fields vs
mutual
def Rep (K:PySem.W.Frag) (C:Nat→Addr) (Z:Hp):D→V→Prop
  | .non,v=>v=.non
  | .bl b,v=>v=.bl b
  | .int i,v=>v=.int i
  | .str x,v=>v=.str x
  | .tup ds,v=>∃ a vs,v=.ref a∧SqT K Z a vs∧Reps K C Z ds vs
  | .lst ds,v=>∃ a vs,v=.ref a∧SqL K Z a vs∧Reps K C Z ds vs
  | .exc k,v=>∃ a,v=.ref a∧Z a=some (excO C k a)
  | .fn k,v=>v=.ref (C k)
def Reps (K:PySem.W.Frag) (C:Nat→Addr) (Z:Hp):List D→List V→Prop
  | [],vs=>vs=[]
  | d::ds,vs=>∃ v r,vs=v::r∧Rep K C Z d v∧Reps K C Z ds r
end
theorem _root_.L2.SqT.mono {K:PySem.W.Frag} {Z Z':Hp} {a:Addr} {xs:List V} (e:Same Z Z') (h:SqT K Z a xs):SqT K Z' a xs:=by
  rcases h with (h | ⟨o,h⟩) | h
  · exact .inl (.inl (e _ _ h))
  · exact .inl (.inr ⟨o,e _ _ h⟩)
  · exact .inr h
section
variable {K:PySem.W.Frag} {C:Nat→Addr} {Z Z':Hp}
mutual
theorem Rep.mono (e:Same Z Z'):∀ (d:D) (v:V),Rep K C Z d v→Rep K C Z' d v
  | .non,v,h=>by rw [Rep] at h ⊢; exact h
  | .bl b,v,h=>by rw [Rep] at h ⊢; exact h
  | .int i,v,h=>by rw [Rep] at h ⊢; exact h
  | .str x,v,h=>by rw [Rep] at h ⊢; exact h
  | .fn k,v,h=>by rw [Rep] at h ⊢; exact h
  | .tup ds,v,h=>by
    rw [Rep] at h ⊢
    obtain ⟨a,vs,h1,h2,h3⟩:=h
    exact ⟨a,vs,h1,h2.mono e,Reps.mono e ds vs h3⟩
  | .lst ds,v,h=>by
    rw [Rep] at h ⊢
    obtain ⟨a,vs,h1,h2,h3⟩:=h
    exact ⟨a,vs,h1,e.seq h2,Reps.mono e ds vs h3⟩
  | .exc k,v,h=>by
    rw [Rep] at h ⊢
    obtain ⟨a,h1,h2⟩:=h
    exact ⟨a,h1,e _ _ h2⟩
theorem Reps.mono (e:Same Z Z'):∀ (ds:List D) (vs:List V),Reps K C Z ds vs→Reps K C Z' ds vs
  | [],vs,h=>by rw [Reps] at h ⊢; exact h
  | d::ds,vs,h=>by
    rw [Reps] at h ⊢
    obtain ⟨v,r,h1,h2,h3⟩:=h
    exact ⟨v,r,h1,Rep.mono e d v h2,Reps.mono e ds r h3⟩
end
theorem Reps.nil:Reps K C Z [] []:=by rw [Reps]
theorem Reps.cons {d:D} {v:V} {ds:List D} {vs:List V} (h:Rep K C Z d v) (t:Reps K C Z ds vs):Reps K C Z (d::ds) (v::vs):=by
  rw [Reps]; exact ⟨v,vs,rfl,h,t⟩
theorem Reps.uncons {d:D} {v:V} {ds:List D} {vs:List V} (h:Reps K C Z (d::ds) (v::vs)):Rep K C Z d v∧Reps K C Z ds vs:=by
  rw [Reps] at h
  obtain ⟨v',r,e,h1,h2⟩:=h
  cases e
  exact ⟨h1,h2⟩
theorem Reps.length:∀ {ds:List D} {vs:List V},Reps K C Z ds vs→ds.length=vs.length
  | [],vs,h=>by rw [Reps] at h; subst h; rfl
  | d::ds,vs,h=>by
    rw [Reps] at h
    obtain ⟨v,r,e,_,h2⟩:=h
    subst e
    simp [Reps.length h2]
theorem Reps.get:∀ {ds:List D} {vs:List V} {i:Nat} {d:D},Reps K C Z ds vs→ds[i]?=some d→∃ v,vs[i]?=some v∧Rep K C Z d v
  | [],vs,i,d,h,e=>by simp at e
  | d'::ds,vs,i,d,h,e=>by
    rw [Reps] at h
    obtain ⟨v,r,q,h1,h2⟩:=h
    subst q
    cases i with
    | zero=>simp at e; subst e; exact ⟨v,rfl,h1⟩
    | succ i =>
      obtain ⟨v',e1,h3⟩:=Reps.get (i:=i) h2 (by simpa using e)
      exact ⟨v',by simpa using e1,h3⟩
theorem Reps.get':∀ {ds:List D} {vs:List V} {i:Nat} {v:V},Reps K C Z ds vs→vs[i]?=some v→∃ d,ds[i]?=some d∧Rep K C Z d v
  | [],vs,i,v,h,e=>by rw [Reps] at h; subst h; simp at e
  | d'::ds,vs,i,v,h,e=>by
    rw [Reps] at h
    obtain ⟨v0,r,q,h1,h2⟩:=h
    subst q
    cases i with
    | zero=>simp at e; subst e; exact ⟨d',rfl,h1⟩
    | succ i =>
      obtain ⟨d,e1,h3⟩:=Reps.get' (i:=i) h2 (by simpa using e)
      exact ⟨d,by simpa using e1,h3⟩
theorem Reps.append:∀ {ds es:List D} {vs us:List V},Reps K C Z ds vs→Reps K C Z es us→Reps K C Z (ds++es) (vs++us)
  | [],es,vs,us,h,h'=>by rw [Reps] at h; subst h; exact h'
  | d::ds,es,vs,us,h,h'=>by
    rw [Reps] at h
    obtain ⟨v,r,q,h1,h2⟩:=h
    subst q
    exact Reps.cons h1 (Reps.append h2 h')
theorem Reps.take:∀ {ds:List D} {vs:List V} (n:Nat),Reps K C Z ds vs→Reps K C Z (ds.take n) (vs.take n)
  | [],vs,n,h=>by rw [Reps] at h; subst h; simpa using Reps.nil
  | d::ds,vs,n,h=>by
    rw [Reps] at h
    obtain ⟨v,r,q,h1,h2⟩:=h
    subst q
    cases n with
    | zero=>exact Reps.nil
    | succ n=>exact Reps.cons h1 (Reps.take n h2)
theorem Reps.drop:∀ {ds:List D} {vs:List V} (n:Nat),Reps K C Z ds vs→Reps K C Z (ds.drop n) (vs.drop n)
  | [],vs,n,h=>by rw [Reps] at h; subst h; simpa using Reps.nil
  | d::ds,vs,n,h=>by
    rw [Reps] at h
    obtain ⟨v,r,q,h1,h2⟩:=h
    subst q
    cases n with
    | zero=>exact Reps.cons h1 h2
    | succ n=>exact Reps.drop n h2
end
structure Ex (H Z H' Z':Hp):Prop where
  same:Same H H'
  z:Same Z Z'
  sub:Same Z' H'
  new:∀ b,Z' b≠none→Z b≠none∨H b=none
theorem Ex.refl {H Z:Hp} (s:Same Z H):Ex H Z H Z:=⟨Same.refl _,Same.refl _,s,fun _ h=>.inl h⟩
theorem Ex.trans {H Z H1 Z1 H2 Z2:Hp} (a:Ex H Z H1 Z1) (b:Ex H1 Z1 H2 Z2):Ex H Z H2 Z2 :=
  ⟨a.same.trans b.same,a.z.trans b.z,b.sub,fun c h=>(b.new c h).elim (fun h1=>a.new c h1) fun h1=>.inr (a.same.free h1)⟩
theorem aK {H:Hp} {p:Addr} {o:HO} (h:H p=none):Same H (upd H p o):=fun b u e=>by
  rw [aq (cr e h)]; exact e
theorem Ex.alloc {H Z:Hp} {p:Addr} {o:HO} (s:Same Z H) (h:H p=none):Ex H Z (upd H p o) (upd Z p o):=by
  have hz:Z p=none:=s.free h
  refine ⟨aK h,aK hz,fun b u e=>?_,fun b hb=>?_⟩
  · by_cases q:b=p
    · subst q; rw [ar] at e ⊢; exact e
    · rw [aq q] at e ⊢; exact s b u e
  · by_cases q:b=p
    · subst q; exact .inr h
    · rw [aq q] at hb; exact .inl hb
theorem Ex.hidden {H Z:Hp} {p:Addr} {o:HO} (s:Same Z H) (h:H p=none):Ex H Z (upd H p o) Z :=
  ⟨aK h,Same.refl _,s.trans (aK h),fun _ hb=>.inl hb⟩
inductive Sl where
  | val (d:D) | own (ds:List D)
abbrev SS:=List (Option Sl)
structure Fx where
  K:PySem.W.Frag
  C:Nat→Addr
  H0:Hp
  Z0:Hp
  E:XK
structure StOk (F:Fx) (H Z:Hp) (S:SS) (σ:St):Prop where
  ex:Ex F.H0 F.Z0 H Z
  len:S.length=σ.length
  val:∀ (i:Nat) (d:D),S[i]?=some (some (.val d))→∃ v,σ[i]?=some (some v)∧Rep F.K F.C Z d v
  own:∀ (i:Nat) (ds:List D),S[i]?=some (some (.own ds))→∃ a vs,σ[i]?=some (some (.ref a))∧H a=some (.lst vs)∧Z a=none∧F.H0 a=none∧Reps F.K F.C Z ds vs
  dis:∀ (i j:Nat) (ds es:List D) (a:Addr),S[i]?=some (some (.own ds))→S[j]?=some (some (.own es))→σ[i]?=some (some (.ref a))→σ[j]?=some (some (.ref a))→i=j
section
variable {F:Fx} {H Z H' Z':Hp} {S:SS} {σ:St}
theorem StOk.more (h:StOk F H Z S σ) (x:Ex H Z H' Z'):StOk F H' Z' S σ:=by
  refine ⟨h.ex.trans x,h.len,fun i d e=>?_,fun i ds e=>?_,h.dis⟩
  · obtain ⟨v,e1,r⟩:=h.val i d e
    exact ⟨v,e1,r.mono x.z⟩
  · obtain ⟨a,vs,e1,e2,e3,e4,r⟩:=h.own i ds e
    refine ⟨a,vs,e1,x.same _ _ e2,?_,e4,r.mono x.z⟩
    cases q:Z' a with
    | none=>rfl
    | some o =>
      rcases x.new a (by rw [q]; simp) with z | z
      · exact absurd e3 z
      · rw [e2] at z; cases z
theorem StOk.sub (h:StOk F H Z S σ):Same Z H:=h.ex.sub
theorem StOk.setVal (h:StOk F H Z S σ) {i:Nat} {d:D} {v:V} (r:Rep F.K F.C Z d v):StOk F H Z (S.set i (some (.val d))) (σ.set i (some v)):=by
  refine ⟨h.ex,by simp [h.len],fun j d' e=>?_,fun j ds e=>?_,fun j k ds es a e1 e2 e3 e4=>?_⟩
  · by_cases q:i=j
    · subst q
      by_cases hl:i < S.length
      · rw [List.getElem?_set_self hl] at e
        cases e
        exact ⟨v,by rw [List.getElem?_set_self (by rw [← h.len]; exact hl)],r⟩
      · rw [List.getElem?_eq_none (by simpa using hl)] at e; cases e
    · rw [List.getElem?_set_ne q] at e ⊢
      exact h.val j d' e
  · by_cases q:i=j
    · subst q
      by_cases hl:i < S.length
      · rw [List.getElem?_set_self hl] at e; cases e
      · rw [List.getElem?_eq_none (by simpa using hl)] at e; cases e
    · rw [List.getElem?_set_ne q] at e ⊢
      exact h.own j ds e
  · have nj:i≠j:=fun q=>by
      subst q
      by_cases hl:i < S.length
      · rw [List.getElem?_set_self hl] at e1; cases e1
      · rw [List.getElem?_eq_none (by simpa using hl)] at e1; cases e1
    have nk:i≠k:=fun q=>by
      subst q
      by_cases hl:i < S.length
      · rw [List.getElem?_set_self hl] at e2; cases e2
      · rw [List.getElem?_eq_none (by simpa using hl)] at e2; cases e2
    rw [List.getElem?_set_ne nj] at e1 e3
    rw [List.getElem?_set_ne nk] at e2 e4
    exact h.dis j k ds es a e1 e2 e3 e4
theorem StOk.setOwn (h:StOk F H Z S σ) {i:Nat} {ds:List D} {a:Addr} {vs:List V} (hn:∀ j,j≠i→σ[j]?≠some (some (.ref a))∨∀ es,S[j]?≠some (some (.own es))) (h1:H a=some (.lst vs)) (h2:Z a=none) (h3:F.H0 a=none) (r:Reps F.K F.C Z ds vs) :
    StOk F H Z (S.set i (some (.own ds))) (σ.set i (some (.ref a))):=by
  have self:∀ {x:Option Sl},(S.set i (some (.own ds)))[i]?=some x→x=some (.own ds)∧i < S.length:=fun {x} e=>by
    by_cases hl:i < S.length
    · rw [List.getElem?_set_self hl] at e; cases e; exact ⟨rfl,hl⟩
    · rw [List.getElem?_eq_none (by simpa using hl)] at e; cases e
  refine ⟨h.ex,by simp [h.len],fun j d' e=>?_,fun j es e=>?_,fun j k es fs b e1 e2 e3 e4=>?_⟩
  · by_cases q:i=j
    · subst q; have:=(self e).1; cases this
    · rw [List.getElem?_set_ne q] at e ⊢
      exact h.val j d' e
  · by_cases q:i=j
    · subst q
      obtain ⟨z,hl⟩:=self e
      cases z
      exact ⟨a,vs,by rw [List.getElem?_set_self (by rw [← h.len]; exact hl)],h1,h2,h3,r⟩
    · rw [List.getElem?_set_ne q] at e ⊢
      exact h.own j es e
  · by_cases q:i=j
    · by_cases q2:i=k
      · rw [← q,← q2]
      · subst q
        obtain ⟨z,hl⟩:=self e1
        rw [List.getElem?_set_self (by rw [← h.len]; exact hl)] at e3
        cases e3
        rw [List.getElem?_set_ne q2] at e2 e4
        rcases hn k (Ne.symm q2) with z | z
        · exact absurd e4 z
        · exact absurd e2 (z fs)
    · by_cases q2:i=k
      · subst q2
        obtain ⟨z,hl⟩:=self e2
        rw [List.getElem?_set_self (by rw [← h.len]; exact hl)] at e4
        cases e4
        rw [List.getElem?_set_ne q] at e1 e3
        rcases hn j (Ne.symm q) with z | z
        · exact absurd e3 z
        · exact absurd e1 (z es)
      · rw [List.getElem?_set_ne q] at e1 e3
        rw [List.getElem?_set_ne q2] at e2 e4
        exact h.dis j k es fs b e1 e2 e3 e4
theorem StOk.write (h:StOk F H Z S σ) {i:Nat} {ds es:List D} {a:Addr} {us:List V} (e:S[i]?=some (some (.own ds))) (ha:σ[i]?=some (some (.ref a))) (r:Reps F.K F.C Z es us) :
    StOk F (upd H a (.lst us)) Z (S.set i (some (.own es))) σ:=by
  obtain ⟨a',vs,e1,e2,e3,e4,r0⟩:=h.own i ds e
  rw [ha] at e1; cases e1
  have hl:i < S.length:=(List.getElem?_eq_some_iff.mp e).1
  have nz:∀ b o,Z b=some o→b≠a:=fun b o q z=>by subst z; rw [e3] at q; cases q
  have n0:∀ b o,F.H0 b=some o→b≠a:=fun b o q z=>by subst z; rw [e4] at q; cases q
  refine ⟨⟨fun b o q=>?_,h.ex.z,fun b o q=>?_,h.ex.new⟩,by simp [h.len],fun j d' q=>?_,fun j fs q=>?_,fun j k fs gs b q1 q2 q3 q4=>?_⟩
  · rw [aq (n0 b o q)]; exact h.ex.same b o q
  · rw [aq (nz b o q)]; exact h.ex.sub b o q
  · by_cases z:i=j
    · subst z; rw [List.getElem?_set_self hl] at q; cases q
    · rw [List.getElem?_set_ne z] at q; exact h.val j d' q
  · by_cases z:i=j
    · subst z
      rw [List.getElem?_set_self hl] at q; cases q
      exact ⟨a,us,ha,ar,e3,e4,r⟩
    · rw [List.getElem?_set_ne z] at q
      obtain ⟨b,ws,f1,f2,f3,f4,f5⟩:=h.own j fs q
      have:b≠a:=fun y=>z (h.dis i j ds fs a e q ha (by rw [f1,y]))
      exact ⟨b,ws,f1,by rw [aq this]; exact f2,f3,f4,f5⟩
  · have back:∀ {j:Nat} {fs:List D},(S.set i (some (.own es)))[j]?=some (some (.own fs))→∃ gs,S[j]?=some (some (.own gs)):=fun {j fs} q=>by
      by_cases z:i=j
      · subst z; exact ⟨ds,e⟩
      · rw [List.getElem?_set_ne z] at q; exact ⟨fs,q⟩
    obtain ⟨f1,q1'⟩:=back q1
    obtain ⟨f2,q2'⟩:=back q2
    exact h.dis j k f1 f2 b q1' q2' q3 q4
theorem StOk.freeze (h:StOk F H Z S σ) {i:Nat} {ds:List D} (e:S[i]?=some (some (.own ds))):∃ Z',Same Z Z'∧StOk F H Z' (S.set i (some (.val (.lst ds)))) σ:=by
  obtain ⟨a,vs,e1,e2,e3,e4,r⟩:=h.own i ds e
  have hl:i < S.length:=(List.getElem?_eq_some_iff.mp e).1
  have hz:Same Z (upd Z a (.lst vs)):=aK e3
  have hsub:Same (upd Z a (.lst vs)) H:=fun b o q=>by
    by_cases y:b=a
    · subst y; rw [ar] at q; cases q; exact e2
    · rw [aq y] at q; exact h.ex.sub b o q
  refine ⟨upd Z a (.lst vs),hz,⟨⟨h.ex.same,h.ex.z.trans hz,hsub,fun b q=>?_⟩,by simp [h.len],fun j d q=>?_,fun j fs q=>?_,fun j k fs gs b q1 q2 q3 q4=>?_⟩⟩
  · by_cases y:b=a
    · subst y; exact .inr e4
    · rw [aq y] at q; exact h.ex.new b q
  · by_cases z:i=j
    · subst z
      rw [List.getElem?_set_self hl] at q; cases q
      exact ⟨.ref a,e1,by rw [Rep]; exact ⟨a,vs,rfl,SqL.of ar,r.mono hz⟩⟩
    · rw [List.getElem?_set_ne z] at q
      obtain ⟨v,f1,f2⟩:=h.val j d q
      exact ⟨v,f1,f2.mono hz⟩
  · by_cases z:i=j
    · subst z; rw [List.getElem?_set_self hl] at q; cases q
    · rw [List.getElem?_set_ne z] at q
      obtain ⟨b,ws,f1,f2,f3,f4,f5⟩:=h.own j fs q
      have:b≠a:=fun y=>z (h.dis i j ds fs a e q e1 (by rw [f1,y]))
      exact ⟨b,ws,f1,f2,by rw [aq this]; exact f3,f4,f5.mono hz⟩
  · have back:∀ {j:Nat} {fs:List D},(S.set i (some (.val (.lst ds))))[j]?=some (some (.own fs))→S[j]?=some (some (.own fs)):=fun {j fs} q=>by
      by_cases z:i=j
      · subst z; rw [List.getElem?_set_self hl] at q; cases q
      · rw [List.getElem?_set_ne z] at q; exact q
    exact h.dis j k fs gs b (back q1) (back q2) q3 q4
end
end FF
end
noncomputable section
set_option Elab.async false
set_option linter.all false
set_option maxRecDepth 100000
namespace FF
open PySem PySem.Spec PyProof.Rows L2
def WG {α:Type} (F:Fx) (H Z:Hp) (r:R α) (P:α→Hp→Hp→Prop):Prop:=match r with
  | .ok a=>∀ H' Z',Ex H Z H' Z'→P a H' Z'
  | .err k=>∀ H',Same H H'→F.E (.ref (F.C k)) none H'
  | .stuck=>False
section
variable {α:Type} {F:Fx} {H Z H1 Z1:Hp} {r:R α} {P P':α→Hp→Hp→Prop}
theorem WG.more (w:WG F H Z r P) (x:Ex H Z H1 Z1):WG F H1 Z1 r P:=by
  cases r with
  | ok a=>exact fun H' Z' y=>w H' Z' (x.trans y)
  | err k=>exact fun H' y=>w H' (x.same.trans y)
  | stuck=>exact w
theorem WG.now {a:α} (w:WG F H Z (.ok a) P) (s:Same Z H):P a H Z:=w H Z (Ex.refl s)
end
def tE (F:Fx) (g:SS→R D):TE:=fun σ H Q=>∃ Z S,StOk F H Z S σ∧WG F H Z (g S) fun d H' Z'=>∀ v,Rep F.K F.C Z' d v→Q v H'
def tT (F:Fx) (g:SS→R Bool):TT:=fun σ H Q=>∃ Z S,StOk F H Z S σ∧WG F H Z (g S) fun b H' _=>Q b H'
def tAl (F:Fx) (g:SS→R (List D)):TA:=fun σ H Q=>∃ Z S,StOk F H Z S σ∧WG F H Z (g S) fun ds H' Z'=>∀ vs,Reps F.K F.C Z' ds vs→Q vs H'
inductive O where
  | nx (S:SS) | rt (d:D) | er (k:Nat) | bk (S:SS) | ct (S:SS) | stuck
def WO (F:Fx) (Z:Hp) (o:O) (D:Ends):Prop:=match o with
  | .nx S=>∀ σ H Z',Same Z Z'→StOk F H Z' S σ→D.nx σ H
  | .rt d=>∀ v H Z',Ex F.H0 F.Z0 H Z'→Rep F.K F.C Z' d v→D.rt v H
  | .er k=>∀ H,Same F.H0 H→F.E (.ref (F.C k)) none H
  | .bk S=>∀ σ H Z',Same Z Z'→StOk F H Z' S σ→D.bk σ H
  | .ct S=>∀ σ H Z',Same Z Z'→StOk F H Z' S σ→D.ct σ H
  | .stuck=>False
theorem WO.more {F:Fx} {Z Z1:Hp} {o:O} {D:Ends} (w:WO F Z o D) (z:Same Z Z1):WO F Z1 o D:=by
  cases o with
  | nx S=>exact fun σ H Z' q=>w σ H Z' (z.trans q)
  | rt d=>exact w
  | er k=>exact w
  | bk S=>exact fun σ H Z' q=>w σ H Z' (z.trans q)
  | ct S=>exact fun σ H Z' q=>w σ H Z' (z.trans q)
  | stuck=>exact w
def tS (F:Fx) (g:SS→O):TS:=fun D σ H=>∃ Z S,StOk F H Z S σ∧WO F Z (g S) D
abbrev FE (X:Cx) (F:Fx) (e:Expr) (g:SS→R D):Prop:=PE X e (tE F g)
abbrev FT (X:Cx) (F:Fx) (e:Expr) (g:SS→R Bool):Prop:=PT X e (tT F g)
abbrev FW (X:Cx) (F:Fx) (e:Expr) (g:SS→R Bool):Prop:=PW X e (tT F g)
abbrev FA (X:Cx) (F:Fx) (es:List Expr) (g:SS→R (List D)):Prop:=PA X es (tAl F g)
abbrev FS (X:Cx) (F:Fx) (st:Stmt) (g:SS→O):Prop:=PS X st (tS F g)
abbrev FSs (X:Cx) (F:Fx) (sts:List Stmt) (g:SS→O):Prop:=PSs X sts (tS F g)
theorem _root_.L2.PE.weak {X:Cx} {e:Expr} {t t':TE} (h:PE X e t) (w:∀ σ H Q,t' σ H Q→t σ H Q):PE X e t':=fun pins s σ H Q I q=>h pins s σ H Q I (w σ H Q q)
theorem _root_.L2.PT.weak {X:Cx} {e:Expr} {t t':TT} (h:PT X e t) (w:∀ σ H Q,t' σ H Q→t σ H Q):PT X e t':=fun pins s σ H Q I q=>h pins s σ H Q I (w σ H Q q)
theorem _root_.L2.PW.weak {X:Cx} {e:Expr} {t t':TT} (h:PW X e t) (w:∀ σ H Q,t' σ H Q→t σ H Q):PW X e t':=fun wh pins s σ H Q I q=>h wh pins s σ H Q I (w σ H Q q)
theorem _root_.L2.PA.weak {X:Cx} {e:List Expr} {t t':TA} (h:PA X e t) (w:∀ σ H Q,t' σ H Q→t σ H Q):PA X e t':=fun p pins s σ H Q I q=>h p pins s σ H Q I (w σ H Q q)
theorem _root_.L2.PS.weak {X:Cx} {e:Stmt} {t t':TS} (h:PS X e t) (w:∀ D σ H,t' D σ H→t D σ H):PS X e t':=fun pins s σ H D I q=>h pins s σ H D I (w D σ H q)
theorem _root_.L2.PSs.weak {X:Cx} {e:List Stmt} {t t':TS} (h:PSs X e t) (w:∀ D σ H,t' D σ H→t D σ H):PSs X e t':=fun pins s σ H D I q=>h pins s σ H D I (w D σ H q)
section
variable {F:Fx} {σ:St} {H Z:Hp} {S:SS}
theorem aU {α:Type} {g:SS→R D} {k:D→R α} {P:α→Hp→Hp→Prop} {Q:VK} (ok:StOk F H Z S σ) (w:WG F H Z ((g S).bind k) P)
    (h:∀ d v H1 Z1,StOk F H1 Z1 S σ→Ex H Z H1 Z1→Rep F.K F.C Z1 d v→WG F H1 Z1 (k d) P→Q v H1):tE F g σ H Q:=by
  refine ⟨Z,S,ok,?_⟩
  cases e:g S with
  | ok d =>
    rw [e] at w
    intro H1 Z1 x v r
    exact h d v H1 Z1 (ok.more x) x r (WG.more (r:=k d) w x)
  | err k=>rw [e] at w; exact w
  | stuck=>rw [e] at w; exact w
theorem gr {α:Type} {g:SS→R Bool} {k:Bool→R α} {P:α→Hp→Hp→Prop} {Q:Bool→Hp→Prop} (ok:StOk F H Z S σ) (w:WG F H Z ((g S).bind k) P)
    (h:∀ b H1 Z1,StOk F H1 Z1 S σ→Ex H Z H1 Z1→WG F H1 Z1 (k b) P→Q b H1):tT F g σ H Q:=by
  refine ⟨Z,S,ok,?_⟩
  cases e:g S with
  | ok d =>
    rw [e] at w
    intro H1 Z1 x
    exact h d H1 Z1 (ok.more x) x (WG.more (r:=k d) w x)
  | err k=>rw [e] at w; exact w
  | stuck=>rw [e] at w; exact w
theorem bH {α:Type} {g:SS→R (List D)} {k:List D→R α} {P:α→Hp→Hp→Prop} {Q:List V→Hp→Prop} (ok:StOk F H Z S σ) (w:WG F H Z ((g S).bind k) P)
    (h:∀ ds vs H1 Z1,StOk F H1 Z1 S σ→Ex H Z H1 Z1→Reps F.K F.C Z1 ds vs→WG F H1 Z1 (k ds) P→Q vs H1):tAl F g σ H Q:=by
  refine ⟨Z,S,ok,?_⟩
  cases e:g S with
  | ok d =>
    rw [e] at w
    intro H1 Z1 x v r
    exact h d v H1 Z1 (ok.more x) x r (WG.more (r:=k d) w x)
  | err k=>rw [e] at w; exact w
  | stuck=>rw [e] at w; exact w
end
def eVar (i:Nat):SS→R D:=fun S=>match S[i]? with
  | some (some (.val d))=>.ok d
  | _=>.stuck
def eC (d:D):SS→R D:=fun _=>.ok d
section
variable {X:Cx} {F:Fx} {e a b:Expr} {g ga gb:SS→R D} {pos:Pos}
theorem fM {v:V} {d:D} (h:PE X e (tC v)) (r:∀ Z,Rep F.K F.C Z d v):FE X F e (eC d):=h.weak fun σ H Q ⟨Z,S,ok,w⟩=>WG.now w ok.sub v (r Z)
theorem ae {i j pos}:FE X F (.Constant (.int i) j pos) (eC (.int i)):=fM uI fun _=>by rw [Rep]
theorem cL {b j pos}:FE X F (.Constant (.bool b) j pos) (eC (.bl b)):=fM vN fun _=>by rw [Rep]
theorem cu {j pos}:FE X F (.Constant .none j pos) (eC .non):=fM uJ fun _=>by rw [Rep]
theorem bI {x j pos}:FE X F (.Constant (.str x) j pos) (eC (.str x)):=fM uK fun _=>by rw [Rep]
theorem ac (i:Nat) {x:Str} {pos:Pos} (hN:X.N[i]?=some x:=by rfl) (hv:Vis X.env.scope x:=by first | exact Or.inl rfl | exact Or.inr (Or.inl rfl) | exact Or.inr (Or.inr rfl)) (hd:(x==("__debug__":Str))=false:=by decide)
    (hcd:(x==("__classdict__":Str))=false:=by decide):FE X F (.Name x pos) (eVar i):=(ja hN hv hd hcd).weak fun σ H Q ⟨Z,S,ok,w⟩=>by
  unfold eVar at w
  split at w
  · rename_i d e
    obtain ⟨v,e1,r⟩:=ok.val i d e
    exact ⟨v,e1,WG.now w ok.sub v r⟩
  · exact w.elim
end
def OpD (F:Fx) (r:R2) (f:D→D→R D):Prop:=∀ (H Z:Hp) (x y:V) (dx dy:D) (Q:VK),Same Z H→Rep F.K F.C Z dx x→Rep F.K F.C Z dy y →
  WG F H Z (f dx dy) (fun d H' Z'=>∀ v,Rep F.K F.C Z' d v→Q v H')→r x y H Q
def eOp (f:D→D→R D) (ga gb:SS→R D):SS→R D:=fun S=>(ga S).bind fun x=>(gb S).bind fun y=>f x y
section
variable {X:Cx} {F:Fx} {e a b c:Expr} {ga gb gc:SS→R D} {pos:Pos} {r:R2} {f:D→D→R D}
theorem kW (hd:OpD F r f):∀ σ H Q,tE F (eOp f ga gb) σ H Q→tOp r (tE F ga) (tE F gb) σ H Q:=fun σ H Q ⟨Z,S,ok,w⟩ =>
  aU ok w fun dx x H1 Z1 ok1 x1 rx w1=>aU ok1 w1 fun dy y H2 Z2 ok2 x2 ry w2=>hd H2 Z2 x y dx dy Q ok2.sub (rx.mono x2.z) ry w2
theorem lF {op:Operator} (ho:OpR X (binaryOp op) r) (hd:OpD F r f) (ha:FE X F a ga) (hb:FE X F b gb):FE X F (.BinOp a op b pos) (eOp f ga gb):=(vR ho ha hb).weak (kW hd)
theorem qL {op:CmpOp} (ho:OpR X (compareOp op) r) (hd:OpD F r f) (ha:FE X F a ga) (hb:FE X F b gb) (hm:behindInMarks op b=false:=by first | exact nomark _ | rfl):FE X F (.Compare a [op] [b] pos) (eOp f ga gb) :=
  (sG ho ha hb hm).weak (kW hd)
theorem vV (ho:IxR X r) (hd:OpD F r f) (ha:FE X F a ga) (hb:FE X F b gb) (hs:PlainIx b:=by intro _ _; rfl):FE X F (.Subscript a b pos) (eOp f ga gb):=(ux ho ha hb hs).weak (kW hd)
def asB (r:R D):R Bool:=r.bind fun d=>match d with
  | .bl b=>.ok b
  | _=>.stuck
def gB (g:SS→R D):SS→R Bool:=fun S=>asB (g S)
theorem qM {t:TE} {g:SS→R D} (h:∀ σ H Q,tE F g σ H Q→t σ H Q):∀ σ H Q,tT F (gB g) σ H Q→tTest t σ H Q:=fun σ H Q ⟨Z,S,ok,w⟩=>by
  refine h σ H _ (aU ok w fun d v H1 Z1 ok1 x1 rv w1=>?_)
  cases d with
  | bl b=>rw [Rep] at rv; exact ⟨b,rv,WG.now w1 ok1.sub⟩
  | _=>exact w1.elim
theorem aD {g:SS→R D} (h:FE X F e g) (he:∀ whole,isTrue e X.env whole=(do let v ← whole; standAt e.pos; holding [v] (truthy v)):=by intro _; rfl):FT X F e (gB g) :=
  (uL h he).weak (qM (t:=tE F g) fun _ _ _ q=>q)
theorem jg {op:CmpOp} (ho:OpR X (compareOp op) r) (hd:OpD F r f) (ha:FE X F a ga) (hb:FE X F b gb) (hm:behindInMarks op b=false:=by first | exact nomark _ | rfl):FT X F (.Compare a [op] [b] pos) (gB (eOp f ga gb)) :=
  (sH ho ha hb hm).weak (qM (kW hd))
end
def gAnd (a b:SS→R Bool):SS→R Bool:=fun S=>(a S).bind fun c=>if c=true then b S else .ok false
def gOr (a b:SS→R Bool):SS→R Bool:=fun S=>(a S).bind fun c=>if c=true then .ok true else b S
def gNot (a:SS→R Bool):SS→R Bool:=fun S=>(a S).bind fun c=>.ok (!c)
def eIf (c:SS→R Bool) (a b:SS→R D):SS→R D:=fun S=>(c S).bind fun t=>if t=true then a S else b S
section
variable {X:Cx} {F:Fx} {e a b c:Expr} {rest:List Expr} {ta tb tc:SS→R Bool} {ga gb:SS→R D} {pos:Pos}
theorem dn (h:FT X F a ta):FW X F (.BoolOp .And [a] pos) ta:=sC h
theorem cM (h:FT X F a ta):FW X F (.BoolOp .Or [a] pos) ta:=uM h
theorem dQ (ha:FT X F a ta) (hb:FW X F (.BoolOp .And (b::rest) pos) tb):FW X F (.BoolOp .And (a::b::rest) pos) (gAnd ta tb) :=
  (uN ha hb).weak fun σ H Q ⟨Z,S,ok,w⟩=>gr ok w fun d H1 Z1 ok1 x1 w1=>by
    cases d with
    | true=>exact ⟨Z1,S,ok1,w1⟩
    | false=>exact WG.now w1 ok1.sub
theorem cy (ha:FT X F a ta) (hb:FW X F (.BoolOp .Or (b::rest) pos) tb):FW X F (.BoolOp .Or (a::b::rest) pos) (gOr ta tb) :=
  (vO ha hb).weak fun σ H Q ⟨Z,S,ok,w⟩=>gr ok w fun d H1 Z1 ok1 x1 w1=>by
    cases d with
    | true=>exact WG.now w1 ok1.sub
    | false=>exact ⟨Z1,S,ok1,w1⟩
theorem ft_w (h:FW X F e ta):FT X F e ta:=h.pt
theorem aV (h:FT X F a ta):FT X F (.UnaryOp .Not a pos) (gNot ta) :=
  (uO h).weak fun σ H Q ⟨Z,S,ok,w⟩=>gr ok w fun d H1 Z1 ok1 x1 w1=>WG.now w1 ok1.sub
theorem f9 {op} (h:FE X F a ga):FE X F (.BoolOp op [a] pos) ga:=uP h
def eAnd (a b:SS→R D):SS→R D:=fun S=>(asB (a S)).bind fun c=>if c=true then b S else .ok (.bl false)
def eOr (a b:SS→R D):SS→R D:=fun S=>(asB (a S)).bind fun c=>if c=true then .ok (.bl true) else b S
def eNot (a:SS→R D):SS→R D:=fun S=>(asB (a S)).bind fun c=>.ok (.bl (!c))
theorem nc {α:Type} {σ:St} {H Z:Hp} {S:SS} {g:SS→R D} {k:Bool→R α} {P:α→Hp→Hp→Prop} {Q:VK} (ok:StOk F H Z S σ) (w:WG F H Z ((asB (g S)).bind k) P)
    (h:∀ c H1 Z1,StOk F H1 Z1 S σ→Ex H Z H1 Z1→WG F H1 Z1 (k c) P→Q (.bl c) H1):tE F g σ H Q:=by
  have e:(asB (g S)).bind k=(g S).bind fun d=>(match d with | .bl b=>R.ok b | _=>R.stuck).bind k:=by
    unfold asB; cases g S<;>rfl
  rw [e] at w
  refine aU ok w fun d v H1 Z1 ok1 x1 rv w1=>?_
  cases d with
  | bl b=>rw [Rep] at rv; subst rv; exact h b H1 Z1 ok1 x1 w1
  | _=>exact w1.elim
theorem g9 (ha:FE X F a ga) (hb:FE X F (.BoolOp .And (b::rest) pos) gb):FE X F (.BoolOp .And (a::b::rest) pos) (eAnd ga gb) :=
  (uQ ha hb).weak fun σ H Q ⟨Z,S,ok,w⟩=>nc ok w fun c H1 Z1 ok1 x1 w1=>⟨c,rfl,by
    cases c with
    | true=>exact ⟨Z1,S,ok1,w1⟩
    | false=>exact WG.now w1 ok1.sub _ (by rw [Rep])⟩
theorem vW (ha:FE X F a ga) (hb:FE X F (.BoolOp .Or (b::rest) pos) gb):FE X F (.BoolOp .Or (a::b::rest) pos) (eOr ga gb) :=
  (vP ha hb).weak fun σ H Q ⟨Z,S,ok,w⟩=>nc ok w fun c H1 Z1 ok1 x1 w1=>⟨c,rfl,by
    cases c with
    | true=>exact WG.now w1 ok1.sub _ (by rw [Rep])
    | false=>exact ⟨Z1,S,ok1,w1⟩⟩
theorem vc (ha:FE X F a ga):FE X F (.UnaryOp .Not a pos) (eNot ga) :=
  (uR ha).weak fun σ H Q ⟨Z,S,ok,w⟩=>nc ok w fun c H1 Z1 ok1 x1 w1=>⟨c,rfl,WG.now w1 ok1.sub _ (by rw [Rep])⟩
theorem jh (hc:FT X F c tc) (ha:FE X F a ga) (hb:FE X F b gb):FE X F (.IfExp c a b pos) (eIf tc ga gb) :=
  (qz hc ha hb).weak fun σ H Q ⟨Z,S,ok,w⟩=>gr ok w fun d H1 Z1 ok1 x1 w1=>by
    cases d with
    | true=>exact ⟨Z1,S,ok1,w1⟩
    | false=>exact ⟨Z1,S,ok1,w1⟩
end
def aNil:SS→R (List D):=fun _=>.ok []
def aCons (g:SS→R D) (gs:SS→R (List D)):SS→R (List D):=fun S=>(g S).bind fun d=>(gs S).bind fun ds=>.ok (d::ds)
def eTup (gs:SS→R (List D)):SS→R D:=fun S=>(gs S).bind fun ds=>if ds.length≤16777216 then .ok (.tup ds) else .stuck
def eLst (gs:SS→R (List D)):SS→R D:=fun S=>(gs S).bind fun ds=>if ds.length≤16777216 then .ok (.lst ds) else .stuck
section
variable {X:Cx} {F:Fx} {e:Expr} {es:List Expr} {g:SS→R D} {gs:SS→R (List D)} {pos:Pos}
theorem vd:FA X F [] aNil:=m7.weak fun σ H Q ⟨Z,S,ok,w⟩=>WG.now w ok.sub [] Reps.nil
theorem sR (ha:FE X F e g) (hr:FA X F es gs) (hs:starEach (e::es) X.env=(false,eval e X.env)::starEach es X.env:=by rfl):FA X F (e::es) (aCons g gs) :=
  (i5 ha hr hs).weak fun σ H Q ⟨Z,S,ok,w⟩=>aU ok w fun d v H1 Z1 ok1 x1 rv w1=>bH ok1 w1 fun ds vs H2 Z2 ok2 x2 rs w2=>WG.now w2 ok2.sub _ (Reps.cons (rv.mono x2.z) rs)
theorem ve {x1} (h:FA X F es gs):FE X F (.Tuple es x1 pos) (eTup gs) :=
  (u5 h).weak fun σ H Q ⟨Z,S,ok,w⟩=>bH ok w fun ds vs H1 Z1 ok1 x1 rs w1=>by
    split at w1
    · rename_i hl
      refine ⟨by rw [← rs.length,sizeLine_eq]; exact hl,fun p hp=>?_⟩
      have z:Same Z1 (upd Z1 p (.tup vs)):=aK (ok1.sub.free hp)
      exact w1 _ _ (Ex.alloc ok1.sub hp) _ (by rw [Rep]; exact ⟨p,vs,rfl,SqT.of ar,rs.mono z⟩)
    · exact w1.elim
theorem vf (h:FA X F es gs):FE X F (.List es pos) (eLst gs) :=
  (qF h).weak fun σ H Q ⟨Z,S,ok,w⟩=>bH ok w fun ds vs H1 Z1 ok1 x1 rs w1=>by
    split at w1
    · rename_i hl
      refine ⟨by rw [← rs.length,sizeLine_eq]; exact hl,fun p hp=>?_⟩
      have z:Same Z1 (upd Z1 p (.lst vs)):=aK (ok1.sub.free hp)
      exact w1 _ _ (Ex.alloc ok1.sub hp) _ (by rw [Rep]; exact ⟨p,vs,rfl,SqL.of ar,rs.mono z⟩)
    · exact w1.elim
end
def rO (r:R O):O:=match r with
  | .ok o=>o
  | .err k=>.er k
  | .stuck=>.stuck
def sDrop (g:SS→R D):SS→O:=fun S=>rO ((g S).bind fun _=>.ok (.nx S))
def sRet (g:SS→R D):SS→O:=fun S=>rO ((g S).bind fun d=>.ok (.rt d))
def sSet (i:Nat) (g:SS→R D):SS→O:=fun S=>rO ((g S).bind fun d=>.ok (.nx (S.set i (some (.val d)))))
section
variable {X:Cx} {F:Fx} {st:Stmt} {rest:List Stmt} {e c:Expr} {g:SS→R D} {gt:SS→R Bool} {ga gb:SS→O} {pos:Pos}
theorem WO.wg {D:Ends} {r:R O} {H Z:Hp} {S:SS} {σ:St} (ok:StOk F H Z S σ) (w:WO F Z (rO r) D):WG F H Z r fun o _ Z'=>WO F Z' o D:=by
  cases r with
  | ok o=>exact fun _ _ x=>WO.more w x.z
  | err k=>exact fun H' s=>w H' (ok.ex.same.trans s)
  | stuck=>exact w
theorem eZ (h:FE X F e g) (hs:swapsWith e none pos.line X.env=pure false:=by rfl):FS X F (.Expr e pos) (sDrop g) :=
  (kP h hs).weak fun D σ H ⟨Z,S,ok,w⟩=>aU ok (WO.wg ok w) fun d v H1 Z1 ok1 x1 rv w1=>WG.now w1 ok1.sub σ H1 Z1 (Same.refl _) ok1
theorem ah (h:FE X F e g):FS X F (.Return (some e) pos) (sRet g) :=
  (uS h).weak fun D σ H ⟨Z,S,ok,w⟩=>aU ok (WO.wg ok w) fun d v H1 Z1 ok1 x1 rv w1=>WG.now w1 ok1.sub v H1 Z1 ok1.ex rv
theorem aE (i:Nat) {x:Str} {pos':Pos} (hN:X.N.Nodup) (h:FE X F e g) (hi:X.N[i]?=some x:=by rfl) (hx:Loc X.env.scope x:=by first | exact Or.inl rfl | exact Or.inr rfl)
    (hs:swapsWith e (some (.Name x pos')) pos.line X.env=pure false:=by rfl) (hf:X.fn x=true∨X.env.scope.names.lookup x=some .local:=by first | exact .inl rfl | exact .inr rfl):FS X F (.Assign [.Name x pos'] e pos) (sSet i g) :=
  (mX hN hi hx h hs hf).weak fun D σ H ⟨Z,S,ok,w⟩=>aU ok (WO.wg ok w) fun d v H1 Z1 ok1 x1 rv w1=>WG.now w1 ok1.sub _ _ _ (Same.refl _) (ok1.setVal rv)
end
end FF
end
noncomputable section
set_option Elab.async false
set_option linter.all false
set_option maxRecDepth 100000
namespace FF
open PySem PySem.Spec PyProof.Rows L2
theorem OpD.or {F:Fx} {r r':R2} {f f':D→D→R D} (p:D→D→Bool) (h:OpD F r f) (h':OpD F r' f'):OpD F (fun x y H Q=>r x y H Q∨r' x y H Q) (fun x y=>if p x y=true then f x y else f' x y):=by
  intro H Z x y dx dy Q s rx ry w
  by_cases e:p dx dy=true
  · dsimp only at w; rw [if_pos e] at w; exact .inl (h H Z x y dx dy Q s rx ry w)
  · dsimp only at w; rw [if_neg e] at w; exact .inr (h' H Z x y dx dy Q s rx ry w)
def dI (c:Int→Int→Bool) (g:Int→Int→D):D→D→R D
  | .int i,.int j=>if c i j=true then .ok (g i j) else .stuck
  | _,_=>.stuck
def dI0 (g:Int→Int→D):D→D→R D
  | .int i,.int j=>.ok (g i j)
  | _,_=>.stuck
theorem qN {F:Fx} {C:Int→Int→Prop} {c:Int→Int→Bool} {g:Int→Int→V} {g':Int→Int→D} (hc:∀ i j,c i j=true→C i j) (hg:∀ i j Z,Rep F.K F.C Z (g' i j) (g i j)):OpD F (rI C g) (dI c g'):=by
  intro H Z x y dx dy Q s rx ry w
  cases dx with
  | int i =>
    cases dy with
    | int j =>
      rw [Rep] at rx
      rw [Rep] at ry
      subst rx; subst ry
      unfold dI at w
      dsimp only at w
      split at w
      · rename_i q; exact ⟨i,j,rfl,rfl,hc i j q,WG.now w s _ (hg i j Z)⟩
      · exact w.elim
    | _=>exact w.elim
  | _=>exact w.elim
theorem gg {F:Fx} {g:Int→Int→V} {g':Int→Int→D} (hg:∀ i j Z,Rep F.K F.C Z (g' i j) (g i j)):OpD F (rI0 g) (dI0 g'):=by
  intro H Z x y dx dy Q s rx ry w
  cases dx with
  | int i =>
    cases dy with
    | int j =>
      rw [Rep] at rx
      rw [Rep] at ry
      subst rx; subst ry
      exact ⟨i,j,rfl,rfl,WG.now w s _ (hg i j Z)⟩
    | _=>exact w.elim
  | _=>exact w.elim
def cMul (i j:Int):Bool:=(decide (-(2^64) < i)&&decide (i < 2^64))||(decide (-(2^64) < j)&&decide (j < 2^64))
def cDiv (i j:Int):Bool:=decide (0 < j)&&decide (j < 1073741824)
theorem sS (i j:Int) (h:cMul i j=true):CMul i j:=by
  unfold cMul at h
  simp only [Bool.or_eq_true,Bool.and_eq_true,decide_eq_true_eq] at h
  exact h
theorem sT (i j:Int) (h:cDiv i j=true):CDiv i j:=by
  unfold cDiv at h
  simp only [Bool.and_eq_true,decide_eq_true_eq] at h
  exact h
def isInt:D→Bool
  | .int _=>true
  | _=>false
def isTup:D→Bool
  | .tup _=>true
  | _=>false
def isLst:D→Bool
  | .lst _=>true
  | _=>false
def dCatT:D→D→R D
  | .tup xs,.tup ys=>if xs.length+ys.length≤16777216 then .ok (.tup (xs++ys)) else .stuck
  | _,_=>.stuck
def dCatL:D→D→R D
  | .lst xs,.lst ys=>if xs.length+ys.length≤16777216 then .ok (.lst (xs++ys)) else .stuck
  | _,_=>.stuck
def dRepT:D→D→R D
  | .tup xs,.int k=>if 0≤k∧k < 1000000∧xs.length*k.toNat≤16777216 then .ok (.tup (List.replicate k.toNat xs).flatten) else .stuck
  | _,_=>.stuck
def dRepL:D→D→R D
  | .lst xs,.int k=>if 0≤k∧k < 1000000∧xs.length*k.toNat≤16777216 then .ok (.lst (List.replicate k.toNat xs).flatten) else .stuck
  | _,_=>.stuck
def dIx:D→D→R D
  | .tup xs,.int i=>match atI xs i with
    | some d=>.ok d
    | none=>.stuck
  | .lst xs,.int i=>match atI xs i with
    | some d=>.ok d
    | none=>.stuck
  | _,_=>.stuck
theorem Reps.at {K:PySem.W.Frag} {C:Nat→Addr} {Z:Hp} {ds:List D} {vs:List V} {i:Int} {d:D} (r:Reps K C Z ds vs) (h:atI ds i=some d):∃ v,atI vs i=some v∧Rep K C Z d v:=by
  unfold atI at h ⊢
  rw [← r.length]
  cases e:ixN ds.length i with
  | none=>rw [e] at h; cases h
  | some j =>
    rw [e] at h
    exact r.get (i:=j) h
theorem vg {F:Fx}:OpD F (rIx F.K) dIx:=by
  intro H Z x y dx dy Q s rx ry w
  cases dx with
  | tup ds =>
    cases dy with
    | int i =>
      rw [Rep] at rx
      rw [Rep] at ry
      obtain ⟨a,vs,rfl,h1,h2⟩:=rx
      subst ry
      unfold dIx at w
      dsimp only at w
      split at w
      · rename_i d e
        obtain ⟨v,e1,r⟩:=h2.at e
        exact .inr (.inl ⟨a,vs,i,v,rfl,rfl,h1.mono s,e1,WG.now w s v r⟩)
      · exact w.elim
    | _=>exact w.elim
  | lst ds =>
    cases dy with
    | int i =>
      rw [Rep] at rx
      rw [Rep] at ry
      obtain ⟨a,vs,rfl,h1,h2⟩:=rx
      subst ry
      unfold dIx at w
      dsimp only at w
      split at w
      · rename_i d e
        obtain ⟨v,e1,r⟩:=h2.at e
        exact .inl ⟨a,vs,i,v,rfl,rfl,s.seq h1,e1,WG.now w s v r⟩
      · exact w.elim
    | _=>exact w.elim
  | _=>exact w.elim
section
open AutoSeq1 (wpAny_loadPart')
theorem lG (l b:Addr) (items items2:Array Value) (n n2:Nat) (dd dd2:Option Addr) (sl sl2:Array (Option Value)) (hc0:items.isEmpty=true) :
    Meets (Builtin.«tuple.__add__» ⟨[.ref l,.ref b],[]⟩) (fun _ R s=>s.heap.get? l=some { cls:=.type "tuple",dict:=dd,data:=.seq items n,slots:=sl }∧s.heap.get? b=some { cls:=.type "tuple",dict:=dd2,data:=.seq items2 n2,slots:=sl2 }∧R (.ok (.ret (.ref b))) s) :=
  .of_wp fun prog w A R s h=>by
    obtain ⟨hp,g,d,tk,os⟩:=s; obtain ⟨hl,hb,h⟩:=h
    have f2:=AutoSeq1.sub_tuple_tuple
    have f3:=AutoSeq1.sub_list_list
    wp_walk using wpAny_loadPart' hl,wpAny_loadPart' hb
    exact ⟨_,rfl,h⟩
end
theorem gu {K:PySem.W.Frag} {C:Nat→Addr} {Z:Hp} {ds:List D} {vs:List V} (r:Reps K C Z ds vs):∀ k:Nat,Reps K C Z (List.replicate k ds).flatten (List.replicate k vs).flatten
  | 0=>Reps.nil
  | k+1=>by
    rw [List.replicate_succ,List.replicate_succ,List.flatten_cons,List.flatten_cons]
    exact r.append (gu r k)
def rCat2 (K:PySem.W.Frag):R2:=fun x y H Q=>∃ a b xs ys,x=.ref a∧y=.ref b∧SqT K H a xs∧SqT K H b ys∧xs.length+ys.length≤sizeLine∧(∀ p,H p=none→Q (.ref p) (upd H p (.tup (xs++ys))))∧(ys=[]→Q (.ref a) H)∧(xs=[]→Q (.ref b) H)
theorem sU {X:Cx}:OpR X (binaryOp .Add) (rCat2 X.K):=by
  intro pins s σ H x y v u Q I rx ry h
  obtain ⟨a,b,xs,ys,rfl,rfl,ha,hb,hz,q1,q2,q3⟩:=h
  by_cases hx:xs=[]
  · cases rx
    cases ry
    obtain ⟨its,r1,p1,_⟩:=I.tuple ha
    obtain ⟨its2,r2,p2,_⟩:=I.tuple hb
    obtain ⟨⟨cls,dd,data,sl⟩,ho,hc,n,hd⟩:=id p1
    obtain ⟨⟨cls2,dd2,data2,sl2⟩,ho2,hc2,n2,hd2⟩:=id p2
    simp only at hc hd hc2 hd2
    subst hc hd hc2 hd2
    have he:its=[]:=by
      have:=r1.length
      rw [hx] at this
      exact List.length_eq_zero_iff.mp this.symm
    exact concat_meets ⟨_,ho,rfl⟩ ⟨_,ho2,rfl⟩ noFill_tuple_add seq_tuple_add PySem.F.slot_tuple_add PySem.F.entry_tuple_add (PySem.F.args_tuple_add_2 _ _)
      (lG a b its.toArray its2.toArray n n2 dd dd2 sl sl2 (by simp [he])) ⟨ho,ho2,⟨.ref b,H,I,rfl,q3 hx⟩⟩
  · exact sN pins s σ H _ _ v u Q I rx ry ⟨a,b,xs,ys,rfl,rfl,ha,hb,hx,hz,q2,fun _=>q1⟩
theorem qO {F:Fx}:OpD F (rCat2 F.K) dCatT:=by
  intro H Z x y dx dy Q s rx ry w
  cases dx with
  | tup ds =>
    cases dy with
    | tup es =>
      rw [Rep] at rx
      rw [Rep] at ry
      obtain ⟨a,vs,rfl,h1,h2⟩:=rx
      obtain ⟨b,us,rfl,k1,k2⟩:=ry
      unfold dCatT at w
      dsimp only at w
      split at w
      · rename_i hl
        refine ⟨a,b,vs,us,rfl,rfl,h1.mono s,k1.mono s,by rw [← h2.length,← k2.length,sizeLine_eq]; exact hl,fun p hp=>?_,fun e=>?_,fun e=>?_⟩
        · have z:Same Z (upd Z p (.tup (vs++us))):=aK (s.free hp)
          exact w _ _ (Ex.alloc s hp) _ (by rw [Rep]; exact ⟨p,_,rfl,SqT.of ar,(h2.append k2).mono z⟩)
        · have:es=[]:=List.length_eq_zero_iff.mp (by rw [k2.length,e]; rfl)
          subst this
          exact WG.now w s _ (by rw [List.append_nil,Rep]; exact ⟨a,vs,rfl,h1,h2⟩)
        · have:ds=[]:=List.length_eq_zero_iff.mp (by rw [h2.length,e]; rfl)
          subst this
          exact WG.now w s _ (by rw [List.nil_append,Rep]; exact ⟨b,us,rfl,k1,k2⟩)
      · exact w.elim
    | _=>exact w.elim
  | _=>exact w.elim
def rRepT (K:PySem.W.Frag):R2:=fun x y H Q=>∃ a k xs,x=.ref a∧y=.int k∧SqT K H a xs∧0≤k∧k < 1000000∧xs.length*k.toNat≤sizeLine∧(∀ p,H p=none→Q (.ref p) (upd H p (.tup (List.replicate k.toNat xs).flatten)))∧((List.replicate k.toNat xs).flatten=xs→Q (.ref a) H)
theorem sV {X:Cx}:OpR X (binaryOp .Mult) (rRepT X.K):=by
  intro pins s σ H x y v u Q I rx ry h
  obtain ⟨a,k,xs,rfl,rfl,ha,h0,h1,hz,q1,q2⟩:=h
  cases rx
  obtain ⟨t,rfl⟩:=ry
  obtain ⟨its,r,p1,_⟩:=I.tuple ha
  have hl:=r.length
  obtain ⟨⟨cls,dd,data,sl⟩,ho,hc,n,hd⟩:=id p1
  simp only at hc hd
  subst hc hd
  refine wpAny_binaryOp_repeat_ref (T := "tuple") (U := "int") (by decide) ⟨_,ho,rfl⟩ (fun s'=>typeIs_int s' k t) g8 PySem.F.fills_int_mul PySem.F.slot_int_rmul kU PySem.F.slot_int_index.lookup
    (call_meets PySem.F.slot_int_rmul (typeIs_int s k t) PySem.F.entry_int_rmul (PySem.F.args_int_rmul_2 _ _) (jd k t a its.toArray n dd sl) ⟨ho,rfl,⟨_,ho,rfl⟩,?_⟩)
  cases its with
  | nil =>
    have hx:xs=[]:=List.length_eq_zero_iff.mp hl
    have e:(List.replicate k.toNat xs).flatten=xs:=by rw [hx]; simp
    exact call_meets PySem.F.slot_tuple_mul ⟨_,ho,rfl⟩ PySem.F.entry_tuple_mul (PySem.F.args_tuple_mul_2 _ _) (j6 a n k t dd sl h0 h1) ⟨ho,⟨.ref a,H,I,rfl,q2 e⟩⟩
  | cons it its' =>
    have hne:(it::its').toArray.isEmpty=false:=by simp
    by_cases k1:k=1
    · subst k1
      have e:(List.replicate (1:Int).toNat xs).flatten=xs:=by simp
      exact call_meets PySem.F.slot_tuple_mul ⟨_,ho,rfl⟩ PySem.F.entry_tuple_mul (PySem.F.args_tuple_mul_2 _ _) (j5 a _ n t dd sl) ⟨ho,⟨.ref a,H,I,rfl,q2 e⟩⟩
    · by_cases k0:k=0
      · subst k0
        refine call_meets PySem.F.slot_tuple_mul ⟨_,ho,rfl⟩ PySem.F.entry_tuple_mul (PySem.F.args_tuple_mul_2 _ _) (je a _ n t dd sl hne) ⟨ho,?_⟩
        refine ⟨.ref s.heap.objs.size,_,I.laid (t':=s.toks) (o:=.tup []) (fun b ob q=>Heap.get?_push_of_some _ q) (Nat.le_refl _) ?_,rfl,q1 _ (I.hok.fresh (Nat.le_refl _))⟩
        exact ⟨Nat.zero_le _,[],.nil,IsTup.new _ _⟩
      · refine call_meets PySem.F.slot_tuple_mul ⟨_,ho,rfl⟩ PySem.F.entry_tuple_mul (PySem.F.args_tuple_mul_2 _ _) (j4 a _ n k t dd sl (by omega) h1 (by rw [List.size_toArray,← hl]; exact hz) hne) ⟨ho,?_⟩
        have ef:=g7 (it::its') k.toNat []
        rw [List.nil_append] at ef
        have ef':List.foldl (fun x1 x2=>x1++x2) #[] (List.replicate k.toNat (it::its').toArray)=(List.replicate k.toNat (it::its')).flatten.toArray:=ef
        rw [ef']
        refine ⟨.ref s.heap.objs.size,_,I.laid (t':=s.toks) (o:=.tup (List.replicate k.toNat xs).flatten) (fun b ob q=>Heap.get?_push_of_some _ q) (Nat.le_refl _) ?_,rfl,q1 _ (I.hok.fresh (Nat.le_refl _))⟩
        exact ⟨by rw [ou,Nat.mul_comm]; exact hz,_,r.rep k.toNat,IsTup.new _ _⟩
theorem qP {F:Fx}:OpD F (rRepT F.K) dRepT:=by
  intro H Z x y dx dy Q s rx ry w
  cases dx with
  | tup ds =>
    cases dy with
    | int k =>
      rw [Rep] at rx
      rw [Rep] at ry
      obtain ⟨a,vs,rfl,h1,h2⟩:=rx
      subst ry
      unfold dRepT at w
      dsimp only at w
      split at w
      · rename_i hk
        refine ⟨a,k,vs,rfl,rfl,h1.mono s,hk.1,hk.2.1,by rw [← h2.length,sizeLine_eq]; exact hk.2.2,fun p hp=>?_,fun e=>?_⟩
        · have z:Same Z (upd Z p (.tup (List.replicate k.toNat vs).flatten)):=aK (s.free hp)
          exact w _ _ (Ex.alloc s hp) _ (by rw [Rep]; exact ⟨p,_,rfl,SqT.of ar,(gu h2 k.toNat).mono z⟩)
        · refine WG.now w s _ ?_
          rw [Rep]
          exact ⟨a,vs,rfl,h1,by have:=gu h2 k.toNat; rw [e] at this; exact this⟩
      · exact w.elim
    | _=>exact w.elim
  | _=>exact w.elim
theorem qQ {F:Fx}:OpD F (fun x y H Q=>∃ a b xs ys,x=.ref a∧y=.ref b∧SqL F.K H a xs∧SqL F.K H b ys∧xs.length+ys.length≤sizeLine∧∀ p,H p=none→Q (.ref p) (upd H p (.lst (xs++ys)))) dCatL:=by
  intro H Z x y dx dy Q s rx ry w
  cases dx with
  | lst ds =>
    cases dy with
    | lst es =>
      rw [Rep] at rx
      rw [Rep] at ry
      obtain ⟨a,vs,rfl,h1,h2⟩:=rx
      obtain ⟨b,us,rfl,k1,k2⟩:=ry
      unfold dCatL at w
      dsimp only at w
      split at w
      · rename_i hl
        refine ⟨a,b,vs,us,rfl,rfl,s.seq h1,s.seq k1,by rw [← h2.length,← k2.length,sizeLine_eq]; exact hl,fun p hp=>?_⟩
        have z:Same Z (upd Z p (.lst (vs++us))):=aK (s.free hp)
        exact w _ _ (Ex.alloc s hp) _ (by rw [Rep]; exact ⟨p,_,rfl,SqL.of ar,(h2.append k2).mono z⟩)
      · exact w.elim
    | _=>exact w.elim
  | _=>exact w.elim
theorem qR {X:Cx}:OpR X (binaryOp .Add) (fun x y H Q=>∃ a b xs ys,x=.ref a∧y=.ref b∧SqL X.K H a xs∧SqL X.K H b ys∧xs.length+ys.length≤sizeLine∧∀ p,H p=none→Q (.ref p) (upd H p (.lst (xs++ys)))):=by
  intro pins s σ H x y v u Q I rx ry h
  obtain ⟨a,b,xs,ys,rfl,rfl,ha,hb,hz,q⟩:=h
  cases rx
  cases ry
  obtain ⟨its,r,⟨o,n,e,c1,c2,c3⟩,_⟩:=I.list ha
  obtain ⟨its2,r2,⟨o2,n2,e2,d1,d2,d3⟩,_⟩:=I.list hb
  have l1:=r.length
  have l2:=r2.length
  obtain ⟨cls,dd,data,sl⟩:=o
  obtain ⟨cls2,dd2,data2,sl2⟩:=o2
  simp only at c1 c3 d1 d3
  subst c1 c3 d1 d3
  refine concat_meets ⟨_,e,rfl⟩ ⟨_,e2,rfl⟩ noFill_list_add seq_list_add PySem.F.slot_list_add PySem.F.entry_list_add (PySem.F.args_list_add_2 _ _) (pc a b its.toArray its2.toArray n n2 dd dd2 sl sl2 (by rw [List.size_toArray,List.size_toArray]; omega)) ⟨e,e2,?_⟩
  have ea:its.toArray++its2.toArray=(its++its2).toArray:=by simp
  rw [ea]
  exact ⟨.ref _,_,I.lnew (t':=s.toks) (r.append r2) (by rw [List.length_append]; omega),rfl,q _ I.fresh⟩
def rRepL (K:PySem.W.Frag):R2:=fun x y H Q=>∃ a k xs,x=.ref a∧y=.int k∧SqL K H a xs∧0≤k∧k < 1000000∧xs.length*k.toNat≤sizeLine∧∀ p,H p=none→Q (.ref p) (upd H p (.lst (List.replicate k.toNat xs).flatten))
theorem sW {X:Cx}:OpR X (binaryOp .Mult) (rRepL X.K):=by
  intro pins s σ H x y v u Q I rx ry h
  obtain ⟨a,k,xs,rfl,rfl,ha,h0,h1,hz,q⟩:=h
  cases rx
  obtain ⟨t,rfl⟩:=ry
  obtain ⟨its,r,⟨o,n,e,c1,c2,c3⟩,_⟩:=I.list ha
  have hl:=r.length
  obtain ⟨cls,dd,data,sl⟩:=o
  simp only at c1 c3
  subst c1 c3
  refine wpAny_binaryOp_repeat_ref (T := "list") (U := "int") (by decide) ⟨_,e,rfl⟩ (fun s'=>typeIs_int s' k t) noFill_list_mul PySem.F.fills_int_mul PySem.F.slot_int_rmul repeat_list PySem.F.slot_int_index.lookup
    (call_meets PySem.F.slot_int_rmul (typeIs_int s k t) PySem.F.entry_int_rmul (PySem.F.args_int_rmul_2 _ _) (j7 k t a its.toArray n dd sl) ⟨e,rfl,⟨_,e,rfl⟩,
      call_meets PySem.F.slot_list_mul ⟨_,e,rfl⟩ PySem.F.entry_list_mul (PySem.F.args_list_mul_2 _ _) (pd a its.toArray n k t dd sl (by omega) (by omega) (by rw [List.size_toArray,← hl]; exact hz)) ⟨e,?_⟩⟩)
  have hnew:List.foldl (fun x1 x2=>x1++x2) #[] (List.replicate (if its.toArray.isEmpty=true then 0 else k.toNat) its.toArray)=(List.replicate k.toNat its).flatten.toArray:=by
    have f0:∀ m:Nat,List.foldl (fun x1 x2=>x1++x2) #[] (List.replicate m its.toArray)=(List.replicate m its).flatten.toArray:=fun m=>by
      have:=g7 its m []
      rwa [List.nil_append] at this
    rw [f0]
    cases its with
    | nil=>simp
    | cons a r'=>rw [if_neg (by simp)]
  rw [hnew]
  exact ⟨.ref _,_,I.lnew (t':=s.toks) (r.rep k.toNat) (by rw [ou,Nat.mul_comm]; exact hz),rfl,q _ I.fresh⟩
theorem qS {F:Fx}:OpD F (rRepL F.K) dRepL:=by
  intro H Z x y dx dy Q s rx ry w
  cases dx with
  | lst ds =>
    cases dy with
    | int k =>
      rw [Rep] at rx
      rw [Rep] at ry
      obtain ⟨a,vs,rfl,h1,h2⟩:=rx
      subst ry
      unfold dRepL at w
      dsimp only at w
      split at w
      · rename_i hk
        refine ⟨a,k,vs,rfl,rfl,s.seq h1,hk.1,hk.2.1,by rw [← h2.length,sizeLine_eq]; exact hk.2.2,fun p hp=>?_⟩
        have z:Same Z (upd Z p (.lst (List.replicate k.toNat vs).flatten)):=aK (s.free hp)
        exact w _ _ (Ex.alloc s hp) _ (by rw [Rep]; exact ⟨p,_,rfl,SqL.of ar,(gu h2 k.toNat).mono z⟩)
      · exact w.elim
    | _=>exact w.elim
  | _=>exact w.elim
mutual
def eqD:D→D→Bool
  | .non,.non=>true
  | .bl a,.bl b=>a==b
  | .bl a,.int b=>(if a then 1 else 0)==b
  | .int a,.bl b=>a==(if b then 1 else 0)
  | .int a,.int b=>a==b
  | .str a,.str b=>a==b
  | .tup xs,.tup ys=>eqDs xs ys
  | .lst xs,.lst ys=>eqDs xs ys
  | _,_=>false
def eqDs:List D→List D→Bool
  | [],[]=>true
  | x::xs,y::ys=>eqD x y&&eqDs xs ys
  | _,_=>false
end
mutual
def good:Nat→D→Bool
  | _,.exc _=>false
  | _,.fn _=>false
  | 0,.tup _=>false
  | 0,.lst _=>false
  | n+1,.tup xs=>goods n xs
  | n+1,.lst xs=>goods n xs
  | _,_=>true
def goods:Nat→List D→Bool
  | _,[]=>true
  | n,x::xs=>good n x&&goods n xs
end
end FF
end
noncomputable section
set_option Elab.async false
set_option linter.all false
set_option maxRecDepth 100000
namespace FF
open PySem PySem.Spec PyProof.Rows L2
mutual
theorem gw:∀ (n:Nat) (d:D),good n d=true→eqD d d=true
  | n,.non,_=>by simp [eqD]
  | n,.bl b,_=>by simp [eqD]
  | n,.int i,_=>by simp [eqD]
  | n,.str x,_=>by simp [eqD]
  | 0,.tup xs,h=>by simp [good] at h
  | 0,.lst xs,h=>by simp [good] at h
  | n+1,.tup xs,h=>by rw [good] at h; rw [eqD]; exact hG n xs h
  | n+1,.lst xs,h=>by rw [good] at h; rw [eqD]; exact hG n xs h
  | n,.exc k,h=>by cases n<;>simp [good] at h
  | n,.fn k,h=>by cases n<;>simp [good] at h
theorem hG:∀ (n:Nat) (ds:List D),goods n ds=true→eqDs ds ds=true
  | n,[],_=>by simp [eqDs]
  | n,d::ds,h=>by
    rw [goods,Bool.and_eq_true] at h
    rw [eqDs,gw n d h.1,hG n ds h.2]
    rfl
end
theorem aW {n:Nat}:∀ {ds:List D} {i:Nat} {d:D},goods n ds=true→ds[i]?=some d→good n d=true
  | [],_,_,_,e=>by simp at e
  | x::xs,0,d,h,e=>by
    rw [goods,Bool.and_eq_true] at h
    simp at e; subst e; exact h.1
  | x::xs,i+1,d,h,e=>by
    rw [goods,Bool.and_eq_true] at h
    exact aW h.2 (by simpa using e)
theorem dR:∀ (ds es:List D),eqDs ds es=((List.range (min ds.length es.length)).all (fun j=>eqD (ds.getD j .non) (es.getD j .non))&&ds.length==es.length)
  | [],[]=>by simp [eqDs]
  | [],e::es=>by simp [eqDs]
  | d::ds,[]=>by simp [eqDs]
  | d::ds,e::es=>by
    rw [eqDs,dR ds es]
    have h1:min (d::ds).length (e::es).length=min ds.length es.length+1:=by simp only [List.length_cons]; omega
    rw [h1,List.range_succ_eq_map,List.all_cons,List.all_map]
    have h2:((d::ds).length==(e::es).length)=(ds.length==es.length):=by simp
    rw [h2]
    simp only [List.getD_cons_zero,Bool.and_assoc]
    rfl
section
variable {X:Cx} {F:Fx} {pins:List (Addr×Obj)} {σ:St} {H Z:Hp} {s:Shared}
theorem ky {a:Addr} {xs ys:List V} (I:Inv X pins σ H s) (h:SqL X.K H a xs) (h':SqT X.K H a ys):False:=by
  obtain ⟨its,r,p,_⟩:=I.list h
  obtain ⟨its',r',p',_⟩:=I.tuple h'
  exact SeqAt.ne_of_list_tuple p.isList (show s.heap.IsTuple a its'.toArray from p') rfl
mutual
theorem kX {K:PySem.W.Frag} {C:Nat→Addr} (hK:X.K=K) (I:Inv X pins σ H s) (z:Same Z H):∀ (n:Nat) (d e:D) (v:V),good n d=true→good n e=true→Rep K C Z d v→Rep K C Z e v→d=e
  | n,.non,e,v,g1,g2,h,h'=>by rw [Rep] at h; subst h; cases e<;>rw [Rep] at h'<;>first | rfl | (obtain ⟨_,_,q,_⟩:=h'; cases q; done) | (obtain ⟨_,q,_⟩:=h'; cases q; done) | (cases h'; done)
  | n,.bl b,e,v,g1,g2,h,h'=>by rw [Rep] at h; subst h; cases e<;>rw [Rep] at h'<;>first | (cases h'; rfl) | (obtain ⟨_,_,q,_⟩:=h'; cases q; done) | (obtain ⟨_,q,_⟩:=h'; cases q; done) | (cases h'; done)
  | n,.int b,e,v,g1,g2,h,h'=>by rw [Rep] at h; subst h; cases e<;>rw [Rep] at h'<;>first | (cases h'; rfl) | (obtain ⟨_,_,q,_⟩:=h'; cases q; done) | (obtain ⟨_,q,_⟩:=h'; cases q; done) | (cases h'; done)
  | n,.str b,e,v,g1,g2,h,h'=>by rw [Rep] at h; subst h; cases e<;>rw [Rep] at h'<;>first | (cases h'; rfl) | (obtain ⟨_,_,q,_⟩:=h'; cases q; done) | (obtain ⟨_,q,_⟩:=h'; cases q; done) | (cases h'; done)
  | 0,.tup xs,e,v,g1,g2,h,h'=>by simp [good] at g1
  | 0,.lst xs,e,v,g1,g2,h,h'=>by simp [good] at g1
  | n,.exc k,e,v,g1,g2,h,h'=>by cases n<;>simp [good] at g1
  | n,.fn k,e,v,g1,g2,h,h'=>by cases n<;>simp [good] at g1
  | n+1,.tup ds,e,v,g1,g2,h,h'=>by
    rw [Rep] at h
    obtain ⟨a,vs,rfl,h1,h2⟩:=h
    cases e with
    | tup es =>
      rw [Rep] at h'
      obtain ⟨b,us,q,k1,k2⟩:=h'
      cases q
      have e1:vs=us:=I.tuple_inj (by rw [hK]; exact h1.mono z) (by rw [hK]; exact k1.mono z)
      subst e1
      rw [good] at g1 g2
      rw [ji hK I z n ds es vs g1 g2 h2 k2]
    | lst es =>
      rw [Rep] at h'
      obtain ⟨b,us,q,k1,k2⟩:=h'
      cases q
      exact (ky I (by rw [hK]; exact z.seq k1) (by rw [hK]; exact h1.mono z)).elim
    | exc k=>simp [good] at g2
    | fn k=>simp [good] at g2
    | _=>rw [Rep] at h'; cases h'
  | n+1,.lst ds,e,v,g1,g2,h,h'=>by
    rw [Rep] at h
    obtain ⟨a,vs,rfl,h1,h2⟩:=h
    cases e with
    | lst es =>
      rw [Rep] at h'
      obtain ⟨b,us,q,k1,k2⟩:=h'
      cases q
      have e1:vs=us:=I.list_inj (by rw [hK]; exact z.seq h1) (by rw [hK]; exact z.seq k1)
      subst e1
      rw [good] at g1 g2
      rw [ji hK I z n ds es vs g1 g2 h2 k2]
    | tup es =>
      rw [Rep] at h'
      obtain ⟨b,us,q,k1,k2⟩:=h'
      cases q
      exact (ky I (by rw [hK]; exact z.seq h1) (by rw [hK]; exact k1.mono z)).elim
    | exc k=>simp [good] at g2
    | fn k=>simp [good] at g2
    | _=>rw [Rep] at h'; cases h'
theorem ji {K:PySem.W.Frag} {C:Nat→Addr} (hK:X.K=K) (I:Inv X pins σ H s) (z:Same Z H):∀ (n:Nat) (ds es:List D) (vs:List V),goods n ds=true→goods n es=true→Reps K C Z ds vs→Reps K C Z es vs→ds=es
  | n,[],es,vs,g1,g2,h,h'=>by
    rw [Reps] at h; subst h
    cases es with
    | nil=>rfl
    | cons e es=>rw [Reps] at h'; obtain ⟨_,_,q,_⟩:=h'; cases q
  | n,d::ds,es,vs,g1,g2,h,h'=>by
    rw [Reps] at h
    obtain ⟨v,r,rfl,h1,h2⟩:=h
    cases es with
    | nil=>rw [Reps] at h'; cases h'
    | cons e es =>
      obtain ⟨k1,k2⟩:=h'.uncons
      rw [goods,Bool.and_eq_true] at g1 g2
      rw [kX hK I z n d e v g1.1 g2.1 h1 k1,ji hK I z n ds es r g1.2 g2.2 h2 k2]
end
def flatD:D→Bool
  | .non=>true
  | .bl _=>true
  | .int _=>true
  | .str _=>true
  | _=>false
theorem gx {K:PySem.W.Frag} {C:Nat→Addr} {d:D} {v:V} (f:flatD d=true) (h:Rep K C Z d v):flatV v=true:=by
  cases d<;>first | (rw [Rep] at h; subst h; rfl) | simp [flatD] at f
theorem lH {K:PySem.W.Frag} {C:Nat→Addr} {d e:D} {v u:V} (f1:flatD d=true) (f2:flatD e=true) (h:Rep K C Z d v) (h':Rep K C Z e u):eqV v u=eqD d e:=by
  cases d<;>first | (simp [flatD] at f1; done) | (cases e<;>first | (simp [flatD] at f2; done) | (rw [Rep] at h; rw [Rep] at h'; subst h; subst h'; simp [eqV,eqD]))
set_option maxHeartbeats 4000000 in
theorem hI {K:PySem.W.Frag} {C:Nat→Addr} (hK:X.K=K) (I:Inv X pins σ H s) (z:Same Z H):∀ (n:Nat) (A:Around) (d e:D) (v u:V) (x y:Value),good n d=true→good n e=true→Rep K C Z d v→Rep K C Z e u→RelV v x→RelV u y→A.units+n < cLine→SeqAt.EqAt A s x y (eqD d e):=by
  intro n
  induction n with
  | zero =>
    intro A d e v u x y g1 g2 h h' rx ry hu
    have f1:flatD d=true:=by cases d<;>first | rfl | simp [good] at g1
    have f2:flatD e=true:=by cases e<;>first | rfl | simp [good] at g2
    rw [← lH f1 f2 h h']
    exact qJ rx ry (gx f1 h) (gx f2 h')
  | succ n ih =>
    intro A d e v u x y g1 g2 h h' rx ry hu
    have hu0:A.units < cLine:=by omega
    have in1:A.in1.units+n < cLine:=by show A.units+1+n < cLine; omega
    by_cases f1:flatD d=true
    · by_cases f2:flatD e=true
      · rw [← lH f1 f2 h h']
        exact qJ rx ry (gx f1 h) (gx f2 h')
      · cases e with
        | tup es =>
          rw [Rep] at h'
          obtain ⟨b,us,rfl,k1,k2⟩:=h'
          cases ry
          obtain ⟨its,_,p,_⟩:=I.tuple (by rw [hK]; exact k1.mono z:SqT X.K H b us)
          have p':s.heap.IsTuple b its.toArray:=p
          cases d<;>first | (simp [flatD] at f1; done) | (rw [Rep] at h; subst h; simp only [eqD]; first | (cases rx; first | exact SeqAt.EqAt.none_tuple p' hu0 | exact SeqAt.EqAt.bool_tuple _ p' hu0) | (obtain ⟨t,rfl⟩:=rx; first | exact SeqAt.EqAt.int_tuple _ _ p' hu0 | exact SeqAt.EqAt.str_tuple _ _ p' hu0))
        | lst es =>
          rw [Rep] at h'
          obtain ⟨b,us,rfl,k1,k2⟩:=h'
          cases ry
          obtain ⟨its,_,p,_⟩:=I.list (by rw [hK]; exact z.seq k1:SqL X.K H b us)
          have p':=p.isList
          cases d<;>first | (simp [flatD] at f1; done) | (rw [Rep] at h; subst h; simp only [eqD]; first | (cases rx; first | exact SeqAt.EqAt.none_list p' hu0 | exact SeqAt.EqAt.bool_list _ p' hu0) | (obtain ⟨t,rfl⟩:=rx; first | exact SeqAt.EqAt.int_list _ _ p' hu0 | exact SeqAt.EqAt.str_list _ _ p' hu0))
        | exc k=>simp [good] at g2
        | fn k=>simp [good] at g2
        | _=>simp [flatD] at f2
    · cases d with
      | tup ds =>
        have hh:=h
        rw [Rep] at h
        obtain ⟨a,vs,rfl,h1,h2⟩:=h
        cases rx
        obtain ⟨its,r,p,_⟩:=I.tuple (by rw [hK]; exact h1.mono z:SqT X.K H a vs)
        have p':s.heap.IsTuple a its.toArray:=p
        cases e with
        | tup es =>
          have hh':=h'
          rw [Rep] at h'
          obtain ⟨b,us,rfl,k1,k2⟩:=h'
          cases ry
          by_cases hab:a=b
          · subst hab
            have:=kX hK I z (n+1) _ _ _ g1 g2 hh hh'
            rw [← this,gw (n+1) _ g1]
            exact SeqAt.EqAt.same _
          · obtain ⟨its2,r2,p2,_⟩:=I.tuple (by rw [hK]; exact k1.mono z:SqT X.K H b us)
            have p2':s.heap.IsTuple b its2.toArray:=p2
            rw [good] at g1 g2
            have q:=SeqAt.RcAt.tuples (A:=A) (e:=fun j=>eqD (ds.getD j .non) (es.getD j .non)) p' p2' hu0 fun j j1 j2=>by
              have j1':j < its.length:=by simpa using j1
              have j2':j < its2.length:=by simpa using j2
              have l1:j < ds.length:=by rw [h2.length,r.length]; exact j1'
              have l2:j < es.length:=by rw [k2.length,r2.length]; exact j2'
              have e1:ds[j]?=some ds[j]:=by simp
              have e2:es[j]?=some es[j]:=by simp
              obtain ⟨w1,f1,f2⟩:=h2.get e1
              obtain ⟨w2,f3,f4⟩:=k2.get e2
              obtain ⟨z1,m1,m2⟩:=r.get f1
              obtain ⟨z2,m3,m4⟩:=r2.get f3
              have n1:its.toArray[j]=z1:=by simpa [j1'] using m1
              have n2:its2.toArray[j]=z2:=by simpa [j2'] using m3
              rw [n1,n2]
              have g3:ds.getD j .non=ds[j]:=by simp [l1]
              have g4:es.getD j .non=es[j]:=by simp [l2]
              rw [g3,g4]
              exact ih A.in1 _ _ w1 w2 z1 z2 (aW g1 e1) (aW g2 e2) f2 f4 m2 m4 in1
            rw [eqD,dR]
            have s1:its.toArray.size=ds.length:=by rw [List.size_toArray,h2.length,r.length]
            have s2:its2.toArray.size=es.length:=by rw [List.size_toArray,k2.length,r2.length]
            rw [s1,s2] at q
            exact SeqAt.EqAt.of_refs hab q
        | lst es =>
          rw [Rep] at h'
          obtain ⟨b,us,rfl,k1,k2⟩:=h'
          cases ry
          obtain ⟨its2,r2,p2,_⟩:=I.list (by rw [hK]; exact z.seq k1:SqL X.K H b us)
          simp only [eqD]
          exact SeqAt.EqAt.tuple_list p' p2.isList hu0
        | exc k=>simp [good] at g2
        | fn k=>simp [good] at g2
        | _=>rw [Rep] at h'; subst h'; simp only [eqD]; first | (cases ry; first | exact SeqAt.EqAt.tuple_none p' hu0 | exact SeqAt.EqAt.tuple_bool _ p' hu0) | (obtain ⟨t,rfl⟩:=ry; first | exact SeqAt.EqAt.tuple_int _ _ p' hu0 | exact SeqAt.EqAt.tuple_str _ _ p' hu0)
      | lst ds =>
        have hh:=h
        rw [Rep] at h
        obtain ⟨a,vs,rfl,h1,h2⟩:=h
        cases rx
        obtain ⟨its,r,p,_⟩:=I.list (by rw [hK]; exact z.seq h1:SqL X.K H a vs)
        have p':=p.isList
        cases e with
        | lst es =>
          have hh':=h'
          rw [Rep] at h'
          obtain ⟨b,us,rfl,k1,k2⟩:=h'
          cases ry
          by_cases hab:a=b
          · subst hab
            have:=kX hK I z (n+1) _ _ _ g1 g2 hh hh'
            rw [← this,gw (n+1) _ g1]
            exact SeqAt.EqAt.same _
          · obtain ⟨its2,r2,p2,_⟩:=I.list (by rw [hK]; exact z.seq k1:SqL X.K H b us)
            have p2':=p2.isList
            rw [good] at g1 g2
            have s1:its.toArray.size=ds.length:=by rw [List.size_toArray,h2.length,r.length]
            have s2:its2.toArray.size=es.length:=by rw [List.size_toArray,k2.length,r2.length]
            rw [eqD,dR]
            by_cases hsz:ds.length=es.length
            · have q:=SeqAt.RcAt.lists (A:=A) (e:=fun j=>eqD (ds.getD j .non) (es.getD j .non)) p' p2' (by rw [s1,s2]; exact hsz) hu0 fun j j1 j2=>by
                have j1':j < its.length:=by simpa using j1
                have j2':j < its2.length:=by simpa using j2
                have l1:j < ds.length:=by rw [h2.length,r.length]; exact j1'
                have l2:j < es.length:=by rw [k2.length,r2.length]; exact j2'
                have e1:ds[j]?=some ds[j]:=by simp
                have e2:es[j]?=some es[j]:=by simp
                obtain ⟨w1,f1,f2⟩:=h2.get e1
                obtain ⟨w2,f3,f4⟩:=k2.get e2
                obtain ⟨z1,m1,m2⟩:=r.get f1
                obtain ⟨z2,m3,m4⟩:=r2.get f3
                have n1:its.toArray[j]=z1:=by simpa [j1'] using m1
                have n2:its2.toArray[j]=z2:=by simpa [j2'] using m3
                rw [n1,n2]
                have g3:ds.getD j .non=ds[j]:=by simp [l1]
                have g4:es.getD j .non=es[j]:=by simp [l2]
                rw [g3,g4]
                exact ih A.in1 _ _ w1 w2 z1 z2 (aW g1 e1) (aW g2 e2) f2 f4 m2 m4 in1
              rw [s1] at q
              rw [hsz,Nat.min_self,beq_self_eq_true,Bool.and_true,← hsz]
              exact SeqAt.EqAt.of_refs hab q
            · have q:=SeqAt.RcAt.lists_lengths (A:=A) p' p2' (by rw [s1,s2]; simpa using hsz) hu0
              rw [show (ds.length==es.length)=false by simpa using hsz,Bool.and_false]
              exact SeqAt.EqAt.of_refs hab q
        | tup es =>
          rw [Rep] at h'
          obtain ⟨b,us,rfl,k1,k2⟩:=h'
          cases ry
          obtain ⟨its2,r2,p2,_⟩:=I.tuple (by rw [hK]; exact k1.mono z:SqT X.K H b us)
          simp only [eqD]
          exact SeqAt.EqAt.list_tuple p' (show s.heap.IsTuple b its2.toArray from p2) hu0
        | exc k=>simp [good] at g2
        | fn k=>simp [good] at g2
        | _=>rw [Rep] at h'; subst h'; simp only [eqD]; first | (cases ry; first | exact SeqAt.EqAt.list_none p' hu0 | exact SeqAt.EqAt.list_bool _ p' hu0) | (obtain ⟨t,rfl⟩:=ry; first | exact SeqAt.EqAt.list_int _ _ p' hu0 | exact SeqAt.EqAt.list_str _ _ p' hu0)
      | exc k=>simp [good] at g1
      | fn k=>simp [good] at g1
      | _=>simp [flatD] at f1
end
end FF
end
noncomputable section
set_option Elab.async false
set_option linter.all false
set_option maxRecDepth 100000
namespace FF
open PySem PySem.Spec PyProof.Rows L2
theorem objThere {P:Program} {w:World} {H:Hp} {h:Heap} {a:Addr} {o:HO} (x:ObjOk P w H h a o):∃ ob,h.get? a=some ob:=by
  cases o with
  | lst xs=>obtain ⟨_,_,_,_,e⟩:=x; exact ⟨_,e⟩
  | tup xs=>obtain ⟨_,_,_,o,e,_⟩:=x; exact ⟨o,e⟩
  | dK kvs=>obtain ⟨_,_,_,_,o,_,_,e,_⟩:=x; exact ⟨o,e⟩
  | dT kvs=>obtain ⟨_,_,_,_,o,_,_,e,_⟩:=x; exact ⟨o,e⟩
  | set S n=>obtain ⟨o,_,_,_,e,_⟩:=x; exact ⟨o,e⟩
  | ins C dx fs=>obtain ⟨_,_,_,e,_⟩:=x; exact ⟨_,e⟩
  | own y=>exact x
  | xd fs=>obtain ⟨_,⟨o,_,_,e,_⟩,_⟩:=x; exact ⟨o,e⟩
  | rng lo hi=>obtain ⟨_,_,_,e⟩:=x; exact ⟨_,e⟩
  | frz ob u=>obtain ⟨e,_⟩:=x; exact ⟨_,e⟩
  | tbl ps=>exact ⟨_,(show h.get? a=some _ from x)⟩
  | met f y=>exact ⟨_,(show h.get? a=some _ from x)⟩
  | ext φ=>obtain ⟨_,e,_⟩:=x; exact e
def Cov (B:Heap) (h h':Heap) (H':Hp) (l:List Env):Prop:=∀ b o,h'.get? b=some o→(H' b≠none∨∃ o',h.get? b=some o')→b∉frs l→B.get? b=some o
def CXE (P:Program) (w:World):CXT:=fun outer H s E e s' =>
  ∃ (ea C t:Addr) (H':Hp) (B:Heap),e=.ref ea∧s'.os=s.os∧AllBare s'.gens∧Un (frs outer) [] H H' s.heap s'.heap∧HOk P w H' s'.heap ∧
    Heap.FlyingW B outer ea (.ref C) (.ref t) s'.heap∧H' ea=none∧Cov B s.heap s'.heap H' outer∧E (.ref C) none H'
section
variable {X:Cx} {pins:List (Addr×Obj)} {σ:St} {H H':Hp} {s s':Shared} {B:Heap}
theorem sX {h2:Heap} {sc:Shared} (J:Inv X pins σ H' s') (I:∃ σ0 H0 pl,Inv X pl σ0 H0 sc) (hp:∀ p∈X.pn++pins,∃ o,sc.heap.get? p.1=some o) (hl:∀ o,s'.heap.get? X.env.locals=some o→∃ o',sc.heap.get? X.env.locals=some o')
    (cov:Cov B sc.heap s'.heap H' X.stack) (hB:B.StaysIn h2) (up:s'.heap.UpToSlots h2):Inv X pins σ H' { s' with heap:=h2 }:=by
  obtain ⟨σ0,H0,pl,I0⟩:=I
  have ins:∀ b o,X.s₀.heap.get? b=some o→b∉X.ex→∃ o',sc.heap.get? b=some o':=fun b o e hx=>I0.base.there b o e hx
  have nloc:∀ b o,X.s₀.heap.get? b=some o→b≠X.env.locals:=fun b o e=>Nat.ne_of_lt (Nat.lt_of_lt_of_le (Heap.lt_size e) J.ok.above)
  have nstk:∀ b,b≠X.env.locals→b∉X.fs→b∉frs X.stack:=fun b h1 h2 z=>(List.mem_cons.mp (J.stkSub b z)).elim h1 h2
  have trk:∀ b o,s'.heap.get? b=some o→H' b≠none→h2.get? b=some o:=fun b o e ht=>hB b o (cov b o e (.inl ht) fun z=>ht (J.stkFree b z))
  have nf:∀ b∈X.fs,∀ o,s'.heap.get? b=some o→∀ vs,o.data≠.fields vs:=fun b hb o e=>by
    obtain ⟨_,o',e',d⟩:=J.funs.mem hb
    rw [e] at e'; cases e'; exact d
  refine ⟨J.ok,J.os,J.bare,⟨fun b o e n hb hx=>?_,fun b o e n hb hx=>?_,J.base.free,fun b o e hx=>?_,J.base.tups,J.base.frzs,J.base.tbls⟩,?_,fun x c e=>?_,J.free,J.freeC,fun p hpp=>?_,fun b u e=>?_,J.len⟩
  · have e1:=J.base.keep b o e n hb hx
    exact hB b o (cov b o e1 (.inr (ins b o e hx)) (nstk b (nloc b o e) hb))
  · obtain ⟨sl,e1⟩:=J.base.slot b o e n hb hx
    obtain ⟨sl',e2⟩:=up b _ e1 (nf b hb _ e1)
    exact ⟨sl',e2⟩
  · obtain ⟨o',e1⟩:=J.base.there b o e hx
    by_cases hb:b∈X.fs
    · obtain ⟨sl',e2⟩:=up b _ e1 (nf b hb _ e1)
      exact ⟨_,e2⟩
    · exact ⟨o',hB b o' (cov b o' e1 (.inr (ins b o e hx)) (nstk b (nloc b o e) hb))⟩
  · obtain ⟨m,hn,hv⟩:=J.loc
    refine ⟨m,up.ns hn,fun i x v h1 h2 h3=>?_⟩
    obtain ⟨u,r,l⟩:=hv i x v h1 h2 h3
    refine ⟨u,r,?_⟩
    rcases l with l | ⟨k,c,e,⟨o,ho,hd⟩⟩
    · exact .inl l
    · obtain ⟨sl,e2⟩:=up c o ho fun vs q=>by rw [hd] at q; cases q
      exact .inr ⟨k,c,e,⟨_,e2,hd⟩⟩
  · obtain ⟨v,o,ho,hd⟩:=J.cell x c e
    obtain ⟨sl,e2⟩:=up c o ho fun vs q=>by rw [hd] at q; cases q
    exact ⟨v,_,e2,hd⟩
  · obtain ⟨e,n,ne,nf',d⟩:=J.pin p hpp
    exact ⟨hB _ _ (cov p.1 p.2 e (.inr (hp p hpp)) (nstk _ ne nf')),n,ne,nf',d⟩
  · refine (J.hok b u e).stay (fun c v hc q=>trk c v q ?_) (fun _ q=>q) fun _ _ q=>q
    rcases hc with z | z
    · subst z; rw [e]; simp
    · rw [z]; simp
end
section
variable {P:Program} {w:World} {K:PySem.W.Frag} {mg:Str→Option Value} {base:Heap} {N:List Str} {qual:Str} {scope:Scope} {f:Addr} {cd:Value} {A:Around} {outer:List Env} {s0:Shared} {H0:Hp} {E:XK}
abbrev bodyX (P:Program) (w:World) (K:PySem.W.Frag) (mg:Str→Option Value) (base:Heap) (N:List Str) (qual:Str) (scope:Scope) (f:Addr) (cd:Value) (A:Around) (outer:List Env) (s0:Shared) (H0:Hp) (E:XK):Cx :=
  cxOf (CXE P w) P w K mg base N qual scope f cd A outer s0 H0 E
theorem oy {pins:List (Addr×Obj)} {σ:St} {H':Hp} {s':Shared} {B h2:Heap} {ea C t:Addr} (J:Inv (bodyX P w K mg base N qual scope f cd A outer s0 H0 E) pins σ H' s')
    (cov:Cov B s0.heap s'.heap H' (envOfC qual scope s0.heap.objs.size f cd::outer)) (up:s'.heap.UpToSlots h2) (fl:Heap.FlyingW B outer ea (.ref C) (.ref t) h2) (hn:H' ea=none) (hE:E (.ref C) none H') :
    CXE P w outer H0 s0 E (.ref ea) { s' with heap:=h2 }:=by
  have hB:=fl.1
  have nloc:∀ b o,s0.heap.get? b=some o→b≠s0.heap.objs.size:=fun b o e=>Nat.ne_of_lt (Heap.lt_size e)
  have nstk:∀ b,b≠s0.heap.objs.size→b∉frs outer→b∉frs (envOfC qual scope s0.heap.objs.size f cd::outer):=fun b h1 h2 z=>(List.mem_cons.mp (J.stkSub b z)).elim h1 h2
  have trk:∀ b o,s'.heap.get? b=some o→H' b≠none→B.get? b=some o:=fun b o e ht=>cov b o e (.inl ht) fun z=>ht (J.stkFree b z)
  have noe:∀ b:Addr,b∉([]:List Addr):=fun _ z=>nomatch z
  have nf:∀ b∈frs outer,∀ o,s'.heap.get? b=some o→∀ vs,o.data≠.fields vs:=fun b hb o e=>by
    obtain ⟨_,o',e',d⟩:=J.funs.mem hb
    rw [e] at e'; cases e'; exact d
  have thr:∀ b o,s0.heap.get? b=some o→∃ o',s'.heap.get? b=some o'∧(b∉frs outer→B.get? b=some o'):=fun b o e=>by
    obtain ⟨o',e1⟩:=J.base.there b o e (noe b)
    exact ⟨o',e1,fun hb=>cov b o' e1 (.inr ⟨o,e⟩) (nstk b (nloc b o e) hb)⟩
  refine ⟨ea,C,t,H',B,rfl,J.os,J.bare,⟨fun b o e n hb hx=>?_,fun b o e n hb hx=>?_,J.base.free,fun b o e hx=>?_,J.base.tups,J.base.frzs,J.base.tbls⟩,fun b u e=>?_,fl,hn,fun b o e hc hb=>?_,hE⟩
  · have e1:=J.base.keep b o e n hb hx
    exact hB b o (cov b o e1 (.inr ⟨o,e⟩) (nstk b (nloc b o e) hb))
  · obtain ⟨sl,e1⟩:=J.base.slot b o e n hb hx
    obtain ⟨sl',e2⟩:=up b _ e1 (nf b hb _ e1)
    exact ⟨sl',e2⟩
  · obtain ⟨o',e1,e2⟩:=thr b o e
    by_cases hb:b∈frs outer
    · obtain ⟨sl',e3⟩:=up b _ e1 (nf b hb _ e1)
      exact ⟨_,e3⟩
    · exact ⟨o',hB b o' (e2 hb)⟩
  · refine (J.hok b u e).stay (fun c v hc q=>hB c v (trk c v q ?_)) (fun _ q=>q) fun _ _ q=>q
    rcases hc with z | z
    · subst z; rw [e]; simp
    · rw [z]; simp
  · have same:∀ o',s'.heap.get? b=some o'→B.get? b=some o'→B.get? b=some o:=fun o' _ q=>by
      have:=hB b o' q
      have e':h2.get? b=some o:=e
      rw [e'] at this; cases this; exact q
    rcases hc with z | ⟨o',z⟩
    · cases q:H' b with
      | none=>exact absurd q z
      | some u =>
        obtain ⟨o',e1⟩:=objThere (J.hok b u q)
        exact same o' e1 (trk b o' e1 (by rw [q]; simp))
    · obtain ⟨o'',e1,e2⟩:=thr b o' z
      exact same o'' e1 (e2 hb)
theorem kz:Passes (CXE P w) (bodyX P w K mg base N qual scope f cd A outer s0 H0 E) E:=by
  intro pins σ H s e s' I h
  obtain ⟨ea,C,t,H',B,rfl,os,bare,un,hok,fl,hn,cov,hE⟩:=h
  have J:Inv (bodyX P w K mg base N qual scope f cd A outer s0 H0 E) pins σ H' s':=I.call' (ch:=[]) os un hok bare fun b z=>nomatch z
  refine wpAny_leaves_onW I.ok.frames rfl fl fun h2 fl2 up=>?_
  refine oy J (fun b o e hc hb=>cov b o e ?_ hb) up fl2 hn hE
  rcases hc with z | ⟨o',z⟩
  · exact .inl z
  · obtain ⟨o'',z'⟩:=I.base.there b o' z (fun q=>nomatch q)
    exact .inr ⟨o'',z'⟩
theorem pj {pins:List (Addr×Obj)} {σ:St} {H:Hp} {s:Shared} {h1:Heap} {ea C:Addr} {args:List Value} (I:Inv (bodyX P w K mg base N qual scope f cd A outer s0 H0 E) pins σ H s) (hx:Heap.MadeExcOf s.heap h1 ea (.ref C) args) (hE:E (.ref C) none H) :
    (bodyX P w K mg base N qual scope f cd A outer s0 H0 E).xe (.ref ea) { s with heap:=h1 }:=by
  have hin:∀ env∈(envOfC qual scope s0.heap.objs.size f cd::outer),∀ a,env.frame=some a→a∈frs (envOfC qual scope s0.heap.objs.size f cd::outer):=fun env he a ha=>List.mem_filterMap.mpr ⟨env,he,ha⟩
  refine wpAny_leaves_madeW (s:={ s with heap:=h1 }) (base:=PySem.W.hideAll s.heap (frs (envOfC qual scope s0.heap.objs.size f cd::outer))) I.ok.frames rfl (fun b o q=>PySem.W.of_hideAll _ q) (PySem.W.funFrames_hide I.stack hin) hx fun h2 t fl _ _ up=>?_
  have hn:H ea=none:=by
    cases q:H ea with
    | none=>rfl
    | some u =>
      obtain ⟨o,e⟩:=objThere (I.hok ea u q)
      rw [hx.new] at e; cases e
  exact oy (s':=s) I (fun b o e _ hb=>PySem.W.hideAll_get _ e hb) ((Heap.UpToSlots.of_keeps hx.keeps).trans up) fl hn hE
end
end FF
end
noncomputable section
set_option Elab.async false
set_option linter.all false
set_option maxRecDepth 100000
namespace FF
open PySem PySem.Spec PyProof.Rows L2
def relabN (names:List (Str×NameKind)) (env:Env):List (Str×NameKind) :=
  names.map fun (n,k)=>if (k==.free&&env.scope.kind==.function&&env.kindOf n==some .cell) then (n,.cell) else (n,k)
theorem jj {env:Env}:∀ {names:List (Str×NameKind)} {x:Str},names.lookup x=some .free→(relabN names env).lookup x=some .cell∨(relabN names env).lookup x=some .free
  | [],_,h=>by simp at h
  | (n,k)::r,x,h=>by
    have ih:=@jj env r x
    show List.lookup x ((if (k==NameKind.free&&env.scope.kind==.function&&env.kindOf n==some .cell)=true then (n,NameKind.cell) else (n,k))::relabN r env)=_∨List.lookup x ((if (k==NameKind.free&&env.scope.kind==.function&&env.kindOf n==some .cell)=true then (n,NameKind.cell) else (n,k))::relabN r env)=_
    cases hx:x==n with
    | true =>
      simp only [List.lookup_cons,hx] at h
      cases h
      split
      · exact .inl (by simp [List.lookup_cons,hx])
      · exact .inr (by simp [List.lookup_cons,hx])
    | false =>
      simp only [List.lookup_cons,hx] at h
      split<;>(simp only [List.lookup_cons,hx]; exact ih h)
theorem jk {env:Env}:∀ {names:List (Str×NameKind)} {x:Str},((relabN names env).lookup x=some .cell∨(relabN names env).lookup x=some .free)→∃ y∈names,y.1=x∧(y.2=.free∨y.2=.cell)
  | [],_,h=>by simp [relabN] at h
  | (n,k)::r,x,h=>by
    have ih:=@jk env r x
    change List.lookup x ((if (k==NameKind.free&&env.scope.kind==.function&&env.kindOf n==some .cell)=true then (n,NameKind.cell) else (n,k))::relabN r env)=_∨List.lookup x ((if (k==NameKind.free&&env.scope.kind==.function&&env.kindOf n==some .cell)=true then (n,NameKind.cell) else (n,k))::relabN r env)=_ at h
    cases hx:x==n with
    | true =>
      have e:x=n:=eq_of_beq hx
      refine ⟨(n,k),List.mem_cons_self,e.symm,?_⟩
      by_cases hq:(k==NameKind.free&&env.scope.kind==.function&&env.kindOf n==some .cell)=true
      · simp only [Bool.and_eq_true,beq_iff_eq] at hq
        exact .inl hq.1.1
      · rw [if_neg hq] at h
        simp only [List.lookup_cons,hx] at h
        rcases h with h | h
        · cases h; exact .inr rfl
        · cases h; exact .inl rfl
    | false =>
      have h':(relabN r env).lookup x=some .cell∨(relabN r env).lookup x=some .free:=by
        by_cases hq:(k==NameKind.free&&env.scope.kind==.function&&env.kindOf n==some .cell)=true
        · rw [if_pos hq] at h; simpa only [List.lookup_cons,hx] using h
        · rw [if_neg hq] at h; simpa only [List.lookup_cons,hx] using h
      obtain ⟨y,hy,e⟩:=ih h'
      exact ⟨y,List.mem_cons_of_mem _ hy,e⟩
theorem b3:∀ (names:List (Str×NameKind)) (n:Nat) (acc:List (Str×Addr)),cellsFrom n names acc=cellsFrom n names []++acc
  | [],_,_=>rfl
  | (name,kind)::r,n,acc=>by
    unfold cellsFrom
    split
    · rw [b3 r (n+1) ((name,n)::acc),b3 r (n+1) [(name,n)],List.append_assoc]; rfl
    · exact b3 r n acc
theorem hJ:∀ (names:List (Str×NameKind)) (n:Nat) {x:Str} {c:Addr},(x,c)∈cellsFrom n names []→(x,NameKind.cell)∈names
  | [],_,_,_,h=>nomatch h
  | (name,kind)::r,n,x,c,h=>by
    unfold cellsFrom at h
    split at h
    · rename_i hk
      rw [b3] at h
      rcases List.mem_append.mp h with h | h
      · exact List.mem_cons_of_mem _ (hJ r _ h)
      · rw [List.mem_singleton] at h
        cases h
        rw [eq_of_beq hk]; exact List.mem_cons_self
    · exact List.mem_cons_of_mem _ (hJ r _ h)
theorem hU:∀ (names:List (Str×NameKind)) (n:Nat) {x:Str},(x,NameKind.cell)∈names→∃ c,(cellsFrom n names []).lookup x=some c
  | [],_,_,h=>nomatch h
  | (name,kind)::r,n,x,h=>by
    by_cases hr:(x,NameKind.cell)∈r
    · unfold cellsFrom
      split
      · obtain ⟨c,hc⟩:=hU r (n+1) hr
        rw [b3,List.lookup_append,hc]; exact ⟨c,rfl⟩
      · exact hU r n hr
    · rcases List.mem_cons.mp h with e | e
      · cases e
        unfold cellsFrom
        rw [if_pos (by rfl),b3,List.lookup_append]
        cases (cellsFrom (n+1) r []).lookup name with
        | some c=>exact ⟨c,rfl⟩
        | none=>exact ⟨n,by simp [List.lookup_cons]⟩
      · exact absurd e hr
structure CellsB (scope:Scope) (cl cl2:List (Str×Addr)) (C:Addr) (h:Heap):Prop where
  old:∀ n c,cl2.lookup n=some c→(cl.lookup n=some c∧(n,NameKind.cell)∉scope.names)∨(C < c∧h.IsCell c none∧(n,NameKind.cell)∈scope.names)
  keep:∀ n,(n,NameKind.cell)∉scope.names→cl2.lookup n=cl.lookup n
  mine:∀ n,(n,NameKind.cell)∈scope.names→∃ c,cl2.lookup n=some c
  inj:∀ x y c,C < c→cl2.lookup x=some c→cl2.lookup y=some c→(x,NameKind.cell)∈scope.names→(y,NameKind.cell)∈scope.names→x=y
section
variable {M:Model} {A:Around} {E:Value→Shared→Prop} {s:Shared}
theorem kY {scope:Scope} {globals:Addr} {cl:List (Str×Addr)} {qual:Str} {env:Env} {Q:Env→Shared→Prop}
    (hQ:∀ h' cl2,h'.Ns s.heap.objs.size (fun _=>none)→(∀ b o,s.heap.get? b=some o→h'.get? b=some o)→CellsB scope cl cl2 s.heap.objs.size h'→Q (newEnv scope s.heap.objs.size globals cl2 qual none .none (some env) builtinsNs) { s with heap:=h' }) :
    wpAny M A (newFunctionEnv scope globals cl [] qual none .none (some env)) Q E s:=by
  simp only [newFunctionEnv,Option.isSome_some,if_true]
  refine wpAny_bind (wpAny_alloc ?_)
  refine wpAny_bind (wpAny_layCells _ (fun name kind cells=>by cases hkc:kind==NameKind.cell<;>simp [hkc]) _ _ _ _ ?_)
  have ok:=cellsFrom_ok scope.names (s.heap.push { cls:=.type "dict",data:=.dict #[] }) (s.heap.objs.size+1) [] ⟨fun _ _ hm=>(nomatch hm),List.Pairwise.nil⟩ (by rw [Heap.size_push]; exact Nat.le_refl _)
  rw [Heap.size_push] at ok
  rw [show ({ s with heap:=s.heap.push { cls:=.type "dict",data:=.dict #[] } }:Shared).heap.objs.size=s.heap.objs.size+1 from Heap.size_push ..]
  simp only [List.forIn_nil]
  refine wpAny_bind (wpAny_pure (wpAny_pure ?_))
  refine hQ _ _ ((Heap.Ns.new s.heap (.type "dict")).keeps (pushCells_keeps _ _)) (fun b o e=>pushCells_keeps _ _ b o (Heap.get?_push_of_some _ e)) ?_
  have look:∀ n,(cellsFrom (s.heap.objs.size+1) scope.names cl).lookup n=((cellsFrom (s.heap.objs.size+1) scope.names []).lookup n).or (cl.lookup n):=fun n=>by rw [b3,List.lookup_append]
  have no:∀ n,(n,NameKind.cell)∉scope.names→(cellsFrom (s.heap.objs.size+1) scope.names []).lookup n=none:=fun n hn=>by
    cases e:(cellsFrom (s.heap.objs.size+1) scope.names []).lookup n with
    | none=>rfl
    | some c=>exact absurd (hJ _ _ (PySem.mem_of_lookup e)) hn
  have keep:∀ n,(n,NameKind.cell)∉scope.names→(cellsFrom (s.heap.objs.size+1) scope.names cl).lookup n=cl.lookup n:=fun n hn=>by rw [look,no n hn]; rfl
  have new:∀ n,(n,NameKind.cell)∈scope.names→∃ c,(cellsFrom (s.heap.objs.size+1) scope.names []).lookup n=some c∧(cellsFrom (s.heap.objs.size+1) scope.names cl).lookup n=some c:=fun n hn=>by
    obtain ⟨c,hc⟩:=hU scope.names (s.heap.objs.size+1) hn
    exact ⟨c,hc,by rw [look,hc]; rfl⟩
  refine ⟨fun n c e=>?_,keep,fun n hn=>?_,fun x y c _ ex ey hx hy=>?_⟩
  · by_cases hn:(n,NameKind.cell)∈scope.names
    · obtain ⟨c',h1,h2⟩:=new n hn
      rw [e] at h2; cases h2
      have:=ok.empty n c (PySem.mem_of_lookup h1)
      exact .inr ⟨this.2,this.1,hn⟩
    · rw [keep n hn] at e
      exact .inl ⟨e,hn⟩
  · obtain ⟨c,_,h2⟩:=new n hn
    exact ⟨c,h2⟩
  · obtain ⟨c1,h1,h2⟩:=new x hx
    obtain ⟨c2,h3,h4⟩:=new y hy
    rw [ex] at h2; cases h2
    rw [ey] at h4; cases h4
    exact name_of_addr ok.apart (PySem.mem_of_lookup h1) (PySem.mem_of_lookup h3)
end
theorem fD {names:List (Str×NameKind)} {x:Str} {k:NameKind} (h:names.lookup x=some k):(x,k)∈names:=PySem.mem_of_lookup h
def blk (X:Cx) (scope:Scope) (cl:List (Str×Addr)) (C:Addr) (s:Shared) (H:Hp) (fp:List Addr) (N:List Str):Cx where
  prog:=X.prog
  w:=X.w
  K:=X.K
  mg:=X.mg
  base:=X.base
  A:=X.A
  N:=N
  s₀:=s
  H₀:=H
  env:=compEnvC scope cl C X.env
  outer:=X.stack
  stack:=X.stack
  ex:=fp
  fn:=fun x=>scope.names.lookup x==some .cell
  calm:=true
  pn:=[]
  xe:=fun _ _=>False
def startB (own:Nat) (cap:List Nat) (σ:St):St:=List.replicate own none++cap.map fun i=>(σ[i]?).getD none
structure BlkOk (XN:List Str) (osc scope:Scope) (N:List Str) (own:Nat) (cap:List Nat):Prop where
  kind:scope.kind=.function
  ncell:∀ y∈scope.names,y.2=.cell→scope.names.lookup y.1=some .cell
  nfree:∀ y∈scope.names,y.2=.free→scope.names.lookup y.1=some .free
  nloc:∀ y∈scope.names,y.2=.local→scope.names.lookup y.1=some .local
  free:∀ y∈scope.names,y.2=.free→osc.names.lookup y.1=some .cell∨osc.names.lookup y.1=some .free
  len:N.length=own+cap.length
  capN:∀ j i,cap[j]?=some i→∃ x,N[own+j]?=some x∧XN[i]?=some x∧scope.names.lookup x=some .free
section
variable {X:Cx} {pins:List (Addr×Obj)} {σ:St} {H:Hp} {s:Shared} {scope:Scope} {N:List Str} {own:Nat} {cap:List Nat} {cl:List (Str×Addr)} {fp:List Addr}
theorem sY {cl2:List (Str×Addr)} (b:BlkOk X.N X.env.scope scope N own cap) (hc:X.calm=true) (I:Inv X pins σ H s) (hf:∀ b∈fp,FpOk X pins H b) (hfo:∀ b∈fp,b < s.heap.objs.size) (c1:∀ n c,cl.lookup n=some c→X.env.cells.lookup n=some c)
    (c2:∀ y∈scope.names,y.2=.free→∃ c,cl.lookup y.1=some c) {h':Heap} {t':Nat} {m:Str→Option Value} (hns:h'.Ns s.heap.objs.size m) (hk:∀ b o,s.heap.get? b=some o→h'.get? b=some o) (cb:CellsB scope cl cl2 s.heap.objs.size h') :
    Inv (blk X scope cl2 s.heap.objs.size s H fp N) [] (startB own cap σ) H { s with heap:=h',toks:=t' }:=by
  have hC:H s.heap.objs.size=none:=I.hok.fresh (Nat.le_refl _)
  have lt:∀ n c,cl.lookup n=some c→c < s.heap.objs.size:=fun n c e=>by obtain ⟨v,hv⟩:=I.cell n c (c1 n c e); exact hv.lt
  have inj:∀ x y c,cl2.lookup x=some c→cl2.lookup y=some c→x=y:=fun x y c h1 h2=>by
    rcases cb.old x c h1 with ⟨a1,_⟩ | ⟨a1,_,a2⟩<;>rcases cb.old y c h2 with ⟨b1,_⟩ | ⟨b1,_,b2⟩
    · exact I.ok.inj x y c (c1 x c a1) (c1 y c b1)
    · exact absurd (lt x c a1) (Nat.lt_asymm b1)
    · exact absurd (lt y c b1) (Nat.lt_asymm a1)
    · exact cb.inj x y c a1 h1 h2 a2 b2
  refine ⟨⟨I.ok.mod,b.kind,I.ok.glob,I.ok.blt,Nat.le_refl _,inj,fun x hx=>?_,fun x c hx e=>?_,fun _=>I.ok.hd hc,I.ok.frames,.inl rfl,fun b' hb=>?_,I.bs,Nat.le_trans I.ok.bsz I.sz,fun b' o e hb=>?_,fun b' hb hm=>?_,I.stack,I.stkFree⟩,rfl,I.bare,Un.kept hk,⟨m,hns,fun i x v h1 h2 h3=>?_⟩,fun x c e=>?_,hC,fun x c e=>?_,fun p hp=>(nomatch hp),I.hok.kept hk,?_⟩
  · obtain ⟨y,hy,e1,e2⟩:=jk (env:=X.env) hx
    rcases e2 with e2 | e2
    · obtain ⟨c,e⟩:=c2 y hy e2
      have hn:(y.1,NameKind.cell)∉scope.names:=fun z=>by
        have q1:=b.nfree y hy e2
        have q2:=b.ncell _ z rfl
        rw [q1] at q2; cases q2
      exact ⟨c,by rw [← e1]; show cl2.lookup y.1=some c; rw [cb.keep _ hn]; exact e⟩
    · obtain ⟨c,e⟩:=cb.mine y.1 (by rw [← e2]; exact hy)
      exact ⟨c,by rw [← e1]; exact e⟩
  · rcases cb.old x c e with ⟨a1,a2⟩ | ⟨a1,_,_⟩
    · have hx':(scope.names.lookup x==some NameKind.cell)=true:=hx
      exact absurd (fD (eq_of_beq hx')) a2
    · exact Nat.le_of_lt a1
  · refine ⟨Nat.ne_of_lt (hfo b' hb),fun x c e=>?_⟩
    rcases cb.old x c e with ⟨a1,_⟩ | ⟨a1,_,_⟩
    · exact (hf b' hb).2.2.2.2.1 x c (c1 x c a1)
    · exact fun z=>Nat.lt_asymm a1 (z ▸ hfo b' hb)
  · rcases (hf b' hb).2.2.2.1 with z | z
    · exact I.ok.noex b' o e z
    · have:=Heap.lt_size (I.ok.bs b' o e).1
      exact absurd (Nat.lt_of_lt_of_le this z) (Nat.lt_irrefl _)
  · rcases List.mem_cons.mp (I.stkSub b' hm) with z | z
    · exact (hf b' hb).2.1 z
    · exact (hf b' hb).2.2.1 z
  ·
    unfold startB at h2
    by_cases hi:i < own
    · rw [List.getElem?_append_left (by simpa using hi),List.getElem?_replicate] at h2
      split at h2<;>cases h2
    · rw [List.getElem?_append_right (by simpa using hi),List.length_replicate,List.getElem?_map] at h2
      cases e:cap[i - own]? with
      | none=>rw [e] at h2; cases h2
      | some k =>
        rw [e] at h2
        obtain ⟨x',f1,f2,f3⟩:=b.capN _ _ e
        rw [show own+(i - own)=i by omega] at f1
        have h1':N[i]?=some x:=h1
        rw [h1'] at f1; cases f1
        have h2':σ[k]?=some (some v):=by
          cases q:σ[k]? with
          | none=>simp only [Option.map_some,q,Option.getD_none,Option.some.injEq] at h2; cases h2
          | some o=>simp only [Option.map_some,q,Option.getD_some,Option.some.injEq] at h2; rw [h2]
        obtain ⟨m0,_,hl⟩:=I.loc
        have kf:=b.free (x,.free) (fD f3) rfl
        obtain ⟨u,r,l⟩:=hl k x v f2 h2' (kf.elim (fun z=>.inr (.inl z)) fun z=>.inr (.inr z))
        refine ⟨u,r,?_⟩
        rcases l with ⟨z,_⟩ | ⟨_,c,e1,e2⟩
        · have z':X.env.scope.names.lookup x=some .local:=z
          rcases kf with y | y
          · have y':X.env.scope.names.lookup x=some .cell:=y
            rw [z'] at y'; cases y'
          · have y':X.env.scope.names.lookup x=some .free:=y
            rw [z'] at y'; cases y'
        · obtain ⟨c',g1⟩:=c2 (x,.free) (fD f3) rfl
          have g2:=c1 x c' g1
          rw [e1] at g2; cases g2
          have hn:(x,NameKind.cell)∉scope.names:=fun z=>by
            have q2:=b.ncell _ z rfl
            have q2':scope.names.lookup x=some .cell:=q2
            rw [f3] at q2'; cases q2'
          exact .inr ⟨jj (env:=X.env) f3,c,by show cl2.lookup x=some c; rw [cb.keep _ hn]; exact g1,by obtain ⟨o,ho,hd⟩:=e2; exact ⟨o,hk _ _ ho,hd⟩⟩
  · rcases cb.old x c e with ⟨a1,_⟩ | ⟨_,a2,_⟩
    · obtain ⟨v,o,ho,hd⟩:=I.cell x c (c1 x c a1)
      exact ⟨v,o,hk _ _ ho,hd⟩
    · exact ⟨none,a2⟩
  · rcases cb.old x c e with ⟨a1,_⟩ | ⟨a1,_,_⟩
    · exact I.freeC x c (c1 x c a1)
    · exact I.hok.fresh (Nat.le_of_lt a1)
  · unfold startB
    show _=N.length
    rw [List.length_append,List.length_replicate,List.length_map,b.len]
theorem qT {s3 s':Shared} {H3 H':Hp} {σ':St} {pl:List (Addr×Obj)} {D C:Addr} (I:Inv X pins σ H s) (hf:∀ b∈fp,FpOk X pins H b) (hD:D=s.heap.objs.size) (h3:s3={ s with heap:=s.heap.push { cls:=.type "list",data:=.seq #[] } }) (hH:H3=upd H D (.lst [])) (hC:C=s3.heap.objs.size)
    (J:Inv (blk X scope cl C s3 H3 fp N) pl σ' H' s'):Inv X pins σ H' s'∧FpOk X pins H' C∧∃ m,s'.heap.Ns C m:=by
  subst h3
  have hs:s.heap.objs.size≤C:=by rw [hC]; show _≤(s.heap.push _).objs.size; rw [Heap.size_push]; exact Nat.le_succ _
  have u1:Un (frs X.stack) fp H H3 s.heap (s.heap.push { cls:=.type "list",data:=.seq #[] }):=by
    rw [hH,hD]
    exact Un.laid (fun b u e=>Heap.get?_push_of_some _ e) (Nat.le_refl _) (I.hok.fresh (Nat.le_refl _))
  have u2:Un (frs X.stack) fp H3 H' (s.heap.push { cls:=.type "list",data:=.seq #[] }) s'.heap:=J.base
  have os:s'.os=s.os:=J.os
  refine ⟨I.call' (ch:=fp) os (u1.trans u2) J.hok J.bare fun b hb=>?_,I.fpOk hs J.free,?_⟩
  · obtain ⟨_,f1,f2,f3,f4,f5⟩:=hf b hb
    exact ⟨f3,f1,f4,f5⟩
  · obtain ⟨m,hn,_⟩:=J.loc
    exact ⟨m,hn⟩
end
def tTests (ifs:List Expr) (t:TT):TT:=match ifs with
  | []=>fun _ H Q=>Q true H
  | _::_=>t
theorem ng {ifs:List Expr} {t:TT} {σ:St} {H:Hp} {Q:Bool→Hp→Prop} (e:ifs=[]) (h:tTests ifs t σ H Q):Q true H:=by subst e; exact h
theorem nh {ifs:List Expr} {t:TT} {σ:St} {H:Hp} {Q:Bool→Hp→Prop} {c:Expr} (e:ifs=[c]) (h:tTests ifs t σ H Q):t σ H Q:=by subst e; exact h
theorem pp {M:Model} {A:Around} {ifs:List Expr} {env:Env} {Q:Bool→Shared→Prop} {E:Value→Shared→Prop} {s:Shared} (hifs:ifs.length≤1) (h0:ifs=[]→Q true s) (h1:∀ c,ifs=[c]→wpAny M A (isTrue c env (eval c env)) Q E s):wpAny M A (tests ifs env) Q E s:=by
  match ifs,hifs,h0,h1 with
  | [],_,h0,_=>exact wpAny_pure (h0 rfl)
  | [c],_,_,h1=>exact h1 c rfl
def BlkW (sz:Nat) (J:It) (g:TG) (tc:TT) (te:TE) (D:Addr) (Fin:Hp→List V→Prop) (W:Nat→Nat→St→Hp→List V→Prop):Prop :=
  ∀ i m σ H ys,W i m σ H ys→H D=some (.lst ys)∧((J.stop i H∧Fin H ys)∨(J.go i H∧∀ x H',J.yld i H x H'→g x σ H' fun σ2 H2=>tc σ2 H2 fun ok H3 =>
    if ok=true then te σ2 H3 fun y H4=>H4 D=some (.lst ys)∧ys.length < sz∧∃ m',m' < m∧W (i+1) m' σ2 (upd H4 D (.lst (ys++[y]))) (ys++[y])
    else ∃ m',m' < m∧W (i+1) m' σ2 H3 ys))
section
variable {X:Cx} {elt tg iter:Expr} {ifs:List Expr} {scope:Scope} {N:List Str} {own:Nat} {cap:List Nat} {pos:Pos} {wi:TI} {g:TG} {tc:TT} {te:TE}
set_option maxHeartbeats 4000000 in
theorem lI {pins:List (Addr×Obj)} {σ:St} {H:Hp} {s:Shared} {it:Addr} {fp:List Addr} {tn:Nat→Heap→Prop} {J:It} {cl:List (Str×Addr)} {E:Value→Shared→Prop} {RR:Value→Addr→Result→Shared→Prop} {Fin:Addr→Hp→List V→Prop}
    (b:BlkOk X.N X.env.scope scope N own cap) (hc:X.calm=true) (hifs:ifs.length≤1)
    (hg:∀ cl C s H fp,PG (blk X scope cl C s H fp N) tg g) (ht:∀ c,ifs=[c]→∀ cl C s H fp,PT (blk X scope cl C s H fp N) c tc) (he:∀ cl C s H fp,PE (blk X scope cl C s H fp N) elt te)
    (hclos:closureFor scope X.env=pure cl) (c1:∀ n c,cl.lookup n=some c→X.env.cells.lookup n=some c) (c2:∀ y∈scope.names,y.2=.free→∃ c,cl.lookup y.1=some c)
    (I:Inv X pins σ H s) (T:Turn X.prog X.w X.K tg J fp it tn) (st:tn 0 s.heap) (hf:∀ b∈fp,FpOk X pins H b)
    (hW:∀ D,H D=none→∃ W,BlkW sizeLine J g (tTests ifs tc) te D (Fin D) W∧∃ m,W 0 m (startB own cap σ) (upd H D (.lst [])) [])
    (fin:∀ D C s' H' ys,Inv X pins σ H' s'→FpOk X pins H' C→(∃ m,s'.heap.Ns C m)→H' D=some (.lst ys)→Fin D H' ys→RR (.ref D) C (.ok .next) s') :
    wpAny (model X.prog X.w) X.A (newList []) (fun acc s3=>wpAny (model X.prog X.w) X.A (newFunctionEnv scope X.env.globals cl [] X.env.qual none .none (some X.env)) (fun cenv s4 =>
      codeAny (model X.prog X.w) X.A (.compStart (.ListComp elt [⟨tg,iter,ifs,0⟩] scope pos) 0 (.ref it) acc { cenv with scope:=relabel scope X.env }) (RR acc cenv.locals) s4) E s3) E s:=by
  have hfo:∀ b∈fp,b < s.heap.objs.size:=fun b hb=>by
    obtain ⟨o,e,_⟩:=T.obj 0 _ st b hb
    exact Heap.lt_size e
  have hD:H s.heap.objs.size=none:=I.hok.fresh (Nat.le_refl _)
  obtain ⟨W,hturn,m0,w0⟩:=hW _ hD
  refine wpAny_newObj_type (kY fun h1 cl2 hns kk cb=>?_)
  have I3:Inv X pins σ (upd H s.heap.objs.size (.lst [])) { s with heap:=s.heap.push { cls:=.type "list",data:=.seq #[] } }:=I.lnew (t':=s.toks) (its:=[]) .nil (Nat.zero_le _)
  have hfp3:∀ b∈fp,FpOk X pins (upd H s.heap.objs.size (.lst [])) b:=fun b hb=>⟨by rw [aq (Nat.ne_of_lt (hfo b hb))]; exact (hf b hb).1,(hf b hb).2⟩
  have st1:tn 0 h1:=T.keep 0 _ _ st fun b hb o e=>kk b o (Heap.get?_push_of_some _ e)
  generalize hX:blk X scope cl2 (s.heap.push { cls:=.type "list",data:=.seq #[] }).objs.size { s with heap:=s.heap.push { cls:=.type "list",data:=.seq #[] } } (upd H s.heap.objs.size (.lst [])) fp N=X'
  have I4:Inv X' [] (startB own cap σ) (upd H s.heap.objs.size (.lst [])) { s with heap:=h1 }:=by
    rw [← hX]
    exact sY b hc I3 hfp3 (fun b hb=>Nat.lt_of_lt_of_le (hfo b hb) (by show _≤(s.heap.push _).objs.size; rw [Heap.size_push]; exact Nat.le_succ _)) c1 c2 hns kk cb
  have eP:X'.prog=X.prog:=by rw [← hX]; rfl
  have ew:X'.w=X.w:=by rw [← hX]; rfl
  have eK:X'.K=X.K:=by rw [← hX]; rfl
  have eA:X'.A=X.A:=by rw [← hX]; rfl
  have ec:X'.calm=true:=by rw [← hX]; rfl
  have ee:X'.env=compEnvC scope cl2 (s.heap.push { cls:=.type "list",data:=.seq #[] }).objs.size X.env:=by rw [← hX]; rfl
  have ex:X'.xe=fun _ _=>False:=by rw [← hX]; rfl
  have epn:X'.pn=[]:=by rw [← hX]; rfl
  have eex:X'.ex=fp:=by rw [← hX]; rfl
  have pg:PG X' tg g:=by rw [← hX]; exact hg _ _ _ _ _
  have pe:PE X' elt te:=by rw [← hX]; exact he _ _ _ _ _
  have pt:∀ c,ifs=[c]→PT X' c tc:=fun c q=>by rw [← hX]; exact ht c q _ _ _ _ _
  have fpB:∀ {H':Hp},(∀ b∈fp,H' b=none)→∀ {s'':Shared} {σ':St},Inv X' [] σ' H' s''→∀ b∈fp,FpOk X' [] H' b:=fun {H'} hn {s'' σ'} Iv b hb =>
    ⟨hn b hb,(Iv.ok.exf b (by rw [eex]; exact hb)).1,Iv.ok.exfs b (by rw [eex]; exact hb),.inl (by rw [eex]; exact hb),(Iv.ok.exf b (by rw [eex]; exact hb)).2,fun p hp=>by rw [epn] at hp; exact (nomatch hp)⟩
  have loop:codeAny (model X.prog X.w) X.A (.compLoop (.ListComp elt [⟨tg,iter,ifs,0⟩] scope pos) 0 (.ref it) (.ref s.heap.objs.size) (compEnvC scope cl2 (s.heap.push { cls:=.type "list",data:=.seq #[] }).objs.size X.env))
      (RR (.ref s.heap.objs.size) (s.heap.push { cls:=.type "list",data:=.seq #[] }).objs.size) { s with heap:=h1 }:=by
    refine o9 hifs (fun n s'=>∃ i σ' H' ys,Inv X' [] σ' H' s'∧tn i s'.heap∧(∀ b∈fp,H' b=none)∧W i n σ' H' ys) (fun n s5 ⟨i,σ5,H5,ys,I5,st5,fr5,w5⟩=>?_) m0
      ⟨0,startB own cap σ,_,[],I4,st1,fun b hb=>(hfp3 b hb).1,w0⟩
    obtain ⟨hDy,hgo⟩:=hturn i n σ5 H5 ys w5
    have hs5:=fpB fr5 I5
    rcases hgo with ⟨stop,hfin⟩ | ⟨go,step⟩
    · have q:=T.done X' eP ew eK ec i [] s5 σ5 H5 (fun _ _=>False) I5 hs5 st5 stop
      rw [eA] at q
      refine wpAny_mono q (fun r s6 ⟨hr,I6⟩=>?_) fun _ _ z=>z
      subst hr
      rw [← hX] at I6
      obtain ⟨J1,J2,J3⟩:=qT I hf rfl rfl rfl rfl I6
      exact fin _ _ s6 H5 ys J1 J2 J3 hDy hfin
    · have q:=T.item X' eP ew eK ec i [] s5 σ5 H5 (fun _ _=>False) I5 hs5 st5 go
      rw [eA] at q
      refine wpAny_mono q (fun r s6 ⟨u,hr,h6⟩=>?_) fun _ _ z=>z
      subst hr
      refine wpAny_mono h6 (fun _ s7 ⟨x,H7,I7,r7,y7,st7,fr7⟩=>?_) fun _ _ z=>z
      have I7':=I7.pinned (fpB fr7 I7) (T.obj _ _ st7)
      rw [List.nil_append] at I7'
      have qg:=pg _ s7 σ5 H7 x u _ I7' r7 (step x H7 y7)
      rw [eP,ew,eA,ee,ex] at qg
      refine wpAny_mono qg (fun _ s8 ⟨σ8,H8,I8,q8⟩=>?_) fun _ _ z=>z
      have again:∀ {s9:Shared} {H9:Hp} {zs:List V},Inv X' (pinsAt fp s7.heap) σ8 H9 s9→(∃ m',m' < n∧W (i+1) m' σ8 H9 zs) →
          ∃ m,m < n∧∃ i σ' H' ys,Inv X' [] σ' H' s9∧tn i s9.heap∧(∀ b∈fp,H' b=none)∧W i m σ' H' ys:=fun {s9 H9 zs} I9 ⟨m',hm,w9⟩=>by
        have I9':Inv X' ([]++pinsAt fp s7.heap) σ8 H9 s9:=by rw [List.nil_append]; exact I9
        refine ⟨m',hm,i+1,σ8,H9,zs,I9'.unpinned,T.keep _ _ _ st7 fun b hb o e=>(I9.pin (b,o) (List.mem_append_right _ (eX hb e))).1,fun b hb=>?_,w9⟩
        obtain ⟨o,e,d⟩:=T.obj _ _ st7 b hb
        exact (I9.pin (b,o) (List.mem_append_right _ (eX hb e))).2.1
      have body:∀ (ok:Bool) (s9:Shared),(∃ H9,Inv X' (pinsAt fp s7.heap) σ8 H9 s9∧(if ok=true then te σ8 H9 fun y H4=>H4 s.heap.objs.size=some (.lst ys)∧ys.length < sizeLine∧∃ m',m' < n∧W (i+1) m' σ8 (upd H4 s.heap.objs.size (.lst (ys++[y]))) (ys++[y]) else ∃ m',m' < n∧W (i+1) m' σ8 H9 ys)) →
          if ok=true then wpAny (model X.prog X.w) X.A (eval elt (compEnvC scope cl2 (s.heap.push { cls:=.type "list",data:=.seq #[] }).objs.size X.env)) (fun x s5=>wpAny (model X.prog X.w) X.A (call (.builtin "list.append") [.ref s.heap.objs.size,x]) (fun _ s6=>∃ m,m < n∧∃ i σ' H' ys,Inv X' [] σ' H' s6∧tn i s6.heap∧(∀ b∈fp,H' b=none)∧W i m σ' H' ys) (fun _ _=>False) s5) (fun _ _=>False) s9
          else ∃ m,m < n∧∃ i σ' H' ys,Inv X' [] σ' H' s9∧tn i s9.heap∧(∀ b∈fp,H' b=none)∧W i m σ' H' ys:=by
        intro ok s9 ⟨H9,I9,h9⟩
        cases ok with
        | false=>exact again I9 h9
        | true =>
          have qe:=pe _ s9 σ8 H9 _ I9 h9
          rw [eP,ew,eA,ee,ex] at qe
          refine wpAny_mono qe (fun u s10 ⟨y,H10,I10,r10,hD10,hlt,m',hm,w10⟩=>?_) fun _ _ z=>z
          have qa:=kx (X:=X') (pinsAt fp s7.heap) s10 σ8 H10 (.ref s.heap.objs.size) [y] (.ref s.heap.objs.size) [u] (fun _ H11=>H11=upd H10 s.heap.objs.size (.lst (ys++[y]))) I10 rfl (.cons r10 .nil)
            ⟨s.heap.objs.size,ys,y,rfl,rfl,hD10,hlt,rfl⟩
          rw [eP,ew,eA,ex] at qa
          refine wpAny_mono qa (fun _ s11 ⟨_,H11,I11,_,e11⟩=>?_) fun _ _ z=>z
          subst e11
          exact again I11 ⟨m',hm,w10⟩
      refine pp hifs (fun q=>body true s8 ⟨H8,I8,ng q q8⟩) fun c q=>?_
      have qt:=pt c q _ s8 σ8 H8 _ I8 (nh q q8)
      rw [eP,ew,eA,ee,ex] at qt
      exact wpAny_mono qt (fun ok s9 ⟨H9,I9,h9⟩=>body ok s9 ⟨H9,I9,h9⟩) fun _ _ z=>z
  exact codeAny_compStart_list loop (T.self _ 0 _ _ _ st1 loop)
def tComp (own:Nat) (cap:List Nat) (wi:TI) (g:TG) (tc:TT) (te:TE):TE:=fun σ H Q=>wi σ H fun J H1=>∀ D,H1 D=none→∃ W,BlkW sizeLine J g tc te D (fun H' _=>Q (.ref D) H') W∧∃ m,W 0 m (startB own cap σ) (upd H1 D (.lst [])) []
theorem oz (b:BlkOk X.N X.env.scope scope N own cap) (hc:X.calm=true) (hifs:ifs.length≤1) (hi:PI X tg iter wi)
    (hg:∀ cl C s H fp,PG (blk X scope cl C s H fp N) tg g) (ht:∀ c,ifs=[c]→∀ cl C s H fp,PT (blk X scope cl C s H fp N) c tc) (he:∀ cl C s H fp,PE (blk X scope cl C s H fp N) elt te)
    (hs:∀ x,foldedSetIterable iter X.env x=pure x:=by intro _; rfl):PE X (.ListComp elt [⟨tg,iter,ifs,0⟩] scope pos) (tComp own cap wi g (tTests ifs tc) te):=by
  intro pins s σ H Q I h
  obtain ⟨cl,hclos,c1,c2⟩:=jf scope X.env fun y hy hf=>I.ok.has y.1 (b.free y hy hf)
  rw [eval_ListComp]
  refine wpAny_comprehension_free (use:=none) rfl hs hclos b.kind b.nloc (thn (hi pins s σ H _ I h) fun v s1 h1=>thn h1 fun itv s2 h2=>?_)
  obtain ⟨it,fp,tn,J,H2,e,I2,T,st2,f2,hW⟩:=h2
  subst e
  refine lI (RR:=fun acc C=>compPost (model X.prog X.w) X.A X.xe none (EP X pins σ Q) acc C) b hc hifs hg ht he hclos c1 c2 I2 T st2 f2 hW fun D C s' H' ys J1 J2 ⟨m,hm⟩ hD hQ=>?_
  refine ⟨m,hm,fun h' hsb=>⟨.ref D,H',?_,rfl,hQ⟩⟩
  obtain ⟨f0,f1,f2,f3,f4,f5⟩:=J2
  exact J1.turned (t':=s'.toks) (fun b o hb e=>(hsb.2 b hb).trans e) f0 f1 f3 f4 f5
def tCompSet (i own:Nat) (cap:List Nat) (wi:TI) (g:TG) (tc:TT) (te:TE):TS:=fun E σ H=>wi σ H fun J H1=>∀ D,H1 D=none→∃ W,BlkW sizeLine J g tc te D (fun H' _=>E.nx (σ.set i (some (.ref D))) H') W∧∃ m,W 0 m (startB own cap σ) (upd H1 D (.lst [])) []
theorem ni {i:Nat} {y:Str} {py spos:Pos} (b:BlkOk X.N X.env.scope scope N own cap) (hc:X.calm=true) (hifs:ifs.length≤1) (hi:PI X tg iter wi)
    (hg:∀ cl C s H fp,PG (blk X scope cl C s H fp N) tg g) (ht:∀ c,ifs=[c]→∀ cl C s H fp,PT (blk X scope cl C s H fp N) c tc) (he:∀ cl C s H fp,PE (blk X scope cl C s H fp N) elt te)
    (hN:X.N.Nodup) (hiy:X.N[i]?=some y) (hy:Loc X.env.scope y) (hfn:X.fn y=true∨X.env.scope.names.lookup y=some .local)
    (hsw:swapsWith (.ListComp elt [⟨tg,iter,ifs,0⟩] scope pos) (some (.Name y py)) spos.line X.env=pure true)
    (hs:∀ x,foldedSetIterable iter X.env x=pure x:=by intro _; rfl):PS X (.Assign [.Name y py] (.ListComp elt [⟨tg,iter,ifs,0⟩] scope pos) spos) (tCompSet i own cap wi g (tTests ifs tc) te):=by
  intro pins s σ H E I h
  obtain ⟨cl,hclos,c1,c2⟩:=jf scope X.env fun y hy hf=>I.ok.has y.1 (b.free y hy hf)
  rw [exec_Assign_Name_used _ _ _ _ hsw]
  refine wpAny_bind (wpAny_standAt (wpAny_bind ?_))
  show wpAny _ X.A (do let _ ← comprehension (.ListComp elt [⟨tg,iter,ifs,0⟩] scope pos) scope X.env _ (newList []) false (eval iter X.env) (some (assign (.Name y py) X.env))) _ _ s
  refine wpAny_bind (wpAny_mono (wpAny_comprehension_free (use:=some (assign (.Name y py) X.env)) (Q:=fun _ s'=>SP X pins E .next s') rfl hs hclos b.kind b.nloc (thn (hi pins s σ H _ I h) fun v s1 h1=>thn h1 fun itv s2 h2=>?_)) (fun _ s' hq=>wpAny_pure (wpAny_pure hq)) fun _ _ e=>e)
  obtain ⟨it,fp,tn,J,H2,e,I2,T,st2,f2,hW⟩:=h2
  subst e
  refine lI (RR:=fun acc C=>compPost (model X.prog X.w) X.A X.xe (some (assign (.Name y py) X.env)) (fun _ s'=>SP X pins E .next s') acc C) b hc hifs hg ht he hclos c1 c2 I2 T st2 f2 hW fun D C s' H' ys J1 J2 ⟨m,hm⟩ hD hQ=>?_
  obtain ⟨f0,f1,f2,f3,f4,f5⟩:=J2
  refine wpAny_assign_Name (km J1 hN hiy hy (v:=.ref D) rfl (fun s'' I'' ⟨a,hsb,ha⟩=>?_) hfn)
  have hne:C≠a:=by
    rcases ha with z | z
    · rw [z]; exact f1
    · exact fun q=>f4 y a z q.symm
  refine ⟨m,hm.sameBut hsb hne,fun h' hs'=>⟨_,H',I''.turned (t':=s''.toks) (fun b o hb e=>(hs'.2 b hb).trans e) f0 f1 f3 f4 f5,hQ⟩⟩
end
end FF
end
noncomputable section
set_option Elab.async false
set_option linter.all false
set_option maxRecDepth 100000
namespace FF
open PySem PySem.Spec PyProof.Rows L2
def Walk (J:It) (vs:List V) (Ok:Hp→Prop):Prop:=∀ (i:Nat) (H:Hp),Ok H→(i < vs.length→J.go i H∧∀ x H',J.yld i H x H'→H'=H∧vs[i]?=some x)∧(vs.length≤i→J.stop i H)
def WalkG (F:Fx) (J:It) (ds:List D) (Z1:Hp):Prop:=∀ (i:Nat) (H Z:Hp),Same Z1 Z→Same Z H→(i < ds.length→J.go i H∧∀ x H',J.yld i H x H'→∃ Z' d,Ex H Z H' Z'∧ds[i]?=some d∧Rep F.K F.C Z' d x)∧(ds.length≤i→J.stop i H)
theorem jl {F:Fx} {J:It} {ds:List D} {vs:List V} {Z1:Hp} (rs:Reps F.K F.C Z1 ds vs) (w:Walk J vs (Same Z1)):WalkG F J ds Z1:=fun i H Z z1 z2=>by
  obtain ⟨k1,k2⟩:=w i H (z1.trans z2)
  have hl:=rs.length
  refine ⟨fun hi=>?_,fun hi=>k2 (by omega)⟩
  obtain ⟨go,y⟩:=k1 (by omega)
  exact ⟨go,fun x H' hy=>by
    obtain ⟨e0,e2⟩:=y x H' hy
    subst e0
    obtain ⟨d,e3,rd⟩:=rs.get' e2
    exact ⟨Z,d,Ex.refl z2,e3,rd.mono z1⟩⟩
def tI (F:Fx) (g:SS→R (List D)):TI:=fun σ H Q=>∃ Z S,StOk F H Z S σ∧WG F H Z (g S) fun ds H' Z'=>∀ J,WalkG F J ds Z'→ds.length≤16777216→Q J H'
abbrev FI (X:Cx) (F:Fx) (tg e:Expr) (g:SS→R (List D)):Prop:=PI X tg e (tI F g)
def asSeq:D→R (List D)
  | .tup xs=>.ok xs
  | .lst xs=>.ok xs
  | _=>.stuck
def iSeq (g:SS→R D):SS→R (List D):=fun S=>(g S).bind fun d=>(asSeq d).bind fun ds=>if ds.length≤16777216 then .ok ds else .stuck
theorem _root_.L2.PI.weak {X:Cx} {tg e:Expr} {t t':TI} (h:PI X tg e t) (w:∀ σ H Q,t' σ H Q→t σ H Q):PI X tg e t':=fun pins s σ H Q I q=>h pins s σ H Q I (w σ H Q q)
theorem pq {K:PySem.W.Frag} {a:Addr} {vs:List V} {Z:Hp} (h:SqL K Z a vs):Walk (Itl K a) vs (Same Z):=fun i H hz =>
  ⟨fun hi=>⟨⟨vs,vs[i],hz.seq h,by simp [hi]⟩,fun x H' ⟨e,y⟩=>⟨e,y vs (hz.seq h)⟩⟩,fun hi=>⟨vs,hz.seq h,hi⟩⟩
theorem qU {K:PySem.W.Frag} {a:Addr} {vs:List V} {Z:Hp} (h:SqT K Z a vs):Walk (Itt K a) vs (Same Z):=fun i H hz =>
  ⟨fun hi=>⟨⟨vs,vs[i],h.mono hz,by simp [hi]⟩,fun x H' ⟨e,y⟩=>⟨e,y vs (h.mono hz)⟩⟩,fun hi=>⟨vs,h.mono hz,hi⟩⟩
theorem nq {lo:Int} {n:Nat} {Z:Hp}:Walk (Itr lo n) ((List.range n).map fun i=>.int (lo+(i:Nat))) (Same Z):=fun i H hz=>by
  refine ⟨fun hi=>?_,fun hi=>?_⟩
  · have hi':i < n:=by simpa using hi
    exact ⟨hi',fun x H' ⟨e,y⟩=>⟨e,by rw [y]; simp [hi']⟩⟩
  · show n≤i
    simpa using hi
theorem vh {X:Cx} {tg l:Expr} {tl:TE} (hl:PE X l tl):PI X tg l (fun σ H R=>tl σ H fun x H1=>∃ a,x=.ref a∧(((∃ xs,SqL X.K H1 a xs)∧R (Itl X.K a) H1)∨((∃ xs,SqT X.K H1 a xs)∧R (Itt X.K a) H1))):=by
  intro pins s σ H Q I h
  refine thn (hl pins s σ H _ I h) fun v s1 ⟨x,H1,I1,r1,a,e,q⟩=>?_
  subst e
  cases r1
  rcases q with ⟨⟨xs,hq⟩,q⟩ | ⟨⟨xs,hq⟩,q⟩
  · obtain ⟨its,rv,p,hz⟩:=I1.list hq
    refine wpAny_pyIter_list p.isList ⟨s1.heap.objs.size,[s1.heap.objs.size],_,_,H1,rfl,I1.kept (t':=s1.toks) fun b o e=>Heap.get?_push_of_some _ e,oZ a _,⟨_,Heap.get?_push_size _ rfl,rfl,rfl⟩,fun b hb=>?_,q⟩
    obtain rfl:b=s1.heap.objs.size:=by simpa using hb
    exact I1.fpOk (Nat.le_refl _) (I1.hok.fresh (Nat.le_refl _))
  · obtain ⟨its,rv,p,hz⟩:=I1.tuple hq
    refine wpAny_pyIter_tuple (show s1.heap.IsTuple a its.toArray from p) ⟨s1.heap.objs.size,[s1.heap.objs.size],_,_,H1,rfl,I1.kept (t':=s1.toks) fun b o e=>Heap.get?_push_of_some _ e,mY a _,⟨_,Heap.get?_push_size _ rfl,rfl,rfl⟩,fun b hb=>?_,q⟩
    obtain rfl:b=s1.heap.objs.size:=by simpa using hb
    exact I1.fpOk (Nat.le_refl _) (I1.hok.fresh (Nat.le_refl _))
section
variable {X:Cx} {F:Fx} {tg e:Expr} {g:SS→R D} {gs:SS→R (List D)}
theorem aP (hK:X.K=F.K) (h:FE X F e g):FI X F tg e (iSeq g):=(vh h).weak fun σ H Q ⟨Z,S,ok,w⟩=>aU ok w fun d v H1 Z1 ok1 x1 rv w1=>by
  rw [hK]
  cases d with
  | tup ds =>
    rw [Rep] at rv
    obtain ⟨a,vs,rfl,h1,h2⟩:=rv
    have w2:WG F H1 Z1 (if ds.length≤16777216 then R.ok ds else .stuck) _:=w1
    split at w2
    · rename_i hl
      exact ⟨a,rfl,.inr ⟨⟨vs,h1.mono ok1.sub⟩,WG.now w2 ok1.sub _ (jl h2 (qU h1)) hl⟩⟩
    · exact w2.elim
  | lst ds =>
    rw [Rep] at rv
    obtain ⟨a,vs,rfl,h1,h2⟩:=rv
    have w2:WG F H1 Z1 (if ds.length≤16777216 then R.ok ds else .stuck) _:=w1
    split at w2
    · rename_i hl
      exact ⟨a,rfl,.inl ⟨⟨vs,ok1.sub.seq h1⟩,WG.now w2 ok1.sub _ (jl h2 (pq h1)) hl⟩⟩
    · exact w2.elim
  | _=>exact w1.elim
def rngD (lo:Int) (n:Nat):List D:=(List.range n).map fun i=>.int (lo+(i:Nat))
def rng1:List D→R (List D)
  | [.int j]=>if -16777216≤j∧j≤16777216 then .ok (rngD 0 j.toNat) else .stuck
  | _=>.stuck
def iRange1 (gs:SS→R (List D)):SS→R (List D):=fun S=>(gs S).bind rng1
theorem lJ {K:PySem.W.Frag} {C:Nat→Addr} {Z:Hp} (lo:Int):∀ (l:List Nat),Reps K C Z (l.map fun i=>.int (lo+(i:Nat))) (l.map fun i=>.int (lo+(i:Nat)))
  | []=>Reps.nil
  | a::r=>Reps.cons (by rw [Rep]) (lJ lo r)
theorem oA {K:PySem.W.Frag} {C:Nat→Addr} {Z:Hp} {j:Int} {vs:List V} (r:Reps K C Z [.int j] vs):vs=[.int j]:=by
  rw [Reps] at r
  obtain ⟨v,r',rfl,h1,h2⟩:=r
  rw [Reps] at h2
  rw [Rep] at h1
  rw [h1,h2]
theorem qV {K:PySem.W.Frag} {C:Nat→Addr} {Z:Hp} {i j:Int} {vs:List V} (r:Reps K C Z [.int i,.int j] vs):vs=[.int i,.int j]:=by
  rw [Reps] at r
  obtain ⟨v,r',rfl,h1,h2⟩:=r
  rw [Rep] at h1
  rw [h1,oA h2]
theorem sZ {ds:List D} {es:List D} (h:rng1 ds=.ok es):∃ j:Int,ds=[.int j]∧(-16777216≤j∧j≤16777216)∧es=rngD 0 j.toNat:=by
  unfold rng1 at h
  split at h
  · rename_i j
    split at h
    · rename_i q; cases h; exact ⟨j,rfl,q,rfl⟩
    · cases h
  · cases h
theorem tj {ds:List D} {k:Nat} (h:rng1 ds=.err k):False:=by
  unfold rng1 at h
  split at h
  · split at h<;>cases h
  · cases h
theorem cW {a:Expr} {p pos:Pos} (hg:Gl X "range") (hm:X.mg "range"=none) (ha:FA X F [a] gs) (hs:starEach [a] X.env=[(false,eval a X.env)]:=by rfl):FI X F tg (.Call (.Name "range" p) [a] [] pos) (iRange1 gs) :=
  (o0 hg hm ha hs).weak fun σ H Q ⟨Z,S,ok,w⟩=>bH ok w fun ds vs H1 Z1 ok1 x1 rs w1=>by
    cases e:rng1 ds with
    | err k=>exact (tj e).elim
    | stuck=>rw [e] at w1; exact w1.elim
    | ok es =>
      rw [e] at w1
      obtain ⟨j,rfl,hj,rfl⟩:=sZ e
      exact ⟨j,oA rs,by omega,by omega,WG.now w1 ok1.sub _ (jl (lJ 0 _) nq) (by unfold rngD; rw [List.length_map,List.length_range]; omega)⟩
end
def tGd (F:Fx) (g:D→SS→R SS):TG:=fun v σ H Q=>∃ Z S d,StOk F H Z S σ∧Rep F.K F.C Z d v∧WG F H Z (g d S) fun S' H' Z'=>∀ σ',StOk F H' Z' S' σ'→Q σ' H'
abbrev FG (X:Cx) (F:Fx) (tg:Expr) (g:D→SS→R SS):Prop:=PG X tg (tGd F g)
def gNm (i:Nat):D→SS→R SS:=fun d S=>.ok (S.set i (some (.val d)))
theorem _root_.L2.PG.weak {X:Cx} {tg:Expr} {t t':TG} (h:PG X tg t) (w:∀ v σ H Q,t' v σ H Q→t v σ H Q):PG X tg t':=fun pins s σ H v u Q I r q=>h pins s σ H v u Q I r (w v σ H Q q)
theorem aA {X:Cx} {F:Fx} (i:Nat) {x:Str} {pos:Pos} (hN:X.N.Nodup) (hi:X.N[i]?=some x:=by rfl) (hx:Loc X.env.scope x:=by first | exact Or.inl rfl | exact Or.inr rfl) (hf:X.fn x=true∨X.env.scope.names.lookup x=some .local:=by first | exact .inl rfl | exact .inr rfl) :
    FG X F (.Name x pos) (gNm i):=(kQ hN hi hx hf).weak fun v σ H Q ⟨Z,S,d,ok,r,w⟩=>WG.now w ok.sub _ (ok.setVal r)
end FF
end
noncomputable section
set_option Elab.async false
set_option linter.all false
set_option maxRecDepth 100000
namespace FF
open PySem PySem.Spec PyProof.Rows L2
def spF (K:PySem.W.Frag) (C:Nat→Addr) (n:Nat) (f:List D→R D):Sp:=fun vs H Q E =>
  vs.length=n∧∃ Z ds,Same Z H∧Reps K C Z ds vs∧WG ⟨K,C,H,Z,E⟩ H Z (f ds) fun d H' Z'=>∀ v,Rep K C Z' d v→Q v H'
def outD (o:O):R D:=match o with
  | .nx _=>.ok .non
  | .rt d=>.ok d
  | .er k=>.err k
  | _=>.stuck
def startS (n:Nat) (ds:List D):SS:=ds.map (fun d=>some (.val d))++List.replicate (n - ds.length) none
def fnD (n:Nat) (body:SS→O):List D→R D:=fun ds=>outD (body (startS n ds))
theorem lK {F:Fx} {N:List Str} {ds:List D} {vs:List V} (z:Same F.Z0 F.H0) (r:Reps F.K F.C F.Z0 ds vs):StOk F F.H0 F.Z0 (startS N.length ds) (start N vs):=by
  have hl:=r.length
  have at_:∀ {i:Nat} {x:Option Sl},(startS N.length ds)[i]?=some x→(i < ds.length∧∃ d,ds[i]?=some d∧x=some (.val d))∨x=none:=fun {i x} e=>by
    unfold startS at e
    by_cases hi:i < ds.length
    · rw [List.getElem?_append_left (by simpa using hi),List.getElem?_map] at e
      cases q:ds[i]? with
      | none=>rw [q] at e; cases e
      | some d=>rw [q] at e; cases e; exact .inl ⟨hi,d,rfl,rfl⟩
    · rw [List.getElem?_append_right (by simpa using hi),List.getElem?_replicate] at e
      split at e
      · cases e; exact .inr rfl
      · cases e
  refine ⟨Ex.refl z,?_,fun i d e=>?_,fun i es e=>?_,fun i j es fs a e1=>?_⟩
  · unfold startS L2.start
    simp [hl]
  · rcases at_ e with ⟨hi,d',e1,e2⟩ | e2
    · cases e2
      obtain ⟨v,e3,rv⟩:=r.get e1
      refine ⟨v,?_,rv⟩
      unfold L2.start
      rw [List.getElem?_append_left (by simpa [← hl] using hi),List.getElem?_map,e3]
      rfl
    · cases e2
  · rcases at_ e with ⟨_,d',_,e2⟩ | e2<;>cases e2
  · rcases at_ e1 with ⟨_,d',_,e2⟩ | e2<;>cases e2
section
variable {P:Program} {w:World} {K:PySem.W.Frag} {mg:Str→Option Value} {base:Heap}
structure BX (X:Cx) (F:Fx) (k:Nat):Prop where
  room:Room k X.A
  K:X.K=F.K
  calm:X.calm=true
  pass:Passes (CXE X.prog X.w) X F.E
theorem wD {x qual:Str} {st:Stmt} {f:Addr} {fd:FuncData} {N ps:List Str} {k:Nat} {C:Nat→Addr} {body:SS→O} (F:Fun K x qual st f fd) (S:FnScope N ps (defScope st))
    (h:∀ (cdv:Value) (A:Around) (outer:List Env) (s:Shared) (H Z:Hp) (E:XK),BX (bodyX P w K mg base N qual (defScope st) f cdv A outer s H E) ⟨K,C,H,Z,E⟩ k →
      PassesOwn (model P w) (bodyX P w K mg base N qual (defScope st) f cdv A outer s H E).A (bodyX P w K mg base N qual (defScope st) f cdv A outer s H E).env (bodyX P w K mg base N qual (defScope st) f cdv A outer s H E).xe →
      FSs (bodyX P w K mg base N qual (defScope st) f cdv A outer s H E) ⟨K,C,H,Z,E⟩ (defBody st) body) :
    FnOk P w K mg base (CXE P w) (k+1) f fd ps (spF K C ps.length (fnD N.length body)):=by
  obtain ⟨oc,od,kV,doc,pm,an,cdv,ct,osl,rfl,lk,hcd⟩:=F.ex
  refine uw lk hcd S (fun vs H Q E q=>q.1) fun A outer s H vs Q E hr hsp=>?_
  obtain ⟨_,Z,ds,z,r,w⟩:=hsp
  refine ⟨_,h cdv A outer s H Z E ⟨hr,rfl,rfl,kz⟩ PassesOwn.leaving,Z,startS N.length ds,lK (F:=⟨K,C,H,Z,E⟩) (N:=N) z r,?_⟩
  unfold fnD at w
  cases e:body (startS N.length ds) with
  | nx S'=>rw [e] at w; exact fun σ' H' Z' _ ok=>w H' Z' ok.ex .non (by rw [Rep])
  | rt d=>rw [e] at w; exact fun v H' Z' x rv=>w H' Z' x v rv
  | er k=>rw [e] at w; exact w
  | bk S'=>rw [e] at w; exact w.elim
  | ct S'=>rw [e] at w; exact w.elim
  | stuck=>rw [e] at w; exact w
end
structure Fn1 (P:Program) (w:World) (K:PySem.W.Frag) (mg:Str→Option Value) (base:Heap) (C:Nat→Addr) (k:Nat) (x:Str) (ps:List Str) (f:List D→R D):Prop where
  ex:∃ a fd,FnOk P w K mg base (CXE P w) k a fd ps (spF K C ps.length f)∧mg x=some (.ref a)∧PySem.W.keepIn K (.ref a)=true∧Binds K fd ps []
def eCall (f:List D→R D) (gs:SS→R (List D)):SS→R D:=fun S=>(gs S).bind f
section
variable {X:Cx} {F:Fx} {x:Str} {p pos:Pos} {e:Expr} {es:List Expr} {gs:SS→R (List D)} {k:Nat} {ps:List Str} {f:List D→R D}
theorem qW (n:Nat) (hn:∀ S ds,gs S=.ok ds→ds.length=n):∀ σ H Q,tE F (eCall f gs) σ H Q→tCall (spF F.K F.C n f) [] F.E (tAl F gs) σ H Q:=fun σ H Q ⟨Z,S,ok,w⟩=>by
  refine ⟨Z,S,ok,?_⟩
  cases e:gs S with
  | err k=>unfold eCall at w; rw [e] at w; exact w
  | stuck=>unfold eCall at w; rw [e] at w; exact w
  | ok ds =>
    unfold eCall at w
    rw [e] at w
    intro H1 Z1 x1 vs rs
    have w1:=WG.more (r:=f ds) w x1
    refine ⟨by rw [List.append_nil,← rs.length]; exact hn S ds e,Z1,ds,x1.sub,by rw [List.append_nil]; exact rs,?_⟩
    cases q:f ds with
    | ok d=>rw [q] at w1; exact w1
    | err k=>rw [q] at w1; exact w1
    | stuck=>rw [q] at w1; exact w1
theorem tm (b:BX X F k) (h:Fn1 X.prog X.w F.K X.mg X.base F.C k x ps f) (hg:Gl X x) (ha:FA X F (e::es) gs) (hn:∀ S ds,gs S=.ok ds→ds.length=ps.length) (hdb:(x==("__debug__":Str))=false:=by decide)
    (he:starEach (e::es) X.env=(false,eval e X.env)::starEach es X.env:=by rfl) (hpl:(backTo pos (starEach es X.env)).any (·.1)=false:=by rfl):FE X F (.Call (.Name x p) (e::es) [] pos) (eCall f gs):=by
  obtain ⟨a,fd,h1,h2,h3,h4⟩:=h.ex
  have hK:=b.K
  exact (sJ (ds:=[]) (dvs:=[]) (E:=F.E) (by rw [hK]; exact h1) b.room hg h2 (by rw [hK]; exact h3) (by rw [hK]; exact h4) .nil b.pass ha hdb he hpl).weak (qW ps.length hn)
theorem pv {g:SS→R D} {gs:SS→R (List D)} {n:Nat} (h:∀ S ds,gs S=.ok ds→ds.length=n):∀ S ds,aCons g gs S=.ok ds→ds.length=n+1:=fun S ds e=>by
  unfold aCons at e
  cases q:g S with
  | err k=>rw [q] at e; cases e
  | stuck=>rw [q] at e; cases e
  | ok d =>
    rw [q] at e
    cases q2:gs S with
    | err k=>rw [R.bind_ok,q2] at e; cases e
    | stuck=>rw [R.bind_ok,q2] at e; cases e
    | ok r =>
      rw [R.bind_ok,q2] at e
      cases e
      simp [h S r q2]
end
def noErr {α:Type} (r:R α):R α:=match r with
  | .ok a=>.ok a
  | _=>.stuck
def blkS (own:Nat) (cap:List Nat) (S:SS):SS:=List.replicate own none++cap.map fun i=>match S[i]? with
  | some (some (.val d))=>some (.val d)
  | _=>none
def compGo (S:SS) (g:D→SS→R SS) (c:SS→R Bool) (e:SS→R D):List D→R (List D)
  | []=>.ok []
  | d::r=>(g d S).bind fun S1=>(c S1).bind fun t=>if t=true then (e S1).bind fun y=>(compGo S g c e r).bind fun ys=>.ok (y::ys) else compGo S g c e r
def eComp (own:Nat) (cap:List Nat) (it:SS→R (List D)) (g:D→SS→R SS) (c:SS→R Bool) (e:SS→R D):SS→R D:=fun S=>(it S).bind fun ds=>(noErr (compGo (blkS own cap S) g c e ds)).bind fun ys=>.ok (.lst ys)
def tTrue:SS→R Bool:=fun _=>.ok true
abbrev noE (F:Fx):Fx:={ F with E:=fun _ _ _=>False }
def Own (own:Nat) (g:D→SS→R SS):Prop:=∀ d S S1,g d S=.ok S1→S1.length=S.length∧∀ i,own≤i→S1[i]?=S[i]?
theorem au {X:Cx} {F:Fx} {k:Nat} (bx:BX X F k) {scope:Scope} {cl:List (Str×Addr)} {C:Addr} {s:Shared} {H:Hp} {fp:List Addr} {N:List Str}:BX (blk X scope cl C s H fp N) (noE F) k :=
  ⟨bx.room,bx.K,rfl,fun pins σ H s e s' _ h=>by
    obtain ⟨_,_,_,_,_,_,_,_,_,_,_,_,_,hE⟩:=h
    exact hE.elim⟩
theorem bJ {own i:Nat} (h:i < own):Own own (gNm i):=fun d S S1 e=>by
  cases e
  exact ⟨by simp,fun j hj=>List.getElem?_set_ne (by omega)⟩
theorem StOk.forget {F:Fx} {H Z:Hp} {S S0:SS} {σ:St} (h:StOk F H Z S σ) (hl:S0.length=S.length) (hs:∀ (i:Nat) (x:Sl),S0[i]?=some (some x)→S[i]?=some (some x)):StOk F H Z S0 σ :=
  ⟨h.ex,hl.trans h.len,fun i d e=>h.val i d (hs i _ e),fun i ds e=>h.own i ds (hs i _ e),fun i j ds es a e1 e2=>h.dis i j ds es a (hs i _ e1) (hs j _ e2)⟩
theorem gy {own:Nat} {cap:List Nat} {S:SS} {i:Nat} {x:Sl} (e:(blkS own cap S)[i]?=some (some x)):own≤i∧∃ k d,cap[i - own]?=some k∧S[k]?=some (some (.val d))∧x=.val d:=by
  unfold blkS at e
  by_cases hi:i < own
  · rw [List.getElem?_append_left (by simpa using hi),List.getElem?_replicate] at e
    split at e<;>cases e
  · rw [List.getElem?_append_right (by simpa using hi),List.length_replicate,List.getElem?_map] at e
    cases q:cap[i - own]? with
    | none=>rw [q] at e; cases e
    | some k =>
      rw [q] at e
      simp only [Option.map_some,Option.some.injEq] at e
      split at e
      · rename_i d q2
        cases e
        exact ⟨by omega,k,d,rfl,q2,rfl⟩
      · cases e
theorem pz {F:Fx} {H Z:Hp} {S:SS} {σ:St} {own:Nat} {cap:List Nat} {D:Addr} (ok:StOk F H Z S σ) (hD:H D=none):StOk (noE F) (upd H D (.lst [])) Z (blkS own cap S) (startB own cap σ):=by
  refine ⟨ok.ex.trans (Ex.hidden ok.sub hD),by simp [blkS,startB],fun i d e=>?_,fun i es e=>?_,fun i j es fs a e=>?_⟩
  · obtain ⟨hi,k,d',q1,q2,q3⟩:=gy e
    cases q3
    obtain ⟨v,e1,r⟩:=ok.val k d q2
    refine ⟨v,?_,r⟩
    unfold startB
    rw [List.getElem?_append_right (by simpa using hi),List.length_replicate,List.getElem?_map,q1]
    simp [e1]
  · obtain ⟨_,_,_,_,_,q⟩:=gy e; cases q
  · obtain ⟨_,_,_,_,_,q⟩:=gy e; cases q
section
variable {X:Cx} {F:Fx} {tg iter elt:Expr} {ifs:List Expr} {scope:Scope} {N:List Str} {own:Nat} {cap:List Nat} {pos:Pos} {git:SS→R (List D)} {g:D→SS→R SS} {gc:SS→R Bool} {ge:SS→R D}
theorem hV {σ:St} {H Z:Hp} {S:SS} {ifs:List Expr} {P:D→Hp→Hp→Prop} {Q:Addr→Hp→Prop} (hgc:ifs=[]→gc=tTrue) (hgo:Own own g) (ok:StOk F H Z S σ) (w:WG F H Z (eComp own cap git g gc ge S) P) (hP:∀ D ys ds H' Z',Ex H Z H' Z'→P (.lst ds) H' Z'→H' D=some (.lst ys)→Z' D=some (.lst ys)→Reps F.K F.C Z' ds ys→Q D H') :
    tI F git σ H fun J H1=>∀ D,H1 D=none→∃ W,BlkW sizeLine J (tGd (noE F) g) (tTests ifs (tT (noE F) gc)) (tE (noE F) ge) D (fun H' _=>Q D H') W∧∃ m,W 0 m (startB own cap σ) (upd H1 D (.lst [])) []:=by
  refine ⟨Z,S,ok,?_⟩
  unfold eComp at w
  cases e:git S with
  | err k=>rw [e] at w; exact w
  | stuck=>rw [e] at w; exact w
  | ok ds =>
    rw [e] at w
    intro H1 Z1 x1 J wk hlen D hD
    have w1:=WG.more (r:=(noErr (compGo (blkS own cap S) g gc ge ds)).bind fun ys=>R.ok (FF.D.lst ys)) w x1
    have ok1:=ok.more x1
    have hS:=sizeLine_eq
    refine ⟨fun i m σ' H' ys=>m=ds.length - i∧i≤ds.length∧H' D=some (.lst ys)∧ys.length≤i∧∃ Z' acc,Ex H1 Z1 H' Z'∧Z' D=none∧Reps F.K F.C Z' acc ys∧StOk (noE F) H' Z' (blkS own cap S) σ' ∧
      WG F H1 Z1 ((noErr (compGo (blkS own cap S) g gc ge (ds.drop i))).bind fun zs=>R.ok (FF.D.lst (acc++zs))) P,?_,ds.length,rfl,Nat.zero_le _,ar,Nat.le_refl _,Z1,[],Ex.hidden ok1.sub hD,ok1.sub.free hD,Reps.nil,pz ok1 hD,w1⟩
    rintro i m σ2 H2 ys ⟨rfl,hle,hDy,hyl,Z2,acc,x2,hZD,ra,ok2,w2⟩
    refine ⟨hDy,?_⟩
    obtain ⟨k1,k2⟩:=wk i H2 Z2 x2.z x2.sub
    by_cases hlt:i < ds.length
    · obtain ⟨go,y⟩:=k1 hlt
      refine .inr ⟨go,fun x H' hy=>?_⟩
      obtain ⟨Z2',d,x',e3,rd⟩:=y x H' hy
      have ok2:=ok2.more x'
      have hZD:Z2' D=none:=by
        cases r:Z2' D with
        | none=>rfl
        | some o =>
          rcases x'.new D (by rw [r]; simp) with z | z
          · exact absurd hZD z
          · rw [hDy] at z; cases z
      have hDy:=x'.same _ _ hDy
      have x2:=x2.trans x'
      have ra:=ra.mono x'.z
      have hd:ds.drop i=d::ds.drop (i+1):=by
        obtain ⟨hi,e4⟩:=List.getElem?_eq_some_iff.mp e3
        rw [List.drop_eq_getElem_cons hi,e4]
      rw [hd] at w2
      unfold compGo at w2
      refine ⟨Z2',blkS own cap S,d,ok2,rd,?_⟩
      cases qg:g d (blkS own cap S) with
      | err k=>rw [qg] at w2; exact w2.elim
      | stuck=>rw [qg] at w2; exact w2.elim
      | ok S1 =>
        rw [qg,R.bind_ok] at w2
        intro H3 Z3 x3 σ3 ok3
        obtain ⟨gl,gk⟩:=hgo _ _ _ qg
        have back:∀ {H Z:Hp},StOk (noE F) H Z S1 σ3→StOk (noE F) H Z (blkS own cap S) σ3:=fun h=>h.forget gl.symm fun j z q=>by
          rw [gk j (gy q).1]; exact q
        have hD3:H3 D=some (.lst ys):=x3.same _ _ hDy
        have x13:=x2.trans x3
        have zD:∀ {H Z:Hp},Ex H1 Z1 H Z→Ex H' Z2' H Z→Z D=none:=fun {H Z} _ q=>by
          cases r:Z D with
          | none=>rfl
          | some o =>
            rcases q.new D (by rw [r]; simp) with z | z
            · exact absurd hZD z
            · rw [hDy] at z; cases z
        have fin:∀ (t:Bool) (H4 Z4:Hp),Ex H' Z2' H4 Z4→StOk (noE F) H4 Z4 S1 σ3→gc S1=.ok t→if t=true then tE (noE F) ge σ3 H4 fun y H5=>H5 D=some (.lst ys)∧ys.length < sizeLine∧∃ m',m' < ds.length - i∧(m'=ds.length - (i+1)∧i+1≤ds.length∧(upd H5 D (.lst (ys++[y]))) D=some (.lst (ys++[y]))∧(ys++[y]).length≤i+1∧∃ Z' acc,Ex H1 Z1 (upd H5 D (.lst (ys++[y]))) Z'∧Z' D=none∧Reps F.K F.C Z' acc (ys++[y])∧StOk (noE F) (upd H5 D (.lst (ys++[y]))) Z' (blkS own cap S) σ3 ∧
            WG F H1 Z1 ((noErr (compGo (blkS own cap S) g gc ge (ds.drop (i+1)))).bind fun zs=>R.ok (FF.D.lst (acc++zs))) P)
            else ∃ m',m' < ds.length - i∧(m'=ds.length - (i+1)∧i+1≤ds.length∧H4 D=some (.lst ys)∧ys.length≤i+1∧∃ Z' acc,Ex H1 Z1 H4 Z'∧Z' D=none∧Reps F.K F.C Z' acc ys∧StOk (noE F) H4 Z' (blkS own cap S) σ3 ∧
            WG F H1 Z1 ((noErr (compGo (blkS own cap S) g gc ge (ds.drop (i+1)))).bind fun zs=>R.ok (FF.D.lst (acc++zs))) P):=by
          intro t H4 Z4 x4 ok4 qc
          rw [qc,R.bind_ok] at w2
          cases t with
          | false =>
            rw [if_neg Bool.false_ne_true] at w2 ⊢
            exact ⟨ds.length - (i+1),by omega,rfl,hlt,x4.same _ _ hDy,by omega,Z4,acc,x2.trans x4,zD (x2.trans x4) x4,ra.mono x4.z,back ok4,w2⟩
          | true =>
            rw [if_pos rfl] at w2 ⊢
            refine ⟨Z4,S1,ok4,?_⟩
            cases qe:ge S1 with
            | err k=>rw [qe] at w2; exact w2.elim
            | stuck=>rw [qe] at w2; exact w2.elim
            | ok yd =>
              rw [qe,R.bind_ok] at w2
              intro H5 Z5 x5 yv ry
              have hD5:H5 D=some (.lst ys):=x5.same _ _ (x4.same _ _ hDy)
              have x25:=x4.trans x5
              have z5:=zD (x2.trans x25) x25
              have ok5:=ok4.more x5
              have n0:F.H0 D=none:=ok1.ex.same.free hD
              have xu:Ex H1 Z1 (upd H5 D (.lst (ys++[yv]))) Z5:=by
                have q:=x2.trans x25
                refine ⟨fun b o e=>?_,q.z,fun b o e=>?_,q.new⟩
                · rw [aq (fun z=>by subst z; rw [hD] at e; cases e)]; exact q.same b o e
                · rw [aq (fun z=>by subst z; rw [z5] at e; cases e)]; exact q.sub b o e
              refine ⟨hD5,by omega,ds.length - (i+1),by omega,rfl,hlt,ar,by simp; omega,Z5,acc++[yd],xu,z5,(ra.mono x25.z).append (Reps.cons ry Reps.nil),?_,?_⟩
              · have q:=back ok5
                refine ⟨⟨fun b o e=>?_,q.ex.z,fun b o e=>?_,q.ex.new⟩,q.len,q.val,fun j es e=>?_,q.dis⟩
                · rw [aq (fun z=>by subst z; have e':F.H0 b=some o:=e; rw [n0] at e'; cases e')]; exact q.ex.same b o e
                · rw [aq (fun z=>by subst z; rw [z5] at e; cases e)]; exact q.ex.sub b o e
                · obtain ⟨_,_,_,_,_,z⟩:=gy e; cases z
              · cases qr:compGo (blkS own cap S) g gc ge (ds.drop (i+1)) with
                | err k=>rw [qr] at w2; exact w2.elim
                | stuck=>rw [qr] at w2; exact w2.elim
                | ok zs=>rw [qr] at w2; simpa [noErr,List.append_assoc] using w2
        cases qc:gc S1 with
        | err k=>rw [qc] at w2; exact w2.elim
        | stuck=>rw [qc] at w2; exact w2.elim
        | ok t =>
          cases ifs with
          | nil =>
            have:=hgc rfl
            subst this
            cases qc
            exact fin true H3 Z3 x3 ok3 rfl
          | cons c r =>
            refine ⟨Z3,S1,ok3,?_⟩
            rw [qc]
            intro H4 Z4 x4
            exact fin t H4 Z4 (x3.trans x4) (ok3.more x4) qc
    · have ei:i=ds.length:=by omega
      refine .inl ⟨k2 (by omega),?_⟩
      rw [List.drop_eq_nil_of_le (by omega)] at w2
      have w3:WG F H1 Z1 (R.ok (FF.D.lst (acc++[]))) P:=w2
      rw [List.append_nil] at w3
      have hz:Same Z2 (upd Z2 D (.lst ys)):=aK hZD
      have xf:Ex H1 Z1 H2 (upd Z2 D (.lst ys)):=by
        refine ⟨x2.same,x2.z.trans hz,fun b o e=>?_,fun b hb=>?_⟩
        · by_cases q:b=D
          · subst q; rw [ar] at e; cases e; exact hDy
          · rw [aq q] at e; exact x2.sub b o e
        · by_cases q:b=D
          · subst q; exact .inr hD
          · rw [aq q] at hb; exact x2.new b hb
      exact hP D ys acc H2 _ (x1.trans xf) (w3 H2 _ xf) hDy ar (ra.mono hz)
theorem bv {k:Nat} (bx:BX X F k) (b:BlkOk X.N X.env.scope scope N own cap) (hi:FI X F tg iter git) (hgo:Own own g)
    (hg:∀ cl C s H fp,FG (blk X scope cl C s H fp N) (noE F) tg g) (he:∀ cl C s H fp,FE (blk X scope cl C s H fp N) (noE F) elt ge)
    (hs:∀ x,foldedSetIterable iter X.env x=pure x:=by intro _; rfl):FE X F (.ListComp elt [⟨tg,iter,[],0⟩] scope pos) (eComp own cap git g tTrue ge) :=
  (oz (ifs:=[]) (tc:=tT (noE F) tTrue) b bx.calm (by simp) hi hg (fun c q=>nomatch q) he hs).weak fun σ H Q ⟨Z,S,ok,w⟩ =>
    hV (fun _=>rfl) hgo ok w fun D ys ds H' Z' _ p h1 h2 r=>p _ (by rw [Rep]; exact ⟨D,ys,rfl,SqL.of h2,r⟩)
theorem hZ {k:Nat} {c:Expr} (bx:BX X F k) (b:BlkOk X.N X.env.scope scope N own cap) (hi:FI X F tg iter git) (hgo:Own own g)
    (hg:∀ cl C s H fp,FG (blk X scope cl C s H fp N) (noE F) tg g) (ht:∀ cl C s H fp,FT (blk X scope cl C s H fp N) (noE F) c gc) (he:∀ cl C s H fp,FE (blk X scope cl C s H fp N) (noE F) elt ge)
    (hs:∀ x,foldedSetIterable iter X.env x=pure x:=by intro _; rfl):FE X F (.ListComp elt [⟨tg,iter,[c],0⟩] scope pos) (eComp own cap git g gc ge) :=
  (oz (ifs:=[c]) b bx.calm (by simp) hi hg (fun c' q=>by cases q; exact ht) he hs).weak fun σ H Q ⟨Z,S,ok,w⟩ =>
    hV (fun q=>nomatch q) hgo ok w fun D ys ds H' Z' _ p h1 h2 r=>p _ (by rw [Rep]; exact ⟨D,ys,rfl,SqL.of h2,r⟩)
theorem WG.unbind {α β:Type} {F:Fx} {H Z:Hp} {r:R α} {f:α→β} {P:β→Hp→Hp→Prop} (w:WG F H Z (r.bind fun d=>.ok (f d)) P):WG F H Z r fun d H' Z'=>P (f d) H' Z':=by
  cases r with
  | ok d=>exact w
  | err k=>exact w
  | stuck=>exact w
theorem qX {i:Nat} {D:Ends} {σ:St} {H Z:Hp} {S:SS} (hgc:ifs=[]→gc=tTrue) (hgo:Own own g) (ok:StOk F H Z S σ) (w:WO F Z (sSet i (eComp own cap git g gc ge) S) D) :
    tCompSet i own cap (tI F git) (tGd (noE F) g) (tTests ifs (tT (noE F) gc)) (tE (noE F) ge) D σ H :=
  hV (P:=fun d _ Z'=>WO F Z' (.nx (S.set i (some (.val d)))) D) (Q:=fun a H'=>D.nx (σ.set i (some (.ref a))) H') hgc hgo ok (WG.unbind (WO.wg ok w)) fun a ys ds H' Z' x p h1 h2 r =>
    p _ H' Z' (Same.refl _) ((ok.more x).setVal (by rw [Rep]; exact ⟨a,ys,rfl,SqL.of h2,r⟩))
theorem jm {k:Nat} (i:Nat) {y:Str} {py spos:Pos} (bx:BX X F k) (b:BlkOk X.N X.env.scope scope N own cap) (hi:FI X F tg iter git) (hgo:Own own g)
    (hg:∀ cl C s H fp,FG (blk X scope cl C s H fp N) (noE F) tg g) (he:∀ cl C s H fp,FE (blk X scope cl C s H fp N) (noE F) elt ge) (hN:X.N.Nodup)
    (hsw:swapsWith (.ListComp elt [⟨tg,iter,[],0⟩] scope pos) (some (.Name y py)) spos.line X.env=pure true:=by rfl) (hiy:X.N[i]?=some y:=by rfl) (hy:Loc X.env.scope y:=by first | exact Or.inl rfl | exact Or.inr rfl)
    (hfn:X.fn y=true∨X.env.scope.names.lookup y=some .local:=by first | exact .inl rfl | exact .inr rfl) (hs:∀ x,foldedSetIterable iter X.env x=pure x:=by intro _; rfl) :
    FS X F (.Assign [.Name y py] (.ListComp elt [⟨tg,iter,[],0⟩] scope pos) spos) (sSet i (eComp own cap git g tTrue ge)) :=
  (ni (ifs:=[]) (tc:=tT (noE F) tTrue) b bx.calm (by simp) hi hg (fun c q=>nomatch q) he hN hiy hy hfn hsw hs).weak fun D σ H ⟨Z,S,ok,w⟩=>qX (fun _=>rfl) hgo ok w
end
end FF
end
noncomputable section
set_option Elab.async false
set_option linter.all false
set_option maxRecDepth 100000
namespace FF
open PySem PySem.Spec PyProof.Rows L2
def dAdd (x y:D):R D:=if isInt x=true then dI0 (fun i j=>.int (i+j)) x y else if isTup x=true then dCatT x y else dCatL x y
def dSub:D→D→R D:=dI0 fun i j=>.int (i - j)
def dMul (x y:D):R D:=if isInt x=true then dI cMul (fun i j=>.int (i*j)) x y else if isTup x=true then dRepT x y else dRepL x y
def dDiv:D→D→R D:=dI cDiv fun i j=>.int (i/j)
def dMod:D→D→R D:=dI (fun _ j=>decide (0 < j)) fun i j=>.int (i%j)
def dLt:D→D→R D:=dI0 fun i j=>.bl (decide (i < j))
def dLe:D→D→R D:=dI0 fun i j=>.bl (decide (i≤j))
def dGt:D→D→R D:=dI0 fun i j=>.bl (decide (j < i))
def dGe:D→D→R D:=dI0 fun i j=>.bl (decide (j≤i))
theorem bi {K:PySem.W.Frag} {C:Nat→Addr} {Z:Hp} {i:Int}:Rep K C Z (.int i) (.int i):=by rw [Rep]
theorem cN {K:PySem.W.Frag} {C:Nat→Addr} {Z:Hp} {i:Bool}:Rep K C Z (.bl i) (.bl i):=by rw [Rep]
section
variable {X:Cx} {F:Fx} {a b c:Expr} {ga gb gc:SS→R D} {pos:Pos}
theorem e6 (ha:FE X F a ga) (hb:FE X F b gb):FE X F (.BinOp a .Sub b pos) (eOp dSub ga gb):=lF uX (gg fun _ _ _=>bi) ha hb
theorem kZ (ha:FE X F a ga) (hb:FE X F b gb):FE X F (.BinOp a .FloorDiv b pos) (eOp dDiv ga gb):=lF sF (qN sT fun _ _ _=>bi) ha hb
theorem k6 (ha:FE X F a ga) (hb:FE X F b gb):FE X F (.BinOp a .Mod b pos) (eOp dMod ga gb):=lF uZ (qN (fun i j h=>of_decide_eq_true h) fun _ _ _=>bi) ha hb
theorem lL (ha:FE X F a ga) (hb:FE X F b gb):FT X F (.Compare a [.Lt] [b] pos) (gB (eOp dLt ga gb)):=jg vT (gg fun _ _ _=>cN) ha hb
theorem ag (hK:X.K=F.K) (ha:FE X F a ga) (hb:FE X F b gb) (hs:PlainIx b:=by intro _ _; rfl):FE X F (.Subscript a b pos) (eOp dIx ga gb):=vV va (by rw [hK]; exact vg) ha hb hs
theorem tq:OpR X (binaryOp .Add) (fun x y H Q=>rI0 (fun i j=>.int (i+j)) x y H Q∨(rCat2 X.K x y H Q∨∃ a b xs ys,x=.ref a∧y=.ref b∧SqL X.K H a xs∧SqL X.K H b ys∧xs.length+ys.length≤sizeLine∧∀ p,H p=none→Q (.ref p) (upd H p (.lst (xs++ys))))) :=
  uW.or (sU.or qR)
theorem aI (hK:X.K=F.K) (ha:FE X F a ga) (hb:FE X F b gb):FE X F (.BinOp a .Add b pos) (eOp dAdd ga gb) :=
  lF tq (by rw [hK]; exact OpD.or (fun x _=>isInt x) (gg fun _ _ _=>bi) (OpD.or (fun x _=>isTup x) qO qQ)) ha hb
theorem cn (hK:X.K=F.K) (ha:FE X F a ga) (hb:FE X F b gb):FE X F (.BinOp a .Mult b pos) (eOp dMul ga gb) :=
  lF (uY.or (sV.or sW)) (by rw [hK]; exact OpD.or (fun x _=>isInt x) (qN sS fun _ _ _=>bi) (OpD.or (fun x _=>isTup x) qP qS)) ha hb
end
theorem vi {X:Cx} {pins:List (Addr×Obj)} {σ:St} {H Z:Hp} {s:Shared} {K:PySem.W.Frag} {C:Nat→Addr} (hK:X.K=K) (I:Inv X pins σ H s) (z:Same Z H) (n:Nat) (A:Around) (d e:D) (v u:V) (x y:Value) (g1:good n d=true) (g2:good n e=true)
    (h:Rep K C Z d v) (h':Rep K C Z e u) (rx:RelV v x) (ry:RelV u y) (hu:A.units+n < cLine):SeqAt.RcAt A s x y (eqD d e):=by
  have hu0:A.units < cLine:=by omega
  cases d with
  | exc k=>cases n<;>simp [good] at g1
  | fn k=>cases n<;>simp [good] at g1
  | tup ds =>
    cases n with
    | zero=>simp [good] at g1
    | succ n =>
      have in1:A.in1.units+n < cLine:=by show A.units+1+n < cLine; omega
      rw [Rep] at h
      obtain ⟨a,vs,rfl,h1,h2⟩:=h
      cases rx
      obtain ⟨its,r,p,_⟩:=I.tuple (by rw [hK]; exact h1.mono z:SqT X.K H a vs)
      have p':s.heap.IsTuple a its.toArray:=p
      cases e with
      | tup es =>
        rw [Rep] at h'
        obtain ⟨b,us,rfl,k1,k2⟩:=h'
        cases ry
        obtain ⟨its2,r2,p2,_⟩:=I.tuple (by rw [hK]; exact k1.mono z:SqT X.K H b us)
        have p2':s.heap.IsTuple b its2.toArray:=p2
        rw [good] at g1 g2
        have q:=SeqAt.RcAt.tuples (A:=A) (e:=fun j=>eqD (ds.getD j .non) (es.getD j .non)) p' p2' hu0 fun j j1 j2=>by
          have j1':j < its.length:=by simpa using j1
          have j2':j < its2.length:=by simpa using j2
          have l1:j < ds.length:=by rw [h2.length,r.length]; exact j1'
          have l2:j < es.length:=by rw [k2.length,r2.length]; exact j2'
          have e1:ds[j]?=some ds[j]:=by simp
          have e2:es[j]?=some es[j]:=by simp
          obtain ⟨w1,f1,f2⟩:=h2.get e1
          obtain ⟨w2,f3,f4⟩:=k2.get e2
          obtain ⟨z1,m1,m2⟩:=r.get f1
          obtain ⟨z2,m3,m4⟩:=r2.get f3
          have n1:its.toArray[j]=z1:=by simpa [j1'] using m1
          have n2:its2.toArray[j]=z2:=by simpa [j2'] using m3
          rw [n1,n2]
          have g3:ds.getD j .non=ds[j]:=by simp [l1]
          have g4:es.getD j .non=es[j]:=by simp [l2]
          rw [g3,g4]
          exact hI hK I z n A.in1 _ _ w1 w2 z1 z2 (aW g1 e1) (aW g2 e2) f2 f4 m2 m4 in1
        rw [eqD,dR]
        have s1:its.toArray.size=ds.length:=by rw [List.size_toArray,h2.length,r.length]
        have s2:its2.toArray.size=es.length:=by rw [List.size_toArray,k2.length,r2.length]
        rw [s1,s2] at q
        exact q
      | lst es =>
        rw [Rep] at h'
        obtain ⟨b,us,rfl,k1,k2⟩:=h'
        cases ry
        obtain ⟨its2,r2,p2,_⟩:=I.list (by rw [hK]; exact z.seq k1:SqL X.K H b us)
        simp only [eqD]
        exact SeqAt.RcAt.tuple_list p' p2.isList hu0
      | exc k=>simp [good] at g2
      | fn k=>simp [good] at g2
      | non=>rw [Rep] at h'; subst h'; cases ry; simp only [eqD]; exact SeqAt.RcAt.tuple_none p' hu0
      | bl b=>rw [Rep] at h'; subst h'; cases ry; simp only [eqD]; exact SeqAt.RcAt.tuple_bool _ p' hu0
      | int b=>rw [Rep] at h'; subst h'; obtain ⟨t,rfl⟩:=ry; simp only [eqD]; exact SeqAt.RcAt.tuple_int _ _ p' hu0
      | str b=>rw [Rep] at h'; subst h'; obtain ⟨t,rfl⟩:=ry; simp only [eqD]; exact SeqAt.RcAt.tuple_str _ _ p' hu0
  | lst ds =>
    cases n with
    | zero=>simp [good] at g1
    | succ n =>
      have in1:A.in1.units+n < cLine:=by show A.units+1+n < cLine; omega
      rw [Rep] at h
      obtain ⟨a,vs,rfl,h1,h2⟩:=h
      cases rx
      obtain ⟨its,r,p,_⟩:=I.list (by rw [hK]; exact z.seq h1:SqL X.K H a vs)
      have p':=p.isList
      cases e with
      | lst es =>
        rw [Rep] at h'
        obtain ⟨b,us,rfl,k1,k2⟩:=h'
        cases ry
        obtain ⟨its2,r2,p2,_⟩:=I.list (by rw [hK]; exact z.seq k1:SqL X.K H b us)
        have p2':=p2.isList
        rw [good] at g1 g2
        have s1:its.toArray.size=ds.length:=by rw [List.size_toArray,h2.length,r.length]
        have s2:its2.toArray.size=es.length:=by rw [List.size_toArray,k2.length,r2.length]
        rw [eqD,dR]
        by_cases hsz:ds.length=es.length
        · have q:=SeqAt.RcAt.lists (A:=A) (e:=fun j=>eqD (ds.getD j .non) (es.getD j .non)) p' p2' (by rw [s1,s2]; exact hsz) hu0 fun j j1 j2=>by
            have j1':j < its.length:=by simpa using j1
            have j2':j < its2.length:=by simpa using j2
            have l1:j < ds.length:=by rw [h2.length,r.length]; exact j1'
            have l2:j < es.length:=by rw [k2.length,r2.length]; exact j2'
            have e1:ds[j]?=some ds[j]:=by simp
            have e2:es[j]?=some es[j]:=by simp
            obtain ⟨w1,f1,f2⟩:=h2.get e1
            obtain ⟨w2,f3,f4⟩:=k2.get e2
            obtain ⟨z1,m1,m2⟩:=r.get f1
            obtain ⟨z2,m3,m4⟩:=r2.get f3
            have n1:its.toArray[j]=z1:=by simpa [j1'] using m1
            have n2:its2.toArray[j]=z2:=by simpa [j2'] using m3
            rw [n1,n2]
            have g3:ds.getD j .non=ds[j]:=by simp [l1]
            have g4:es.getD j .non=es[j]:=by simp [l2]
            rw [g3,g4]
            exact hI hK I z n A.in1 _ _ w1 w2 z1 z2 (aW g1 e1) (aW g2 e2) f2 f4 m2 m4 in1
          rw [s1] at q
          rw [hsz,Nat.min_self,beq_self_eq_true,Bool.and_true,← hsz]
          exact q
        · have q:=SeqAt.RcAt.lists_lengths (A:=A) p' p2' (by rw [s1,s2]; simpa using hsz) hu0
          rw [show (ds.length==es.length)=false by simpa using hsz,Bool.and_false]
          exact q
      | tup es =>
        rw [Rep] at h'
        obtain ⟨b,us,rfl,k1,k2⟩:=h'
        cases ry
        obtain ⟨its2,r2,p2,_⟩:=I.tuple (by rw [hK]; exact k1.mono z:SqT X.K H b us)
        simp only [eqD]
        exact SeqAt.RcAt.list_tuple p' (show s.heap.IsTuple b its2.toArray from p2) hu0
      | exc k=>simp [good] at g2
      | fn k=>simp [good] at g2
      | non=>rw [Rep] at h'; subst h'; cases ry; simp only [eqD]; exact SeqAt.RcAt.list_none p' hu0
      | bl b=>rw [Rep] at h'; subst h'; cases ry; simp only [eqD]; exact SeqAt.RcAt.list_bool _ p' hu0
      | int b=>rw [Rep] at h'; subst h'; obtain ⟨t,rfl⟩:=ry; simp only [eqD]; exact SeqAt.RcAt.list_int _ _ p' hu0
      | str b=>rw [Rep] at h'; subst h'; obtain ⟨t,rfl⟩:=ry; simp only [eqD]; exact SeqAt.RcAt.list_str _ _ p' hu0
  | non =>
    rw [Rep] at h; subst h; cases rx
    cases e with
    | tup es =>
      rw [Rep] at h'
      obtain ⟨b,us,rfl,k1,k2⟩:=h'
      cases ry
      obtain ⟨its2,r2,p2,_⟩:=I.tuple (by rw [hK]; exact k1.mono z:SqT X.K H b us)
      simp only [eqD]; exact SeqAt.RcAt.none_tuple (show s.heap.IsTuple b its2.toArray from p2) hu0
    | lst es =>
      rw [Rep] at h'
      obtain ⟨b,us,rfl,k1,k2⟩:=h'
      cases ry
      obtain ⟨its2,r2,p2,_⟩:=I.list (by rw [hK]; exact z.seq k1:SqL X.K H b us)
      simp only [eqD]; exact SeqAt.RcAt.none_list p2.isList hu0
    | exc k=>cases n<;>simp [good] at g2
    | fn k=>cases n<;>simp [good] at g2
    | non=>rw [Rep] at h'; subst h'; cases ry; simp only [eqD]; exact SeqAt.RcAt.none_none
    | bl b=>rw [Rep] at h'; subst h'; cases ry; simp only [eqD]; exact SeqAt.RcAt.none_bool _
    | int b=>rw [Rep] at h'; subst h'; obtain ⟨t,rfl⟩:=ry; simp only [eqD]; exact SeqAt.RcAt.none_int _ _
    | str b=>rw [Rep] at h'; subst h'; obtain ⟨t,rfl⟩:=ry; simp only [eqD]; exact SeqAt.RcAt.none_str _ _
  | bl a =>
    rw [Rep] at h; subst h; cases rx
    cases e with
    | tup es =>
      rw [Rep] at h'
      obtain ⟨b,us,rfl,k1,k2⟩:=h'
      cases ry
      obtain ⟨its2,r2,p2,_⟩:=I.tuple (by rw [hK]; exact k1.mono z:SqT X.K H b us)
      simp only [eqD]; exact SeqAt.RcAt.bool_tuple _ (show s.heap.IsTuple b its2.toArray from p2) hu0
    | lst es =>
      rw [Rep] at h'
      obtain ⟨b,us,rfl,k1,k2⟩:=h'
      cases ry
      obtain ⟨its2,r2,p2,_⟩:=I.list (by rw [hK]; exact z.seq k1:SqL X.K H b us)
      simp only [eqD]; exact SeqAt.RcAt.bool_list _ p2.isList hu0
    | exc k=>cases n<;>simp [good] at g2
    | fn k=>cases n<;>simp [good] at g2
    | non=>rw [Rep] at h'; subst h'; cases ry; simp only [eqD]; exact SeqAt.RcAt.bool_none _
    | bl b=>rw [Rep] at h'; subst h'; cases ry; simp only [eqD]; exact SeqAt.RcAt.bool_bool _ _
    | int b=>rw [Rep] at h'; subst h'; obtain ⟨t,rfl⟩:=ry; simp only [eqD]; exact SeqAt.RcAt.bool_int _ _ _
    | str b=>rw [Rep] at h'; subst h'; obtain ⟨t,rfl⟩:=ry; simp only [eqD]; exact SeqAt.RcAt.bool_str _ _ _
  | int a =>
    rw [Rep] at h; subst h; obtain ⟨t0,rfl⟩:=rx
    cases e with
    | tup es =>
      rw [Rep] at h'
      obtain ⟨b,us,rfl,k1,k2⟩:=h'
      cases ry
      obtain ⟨its2,r2,p2,_⟩:=I.tuple (by rw [hK]; exact k1.mono z:SqT X.K H b us)
      simp only [eqD]; exact SeqAt.RcAt.int_tuple _ _ (show s.heap.IsTuple b its2.toArray from p2) hu0
    | lst es =>
      rw [Rep] at h'
      obtain ⟨b,us,rfl,k1,k2⟩:=h'
      cases ry
      obtain ⟨its2,r2,p2,_⟩:=I.list (by rw [hK]; exact z.seq k1:SqL X.K H b us)
      simp only [eqD]; exact SeqAt.RcAt.int_list _ _ p2.isList hu0
    | exc k=>cases n<;>simp [good] at g2
    | fn k=>cases n<;>simp [good] at g2
    | non=>rw [Rep] at h'; subst h'; cases ry; simp only [eqD]; exact SeqAt.RcAt.int_none _ _
    | bl b=>rw [Rep] at h'; subst h'; cases ry; simp only [eqD]; exact SeqAt.RcAt.int_bool _ _ _
    | int b=>rw [Rep] at h'; subst h'; obtain ⟨t,rfl⟩:=ry; simp only [eqD]; exact SeqAt.RcAt.int_int _ _ _ _
    | str b=>rw [Rep] at h'; subst h'; obtain ⟨t,rfl⟩:=ry; simp only [eqD]; exact SeqAt.RcAt.int_str _ _ _ _
  | str a =>
    rw [Rep] at h; subst h; obtain ⟨t0,rfl⟩:=rx
    cases e with
    | tup es =>
      rw [Rep] at h'
      obtain ⟨b,us,rfl,k1,k2⟩:=h'
      cases ry
      obtain ⟨its2,r2,p2,_⟩:=I.tuple (by rw [hK]; exact k1.mono z:SqT X.K H b us)
      simp only [eqD]; exact SeqAt.RcAt.str_tuple _ _ (show s.heap.IsTuple b its2.toArray from p2) hu0
    | lst es =>
      rw [Rep] at h'
      obtain ⟨b,us,rfl,k1,k2⟩:=h'
      cases ry
      obtain ⟨its2,r2,p2,_⟩:=I.list (by rw [hK]; exact z.seq k1:SqL X.K H b us)
      simp only [eqD]; exact SeqAt.RcAt.str_list _ _ p2.isList hu0
    | exc k=>cases n<;>simp [good] at g2
    | fn k=>cases n<;>simp [good] at g2
    | non=>rw [Rep] at h'; subst h'; cases ry; simp only [eqD]; exact SeqAt.RcAt.str_none _ _
    | bl b=>rw [Rep] at h'; subst h'; cases ry; simp only [eqD]; exact SeqAt.RcAt.str_bool _ _ _
    | int b=>rw [Rep] at h'; subst h'; obtain ⟨t,rfl⟩:=ry; simp only [eqD]; exact SeqAt.RcAt.str_int _ _ _ _
    | str b=>rw [Rep] at h'; subst h'; obtain ⟨t,rfl⟩:=ry; simp only [eqD]; exact SeqAt.RcAt.str_str _ _ _ _
def dEq (x y:D):R D:=if good 60 x=true∧good 60 y=true then .ok (.bl (eqD x y)) else .stuck
def rEqD (K:PySem.W.Frag) (C:Nat→Addr):R2:=fun x y H Q=>∃ Z d e,Same Z H∧Rep K C Z d x∧Rep K C Z e y∧good 60 d=true∧good 60 e=true∧Q (.bl (eqD d e)) H
section
variable {X:Cx} {F:Fx} {a b c:Expr} {ga gb gc:SS→R D} {pos:Pos} {k:Nat}
theorem qY (hK:X.K=F.K) (hr:Room k X.A):OpR X (compareOp .Eq) (rEqD F.K F.C):=by
  intro pins s σ H x y v u Q I rx ry h
  obtain ⟨Z,d,e,z,h1,h2,g1,g2,q⟩:=h
  have hu:X.A.units+60 < cLine:=by have:=hr.un; omega
  exact vi hK I z 60 X.A d e x y v u g1 g2 h1 h2 rx ry hu X.prog X.w X.xe _ ⟨.bl (eqD d e),H,I,rfl,q⟩
theorem qZ:OpD F (rEqD F.K F.C) dEq:=by
  intro H Z x y dx dy Q s rx ry w
  unfold dEq at w
  split at w
  · rename_i g
    exact ⟨Z,dx,dy,s,rx,ry,g.1,g.2,WG.now w s _ cN⟩
  · exact w.elim
theorem q0 (bx:BX X F k) (ha:FE X F a ga) (hb:FE X F b gb):FE X F (.Compare a [.Eq] [b] pos) (eOp dEq ga gb):=qL (qY bx.K bx.room) qZ ha hb
theorem cz (bx:BX X F k) (ha:FE X F a ga) (hb:FE X F b gb):FT X F (.Compare a [.Eq] [b] pos) (gB (eOp dEq ga gb)):=jg (qY bx.K bx.room) qZ ha hb
end
end FF
end
noncomputable section
set_option Elab.async false
set_option linter.all false
set_option maxRecDepth 100000
namespace FF
open PySem PySem.Spec PyProof.Rows L2
def eChain (f f':D→D→R D) (ga gb gc:SS→R D):SS→R D:=fun S=>(ga S).bind fun x=>(gb S).bind fun y=>(asB (f x y)).bind fun k=>if k=true then (gc S).bind fun w=>f' y w else .ok (.bl false)
section
variable {X:Cx} {F:Fx} {a b c:Expr} {ga gb gc:SS→R D} {pos:Pos} {r r':R2} {f f':D→D→R D} {op op':CmpOp}
theorem kA (hd:OpD F r f) (hd':OpD F r' f'):∀ σ H Q,tE F (eChain f f' ga gb gc) σ H Q→tChain r r' (tE F ga) (tE F gb) (tE F gc) σ H Q:=fun σ H Q ⟨Z,S,ok,w⟩ =>
  aU ok w fun dx x H1 Z1 ok1 x1 rx w1=>aU ok1 w1 fun dy y H2 Z2 ok2 x2 ry w2=>hd H2 Z2 x y dx dy _ ok2.sub (rx.mono x2.z) ry (by
    cases e:f dx dy with
    | err k=>rw [e] at w2; exact w2
    | stuck=>rw [e] at w2; exact w2
    | ok d =>
      rw [e] at w2
      intro H3 Z3 x3 v rv
      cases d with
      | bl k =>
        rw [Rep] at rv
        subst rv
        have w3:WG F H3 Z3 (if k=true then (gc S).bind fun w=>f' dy w else .ok (.bl false)) _:=WG.more w2 x3
        refine ⟨k,rfl,?_⟩
        have ok3:=ok2.more x3
        cases k with
        | false=>exact WG.now w3 ok3.sub _ cN
        | true=>exact aU ok3 w3 fun dw wv H4 Z4 ok4 x4 rw' w4=>hd' H4 Z4 y wv dy dw Q ok4.sub (ry.mono (x3.z.trans x4.z)) rw' w4
      | _=>exact w2.elim)
theorem q9 (ho:OpR X (compareOp op) r) (ho':OpR X (compareOp op') r') (hd:OpD F r f) (hd':OpD F r' f') (ha:FE X F a ga) (hb:FE X F b gb) (hc:FE X F c gc) (hm:lastMarks [op,op'] [b,c]=false:=by with_unfolding_all rfl) :
    FE X F (.Compare a [op,op'] [b,c] pos) (eChain f f' ga gb gc):=(qC ho ho' ha hb hc hm).weak (kA hd hd')
theorem re (ho:OpR X (compareOp op) r) (ho':OpR X (compareOp op') r') (hd:OpD F r f) (hd':OpD F r' f') (ha:FE X F a ga) (hb:FE X F b gb) (hc:FE X F c gc) (hm:lastMarks [op,op'] [b,c]=false:=by with_unfolding_all rfl) :
    FT X F (.Compare a [op,op'] [b,c] pos) (gB (eChain f f' ga gb gc)):=(qD ho ho' ha hb hc hm).weak (qM (kA hd hd'))
theorem gz (ha:FE X F a ga) (hb:FE X F b gb) (hc:FE X F c gc) (hm:lastMarks [.LtE,.LtE] [b,c]=false:=by with_unfolding_all rfl):FE X F (.Compare a [.LtE,.LtE] [b,c] pos) (eChain dLe dLe ga gb gc):=q9 on on (gg fun _ _ _=>cN) (gg fun _ _ _=>cN) ha hb hc hm
theorem tt (ha:FE X F a ga) (hb:FE X F b gb) (hc:FE X F c gc) (hm:lastMarks [.LtE,.LtE] [b,c]=false:=by with_unfolding_all rfl):FT X F (.Compare a [.LtE,.LtE] [b,c] pos) (gB (eChain dLe dLe ga gb gc)):=re on on (gg fun _ _ _=>cN) (gg fun _ _ _=>cN) ha hb hc hm
end
def dIs:D→D→R D
  | x,.non=>.ok (.bl (match x with | .non=>true | _=>false))
  | x,.bl b=>.ok (.bl (match x with | .bl a=>a==b | _=>false))
  | _,_=>.stuck
def dIsNot (x y:D):R D:=(asB (dIs x y)).bind fun k=>.ok (.bl (!k))
def isV:V→V→Bool
  | .non,.non=>true
  | .bl a,.bl b=>a==b
  | _,_=>false
section
variable {X:Cx} {F:Fx} {a b:Expr} {ga gb:SS→R D} {pos:Pos}
theorem rf:OpR X (compareOp .Is) (fun x y H Q=>(y=.non∨∃ b,y=.bl b)∧Q (.bl (isV x y)) H):=by
  intro pins s σ H x y v u Q I rx ry h
  obtain ⟨hy,q⟩:=h
  rcases hy with rfl | ⟨b,rfl⟩
  · cases ry
    refine is_none_gen (fC I q ?_)
    cases x<;>first
      | (cases rx; rfl)
      | (obtain ⟨t,rfl⟩:=rx; rfl)
  · cases ry
    cases x<;>first
      | (obtain ⟨t,rfl⟩:=rx; exact wpAny_pure (fC I q rfl))
      | (cases rx; exact wpAny_pure (fC I q rfl))
      | (cases rx; rename_i a; exact wpAny_pure (fC I q (by cases a<;>cases b<;>rfl)))
theorem pA:OpR X (compareOp .IsNot) (fun x y H Q=>(y=.non∨∃ b,y=.bl b)∧Q (.bl (!isV x y)) H):=by
  intro pins s σ H x y v u Q I rx ry h
  obtain ⟨hy,q⟩:=h
  rcases hy with rfl | ⟨b,rfl⟩
  · cases ry
    refine isnot_none_gen (fC I q ?_)
    cases x<;>first
      | (cases rx; rfl)
      | (obtain ⟨t,rfl⟩:=rx; rfl)
  · cases ry
    cases x<;>first
      | (obtain ⟨t,rfl⟩:=rx; exact wpAny_pure (fC I q rfl))
      | (cases rx; exact wpAny_pure (fC I q rfl))
      | (cases rx; rename_i a; exact wpAny_pure (fC I q (by cases a<;>cases b<;>rfl)))
theorem oB {K:PySem.W.Frag} {C:Nat→Addr} {Z:Hp} {d e:D} {x y:V} {r:D} (h:Rep K C Z d x) (h':Rep K C Z e y) (q:dIs d e=.ok r):(y=.non∨∃ b,y=.bl b)∧r=.bl (isV x y):=by
  cases e with
  | non =>
    rw [Rep] at h'; subst h'
    cases q
    refine ⟨.inl rfl,?_⟩
    cases d<;>rw [Rep] at h<;>first | (subst h; rfl) | (obtain ⟨_,_,rfl,_⟩:=h; rfl) | (obtain ⟨_,rfl,_⟩:=h; rfl)
  | bl b =>
    rw [Rep] at h'; subst h'
    cases q
    refine ⟨.inr ⟨b,rfl⟩,?_⟩
    cases d<;>rw [Rep] at h<;>first | (subst h; rfl) | (obtain ⟨_,_,rfl,_⟩:=h; rfl) | (obtain ⟨_,rfl,_⟩:=h; rfl)
  | _=>simp [dIs] at q
theorem rg {d e:D} {k:Nat} (q:dIs d e=.err k):False:=by cases e<;>simp [dIs] at q
theorem rh:OpD F (fun x y H Q=>(y=.non∨∃ b,y=.bl b)∧Q (.bl (isV x y)) H) dIs:=by
  intro H Z x y dx dy Q s rx ry w
  cases e:dIs dx dy with
  | err k=>exact (rg e).elim
  | stuck=>rw [e] at w; exact w.elim
  | ok r =>
    rw [e] at w
    obtain ⟨h1,rfl⟩:=oB rx ry e
    exact ⟨h1,WG.now w s _ cN⟩
theorem pB:OpD F (fun x y H Q=>(y=.non∨∃ b,y=.bl b)∧Q (.bl (!isV x y)) H) dIsNot:=by
  intro H Z x y dx dy Q s rx ry w
  unfold dIsNot at w
  cases e:dIs dx dy with
  | err k=>exact (rg e).elim
  | stuck=>rw [e] at w; exact w.elim
  | ok r =>
    rw [e] at w
    obtain ⟨h1,rfl⟩:=oB rx ry e
    exact ⟨h1,WG.now (a:=D.bl (!isV x y)) w s _ cN⟩
theorem vX (ha:FE X F a ga) (hb:FE X F b gb):FE X F (.Compare a [.Is] [b] pos) (eOp dIs ga gb):=qL rf rh ha hb
theorem oC (ha:FE X F a ga) (hb:FE X F b gb):FT X F (.Compare a [.Is] [b] pos) (gB (eOp dIs ga gb)):=jg rf rh ha hb
theorem lM (ha:FE X F a ga) (hb:FE X F b gb):FT X F (.Compare a [.IsNot] [b] pos) (gB (eOp dIsNot ga gb)):=jg pA pB ha hb
end
def cutD (xs:List D) (lo hi:Option Int):List D:=(xs.drop (HT.sIx xs.length 0 lo)).take (HT.sIx xs.length xs.length hi - HT.sIx xs.length 0 lo)
theorem Reps.cut {K:PySem.W.Frag} {C:Nat→Addr} {Z:Hp} {ds:List D} {vs:List V} (r:Reps K C Z ds vs) (lo hi:Option Int):Reps K C Z (cutD ds lo hi) (cutV vs lo hi):=by
  unfold cutD cutV
  rw [r.length]
  exact (r.drop _).take _
def dSl (d:D) (lo hi:Option Int):R D:=match d with
  | .lst xs=>.ok (.lst (cutD xs lo hi))
  | .tup xs=>if HT.sIx xs.length 0 lo=0∧HT.sIx xs.length xs.length hi=xs.length then .stuck else .ok (.tup (cutD xs lo hi))
  | _=>.stuck
def asI (d:D):R (Option Int):=match d with
  | .int i=>.ok (some i)
  | _=>.stuck
def pNo:SS→R (Option Int):=fun _=>.ok none
def pSo (g:SS→R D):SS→R (Option Int):=fun S=>(g S).bind asI
def tP (F:Fx) (g:SS→R (Option Int)):TO:=fun σ H Q=>∃ Z S,StOk F H Z S σ∧WG F H Z (g S) fun o H' _=>Q o H'
section
variable {X:Cx} {F:Fx} {e:Expr} {lo hi:Option Expr} {g:SS→R D} {l h:SS→R (Option Int)} {pos p2:Pos}
theorem ri:PO X none (tP F pNo):=fun pins s σ H Q I ⟨Z,S,ok,w⟩=>sL pins s σ H Q I (WG.now w ok.sub)
theorem dS (he:FE X F e g):PO X (some e) (tP F (pSo g)):=fun pins s σ H Q I ⟨Z,S,ok,w⟩=>sM he pins s σ H Q I (aU ok w fun d v H1 Z1 ok1 x1 rv w1=>by
  cases d with
  | int i=>rw [Rep] at rv; exact ⟨i,rv,WG.now (a:=some i) w1 ok1.sub⟩
  | _=>exact w1.elim)
theorem oE {α:Type} {σ:St} {H Z:Hp} {S:SS} {k:Option Int→R α} {P:α→Hp→Hp→Prop} {Q:Option Int→Hp→Prop} (ok:StOk F H Z S σ) (w:WG F H Z ((l S).bind k) P)
    (h:∀ o H1 Z1,StOk F H1 Z1 S σ→Ex H Z H1 Z1→WG F H1 Z1 (k o) P→Q o H1):tP F l σ H Q:=by
  refine ⟨Z,S,ok,?_⟩
  cases e:l S with
  | ok d =>
    rw [e] at w
    intro H1 Z1 x
    exact h d H1 Z1 (ok.more x) x (WG.more (r:=k d) w x)
  | err k=>rw [e] at w; exact w
  | stuck=>rw [e] at w; exact w
end
def CallD (F:Fx) (r:List V→Hp→VK→Prop) (f:List D→R D):Prop:=∀ (H Z:Hp) (xs:List V) (ds:List D) (Q:VK),Same Z H→Reps F.K F.C Z ds xs→WG F H Z (f ds) (fun d H' Z'=>∀ v,Rep F.K F.C Z' d v→Q v H')→r xs H Q
section
variable {X:Cx} {F:Fx} {x:Str} {p pos:Pos} {e:Expr} {es:List Expr} {gs:SS→R (List D)} {id T:String} {r:List V→Hp→VK→Prop} {f:List D→R D}
theorem rj (hd:CallD F r f):∀ σ H Q,tE F (eCall f gs) σ H Q→tCB r (tAl F gs) σ H Q:=fun σ H Q ⟨Z,S,ok,w⟩=>bH ok w fun ds vs H1 Z1 ok1 x1 rs w1=>hd H1 Z1 vs ds Q ok1.sub rs w1
theorem jn (hc:CallR X (.builtin id) r) (hd:CallD F r f) (hg:Gl X x) (hm:X.mg x=none) (hv:bootBuiltins x=some (.builtin id)) (ha:FA X F (e::es) gs) (hn:x ≠ "__name__" := by decide) (hdb:(x==("__debug__":Str))=false:=by decide)
    (he:starEach (e::es) X.env=(false,eval e X.env)::starEach es X.env:=by rfl) (hpl:(backTo pos (starEach es X.env)).any (·.1)=false:=by rfl):FE X F (.Call (.Name x p) (e::es) [] pos) (eCall f gs):=(jb hc hg hm hv ha hn hdb he hpl).weak (rj hd)
theorem pC (hc:CallR X (.type T) r) (hd:CallD F r f) (hg:Gl X x) (hm:X.mg x=none) (hv:bootBuiltins x=some (.type T)) (ha:FA X F (e::es) gs) (hn:x ≠ "__name__" := by decide) (hdb:(x==("__debug__":Str))=false:=by decide)
    (he:starEach (e::es) X.env=(false,eval e X.env)::starEach es X.env:=by rfl) (hpl:(backTo pos (starEach es X.env)).any (·.1)=false:=by rfl):FE X F (.Call (.Name x p) (e::es) [] pos) (eCall f gs):=(kv hc hg hm hv ha hn hdb he hpl).weak (rj hd)
end
theorem cO {K:PySem.W.Frag} {C:Nat→Addr} {Z:Hp} {d:D} {vs:List V} (r:Reps K C Z [d] vs):∃ v,vs=[v]∧Rep K C Z d v:=by
  rw [Reps] at r
  obtain ⟨v,r',rfl,h1,h2⟩:=r
  rw [Reps] at h2
  exact ⟨v,by rw [h2],h1⟩
def dLen:List D→R D
  | [.lst xs]=>.ok (.int xs.length)
  | [.tup xs]=>.ok (.int xs.length)
  | _=>.stuck
theorem pE {F:Fx}:CallD F (fun xs H Q=>∃ p ys,xs=[.ref p]∧(SqL F.K H p ys∨SqT F.K H p ys)∧Q (.int ys.length) H) dLen:=by
  intro H Z xs ds Q s rs w
  unfold dLen at w
  split at w
  · obtain ⟨v,rfl,h⟩:=cO rs
    rw [Rep] at h
    obtain ⟨a,vs,rfl,h1,h2⟩:=h
    exact ⟨a,vs,rfl,.inl (s.seq h1),by rw [← h2.length]; exact WG.now w s _ bi⟩
  · obtain ⟨v,rfl,h⟩:=cO rs
    rw [Rep] at h
    obtain ⟨a,vs,rfl,h1,h2⟩:=h
    exact ⟨a,vs,rfl,.inr (h1.mono s),by rw [← h2.length]; exact WG.now w s _ bi⟩
  · exact w.elim
def dMax2:List D→R D
  | [.int i,.int j]=>.ok (.int (if j > i then j else i))
  | _=>.stuck
theorem nr {F:Fx}:CallD F (fun xs H Q=>∃ i j,xs=[.int i,.int j]∧Q (.int (if j > i then j else i)) H) dMax2:=by
  intro H Z xs ds Q s rs w
  unfold dMax2 at w
  split at w
  · exact ⟨_,_,qV rs,WG.now w s _ bi⟩
  · exact w.elim
def dTuple:List D→R D
  | [.lst xs]=>.ok (.tup xs)
  | [.tup xs]=>.ok (.tup xs)
  | _=>.stuck
theorem lN {F:Fx}:CallD F (fun xs H Q=>∃ p ys,xs=[.ref p]∧((SqL F.K H p ys∧∀ l,H l=none→Q (.ref l) (upd H l (.tup ys)))∨(SqT F.K H p ys∧Q (.ref p) H))) dTuple:=by
  intro H Z xs ds Q s rs w
  unfold dTuple at w
  split at w
  · obtain ⟨v,rfl,h⟩:=cO rs
    rw [Rep] at h
    obtain ⟨a,vs,rfl,h1,h2⟩:=h
    refine ⟨a,vs,rfl,.inl ⟨s.seq h1,fun p hp=>?_⟩⟩
    have z:Same Z (upd Z p (.tup vs)):=aK (s.free hp)
    exact w _ _ (Ex.alloc s hp) _ (by rw [Rep]; exact ⟨p,_,rfl,SqT.of ar,h2.mono z⟩)
  · obtain ⟨v,rfl,h⟩:=cO rs
    have hh:=h
    rw [Rep] at h
    obtain ⟨a,vs,rfl,h1,h2⟩:=h
    exact ⟨a,vs,rfl,.inr ⟨h1.mono s,WG.now w s _ hh⟩⟩
  · exact w.elim
def boolsD:List D→Option (List Bool)
  | []=>some []
  | .bl b::r=>(boolsD r).map (b::·)
  | _::_=>none
theorem e7 {K:PySem.W.Frag} {C:Nat→Addr} {Z:Hp}:∀ {ds:List D} {vs:List V} {bs:List Bool},Reps K C Z ds vs→boolsD ds=some bs→vs=bs.map V.bl
  | [],vs,bs,r,e=>by rw [Reps] at r; cases e; exact r
  | d::ds,vs,bs,r,e=>by
    rw [Reps] at r
    obtain ⟨v,r',rfl,h1,h2⟩:=r
    cases d with
    | bl b =>
      rw [boolsD] at e
      cases q:boolsD ds with
      | none=>rw [q] at e; cases e
      | some bs' =>
        rw [q] at e
        cases e
        rw [Rep] at h1
        rw [h1,e7 h2 q]
        rfl
    | _=>simp [boolsD] at e
def dAll:List D→R D
  | [.lst xs]=>match boolsD xs with
    | some bs=>.ok (.bl (bs.all id))
    | none=>.stuck
  | _=>.stuck
theorem e8:∀ {bs:List Bool} {us:List Value},Vals (bs.map V.bl) us→us=bs.map Value.bool
  | [],us,h=>by rw [List.map_nil] at h; cases h; rfl
  | b::bs,us,h=>by
    rw [List.map_cons] at h
    cases h with
    | cons r t =>
      have r':_=Value.bool b:=r
      rw [r',e8 t]
      rfl
theorem jo {X:Cx} (hc:X.calm=true):CallR X (.builtin "all") (fun xs H Q=>∃ (p:Addr) (bs:List Bool),xs=[.ref p]∧SqL X.K H p (bs.map V.bl)∧Q (.bl (bs.all id)) H):=by
  intro pins s σ H xs us Q I r h
  obtain ⟨p,bs,rfl,hq,q⟩:=h
  obtain ⟨u,rfl,ru⟩:=vals1 r
  cases ru
  obtain ⟨its,rv,pl,hz⟩:=I.list hq
  have e:=e8 rv
  subst e
  have hlt:p < s.heap.objs.size:=by obtain ⟨o,_,ho,_⟩:=pl; exact Heap.lt_size ho
  refine call_all_walk (wpAny_pyIter_list pl.isList ⟨s.heap.objs.size,_,_,_,_,_,fun i=>bs.getD i false,rfl,Walks.list (show X.A.in1.handled=none from I.ok.hd hc) s.heap.objs.size p (Nat.ne_of_lt hlt) (bs.map Value.bool).toArray,⟨⟨_,Heap.get?_push_size _ rfl,rfl,rfl⟩,?_⟩,?_,fun h' tk hk=>?_⟩)
  · obtain ⟨o,ho,h2,n,h3⟩:=pl.isList
    exact ⟨o,Heap.get?_push_of_some _ ho,h2,n,h3⟩
  · intro i v s' Q' E' hp hq'
    have hp':bs[i]?.map Value.bool=some v:=by simpa using hp
    cases e:bs[i]? with
    | none=>rw [e] at hp'; cases hp'
    | some b =>
      rw [e] at hp'
      cases hp'
      refine wpAny_truthy_bool ?_
      have:bs.getD i false=b:=by simp [List.getD,e]
      have hq2:Q' (bs.getD i false) s':=hq'
      rw [this] at hq2
      exact hq2
  · have hall:(List.range (bs.map Value.bool).toArray.size).all (fun i=>bs.getD i false)=bs.all id:=by
      rw [List.size_toArray,List.length_map]
      rw [Bool.eq_iff_iff,List.all_eq_true,List.all_eq_true]
      constructor
      · intro h b hb
        obtain ⟨i,hi,rfl⟩:=List.mem_iff_getElem.mp hb
        have:=h i (List.mem_range.mpr hi)
        simpa [List.getD,hi] using this
      · intro h i hi
        have hi':=List.mem_range.mp hi
        have:=h bs[i] (List.getElem_mem hi')
        simpa [List.getD,hi'] using this
    rw [hall]
    exact ⟨.bl (bs.all id),H,I.kept fun b o e=>hk b o (by simp; exact Nat.ne_of_lt (Heap.lt_size e)) (Heap.get?_push_of_some _ e),rfl,q⟩
theorem pF {F:Fx}:CallD F (fun xs H Q=>∃ (p:Addr) (bs:List Bool),xs=[.ref p]∧SqL F.K H p (bs.map V.bl)∧Q (.bl (bs.all id)) H) dAll:=by
  intro H Z xs ds Q s rs w
  unfold dAll at w
  split at w
  · split at w
    · rename_i bs e
      obtain ⟨v,rfl,h⟩:=cO rs
      rw [Rep] at h
      obtain ⟨a,vs,rfl,h1,h2⟩:=h
      have e2:=e7 h2 e
      subst e2
      exact ⟨a,bs,rfl,s.seq h1,WG.now w s _ cN⟩
    · exact w.elim
  · exact w.elim
section
variable {X:Cx} {F:Fx} {p pos:Pos} {e:Expr} {es:List Expr} {gs:SS→R (List D)} {k:Nat}
theorem cp (bx:BX X F k) (hg:Gl X "len") (hm:X.mg "len"=none) (ha:FA X F [e] gs) (he:starEach [e] X.env=(false,eval e X.env)::starEach [] X.env:=by rfl) (hpl:(backTo pos (starEach [] X.env)).any (·.1)=false:=by rfl):FE X F (.Call (.Name "len" p) [e] [] pos) (eCall dLen gs) :=
  jn (by have:=kT (X:=X); rw [bx.K] at this; exact this) pE hg hm PySem.boot_len ha (he:=he) (hpl:=hpl)
theorem tu {e2:Expr} (bx:BX X F k) (hg:Gl X "max") (hm:X.mg "max"=none) (ha:FA X F [e,e2] gs) (he:starEach [e,e2] X.env=(false,eval e X.env)::starEach [e2] X.env:=by rfl) (hpl:(backTo pos (starEach [e2] X.env)).any (·.1)=false:=by rfl) :
    FE X F (.Call (.Name "max" p) [e,e2] [] pos) (eCall dMax2 gs):=jn (o4 bx.calm) nr hg hm (by decide +kernel) ha (he:=he) (hpl:=hpl)
theorem bj (bx:BX X F k) (hg:Gl X "tuple") (hm:X.mg "tuple"=none) (ha:FA X F [e] gs) (he:starEach [e] X.env=(false,eval e X.env)::starEach [] X.env:=by rfl) (hpl:(backTo pos (starEach [] X.env)).any (·.1)=false:=by rfl):FE X F (.Call (.Name "tuple" p) [e] [] pos) (eCall dTuple gs) :=
  pC (by have:=j3 (X:=X); rw [bx.K] at this; exact this) lN hg hm (by decide +kernel) ha (he:=he) (hpl:=hpl)
theorem vj (bx:BX X F k) (hg:Gl X "all") (hm:X.mg "all"=none) (ha:FA X F [e] gs) (he:starEach [e] X.env=(false,eval e X.env)::starEach [] X.env:=by rfl) (hpl:(backTo pos (starEach [] X.env)).any (·.1)=false:=by rfl):FE X F (.Call (.Name "all" p) [e] [] pos) (eCall dAll gs) :=
  jn (id := "all") (by have:=jo (X:=X) bx.calm; rw [bx.K] at this; exact this) pF hg hm (by decide +kernel) ha (he:=he) (hpl:=hpl)
end
end FF
end
noncomputable section
set_option Elab.async false
set_option linter.all false
set_option maxRecDepth 100000
namespace FF
open PySem PySem.Spec PySem.Calls PyProof.Rows PySem.W
def ExcAt (a C:Addr) (h:Heap):Prop:=∃ o,h.get? a=some o∧o.cls=.ref C∧∃ vs,o.data=.fields vs
structure ExcK (K:Frag) (C:Addr):Prop where
  ga:findIn K (.ref C) "__getattribute__"=some (some (.builtin "BaseException.__getattribute__"))
  gt:findIn K (.ref C) "__getattr__"=some none
  cl:findIn K (.ref C) "__class__"=some (some (.builtin "object.__class__"))
  be:subIn K (.ref C) (.type "BaseException")=some true
  ob:subIn K (.ref C) (.type "object")=some true
  ty:(clsIn K C).isSome=true
section
variable {prog:Program} {w:World} {A:Around} {E:Value→Shared→Prop} {h:Heap} {g:Array GenState} {d:Drawn} {t:Nat} {os:OsState} {a C:Addr} {K:Frag} {o:Obj} {vs:Array Value}
theorem nt {M:Model} (p:ExcAt a C h):Looks M h (typeOf (.ref a)) (.ref C):=by
  obtain ⟨o,h1,h2,h3⟩:=p
  exact h2 ▸ (Looks.ld h1).andThen .now
theorem nv {M:Model} (X:K.In h) (k:ExcK K C):Looks M h (isType (.ref C)) true:=by
  have z:=k.ty
  unfold clsIn at z
  split at z
  · rename_i c' d' cd' sl' ho
    intro A' Q' E' s' kk q
    unfold isType loadHead
    exact wpAny_bind (wpAny_loadPart (kk _ _ (X _ _ ho)) (wpAny_pure q))
  · cases z
theorem j8 {R:Result→Shared→Prop} (X:K.In h) (k:ExcK K C) (hx:h.get? a=some o) (hc:o.cls=.ref C) (hq:R (.ok (.ret (.ref C))) ⟨h,g,d,t,os⟩) :
    codeAny (model prog w) A (.call (.builtin "getset_descriptor.__get__") ⟨[.builtin "object.__class__",.ref a,.ref C],[]⟩) R ⟨h,g,d,t,os⟩:=by
  have hT5:(⟨h,g,d,t,os⟩:Shared).TypeIs (.builtin "object.__class__") "getset_descriptor" := F.typeOf_object_class
  have L8:Looks (model prog w) h (isSubtype (.ref C) (.type (".".intercalate ("object.__class__".cutAt '.').dropLast))) true:=by
    rw [F.owner_object_class]; exact looks_subIn X k.ob
  refine codeAny_call_builtin F.slot_gs_get.plain F.entry_gs_get (F.slot_gs_get.check _ _ _ _ _ _ _ _ hT5 (F.args_gs_get _ _ _) ?_)
  repeat (any_goals (first | assumption | (with_reducible refine wpAny_loadPart_at hx ?_; rw [hc]) | (with_reducible refine L8.at ?_) | wp_step))
  refine ⟨Code.quiet_builtin _ (by decide +kernel),codeAny_builtin F.entry_object_class ?_⟩
  repeat (any_goals (first | assumption | (with_reducible refine wpAny_loadPart_at hx ?_; rw [hc]) | wp_step))
theorem iO {tk:Tok} {Q:Fin→Shared→Prop} (X:K.In h) (k:ExcK K C) (hx:h.get? a=some o) (hc:o.cls=.ref C) (hq:Q (.done (.ret (.ref C))) ⟨h,g,d,t,os⟩) :
    wpAny (model prog w) A (Builtin.«object.__getattribute__» ⟨[.ref a,.str "__class__" tk],[]⟩) Q E ⟨h,g,d,t,os⟩:=by
  have hT5:(⟨h,g,d,t,os⟩:Shared).TypeIs (.builtin "object.__class__") "getset_descriptor" := F.typeOf_object_class
  have f5:=F.typeOf_object_class
  have f6:=F.slot_gs_get.lookup
  have f7:=F.slot_gs_set.lookup
  have L4:Looks (model prog w) h (typeLookup (.ref C) "__class__") _:=looks_findIn X k.cl
  repeat (any_goals (first | assumption | (with_reducible refine wpAny_loadPart_at hx ?_; rw [hc]) | (with_reducible refine L4.at ?_) | wp_step))
  refine j8 X k hx hc ?_
  repeat (any_goals (first | assumption | wp_step))
theorem pG {M:Model} {nameV:Value} {Q:Unit→Shared→Prop} (X:K.In h) (k:ExcK K C) (hx:h.get? a=some o) (hc:o.cls=.ref C) (hq:Q () ⟨h,g,d,t,os⟩):wpAny M A (checkBuiltinCall "BaseException.__getattribute__" ⟨[.ref a,nameV],[]⟩) Q E ⟨h,g,d,t,os⟩:=by
  have hk:builtinKind "BaseException.__getattribute__"=some .slot:=by decide +kernel
  have hsplit:splitId "BaseException.__getattribute__"=some ("BaseException", "__getattribute__"):=by decide +kernel
  have L8:Looks M h (isSubtype (.ref C) (.type "BaseException")) true:=looks_subIn X k.be
  have ha:=F.args_bexc_ga (.ref a) nameV
  simp only [checkBuiltinCall,hk,hsplit]
  refine wpAny_bind ?_
  · unfold isInstance
    repeat (first | (with_reducible refine wpAny_loadPart_at hx ?_; rw [hc]) | (with_reducible refine L8.at ?_) | wp_step)
    exact hq
theorem jp {tk:Tok} {R:Result→Shared→Prop} (X:K.In h) (k:ExcK K C) (hx:h.get? a=some o) (hc:o.cls=.ref C) (hq:R (.ok (.ret (.ref C))) ⟨h,g,d,t,os⟩) :
    codeAny (model prog w) A (.call (.builtin "BaseException.__getattribute__") ⟨[.ref a,.str "__class__" tk],[]⟩) R ⟨h,g,d,t,os⟩ :=
  codeAny_call_builtin F.attr_ValueError.ga.plain F.entry_bexc_ga (pG X k hx hc (iO X k hx hc hq))
theorem k7 {tk:Tok} {Q:Value→Shared→Prop} (X:K.In h) (k:ExcK K C) (hx:h.get? a=some o) (hc:o.cls=.ref C) (hq:Q (.ref C) ⟨h,g,d,t,os⟩) :
    wpAny (model prog w) A (getAttrBy (.ref a) (.str "__class__" tk) false) Q E ⟨h,g,d,t,os⟩:=by
  have f3:=F.attr_ValueError.ga.bind (.ref a)
  have L1:Looks (model prog w) h (typeLookup (.ref C) "__getattribute__") _:=looks_findIn X k.ga
  have L2:Looks (model prog w) h (typeLookup (.ref C) "__getattr__") _:=looks_findIn X k.gt
  have hx2:(Value.builtin "BaseException.__getattribute__" == Value.builtin "object.__getattribute__")=false:=by decide +kernel
  have hx1:(onTheHeap (Value.ref C)&&Value.builtin "BaseException.__getattribute__" == Value.builtin "object.__getattribute__")=false:=by rw [hx2]; rfl
  repeat (any_goals (first | assumption | (with_reducible refine wpAny_loadPart_at hx ?_; rw [hc]) | (with_reducible refine L1.at ?_) | (with_reducible refine L2.at ?_) | wp_step))
  refine jp X k hx hc ?_
  repeat (any_goals (first | assumption | wp_step))
theorem jq {Q:Option Value→Shared→Prop} (X:K.In h) (k:ExcK K C) (hx:h.get? a=some o) (hc:o.cls=.ref C) (hq:Q (some (.ref C)) ⟨h,g,d,t+1,os⟩) :
    wpAny (model prog w) A (getAttr? (.ref a) "__class__") Q E ⟨h,g,d,t,os⟩:=by
  unfold getAttr? getAttrBy?
  repeat (any_goals (first | assumption | with_reducible apply k7 X k hx hc | wp_step))
end
end FF
end
noncomputable section
set_option Elab.async false
set_option linter.all false
set_option maxRecDepth 100000
namespace FF
open PySem PySem.Spec PyProof.Rows L2
theorem rk {K:PySem.W.Frag} {a C:Addr} (k:ExcK K C):PySem.W.KitX K (.ref a) (.ref C) (ExcAt a C) where
  ty:=fun _ _ _ p=>nt p
  it:=fun _ _ X _=>nv X k
  ne:=fun h tp dd its n sl X htp=>by
    refine Bool.eq_false_iff.mpr fun q=>?_
    have e:C=tp:=Value.ref.inj (beq_iff_eq.mp q)
    subst e
    have z:=k.ty
    unfold PySem.W.clsIn at z
    split at z
    · rename_i c' d' cd' sl' ho
      have z:=(X _ _ ho).symm.trans htp
      cases z
    · cases z
  ca:=fun {_ _ _ _ _ s} X p h=>by
    obtain ⟨hh,g,d,t,os⟩:=s
    obtain ⟨o,h1,h2,_⟩:=p
    exact jq X k h1 h2 h
def tyD (C:Nat→Addr):D→Value
  | .non=>.type "NoneType"
  | .bl _=>.type "bool"
  | .int _=>.type "int"
  | .str _=>.type "str"
  | .tup _=>.type "tuple"
  | .lst _=>.type "list"
  | .exc k=>.ref (C k)
  | .fn _=>.none
def cV:V→Value
  | .ty n=>.type n
  | .ref a=>.ref a
  | _=>.none
theorem lO {X:Cx} {C:Nat→Addr}:CallR X (.builtin "isinstance") (fun xs H Q=>∃ (Z:Hp) (d:D) (x y:V) (b:Bool),xs=[x,y]∧Same Z H∧Rep X.K C Z d x∧((∃ n,y=.ty n)∨∃ a,y=.ref a) ∧
    PySem.W.kitOne X.K (tyD C d) (cV y)=some b∧(∀ j,d=.exc j→ExcK X.K (C j))∧(∀ j,d≠.fn j)∧Q (.bl b) H):=by
  intro pins s σ H xs us Q I r h
  obtain ⟨Z,d,x,y,b,rfl,sm,rp,hy,e,he,hf,q⟩:=h
  obtain ⟨u,c,rfl,ru,rc⟩:=vals2 r
  have hc:c=cV y:=by
    rcases hy with ⟨n,rfl⟩ | ⟨a,rfl⟩<;>exact rc
  subst hc
  have fin:∀ tk,EP X pins σ Q (.bool b) { s with toks:=tk }:=fun tk=>⟨.bl b,H,I.tok tk,rfl,q⟩
  cases d with
  | non=>rw [Rep] at rp; subst rp; cases (show u=Value.none from ru); exact PySem.W.kia_one PySem.W.kitx_none I.kIn True.intro e (fun z=>nomatch z) fin
  | bl k=>rw [Rep] at rp; subst rp; cases (show u=Value.bool k from ru); exact PySem.W.kia_one PySem.W.kitx_bool I.kIn True.intro e (fun z=>nomatch z) fin
  | int i=>rw [Rep] at rp; subst rp; obtain ⟨t,rfl⟩:=(show ∃ t,u=Value.int i t from ru); exact PySem.W.kia_one PySem.W.kitx_int I.kIn True.intro e (fun z=>nomatch z) fin
  | str i=>rw [Rep] at rp; subst rp; obtain ⟨t,rfl⟩:=(show ∃ t,u=Value.str i t from ru); exact PySem.W.kia_one PySem.W.kitx_str I.kIn True.intro e (fun z=>nomatch z) fin
  | tup ds =>
    rw [Rep] at rp
    obtain ⟨a,vs,rfl,h1,h2⟩:=rp
    cases (show u=Value.ref a from ru)
    obtain ⟨its,_,⟨o,p1,p2,_⟩,_⟩:=I.tuple (h1.mono sm)
    exact PySem.W.kia_one PySem.W.kitx_tuple I.kIn ⟨o,p1,p2⟩ e (fun z=>nomatch z) fin
  | lst ds =>
    rw [Rep] at rp
    obtain ⟨a,vs,rfl,h1,h2⟩:=rp
    cases (show u=Value.ref a from ru)
    obtain ⟨its,_,⟨o,n,p1,p2,_⟩,_⟩:=I.list (sm.seq h1)
    exact PySem.W.kia_one PySem.W.kitx_list I.kIn ⟨o,p1,p2⟩ e (fun z=>nomatch z) fin
  | fn k=>exact absurd rfl (hf k)
  | exc k =>
    rw [Rep] at rp
    obtain ⟨a,rfl,h1⟩:=rp
    cases (show u=Value.ref a from ru)
    obtain ⟨o,h2,h3,h5⟩:=(show ObjOk X.prog X.w H s.heap a (excO C k a) from I.hok a _ (sm a _ h1)).1
    exact PySem.W.kia_one (rk (he k rfl)) I.kIn ⟨o,h2,h3,h5⟩ e (fun z=>nomatch z) fin
def dIsA (q:D→Option Bool) (d:D):R D:=match q d with
  | some b=>.ok (.bl b)
  | none=>.stuck
def eIs (q:D→Option Bool) (g:SS→R D):SS→R D:=fun S=>(g S).bind (dIsA q)
structure IsA (K:PySem.W.Frag) (C:Nat→Addr) (y:V) (q:D→Option Bool):Prop where
  one:(∃ n,y=.ty n)∨∃ a,y=.ref a
  ans:∀ d b,q d=some b→PySem.W.kitOne K (tyD C d) (cV y)=some b
  exc:∀ j b,q (.exc j)=some b→ExcK K (C j)
  fn:∀ j,q (.fn j)=none
section
variable {X:Cx} {F:Fx} {p pos:Pos} {e ec:Expr} {g:SS→R D} {k:Nat} {y:V} {q:D→Option Bool}
theorem vk (bx:BX X F k) (hq:IsA F.K F.C y q):∀ σ H Q,tE F (eIs q g) σ H Q→tCB (fun xs H Q=>∃ (Z:Hp) (d:D) (x y:V) (b:Bool),xs=[x,y]∧Same Z H∧Rep X.K F.C Z d x∧((∃ n,y=.ty n)∨∃ a,y=.ref a) ∧
    PySem.W.kitOne X.K (tyD F.C d) (cV y)=some b∧(∀ j,d=.exc j→ExcK X.K (F.C j))∧(∀ j,d≠.fn j)∧Q (.bl b) H) (tCons (tE F g) (tCons (tC y) tNil)) σ H Q:=fun σ H Q ⟨Z,S,ok,w⟩ =>
  aU ok w fun d v H1 Z1 ok1 x1 rv w1=>by
    cases e:q d with
    | none=>unfold dIsA at w1; rw [e] at w1; exact w1.elim
    | some b =>
      unfold dIsA at w1
      rw [e] at w1
      refine ⟨Z1,d,v,y,b,rfl,ok1.sub,by rw [bx.K]; exact rv,hq.one,by rw [bx.K]; exact hq.ans d b e,fun j ej=>?_,fun j ej=>(by rw [ej,hq.fn j] at e; cases e),WG.now (a:=D.bl b) w1 ok1.sub _ cN⟩
      subst ej
      rw [bx.K]
      exact hq.exc j b e
theorem aj (bx:BX X F k) (hg:Gl X "isinstance") (hm:X.mg "isinstance"=none) (hq:IsA F.K F.C y q) (ha:FE X F e g) (hc:PE X ec (tC y)) (he:starEach [e,ec] X.env=(false,eval e X.env)::starEach [ec] X.env:=by rfl)
    (he2:starEach [ec] X.env=(false,eval ec X.env)::starEach [] X.env:=by rfl) (hpl:(backTo pos (starEach [ec] X.env)).any (·.1)=false:=by rfl) :
    FE X F (.Call (.Name "isinstance" p) [e,ec] [] pos) (eIs q g) :=
  (jb (id := "isinstance") lO hg hm (by decide +kernel) (i5 ha (i5 hc m7 he2) he) (he:=he) (hpl:=hpl)).weak (vk bx hq)
end
def qTup:D→Option Bool
  | .tup _=>some true
  | .exc _=>none
  | .fn _=>none
  | _=>some false
def qInt:D→Option Bool
  | .int _=>some true
  | .bl _=>some true
  | .exc _=>none
  | .fn _=>none
  | _=>some false
def qBool:D→Option Bool
  | .bl _=>some true
  | .exc _=>none
  | .fn _=>none
  | _=>some false
theorem bn {K:PySem.W.Frag} {C:Nat→Addr}:IsA K C (.ty "tuple") qTup:=⟨.inl ⟨_,rfl⟩,fun d b e=>by cases d<;>cases e<;>with_unfolding_all rfl,fun j b e=>(nomatch e),fun _=>rfl⟩
theorem gA {K:PySem.W.Frag} {C:Nat→Addr}:IsA K C (.ty "int") qInt:=⟨.inl ⟨_,rfl⟩,fun d b e=>by cases d<;>cases e<;>with_unfolding_all rfl,fun j b e=>(nomatch e),fun _=>rfl⟩
theorem eG {K:PySem.W.Frag} {C:Nat→Addr}:IsA K C (.ty "bool") qBool:=⟨.inl ⟨_,rfl⟩,fun d b e=>by cases d<;>cases e<;>with_unfolding_all rfl,fun j b e=>(nomatch e),fun _=>rfl⟩
end FF
end
noncomputable section
set_option Elab.async false
set_option linter.all false
set_option maxRecDepth 100000
namespace FF
open PySem PySem.Spec PyProof.Rows L2
def sOwn (i:Nat) (gs:SS→R (List D)):SS→O:=fun S=>rO ((gs S).bind fun ds=>if ds.length≤16777216 then .ok (.nx (S.set i (some (.own ds)))) else .stuck)
def sApp (i:Nat) (gs:SS→R (List D)):SS→O:=fun S=>match S[i]? with
  | some (some (.own ds))=>rO ((gs S).bind fun es=>match es with
    | [d]=>if ds.length < 16777216 then .ok (.nx (S.set i (some (.own (ds++[d]))))) else .stuck
    | _=>.stuck)
  | _=>.stuck
def sExt (i:Nat) (gs:SS→R (List D)):SS→O:=fun S=>match S[i]? with
  | some (some (.own ds))=>rO ((gs S).bind fun es=>match es with
    | [.lst xs]=>if ds.length+xs.length≤16777216 then .ok (.nx (S.set i (some (.own (ds++xs))))) else .stuck
    | [.tup xs]=>if ds.length+xs.length≤16777216 then .ok (.nx (S.set i (some (.own (ds++xs))))) else .stuck
    | _=>.stuck)
  | _=>.stuck
def rExt (K:PySem.W.Frag):V→List V→Hp→VK→Prop:=fun x vs H Q=>∃ l b xs zs,x=.ref l∧vs=[.ref b]∧H l=some (.lst xs)∧(SqL K H b zs∨SqT K H b zs)∧xs.length+zs.length≤sizeLine∧Q .non (upd H l (.lst (xs++zs)))
theorem vm {X:Cx}:MtR X "list.extend" (rExt X.K):=by
  intro pins s σ H x vs v us Q I rx rv h
  obtain ⟨l,b,xs,zs,rfl,rfl,hH,hB,hz,q⟩:=h
  cases rx
  obtain ⟨u,rfl,ru⟩:=rv.one
  cases ru
  obtain ⟨z,its,n,r,hl,e⟩:=I.lstM hH
  rcases hB with hB | hB
  · obtain ⟨its2,r2,⟨⟨c2,d2,dt2,sl2⟩,n2,e2,p2,p3,p4⟩,z2⟩:=I.list hB
    simp only at p2 p3 p4
    subst p2 p3 p4
    have hl2:=r2.length
    have hsz:its.toArray.size+its2.toArray.size≤sizeLine:=by rw [List.size_toArray,List.size_toArray]; omega
    refine call_meets F.slot_list_extend ⟨_,e,rfl⟩ F.entry_list_extend (F.args_list_extend_2 _ _) (ph l b its.toArray its2.toArray n n2 _ _ hsz) ⟨e,e2,?_⟩
    refine ⟨.non,_,I.lset (its':=its++its2) hH e (by simp) (r.append r2) ?_,rfl,q⟩
    rw [List.length_append]
    omega
  · obtain ⟨its2,r2,⟨⟨c2,d2,dt2,sl2⟩,e2,p2,n2,p3⟩,z2⟩:=I.tuple hB
    simp only at p2 p3
    subst p2 p3
    have hl2:=r2.length
    have hsz:its.toArray.size+its2.toArray.size≤sizeLine:=by rw [List.size_toArray,List.size_toArray]; omega
    refine call_meets F.slot_list_extend ⟨_,e,rfl⟩ F.entry_list_extend (F.args_list_extend_2 _ _) (pi l b its.toArray its2.toArray n n2 _ _ hsz) ⟨e,e2,?_⟩
    refine ⟨.non,_,I.lset (its':=its++its2) hH e (by simp) (r.append r2) ?_,rfl,q⟩
    rw [List.length_append]
    omega
section
variable {X:Cx} {F:Fx} {e:Expr} {es:List Expr} {gs:SS→R (List D)} {pos p0 apos cpos lpos:Pos} {x:Str}
theorem en (i:Nat) {pos':Pos} (hN:X.N.Nodup) (h:FA X F es gs) (hi:X.N[i]?=some x:=by rfl) (hx:Loc X.env.scope x:=by first | exact Or.inl rfl | exact Or.inr rfl)
    (hs:swapsWith (.List es lpos) (some (.Name x pos')) pos.line X.env=pure false:=by rfl) (hf:X.fn x=true∨X.env.scope.names.lookup x=some .local:=by first | exact .inl rfl | exact .inr rfl):FS X F (.Assign [.Name x pos'] (.List es lpos) pos) (sOwn i gs) :=
  (mX hN hi hx (qF h) hs hf).weak fun D σ H ⟨Z,S,ok,w⟩=>bH ok (WO.wg ok w) fun ds vs H1 Z1 ok1 x1 rs w1=>by
    split at w1
    · rename_i hl
      refine ⟨by rw [← rs.length,sizeLine_eq]; exact hl,fun p hp=>?_⟩
      have x2:Ex H1 Z1 (upd H1 p (.lst vs)) Z1:=Ex.hidden ok1.sub hp
      have w2:=WG.now w1 ok1.sub
      refine w2 _ _ Z1 (Same.refl _) ((ok1.more x2).setOwn (fun j _=>?_) ar (ok1.sub.free hp) (ok1.ex.same.free hp) rs)
      by_cases q:∃ es,S[j]?=some (some (.own es))
      · obtain ⟨es,q⟩:=q
        obtain ⟨a,ws,f1,f2,_⟩:=ok1.own j es q
        refine .inl fun z=>?_
        rw [f1] at z
        cases z
        rw [hp] at f2
        cases f2
      · exact .inr fun es z=>q ⟨es,z⟩
    · exact w1.elim
theorem fN (i:Nat) (ha:FA X F [e] gs) (hi:X.N[i]?=some x:=by rfl) (hv:Vis X.env.scope x:=by first | exact Or.inl rfl | exact Or.inr (Or.inl rfl) | exact Or.inr (Or.inr rfl)) (hd:(x==("__debug__":Str))=false:=by decide)
    (hcd:(x==("__classdict__":Str))=false:=by decide)
    (hbase:attributeBase (.Name x p0) "append" X.env (eval (.Name x p0) X.env)=eval (.Name x p0) X.env:=by rfl)
    (hfew:((backTo cpos (starEach [e] X.env)).all (fun x=>!x.1)&&(backToKw cpos (keywordEach [] X.env)).all (fun x=>x.1.isSome)
      && decide ([e].length+([]:List Keyword).length+(if ([]:List Keyword).isEmpty then 0 else 1) < 30))=true:=by rfl)
    (hline:(apos.endLine==cpos.line)=true:=by rfl) (hs:starEach [e] X.env=(false,eval e X.env)::starEach [] X.env:=by rfl) (hplain:(backTo cpos (starEach [] X.env)).any (·.1)=false:=by rfl)
    (hsw:swapsWith (.Call (.Attribute (.Name x p0) "append" apos) [e] [] cpos) none pos.line X.env=pure false:=by rfl) :
    FS X F (.Expr (.Call (.Attribute (.Name x p0) "append" apos) [e] [] cpos) pos) (sApp i gs) :=
  (kP (lE PySem.F.plainAttrs_list PySem.F.slot_list_append (by kernel_rfl) (kx (X:=X)) (ja hi hv hd hcd) ha hbase hfew hline hs hplain) hsw).weak fun D σ H ⟨Z,S,ok,w⟩=>by
    unfold sApp at w
    split at w
    · rename_i ds e0
      obtain ⟨a,vs,e1,e2,e3,e4,r⟩:=ok.own i ds e0
      refine ⟨.ref a,e1,.inl ⟨rfl,vs,SqL.of e2⟩,bH ok (WO.wg ok w) fun es' us H1 Z1 ok1 x1 rs w1=>?_⟩
      split at w1
      · rename_i d
        split at w1
        · rename_i hl
          obtain ⟨y,rfl,ry⟩:=cO rs
          have w2:=WG.now w1 ok1.sub
          refine ⟨a,vs,y,rfl,rfl,x1.same _ _ e2,by rw [← r.length,sizeLine_eq]; exact hl,?_⟩
          exact w2 σ _ Z1 (Same.refl _) (ok1.write e0 e1 ((r.mono x1.z).append (Reps.cons ry Reps.nil)))
        · exact w1.elim
      · exact w1.elim
    · exact w.elim
theorem cA (i:Nat) (bK:X.K=F.K) (ha:FA X F [e] gs) (hi:X.N[i]?=some x:=by rfl) (hv:Vis X.env.scope x:=by first | exact Or.inl rfl | exact Or.inr (Or.inl rfl) | exact Or.inr (Or.inr rfl)) (hd:(x==("__debug__":Str))=false:=by decide)
    (hcd:(x==("__classdict__":Str))=false:=by decide)
    (hbase:attributeBase (.Name x p0) "extend" X.env (eval (.Name x p0) X.env)=eval (.Name x p0) X.env:=by rfl)
    (hfew:((backTo cpos (starEach [e] X.env)).all (fun x=>!x.1)&&(backToKw cpos (keywordEach [] X.env)).all (fun x=>x.1.isSome)
      && decide ([e].length+([]:List Keyword).length+(if ([]:List Keyword).isEmpty then 0 else 1) < 30))=true:=by rfl)
    (hline:(apos.endLine==cpos.line)=true:=by rfl) (hs:starEach [e] X.env=(false,eval e X.env)::starEach [] X.env:=by rfl) (hplain:(backTo cpos (starEach [] X.env)).any (·.1)=false:=by rfl)
    (hsw:swapsWith (.Call (.Attribute (.Name x p0) "extend" apos) [e] [] cpos) none pos.line X.env=pure false:=by rfl) :
    FS X F (.Expr (.Call (.Attribute (.Name x p0) "extend" apos) [e] [] cpos) pos) (sExt i gs) :=
  (kP (lE PySem.F.plainAttrs_list PySem.F.slot_list_extend (by kernel_rfl) (vm (X:=X)) (ja hi hv hd hcd) ha hbase hfew hline hs hplain) hsw).weak fun D σ H ⟨Z,S,ok,w⟩=>by
    unfold sExt at w
    split at w
    · rename_i ds e0
      obtain ⟨a,vs,e1,e2,e3,e4,r⟩:=ok.own i ds e0
      refine ⟨.ref a,e1,.inl ⟨rfl,vs,SqL.of e2⟩,bH ok (WO.wg ok w) fun es' us H1 Z1 ok1 x1 rs w1=>?_⟩
      split at w1
      · rename_i xs
        split at w1
        · rename_i hl
          obtain ⟨y,rfl,ry⟩:=cO rs
          rw [Rep] at ry
          obtain ⟨b,zs,rfl,h1,h2⟩:=ry
          have w2:=WG.now w1 ok1.sub
          refine ⟨a,b,vs,zs,rfl,rfl,x1.same _ _ e2,.inl (by rw [bK]; exact ok1.sub.seq h1),by rw [← r.length,← h2.length,sizeLine_eq]; exact hl,?_⟩
          exact w2 σ _ Z1 (Same.refl _) (ok1.write e0 e1 ((r.mono x1.z).append h2))
        · exact w1.elim
      · rename_i xs
        split at w1
        · rename_i hl
          obtain ⟨y,rfl,ry⟩:=cO rs
          rw [Rep] at ry
          obtain ⟨b,zs,rfl,h1,h2⟩:=ry
          have w2:=WG.now w1 ok1.sub
          refine ⟨a,b,vs,zs,rfl,rfl,x1.same _ _ e2,.inr (by rw [bK]; exact h1.mono ok1.sub),by rw [← r.length,← h2.length,sizeLine_eq]; exact hl,?_⟩
          exact w2 σ _ Z1 (Same.refl _) (ok1.write e0 e1 ((r.mono x1.z).append h2))
        · exact w1.elim
      · exact w1.elim
    · exact w.elim
end
def dCount (xs es:List D):R D:=match es with
  | [.bl k]=>match boolsD xs with
    | some bs=>.ok (.int (bs.countP (· == k):Nat))
    | none=>.stuck
  | _=>.stuck
def dIndex (xs es:List D):R D:=match es with
  | [.bl k]=>match boolsD xs with
    | some bs=>if bs.idxOf k < bs.length then .ok (.int (bs.idxOf k:Nat)) else .stuck
    | none=>.stuck
  | _=>.stuck
def eMethL (f:List D→List D→R D) (g:SS→R D) (gs:SS→R (List D)):SS→R D:=fun S=>(g S).bind fun d=>match d with
  | .lst xs=>(gs S).bind fun es=>f xs es
  | _=>.stuck
def rCountB (K:PySem.W.Frag):V→List V→Hp→VK→Prop:=fun x vs H Q=>∃ (l:Addr) (bs:List Bool) (k:Bool),x=.ref l∧vs=[.bl k]∧SqL K H l (bs.map V.bl)∧Q (.int (bs.countP (· == k):Nat)) H
def rIndexB (K:PySem.W.Frag):V→List V→Hp→VK→Prop:=fun x vs H Q=>∃ (l:Addr) (bs:List Bool) (k:Bool),x=.ref l∧vs=[.bl k]∧SqL K H l (bs.map V.bl)∧bs.idxOf k < bs.length∧Q (.int (bs.idxOf k:Nat)) H
theorem jr {X:Cx} {pins:List (Addr×Obj)} {σ:St} {H:Hp} {s:Shared} (I:Inv X pins σ H s) {A:Around} (hu:A.units < cLine) (b k:Bool):SeqAt.EqAt A s (.bool b) (.bool k) (b==k) :=
  hI (K:=X.K) (C:=fun _=>0) (Z:=fun _=>none) rfl I (fun _ _ e=>nomatch e) 0 A (.bl b) (.bl k) (.bl b) (.bl k) _ _ rfl rfl cN cN rfl rfl (by omega)
def isB (k:Bool):Value→Bool
  | .bool b=>b==k
  | _=>false
theorem rl {X:Cx} {k:Nat} (hr:Room k X.A):MtR X "list.count" (rCountB X.K):=by
  intro pins s σ H x vs v us Q I rx rv h
  obtain ⟨l,bs,k,rfl,rfl,hH,q⟩:=h
  cases rx
  obtain ⟨u,rfl,ru⟩:=rv.one
  cases ru
  obtain ⟨its,r,⟨⟨c2,d2,dt2,sl2⟩,n2,e2,p2,p3,p4⟩,z2⟩:=I.list hH
  have e:=e8 r
  subst e
  simp only at p2 p3 p4
  subst p2 p3 p4
  refine call_meets F.slot_list_count ⟨_,e2,rfl⟩ F.entry_list_count (F.args_list_count_2 _ _) (SeqAt.list_countAt l _ n2 _ _ (.bool k) (isB k)) ⟨e2,fun y hy=>?_,?_⟩
  · have hy':y∈bs.map Value.bool:=by simpa using hy
    obtain ⟨b,_,rfl⟩:=List.mem_map.mp hy'
    exact jr I (by have:=hr.un; show X.A.units+1 < cLine; omega) b k
  · have hc:((bs.map Value.bool).toArray.toList.countP (isB k))=bs.countP (· == k):=by
      show (bs.map Value.bool).countP (isB k)=_
      rw [List.countP_map]
      rfl
    rw [hc]
    exact ⟨.int _,H,I.tok _,⟨_,rfl⟩,q⟩
theorem rm {X:Cx} {k:Nat} (hr:Room k X.A):MtR X "list.index" (rIndexB X.K):=by
  intro pins s σ H x vs v us Q I rx rv h
  obtain ⟨l,bs,k,rfl,rfl,hH,hj,q⟩:=h
  cases rx
  obtain ⟨u,rfl,ru⟩:=rv.one
  cases ru
  obtain ⟨its,r,⟨⟨c2,d2,dt2,sl2⟩,n2,e2,p2,p3,p4⟩,z2⟩:=I.list hH
  have e:=e8 r
  subst e
  simp only at p2 p3 p4
  subst p2 p3 p4
  rw [List.length_map,sizeLine_eq] at z2
  have hsz:bs.idxOf k < (bs.map Value.bool).toArray.size:=by rw [List.size_toArray,List.length_map]; exact hj
  have hat:∀ m (hm:m < (bs.map Value.bool).toArray.size) (hm':m < bs.length),isB k (bs.map Value.bool).toArray[m]=(bs[m]==k):=fun m hm hm'=>by simp [isB]
  refine call_meets F.slot_list_index ⟨_,e2,rfl⟩ F.entry_list_index (F.args_list_index_2 _ _) (SeqAt.list_indexAt l _ n2 _ _ (.bool k) (isB k) (bs.idxOf k) hsz (by omega) ?_ ?_) ⟨e2,fun y hy=>?_,⟨.int _,H,I.tok _,⟨_,rfl⟩,q⟩⟩
  · rw [hat _ _ hj]
    exact List.findIdx_getElem (w:=hj)
  · intro m hm hlt
    have hm':m < bs.length:=by omega
    rw [hat _ _ hm']
    exact Bool.eq_false_iff.mpr (by simpa using List.not_of_lt_findIdx hlt)
  · have hy':y∈bs.map Value.bool:=by simpa using hy
    obtain ⟨b,_,rfl⟩:=List.mem_map.mp hy'
    exact jr I (by have:=hr.un; show X.A.units+1 < cLine; omega) b k
section
variable {X:Cx} {F:Fx} {o e:Expr} {g:SS→R D} {gs:SS→R (List D)} {apos cpos:Pos} {k:Nat}
theorem rn {K:PySem.W.Frag} {C:Nat→Addr} {Z:Hp} {k:Bool} {vs:List V} (r:Reps K C Z [.bl k] vs):vs=[.bl k]:=by
  obtain ⟨v,rfl,h⟩:=cO r
  rw [Rep] at h
  rw [h]
def MethD (F:Fx) (r:V→List V→Hp→VK→Prop) (f:List D→List D→R D):Prop:=∀ (H Z:Hp) (a:Addr) (vs:List V) (xs:List D) (us:List V) (es:List D) (Q:VK),Same Z H→SqL F.K H a vs→Reps F.K F.C Z xs vs→Reps F.K F.C Z es us →
  WG F H Z (f xs es) (fun d H' Z'=>∀ v,Rep F.K F.C Z' d v→Q v H')→r (.ref a) us H Q
theorem lP:MethD F (rCountB F.K) dCount:=by
  intro H Z a vs xs us es Q s h1 h2 rs w
  unfold dCount at w
  split at w
  · rename_i k
    split at w
    · rename_i bs eb
      have e3:=e7 h2 eb
      subst e3
      exact ⟨a,bs,k,rfl,rn rs,h1,WG.now w s _ bi⟩
    · exact w.elim
  · exact w.elim
theorem lQ:MethD F (rIndexB F.K) dIndex:=by
  intro H Z a vs xs us es Q s h1 h2 rs w
  unfold dIndex at w
  split at w
  · rename_i k
    split at w
    · rename_i bs eb
      have e3:=e7 h2 eb
      subst e3
      split at w
      · rename_i hl
        exact ⟨a,bs,k,rfl,rn rs,h1,hl,WG.now w s _ bi⟩
      · exact w.elim
    · exact w.elim
  · exact w.elim
theorem ia {r:V→List V→Hp→VK→Prop} {f:List D→List D→R D} (hd:MethD F r f):∀ σ H Q,tE F (eMethL f g gs) σ H Q→tBM F.K "list" r (tE F g) (tAl F gs) σ H Q:=fun σ H Q ⟨Z,S,ok,w⟩=>aU ok w fun d v H1 Z1 ok1 x1 rv w1=>by
  cases d with
  | lst xs =>
    rw [Rep] at rv
    obtain ⟨a,vs,rfl,h1,h2⟩:=rv
    exact ⟨.inl ⟨rfl,vs,ok1.sub.seq h1⟩,bH ok1 w1 fun es us H2 Z2 ok2 x2 rs w2=>hd H2 Z2 a vs xs us es Q ok2.sub (ok2.sub.seq (x2.z.seq h1)) (h2.mono x2.z) rs w2⟩
  | _=>exact w1.elim
theorem ro (bx:BX X F k) (ho:FE X F o g) (ha:FA X F [e] gs)
    (hbase:attributeBase o "count" X.env (eval o X.env)=eval o X.env:=by rfl)
    (hfew:((backTo cpos (starEach [e] X.env)).all (fun x=>!x.1)&&(backToKw cpos (keywordEach [] X.env)).all (fun x=>x.1.isSome)
      && decide ([e].length+([]:List Keyword).length+(if ([]:List Keyword).isEmpty then 0 else 1) < 30))=true:=by rfl)
    (hline:(apos.endLine==cpos.line)=true:=by rfl) (hs:starEach [e] X.env=(false,eval e X.env)::starEach [] X.env:=by rfl) (hplain:(backTo cpos (starEach [] X.env)).any (·.1)=false:=by rfl) :
    FE X F (.Call (.Attribute o "count" apos) [e] [] cpos) (eMethL dCount g gs) :=
  (lE PySem.F.plainAttrs_list PySem.F.slot_list_count (by kernel_rfl) (rl bx.room) ho ha hbase hfew hline hs hplain).weak (by rw [bx.K]; exact ia lP)
theorem pH (bx:BX X F k) (ho:FE X F o g) (ha:FA X F [e] gs)
    (hbase:attributeBase o "index" X.env (eval o X.env)=eval o X.env:=by rfl)
    (hfew:((backTo cpos (starEach [e] X.env)).all (fun x=>!x.1)&&(backToKw cpos (keywordEach [] X.env)).all (fun x=>x.1.isSome)
      && decide ([e].length+([]:List Keyword).length+(if ([]:List Keyword).isEmpty then 0 else 1) < 30))=true:=by rfl)
    (hline:(apos.endLine==cpos.line)=true:=by rfl) (hs:starEach [e] X.env=(false,eval e X.env)::starEach [] X.env:=by rfl) (hplain:(backTo cpos (starEach [] X.env)).any (·.1)=false:=by rfl) :
    FE X F (.Call (.Attribute o "index" apos) [e] [] cpos) (eMethL dIndex g gs) :=
  (lE PySem.F.plainAttrs_list PySem.F.slot_list_index (by kernel_rfl) (rm bx.room) ho ha hbase hfew hline hs hplain).weak (by rw [bx.K]; exact ia lQ)
end
end FF
end
noncomputable section
set_option Elab.async false
set_option linter.all false
set_option maxRecDepth 100000
namespace FF
open PySem PySem.Spec PyProof.Rows L2
def MadeX (X:Cx) (F:Fx):Prop:=∀ (pins:List (Addr×Obj)) (σ:St) (H:Hp) (s:Shared) (h1:Heap) (ea C:Addr) (args:List Value),Inv X pins σ H s→Heap.MadeExcOf s.heap h1 ea (.ref C) args→F.E (.ref C) none H→X.xe (.ref ea) { s with heap:=h1 }
def bmVE:List Value:=[.type "ValueError",.type "Exception",.type "BaseException",.type "object"]
theorem oF {K:PySem.W.Frag} {h:Heap} {C:Addr} {bmB:List Value} {newId:String} (X:K.In h) (q:PySem.W.excIn K C bmB newId=true) :
    ∃ (bm:List Value) (N:Addr) (nm qn:Str) (bs:List Value) (hdct:Bool) (sn:List Str) (sub:List Value) (ab:Bool) (col:Option Bool) (dd:Option Addr) (k0 k1 k2 k3 k5:Option Value) (mN:Str→Option Value),
      h.get? C=some (excClassObj nm qn C N bs bm hdct sn sub ab col dd k0 k1 k2 k3 k5 newId)∧h.Ns N mN∧mN "__init__"=none∧OwnTail h bmB bm:=by
  unfold PySem.W.excIn at q
  split at q
  · rename_i dd cd sl ho
    split at q
    · rename_i C' bm k0 k1 k2 k3 n k5 hm hs
      simp only [Bool.and_eq_true,beq_iff_eq,Bool.not_eq_true'] at q
      obtain ⟨⟨⟨⟨⟨rfl,rfl⟩,hdel⟩,ht⟩,hok⟩,hni⟩:=q
      obtain ⟨nm,bs,mro,ns,qn,hd,sn,sub,ab,col,del⟩:=cd
      dsimp only at hm hdel hok hni
      subst hm hdel
      have hsl:sl = #[k0,k1,k2,k3,some (.builtin n),k5]:=by
        obtain ⟨l⟩:=sl
        simp only at hs
        rw [hs]
      subst hsl
      exact ⟨bm,ns,nm,qn,bs,hd,sn,sub,ab,col,dd,k0,k1,k2,k3,k5,_,X _ _ ho,.of_isNs (PySem.W.isNs_of_in X hok),PySem.W.nsMap_none_of_in X hok hni,PySem.W.tail_of_in X ht⟩
    · cases q
  · cases q
def sRaise (j:Nat) (gs:SS→R (List D)):SS→O:=fun S=>rO ((gs S).bind fun ds=>if ds.length≤1000 then .ok (.er j) else .stuck)
section
variable {X:Cx} {F:Fx} {e:Expr} {es:List Expr} {gs:SS→R (List D)} {pos np cpos:Pos} {x:Str} {k j:Nat}
theorem js (j:Nat) (bx:BX X F k) (hmade:MadeX X F) (hg:Gl X x) (hm:X.mg x=some (.ref (F.C j))) (q:PySem.W.excIn F.K (F.C j) bmVE "ValueError.__new__"=true) (ha:FA X F (e::es) gs) (hd:(x==("__debug__":Str))=false:=by decide)
    (he:starEach (e::es) X.env=(false,eval e X.env)::starEach es X.env:=by rfl) (hpl:(backTo cpos (starEach es X.env)).any (·.1)=false:=by rfl) :
    FS X F (.Raise (some (.Call (.Name x np) (e::es) [] cpos)) none pos) (sRaise j gs):=by
  intro pins s σ H D I h
  obtain ⟨Z,S,ok,w⟩:=h
  have q':=q
  rw [← bx.K] at q'
  obtain ⟨bm,N,nm,qn,bs,hdct,sn,sub,ab,col,dd,k0,k1,k2,k3,k5,mN,hC0,hN0,hni0,T0⟩:=oF (bmB:=bmVE) I.ok.mod.kin q'
  have hb:∀ {pl σ' H' s'},Inv X pl σ' H' s'→∀ b o,X.base.get? b=some o→s'.heap.get? b=some o:=fun I'=>I'.bk
  refine wpAny_Raise_call_subU (C:=F.C j) (nm:=nm) (q:=qn) (N:=N) (bs:=bs) (bm:=bm) (hdct:=hdct) (sn:=sn) (sub:=sub) (ab:=ab) (col:=col) (dd:=dd) (k0:=k0) (k1:=k1) (k2:=k2) (k3:=k3) (k5:=k5) PySem.F.excBase_ValueError (by decide) PySem.F.excBase_ValueError (T0.hasType PySem.F.excBase_ValueError.hasBase) (I.ok.hd bx.calm) (by rw [he]; show (false||(backTo cpos (starEach es X.env)).any (·.1))=false; rw [hpl]; rfl) hni0 (iZ I hg hm ⟨rfl,?_⟩ hd)
  have hA:=ha cpos pins s σ H (fun vs H1=>vs.length≤1000∧F.E (.ref (F.C j)) none H1) I (bH ok (WO.wg ok w) fun ds vs H1 Z1 ok1 x1 rs w1=>by
    split at w1
    · rename_i hl
      exact ⟨by rw [← rs.length]; exact hl,WG.now w1 ok1.sub H1 ok1.ex.same⟩
    · exact w1.elim)
  rw [he] at hA ⊢
  refine Calls.evalArgs_plain (thn hA fun us s2 ⟨vs,H2,I2,r2,q2⟩=>⟨rfl,?_,hb I2 _ _ hC0,hN0.keeps (hb I2),T0.keeps (hb I2),fun h' e hm'=>hmade pins σ H2 s2 h' e _ us I2 hm' q2.2⟩)
  rw [← r2.length,sizeLine_eq]
  omega
end
end FF
end
noncomputable section
set_option Elab.async false
set_option linter.all false
set_option maxRecDepth 100000
namespace FF
open PySem PySem.Spec PyProof.Rows L2
section
variable {X:Cx} {pins:List (Addr×Obj)} {σ:St} {H:Hp} {s:Shared}
theorem jt (I:Inv X pins σ H s) {A:Around} {calm:Bool} {pn pins':List (Addr×Obj)} {xe:Value→Shared→Prop} (hf:A.frames=X.A.frames) (hc:calm=true→A.handled=none) (hp:∀ p∈pn++pins',p∈X.pn++pins) :
    Inv { X with A:=A,calm:=calm,pn:=pn,xe:=xe } pins' σ H s :=
  ⟨⟨I.ok.mod,I.ok.kind,I.ok.glob,I.ok.blt,I.ok.above,I.ok.inj,I.ok.has,I.ok.cab,hc,hf.trans I.ok.frames,I.ok.stk,I.ok.exf,I.ok.bs,I.ok.bsz,I.ok.noex,I.ok.exfs,I.ok.funs,I.ok.frf⟩,I.os,I.bare,I.base,I.loc,I.cell,I.free,I.freeC,
    fun p hpp=>I.pin p (hp p hpp),I.hok,I.len⟩
theorem pI (I:Inv X pins σ H s) {a:Addr} {o:HO} (hn:H a=none) (h0:X.s₀.heap.get? a=none) (hl:a≠X.env.locals) (hc:∀ x c,X.env.cells.lookup x=some c→c≠a) (hp:∀ p∈X.pn++pins,p.1≠a)
    (ho:ObjOk X.prog X.w (upd H a o) s.heap a o):Inv X pins σ (upd H a o) s:=by
  have nn:∀ {b:Addr} {u:HO},H b=some u→upd H a o b=some u:=fun {b u} e=>by rw [aq (cr e hn)]; exact e
  refine ⟨I.ok,I.os,I.bare,⟨I.base.keep,I.base.slot,fun b ob e n hx=>?_,I.base.there,fun b xs e=>nn (I.base.tups b xs e),fun b o' u e=>nn (I.base.frzs b o' u e),fun b ps e=>?_⟩,I.loc,I.cell,?_,fun x c e=>?_,fun p h=>?_,fun b u e=>?_,I.len⟩
  · rw [aq (by rintro rfl; rw [h0] at e; cases e)]
    exact I.base.free b ob e n hx
  · obtain ⟨more,q⟩:=I.base.tbls b ps e
    exact ⟨more,nn q⟩
  · rw [aq (Ne.symm hl)]; exact I.free
  · rw [aq (hc x c e)]; exact I.freeC x c e
  · obtain ⟨a1,a2,a3⟩:=I.pin p h
    exact ⟨a1,by rw [aq (hp p h)]; exact a2,a3⟩
  · by_cases q:b=a
    · subst q
      rw [ar] at e
      cases e
      exact ho
    · rw [aq q] at e
      exact (I.hok b u e).stay (fun _ _ _ z=>z) (fun c z=>nn z) fun c xs z=>nn z
theorem pJ {M:Model} {A:Around} {E:Value→Shared→Prop} {i:Nat} {n:Str} {v:V} {Q:Unit→Shared→Prop} (I:Inv X pins σ H s) (hN:X.N.Nodup) (hi:X.N[i]?=some n) (hk:X.env.kindOf n=some .local) (hs:X.env.scope.names.lookup n=some .local) (hv:σ[i]?=some (some v))
    (h:∀ s',Inv X pins (σ.set i none) H s'→Q () s'):wpAny M A (unbindName X.env n) Q E s:=by
  obtain ⟨m,hn,hl⟩:=id I.loc
  have hcls:(X.env.scope.kind==.class||(X.env.scope.kind==.module&&X.env.locals != X.env.globals))=false:=by rw [I.ok.kind]; rfl
  obtain ⟨u,ru,lk⟩:=hl i n v hi hv (.inl hs)
  have hm:m n=some u:=by
    rcases lk with ⟨_,e⟩ | ⟨z,_⟩
    · exact e
    · rw [hk] at z; rcases z with z | z<;>cases z
  have cne:=I.cne
  have hiσ:i < σ.length:=(List.getElem?_eq_some_iff.mp hv).1
  refine wpAny_unbindName_local hk hn hm hcls fun h' u' hn' hs'=>?_
  obtain ⟨oL,_,_,hoL,_⟩:=id hn
  have nl:∀ b o,X.s₀.heap.get? b=some o→b≠X.env.locals:=fun b o e=>Nat.ne_of_lt (Nat.lt_of_lt_of_le (Heap.lt_size e) I.ok.above)
  refine h _ ⟨I.ok,I.os,I.bare,⟨fun b o e nn hb hx=>(hs'.2 b (nl b o e)).trans (I.base.keep b o e nn hb hx),fun b o e nn hb hx=>?_,I.base.free,fun b o e hx=>?_,I.base.tups,I.base.frzs,I.base.tbls⟩,⟨_,hn',fun j y v' e1 e2 e3=>?_⟩,fun y c e=>?_,I.free,I.freeC,fun p hp=>?_,fun b ob e=>?_,by simpa using I.len⟩
  · obtain ⟨sl,e1⟩:=I.base.slot b o e nn hb hx
    exact ⟨sl,(hs'.2 b (nl b o e)).trans e1⟩
  · obtain ⟨o',e1⟩:=I.base.there b o e hx
    exact ⟨o',(hs'.2 b (nl b o e)).trans e1⟩
  · have hj:j≠i:=fun q=>by
      subst q
      rw [List.getElem?_set_self hiσ] at e2
      cases e2
    rw [List.getElem?_set_ne (Ne.symm hj)] at e2
    obtain ⟨u2,r2,q⟩:=hl j y v' e1 e2 e3
    refine ⟨u2,r2,?_⟩
    rcases q with ⟨k,e⟩ | ⟨k,c,e,z⟩
    · refine .inl ⟨k,?_⟩
      have:y≠n:=fun e=>hj (i9 hN e1 (e ▸ hi))
      simp [this,e]
    · exact .inr ⟨k,c,e,z.sameBut hs' (cne y c e)⟩
  · obtain ⟨w',z⟩:=I.cell y c e
    exact ⟨w',z.sameBut hs' (cne y c e)⟩
  · obtain ⟨e,nn,ne,nf,d⟩:=I.pin p hp
    exact ⟨(hs'.2 p.1 ne).trans e,nn,ne,nf,d⟩
  · refine (I.hok b ob e).stay (fun c w' hc q=>(hs'.2 c ?_).trans q) (fun _ q=>q) fun _ _ q=>q
    rintro rfl
    rcases hc with z | z
    · subst z; rw [I.free] at e; cases e
    · rw [I.free] at z; cases z
end
structure Takes (K:PySem.W.Frag) (C:Nat→Addr) (C0:Addr) (q:Nat→Bool):Prop where
  exc:PySem.W.excIn K C0 bmVE "ValueError.__new__"=true
  sub:∀ k,q k=true→PySem.W.subIn K (.ref (C k)) (.ref C0)=some true
theorem lR {K:PySem.W.Frag} {C:Nat→Addr} {C0:Addr} {q:Nat→Bool} (T:Takes K C C0 q) {M:Model} {A:Around} {E:Value→Shared→Prop} {h:Heap} {g:Array GenState} {d:Drawn} {t:Nat} {os:OsState} {e:Addr} {oe:Obj} {k:Nat} {Q:Bool→Shared→Prop}
    (X:K.In h) (he:h.get? e=some oe) (hc:oe.cls=.ref (C k)) (hk:q k=true) (hq:Q true ⟨h,g,d,t,os⟩):wpAny M A (excMatches (.ref e) (.ref C0)) Q E ⟨h,g,d,t,os⟩:=by
  obtain ⟨bm,N,nm,qn,bs,hdct,sn,sub,ab,col,dd,k0,k1,k2,k3,k5,mN,hC,hN,hni,TL⟩:=oF X T.exc
  have hcB:(Value.ref C0::bm).contains (.type "BaseException")=true:=by rw [List.contains_cons,TL.hasType (show bmVE.contains (.type "BaseException")=true by decide),Bool.or_true]
  have L3:=PySem.W.looks_subIn (M:=M) X (T.sub k hk)
  have f:=tc_notTuple
  unfold excMatches
  repeat (first | (with_reducible refine wpAny_loadPart_at he ?_; rw [hc]) | with_reducible refine wpAny_loadPart_at hC ?_ | (with_reducible refine wpAny_isSubtype_exc hC ?_; rw [hcB]) | (with_reducible refine L3.at ?_) | wp_step)
  exact hq
def blankS (S:SS):SS:=List.replicate S.length none
abbrev tryX (X:Cx) (pn:List (Addr×Obj)) (xe:Value→Shared→Prop):Cx:={ X with A:=X.A,calm:=X.calm,pn:=pn,xe:=xe }
def bothH (F:Fx) (Z:Hp):Hp:=fun b=>match F.H0 b with
  | some o=>some o
  | none=>Z b
section
variable {F:Fx} {H Z:Hp} {S:SS} {σ:St}
theorem both1:Same F.H0 (bothH F Z):=fun b o e=>by unfold bothH; rw [e]
theorem both2 (ok:StOk F H Z S σ):Same (bothH F Z) H:=fun b o e=>by
  unfold bothH at e
  split at e
  · rename_i o' q
    cases e
    exact ok.ex.same b _ q
  · exact ok.sub b o e
theorem both3 (ok:StOk F H Z S σ):Same Z (bothH F Z):=fun b o e=>by
  unfold bothH
  split
  · rename_i o' q
    have h1:=ok.ex.same b _ q
    have h2:=ok.sub b _ e
    rw [h1] at h2
    exact h2
  · exact e
theorem oG (ok:StOk F H Z S σ) {H' Z':Hp} (x:Ex (bothH F Z) Z H' Z'):Ex F.H0 F.Z0 H' Z':=by
  refine ⟨both1.trans x.same,ok.ex.z.trans x.z,x.sub,fun b h=>?_⟩
  rcases x.new b h with z | z
  · exact ok.ex.new b z
  · exact .inr (both1.free z)
theorem tw (ok:StOk F H Z S σ) {E:XK} {H' Z':Hp} {S':SS} {σ':St} (h:StOk ⟨F.K,F.C,bothH F Z,Z,E⟩ H' Z' S' σ'):StOk F H' Z' S' σ' :=
  ⟨oG ok h.ex,h.len,h.val,fun i ds e=>by
    obtain ⟨a,vs,e1,e2,e3,e4,r⟩:=h.own i ds e
    exact ⟨a,vs,e1,e2,e3,both1.free e4,r⟩,h.dis⟩
theorem tx (ok:StOk F H Z S σ) {E:XK}:StOk ⟨F.K,F.C,bothH F Z,Z,E⟩ H Z S σ :=
  ⟨⟨both2 ok,Same.refl _,ok.sub,fun b h=>.inl h⟩,ok.len,ok.val,fun i ds e=>by
    obtain ⟨a,vs,e1,e2,e3,e4,r⟩:=ok.own i ds e
    refine ⟨a,vs,e1,e2,e3,?_,r⟩
    show bothH F Z a=none
    unfold bothH
    rw [e4]
    exact e3,ok.dis⟩
theorem pK (ok:StOk F H Z S σ) {H':Hp} {j k:Nat} {ea:Addr} {σ':St} (hs:Same (bothH F Z) H') (hn:H' ea=none) (hl:S.length=σ'.length) (hv:j < σ'.length→σ'[j]?=some (some (.ref ea))) :
    ∃ Z',Same Z Z'∧StOk F (upd H' ea (excO F.C k ea)) Z' ((blankS S).set j (some (.val (.exc k)))) σ':=by
  have zn:Z ea=none:=(both3 ok).free (hs.free hn)
  have fn:F.H0 ea=none:=both1.free (hs.free hn)
  have one:∀ {i:Nat} {x:Sl},((blankS S).set j (some (.val (.exc k))))[i]?=some (some x)→i=j∧x=.val (.exc k)∧j < S.length:=fun {i x} e=>by
    have hlen:(blankS S).length=S.length:=by unfold blankS; simp
    by_cases q:j=i
    · subst q
      by_cases hj:j < S.length
      · rw [List.getElem?_set_self (by rw [hlen]; exact hj)] at e
        cases e
        exact ⟨rfl,rfl,hj⟩
      · rw [List.getElem?_eq_none (by simpa [hlen] using hj)] at e; cases e
    · rw [List.getElem?_set_ne q] at e
      unfold blankS at e
      rw [List.getElem?_replicate] at e
      split at e<;>cases e
  refine ⟨upd Z ea (excO F.C k ea),aK zn,⟨⟨(both1.trans hs).trans (aK hn),ok.ex.z.trans (aK zn),fun b o e=>?_,fun b h=>?_⟩,by simp [blankS,hl],fun i d e=>?_,fun i ds e=>?_,fun i1 i2 ds es a e1=>?_⟩⟩
  · by_cases q:b=ea
    · subst q; rw [ar] at e ⊢; exact e
    · rw [aq q] at e ⊢; exact hs b o (both3 ok b o e)
  · by_cases q:b=ea
    · subst q; exact .inr fn
    · rw [aq q] at h; exact ok.ex.new b h
  · obtain ⟨rfl,e2,hj⟩:=one e
    cases e2
    exact ⟨.ref ea,hv (by rw [← hl]; exact hj),by rw [Rep]; exact ⟨ea,rfl,ar⟩⟩
  · obtain ⟨_,e2,_⟩:=one e
    cases e2
  · obtain ⟨_,e2,_⟩:=one e1
    cases e2
end
section
variable {X:Cx} {F:Fx} {body:List Stmt} {g:SS→O} {c n y:Str} {np np2 kp apos hpos pos:Pos} {k:Nat} {q:Nat→Bool} {C0:Addr}
end
end FF
end
noncomputable section
set_option Elab.async false
set_option linter.all false
set_option maxRecDepth 100000
namespace FF
open PySem PySem.Spec PyProof.Rows L2
def eNeg (g:SS→R D):SS→R D:=fun S=>(g S).bind fun d=>match d with
  | .int i=>.ok (.int (-i))
  | _=>.stuck
section
variable {X:Cx} {F:Fx} {a:Expr} {g:SS→R D} {pos:Pos} {x:Str} {i:Int}
theorem vn (h:FE X F a g):FE X F (.UnaryOp .USub a pos) (eNeg g):=(vS u0 h).weak fun σ H Q ⟨Z,S,ok,w⟩=>aU ok w fun d v H1 Z1 ok1 x1 rv w1=>by
  cases d with
  | int i=>rw [Rep] at rv; exact ⟨i,rv,WG.now w1 ok1.sub _ bi⟩
  | _=>exact w1.elim
theorem oH (h:∃ t,X.mg x=some (.int i t)) (hg:Gl X x) (hd:(x==("__debug__":Str))=false:=by decide):FE X F (.Name x pos) (eC (.int i)):=by
  obtain ⟨t,e⟩:=h
  exact fM (cq (v:=.int i) hg e ⟨t,rfl⟩ hd) fun _=>bi
end
end FF
end
noncomputable section
set_option Elab.async false
set_option linter.all false
set_option maxRecDepth 100000
namespace FF
open PySem PySem.Spec PyProof.Rows L2
section
variable {X:Cx} {F:Fx} {e:Expr} {es:List Expr} {g:SS→R D} {gs:SS→R (List D)}
end
end FF
end
noncomputable section
set_option linter.all false
set_option maxRecDepth 100000
namespace FF
open PySem L2
def dSw (d:D) (lo hi:Option Int):R D:=match d with
  | .lst xs=>.ok (.lst (cutD xs lo hi))
  | .tup xs=>.ok (.tup (cutD xs lo hi))
  | _=>.stuck
def eSw (g:SS→R D) (l h:SS→R (Option Int)):SS→R D:=fun S=>(g S).bind fun d=>(l S).bind fun lo=>(h S).bind fun hi=>dSw d lo hi
def intsOf:List D→Option (List Int)
  | []=>some []
  | .int i::r=>(intsOf r).map (i::·)
  | _::_=>none
def sumI (is:List Int):Int:=is.foldl (· + ·) 0
def dSum:List D→R D
  | [.lst xs]=>match intsOf xs with
    | some is=>.ok (.int (sumI is))
    | none=>.stuck
  | _=>.stuck
def setAll:List Nat→List D→SS→SS
  | i::r,d::ds,S=>setAll r ds (S.set i (some (.val d)))
  | _,_,S=>S
def gTup (ix:List Nat):D→SS→R SS:=fun d S=>match d with
  | .tup ds=>if ds.length=ix.length then .ok (setAll ix ds S) else .stuck
  | _=>.stuck
def sAsg (g:D→SS→R SS) (e:SS→R D):SS→O:=fun S=>rO ((e S).bind fun d=>(g d S).bind fun S1=>.ok (.nx S1))
end FF
end
noncomputable section
set_option Elab.async false
set_option linter.all false
set_option maxRecDepth 100000
namespace FF
open PySem PySem.Spec PyProof.Rows L2
theorem gh {K:PySem.W.Frag} {C:Nat→Addr} {Z:Hp}:∀ {ds:List D} {vs:List V} {is:List Int},Reps K C Z ds vs→intsOf ds=some is→vs=is.map V.int
  | [],vs,is,r,e=>by rw [Reps] at r; cases e; exact r
  | d::ds,vs,is,r,e=>by
    rw [Reps] at r
    obtain ⟨v,r',rfl,h1,h2⟩:=r
    cases d with
    | int i =>
      rw [intsOf] at e
      cases q:intsOf ds with
      | none=>rw [q] at e; cases e
      | some is' =>
        rw [q] at e
        cases e
        rw [Rep] at h1
        rw [h1,gh h2 q]
        rfl
    | _=>simp [intsOf] at e
theorem dv:∀ {is:List Int} {us:List Value},Vals (is.map V.int) us→∃ ps:List (Int×Tok),us=ps.map (fun p=>Value.int p.1 p.2)∧ps.map (·.1)=is
  | [],us,h=>by rw [List.map_nil] at h; cases h; exact ⟨[],rfl,rfl⟩
  | i::is,us,h=>by
    rw [List.map_cons] at h
    cases h with
    | cons r t =>
      obtain ⟨tk,e⟩:=(show ∃ t,_=Value.int i t from r)
      obtain ⟨ps,e2,e3⟩:=dv t
      exact ⟨(i,tk)::ps,by rw [e,e2]; rfl,by rw [← e3]; rfl⟩
section
variable {X:Cx}
end
section
variable {X:Cx} {F:Fx} {p pos:Pos} {e:Expr} {gs:SS→R (List D)} {k:Nat}
end
theorem pL {X:Cx} {pins:List (Addr×Obj)} {σ:St} {H:Hp} {s:Shared} (I:Inv X pins σ H s) {A:Around} (hu:A.units < cLine) (b k:Int) (t t':Tok):SeqAt.EqAt A s (.int b t) (.int k t') (b==k) :=
  hI (K:=X.K) (C:=fun _=>0) (Z:=fun _=>none) rfl I (fun _ _ e=>nomatch e) 0 A (.int b) (.int k) (.int b) (.int k) _ _ rfl rfl bi bi ⟨t,rfl⟩ ⟨t',rfl⟩ (by omega)
def isI (k:Int):Value→Bool
  | .int b _=>b==k
  | _=>false
section
variable {X:Cx} {F:Fx} {o e:Expr} {g:SS→R D} {gs:SS→R (List D)} {apos cpos:Pos} {k:Nat}
theorem tz {K:PySem.W.Frag} {C:Nat→Addr} {Z:Hp} {k:Int} {vs:List V} (r:Reps K C Z [.int k] vs):vs=[.int k]:=by
  obtain ⟨v,rfl,h⟩:=cO r
  rw [Rep] at h
  rw [h]
end
end FF
namespace HT
open PySem PyProof.Rows
theorem fT {prog:Program} {w:World} {A:Around} {E:Value→Shared→Prop} {s:Shared} {t sl:Addr} {items:Array Value} {vl vu:Value} {lo hi:Option Int} {Q:Value→Shared→Prop} (ht:IsTup s.heap t items) (hs:s.heap.IsSliceOf sl vl vu .none) (pl:IsPart vl lo) (pu:IsPart vu hi)
    (hw:sIx items.size 0 lo=0∧sIx items.size items.size hi=items.size) (h:Q (.ref t) s):wpAny (model prog w) A (getItem (.ref t) (.ref sl)) Q E s:=by
  obtain ⟨os,hos,hcs,hds⟩:=id hs
  have hTs:s.TypeIs (.ref sl) "slice" := ⟨os,hos,hcs⟩
  unfold getItem
  try with_reducible refine wpAny_holding ?_
  first | refine wpAny_bind (wpAny_pure ?_) | skip
  refine wpAny_bind (wpAny_sequenceKey ht.typeIs (by decide) ?_)
  refine wpAny_bind (wpAny_callSpecial?_slot (name:=Str.ofString "__getitem__") ht.typeIs PyProof.Rows.slot_tuple_getitem
    (wpAny_call_entry PyProof.Rows.slot_tuple_getitem ht.typeIs entry_tuple_getitem ?_ (args_tuple_getitem _ _)))
  show wpAny _ _ (Builtin.Tuple.tupleItemsOf (.ref t) >>= _) _ _ s
  refine wpAny_bind (tupleItemsOf_ ht ?_)
  refine wpAny_bind (wpAny_typeOf hTs ?_)
  rw [if_pos (by decide)]
  refine wpAny_bind (eF hs pl pu ?_)
  rw [hw.1,hw.2]
  show wpAny _ _ (if (((0:Nat):Int)==0&&(1:Int)==1&&(items.size - 0)==items.size)=true then _ else _) _ _ s
  rw [if_pos (by simp)]
  unfold Builtin.Tuple.tupleIsExact
  refine wpAny_bind (wpAny_bind (wpAny_typeOf ht.typeIs (wpAny_pure ?_)))
  rw [if_pos (by decide)]
  exact wpAny_bind (wpAny_rule (wpAny_pure ⟨_,rfl,wpAny_pure h⟩))
end HT
namespace FF
open PySem PySem.Spec PyProof.Rows L2
def rSlW (K:PySem.W.Frag):V→Option Int→Option Int→Hp→VK→Prop:=fun x lo hi H Q=>∃ a xs,x=.ref a∧SqT K H a xs∧(HT.sIx xs.length 0 lo=0∧HT.sIx xs.length xs.length hi=xs.length)∧Q (.ref a) H
theorem tF {X:Cx}:SlR X (rSlW X.K):=by
  intro pins s σ H x v vl vu lo hi sl Q I rx hs pl pu h
  obtain ⟨a,xs,rfl,hx,hw,q⟩:=h
  cases rx
  obtain ⟨its,r,ht,hz⟩:=I.tuple hx
  have hlen:its.toArray.size=xs.length:=by rw [List.size_toArray]; exact r.length.symm
  refine ⟨"tuple",_,PyProof.Rows.slot_tuple_getitem.lookup,ht.typeIs,?_⟩
  refine HT.fT ht hs pl pu (by rw [hlen]; exact hw) ?_
  exact ⟨.ref a,H,I,rfl,q⟩
theorem pM {xs:List D} {lo hi:Option Int} (h:HT.sIx xs.length 0 lo=0∧HT.sIx xs.length xs.length hi=xs.length):cutD xs lo hi=xs:=by
  unfold cutD
  rw [h.1,h.2,List.drop_zero,Nat.sub_zero,List.take_length]
section
variable {X:Cx} {F:Fx} {e:Expr} {lo hi:Option Expr} {g:SS→R D} {l h:SS→R (Option Int)} {pos p2:Pos}
theorem e9 (hK:X.K=F.K) (he:FE X F e g) (hl:PO X lo (tP F l)) (hh:PO X hi (tP F h)):FE X F (.Subscript e (.Slice lo hi none p2) pos) (eSw g l h) :=
  (qI (sP.or (u7.or tF)) he hl hh).weak fun σ H Q ⟨Z,S,ok,w⟩=>aU ok w fun d v H1 Z1 ok1 x1 rv w1=>oE ok1 w1 fun o H2 Z2 ok2 x2 w2=>oE ok2 w2 fun o' H3 Z3 ok3 x3 w3=>by
    have rv3:=rv.mono (x2.z.trans x3.z)
    cases d with
    | lst ds =>
      rw [Rep] at rv3
      obtain ⟨a,vs,rfl,h1,h2⟩:=rv3
      refine .inl ⟨a,vs,rfl,by rw [hK]; exact ok3.sub.seq h1,fun p hp=>?_⟩
      have z:Same Z3 (upd Z3 p (.lst (cutV vs o o'))):=aK (ok3.sub.free hp)
      exact w3 _ _ (Ex.alloc ok3.sub hp) _ (by rw [Rep]; exact ⟨p,_,rfl,SqL.of ar,(h2.cut o o').mono z⟩)
    | tup ds =>
      have rv4:=rv3
      rw [Rep] at rv3
      obtain ⟨a,vs,rfl,h1,h2⟩:=rv3
      have w4:WG F H3 Z3 (R.ok (FF.D.tup (cutD ds o o'))) _:=w3
      by_cases hw:HT.sIx ds.length 0 o=0∧HT.sIx ds.length ds.length o'=ds.length
      · refine .inr (.inr ⟨a,vs,rfl,by rw [hK]; exact h1.mono ok3.sub,by rw [← h2.length]; exact hw,?_⟩)
        rw [pM hw] at w4
        exact WG.now w4 ok3.sub _ rv4
      · refine .inr (.inl ⟨a,vs,rfl,by rw [hK]; exact h1.mono ok3.sub,by rw [← h2.length]; exact hw,fun p hp=>?_⟩)
        have z:Same Z3 (upd Z3 p (.tup (cutV vs o o'))):=aK (ok3.sub.free hp)
        exact w4 _ _ (Ex.alloc ok3.sub hp) _ (by rw [Rep]; exact ⟨p,_,rfl,SqT.of ar,(h2.cut o o').mono z⟩)
    | _=>exact w3.elim
end
theorem R.bind_assoc {α β γ:Type} (r:R α) (f:α→R β) (g:β→R γ):(r.bind f).bind g=r.bind fun x=>(f x).bind g:=by cases r<;>rfl
theorem tG (i j:Nat) {X:Cx} {F:Fx} {x y:Str} {p1 p2 tp pos pt2:Pos} {k k2:_} {n:Nat} {a b:Expr} {gs:SS→R (List D)} (bx:BX X F n) (hN:X.N.Nodup) (ha:FA X F [a,b] gs) (hij:i≠j:=by decide) (hi:X.N[i]?=some x:=by rfl) (hj:X.N[j]?=some y:=by rfl)
    (hx:X.env.scope.names.lookup x=some .local:=by rfl) (hy:X.env.scope.names.lookup y=some .local:=by rfl)
    (hw:swappedStores [.Tuple [.Name x p1,.Name y p2] k tp] (.Tuple [a,b] k2 pt2) X.env=pure (some [x,y]):=by rfl) (hs:swapsWithSole [.Tuple [.Name x p1,.Name y p2] k tp] (.Tuple [a,b] k2 pt2) pos.line X.env=pure false:=by rfl) :
    FS X F (.Assign [.Tuple [.Name x p1,.Name y p2] k tp] (.Tuple [a,b] k2 pt2) pos) (sAsg (gTup [i,j]) (eTup gs)) :=
  (uU bx.calm hN hi hj hij hx hy ha hw hs).weak fun D σ H ⟨Z,S,ok,w⟩=>by
    have w0:WG F H Z ((gs S).bind fun ds=>(if ds.length≤16777216 then R.ok (FF.D.tup ds) else R.stuck).bind fun d=>(gTup [i,j] d S).bind fun S1=>R.ok (O.nx S1)) fun o _ Z'=>WO F Z' o D:=by
      rw [← R.bind_assoc]
      exact WO.wg ok w
    refine bH ok w0 fun ds vs H1 Z1 ok1 x1 rs w1=>?_
    split at w1
    · have w2:WG F H1 Z1 (R.bind (if ds.length=2 then R.ok (setAll [i,j] ds S) else R.stuck) fun S1=>R.ok (O.nx S1)) fun o _ Z'=>WO F Z' o D:=w1
      split at w2
      · rename_i hl
        match ds,hl,rs with
        | [d1,d2],_,h2 =>
          rw [Reps] at h2
          obtain ⟨v1,r,rfl,q1,h2⟩:=h2
          rw [Reps] at h2
          obtain ⟨v2,r,rfl,q2,h2⟩:=h2
          rw [Reps] at h2
          subst h2
          refine ⟨v1,v2,rfl,?_⟩
          have w3:=WG.now w2 ok1.sub
          exact w3 _ _ _ (Same.refl _) ((ok1.setVal (i:=i) q1).setVal (i:=j) q2)
      · exact w2.elim
    · exact w1.elim
end FF
end
noncomputable section
set_option linter.all false
set_option maxRecDepth 100000
namespace FF
open PySem L2
def sameK:D→D→Bool
  | .tup _,.tup _=>true
  | .int _,.int _=>true
  | _,_=>false
def dInI (x y:D):R D:=match x,y with
  | .int i,.tup ds=>match intsOf ds with
    | some is=>.ok (.bl (is.any (· == i)))
    | none=>.stuck
  | _,_=>.stuck
def dIndexI (xs es:List D):R D:=match es with
  | [.int k]=>match intsOf xs with
    | some is=>if is.idxOf k < is.length then .ok (.int (is.idxOf k:Nat)) else .stuck
    | none=>.stuck
  | _=>.stuck
def eOwnIx (i:Nat) (g:SS→R D):SS→R D:=fun S=>match S[i]? with
  | some (some (.own ds))=>(g S).bind fun k=>match k with
    | .int j=>match atI ds j with
      | some d=>.ok d
      | none=>.stuck
    | _=>.stuck
  | _=>.stuck
end FF
end
noncomputable section
set_option Elab.async false
set_option linter.all false
set_option maxRecDepth 100000
namespace PySem.SeqAt
open AutoSeq1 (wpAny_loadPart')
open MeetsSeq MeetsSeq2 MeetsSeq3 SeqRoads2
end PySem.SeqAt
namespace FF
open PySem PySem.Spec PyProof.Rows L2
section
variable {X:Cx} {F:Fx} {a b:Expr} {ga gb:SS→R D} {pos:Pos} {k:Nat}
end
section
variable {X:Cx} {F:Fx} {a b:Expr} {ga gb:SS→R D} {pos:Pos} {k:Nat}
end
section
variable {X:Cx} {F:Fx} {o e:Expr} {g:SS→R D} {gs:SS→R (List D)} {apos cpos:Pos} {k:Nat}
end
section
variable {X:Cx} {F:Fx} {pos p:Pos} {k:Nat} {gs:SS→R (List D)} {g ge:SS→R D} {e ei:Expr} {x:Str}
theorem rq (i:Nat) {p0:Pos} (hK:X.K=F.K) (he:FE X F e g) (hs:PlainIx e:=by intro _ _; rfl) (hi:X.N[i]?=some x:=by rfl) (hv:Vis X.env.scope x:=by first | exact Or.inl rfl | exact Or.inr (Or.inl rfl) | exact Or.inr (Or.inr rfl)) (hd:(x==("__debug__":Str))=false:=by decide)
    (hcd:(x==("__classdict__":Str))=false:=by decide):FE X F (.Subscript (.Name x p0) e pos) (eOwnIx i g) :=
  (ux ot (ja hi hv hd hcd) he hs).weak fun σ H Q ⟨Z,S,ok,w⟩=>by
    unfold eOwnIx at w
    split at w
    · rename_i ds e0
      obtain ⟨a,vs,e1,e2,e3,e4,r⟩:=ok.own i ds e0
      refine ⟨.ref a,e1,aU ok w fun d v H1 Z1 ok1 x1 rv w1=>?_⟩
      cases d with
      | int j =>
        rw [Rep] at rv
        have w2:WG F H1 Z1 (match atI ds j with | some d=>R.ok d | none=>R.stuck) _:=w1
        cases q:atI ds j with
        | none=>rw [q] at w2; exact w2.elim
        | some d =>
          rw [q] at w2
          obtain ⟨v',f1,f2⟩:=(r.mono x1.z).at q
          exact ⟨a,vs,j,v',rfl,rv,SqL.of (x1.same _ _ e2),f1,WG.now w2 ok1.sub _ f2⟩
      | _=>exact w1.elim
    · exact w.elim
end
end FF
end
noncomputable section
set_option Elab.async false
set_option linter.all false
set_option maxRecDepth 100000
namespace FF
open PySem PySem.Spec PyProof.Rows L2
def dNf (x y:D):R D:=if good 60 x=true∧good 60 y=true then .ok (.bl (!eqD x y)) else .stuck
theorem tH {X:Cx} {pins:List (Addr×Obj)} {σ:St} {H Z:Hp} {s:Shared} {K:PySem.W.Frag} {C:Nat→Addr} (hK:X.K=K) (I:Inv X pins σ H s) (z:Same Z H) (n:Nat) (A:Around) (d e:D) (v u:V) (x y:Value) (g1:good n d=true) (g2:good n e=true)
    (h:Rep K C Z d v) (h':Rep K C Z e u) (rx:RelV v x) (ry:RelV u y) (hu:A.units+n < cLine):SeqAt.RcNeAt A s x y (!eqD d e):=by
  have hu0:A.units < cLine:=by omega
  cases d with
  | exc k=>cases n<;>simp [good] at g1
  | fn k=>cases n<;>simp [good] at g1
  | tup ds =>
    cases n with
    | zero=>simp [good] at g1
    | succ n =>
      have in1:A.in1.units+n < cLine:=by show A.units+1+n < cLine; omega
      rw [Rep] at h
      obtain ⟨a,vs,rfl,h1,h2⟩:=h
      cases rx
      obtain ⟨its,r,p,_⟩:=I.tuple (by rw [hK]; exact h1.mono z:SqT X.K H a vs)
      have p':s.heap.IsTuple a its.toArray:=p
      cases e with
      | tup es =>
        rw [Rep] at h'
        obtain ⟨b,us,rfl,k1,k2⟩:=h'
        cases ry
        obtain ⟨its2,r2,p2,_⟩:=I.tuple (by rw [hK]; exact k1.mono z:SqT X.K H b us)
        have p2':s.heap.IsTuple b its2.toArray:=p2
        rw [good] at g1 g2
        have q:=SeqAt.RcNeAt.tuples (A:=A) (e:=fun j=>eqD (ds.getD j .non) (es.getD j .non)) p' p2' hu0 fun j j1 j2=>by
          have j1':j < its.length:=by simpa using j1
          have j2':j < its2.length:=by simpa using j2
          have l1:j < ds.length:=by rw [h2.length,r.length]; exact j1'
          have l2:j < es.length:=by rw [k2.length,r2.length]; exact j2'
          have e1:ds[j]?=some ds[j]:=by simp
          have e2:es[j]?=some es[j]:=by simp
          obtain ⟨w1,f1,f2⟩:=h2.get e1
          obtain ⟨w2,f3,f4⟩:=k2.get e2
          obtain ⟨z1,m1,m2⟩:=r.get f1
          obtain ⟨z2,m3,m4⟩:=r2.get f3
          have n1:its.toArray[j]=z1:=by simpa [j1'] using m1
          have n2:its2.toArray[j]=z2:=by simpa [j2'] using m3
          rw [n1,n2]
          have g3:ds.getD j .non=ds[j]:=by simp [l1]
          have g4:es.getD j .non=es[j]:=by simp [l2]
          rw [g3,g4]
          exact hI hK I z n A.in1 _ _ w1 w2 z1 z2 (aW g1 e1) (aW g2 e2) f2 f4 m2 m4 in1
        rw [eqD,dR]
        have s1:its.toArray.size=ds.length:=by rw [List.size_toArray,h2.length,r.length]
        have s2:its2.toArray.size=es.length:=by rw [List.size_toArray,k2.length,r2.length]
        rw [s1,s2] at q
        exact q
      | lst es =>
        rw [Rep] at h'
        obtain ⟨b,us,rfl,k1,k2⟩:=h'
        cases ry
        obtain ⟨its2,r2,p2,_⟩:=I.list (by rw [hK]; exact z.seq k1:SqL X.K H b us)
        simp only [eqD,Bool.not_false,Bool.not_true]
        exact SeqAt.RcNeAt.tuple_list p' p2.isList hu0
      | exc k=>simp [good] at g2
      | fn k=>simp [good] at g2
      | non=>rw [Rep] at h'; subst h'; cases ry; simp only [eqD,Bool.not_false,Bool.not_true]; exact SeqAt.RcNeAt.tuple_none p' hu0
      | bl b=>rw [Rep] at h'; subst h'; cases ry; simp only [eqD,Bool.not_false,Bool.not_true]; exact SeqAt.RcNeAt.tuple_bool _ p' hu0
      | int b=>rw [Rep] at h'; subst h'; obtain ⟨t,rfl⟩:=ry; simp only [eqD,Bool.not_false,Bool.not_true]; exact SeqAt.RcNeAt.tuple_int _ _ p' hu0
      | str b=>rw [Rep] at h'; subst h'; obtain ⟨t,rfl⟩:=ry; simp only [eqD,Bool.not_false,Bool.not_true]; exact SeqAt.RcNeAt.tuple_str _ _ p' hu0
  | lst ds =>
    cases n with
    | zero=>simp [good] at g1
    | succ n =>
      have in1:A.in1.units+n < cLine:=by show A.units+1+n < cLine; omega
      rw [Rep] at h
      obtain ⟨a,vs,rfl,h1,h2⟩:=h
      cases rx
      obtain ⟨its,r,p,_⟩:=I.list (by rw [hK]; exact z.seq h1:SqL X.K H a vs)
      have p':=p.isList
      cases e with
      | lst es =>
        rw [Rep] at h'
        obtain ⟨b,us,rfl,k1,k2⟩:=h'
        cases ry
        obtain ⟨its2,r2,p2,_⟩:=I.list (by rw [hK]; exact z.seq k1:SqL X.K H b us)
        have p2':=p2.isList
        rw [good] at g1 g2
        have s1:its.toArray.size=ds.length:=by rw [List.size_toArray,h2.length,r.length]
        have s2:its2.toArray.size=es.length:=by rw [List.size_toArray,k2.length,r2.length]
        rw [eqD,dR]
        by_cases hsz:ds.length=es.length
        · have q:=SeqAt.RcNeAt.lists (A:=A) (e:=fun j=>eqD (ds.getD j .non) (es.getD j .non)) p' p2' (by rw [s1,s2]; exact hsz) hu0 fun j j1 j2=>by
            have j1':j < its.length:=by simpa using j1
            have j2':j < its2.length:=by simpa using j2
            have l1:j < ds.length:=by rw [h2.length,r.length]; exact j1'
            have l2:j < es.length:=by rw [k2.length,r2.length]; exact j2'
            have e1:ds[j]?=some ds[j]:=by simp
            have e2:es[j]?=some es[j]:=by simp
            obtain ⟨w1,f1,f2⟩:=h2.get e1
            obtain ⟨w2,f3,f4⟩:=k2.get e2
            obtain ⟨z1,m1,m2⟩:=r.get f1
            obtain ⟨z2,m3,m4⟩:=r2.get f3
            have n1:its.toArray[j]=z1:=by simpa [j1'] using m1
            have n2:its2.toArray[j]=z2:=by simpa [j2'] using m3
            rw [n1,n2]
            have g3:ds.getD j .non=ds[j]:=by simp [l1]
            have g4:es.getD j .non=es[j]:=by simp [l2]
            rw [g3,g4]
            exact hI hK I z n A.in1 _ _ w1 w2 z1 z2 (aW g1 e1) (aW g2 e2) f2 f4 m2 m4 in1
          rw [s1] at q
          rw [hsz,Nat.min_self,beq_self_eq_true,Bool.and_true,← hsz]
          exact q
        · have q:=SeqAt.RcNeAt.lists_lengths (A:=A) p' p2' (by rw [s1,s2]; simpa using hsz) hu0
          rw [show (ds.length==es.length)=false by simpa using hsz,Bool.and_false]
          exact q
      | tup es =>
        rw [Rep] at h'
        obtain ⟨b,us,rfl,k1,k2⟩:=h'
        cases ry
        obtain ⟨its2,r2,p2,_⟩:=I.tuple (by rw [hK]; exact k1.mono z:SqT X.K H b us)
        simp only [eqD,Bool.not_false,Bool.not_true]
        exact SeqAt.RcNeAt.list_tuple p' (show s.heap.IsTuple b its2.toArray from p2) hu0
      | exc k=>simp [good] at g2
      | fn k=>simp [good] at g2
      | non=>rw [Rep] at h'; subst h'; cases ry; simp only [eqD,Bool.not_false,Bool.not_true]; exact SeqAt.RcNeAt.list_none p' hu0
      | bl b=>rw [Rep] at h'; subst h'; cases ry; simp only [eqD,Bool.not_false,Bool.not_true]; exact SeqAt.RcNeAt.list_bool _ p' hu0
      | int b=>rw [Rep] at h'; subst h'; obtain ⟨t,rfl⟩:=ry; simp only [eqD,Bool.not_false,Bool.not_true]; exact SeqAt.RcNeAt.list_int _ _ p' hu0
      | str b=>rw [Rep] at h'; subst h'; obtain ⟨t,rfl⟩:=ry; simp only [eqD,Bool.not_false,Bool.not_true]; exact SeqAt.RcNeAt.list_str _ _ p' hu0
  | non =>
    rw [Rep] at h; subst h; cases rx
    cases e with
    | tup es =>
      rw [Rep] at h'
      obtain ⟨b,us,rfl,k1,k2⟩:=h'
      cases ry
      obtain ⟨its2,r2,p2,_⟩:=I.tuple (by rw [hK]; exact k1.mono z:SqT X.K H b us)
      simp only [eqD,Bool.not_false,Bool.not_true]; exact SeqAt.RcNeAt.none_tuple (show s.heap.IsTuple b its2.toArray from p2) hu0
    | lst es =>
      rw [Rep] at h'
      obtain ⟨b,us,rfl,k1,k2⟩:=h'
      cases ry
      obtain ⟨its2,r2,p2,_⟩:=I.list (by rw [hK]; exact z.seq k1:SqL X.K H b us)
      simp only [eqD,Bool.not_false,Bool.not_true]; exact SeqAt.RcNeAt.none_list p2.isList hu0
    | exc k=>cases n<;>simp [good] at g2
    | fn k=>cases n<;>simp [good] at g2
    | non=>rw [Rep] at h'; subst h'; cases ry; simp only [eqD,Bool.not_false,Bool.not_true]; exact SeqAt.RcNeAt.none_none
    | bl b=>rw [Rep] at h'; subst h'; cases ry; simp only [eqD,Bool.not_false,Bool.not_true]; exact SeqAt.RcNeAt.none_bool _
    | int b=>rw [Rep] at h'; subst h'; obtain ⟨t,rfl⟩:=ry; simp only [eqD,Bool.not_false,Bool.not_true]; exact SeqAt.RcNeAt.none_int _ _
    | str b=>rw [Rep] at h'; subst h'; obtain ⟨t,rfl⟩:=ry; simp only [eqD,Bool.not_false,Bool.not_true]; exact SeqAt.RcNeAt.none_str _ _
  | bl a =>
    rw [Rep] at h; subst h; cases rx
    cases e with
    | tup es =>
      rw [Rep] at h'
      obtain ⟨b,us,rfl,k1,k2⟩:=h'
      cases ry
      obtain ⟨its2,r2,p2,_⟩:=I.tuple (by rw [hK]; exact k1.mono z:SqT X.K H b us)
      simp only [eqD,Bool.not_false,Bool.not_true]; exact SeqAt.RcNeAt.bool_tuple _ (show s.heap.IsTuple b its2.toArray from p2) hu0
    | lst es =>
      rw [Rep] at h'
      obtain ⟨b,us,rfl,k1,k2⟩:=h'
      cases ry
      obtain ⟨its2,r2,p2,_⟩:=I.list (by rw [hK]; exact z.seq k1:SqL X.K H b us)
      simp only [eqD,Bool.not_false,Bool.not_true]; exact SeqAt.RcNeAt.bool_list _ p2.isList hu0
    | exc k=>cases n<;>simp [good] at g2
    | fn k=>cases n<;>simp [good] at g2
    | non=>rw [Rep] at h'; subst h'; cases ry; simp only [eqD,Bool.not_false,Bool.not_true]; exact SeqAt.RcNeAt.bool_none _
    | bl b=>rw [Rep] at h'; subst h'; cases ry; simp only [eqD,Bool.not_false,Bool.not_true]; exact SeqAt.RcNeAt.bool_bool _ _
    | int b=>rw [Rep] at h'; subst h'; obtain ⟨t,rfl⟩:=ry; simp only [eqD,Bool.not_false,Bool.not_true]; exact SeqAt.RcNeAt.bool_int _ _ _
    | str b=>rw [Rep] at h'; subst h'; obtain ⟨t,rfl⟩:=ry; simp only [eqD,Bool.not_false,Bool.not_true]; exact SeqAt.RcNeAt.bool_str _ _ _
  | int a =>
    rw [Rep] at h; subst h; obtain ⟨t0,rfl⟩:=rx
    cases e with
    | tup es =>
      rw [Rep] at h'
      obtain ⟨b,us,rfl,k1,k2⟩:=h'
      cases ry
      obtain ⟨its2,r2,p2,_⟩:=I.tuple (by rw [hK]; exact k1.mono z:SqT X.K H b us)
      simp only [eqD,Bool.not_false,Bool.not_true]; exact SeqAt.RcNeAt.int_tuple _ _ (show s.heap.IsTuple b its2.toArray from p2) hu0
    | lst es =>
      rw [Rep] at h'
      obtain ⟨b,us,rfl,k1,k2⟩:=h'
      cases ry
      obtain ⟨its2,r2,p2,_⟩:=I.list (by rw [hK]; exact z.seq k1:SqL X.K H b us)
      simp only [eqD,Bool.not_false,Bool.not_true]; exact SeqAt.RcNeAt.int_list _ _ p2.isList hu0
    | exc k=>cases n<;>simp [good] at g2
    | fn k=>cases n<;>simp [good] at g2
    | non=>rw [Rep] at h'; subst h'; cases ry; simp only [eqD,Bool.not_false,Bool.not_true]; exact SeqAt.RcNeAt.int_none _ _
    | bl b=>rw [Rep] at h'; subst h'; cases ry; simp only [eqD,Bool.not_false,Bool.not_true]; exact SeqAt.RcNeAt.int_bool _ _ _
    | int b=>rw [Rep] at h'; subst h'; obtain ⟨t,rfl⟩:=ry; simp only [eqD,Bool.not_false,Bool.not_true]; exact SeqAt.RcNeAt.int_int _ _ _ _
    | str b=>rw [Rep] at h'; subst h'; obtain ⟨t,rfl⟩:=ry; simp only [eqD,Bool.not_false,Bool.not_true]; exact SeqAt.RcNeAt.int_str _ _ _ _
  | str a =>
    rw [Rep] at h; subst h; obtain ⟨t0,rfl⟩:=rx
    cases e with
    | tup es =>
      rw [Rep] at h'
      obtain ⟨b,us,rfl,k1,k2⟩:=h'
      cases ry
      obtain ⟨its2,r2,p2,_⟩:=I.tuple (by rw [hK]; exact k1.mono z:SqT X.K H b us)
      simp only [eqD,Bool.not_false,Bool.not_true]; exact SeqAt.RcNeAt.str_tuple _ _ (show s.heap.IsTuple b its2.toArray from p2) hu0
    | lst es =>
      rw [Rep] at h'
      obtain ⟨b,us,rfl,k1,k2⟩:=h'
      cases ry
      obtain ⟨its2,r2,p2,_⟩:=I.list (by rw [hK]; exact z.seq k1:SqL X.K H b us)
      simp only [eqD,Bool.not_false,Bool.not_true]; exact SeqAt.RcNeAt.str_list _ _ p2.isList hu0
    | exc k=>cases n<;>simp [good] at g2
    | fn k=>cases n<;>simp [good] at g2
    | non=>rw [Rep] at h'; subst h'; cases ry; simp only [eqD,Bool.not_false,Bool.not_true]; exact SeqAt.RcNeAt.str_none _ _
    | bl b=>rw [Rep] at h'; subst h'; cases ry; simp only [eqD,Bool.not_false,Bool.not_true]; exact SeqAt.RcNeAt.str_bool _ _ _
    | int b=>rw [Rep] at h'; subst h'; obtain ⟨t,rfl⟩:=ry; simp only [eqD,Bool.not_false,Bool.not_true]; exact SeqAt.RcNeAt.str_int _ _ _ _
    | str b=>rw [Rep] at h'; subst h'; obtain ⟨t,rfl⟩:=ry; simp only [eqD,Bool.not_false,Bool.not_true]; exact SeqAt.RcNeAt.str_str _ _ _ _
def rNf (K:PySem.W.Frag) (C:Nat→Addr):R2:=fun x y H Q=>∃ Z d e,Same Z H∧Rep K C Z d x∧Rep K C Z e y∧good 60 d=true∧good 60 e=true∧Q (.bl (!eqD d e)) H
section
variable {X:Cx} {F:Fx} {a b:Expr} {ga gb:SS→R D} {pos:Pos} {k:Nat}
theorem vY (hK:X.K=F.K) (hr:Room k X.A):OpR X (compareOp .NotEq) (rNf F.K F.C):=by
  intro pins s σ H x y v u Q I rx ry h
  obtain ⟨Z,d,e,z,h1,h2,g1,g2,q⟩:=h
  have hu:X.A.units+60 < cLine:=by have:=hr.un; omega
  exact tH hK I z 60 X.A d e x y v u g1 g2 h1 h2 rx ry hu X.prog X.w X.xe _ ⟨.bl (!eqD d e),H,I,rfl,q⟩
theorem vo:OpD F (rNf F.K F.C) dNf:=by
  intro H Z x y dx dy Q s rx ry w
  unfold dNf at w
  split at w
  · rename_i g
    exact ⟨Z,dx,dy,s,rx,ry,g.1,g.2,WG.now w s _ cN⟩
  · exact w.elim
theorem cP (bx:BX X F k) (ha:FE X F a ga) (hb:FE X F b gb):FT X F (.Compare a [.NotEq] [b] pos) (gB (eOp dNf ga gb)):=jg (vY bx.K bx.room) vo ha hb
end
def qEx (es:List Nat) (i:Nat):D→Option Bool
  | .exc j=>if es.contains j=true then some (i==j||i==0) else none
  | _=>none
def qVx (es:List Nat):D→Option Bool
  | .exc j=>if es.contains j=true then some true else none
  | _=>none
def qTk (es:List Nat) (j:Nat):Bool:=es.contains j
theorem et {K:PySem.W.Frag} {C:Nat→Addr} {es:List Nat} {i:Nat} (h:∀ j∈es,PySem.W.kitOne K (.ref (C j)) (.ref (C i))=some (i==j||i==0)) (hx:∀ j∈es,ExcK K (C j)):IsA K C (.ref (C i)) (qEx es i):=by
  refine ⟨.inr ⟨_,rfl⟩,fun d b e=>?_,fun j b e=>?_,fun _=>rfl⟩
  · cases d with
    | exc j =>
      have e':(if es.contains j=true then some (i==j||i==0) else none)=some b:=e
      by_cases hj:es.contains j=true
      · rw [if_pos hj] at e'
        cases e'
        exact h j (by simpa using hj)
      · rw [if_neg hj] at e'; cases e'
    | _=>cases e
  · have e':(if es.contains j=true then some (i==j||i==0) else none)=some b:=e
    by_cases hj:es.contains j=true
    · exact hx j (by simpa using hj)
    · rw [if_neg hj] at e'; cases e'
theorem vp {K:PySem.W.Frag} {C:Nat→Addr} {es:List Nat} (h:∀ j∈es,PySem.W.kitOne K (.ref (C j)) (.type "ValueError")=some true) (hx:∀ j∈es,ExcK K (C j)):IsA K C (.ty "ValueError") (qVx es):=by
  refine ⟨.inl ⟨_,rfl⟩,fun d b e=>?_,fun j b e=>?_,fun _=>rfl⟩
  · cases d with
    | exc j =>
      have e':(if es.contains j=true then some true else none)=some b:=e
      by_cases hj:es.contains j=true
      · rw [if_pos hj] at e'
        cases e'
        exact h j (by simpa using hj)
      · rw [if_neg hj] at e'; cases e'
    | _=>cases e
  · have e':(if es.contains j=true then some true else none)=some b:=e
    by_cases hj:es.contains j=true
    · exact hx j (by simpa using hj)
    · rw [if_neg hj] at e'; cases e'
theorem rz {K:PySem.W.Frag} {C:Nat→Addr} {es:List Nat} (h:PySem.W.excIn K (C 0) bmVE "ValueError.__new__"=true) (hs:∀ j∈es,PySem.W.subIn K (.ref (C j)) (.ref (C 0))=some true):Takes K C (C 0) (qTk es) :=
  ⟨h,fun k e=>hs k (by simpa [qTk] using e)⟩
def rIndexI (K:PySem.W.Frag):V→List V→Hp→VK→Prop:=fun x vs H Q=>∃ (l:Addr) (is:List Int) (k:Int),x=.ref l∧vs=[.int k]∧SqL K H l (is.map V.int)∧is.idxOf k < is.length∧Q (.int (is.idxOf k:Nat)) H
theorem pN {X:Cx} {k:Nat} (hr:Room k X.A):MtR X "list.index" (rIndexI X.K):=by
  intro pins s σ H x vs v us Q I rx rv h
  obtain ⟨l,is,k,rfl,rfl,hH,hj,q⟩:=h
  cases rx
  obtain ⟨u,rfl,ru⟩:=rv.one
  obtain ⟨tk,rfl⟩:=(show ∃ t,u=Value.int k t from ru)
  obtain ⟨its,r,⟨⟨c2,d2,dt2,sl2⟩,n2,e2,p2,p3,p4⟩,z2⟩:=I.list hH
  obtain ⟨ps,rfl,e⟩:=dv r
  simp only at p2 p3 p4
  subst p2 p3 p4
  have hl:ps.length=is.length:=by have:=congrArg List.length e; simpa using this
  rw [List.length_map,sizeLine_eq] at z2
  have hsz:is.idxOf k < (ps.map fun p=>Value.int p.1 p.2).toArray.size:=by rw [List.size_toArray,List.length_map,hl]; exact hj
  have hat:∀ m (hm:m < (ps.map fun p=>Value.int p.1 p.2).toArray.size) (hm':m < is.length),isI k (ps.map fun p=>Value.int p.1 p.2).toArray[m]=(is[m]==k):=fun m hm hm'=>by
    subst e
    simp [isI]
  refine call_meets F.slot_list_index ⟨_,e2,rfl⟩ F.entry_list_index (F.args_list_index_2 _ _) (SeqAt.list_indexAt l _ n2 _ _ (.int k tk) (isI k) (is.idxOf k) hsz (by omega) ?_ ?_) ⟨e2,fun y hy=>?_,⟨.int _,H,I.tok _,⟨_,rfl⟩,q⟩⟩
  · rw [hat _ _ hj]
    exact List.findIdx_getElem (w:=hj)
  · intro m hm hlt
    have hm':m < is.length:=by omega
    rw [hat _ _ hm']
    exact Bool.eq_false_iff.mpr (by simpa using List.not_of_lt_findIdx hlt)
  · have hy':y∈ps.map fun p=>Value.int p.1 p.2:=by simpa using hy
    obtain ⟨b,_,rfl⟩:=List.mem_map.mp hy'
    exact pL I (by have:=hr.un; show X.A.units+1 < cLine; omega) b.1 k b.2 tk
section
variable {X:Cx} {F:Fx} {o e:Expr} {g:SS→R D} {gs:SS→R (List D)} {apos cpos:Pos} {k:Nat}
theorem k8:MethD F (rIndexI F.K) dIndexI:=by
  intro H Z a vs xs us es Q s h1 h2 rs w
  unfold dIndexI at w
  split at w
  · rename_i k
    split at w
    · rename_i is eb
      have e3:=gh h2 eb
      subst e3
      split at w
      · rename_i hl
        exact ⟨a,is,k,rfl,tz rs,h1,hl,WG.now w s _ bi⟩
      · exact w.elim
    · exact w.elim
  · exact w.elim
theorem pO (bx:BX X F k) (ho:FE X F o g) (ha:FA X F [e] gs)
    (hbase:attributeBase o "index" X.env (eval o X.env)=eval o X.env:=by rfl)
    (hfew:((backTo cpos (starEach [e] X.env)).all (fun x=>!x.1)&&(backToKw cpos (keywordEach [] X.env)).all (fun x=>x.1.isSome)
      && decide ([e].length+([]:List Keyword).length+(if ([]:List Keyword).isEmpty then 0 else 1) < 30))=true:=by rfl)
    (hline:(apos.endLine==cpos.line)=true:=by rfl) (hs:starEach [e] X.env=(false,eval e X.env)::starEach [] X.env:=by rfl) (hplain:(backTo cpos (starEach [] X.env)).any (·.1)=false:=by rfl) :
    FE X F (.Call (.Attribute o "index" apos) [e] [] cpos) (eMethL dIndexI g gs) :=
  (lE PySem.F.plainAttrs_list PySem.F.slot_list_index (by kernel_rfl) (pN bx.room) ho ha hbase hfew hline hs hplain).weak (by rw [bx.K]; exact ia k8)
end
end FF
end
noncomputable section
set_option linter.all false
set_option maxRecDepth 100000
namespace FF
open PySem L2
inductive L (σ:Type) where
  | nx (s:σ) | rt (d:D) | er (k:Nat) | stuck
def lB {α σ:Type} (r:R α) (k:α→L σ):L σ:=match r with
  | .ok a=>k a
  | .err e=>.er e
  | .stuck=>.stuck
def lS {τ σ:Type} (l:L τ) (k:τ→L σ):L σ:=match l with
  | .nx s=>k s
  | .rt d=>.rt d
  | .er e=>.er e
  | .stuck=>.stuck
def lFor {α τ:Type} (f:τ→α→L τ):List α→τ→L τ
  | [],s=>.nx s
  | d::r,s=>lS (f s d) fun s'=>lFor f r s'
def lTry {τ σ:Type} (q:Nat→Bool) (l:L τ) (k:τ→L σ) (h:Nat→L σ):L σ:=match l with
  | .nx s=>k s
  | .rt d=>.rt d
  | .er e=>if q e=true then h e else .stuck
  | .stuck=>.stuck
def outL {σ:Type} (l:L σ):R D:=match l with
  | .nx _=>.ok .non
  | .rt d=>.ok d
  | .er k=>.err k
  | .stuck=>.stuck
section
variable {α τ σ:Type}
@[simp] theorem bX (a:α) (k:α→L σ):lB (.ok a) k=k a:=rfl
@[simp] theorem vq (e:Nat) (k:α→L σ):lB (.err e) k=.er e:=rfl
@[simp] theorem vZ (k:α→L σ):lB .stuck k=.stuck:=rfl
@[simp] theorem lT (s:τ) (k:τ→L σ):lS (.nx s) k=k s:=rfl
@[simp] theorem v3 (d:D) (k:τ→L σ):lS (.rt d) k=.rt d:=rfl
@[simp] theorem v4 (e:Nat) (k:τ→L σ):lS (.er e) k=.er e:=rfl
@[simp] theorem v5 (k:τ→L σ):lS .stuck k=.stuck:=rfl
@[simp] theorem di (f:τ→α→L τ) (s:τ):lFor f [] s=.nx s:=rfl
theorem aQ (f:τ→α→L τ) (d:α) (r:List α) (s:τ):lFor f (d::r) s=lS (f s d) fun s'=>lFor f r s':=rfl
@[simp] theorem wz (q:Nat→Bool) (s:τ) (k:τ→L σ) (h:Nat→L σ):lTry q (.nx s) k h=k s:=rfl
@[simp] theorem wA (q:Nat→Bool) (d:D) (k:τ→L σ) (h:Nat→L σ):lTry q (.rt d:L τ) k h=.rt d:=rfl
@[simp] theorem wB (q:Nat→Bool) (e:Nat) (k:τ→L σ) (h:Nat→L σ):lTry q (.er e:L τ) k h=if q e=true then h e else .stuck:=rfl
@[simp] theorem tJ (s:σ):outL (.nx s)=.ok .non:=rfl
@[simp] theorem tK (d:D):outL (.rt d:L σ)=.ok d:=rfl
@[simp] theorem tM (k:Nat):outL (.er k:L σ)=.err k:=rfl
end
def rAnd (a b:R Bool):R Bool:=a.bind fun c=>if c=true then b else .ok false
def rOr (a b:R Bool):R Bool:=a.bind fun c=>if c=true then .ok true else b
def rNot (a:R Bool):R Bool:=a.bind fun c=>.ok (!c)
def vAnd (a b:R D):R D:=(asB a).bind fun c=>if c=true then b else .ok (.bl false)
def vOr (a b:R D):R D:=(asB a).bind fun c=>if c=true then .ok (.bl true) else b
def vNot (a:R D):R D:=(asB a).bind fun c=>.ok (.bl (!c))
def rIf (c:R Bool) (a b:R D):R D:=c.bind fun t=>if t=true then a else b
def rCh (f f':D→D→R D) (x y:D) (w:R D):R D:=(asB (f x y)).bind fun k=>if k=true then w.bind fun w=>f' y w else .ok (.bl false)
@[simp] theorem fc (b:Bool):asB (.ok (.bl b))=.ok b:=rfl
@[simp] theorem vt (b:R Bool):rAnd (.ok true) b=b:=rfl
@[simp] theorem vw (b:R Bool):rAnd (.ok false) b=.ok false:=rfl
@[simp] theorem v6 (b:R Bool):rOr (.ok true) b=.ok true:=rfl
@[simp] theorem v7 (b:R Bool):rOr (.ok false) b=b:=rfl
@[simp] theorem k9 (b:Bool):rNot (.ok b)=.ok (!b):=rfl
@[simp] theorem vx (b:R D):vAnd (.ok (.bl true)) b=b:=rfl
@[simp] theorem vy (b:R D):vAnd (.ok (.bl false)) b=.ok (.bl false):=rfl
@[simp] theorem v8 (b:R D):vOr (.ok (.bl true)) b=.ok (.bl true):=rfl
@[simp] theorem v9 (b:R D):vOr (.ok (.bl false)) b=b:=rfl
@[simp] theorem tN (b:Bool):vNot (.ok (.bl b))=.ok (.bl (!b)):=rfl
@[simp] theorem uy (a b:R D):rIf (.ok true) a b=a:=rfl
@[simp] theorem uz (a b:R D):rIf (.ok false) a b=b:=rfl
def bA {α:Type}:List (R D)→(List D→R α)→R α
  | [],k=>k []
  | r::rs,k=>r.bind fun d=>bA rs fun ds=>k (d::ds)
def cGo (c:D→R Bool) (e:D→R D):List D→R (List D)
  | []=>.ok []
  | d::r=>match c d with
    | .ok true=>match e d with
      | .ok y=>match cGo c e r with
        | .ok ys=>.ok (y::ys)
        | _=>.stuck
      | _=>.stuck
    | .ok false=>cGo c e r
    | _=>.stuck
def cMap (e:D→R D) (xs:List D):R D:=(cGo (fun _=>.ok true) e xs).bind fun ys=>.ok (.lst ys)
def cFil (c:D→R Bool) (e:D→R D) (xs:List D):R D:=(cGo c e xs).bind fun ys=>.ok (.lst ys)
def un2 {α:Type} (d:D) (k:D→D→R α):R α:=match d with
  | .tup [a,b]=>k a b
  | _=>.stuck
def sq (d:D):R (List D):=(asSeq d).bind fun ds=>if ds.length≤16777216 then .ok ds else .stuck
def dList:List D→R D
  | [.lst xs]=>.ok (.lst xs)
  | [.tup xs]=>.ok (.lst xs)
  | _=>.stuck
def dLenSet:List D→R D
  | [.lst xs]=>match intsOf xs with
    | some is=>if is.length≤4000 then .ok (.int (is.eraseDups.length:Nat)) else .stuck
    | none=>.stuck
  | _=>.stuck
def zipD:List D→List D→List D
  | a::r,b::s=>.tup [a,b]::zipD r s
  | _,_=>[]
def dZip (a b:D):R (List D):=(sq a).bind fun xs=>(sq b).bind fun ys=>.ok (zipD xs ys)
def dRev (d:D):R D:=match d with
  | .lst xs=>.ok (.lst xs.reverse)
  | .tup xs=>.ok (.tup xs.reverse)
  | _=>.stuck
def dMin2:List D→R D
  | [.int i,.int j]=>.ok (.int (if j < i then j else i))
  | _=>.stuck
def onF {α:Type} (fs:List Nat) (f:D) (k:Nat→R α):R α:=match f with
  | .fn i=>if fs.contains i=true then k i else .stuck
  | _=>.stuck
def onL {α:Type} (d:D) (k:List D→R α):R α:=match d with
  | .lst xs=>k xs
  | _=>.stuck
def dNeg (d:D):R D:=match d with
  | .int i=>.ok (.int (-i))
  | _=>.stuck
def oIx (ds:List D) (i:D):R D:=match i with
  | .int j=>match atI ds j with
    | some d=>.ok d
    | none=>.stuck
  | _=>.stuck
def oApp (ds:List D) (v:D):R (List D):=if ds.length < 16777216 then .ok (ds++[v]) else .stuck
def oExt (ds:List D) (v:D):R (List D):=match v with
  | .lst xs=>if ds.length+xs.length≤16777216 then .ok (ds++xs) else .stuck
  | .tup xs=>if ds.length+xs.length≤16777216 then .ok (ds++xs) else .stuck
  | _=>.stuck
def a0 (k:L Unit):List D→R D
  | []=>outL k
  | _=>.stuck
def a1 (k:D→L Unit):List D→R D
  | [a]=>outL (k a)
  | _=>.stuck
def a2 (k:D→D→L Unit):List D→R D
  | [a,b]=>outL (k a b)
  | _=>.stuck
def a3 (k:D→D→D→L Unit):List D→R D
  | [a,b,c]=>outL (k a b c)
  | _=>.stuck
def a4 (k:D→D→D→D→L Unit):List D→R D
  | [a,b,c,d]=>outL (k a b c d)
  | _=>.stuck
def a5 (k:D→D→D→D→D→L Unit):List D→R D
  | [a,b,c,d,e]=>outL (k a b c d e)
  | _=>.stuck
def a6 (k:D→D→D→D→D→D→L Unit):List D→R D
  | [a,b,c,d,e,f]=>outL (k a b c d e f)
  | _=>.stuck
end FF
end
noncomputable section
set_option Elab.async false
set_option linter.all false
set_option maxRecDepth 100000
namespace FF
open PySem PySem.Spec PyProof.Rows L2
section
variable {α τ σ W:Type}
def WL (F:Fx) (Z:Hp) (J:σ→SS→Prop) (l:L σ) (D:Ends):Prop:=match l with
  | .nx s=>∀ S ρ H Z',J s S→Same Z Z'→StOk F H Z' S ρ→D.nx ρ H
  | .rt d=>∀ v H Z',Ex F.H0 F.Z0 H Z'→Rep F.K F.C Z' d v→D.rt v H
  | .er k=>∀ H,Same F.H0 H→F.E (.ref (F.C k)) none H
  | .stuck=>False
theorem WL.more {F:Fx} {Z Z1:Hp} {J:σ→SS→Prop} {l:L σ} {D:Ends} (w:WL F Z J l D) (z:Same Z Z1):WL F Z1 J l D:=by
  cases l with
  | nx s=>exact fun S ρ H Z' j q=>w S ρ H Z' j (z.trans q)
  | rt d=>exact w
  | er k=>exact w
  | stuck=>exact w
def tL (F:Fx) (S:SS) (J:σ→SS→Prop) (l:L σ):TS:=fun D ρ H=>∃ Z,StOk F H Z S ρ∧WL F Z J l D
abbrev FL (X:Cx) (F:Fx) (S:SS) (sts:List Stmt) (J:σ→SS→Prop) (l:L σ):Prop:=PSs X sts (tL F S J l)
abbrev FL1 (X:Cx) (F:Fx) (S:SS) (st:Stmt) (J:σ→SS→Prop) (l:L σ):Prop:=PS X st (tL F S J l)
def JX (inj:τ→W→SS):τ→SS→Prop:=fun s S=>∃ w,S=inj s w
def JU:Unit→SS→Prop:=fun _ _=>True
abbrev vv (d:D):Option Sl:=some (.val d)
abbrev ow (ds:List D):Option Sl:=some (.own ds)
abbrev nn:Option Sl:=none
variable {X:Cx} {F:Fx} {S:SS} {st:Stmt} {rest:List Stmt} {J:σ→SS→Prop} {J1:τ→SS→Prop}
theorem nw {sts:List Stmt} {t:α→TS} (h:∀ a,PSs X sts (t a)):PSs X sts (fun D ρ H=>∃ a,t a D ρ H):=fun pins s ρ H D I ⟨a,w⟩=>h a pins s ρ H D I w
theorem WL.wg {D:Ends} {r:R α} {k:α→L σ} {H Z:Hp} {ρ:St} (ok:StOk F H Z S ρ) (w:WL F Z J (lB r k) D):WG F H Z r fun a _ Z'=>WL F Z' J (k a) D:=by
  cases r with
  | ok o=>exact fun _ _ x=>WL.more (l:=k o) w x.z
  | err k=>exact fun H' s=>w H' (ok.ex.same.trans s)
  | stuck=>exact w
theorem al {s:σ} (h:J s S):FL X F S [] J (.nx s):=sD.weak fun D ρ H ⟨Z,ok,w⟩=>w S ρ H Z h (Same.refl _) ok
theorem ak {g:SS→O} {r:R α} {S':α→SS} {k:α→L σ} (h:FS X F st g) (hg:g S=rO (r.bind fun a=>.ok (.nx (S' a)))) (hk:∀ a,FL X F (S' a) rest J (k a)):FL X F S (st::rest) J (lB r k) :=
  (eE h (nw hk)).weak fun D ρ H ⟨Z,ok,w⟩=>⟨Z,S,ok,by
    rw [hg]
    cases r with
    | ok a=>exact fun ρ' H' Z' z ok'=>⟨a,Z',ok',WL.more (l:=k a) w z⟩
    | err k=>exact w
    | stuck=>exact w⟩
theorem bN {g:SS→O} {S':SS} {l:L σ} (h:FS X F st g) (hg:g S=.nx S') (hk:FL X F S' rest J l):FL X F S (st::rest) J l :=
  (eE h hk).weak fun D ρ H ⟨Z,ok,w⟩=>⟨Z,S,ok,by rw [hg]; exact fun ρ' H' Z' z ok'=>⟨Z',ok',WL.more w z⟩⟩
theorem aw {g:SS→R D} {r:R D} (h:FS X F st (sRet g)) (hr:g S=r):FL X F S (st::rest) J (lB r .rt) :=
  (eE h kn).weak fun D ρ H ⟨Z,ok,w⟩=>⟨Z,S,ok,by
    unfold sRet
    rw [hr]
    cases r with
    | ok a=>exact w
    | err k=>exact w
    | stuck=>exact w⟩
theorem ax {g:SS→R D} {v:D} (h:FS X F st (sRet g)) (hr:g S=.ok v):FL X F S (st::rest) J (.rt v):=aw (r:=.ok v) h hr
theorem rA {g:SS→O} {k:Nat} (h:FS X F st g) (hg:g S=.er k):FL X F S (st::rest) J (.er k) :=
  (eE h kn).weak fun D ρ H ⟨Z,ok,w⟩=>⟨Z,S,ok,by rw [hg]; exact w⟩
theorem fe (i:Nat) {ds:List D} {S':SS} {sts:List Stmt} {l:L σ} (hi:S[i]?=some (some (.own ds))) (hS:S.set i (some (.val (.lst ds)))=S') (h:FL X F S' sts J l):FL X F S sts J l :=
  h.weak fun D ρ H ⟨Z,ok,w⟩=>by
    obtain ⟨Z',z,ok'⟩:=ok.freeze hi
    rw [hS] at ok'
    exact ⟨Z',ok',WL.more w z⟩
theorem ay {c:Expr} {a b:List Stmt} {pos:Pos} {gt:SS→R Bool} {r:R Bool} {A B:L σ} (hc:FT X F c gt) (hr:gt S=r) (ha:FL X F S a J A) (hb:FL X F S b J B):FL1 X F S (.If c a b pos) J (lB r fun t=>if t=true then A else B) :=
  (vQ hc ha hb).weak fun D ρ H ⟨Z,ok,w⟩=>gr (k:=fun t=>R.ok t) (P:=fun t _ Z'=>WL F Z' J (if t=true then A else B) D) ok (by
    rw [hr]
    have:=WL.wg ok w
    cases r<;>exact this) fun t H1 Z1 ok1 x1 w1=>by
    have w2:=WG.now w1 ok1.sub
    cases t with
    | true=>exact ⟨Z1,ok1,w2⟩
    | false=>exact ⟨Z1,ok1,w2⟩
theorem ju {l:L σ} (h:FL1 X F S st J l):FL X F S [st] J l:=om h
theorem av {l:L τ} {k:τ→L σ} {inj:τ→W→SS} (h:FL1 X F S st (JX inj) l) (hk:∀ s w,FL X F (inj s w) rest J (k s)):FL X F S (st::rest) J (lS l k) :=
  (eE h (nw (fun s=>nw fun w=>hk s w))).weak fun D ρ H ⟨Z,ok,w⟩=>⟨Z,ok,by
    cases l with
    | nx s=>exact fun S' ρ' H' Z' ⟨x,e⟩ z ok'=>⟨s,x,Z',by rw [← e]; exact ok',WL.more (l:=k s) w z⟩
    | rt d=>exact w
    | er k=>exact w
    | stuck=>exact w⟩
end
section
variable {σ τ W:Type} {X:Cx} {F:Fx} {S:SS} {tg iter:Expr} {body:List Stmt} {pos:Pos} {git:SS→R (List D)} {g:D→SS→R SS} {inj:τ→W→SS} {step:τ→D→L τ}
theorem rB {r:R (List D)} {s0:τ} (w0:W) (hp:PassesOwn (model X.prog X.w) X.A X.env X.xe) (hc:X.calm=true) (hi:FI X F tg iter git) (hr:git S=r) (hg:FG X F tg g)
    (hb:∀ s w x S1,g x (inj s w)=.ok S1→FL X F S1 body (JX inj) (step s x)) (hno:∀ s w x k,g x (inj s w)≠.err k) (hst:∀ s w x,g x (inj s w)=.stuck→step s x=.stuck)
    (hS:S=inj s0 w0) (hs:∀ x,foldedSetIterable iter X.env x=pure x:=by intro _; rfl):FL1 X F S (.For tg iter body [] pos) (JX inj) (lB r fun xs=>lFor step xs s0):=by
  have hbb:PSs X body (fun D ρ H=>∃ (q:τ×W×FF.D×SS) (_:g q.2.2.1 (inj q.1 q.2.1)=.ok q.2.2.2),tL F q.2.2.2 (JX inj) (step q.1 q.2.2.1) D ρ H):=fun pins s ρ H D I ⟨q,e,w⟩=>hb q.1 q.2.1 q.2.2.1 q.2.2.2 e pins s ρ H D I w
  refine (uV hp hc hi hg hbb hs).weak fun D ρ H ⟨Z,ok,w⟩=>?_
  refine ⟨Z,S,ok,?_⟩
  have w00:=WL.wg ok w
  rw [hr]
  cases r with
  | err k=>exact w00
  | stuck=>exact w00
  | ok ds =>
    intro H1 Z1 x1
    have w1:WL F Z1 (JX inj) (lFor step ds s0) D:=w00 H1 Z1 x1
    intro J wk _
    refine ⟨fun i m ρ H=>m=ds.length - i∧i≤ds.length∧∃ Z2 s w,StOk F H Z2 (inj s w) ρ∧Same Z1 Z2∧WL F Z2 (JX inj) (lFor step (ds.drop i) s) D,⟨ds.length,rfl,Nat.zero_le _,Z1,s0,w0,by rw [← hS]; exact ok.more x1,Same.refl _,w1⟩,?_⟩
    rintro i m ρ2 H2 ⟨rfl,hle,Z2,s,w2,ok2,z2,wl2⟩
    obtain ⟨k1,k2⟩:=wk i H2 Z2 z2 ok2.sub
    by_cases hlt:i < ds.length
    · obtain ⟨go,y⟩:=k1 hlt
      refine .inr ⟨go,fun ρ' H'=>∃ Z3 s3 w3,StOk F H' Z3 (inj s3 w3) ρ'∧Same Z1 Z3∧WL F Z3 (JX inj) (lFor step (ds.drop (i+1)) s3) D,fun ρ' H' ⟨Z3,s3,w3,q⟩=>⟨ds.length - (i+1),by omega,rfl,hlt,Z3,s3,w3,q⟩,fun x H' hy=>?_⟩
      obtain ⟨Z2',d,x',e3,rd⟩:=y x H' hy
      have ok2:=ok2.more x'
      have hd:ds.drop i=d::ds.drop (i+1):=by
        obtain ⟨hi,e4⟩:=List.getElem?_eq_some_iff.mp e3
        rw [List.drop_eq_getElem_cons hi,e4]
      rw [hd,aQ] at wl2
      refine ⟨Z2',inj s w2,d,ok2,rd,?_⟩
      cases q:g d (inj s w2) with
      | err k=>exact absurd q (hno s w2 d k)
      | stuck=>rw [hst s w2 d q] at wl2; exact wl2
      | ok S1 =>
        intro H4 Z4 x4 ρ4 ok4
        refine ⟨⟨s,w2,d,S1⟩,q,Z4,ok4,?_⟩
        have z14:Same Z1 Z4:=(z2.trans x'.z).trans x4.z
        cases qb:step s d with
        | nx s5 =>
          rw [qb] at wl2
          exact fun S5 ρ5 H5 Z5 ⟨w5,e5⟩ z5 ok5=>⟨Z5,s5,w5,by rw [← e5]; exact ok5,z14.trans z5,WL.more (l:=lFor step (ds.drop (i+1)) s5) wl2 ((x'.z.trans x4.z).trans z5)⟩
        | rt d=>rw [qb] at wl2; exact wl2
        | er k=>rw [qb] at wl2; exact wl2
        | stuck=>rw [qb] at wl2; exact wl2
    · refine .inl ⟨k2 (by omega),?_⟩
      rw [List.drop_eq_nil_of_le (by omega)] at wl2
      exact wl2 (inj s w2) ρ2 H2 Z2 ⟨w2,rfl⟩ (Same.refl _) ok2
theorem bL (i:Nat) {r:R (List D)} {s0:τ} {B:τ→W→D→SS} (w0:W) (hp:PassesOwn (model X.prog X.w) X.A X.env X.xe) (hc:X.calm=true) (hi:FI X F tg iter git) (hr:git S=r) (hg:FG X F tg (gNm i))
    (hS:S=inj s0 w0) (hB:∀ s w x,(inj s w).set i (some (.val x))=B s w x) (hb:∀ s w x,FL X F (B s w x) body (JX inj) (step s x))
    (hs:∀ x,foldedSetIterable iter X.env x=pure x:=by intro _; rfl):FL1 X F S (.For tg iter body [] pos) (JX inj) (lB r fun xs=>lFor step xs s0) :=
  rB w0 hp hc hi hr hg (fun s w x S1 e=>by cases e; rw [hB]; exact hb s w x) (fun s w x k e=>nomatch e) (fun s w x e=>nomatch e) hS hs
end
section
variable {σ τ W:Type} {X:Cx} {F:Fx} {S:SS} {rest:List Stmt} {J:σ→SS→Prop} {k:Nat}
def tryL (q:Nat→Bool) (l:L τ):L (τ ⊕ Nat):=match l with
  | .nx s=>.nx (.inl s)
  | .rt d=>.rt d
  | .er e=>if q e=true then .nx (.inr e) else .stuck
  | .stuck=>.stuck
def tryJ (inj:τ→W→SS) (B:Nat→SS):τ ⊕ Nat→SS→Prop
  | .inl s,S=>∃ w,S=inj s w
  | .inr k,S=>S=B k
end
section
variable {σ τ W:Type} {S:SS} {X:Cx} {F:Fx} {body:List Stmt} {g:SS→O} {c n y:Str} {np np2 kp apos hpos pos:Pos} {k:Nat} {q:Nat→Bool} {C0:Addr}
theorem tO (i j:Nat) {l:L τ} {inj:τ→W→SS} (bx:BX X F k) (hij:i≠j) (hst:X.stack=X.env::X.outer) (hfm:X.env.frame=some X.env.locals) (hex:X.ex=[]) (hN:X.N.Nodup) (hg:Gl X c) (hm:X.mg c=some (.ref C0)) (T:Takes F.K F.C C0 q)
    (hb:∀ pn xe H0 Z0 E,BX (tryX X pn xe) ⟨F.K,F.C,H0,Z0,E⟩ k→FL (tryX X pn xe) ⟨F.K,F.C,H0,Z0,E⟩ S body (JX inj) l)
    (hi:X.N[i]?=some n:=by rfl) (hj:X.N[j]?=some y:=by rfl) (hn:X.env.scope.names.lookup n=some .local:=by rfl) (hkn:X.env.kindOf n=some .local:=by rfl) (hy:X.env.scope.names.lookup y=some .local:=by rfl)
    (hs:swapsWith (.Name n np2) (some (.Name y kp)) apos.line X.env=pure false:=by rfl) (hdc:(c==("__debug__":Str))=false:=by decide) (hdn:(n==("__debug__":Str))=false:=by decide) (hcd:(n==("__classdict__":Str))=false:=by decide) :
    FL1 X F S (.Try body [.ExceptHandler (some (.Name c np)) (some n) [.Assign [.Name y kp] (.Name n np2) apos] hpos] [] [] pos) (tryJ inj fun e=>(blankS S).set j (some (.val (.exc e)))) (tryL q l):=by
  intro pins s σ H D I h
  obtain ⟨Z,ok,w⟩:=h
  refine wpAny_Try_except ?_
  have hjl:j < X.N.length:=(List.getElem?_eq_some_iff.mp hj).1
  have hil:i < X.N.length:=(List.getElem?_eq_some_iff.mp hi).1
  let txe:Value→Shared→Prop:=fun e s₁=>wpAny (model X.prog X.w) X.A (noteFrame e X.env) (fun _ s₂=>wpAny (model X.prog X.w) X.A (setFlight e none) (fun _ s₃=>wpAny (model X.prog X.w) X.A (handleBy e X.env [.ExceptHandler (some (.Name c np)) (some n) [.Assign [.Name y kp] (.Name n np2) apos] hpos]) (SP X pins D) X.xe s₃) X.xe s₂) X.xe s₁
  let E':XK:=fun cls _ H'=>∃ k,cls=.ref (F.C k)∧q k=true∧Same (bothH F Z) H'∧WL F Z (tryJ inj fun e=>(blankS S).set j (some (.val (.exc e)))) (.nx (.inr k)) D
  have back:∀ {pl:List (Addr×Obj)} {σ':St} {H':Hp} {s':Shared},Inv (tryX X (X.pn++pins) txe) pl σ' H' s'→Inv X pins σ' H' s':=fun J=>jt (X:=tryX X (X.pn++pins) txe) J rfl I.ok.hd fun p hp=>List.mem_append_left _ hp
  have bx':BX (tryX X (X.pn++pins) txe) ⟨F.K,F.C,bothH F Z,Z,E'⟩ k:=by
    refine ⟨bx.room,bx.K,bx.calm,?_⟩
    intro pl σ1 H1 s1 e s2 I1 hx
    obtain ⟨ea,C,t,H2,B,rfl,os,bare,un,hok,fl,hn2,cov,hE⟩:=hx
    obtain ⟨k',hC,hk,hsm,w1⟩:=hE
    have J:Inv (tryX X (X.pn++pins) txe) pl σ1 H2 s2:=I1.call' (ch:=[]) os un hok bare (fun b z=>nomatch z)
    obtain ⟨oe0,ws0,ge0,_,gd0,_⟩:=fl.first
    obtain ⟨mL1,nL1,_⟩:=I1.loc
    obtain ⟨oL1,_,_,hoL1,_⟩:=id nL1
    have hnf:ea∉frs X.stack:=fun z=>by
      rcases List.mem_cons.mp (J.stkSub ea z) with z1 | z1
      · obtain ⟨mL,nL,_⟩:=J.loc
        obtain ⟨oL,es,ep,hoL,hdL,_⟩:=nL
        have hoL':s2.heap.get? ea=some oL:=by rw [z1]; exact hoL
        rw [ge0] at hoL'
        cases hoL'
        rw [hdL] at gd0
        cases gd0
      · obtain ⟨_,o',e',d⟩:=J.funs.mem z1
        rw [ge0] at e'
        cases e'
        exact d _ gd0
    have hnew:∀ o,s1.heap.get? ea≠some o:=fun o z=>by
      have:=cov ea oe0 ge0 (.inr ⟨o,z⟩) hnf
      rw [fl.2.1] at this
      cases this
    have h0:X.s₀.heap.get? ea=none:=by
      cases z:X.s₀.heap.get? ea with
      | none=>rfl
      | some o =>
        obtain ⟨o',z'⟩:=I1.base.there ea o z (by show ea∉X.ex; rw [hex]; exact fun q=>nomatch q)
        exact absurd z' (hnew o')
    have hnl:ea≠X.env.locals:=fun z=>hnew oL1 (by rw [z]; exact hoL1)
    obtain ⟨hp2,g2,d2,t2,os2⟩:=s2
    have fl':=fl
    rw [show (tryX X (X.pn++pins) txe).stack=X.env::X.outer from hst] at fl'
    show txe (.ref ea) _
    refine wpAny_looks_onW (I.ok.frames.trans (by rw [hst])) hfm fl' fun h4 held4 up4=>?_
    refine wpAny_landsW held4 fun h5 fl5 up5=>?_
    have fly:∀ {h6:Heap},B.StaysIn h6→hp2.UpToSlots h6→Inv (tryX X (X.pn++pins) txe) pl σ1 H2 ⟨h6,g2,d2,t2,os2⟩:=fun {h6} a b=>sX J ⟨σ1,H1,pl,I1⟩ (fun p hp=>⟨_,(I1.pin p hp).1⟩) (fun o _=>⟨oL1,hoL1⟩) cov a b
    have J5:=fly fl5.1 (up4.trans up5)
    let Xm:Cx:={ tryX X (X.pn++pins) txe with A:=X.A.mark (some (.ref ea)),calm:=false,pn:=X.pn++pins,xe:=fun _ _=>False }
    have J5m:Inv Xm pl σ1 H2 ⟨h5,g2,d2,t2,os2⟩:=jt J5 rfl (fun z=>nomatch z) fun p hp=>hp
    refine wpAny_handleBy_cons (codeAny_handlers_test (iZ (X:=Xm) J5m hg hm ?_ hdc)) (by intro z; cases z)
    obtain ⟨ob,hob,hobc⟩:=fl5.there
    refine lR T (by have:=J5.kIn; rw [← bx.K]; exact this) hob (hobc.trans hC) hk ?_
    refine codeAny_handlers_suite_as ?_
    refine lands_againW fl5 fun h6 fl6 up6=>?_
    have J6:=fly fl6.1 ((up4.trans up5).trans up6)
    obtain ⟨oe,ws,hoe,hoec,hoed,_⟩:=fl6.first
    have J7:=pI J6 (a:=ea) (o:=excO F.C k' ea) hn2 h0 hnl (fun x c' e z=>by
        obtain ⟨v,o,ho,_⟩:=I1.cell x c' e
        exact hnew o (by rw [← z]; exact ho)) (fun p hp z=>hnew p.2 (by rw [← z]; exact (I1.pin p hp).1)) ⟨⟨oe,hoe,hoec.trans hC,ws,hoed⟩,⟨oe,hoe⟩,fun h1 h2 ⟨o,a1,a2,a3⟩ kk=>⟨o,kk o a1,a2,a3⟩⟩
    have J7m:Inv Xm pl σ1 (upd H2 ea (excO F.C k' ea)) ⟨h6,g2,d2,t2,os2⟩:=jt J7 rfl (fun z=>nomatch z) fun p hp=>hp
    have hl1:σ1.length=X.N.length:=I1.len
    refine eD (X:=Xm) (v:=.ref ea) J7m hN hi (.inl hn) rfl (fun s8 I8=>?_) (.inr hn)
    have st:=om (mX (X:=Xm) (pos:=apos) (pos':=kp) hN hj (.inl hy) (ja (X:=Xm) (pos:=np2) hi (.inl hn) hdn hcd) hs (.inr hy))
    refine wpAny_mono (st pl s8 _ _ ⟨fun σ' H'=>σ'=(σ1.set i (some (.ref ea))).set j (some (.ref ea))∧H'=upd H2 ea (excO F.C k' ea),fun _ _=>False,fun _ _=>False,fun _ _=>False⟩ I8 ⟨.ref ea,by rw [List.getElem?_set_self (by rw [hl1]; exact hil)],rfl,rfl⟩) (fun f s9 h9=>?_) fun _ _ z=>z.elim
    cases f with
    | next =>
      obtain ⟨σ9,H9,I9,rfl,rfl⟩:=h9
      show wpAny (model X.prog X.w) X.A (do bindName X.env n .none; unbindBehindTheSuite X.env n hpos) _ X.xe s9
      refine wpAny_bind (wpAny_bindName (eD (X:=Xm) (v:=.non) I9 hN hi (.inl hn) rfl (fun s10 I10=>?_) (.inr hn)))
      unfold unbindBehindTheSuite
      refine wpAny_onRaise (pJ (X:=Xm) (v:=.non) I10 hN hi hkn hn (by rw [List.getElem?_set_self (by simp [hl1]; exact hil)]) fun s11 I11=>?_)
      have IX:Inv X pins _ _ s11:=jt (X:=Xm) I11 rfl I.ok.hd fun p hp=>List.mem_append_left _ hp
      obtain ⟨Z',z,ok'⟩:=pK (k:=k') (j:=j) (ea:=ea) (σ':=(((σ1.set i (some (.ref ea))).set j (some (.ref ea))).set i (some .non)).set i none) ok hsm hn2 (by rw [ok.len,I.len]; simp [hl1]) (fun _=>by
        rw [List.getElem?_set_ne hij,List.getElem?_set_ne hij,List.getElem?_set_self (by simp [hl1]; exact hjl)])
      exact ⟨_,_,IX,w1 _ _ _ Z' rfl z ok'⟩
    | _=>first | (obtain ⟨_,_,_,z⟩:=h9; exact z.elim) | (obtain ⟨_,_,_,_,_,z⟩:=h9; exact z.elim)
  have w':WL ⟨F.K,F.C,bothH F Z,Z,E'⟩ Z (JX inj) l D:=by
    cases l with
    | nx s'=>exact fun S' ρ' H' Z' jx z o=>w S' ρ' H' Z' jx z (tw ok o)
    | rt d=>exact fun v H' Z' x r=>w v H' Z' (oG ok x) r
    | er k' =>
      intro H' sm
      unfold tryL at w
      by_cases hk:q k'=true
      · simp only [hk,if_true] at w
        exact ⟨k',rfl,hk,sm,w⟩
      · simp only [hk] at w
        exact w.elim
    | stuck=>exact w
  have run:=hb (X.pn++pins) txe (bothH F Z) Z E' bx' [] s σ H D (jt I rfl I.ok.hd (by simp)) ⟨Z,tx ok,w'⟩
  refine wpAny_mono run (fun f s1 h1=>?_) fun _ _ x=>x
  cases f with
  | next =>
    obtain ⟨σ',H',I',d'⟩:=h1
    exact wpAny_execs_nil ⟨σ',H',back I',d'⟩
  | brk =>
    obtain ⟨σ',H',I',d'⟩:=h1
    exact ⟨σ',H',back I',d'⟩
  | cont =>
    obtain ⟨σ',H',I',d'⟩:=h1
    exact ⟨σ',H',back I',d'⟩
  | ret u =>
    obtain ⟨v,σ',H',I',r,d'⟩:=h1
    exact ⟨v,σ',H',back I',r,d'⟩
end
section
variable {σ τ W:Type} {X:Cx} {F:Fx} {S:SS} {rest:List Stmt} {J:σ→SS→Prop}
theorem vz (i j:Nat) {l:L τ} {inj:τ→W→SS} {q:Nat→Bool} {st:Stmt} {B:Nat→SS} {n1:τ→L σ} {n2:Nat→L σ} (h:FL1 X F S st (tryJ inj fun e=>(blankS S).set j (some (.val (.exc e)))) (tryL q l))
    (hB:∀ e,(blankS S).set j (some (.val (.exc e)))=B e) (h1:∀ s w,FL X F (inj s w) rest J (n1 s)) (h2:∀ e,FL X F (B e) rest J (n2 e)):FL X F S (st::rest) J (lTry q l n1 n2):=by
  have hr:PSs X rest (fun D ρ H=>(∃ s w,tL F (inj s w) J (n1 s) D ρ H)∨∃ e,tL F (B e) J (n2 e) D ρ H):=fun pins s ρ H D I z=>by
    rcases z with ⟨s',w',z⟩ | ⟨e,z⟩
    · exact h1 s' w' pins s ρ H D I z
    · exact h2 e pins s ρ H D I z
  refine (eE h hr).weak fun D ρ H ⟨Z,ok,w⟩=>⟨Z,ok,?_⟩
  cases l with
  | nx s=>exact fun S' ρ' H' Z' ⟨x,e⟩ z ok'=>.inl ⟨s,x,Z',by rw [← e]; exact ok',WL.more (l:=n1 s) w z⟩
  | rt d=>exact w
  | er e =>
    have w':WL F Z J (if q e=true then n2 e else .stuck) D:=w
    by_cases hq:q e=true
    · rw [if_pos hq] at w'
      show WL F Z _ (if q e=true then (L.nx (Sum.inr e):L (τ ⊕ Nat)) else L.stuck) _
      rw [if_pos hq]
      exact fun S' ρ' H' Z' hj z ok'=>.inr ⟨e,Z',by have hj':S'=(blankS S).set j (some (.val (.exc e))):=hj; rw [← hB e,← hj']; exact ok',WL.more w' z⟩
    · rw [if_neg hq] at w'; exact w'.elim
  | stuck=>exact w
end
end FF
end
noncomputable section
set_option Elab.async false
set_option linter.all false
set_option maxRecDepth 100000
namespace FF
open PySem PySem.Spec PyProof.Rows L2
section
variable {X:Cx} {F:Fx} {e:Expr} {es:List Expr} {g g':SS→R D} {gs:List (SS→R D)} {k:Nat} {f:List D→R D} {pos:Pos}
theorem ff (h:FE X F e g) (hg:∀ S,g S=g' S):FE X F e g':=by
  have:g=g':=funext hg
  rw [← this]; exact h
theorem fO {st:Stmt} {g g':SS→O} (h:FS X F st g) (hg:∀ S,g S=g' S):FS X F st g':=by
  have:g=g':=funext hg
  rw [← this]; exact h
def aL:List (SS→R D)→SS→R (List D)
  | []=>aNil
  | g::gs=>aCons g (aL gs)
def eBA {α:Type} (f:List D→R α) (gs:List (SS→R D)):SS→R α:=fun S=>bA (gs.map fun g=>g S) f
theorem dA {α β:Type} {r:R α} {f f':α→R β} (h:∀ a,f a=f' a):r.bind f=r.bind f':=by cases r<;>first | exact h _ | rfl
theorem d8 {α:Type} (S:SS):∀ (gs:List (SS→R D)) (f:List D→R α),(aL gs S).bind f=eBA f gs S
  | [],f=>rfl
  | g::gs,f=>by
    show ((g S).bind fun d=>(aL gs S).bind fun ds=>R.ok (d::ds)).bind f=(g S).bind fun d=>bA (gs.map fun g=>g S) fun ds=>f (d::ds)
    rw [R.bind_assoc]
    refine dA fun d=>?_
    rw [R.bind_assoc]
    exact d8 S gs fun ds=>f (d::ds)
theorem ie {S:SS}:∀ {gs:List (SS→R D)} {ds:List D},aL gs S=.ok ds→ds.length=gs.length
  | [],ds,h=>by cases h; rfl
  | g::gs,ds,h=>pv (n:=gs.length) (fun S' ds' h'=>by
      by_cases q:S'=S
      · subst q; exact ie h'
      · exact ie (S:=S') h') S ds h
structure FAL (X:Cx) (F:Fx) (es:List Expr) (gs:List (SS→R D)):Prop where
  out:FA X F es (aL gs)
theorem ad:FAL X F [] []:=⟨vd⟩
theorem aa (ha:FE X F e g) (hr:FAL X F es gs) (hs:starEach (e::es) X.env=(false,eval e X.env)::starEach es X.env:=by rfl):FAL X F (e::es) (g::gs):=⟨sR ha hr.out hs⟩
theorem fe_N (h:FE X F e (eCall f (aL gs))):FE X F e (eBA f gs):=ff h fun S=>d8 S gs f
theorem af {x:Str} {p:Pos} {ps:List Str} (b:BX X F k) (h:Fn1 X.prog X.w F.K X.mg X.base F.C k x ps f) (hg:Gl X x) (ha:FAL X F (e::es) gs) (hn:gs.length=ps.length:=by rfl) (hdb:(x==("__debug__":Str))=false:=by decide)
    (he:starEach (e::es) X.env=(false,eval e X.env)::starEach es X.env:=by rfl) (hpl:(backTo pos (starEach es X.env)).any (·.1)=false:=by rfl):FE X F (.Call (.Name x p) (e::es) [] pos) (eBA f gs) :=
  fe_N (tm b h hg ha.out (fun S ds q=>(ie q).trans hn) hdb he hpl)
theorem aB {x1} (h:FAL X F es gs) (hl:gs.length≤16777216:=by exact Nat.le_of_ble_eq_true rfl):FE X F (.Tuple es x1 pos) (eBA (fun ds=>.ok (.tup ds)) gs) :=
  ff (ve h.out) fun S=>by
    rw [← d8]
    show (aL gs S).bind _=_
    cases q:aL gs S with
    | ok ds=>show (if ds.length≤16777216 then R.ok (FF.D.tup ds) else R.stuck)=_; rw [if_pos (by rw [ie q]; exact hl)]; rfl
    | err k=>rfl
    | stuck=>rfl
theorem aG (h:FAL X F es gs) (hl:gs.length≤16777216:=by exact Nat.le_of_ble_eq_true rfl):FE X F (.List es pos) (eBA (fun ds=>.ok (.lst ds)) gs) :=
  ff (vf h.out) fun S=>by
    rw [← d8]
    show (aL gs S).bind _=_
    cases q:aL gs S with
    | ok ds=>show (if ds.length≤16777216 then R.ok (FF.D.lst ds) else R.stuck)=_; rw [if_pos (by rw [ie q]; exact hl)]; rfl
    | err k=>rfl
    | stuck=>rfl
end
section
variable {X:Cx} {F:Fx} {k:Nat} {e f:Expr} {es:List Expr} {p pos:Pos} {x:Str}
theorem rC {i:Nat} (hm:X.mg x=some (.ref (F.C i))) (hg:Gl X x) (hd:(x==("__debug__":Str))=false:=by decide):FE X F (.Name x pos) (eC (.fn i)) :=
  fM (cq (v:=.ref (F.C i)) hg hm rfl hd) fun _=>by rw [Rep]
theorem rD {CX:CXT} {E:XK} {tf:TE} {t:TA} (hf:PE X f tf) (hr:Room k X.A) (hx:Passes CX X E) (ha:PA X (e::es) t)
    (hev:eval (.Call f (e::es) [] pos) X.env=(do callWith pos (← eval f X.env) [] (backTo pos (starEach (e::es) X.env)) (backToKw pos (keywordEach [] X.env))):=by rfl)
    (he:starEach (e::es) X.env=(false,eval e X.env)::starEach es X.env:=by rfl) (hpl:(backTo pos (starEach es X.env)).any (·.1)=false:=by rfl) :
    PE X (.Call f (e::es) [] pos) (fun σ H Q=>tf σ H fun v H1=>∃ a fd ps sp,v=.ref a∧FnOk X.prog X.w X.K X.mg X.base CX k a fd ps sp∧PySem.W.keepIn X.K (.ref a)=true∧Binds X.K fd ps []∧t σ H1 fun vs H2=>sp (vs++[]) H2 Q E):=by
  intro pins s σ H Q I h
  rw [hev]
  refine wpAny_bind (thn (hf pins s σ H _ I h) fun u s1 ⟨v,H1,I1,r,a,fd,ps,sp,ev,FO,hk,hb,q⟩=>?_)
  subst ev
  cases r
  refine PySem.W.callWith_K (h₀:=X.base) I1.ok.mod.kin hk (thn (ha pos pins s1 σ H1 _ I1 q) fun us s2 ⟨vs,H2,I2,r2,q2⟩=>⟨I2.kIn,?_⟩) he hpl
  exact qG FO hr hb .nil hx I2 r2 q2
structure FnV (P:Program) (w:World) (K:PySem.W.Frag) (mg:Str→Option Value) (base:Heap) (C:Nat→Addr) (k:Nat) (i:Nat) (f:List D→R D):Prop where
  ex:∃ fd ps,FnOk P w K mg base (CXE P w) k (C i) fd ps (spF K C ps.length f)∧PySem.W.keepIn K (.ref (C i))=true∧Binds K fd ps []∧∀ ds,ds.length≠ps.length→f ds=.stuck
def eCV (fs:List Nat) (t:Nat→List D→R D) (gf:SS→R D) (gs:List (SS→R D)):SS→R D:=fun S=>(gf S).bind fun f=>onF fs f fun i=>bA (gs.map fun g=>g S) (t i)
theorem lU {fs:List Nat} {t:Nat→List D→R D} {gf:SS→R D} {gs:List (SS→R D)} (b:BX X F k) (hT:∀ i∈fs,FnV X.prog X.w F.K X.mg X.base F.C k i (t i)) (hf:FE X F f gf) (ha:FAL X F (e::es) gs)
    (hev:eval (.Call f (e::es) [] pos) X.env=(do callWith pos (← eval f X.env) [] (backTo pos (starEach (e::es) X.env)) (backToKw pos (keywordEach [] X.env))):=by rfl)
    (he:starEach (e::es) X.env=(false,eval e X.env)::starEach es X.env:=by rfl) (hpl:(backTo pos (starEach es X.env)).any (·.1)=false:=by rfl) :
    FE X F (.Call f (e::es) [] pos) (eCV fs t gf gs) :=
  (rD hf b.room b.pass ha.out hev he hpl).weak fun σ H Q ⟨Z,S,ok,w⟩=>by
    refine aU ok w fun d v H1 Z1 ok1 x1 rv w1=>?_
    cases d with
    | fn i =>
      by_cases hi:fs.contains i=true
      · rw [Rep] at rv
        obtain ⟨fd,ps,h1,h2,h3,h4⟩:=(hT i (by simpa using hi)).ex
        refine ⟨F.C i,fd,ps,_,rv,by rw [b.K]; exact h1,by rw [b.K]; exact h2,by rw [b.K]; exact h3,?_⟩
        have e0:onF fs (.fn i) (fun i=>bA (gs.map fun g=>g S) (t i))=(aL gs S).bind (t i):=by
          rw [d8]
          show (if fs.contains i=true then _ else R.stuck)=_
          rw [if_pos hi]; rfl
        rw [e0] at w1
        refine bH ok1 w1 fun ds vs H2 Z2 ok2 x2 rs w4=>?_
        by_cases hl:ds.length=ps.length
        · refine ⟨by rw [List.append_nil,← rs.length]; exact hl,Z2,ds,ok2.sub,by rw [List.append_nil]; exact rs,?_⟩
          cases q:t i ds with
          | ok d=>rw [q] at w4; exact w4
          | err k=>rw [q] at w4; exact w4
          | stuck=>rw [q] at w4; exact w4
        · rw [h4 ds hl] at w4; exact w4.elim
      · have e0:onF fs (.fn i) (fun i=>bA (gs.map fun g=>g S) (t i))=.stuck:=by
          show (if fs.contains i=true then _ else R.stuck)=_
          rw [if_neg hi]
        rw [e0] at w1
        exact w1.elim
    | _=>exact w1.elim
end
theorem lV {S:SS} {g:D→SS→R SS} {c:SS→R Bool} {e:SS→R D}:∀ ds,noErr (compGo S g c e ds)=cGo (fun d=>(g d S).bind c) (fun d=>(g d S).bind e) ds
  | []=>rfl
  | d::r=>by
    have ih:=lV (S:=S) (g:=g) (c:=c) (e:=e) r
    rw [cGo,compGo]
    cases q:g d S with
    | err k=>rfl
    | stuck=>rfl
    | ok S1 =>
      show noErr ((c S1).bind fun t=>if t=true then (e S1).bind fun y=>(compGo S g c e r).bind fun ys=>.ok (y::ys) else compGo S g c e r)=(match c S1 with
        | .ok true=>match e S1 with
          | .ok y=>match cGo _ _ r with
            | .ok ys=>.ok (y::ys)
            | _=>.stuck
          | _=>.stuck
        | .ok false=>cGo _ _ r
        | _=>.stuck)
      cases qc:c S1 with
      | err k=>rfl
      | stuck=>rfl
      | ok t =>
        cases t with
        | false=>exact ih
        | true =>
          show noErr ((e S1).bind fun y=>(compGo S g c e r).bind fun ys=>.ok (y::ys))=(match e S1 with
            | .ok y=>match cGo _ _ r with
              | .ok ys=>.ok (y::ys)
              | _=>.stuck
            | _=>.stuck)
          cases qe:e S1 with
          | err k=>rfl
          | stuck=>rfl
          | ok y =>
            rw [← ih]
            show noErr ((compGo S g c e r).bind fun ys=>.ok (y::ys))=(match noErr (compGo S g c e r) with
              | .ok ys=>.ok (y::ys)
              | _=>.stuck)
            cases compGo S g c e r<;>rfl
def eCC (own:Nat) (cap:List Nat) (it:SS→R (List D)) (g:D→SS→R SS) (c:SS→R Bool) (e:SS→R D):SS→R D:=fun S=>(it S).bind fun ds=>(cGo (fun d=>(g d (blkS own cap S)).bind c) (fun d=>(g d (blkS own cap S)).bind e) ds).bind fun ys=>.ok (.lst ys)
theorem gC {own:Nat} {cap:List Nat} {it:SS→R (List D)} {g:D→SS→R SS} {c:SS→R Bool} {e:SS→R D} (S:SS):eComp own cap it g c e S=eCC own cap it g c e S:=by
  unfold eComp eCC
  exact dA fun ds=>by rw [lV]
def eC2 (own:Nat) (cap:List Nat) (it:SS→R (List D)) (i j:Nat) (c:SS→R Bool) (e:SS→R D):SS→R D:=fun S=>(it S).bind fun ds =>
  (cGo (fun d=>un2 d fun x y=>c (((blkS own cap S).set i (some (.val x))).set j (some (.val y)))) (fun d=>un2 d fun x y=>e (((blkS own cap S).set i (some (.val x))).set j (some (.val y)))) ds).bind fun ys=>.ok (.lst ys)
theorem lW {α:Type} {i j:Nat} {S:SS} {f:SS→R α} (d:D):(gTup [i,j] d S).bind f=un2 d fun x y=>f ((S.set i (some (.val x))).set j (some (.val y))):=by
  cases d with
  | tup ds =>
    match ds with
    | []=>rfl
    | [_]=>rfl
    | [x,y]=>rfl
    | _::_::_::_=>unfold gTup un2; simp
  | _=>rfl
theorem oI {own:Nat} {cap:List Nat} {it:SS→R (List D)} {i j:Nat} {c:SS→R Bool} {e:SS→R D} (S:SS):eCC own cap it (gTup [i,j]) c e S=eC2 own cap it i j c e S:=by
  unfold eCC eC2
  exact dA fun ds=>by rw [show (fun d=>(gTup [i,j] d (blkS own cap S)).bind c)=_ from funext fun d=>lW d,show (fun d=>(gTup [i,j] d (blkS own cap S)).bind e)=_ from funext fun d=>lW d]
theorem fe_C {X:Cx} {F:Fx} {e:Expr} {own:Nat} {cap:List Nat} {it:SS→R (List D)} {g:D→SS→R SS} {c:SS→R Bool} {el:SS→R D} (h:FE X F e (eComp own cap it g c el)):FE X F e (eCC own cap it g c el):=ff h gC
theorem we {X:Cx} {F:Fx} {e:Expr} {own:Nat} {cap:List Nat} {it:SS→R (List D)} {i j:Nat} {c:SS→R Bool} {el:SS→R D} (h:FE X F e (eComp own cap it (gTup [i,j]) c el)):FE X F e (eC2 own cap it i j c el):=ff h fun S=>(gC S).trans (oI S)
theorem fs_C {X:Cx} {F:Fx} {st:Stmt} {n own:Nat} {cap:List Nat} {it:SS→R (List D)} {g:D→SS→R SS} {c:SS→R Bool} {el:SS→R D} (h:FS X F st (sSet n (eComp own cap it g c el))):FS X F st (sSet n (eCC own cap it g c el)):=fO h fun S=>by unfold sSet; rw [gC]
theorem wf {X:Cx} {F:Fx} {st:Stmt} {n own:Nat} {cap:List Nat} {it:SS→R (List D)} {i j:Nat} {c:SS→R Bool} {el:SS→R D} (h:FS X F st (sSet n (eComp own cap it (gTup [i,j]) c el))):FS X F st (sSet n (eC2 own cap it i j c el)):=fO h fun S=>by unfold sSet; rw [gC,oI]
section
variable {X:Cx} {F:Fx} {st:Stmt} {i:Nat} {g:SS→R D}
def sAppC (i:Nat) (g:SS→R D):SS→O:=fun S=>match S[i]? with
  | some (some (.own ds))=>rO (((g S).bind fun v=>oApp ds v).bind fun ds'=>.ok (.nx (S.set i (some (.own ds')))))
  | _=>.stuck
theorem lX {α:Type} (r:R D) (f:List D→R α):((r.bind fun d=>(R.ok []:R (List D)).bind fun ds=>R.ok (d::ds)).bind f)=r.bind fun d=>f [d]:=by cases r<;>rfl
theorem fs_A (h:FS X F st (sApp i (aL [g]))):FS X F st (sAppC i g):=fO h fun S=>by
  unfold sApp sAppC
  cases q:S[i]? with
  | none=>rfl
  | some o =>
    cases o with
    | none=>rfl
    | some x =>
      cases x with
      | val d=>rfl
      | own ds =>
        show rO (((g S).bind fun d=>(R.ok []:R (List D)).bind fun ds=>R.ok (d::ds)).bind _)=rO _
        rw [lX,R.bind_assoc]
        refine congrArg rO (dA fun v=>?_)
        unfold oApp
        show (if _ then _ else _)=_
        split<;>rfl
def sExtC (i:Nat) (g:SS→R D):SS→O:=fun S=>match S[i]? with
  | some (some (.own ds))=>rO (((g S).bind fun v=>oExt ds v).bind fun ds'=>.ok (.nx (S.set i (some (.own ds')))))
  | _=>.stuck
theorem fs_X (h:FS X F st (sExt i (aL [g]))):FS X F st (sExtC i g):=fO h fun S=>by
  unfold sExt sExtC
  cases q:S[i]? with
  | none=>rfl
  | some o =>
    cases o with
    | none=>rfl
    | some x =>
      cases x with
      | val d=>rfl
      | own ds =>
        show rO (((g S).bind fun d=>(R.ok []:R (List D)).bind fun ds=>R.ok (d::ds)).bind _)=rO _
        rw [lX,R.bind_assoc]
        refine congrArg rO (dA fun v=>?_)
        unfold oExt
        cases v with
        | lst xs=>by_cases hl:ds.length+xs.length≤16777216<;>simp [hl]
        | tup xs=>by_cases hl:ds.length+xs.length≤16777216<;>simp [hl]
        | _=>rfl
def sOwnC (i:Nat) (gs:List (SS→R D)):SS→O:=fun S=>rO ((eBA .ok gs S).bind fun ds=>.ok (.nx (S.set i (some (.own ds)))))
theorem fs_O {gs:List (SS→R D)} (h:FS X F st (sOwn i (aL gs))) (hl:gs.length≤16777216:=by exact Nat.le_of_ble_eq_true rfl):FS X F st (sOwnC i gs):=fO h fun S=>by
  unfold sOwn sOwnC
  rw [← d8,R.bind_assoc]
  refine congrArg rO ?_
  cases q:aL gs S with
  | ok ds=>show (if ds.length≤16777216 then _ else _)=_; rw [if_pos (by rw [ie q]; exact hl)]; rfl
  | err k=>rfl
  | stuck=>rfl
end
section
variable {X:Cx} {F:Fx} {e tg:Expr} {g ga:SS→R D} {f:List D→List D→R D} {gs:List (SS→R D)}
def eML (f:List D→List D→R D) (g:SS→R D) (gs:List (SS→R D)):SS→R D:=fun S=>(g S).bind fun d=>onL d fun xs=>bA (gs.map fun g=>g S) (f xs)
theorem rE (h:FE X F e (eMethL f g (aL gs))):FE X F e (eML f g gs):=ff h fun S=>by
  unfold eMethL eML
  refine dA fun d=>?_
  cases d with
  | lst xs=>exact d8 S gs (f xs)
  | _=>rfl
theorem tQ {g g':SS→R (List D)} (h:FI X F tg e g) (hg:∀ S,g S=g' S):FI X F tg e g':=by
  have:g=g':=funext hg
  rw [← this]; exact h
theorem jv (h:FI X F tg e (iRange1 (aL gs))):FI X F tg e (eBA rng1 gs):=tQ h fun S=>d8 S gs rng1
end
theorem uA {k:D→L Unit} {ds:List D} (h:ds.length≠1):a1 k ds=.stuck:=by
  match ds,h with
  | [],_=>rfl
  | [_],h=>exact absurd rfl h
  | _::_::_,_=>rfl
theorem wj {k:D→D→L Unit} {ds:List D} (h:ds.length≠2):a2 k ds=.stuck:=by
  match ds,h with
  | [],_=>rfl
  | [_],_=>rfl
  | [_,_],h=>exact absurd rfl h
  | _::_::_::_,_=>rfl
section
variable {σ:Type} {X:Cx} {F:Fx} {S:SS} {st:Stmt} {rest:List Stmt} {J:σ→SS→Prop}
theorem tR (i j:Nat) {ga gb:SS→R D} {ra rb:R D} {S':D→D→SS} {k:D→D→L σ} (h:FS X F st (sAsg (gTup [i,j]) (eTup (aL [ga,gb])))) (ha:ga S=ra) (hb:gb S=rb) (hS:∀ x y,(S.set i (some (.val x))).set j (some (.val y))=S' x y)
    (hk:∀ x y,FL X F (S' x y) rest J (k x y)):FL X F S (st::rest) J (lB ra fun x=>lB rb fun y=>k x y):=by
  have e:sAsg (gTup [i,j]) (eTup (aL [ga,gb])) S=rO ((ra.bind fun x=>rb.bind fun y=>R.ok (x,y)).bind fun p=>.ok (.nx (S' p.1 p.2))):=by
    unfold sAsg eTup
    show rO (((((ga S).bind fun d=>((gb S).bind fun d=>(R.ok []:R (List D)).bind fun ds=>R.ok (d::ds)).bind fun ds=>R.ok (d::ds)).bind fun ds=>if ds.length≤16777216 then R.ok (FF.D.tup ds) else .stuck)).bind fun d=>(gTup [i,j] d S).bind fun S1=>R.ok (O.nx S1))=_
    rw [ha,hb]
    cases ra with
    | err k=>rfl
    | stuck=>rfl
    | ok x =>
      cases rb with
      | err k=>rfl
      | stuck=>rfl
      | ok y=>show O.nx ((S.set i (some (.val x))).set j (some (.val y)))=O.nx (S' x y); rw [hS]
  have:=ak (rest:=rest) (J:=J) (S:=S) (r:=ra.bind fun x=>rb.bind fun y=>R.ok (x,y)) (S':=fun p=>S' p.1 p.2) (k:=fun p=>k p.1 p.2) h e fun p=>hk p.1 p.2
  have q:lB (ra.bind fun x=>rb.bind fun y=>R.ok (x,y)) (fun p=>k p.1 p.2)=lB ra fun x=>lB rb fun y=>k x y:=by
    cases ra with
    | ok x=>cases rb<;>rfl
    | err k=>rfl
    | stuck=>rfl
  rw [q] at this
  exact this
end
section
variable {P:Program} {w:World} {K:PySem.W.Frag} {mg:Str→Option Value} {base:Heap}
theorem ao {x qual:Str} {st:Stmt} {f:Addr} {fd:FuncData} {N ps:List Str} {k:Nat} {C:Nat→Addr} {fn:List D→R D} (F:Fun K x qual st f fd) (S:FnScope N ps (defScope st))
    (h:∀ (cdv:Value) (A:Around) (outer:List Env) (s:Shared) (H Z:Hp) (E:XK),BX (bodyX P w K mg base N qual (defScope st) f cdv A outer s H E) ⟨K,C,H,Z,E⟩ k →
      PassesOwn (model P w) (bodyX P w K mg base N qual (defScope st) f cdv A outer s H E).A (bodyX P w K mg base N qual (defScope st) f cdv A outer s H E).env (bodyX P w K mg base N qual (defScope st) f cdv A outer s H E).xe →
      MadeX (bodyX P w K mg base N qual (defScope st) f cdv A outer s H E) ⟨K,C,H,Z,E⟩ →
      ∀ ds,ds.length=ps.length→∃ l:L Unit,fn ds=outL l∧FL (bodyX P w K mg base N qual (defScope st) f cdv A outer s H E) ⟨K,C,H,Z,E⟩ (startS N.length ds) (defBody st) JU l) :
    FnOk P w K mg base (CXE P w) (k+1) f fd ps (spF K C ps.length fn):=by
  obtain ⟨oc,od,kV,doc,pm,an,cdv,ct,osl,rfl,lk,hcd⟩:=F.ex
  refine uw lk hcd S (fun vs H Q E q=>q.1) fun A outer s H vs Q E hr hsp=>?_
  obtain ⟨hv,Z,ds,z,r,w⟩:=hsp
  obtain ⟨l,e,hl⟩:=h cdv A outer s H Z E ⟨hr,rfl,rfl,kz⟩ PassesOwn.leaving (fun pins σ H1 s1 h1 ea C1 args I hx hE=>pj I hx hE) ds (by rw [r.length]; exact hv)
  refine ⟨_,hl,Z,lK (F:=⟨K,C,H,Z,E⟩) (N:=N) z r,?_⟩
  rw [e] at w
  cases l with
  | nx u=>exact fun S' ρ' H' Z' _ _ ok=>w H' Z' ok.ex .non (by rw [Rep])
  | rt d=>exact fun v H' Z' x rv=>w H' Z' x v rv
  | er k=>exact w
  | stuck=>exact w
end
theorem len1 {ds:List D} (h:ds.length=1):∃ a,ds=[a]:=by
  match ds,h with
  | [a],_=>exact ⟨a,rfl⟩
theorem len2 {ds:List D} (h:ds.length=2):∃ a b,ds=[a,b]:=by
  match ds,h with
  | [a,b],_=>exact ⟨a,b,rfl⟩
theorem len3 {ds:List D} (h:ds.length=3):∃ a b c,ds=[a,b,c]:=by
  match ds,h with
  | [a,b,c],_=>exact ⟨a,b,c,rfl⟩
end FF
end
noncomputable section
set_option Elab.async false
set_option linter.all false
set_option maxRecDepth 100000
namespace FF
open PySem PySem.Spec PyProof.Rows L2
section
variable {X:Cx} {F:Fx} {st:Stmt} {i:Nat} {g ge:SS→R D}
end
section
variable {X:Cx} {F:Fx} {pins:List (Addr×Obj)} {σ:St} {H Z:Hp} {s:Shared}
open Classical in
end
section
variable {X:Cx} {F:Fx} {a b:Expr} {ga gb:SS→R D} {pos:Pos} {k:Nat}
end
section
variable {X:Cx} {F:Fx} {p pos:Pos} {e e2:Expr} {gs:SS→R (List D)} {k:Nat}
end
section
variable {X:Cx} {F:Fx} {pos p1 p2:Pos} {x y:Str} {kk:Nat}
theorem oJ (i j:Nat) (hc:X.calm=true) (hN:X.N.Nodup) (hij:i≠j:=by decide) (hi:X.N[i]?=some x:=by rfl) (hj:X.N[j]?=some y:=by rfl) (hx:Loc X.env.scope x:=by first | exact Or.inl rfl | exact Or.inr rfl) (hy:Loc X.env.scope y:=by first | exact Or.inl rfl | exact Or.inr rfl)
    (hfx:X.fn x=true∨X.env.scope.names.lookup x=some .local:=by first | exact .inl rfl | exact .inr rfl) (hfy:X.fn y=true∨X.env.scope.names.lookup y=some .local:=by first | exact .inl rfl | exact .inr rfl)
    (hK:X.K=F.K:=by first | rfl | assumption) (hn:(assignEach [.Name x p1,.Name y p2] X.env).length=2:=by rfl) (hst:(assignEach [.Name x p1,.Name y p2] X.env).findIdx? (·.1)=none:=by rfl):FG X F (.Tuple [.Name x p1,.Name y p2] kk pos) (gTup [i,j]) :=
  (uT hc (lA (kQ (i:=i) hN hi hx hfx) (lA (kQ (i:=j) hN hj hy hfy) sE)) hn hst).weak fun v σ H Q ⟨Z,S,d,ok,rd,w⟩=>by
    cases d with
    | tup ds =>
      match ds with
      | [a,b] =>
        rw [Rep] at rd
        obtain ⟨c,vs,rfl,h1,h2⟩:=rd
        rw [Reps] at h2
        obtain ⟨v1,r,rfl,q1,h2⟩:=h2
        rw [Reps] at h2
        obtain ⟨v2,r,rfl,q2,h2⟩:=h2
        rw [Reps] at h2
        subst h2
        refine ⟨c,[v1,v2],rfl,by rw [hK]; exact h1.mono ok.sub,rfl,v1,[v2],rfl,v2,[],rfl,rfl,?_⟩
        exact WG.now w ok.sub _ ((ok.setVal (i:=i) q1).setVal (i:=j) q2)
      | []=>exact w.elim
      | [_]=>exact w.elim
      | a::b::c::r =>
        have e:gTup [i,j] (.tup (a::b::c::r)) S=.stuck:=by unfold gTup; simp
        rw [e] at w
        exact w.elim
    | _=>exact w.elim
theorem lY {own i j:Nat} (hi:i < own) (hj:j < own):Own own (gTup [i,j]):=fun d S S1 e=>by
  cases d with
  | tup ds =>
    match ds with
    | [a,b] =>
      have e':R.ok ((S.set i (some (.val a))).set j (some (.val b)))=R.ok S1:=e
      cases e'
      refine ⟨by simp,fun n hn=>?_⟩
      rw [List.getElem?_set_ne (by omega),List.getElem?_set_ne (by omega)]
    | []=>cases e
    | [_]=>cases e
    | a::b::c::r =>
      have q:gTup [i,j] (.tup (a::b::c::r)) S=.stuck:=by unfold gTup; simp
      rw [q] at e
      cases e
  | _=>cases e
end
end FF
end
noncomputable section
set_option Elab.async false
set_option linter.all false
set_option maxRecDepth 100000
namespace FF
open PySem PySem.Spec PyProof.Rows L2
theorem iG:∀ (l acc:List Int),l.foldl step_dedup acc=acc++(l.filter fun x=>!acc.any (· == x)).eraseDups
  | [],acc=>by simp
  | x::l,acc=>by
    rw [List.foldl_cons,iG l]
    unfold step_dedup
    by_cases h:acc.any (· == x)=true
    · rw [if_pos h,List.filter_cons_of_neg (by rw [h]; decide)]
    · have h':acc.any (· == x)=false:=Bool.not_eq_true _ ▸ h
      have ef:(l.filter fun y=>!(acc++[x]).any (· == y))=(l.filter fun y=>!acc.any (· == y)).filter fun b=>!b==x:=by
        rw [List.filter_filter]
        refine List.filter_congr fun y _=>?_
        rw [List.any_append]
        have:([x].any fun z=>z==y)=(y==x):=by simp [Bool.beq_comm,BEq.comm]
        rw [this]
        cases acc.any (· == y)<;>cases (y==x)<;>rfl
      rw [if_neg h,List.filter_cons_of_pos (by rw [h']; rfl),List.eraseDups_cons,ef,List.append_assoc]
      rfl
theorem j9 (is:List Int):(firstMet (fun i=>is.getD i 0) is.length).length=is.eraseDups.length:=by
  unfold firstMet
  rw [iG]
  have:(List.range is.length).map (fun i=>is.getD i 0)=is:=by
    apply List.ext_getElem?
    intro i
    rw [List.getElem?_map]
    by_cases h:i < is.length
    · rw [List.getElem?_range h,List.getElem?_eq_getElem h]; simp [List.getD,h]
    · rw [List.getElem?_eq_none (by simpa using h),List.getElem?_eq_none (by simpa using h)]; rfl
  rw [this]
  have:(is.filter fun x=>!([]:List Int).any (· == x))=is:=List.filter_eq_self.mpr fun _ _=>rfl
  rw [this,List.nil_append]
section
variable {X:Cx} {F:Fx} {p p2 pos pos2:Pos} {e:Expr} {gs:SS→R (List D)} {k:Nat}
theorem rF (hc:X.calm=true):CallR X (.type "set") (fun xs H Q=>∃ (p:Addr) (is:List Int),xs=[.ref p]∧SqL X.K H p (is.map V.int)∧is.length≤4000∧∀ a,H a=none→Q (.ref a) (upd H a (.set (fun k'=>(firstMet (fun i=>is.getD i 0) is.length).any (· == k')) is.eraseDups.length))):=by
  intro pins s σ H xs us Q I r h
  obtain ⟨p,is,rfl,hq,hl,q⟩:=h
  obtain ⟨u,rfl,ru⟩:=vals1 r
  cases ru
  obtain ⟨its,rv,pl,hz⟩:=I.list hq
  obtain ⟨ps,rfl,e⟩:=dv rv
  have hlen:ps.length=is.length:=by rw [← e,List.length_map]
  have hs:(ps.map fun p=>Value.int p.1 p.2).toArray.size=is.length:=by simp [hlen]
  refine call_set_list (ns:=is) (I.ok.hd hc) pl.isList ?_ (by rw [hs]; show is.length+1 < 4096; omega) fun h' tk hS hk=>?_
  · have:∀ (ps:List (Int×Tok)),IntsAre (ps.map fun p=>Value.int p.1 p.2) (ps.map (·.1)):=by
      intro ps
      induction ps with
      | nil=>exact .nil
      | cons a l ih=>exact .cons a.1 a.2 ih
    rw [← e]
    exact this ps
  · rw [hs,j9] at hS
    exact ⟨.ref s.heap.objs.size,_,I.laid (o:=.set (fun k'=>(firstMet (fun i=>is.getD i 0) is.length).any (· == k')) is.eraseDups.length) (t':=tk) (fun b u q=>hk b u (Heap.lt_size q) q) (Nat.le_refl _) hS,rfl,q _ I.fresh⟩
theorem lZ:CallR X (.builtin "len") (fun xs H Q=>∃ (a:Addr) (S:Int→Bool) (n:Nat),xs=[.ref a]∧H a=some (.set S n)∧Q (.int n) H):=by
  intro pins s σ H xs us Q I r h
  obtain ⟨a,S,n,rfl,hq,q⟩:=h
  obtain ⟨u,rfl,ru⟩:=vals1 r
  cases ru
  obtain ⟨o,es,ep,t,h1,h2,h3,h4,h5,h6,h7,h8⟩:=(show s.heap.SetOf (intKind X.prog X.w) a S n from I.hok a _ hq)
  subst h8
  have:es.size < 4096:=h6
  exact call_len_set h1 h2 h3 h7 (by omega) ⟨.int es.size,H,I.tok _,⟨_,rfl⟩,q⟩
theorem pP (bx:BX X F k) (hg:Gl X "len") (hm:X.mg "len"=none) (hg2:Gl X "set") (hm2:X.mg "set"=none) (ha:FA X F [e] gs) (he:starEach [e] X.env=(false,eval e X.env)::starEach [] X.env:=by rfl) (hpl:(backTo pos2 (starEach [] X.env)).any (·.1)=false:=by rfl)
    (he2:starEach [.Call (.Name "set" p2) [e] [] pos2] X.env=(false,eval (.Call (.Name "set" p2) [e] [] pos2) X.env)::starEach [] X.env:=by rfl) (hpl2:(backTo pos (starEach [] X.env)).any (·.1)=false:=by rfl) :
    FE X F (.Call (.Name "len" p) [.Call (.Name "set" p2) [e] [] pos2] [] pos) (eCall dLenSet gs) :=
  (jb lZ hg hm PySem.boot_len (i5 (kv (rF bx.calm) hg2 hm2 (by decide +kernel) ha (he:=he) (hpl:=hpl)) m7 he2) (he:=he2) (hpl:=hpl2)).weak fun σ H Q ⟨Z,S,ok,w⟩=>by
    refine bH ok w fun ds vs H1 Z1 ok1 x1 rs w1=>?_
    unfold dLenSet at w1
    split at w1
    · rename_i xs
      split at w1
      · rename_i is e
        split at w1
        · rename_i hl
          obtain ⟨v,rfl,h⟩:=cO rs
          rw [Rep] at h
          obtain ⟨a,us,rfl,h1,h2⟩:=h
          have e2:=gh h2 e
          subst e2
          refine ⟨a,is,rfl,by rw [bx.K]; exact ok1.sub.seq h1,hl,fun c hc=>⟨c,_,_,rfl,ar,?_⟩⟩
          exact w1 _ _ (Ex.hidden ok1.sub hc) _ bi
        · exact w1.elim
      · exact w1.elim
    · exact w1.elim
end
end FF
end
noncomputable section
set_option Elab.async false
set_option linter.all false
set_option maxRecDepth 100000
namespace FF
open PySem PySem.Spec PyProof.Rows L2
section
variable {X:Cx} {F:Fx}
variable {σ:Type} {S:SS} {rest:List Stmt} {J:σ→SS→Prop} {e:Expr} {ge:SS→R D} {r:R D} {n:Nat}
end
end FF
end
noncomputable section
set_option Elab.async false
set_option linter.all false
set_option maxRecDepth 100000
namespace L2
open PySem PySem.Spec PyProof.Rows
section
variable {X:Cx} {pos:Pos}
end
end L2
namespace FF
open PySem PySem.Spec PyProof.Rows L2
section
variable {X:Cx} {F:Fx} {σ:Type} {S:SS} {st:Stmt} {rest:List Stmt} {J:σ→SS→Prop}
end
end FF
end
noncomputable section
set_option Elab.async false
set_option linter.all false
set_option maxRecDepth 100000
namespace FF
open PySem PySem.Spec PyProof.Rows L2
section
variable {prog:Program} {w:World} {A:Around} {E:Value→Shared→Prop} {s:Shared}
theorem gD {it t:Addr} {i:Nat} {items:Array Value} {x:Value} {Q:Value→Shared→Prop} (hit:s.heap.IsTupleIter it t i)
    (hl:s.heap.IsTuple t items) (hx:items[i]?=some x)
    (hQ:∀ h',h'.IsTupleIter it t (i+1)→Heap.SameBut it s.heap h'→Q x { s with heap:=h' }) :
    wpAny (model prog w) A (Builtin.SmallTypes.nextOf (.ref it)) Q E s:=by
  obtain ⟨o,ho,hc,hd⟩:=id hit
  obtain ⟨ol,hol,_,nl,hdl⟩:=hl
  unfold Builtin.SmallTypes.nextOf
  refine wpAny_bind (wpAny_callSpecial?_slot (name:=Str.ofString "__next__") hit.typeIs F.slot_tuple_iterator_next
    (wpAny_call_entry F.slot_tuple_iterator_next hit.typeIs F.entry_tuple_iterator_next ?_ (F.args_tuple_iterator_next_1 _)))
  show wpAny _ _ (field (.ref it) 0 >>= _) _ _ s
  refine wpAny_bind (wpAny_field ho hd (x:=.ref t) rfl ?_)
  show wpAny _ _ (if (Value.ref t==Value.none)=true then _ else _) _ _ s
  rw [if_neg (show ¬ ((Value.ref t==Value.none)=true) from Bool.false_ne_true)]
  show wpAny _ _ (field (.ref it) 1 >>= _) _ _ s
  refine wpAny_bind (wpAny_field ho hd (x:=.int i 0) rfl ?_)
  show wpAny _ _ (seqItems? (.ref t) >>= _) _ _ s
  refine wpAny_bind (wpAny_seqItems hol hdl ?_)
  simp only [Int.toNat_natCast,hx]
  refine wpAny_bind (wpAny_setField ho hd (by simp) (wpAny_pure ⟨x,rfl,wpAny_pure (hQ _ ?_ (Heap.SameBut.update ..))⟩))
  exact ⟨_,Heap.get?_update_self _ ho (Obj.isFreed_of_fields (Obj.data_mapFields hd _)),(Obj.cls_mapFields ..).trans hc,by
    rw [Obj.data_mapFields hd]; simp [rawInt]⟩
theorem ig {it t:Addr} {i:Nat} {items:Array Value} {Q:Value→Shared→Prop} (hh:A.handled=none)
    (hit:s.heap.IsTupleIter it t i) (hl:s.heap.IsTuple t items) (hx:items[i]?=none)
    (hE:∀ h' e,Heap.ExtBut it s.heap h'→(∃ o,h'.get? e=some o∧o.cls=.type "StopIteration")→E (.ref e) { s with heap:=h' }) :
    wpAny (model prog w) A (Builtin.SmallTypes.nextOf (.ref it)) Q E s:=by
  obtain ⟨o,ho,hc,hd⟩:=id hit
  obtain ⟨ol,hol,_,nl,hdl⟩:=hl
  unfold Builtin.SmallTypes.nextOf
  refine wpAny_bind (wpAny_callSpecial?_slot (name:=Str.ofString "__next__") hit.typeIs F.slot_tuple_iterator_next
    (wpAny_call_entry F.slot_tuple_iterator_next hit.typeIs F.entry_tuple_iterator_next ?_ (F.args_tuple_iterator_next_1 _)))
  show wpAny _ _ (field (.ref it) 0 >>= _) _ _ s
  refine wpAny_bind (wpAny_field ho hd (x:=.ref t) rfl ?_)
  show wpAny _ _ (if (Value.ref t==Value.none)=true then _ else _) _ _ s
  rw [if_neg (show ¬ ((Value.ref t==Value.none)=true) from Bool.false_ne_true)]
  show wpAny _ _ (field (.ref it) 1 >>= _) _ _ s
  refine wpAny_bind (wpAny_field ho hd (x:=.int i 0) rfl ?_)
  show wpAny _ _ (seqItems? (.ref t) >>= _) _ _ s
  refine wpAny_bind (wpAny_seqItems hol hdl ?_)
  simp only [Int.toNat_natCast,hx]
  refine wpAny_bind (wpAny_rule (wpAny_bind (wpAny_setField ho hd (by simp) ?_)))
  show wpAny _ _ (newExc (.type "StopIteration") [] >>= _) _ _ _
  refine wpAny_bind ?_
  simp only [newExc,newTuple]
  refine wpAny_bind (wpAny_newObj_type ?_ (by size_fits))
  refine wpAny_bind (m:=firstArgMember _ _) (wpAny_of_eq (a:=Value.none) (by first | rfl | (simp only [firstArgMember]; rfl)) ?_)
  refine wpAny_newObj_type ?_ (by size_fits)
  simp only [raiseNew]
  refine wpAny_bind (wpAny_handled ?_)
  first | rw [show A.in1.handled=none from hh] | rw [hh]
  refine wpAny_bind (wpAny_pure (wpAny_throw ?_))
  exact hE _ _ (((Heap.SameBut.update ..).extBut.push _).push _) ⟨_,Heap.get?_push_size _ rfl,rfl⟩
def SIt (h:Heap) (b:Bool) (it a:Addr) (k:Nat):Prop:=if b=true then h.IsTupleIter it a k else h.IsListIter it a k
def SOb (h:Heap) (b:Bool) (a:Addr) (xs:Array Value):Prop:=if b=true then h.IsTuple a xs else h.IsList a xs
theorem SIt.at {h h':Heap} {b:Bool} {it a:Addr} {k:Nat} (x:SIt h b it a k) (f:∀ o,h.get? it=some o→h'.get? it=some o):SIt h' b it a k:=by
  cases b<;>(obtain ⟨o,ho,r⟩:=x; exact ⟨o,f o ho,r⟩)
theorem SOb.at {h h':Heap} {b:Bool} {a:Addr} {xs:Array Value} (x:SOb h b a xs) (f:∀ o,h.get? a=some o→h'.get? a=some o):SOb h' b a xs:=by
  cases b<;>(obtain ⟨o,ho,r⟩:=x; exact ⟨o,f o ho,r⟩)
theorem SIt.lt {h:Heap} {b:Bool} {it a:Addr} {k:Nat} (x:SIt h b it a k):∃ o,h.get? it=some o∧∀ v,o.data≠.cell v:=by
  cases b<;>(obtain ⟨o,ho,_,hd⟩:=x; exact ⟨o,ho,fun v z=>by rw [hd] at z; cases z⟩)
theorem dB {b:Bool} {it a:Addr} {i:Nat} {items:Array Value} {x:Value} {Q:Value→Shared→Prop} (hit:SIt s.heap b it a i) (hl:SOb s.heap b a items) (hx:items[i]?=some x)
    (hQ:∀ h',SIt h' b it a (i+1)→Heap.SameBut it s.heap h'→Q x { s with heap:=h' }):wpAny (model prog w) A (Builtin.SmallTypes.nextOf (.ref it)) Q E s:=by
  cases b with
  | true=>exact gD hit hl hx hQ
  | false=>exact wpAny_nextOf_list_item hit hl hx hQ
theorem gE {b:Bool} {it a:Addr} {i:Nat} {items:Array Value} {Q:Value→Shared→Prop} (hh:A.handled=none) (hit:SIt s.heap b it a i) (hl:SOb s.heap b a items) (hx:items[i]?=none)
    (hE:∀ h' e,Heap.ExtBut it s.heap h'→(∃ o,h'.get? e=some o∧o.cls=.type "StopIteration")→E (.ref e) { s with heap:=h' }):wpAny (model prog w) A (Builtin.SmallTypes.nextOf (.ref it)) Q E s:=by
  cases b with
  | true=>exact ig hh hit hl hx hE
  | false=>exact wpAny_nextOf_list_end hh hit hl hx hE
def itOb (b:Bool) (a:Addr):Obj:={ cls:=.type (if b=true then "tuple_iterator" else "list_iterator"),data:=.fields #[.ref a,.int 0 0] }
theorem oK {b:Bool} {a:Addr} {items:Array Value} {Q:Value→Shared→Prop} (hl:SOb s.heap b a items) (hQ:Q (.ref s.heap.objs.size) { s with heap:=s.heap.push (itOb b a) }):wpAny (model prog w) A (pyIter (.ref a)) Q E s:=by
  cases b with
  | true=>exact wpAny_pyIter_tuple hl hQ
  | false=>exact wpAny_pyIter_list hl hQ
def IsZ (h:Heap) (z TI TO:Addr) (f0 f1:Value):Prop:=h.get? z=some { cls:=.type "zip",dict:=none,data:=.fields #[f0,f1,.bool false,.ref TI,.ref TO],slots:=#[] }
theorem rG {a:Addr} {o:Obj} {Q:Option Obj→Shared→Prop} (ho:s.heap.get? a=some o) (h:Q (some o) s):wpAny (model prog w) A (loadIfAlive a) Q E s:=fun Γ p hΓ=>by
  show Sem.wp _ Γ (.loadIfAlive a .pure) _ _ p s
  rw [Sem.wp_loadIfAlive,ho]
  exact h
theorem jw {z TI TO T:Addr} {oT:Obj} {u:Bool} {Q:Bool→Shared→Prop} (hz:IsZ s.heap z TI TO (rawInt T) (.bool u)) (hoT:s.heap.get? T=some oT)
    (hQ:∀ h₁,IsZ h₁ z TI TO (rawInt T) (.bool true)→Heap.SameBut z s.heap h₁→Q false { s with heap:=h₁ }):wpAny (model prog w) A (Builtin.SmallTypes.ownedTupleIsFree (.ref z)) Q E s:=by
  unfold Builtin.SmallTypes.ownedTupleIsFree
  refine wpAny_bind (wpAny_field hz rfl (x:=rawInt T) rfl ?_)
  show wpAny _ _ (loadIfAlive (T:Int).toNat >>= _) _ _ _
  rw [Int.toNat_natCast]
  refine wpAny_bind (rG hoT ?_)
  show wpAny _ _ (field (.ref z) 1 >>= _) _ _ _
  refine wpAny_bind (wpAny_field hz rfl (x:=.bool u) rfl ?_)
  cases u with
  | true=>exact wpAny_pure (hQ s.heap hz (Heap.SameBut.refl ..))
  | false=>exact wpAny_bind (wpAny_setField_rec hz (by simp) fun h₁ hz₁ hs₁=>wpAny_pure (hQ h₁ hz₁ hs₁))
theorem rH {z TI TO i1 i2 l1 l2:Addr} {b1 b2:Bool} {k1 k2:Nat} {xs ys:Array Value} {f0 x y a b:Value} {u:Bool} {Q:Value→Shared→Prop} (D:ZipApart z TI TO i1 i2 l1 l2)
    (hz:IsZ s.heap z TI TO f0 (.bool u)) (hf:f0=.none∨∃ (T:Addr) (o:Obj),f0=rawInt T∧T≠z∧T≠i1∧T≠i2∧s.heap.get? T=some o) (hTI:IsPair s.heap TI (.ref i1) (.ref i2)) (hTO:IsPair s.heap TO a b)
    (h1:SIt s.heap b1 i1 l1 k1) (h2:SIt s.heap b2 i2 l2 k2) (hl1:SOb s.heap b1 l1 xs) (hl2:SOb s.heap b2 l2 ys) (hx:xs[k1]?=some x) (hy:ys[k2]?=some y)
    (hQ:∀ h' g0 g1,IsZ h' z TI TO g0 (.bool g1)→(g0=rawInt s.heap.objs.size∨g0=f0∧f0≠.none)→(f0=.none→g0=rawInt s.heap.objs.size)→(∃ a b,IsPair h' TO a b)→SIt h' b1 i1 l1 (k1+1)→SIt h' b2 i2 l2 (k2+1)→IsPair h' s.heap.objs.size x y→h'.objs.size=s.heap.objs.size+1 →
      (∀ c o,c≠z→c≠TO→c≠i1→c≠i2→s.heap.get? c=some o→h'.get? c=some o)→Q (.ref s.heap.objs.size) { s with heap:=h' }) :
    wpAny (model prog w) A (Builtin.«zip.__next__» ⟨[.ref z],[]⟩) (fun fin s'=>∃ v,fin=.done (.ret v)∧Q v s') E s:=by
  show wpAny _ _ (field (.ref z) 2 >>= _) _ _ _
  refine wpAny_bind (wpAny_field hz rfl (x:=.bool false) rfl ?_)
  show wpAny _ _ (field (.ref z) 3 >>= _) _ _ _
  refine wpAny_bind (wpAny_field hz rfl (x:=.ref TI) rfl ?_)
  refine wpAny_bind (wpAny_seqItems hTI rfl ?_)
  show wpAny _ _ (Builtin.SmallTypes.ownedTupleIsFree (.ref z) >>= _) _ _ _
  refine wpAny_bind ?_
  rcases hf with rfl | ⟨T,oT,rfl,hTz,hT1,hT2,hoT⟩
  · unfold Builtin.SmallTypes.ownedTupleIsFree
    refine wpAny_bind (wpAny_field hz rfl (x:=.none) rfl ?_)
    refine wpAny_pure ?_
    simp only [if_true]
    refine wpAny_bind (wpAny_rule ?_)
    refine wpAny_bind (wpAny_field hz rfl (x:=.ref TO) rfl ?_)
    refine wpAny_bind (wpAny_setField_rec hz (by simp) fun h₁ hz₁ hs₁=>?_)
    replace hz₁:IsZ h₁ z TI TO .ellipsis (.bool u):=hz₁
    refine wpAny_bind ?_
    simp only [List.zipIdx_cons,List.zipIdx_nil,List.forIn_cons,List.forIn_nil]
    refine wpAny_bind (wpAny_bind (wpAny_onRaise ?_))
    show wpAny _ _ (Builtin.SmallTypes.nextOf (.ref i1) >>= _) _ _ _
    refine wpAny_bind (dB (h1.at fun o e=>hs₁.extBut _ _ D.i1z e) (hl1.at fun o e=>hs₁.extBut _ _ D.l1z e) hx fun h₂ h1₂ hs₂=>wpAny_pure ?_)
    have hTO₂:IsPair h₂ TO a b:=hs₂.extBut _ _ D.TOi1 (hs₁.extBut _ _ D.TOz hTO)
    refine wpAny_bind (wpAny_seqItems hTO₂ rfl ?_)
    refine wpAny_bind (wpAny_updateSeq_pair hTO₂ fun h₃ hTO₃ hs₃=>?_)
    replace hTO₃:IsPair h₃ TO x b:=hTO₃
    refine wpAny_bind (wpAny_letGo (wpAny_pure ?_))
    refine wpAny_bind (wpAny_bind (wpAny_onRaise ?_))
    show wpAny _ _ (Builtin.SmallTypes.nextOf (.ref i2) >>= _) _ _ _
    refine wpAny_bind (dB (((h2.at fun o e=>hs₁.extBut _ _ D.i2z e).at fun o e=>hs₂.extBut _ _ D.i12.symm e).at fun o e=>hs₃.extBut _ _ D.TOi2.symm e)
      (((hl2.at fun o e=>hs₁.extBut _ _ D.l2z e).at fun o e=>hs₂.extBut _ _ D.l2i1 e).at fun o e=>hs₃.extBut _ _ D.l2TO e) hy fun h₄ h2₄ hs₄=>wpAny_pure ?_)
    have hTO₄:IsPair h₄ TO x b:=hs₄.extBut _ _ D.TOi2 hTO₃
    refine wpAny_bind (wpAny_seqItems hTO₄ rfl ?_)
    refine wpAny_bind (wpAny_updateSeq_pair hTO₄ fun h₅ hTO₅ hs₅=>?_)
    replace hTO₅:IsPair h₅ TO x y:=hTO₅
    refine wpAny_bind (wpAny_letGo (wpAny_pure (wpAny_pure ?_)))
    refine wpAny_bind (wpAny_seqItems hTO₅ rfl ?_)
    refine wpAny_bind (wpAny_newTuple ?_)
    have hsz:h₅.objs.size=s.heap.objs.size:=by rw [hs₅.1,hs₄.1,hs₃.1,hs₂.1,hs₁.1]
    have hz₅:IsZ h₅ z TI TO .ellipsis (.bool u):=hs₅.extBut _ _ D.TOz.symm (hs₄.extBut _ _ D.i2z.symm (hs₃.extBut _ _ D.TOz.symm (hs₂.extBut _ _ D.i1z.symm hz₁)))
    have hk₅:∀ c o,c≠z→c≠TO→c≠i1→c≠i2→s.heap.get? c=some o→h₅.get? c=some o:=fun c o c1 c2 c3 c4 e =>
      hs₅.extBut _ _ c2 (hs₄.extBut _ _ c4 (hs₃.extBut _ _ c2 (hs₂.extBut _ _ c3 (hs₁.extBut _ _ c1 e))))
    have h1₅:SIt h₅ b1 i1 l1 (k1+1):=((h1₂.at fun o e=>hs₃.extBut _ _ D.TOi1.symm e).at fun o e=>hs₄.extBut _ _ D.i12 e).at fun o e=>hs₅.extBut _ _ D.TOi1.symm e
    have h2₅:SIt h₅ b2 i2 l2 (k2+1):=h2₄.at fun o e=>hs₅.extBut _ _ D.TOi2.symm e
    have hzlt:z < h₅.objs.size:=Heap.lt_size hz₅
    show wpAny _ _ (Builtin.SmallTypes.ownedTupleHandOut (.ref z) (.ref h₅.objs.size) >>= _) _ _ _
    refine wpAny_bind ?_
    unfold Builtin.SmallTypes.ownedTupleHandOut
    have hz₆:IsZ (h₅.push { cls:=.type "tuple",data:=.seq #[x,y] }) z TI TO .ellipsis (.bool u):=Heap.get?_push_of_some _ hz₅
    refine wpAny_bind (wpAny_setField_rec hz₆ (by simp) fun h₇ hz₇ hs₇=>?_)
    replace hz₇:IsZ h₇ z TI TO (rawInt h₅.objs.size) (.bool u):=hz₇
    refine wpAny_setField_rec hz₇ (by simp) fun h₈ hz₈ hs₈=>?_
    replace hz₈:IsZ h₈ z TI TO (rawInt h₅.objs.size) (.bool false):=hz₈
    have up:∀ c o,c≠z→h₅.get? c=some o→h₈.get? c=some o:=fun c o c1 e=>hs₈.extBut _ _ c1 (hs₇.extBut _ _ c1 (Heap.get?_push_of_some _ e))
    have hT₈:IsPair h₈ h₅.objs.size x y:=hs₈.extBut _ _ (Nat.ne_of_gt hzlt) (hs₇.extBut _ _ (Nat.ne_of_gt hzlt) (Heap.get?_push_size _ rfl))
    have hz8:h₈.objs.size=h₅.objs.size+1:=by rw [hs₈.1,hs₇.1,Heap.size_push]
    rw [hsz] at hz₈ hT₈ hz8
    refine wpAny_pure ⟨_,rfl,?_⟩
    show Q (.ref h₅.objs.size) _
    rw [hsz]
    exact hQ h₈ _ _ hz₈ (.inl rfl) (fun _=>rfl) ⟨_,_,up _ _ D.TOz hTO₅⟩ (h1₅.at fun o e=>up _ o D.i1z e) (h2₅.at fun o e=>up _ o D.i2z e) hT₈ hz8 fun c o c1 c2 c3 c4 e=>up c o c1 (hk₅ c o c1 c2 c3 c4 e)
  · refine jw hz hoT fun h₁ hz₁ hs₁=>?_
    simp only [Bool.false_eq_true,if_false]
    refine wpAny_bind ?_
    simp only [List.forIn_toArray,List.forIn_cons,List.forIn_nil]
    refine wpAny_bind (wpAny_bind (wpAny_holding ?_))
    show wpAny _ _ (Builtin.SmallTypes.nextOf (.ref i1) >>= _) _ _ _
    refine wpAny_bind (dB (h1.at fun o e=>hs₁.extBut _ _ D.i1z e) (hl1.at fun o e=>hs₁.extBut _ _ D.l1z e) hx fun h₂ h1₂ hs₂=>wpAny_pure ?_)
    refine wpAny_pure ?_
    refine wpAny_bind (wpAny_bind (wpAny_holding ?_))
    show wpAny _ _ (Builtin.SmallTypes.nextOf (.ref i2) >>= _) _ _ _
    refine wpAny_bind (dB ((h2.at fun o e=>hs₁.extBut _ _ D.i2z e).at fun o e=>hs₂.extBut _ _ D.i12.symm e)
      ((hl2.at fun o e=>hs₁.extBut _ _ D.l2z e).at fun o e=>hs₂.extBut _ _ D.l2i1 e) hy fun h₃ h2₃ hs₃=>wpAny_pure ?_)
    refine wpAny_pure (wpAny_pure ?_)
    refine wpAny_bind (wpAny_newTuple (hsz:=by show 2≤sizeLine; decide) (wpAny_pure ⟨_,rfl,?_⟩))
    have hsz:h₃.objs.size=s.heap.objs.size:=by rw [hs₃.1,hs₂.1,hs₁.1]
    have hk:∀ c o,c≠z→c≠i1→c≠i2→s.heap.get? c=some o→(h₃.push { cls:=.type "tuple",data:=.seq #[x,y] }).get? c=some o:=fun c o c1 c3 c4 e =>
      Heap.get?_push_of_some _ (hs₃.extBut _ _ c4 (hs₂.extBut _ _ c3 (hs₁.extBut _ _ c1 e)))
    have hz₃:IsZ (h₃.push { cls:=.type "tuple",data:=.seq #[x,y] }) z TI TO (rawInt T) (.bool true):=Heap.get?_push_of_some _ (hs₃.extBut _ _ D.i2z.symm (hs₂.extBut _ _ D.i1z.symm hz₁))
    have hT:IsPair (h₃.push { cls:=.type "tuple",data:=.seq #[x,y] }) s.heap.objs.size x y:=by rw [← hsz]; exact Heap.get?_push_size _ rfl
    show Q (.ref h₃.objs.size) _
    rw [hsz]
    exact hQ _ _ _ hz₃ (.inr ⟨rfl,by intro q; cases q⟩) (fun q=>by cases q) ⟨_,_,hk _ _ D.TOz D.TOi1 D.TOi2 hTO⟩ ((h1₂.at fun o e=>hs₃.extBut _ _ D.i12 e).at fun o e=>Heap.get?_push_of_some _ e) (h2₃.at fun o e=>Heap.get?_push_of_some _ e) hT
      (by rw [Heap.size_push,hsz]) fun c o c1 _ c3 c4 e=>hk c o c1 c3 c4 e
theorem tU {z TI TO i1 i2 l1 l2:Addr} {b1 b2:Bool} {k1 k2:Nat} {xs ys:Array Value} {f0 a b:Value} {u:Bool} {Q:Fin→Shared→Prop} (hh:A.handled=none) (D:ZipApart z TI TO i1 i2 l1 l2)
    (hz:IsZ s.heap z TI TO f0 (.bool u)) (hf:f0=.none∨∃ (T:Addr) (o:Obj),f0=rawInt T∧T≠z∧T≠i1∧T≠i2∧s.heap.get? T=some o) (hTI:IsPair s.heap TI (.ref i1) (.ref i2)) (hTO:IsPair s.heap TO a b)
    (h1:SIt s.heap b1 i1 l1 k1) (h2:SIt s.heap b2 i2 l2 k2) (hl1:SOb s.heap b1 l1 xs) (hl2:SOb s.heap b2 l2 ys) (hend:xs[k1]?=none∨ys[k2]?=none)
    (hE:∀ h' e,(∀ c o,c≠z→c≠TO→c≠i1→c≠i2→s.heap.get? c=some o→h'.get? c=some o)→(∃ o,h'.get? e=some o∧o.cls=.type "StopIteration")→E (.ref e) { s with heap:=h' }) :
    wpAny (model prog w) A (Builtin.«zip.__next__» ⟨[.ref z],[]⟩) Q E s:=by
  show wpAny _ _ (field (.ref z) 2 >>= _) _ _ _
  refine wpAny_bind (wpAny_field hz rfl (x:=.bool false) rfl ?_)
  show wpAny _ _ (field (.ref z) 3 >>= _) _ _ _
  refine wpAny_bind (wpAny_field hz rfl (x:=.ref TI) rfl ?_)
  refine wpAny_bind (wpAny_seqItems hTI rfl ?_)
  show wpAny _ _ (Builtin.SmallTypes.ownedTupleIsFree (.ref z) >>= _) _ _ _
  refine wpAny_bind ?_
  rcases hf with rfl | ⟨T,oT,rfl,hTz,hT1,hT2,hoT⟩
  · unfold Builtin.SmallTypes.ownedTupleIsFree
    refine wpAny_bind (wpAny_field hz rfl (x:=.none) rfl ?_)
    refine wpAny_pure ?_
    simp only [if_true]
    refine wpAny_bind (wpAny_rule ?_)
    refine wpAny_bind (wpAny_field hz rfl (x:=.ref TO) rfl ?_)
    refine wpAny_bind (wpAny_setField_rec hz (by simp) fun h₁ hz₁ hs₁=>?_)
    replace hz₁:IsZ h₁ z TI TO .ellipsis (.bool u):=hz₁
    refine wpAny_bind ?_
    simp only [List.zipIdx_cons,List.zipIdx_nil,List.forIn_cons,List.forIn_nil]
    refine wpAny_bind (wpAny_bind (wpAny_onRaise ?_))
    show wpAny _ _ (Builtin.SmallTypes.nextOf (.ref i1) >>= _) _ _ _
    cases hx:xs[k1]? with
    | none =>
      refine wpAny_bind (gE hh (h1.at fun o e=>hs₁.extBut _ _ D.i1z e) (hl1.at fun o e=>hs₁.extBut _ _ D.l1z e) hx fun h₂ e hs₂ he=>?_)
      obtain ⟨oe,hoe,hce⟩:=he
      have hz₂:IsZ h₂ z TI TO .ellipsis (.bool u):=hs₂ _ _ D.i1z.symm hz₁
      have hez:e≠z:=fun x=>by subst x; rw [hz₂] at hoe; cases hoe; simp at hce
      refine wpAny_setField_rec hz₂ (by simp) fun h₃ _ hs₃=>hE h₃ e (fun c o c1 _ c3 _ x=>hs₃.extBut _ _ c1 (hs₂ _ _ c3 (hs₁.extBut _ _ c1 x))) ⟨oe,hs₃.extBut _ _ hez hoe,hce⟩
    | some x =>
      have hy:ys[k2]?=none:=by rcases hend with h | h; rw [hx] at h; cases h; exact h
      refine wpAny_bind (dB (h1.at fun o e=>hs₁.extBut _ _ D.i1z e) (hl1.at fun o e=>hs₁.extBut _ _ D.l1z e) hx fun h₂ h1₂ hs₂=>wpAny_pure ?_)
      have hTO₂:IsPair h₂ TO a b:=hs₂.extBut _ _ D.TOi1 (hs₁.extBut _ _ D.TOz hTO)
      refine wpAny_bind (wpAny_seqItems hTO₂ rfl ?_)
      refine wpAny_bind (wpAny_updateSeq_pair hTO₂ fun h₃ hTO₃ hs₃=>?_)
      refine wpAny_bind (wpAny_letGo (wpAny_pure ?_))
      refine wpAny_bind (wpAny_bind (wpAny_onRaise ?_))
      show wpAny _ _ (Builtin.SmallTypes.nextOf (.ref i2) >>= _) _ _ _
      refine wpAny_bind (gE hh (((h2.at fun o e=>hs₁.extBut _ _ D.i2z e).at fun o e=>hs₂.extBut _ _ D.i12.symm e).at fun o e=>hs₃.extBut _ _ D.TOi2.symm e)
        (((hl2.at fun o e=>hs₁.extBut _ _ D.l2z e).at fun o e=>hs₂.extBut _ _ D.l2i1 e).at fun o e=>hs₃.extBut _ _ D.l2TO e) hy fun h₄ e hs₄ he=>?_)
      obtain ⟨oe,hoe,hce⟩:=he
      have hz₄:IsZ h₄ z TI TO .ellipsis (.bool u):=hs₄ _ _ D.i2z.symm (hs₃.extBut _ _ D.TOz.symm (hs₂.extBut _ _ D.i1z.symm hz₁))
      have hez:e≠z:=fun x=>by subst x; rw [hz₄] at hoe; cases hoe; simp at hce
      refine wpAny_setField_rec hz₄ (by simp) fun h₅ _ hs₅=>hE h₅ e (fun c o c1 c2 c3 c4 x=>hs₅.extBut _ _ c1 (hs₄ _ _ c4 (hs₃.extBut _ _ c2 (hs₂.extBut _ _ c3 (hs₁.extBut _ _ c1 x))))) ⟨oe,hs₅.extBut _ _ hez hoe,hce⟩
  · refine jw hz hoT fun h₁ hz₁ hs₁=>?_
    simp only [Bool.false_eq_true,if_false]
    refine wpAny_bind ?_
    simp only [List.forIn_toArray,List.forIn_cons,List.forIn_nil]
    refine wpAny_bind (wpAny_bind (wpAny_holding ?_))
    show wpAny _ _ (Builtin.SmallTypes.nextOf (.ref i1) >>= _) _ _ _
    cases hx:xs[k1]? with
    | none =>
      refine wpAny_bind (gE hh (h1.at fun o e=>hs₁.extBut _ _ D.i1z e) (hl1.at fun o e=>hs₁.extBut _ _ D.l1z e) hx fun h₂ e hs₂ he=>?_)
      exact hE h₂ e (fun c o c1 _ c3 _ x=>hs₂ _ _ c3 (hs₁.extBut _ _ c1 x)) he
    | some x =>
      have hy:ys[k2]?=none:=by rcases hend with h | h; rw [hx] at h; cases h; exact h
      refine wpAny_bind (dB (h1.at fun o e=>hs₁.extBut _ _ D.i1z e) (hl1.at fun o e=>hs₁.extBut _ _ D.l1z e) hx fun h₂ h1₂ hs₂=>wpAny_pure ?_)
      refine wpAny_pure ?_
      refine wpAny_bind (wpAny_bind (wpAny_holding ?_))
      show wpAny _ _ (Builtin.SmallTypes.nextOf (.ref i2) >>= _) _ _ _
      refine wpAny_bind (gE hh ((h2.at fun o e=>hs₁.extBut _ _ D.i2z e).at fun o e=>hs₂.extBut _ _ D.i12.symm e)
        ((hl2.at fun o e=>hs₁.extBut _ _ D.l2z e).at fun o e=>hs₂.extBut _ _ D.l2i1 e) hy fun h₄ e hs₄ he=>?_)
      exact hE h₄ e (fun c o c1 _ c3 c4 x=>hs₄ _ _ c4 (hs₂.extBut _ _ c3 (hs₁.extBut _ _ c1 x))) he
structure Zs (h:Heap) (z TI TO i1 i2 l1 l2:Addr) (b1 b2:Bool) (k:Nat) (f0:Value):Prop where
  z:∃ u,IsZ h z TI TO f0 (.bool u)
  ti:IsPair h TI (.ref i1) (.ref i2)
  to:∃ a b,IsPair h TO a b
  h1:SIt h b1 i1 l1 k
  h2:SIt h b2 i2 l2 k
theorem Zs.at {h h':Heap} {z TI TO i1 i2 l1 l2:Addr} {b1 b2:Bool} {k:Nat} {f0:Value} (x:Zs h z TI TO i1 i2 l1 l2 b1 b2 k f0) (f:∀ b∈[z,TI,TO,i1,i2],∀ o,h.get? b=some o→h'.get? b=some o):Zs h' z TI TO i1 i2 l1 l2 b1 b2 k f0:=by
  obtain ⟨⟨u,e1⟩,e2,⟨a,b,e3⟩,e4,e5⟩:=x
  exact ⟨⟨u,f z (by simp) _ e1⟩,f TI (by simp) _ e2,⟨a,b,f TO (by simp) _ e3⟩,e4.at fun o e=>f i1 (by simp) o e,e5.at fun o e=>f i2 (by simp) o e⟩
theorem l4 {z TI TO i1 i2 l1 l2:Addr} {b1 b2:Bool} {k:Nat} {xs ys:Array Value} {f0 x y:Value} {Q:Option Value→Shared→Prop} (D:ZipApart z TI TO i1 i2 l1 l2)
    (hz:Zs s.heap z TI TO i1 i2 l1 l2 b1 b2 k f0) (hf:f0=.none∨∃ (T:Addr) (o:Obj),f0=rawInt T∧T≠z∧T≠i1∧T≠i2∧s.heap.get? T=some o)
    (hl1:SOb s.heap b1 l1 xs) (hl2:SOb s.heap b2 l2 ys) (hx:xs[k]?=some x) (hy:ys[k]?=some y)
    (hQ:∀ h' g0,Zs h' z TI TO i1 i2 l1 l2 b1 b2 (k+1) g0→(g0=rawInt s.heap.objs.size∨g0=f0∧f0≠.none)→(f0=.none→g0=rawInt s.heap.objs.size)→IsPair h' s.heap.objs.size x y→h'.objs.size=s.heap.objs.size+1 →
      (∀ c o,c≠z→c≠TO→c≠i1→c≠i2→s.heap.get? c=some o→h'.get? c=some o)→Q (some (.ref s.heap.objs.size)) { s with heap:=h' }) :
    wpAny (model prog w) A (pyNext (.ref z)) Q E s:=by
  obtain ⟨⟨u,e1⟩,e2,⟨a,b,e3⟩,e4,e5⟩:=hz
  have hT:s.TypeIs (.ref z) "zip" := ⟨_,e1,rfl⟩
  unfold pyNext
  exact wpAny_bind (wpAny_attempt (wpAny_callSpecial?_slot (name:=Str.ofString "__next__") hT F.slot_zip_next
    (wpAny_call_entry F.slot_zip_next hT F.entry_zip_next
      (rH D e1 hf e2 e3 e4 e5 hl1 hl2 hx hy fun h' g0 g1 a1 a2 a2' a3 a4 a5 a6 a7 a8=>wpAny_pure (hQ h' g0 ⟨⟨g1,a1⟩,a8 _ _ D.TIz D.TITO D.TIi1 D.TIi2 e2,a3,a4,a5⟩ a2 a2' a6 a7 a8)) (F.args_zip_next_1 _))))
theorem l5 {z TI TO i1 i2 l1 l2:Addr} {b1 b2:Bool} {k:Nat} {xs ys:Array Value} {f0:Value} {Q:Option Value→Shared→Prop} (hh:A.handled=none) (D:ZipApart z TI TO i1 i2 l1 l2)
    (hz:Zs s.heap z TI TO i1 i2 l1 l2 b1 b2 k f0) (hf:f0=.none∨∃ (T:Addr) (o:Obj),f0=rawInt T∧T≠z∧T≠i1∧T≠i2∧s.heap.get? T=some o)
    (hl1:SOb s.heap b1 l1 xs) (hl2:SOb s.heap b2 l2 ys) (hend:xs[k]?=none∨ys[k]?=none)
    (hQ:∀ h',(∀ c o,c≠z→c≠TO→c≠i1→c≠i2→s.heap.get? c=some o→h'.get? c=some o)→Q none { s with heap:=h' }):wpAny (model prog w) A (pyNext (.ref z)) Q E s:=by
  obtain ⟨⟨u,e1⟩,e2,⟨a,b,e3⟩,e4,e5⟩:=hz
  have hT:s.TypeIs (.ref z) "zip" := ⟨_,e1,rfl⟩
  unfold pyNext
  refine wpAny_bind (wpAny_attempt (wpAny_callSpecial?_slot (name:=Str.ofString "__next__") hT F.slot_zip_next
    (wpAny_call_entry F.slot_zip_next hT F.entry_zip_next (tU hh D e1 hf e2 e3 e4 e5 hl1 hl2 hend fun h' e hk he=>?_) (F.args_zip_next_1 _))))
  obtain ⟨o,ho,hc⟩:=he
  refine wpAny_bind (wpAny_isInstance (T := "StopIteration") (b:=true) ⟨o,ho,hc⟩ isSubtype_stop ?_)
  exact wpAny_pure (hQ _ hk)
theorem vA {elts:List Expr} {x1} {pos:Pos} {z TI TO i1 i2 l1 l2 T:Addr} {b1 b2:Bool} {k:Nat} {Q:Unit→Shared→Prop} (hz:Zs s.heap z TI TO i1 i2 l1 l2 b1 b2 k (rawInt T)) (D:ZipApart z TI TO i1 i2 l1 l2)
    (hQ:∀ h',Zs h' z TI TO i1 i2 l1 l2 b1 b2 k .none→Heap.SameBut z s.heap h'→Q () { s with heap:=h' }) :
    wpAny (model prog w) A (letOwnedTupleGo (.Tuple elts x1 pos) (.ref z) (.ref T)) Q E s:=by
  obtain ⟨⟨u,e1⟩,e2,⟨a,b,e3⟩,e4,e5⟩:=hz
  unfold letOwnedTupleGo
  refine wpAny_bind (wpAny_load e1 ?_)
  show wpAny _ _ (if (["enumerate", "zip", "dict_itemiterator", "dict_reverseitemiterator", "odict_iterator", "itertools.zip_longest", "itertools.pairwise"].contains "zip" &&
      (#[rawInt T,.bool u,.bool false,.ref TI,.ref TO]:Array Value)[0]?==some (rawInt T))=true then _ else _) Q E s
  rw [if_pos (by simp)]
  refine wpAny_bind (wpAny_rule ?_)
  show wpAny _ _ (setField (.ref z) 0 .none) Q E s
  exact wpAny_setField_rec e1 (by simp) fun h' hz' hs'=>hQ h' ⟨⟨u,hz'⟩,hs'.extBut _ _ D.TIz e2,⟨a,b,hs'.extBut _ _ D.TOz e3⟩,e4.at fun o e=>hs'.extBut _ _ D.i1z e,e5.at fun o e=>hs'.extBut _ _ D.i2z e⟩ hs'
theorem jy {z TI TO i1 i2 l1 l2:Addr} {b1 b2:Bool} {k:Nat} {f0:Value} {Q:Value→Shared→Prop} (hz:Zs s.heap z TI TO i1 i2 l1 l2 b1 b2 k f0) (h:Q (.ref z) s):wpAny (model prog w) A (pyIter (.ref z)) Q E s:=by
  obtain ⟨⟨u,e1⟩,_⟩:=hz
  have hT:s.TypeIs (.ref z) "zip" := ⟨_,e1,rfl⟩
  refine wpAny_pyIter_slot hT F.slot_zip_iter (wpAny_call_entry F.slot_zip_iter hT F.entry_zip_iter ?_ (F.args_zip_iter_1 _))
  show wpAny _ _ (ret (.ref z)) _ _ s
  exact wpAny_pure ⟨_,rfl, "zip",_,hT,F.slot_zip_next.lookup,h⟩
abbrev zH1 (h:Heap) (b1:Bool) (l1:Addr):Heap:=h.push (itOb b1 l1)
abbrev zH2 (h:Heap) (b1 b2:Bool) (l1 l2:Addr):Heap:=(zH1 h b1 l1).push (itOb b2 l2)
abbrev zH3 (h:Heap) (b1 b2:Bool) (l1 l2:Addr):Heap:=(zH2 h b1 b2 l1 l2).push { cls:=.type "tuple",data:=.seq #[.ref h.objs.size,.ref (zH1 h b1 l1).objs.size] }
abbrev zH4 (h:Heap) (b1 b2:Bool) (l1 l2:Addr):Heap:=(zH3 h b1 b2 l1 l2).push { cls:=.type "tuple",data:=.seq #[.none,.none] }
abbrev zH5 (h:Heap) (b1 b2:Bool) (l1 l2:Addr):Heap:=(zH4 h b1 b2 l1 l2).push { cls:=.type "zip",data:=.fields #[.none,.bool false,.bool false,.ref (zH2 h b1 b2 l1 l2).objs.size,.ref (zH3 h b1 b2 l1 l2).objs.size] }
theorem pQ (b1 b2:Bool) (l1 l2:Addr) (xs ys:Array Value) :
    Meets (Builtin.«zip.__new__» ⟨[.type "zip",.ref l1,.ref l2],[]⟩) (fun _ R s=>SOb s.heap b1 l1 xs∧SOb s.heap b2 l2 ys ∧
      R (.ok (.ret (.ref (zH4 s.heap b1 b2 l1 l2).objs.size))) { s with heap:=zH5 s.heap b1 b2 l1 l2 }) :=
  .of_wp fun prog w A R s h=>by
    obtain ⟨hp,g,d,tk,os⟩:=s; obtain ⟨hl1,hl2,h⟩:=h
    have hsub:=sub_zip
    have hL1:SOb (Shared.heap ⟨hp,g,d,tk,os⟩) b1 l1 xs:=hl1
    have hL2:SOb (Shared.heap ⟨hp.push (itOb b1 l1),g,d,tk,os⟩) b2 l2 ys:=hl2.at fun o e=>Heap.get?_push_of_some _ e
    wp_walk using oK hL1,oK hL2
    exact ⟨_,rfl,h⟩
theorem l6 {b1 b2:Bool} {l1 l2:Addr} {xs ys:Array Value} {Q:Value→Shared→Prop} (hl1:SOb s.heap b1 l1 xs) (hl2:SOb s.heap b2 l2 ys)
    (h:∀ h',Zs h' (s.heap.objs.size+4) (s.heap.objs.size+2) (s.heap.objs.size+3) s.heap.objs.size (s.heap.objs.size+1) l1 l2 b1 b2 0 .none→(∀ c o,s.heap.get? c=some o→h'.get? c=some o)→Q (.ref (s.heap.objs.size+4)) { s with heap:=h' }) :
    wpAny (model prog w) A (call (.type "zip") [.ref l1,.ref l2]) Q E s:=by
  refine callType_new F.called_zip (by decide) (F.typeCall_zip_2 _ _) (F.newCall_zip_2 _ _) (fun obj=>F.args_object_init_3 obj _ _) F.entry_zip_new
    (pQ b1 b2 l1 l2 xs ys) ⟨hl1,hl2,?_⟩
  have z1:(zH1 s.heap b1 l1).objs.size=s.heap.objs.size+1:=Heap.size_push ..
  have z2:(zH2 s.heap b1 b2 l1 l2).objs.size=s.heap.objs.size+2:=by rw [Heap.size_push,z1]
  have z3:(zH3 s.heap b1 b2 l1 l2).objs.size=s.heap.objs.size+3:=by rw [Heap.size_push,z2]
  have z4:(zH4 s.heap b1 b2 l1 l2).objs.size=s.heap.objs.size+4:=by rw [Heap.size_push,z3]
  have g5:(zH5 s.heap b1 b2 l1 l2).get? (zH4 s.heap b1 b2 l1 l2).objs.size=some _:=Heap.get?_push_size _ rfl
  have g4:(zH5 s.heap b1 b2 l1 l2).get? (zH3 s.heap b1 b2 l1 l2).objs.size=some _:=Heap.get?_push_of_some _ (Heap.get?_push_size _ rfl)
  have g3:(zH5 s.heap b1 b2 l1 l2).get? (zH2 s.heap b1 b2 l1 l2).objs.size=some _:=Heap.get?_push_of_some _ (Heap.get?_push_of_some _ (Heap.get?_push_size _ rfl))
  have g2:(zH5 s.heap b1 b2 l1 l2).get? (zH1 s.heap b1 l1).objs.size=some (itOb b2 l2):=Heap.get?_push_of_some _ (Heap.get?_push_of_some _ (Heap.get?_push_of_some _ (Heap.get?_push_size _ rfl)))
  have g1:(zH5 s.heap b1 b2 l1 l2).get? s.heap.objs.size=some (itOb b1 l1):=Heap.get?_push_of_some _ (Heap.get?_push_of_some _ (Heap.get?_push_of_some _ (Heap.get?_push_of_some _ (Heap.get?_push_size _ rfl))))
  have mk:∀ {h:Heap} {b:Bool} {it a:Addr},h.get? it=some (itOb b a)→SIt h b it a 0:=fun {h b it a} e=>by cases b<;>exact ⟨_,e,rfl,rfl⟩
  show _∧_
  rw [z2,z3,z4] at g5
  rw [z1,z2] at g3
  rw [z3] at g4
  rw [z1] at g2
  rw [z4]
  exact ⟨⟨_,g5,rfl⟩,h _ ⟨⟨false,g5⟩,g3,⟨_,_,g4⟩,mk g1,mk g2⟩ fun c o x =>
    Heap.get?_push_of_some _ (Heap.get?_push_of_some _ (Heap.get?_push_of_some _ (Heap.get?_push_of_some _ (Heap.get?_push_of_some _ x))))⟩
end
end FF
end
noncomputable section
set_option Elab.async false
set_option linter.all false
set_option maxRecDepth 100000
namespace FF
open PySem PySem.Spec PyProof.Rows L2
section
variable {X:Cx} {pins:List (Addr×Obj)} {σ:St} {H:Hp} {s:Shared} {h':Heap}
theorem l7 {h:Heap} {b:Addr} {o x:Obj} (q:b≠h.objs.size) (e:(h.push x).get? b=some o):h.get? b=some o:=by
  rcases Heap.get?_push_cases e with ⟨z,_⟩ | z
  · exact absurd z q
  · exact z
theorem turnedL {t':Nat} {fp:List Addr} (I:Inv X pins σ H s) (hf:∀ b∈fp,FpOk X pins H b) (k:∀ b o,b∉fp→s.heap.get? b=some o→h'.get? b=some o):Inv X pins σ H { s with heap:=h',toks:=t' }:=by
  have nit:∀ b u,H b=some u→b∉fp:=fun b u e z=>by rw [(hf b z).1] at e; cases e
  refine I.step (g':=s.gens) (d':=s.drawn) (ch:=fp) (fun b hb=>?_) (fun b o _ _ hc e _=>k b o hc e) (fun b o _ _ hc e _=>⟨o.slots,k b o hc e⟩) (fun _ _ _ _ n=>n)
    (fun b o hc e=>⟨o,k b o hc e⟩) (fun _ _ e=>e) (fun _ _ _ e=>e) (fun b ps e=>⟨#[],by rw [e]; simp⟩) (fun m hm=>?_) (fun b u e=>?_) I.bare
  · obtain ⟨_,f1,f2,f3,f4,f5⟩:=hf b hb
    exact ⟨f3,f1,f4,f5⟩
  · obtain ⟨o,es,ep,ho,r⟩:=hm
    exact ⟨o,es,ep,k _ o (fun z=>(hf _ z).2.1 rfl) ho,r⟩
  · refine (I.hok b u e).stay (fun c v hc q=>k c v ?_ q) (fun _ q=>q) fun _ _ q=>q
    rcases hc with z | z
    · rw [z]; exact nit b u e
    · exact nit c _ z
theorem turnedP {t':Nat} {fp:List Addr} {x y:V} {u v:Value} (I:Inv X pins σ H s) (hf:∀ b∈fp,FpOk X pins H b) (hlt:∀ b∈fp,b≠s.heap.objs.size) (rx:RelV x u) (ry:RelV y v) (hp:IsPair h' s.heap.objs.size u v)
    (k:∀ b o,b∉fp→s.heap.get? b=some o→h'.get? b=some o):Inv X pins σ (upd H s.heap.objs.size (.tup [x,y])) { s with heap:=h',toks:=t' }:=by
  have I1:Inv X pins σ (upd H s.heap.objs.size (.tup [x,y])) { s with heap:=s.heap.push { cls:=.type "tuple",data:=.seq #[u,v] },toks:=s.toks }:=by
    refine I.laid (t':=s.toks) (fun b u e=>Heap.get?_push_of_some _ e) (Nat.le_refl _) ?_
    exact ⟨by show 2≤sizeLine; decide,[u,v],.cons rx (.cons ry .nil),⟨_,Heap.get?_push_size _ rfl,rfl,_,rfl⟩⟩
  refine turnedL (s:={ s with heap:=s.heap.push { cls:=.type "tuple",data:=.seq #[u,v] },toks:=s.toks }) (fp:=fp) (t':=t') I1 (fun b hb=>?_) fun b o hb e=>?_
  · obtain ⟨f0,f1⟩:=hf b hb
    exact ⟨by rw [aq (hlt b hb)]; exact f0,f1⟩
  · by_cases q:b=s.heap.objs.size
    · subst q
      have e':some _=some o:=(Heap.get?_push_size s.heap (o:={ cls:=.type "tuple",data:=.seq #[u,v] }) rfl).symm.trans e
      cases e'
      exact hp
    · have e':s.heap.get? b=some o:=by
        exact l7 q e
      exact k b o hb e'
end
def SqB (K:PySem.W.Frag) (H:Hp) (b:Bool) (a:Addr) (xs:List V):Prop:=if b=true then SqT K H a xs else SqL K H a xs
theorem dl {X:Cx} {pins:List (Addr×Obj)} {σ:St} {H:Hp} {s:Shared} {b:Bool} {a:Addr} {xs:List V} (I:Inv X pins σ H s) (h:SqB X.K H b a xs):∃ its:List Value,Vals xs its∧SOb s.heap b a its.toArray∧xs.length≤sizeLine:=by
  cases b with
  | true =>
    obtain ⟨its,rv,p,hz⟩:=I.tuple h
    exact ⟨its,rv,p,hz⟩
  | false =>
    obtain ⟨its,rv,p,hz⟩:=I.list h
    exact ⟨its,rv,p.isList,hz⟩
theorem rJ {X:Cx} {pins:List (Addr×Obj)} {σ:St} {H:Hp} {s:Shared} {b:Bool} {a:Addr} {xs ys:List V} (I:Inv X pins σ H s) (h:SqB X.K H b a xs) (h':SqB X.K H b a ys):xs=ys:=by
  cases b with
  | true=>exact I.tuple_inj h h'
  | false=>exact I.list_inj h h'
theorem SqB.mono {K:PySem.W.Frag} {Z H:Hp} {b:Bool} {a:Addr} {xs:List V} (h:SqB K Z b a xs) (z:Same Z H):SqB K H b a xs:=by
  cases b with
  | true=>exact (show SqT K Z a xs from h).mono z
  | false=>exact z.seq h
theorem la {K:PySem.W.Frag} {C:Nat→Addr} {Z:Hp} {d:D} {ds:List D} {v:V} (e:asSeq d=.ok ds) (r:Rep K C Z d v):∃ b a vs,v=.ref a∧SqB K Z b a vs∧Reps K C Z ds vs:=by
  cases d with
  | tup xs =>
    cases e
    rw [Rep] at r
    obtain ⟨a,vs,rfl,h1,h2⟩:=r
    exact ⟨true,a,vs,rfl,h1,h2⟩
  | lst xs =>
    cases e
    rw [Rep] at r
    obtain ⟨a,vs,rfl,h1,h2⟩:=r
    exact ⟨false,a,vs,rfl,h1,h2⟩
  | _=>cases e
def Itz (K:PySem.W.Frag) (b1 b2:Bool) (a1 a2:Addr):It :=
  ⟨fun i H=>∃ xs ys x y,SqB K H b1 a1 xs∧SqB K H b2 a2 ys∧xs[i]?=some x∧ys[i]?=some y,
   fun i H v H'=>∃ p x y,H p=none∧v=.ref p∧(∀ xs,SqB K H b1 a1 xs→xs[i]?=some x)∧(∀ ys,SqB K H b2 a2 ys→ys[i]?=some y)∧H'=upd H p (.tup [x,y]),
   fun i H=>∃ xs ys,SqB K H b1 a1 xs∧SqB K H b2 a2 ys∧(xs.length≤i∨ys.length≤i)⟩
theorem rK {P:Program} {w:World} {K:PySem.W.Frag} {elts:List Expr} {x1:Nat} {pos:Pos} {z TI TO i1 i2 a1 a2:Addr} (b1 b2:Bool) (D:ZipApart z TI TO i1 i2 a1 a2) :
    Turn P w K (.Tuple elts x1 pos) (Itz K b1 b2 a1 a2) [z,TI,TO,i1,i2] z (fun i h=>Zs h z TI TO i1 i2 a1 a2 b1 b2 i .none) where
  mem:=by simp
  obj:=fun i h st b hb=>by
    obtain ⟨⟨u,e1⟩,e2,⟨p,q,e3⟩,e4,e5⟩:=st
    simp only [List.mem_cons,List.not_mem_nil,or_false] at hb
    rcases hb with rfl | rfl | rfl | rfl | rfl
    · exact ⟨_,e1,fun v z=>by have z':Data.fields _=Data.cell v:=z; cases z'⟩
    · exact ⟨_,e2,fun v z=>by have z':Data.seq _ _=Data.cell v:=z; cases z'⟩
    · exact ⟨_,e3,fun v z=>by have z':Data.seq _ _=Data.cell v:=z; cases z'⟩
    · exact e4.lt
    · exact e5.lt
  keep:=fun i h h' st k=>st.at k
  item:=by
    intro X hP hw hK hc i pins s σ H E I hf st hg
    subst hP hw hK
    obtain ⟨xs,ys,x,y,q1,q2,hx,hy⟩:=hg
    obtain ⟨is1,rv1,o1,_⟩:=dl I q1
    obtain ⟨is2,rv2,o2,_⟩:=dl I q2
    obtain ⟨u,hu,ru⟩:=rv1.get hx
    obtain ⟨v,hv,rv⟩:=rv2.get hy
    have lt:∀ b∈[z,TI,TO,i1,i2],b≠s.heap.objs.size:=fun b hb=>by
      obtain ⟨⟨u,e1⟩,e2,⟨p,q,e3⟩,e4,e5⟩:=st
      simp only [List.mem_cons,List.not_mem_nil,or_false] at hb
      rcases hb with rfl | rfl | rfl | rfl | rfl
      · exact Nat.ne_of_lt (Heap.lt_size e1)
      · exact Nat.ne_of_lt (Heap.lt_size e2)
      · exact Nat.ne_of_lt (Heap.lt_size e3)
      · obtain ⟨o,ho,_⟩:=e4.lt; exact Nat.ne_of_lt (Heap.lt_size ho)
      · obtain ⟨o,ho,_⟩:=e5.lt; exact Nat.ne_of_lt (Heap.lt_size ho)
    refine l4 D st (.inl rfl) o1 o2 (x:=u) (y:=v) (by simpa using hu) (by simpa using hv) fun h' g0 a1 _ a2 a3 a4 a5=>?_
    rw [a2 rfl] at a1
    refine ⟨_,rfl,vA (s:={ s with heap:=h' }) a1 D fun h2 b1 b2=>?_⟩
    have k2:∀ b o,b∉[z,TI,TO,i1,i2]→s.heap.get? b=some o→h2.get? b=some o:=fun b o hb e=>by
      simp only [List.mem_cons,List.not_mem_nil,or_false,not_or] at hb
      exact b2.extBut _ _ hb.1 (a5 b o hb.1 hb.2.2.1 hb.2.2.2.1 hb.2.2.2.2 e)
    have hp2:IsPair h2 s.heap.objs.size u v:=b2.extBut _ _ (fun q=>lt z (by simp) q.symm) a3
    have I2:Inv X pins σ (upd H s.heap.objs.size (.tup [x,y])) { s with heap:=h2,toks:=s.toks }:=turnedP I hf lt ru rv hp2 k2
    exact ⟨.ref s.heap.objs.size,_,I2,rfl,⟨s.heap.objs.size,x,y,I.hok.fresh (Nat.le_refl _),rfl,fun xs' q=>by rw [rJ I q q1]; exact hx,fun ys' q=>by rw [rJ I q q2]; exact hy,rfl⟩,b1,fun b hb=>by rw [aq (lt b hb)]; exact (hf b hb).1⟩
  done:=by
    intro X hP hw hK hc i pins s σ H E I hf st hg
    subst hP hw hK
    obtain ⟨xs,ys,q1,q2,hx⟩:=hg
    obtain ⟨is1,rv1,o1,_⟩:=dl I q1
    obtain ⟨is2,rv2,o2,_⟩:=dl I q2
    have l1:=rv1.length
    have l2:=rv2.length
    refine l5 (I.ok.hd hc) D st (.inl rfl) o1 o2 (by rcases hx with h | h; exact .inl (by simp; omega); exact .inr (by simp; omega)) fun h' hk=>⟨rfl,turnedL (t':=s.toks) I hf fun b o hb e=>?_⟩
    simp only [List.mem_cons,List.not_mem_nil,or_false,not_or] at hb
    exact hk b o hb.1 hb.2.2.1 hb.2.2.2.1 hb.2.2.2.2 e
  self:=fun _ _ _ _ _ st h=>jy st h
theorem l8:bootBuiltins "zip"=some (.type "zip"):=by decide +kernel
theorem vB {X:Cx} {elts:List Expr} {x1:Nat} {ps p pos:Pos} {a b:Expr} {ta:TA} (hg:Gl X "zip") (hm:X.mg "zip"=none) (ha:PA X [a,b] ta) (hs:starEach [a,b] X.env=[(false,eval a X.env),(false,eval b X.env)]:=by rfl) (hs2:starEach [b] X.env=[(false,eval b X.env)]:=by rfl) :
    PI X (.Tuple elts x1 ps) (.Call (.Name "zip" p) [a,b] [] pos) (fun σ H R=>ta σ H fun vs H1=>∃ b1 b2 a1 a2,vs=[.ref a1,.ref a2]∧(∃ xs,SqB X.K H1 b1 a1 xs)∧(∃ ys,SqB X.K H1 b2 a2 ys)∧R (Itz X.K b1 b2 a1 a2) H1):=by
  intro pins s σ H R I h
  refine Call_ (f8 I hg hm l8 (PyProof.Rows.callWith_type1 (thn (ha pos pins s σ H _ I h) fun us s1 ⟨vs,H1,I1,r1,q1⟩=>?_) (by rw [hs,hs2]) (by rw [hs2]; rfl)))
  obtain ⟨b1,b2,a1,a2,e,⟨xs,hx⟩,⟨ys,hy⟩,q⟩:=q1
  subst e
  cases r1 with
  | cons r rr =>
    cases rr with
    | cons r' rr =>
      cases rr
      cases r
      cases r'
      obtain ⟨is1,rv1,o1,_⟩:=dl I1 hx
      obtain ⟨is2,rv2,o2,_⟩:=dl I1 hy
      have lt:∀ {b:Bool} {a:Addr} {is:Array Value},SOb s1.heap b a is→a < s1.heap.objs.size:=fun {b a is} o=>by cases b<;>(obtain ⟨_,e,_⟩:=o; exact Heap.lt_size e)
      have D:=zipApart_new (lt o1) (lt o2)
      refine l6 o1 o2 fun h' zs hk=>jy (s:={ s1 with heap:=h' }) zs ?_
      have I2:Inv X pins σ H1 { s1 with heap:=h',toks:=s1.toks }:=I1.kept hk
      refine ⟨_,_,_,_,H1,rfl,I2,rK b1 b2 D,zs,fun c hc=>?_,q⟩
      have hb:s1.heap.objs.size≤c:=by
        simp only [List.mem_cons,List.not_mem_nil,or_false] at hc
        rcases hc with rfl | rfl | rfl | rfl | rfl
        · exact Nat.le_add_right _ _
        · exact Nat.le_add_right _ _
        · exact Nat.le_add_right _ _
        · exact Nat.le_refl _
        · exact Nat.le_add_right _ _
      exact I1.fpOk hb (I1.hok.fresh hb)
theorem l9:∀ {xs ys:List D} {i:Nat} {x y:D},xs[i]?=some x→ys[i]?=some y→(zipD xs ys)[i]?=some (.tup [x,y])
  | a::xs,b::ys,0,x,y,h1,h2=>by cases h1; cases h2; rfl
  | a::xs,b::ys,i+1,x,y,h1,h2=>l9 (xs:=xs) (ys:=ys) (i:=i) (by simpa using h1) (by simpa using h2)
  | [],_,_,_,_,h1,_=>by simp at h1
  | _::_,[],_,_,_,_,h2=>by simp at h2
theorem gF:∀ (xs ys:List D),(zipD xs ys).length=min xs.length ys.length
  | a::xs,b::ys=>by show (zipD xs ys).length+1=_; rw [gF xs ys,List.length_cons,List.length_cons]; omega
  | [],ys=>by cases ys<;>simp [zipD]
  | _::_,[]=>by simp [zipD]
theorem rL {F:Fx} {b1 b2:Bool} {a1 a2:Addr} {xs ys:List D} {vs us:List V} {Z:Hp} (h1:SqB F.K Z b1 a1 vs) (h2:SqB F.K Z b2 a2 us) (r1:Reps F.K F.C Z xs vs) (r2:Reps F.K F.C Z ys us):WalkG F (Itz F.K b1 b2 a1 a2) (zipD xs ys) Z:=fun i H Z2 z1 z2=>by
  have l:=gF xs ys
  have e1:=r1.length
  have e2:=r2.length
  refine ⟨fun hi=>?_,fun hi=>⟨vs,us,h1.mono (z1.trans z2),h2.mono (z1.trans z2),by omega⟩⟩
  have hx:vs[i]?=some vs[i]:=List.getElem?_eq_getElem (by omega)
  have hy:us[i]?=some us[i]:=List.getElem?_eq_getElem (by omega)
  refine ⟨⟨vs,us,_,_,h1.mono (z1.trans z2),h2.mono (z1.trans z2),hx,hy⟩,fun v H' ⟨p,x,y,hp,e,qx,qy,eH⟩=>?_⟩
  subst e; subst eH
  obtain ⟨dx,f1,g1⟩:=r1.get' (qx _ (h1.mono (z1.trans z2)))
  obtain ⟨dy,f2,g2⟩:=r2.get' (qy _ (h2.mono (z1.trans z2)))
  have z3:Same Z (upd Z2 p (.tup [x,y])):=z1.trans (aK (z2.free hp))
  refine ⟨upd Z2 p (.tup [x,y]),.tup [dx,dy],Ex.alloc z2 hp,l9 f1 f2,?_⟩
  rw [Rep]
  exact ⟨p,[x,y],rfl,SqT.of ar,Reps.cons (g1.mono z3) (Reps.cons (g2.mono z3) Reps.nil)⟩
section
variable {X:Cx} {F:Fx} {a b:Expr} {ga gb:SS→R D} {k:Nat}
theorem ma {S:SS} {α:Type} (f:D→D→R α):((aL [ga,gb]) S).bind (fun ds=>match ds with | [x,y]=>f x y | _=>R.stuck)=(ga S).bind fun x=>(gb S).bind fun y=>f x y:=by
  show (((ga S).bind fun d=>((gb S).bind fun d=>(R.ok []:R (List D)).bind fun ds=>R.ok (d::ds)).bind fun ds=>R.ok (d::ds))).bind _=_
  cases ga S with
  | ok x=>cases gb S<;>rfl
  | err k=>rfl
  | stuck=>rfl
theorem rM {elts:List Expr} {x1:Nat} {ps p pos:Pos} (bx:BX X F k) (hg:Gl X "zip") (hm:X.mg "zip"=none) (ha:FE X F a ga) (hb:FE X F b gb) (hs:starEach [a,b] X.env=[(false,eval a X.env),(false,eval b X.env)]:=by rfl) (hs2:starEach [b] X.env=[(false,eval b X.env)]:=by rfl) :
    FI X F (.Tuple elts x1 ps) (.Call (.Name "zip" p) [a,b] [] pos) (fun S=>(ga S).bind fun x=>(gb S).bind fun y=>dZip x y) :=
  (vB hg hm (FAL.out (aa ha (aa hb ad (hs:=by rw [hs2]; rfl)) (hs:=by rw [hs,hs2]))) hs hs2).weak fun σ H Q ⟨Z,S,ok,w⟩=>by
    have w:WG F H Z ((ga S).bind fun x=>(gb S).bind fun y=>dZip x y) _:=w
    rw [← ma] at w
    refine bH ok w fun ds vs H1 Z1 ok1 x1 rs w1=>?_
    obtain ⟨dx,dy,rfl⟩:∃ dx dy,ds=[dx,dy]:=by
      rcases ds with _ | ⟨dx,_ | ⟨dy,_ | ⟨dz,r⟩⟩⟩
      · exact False.elim w1
      · exact False.elim w1
      · exact ⟨dx,dy,rfl⟩
      · exact False.elim w1
    focus
      have w2:WG F H1 Z1 (dZip dx dy) _:=w1
      unfold dZip sq at w2
      rw [Reps] at rs
      obtain ⟨v1,r,rfl,q1,rs⟩:=rs
      rw [Reps] at rs
      obtain ⟨v2,r,rfl,q2,rs⟩:=rs
      rw [Reps] at rs
      subst rs
      cases e1:asSeq dx with
      | err k=>rw [e1] at w2; cases dx<;>cases e1
      | stuck=>rw [e1] at w2; exact w2.elim
      | ok xs =>
        rw [e1] at w2
        have w3:WG F H1 Z1 (R.bind (if xs.length≤16777216 then R.ok xs else R.stuck) fun xs=>((asSeq dy).bind fun ds=>if ds.length≤16777216 then R.ok ds else R.stuck).bind fun ys=>R.ok (zipD xs ys)) _:=w2
        split at w3
        · rename_i hl1
          cases e2:asSeq dy with
          | err k=>rw [e2] at w3; cases dy<;>cases e2
          | stuck=>rw [e2] at w3; exact w3.elim
          | ok ys =>
            rw [e2] at w3
            have w4:WG F H1 Z1 (R.bind (if ys.length≤16777216 then R.ok ys else R.stuck) fun ys=>R.ok (zipD xs ys)) _:=w3
            split at w4
            · obtain ⟨b1,a1,us1,rfl,s1,t1⟩:=la e1 q1
              obtain ⟨b2,a2,us2,rfl,s2,t2⟩:=la e2 q2
              rw [bx.K]
              exact ⟨b1,b2,a1,a2,rfl,⟨us1,s1.mono ok1.sub⟩,⟨us2,s2.mono ok1.sub⟩,WG.now w4 ok1.sub _ (rL s1 s2 t1 t2) (by rw [gF]; omega)⟩
            · exact w4.elim
        · exact w3.elim
end
end FF
end
noncomputable section
set_option Elab.async false
set_option linter.all false
set_option maxRecDepth 100000
namespace FF
open PySem PySem.Spec PyProof.Rows L2
section
variable {prog:Program} {w:World} {A:Around} {R:Result→Shared→Prop} {I S:Addr} {res:Value} {n:Nat}
theorem rN (J:Nat→Shared→Prop) (hn:n≤sizeLine)
    (item:∀ i s,i < n→J i s→wpAny (model prog w) A.in1 (pyNext (.ref I)) (fun r s'=>∃ v acc c,r=some v∧s'.heap.get? S=some { cls:=.type "list",dict:=none,data:=.seq acc c,slots:=#[] }∧acc.size=i∧J (i+1) { s' with heap:=s'.heap.update S (Obj.mapSeq (·.push v)) }) (fun e s'=>R (.error e) s') s)
    (done:∀ s,J n s→wpAny (model prog w) A.in1 (pyNext (.ref I)) (fun r s'=>r=none∧R (.ok (.ret res)) s') (fun e s'=>R (.error e) s') s) :
    ∀ (k i:Nat) (s:Shared),n - i=k→i≤n→J i s→codeAny (model prog w) A (.builtin "list.extend.loop" ⟨[.ref S,.ref I,res],[]⟩) R s:=by
  intro k
  induction k with
  | zero =>
    intro i s hk hi hj
    have hin:i=n:=by omega
    subst hin
    refine codeAny_builtin F.entry_extend_loop ?_
    rw [Around.under_plainId F.plain_extend_loop _]
    show wpAny _ A.in1 (pyNext (.ref I) >>= _) _ _ s
    refine wpAny_bind (wpAny_mono (done s hj) (fun r s' h=>?_) fun _ _ e=>e)
    obtain ⟨rfl,h⟩:=h
    exact wpAny_pure h
  | succ k ih =>
    intro i s hk hi hj
    have hlt:i < n:=by omega
    refine codeAny_builtin F.entry_extend_loop ?_
    rw [Around.under_plainId F.plain_extend_loop _]
    show wpAny _ A.in1 (pyNext (.ref I) >>= _) _ _ s
    refine wpAny_bind (wpAny_mono (item i s hlt hj) (fun r s' h=>?_) fun _ _ e=>e)
    obtain ⟨v,acc,c,rfl,hS,hacc,hj'⟩:=h
    show wpAny _ A.in1 (updateSeq S (·.push v) >>= _) _ _ _
    refine wpAny_bind ?_
    exact wpAny_updateSeq hS rfl (wpAny_pure ⟨plainId_quiet F.plain_extend_loop _,ih (i+1) _ (by omega) hlt hj'⟩)
      (by rw [hacc]; omega) (by show (acc.push v).size≤sizeLine+1; rw [Array.size_push,hacc]; omega)
theorem ny:typeLookup (.type "zip") "__len__"=pure none:=by rw [typeLookup_type,builtinLookup_eq_fast]; kernel_rfl
theorem md:typeLookup (.type "zip") "__length_hint__"=pure none:=by rw [typeLookup_type,builtinLookup_eq_fast]; kernel_rfl
theorem tV {s:Shared} {z TI TO i1 i2 l1 l2:Addr} {b1 b2:Bool} {k:Nat} {f0:Value} {c₀:Nat} (hz:Zs s.heap z TI TO i1 i2 l1 l2 b1 b2 k f0) (hS:s.heap.get? S=some { cls:=.type "list",data:=.seq #[] c₀ })
    (go:∀ f:Obj→Obj,codeAny (model prog w) A (.builtin "list.extend.loop" ⟨[.ref S,.ref z,res],[]⟩) R { s with heap:=(s.heap.update S (Obj.mapSeq (·.push Value.none))).update S (Obj.mapSeq (·.pop)) }) :
    wpAny (model prog w) A.in1 (Builtin.List.listExtendWith (.ref S) (.ref z) res)
      (fun fin s'=>match fin with | .done f=>R (.ok f) s' | .again c'=>c'.quiet=true∧codeAny (model prog w) A c' R s') (fun e s'=>R (.error e) s') s:=by
  obtain ⟨⟨u,e1⟩,_⟩:=id hz
  have hT:s.TypeIs (.ref z) "zip" := ⟨_,e1,rfl⟩
  have hSI:S≠z:=fun e=>by subst e; have q:some (Value.type "list")=some (Value.type "zip"):=congrArg (fun o=>o.map Obj.cls) (hS.symm.trans e1); revert q; decide
  unfold Builtin.List.listExtendWith
  refine wpAny_bind (wpAny_typeOf hT ?_)
  have h1:Builtin.List.listSameRef (.ref S) (.ref z)=false:=by simp [Builtin.List.listSameRef,hSI]
  have h2:(Value.type "zip" == Value.type "list")=false:=by decide
  have h3:(Value.type "zip" == Value.type "tuple")=false:=by decide
  simp only [h1,h2,h3,Bool.or_false,Bool.false_eq_true,if_false]
  refine wpAny_bind (jy hz ?_)
  refine wpAny_bind (wpAny_holding ?_)
  unfold Builtin.List.listLengthHint
  refine wpAny_bind (wpAny_specialOf hT ny ?_)
  show wpAny _ A.in1 (specialOf (Value.ref z) (Str.ofString "__length_hint__") >>= _) _ _ _
  refine wpAny_bind (wpAny_specialOf hT md ?_)
  refine wpAny_pure ?_
  show wpAny _ A.in1 (rule "list.extend.makes-room" >>= fun _=>Builtin.List.listTouch (.ref S) >>= fun _ =>
    again (.builtin "list.extend.loop" ⟨[.ref S,.ref z,res],[]⟩)) _ _ _
  refine wpAny_bind (wpAny_rule ?_)
  refine wpAny_bind ?_
  show wpAny _ A.in1 (updateSeq S (·.push .none) >>= fun _=>updateSeq S (·.pop)) _ _ _
  refine wpAny_bind (wpAny_updateSeq hS rfl ?_)
  have hS₂:=Heap.get?_update_self (Obj.mapSeq (·.push Value.none)) hS rfl
  refine wpAny_updateSeq (hz:=by seq_fits) hS₂ rfl ?_
  exact wpAny_pure ⟨plainId_quiet F.plain_extend_loop _,go id⟩
theorem rP {s:Shared} {z TI TO i1 i2 l1 l2:Addr} {b1 b2:Bool} {k:Nat} {f0:Value} (hz:Zs s.heap z TI TO i1 i2 l1 l2 b1 b2 k f0) (hf:S∉[z,TI,TO,i1,i2]) (hS:s.heap.get? S=some { cls:=.type "list",data:=.seq #[] })
    (go:codeAny (model prog w) A (.builtin "list.extend.loop" ⟨[.ref S,.ref z,.none],[]⟩) R { s with heap:=((s.heap.update S (Obj.mapSeq (fun _=>#[]))).update S (Obj.mapSeq (·.push Value.none))).update S (Obj.mapSeq (·.pop)) }) :
    wpAny (model prog w) A.in1 (Builtin.«list.__init__» ⟨[.ref S,.ref z],[]⟩)
      (fun fin s'=>match fin with | .done f=>R (.ok f) s' | .again c'=>c'.quiet=true∧codeAny (model prog w) A c' R s') (fun e s'=>R (.error e) s') s:=by
  show wpAny _ A.in1 (do let old ← Builtin.List.listItems (.ref S); Builtin.List.listUpdate (.ref S) (fun _=>#[]); letGo old.toList.reverse; Builtin.List.listExtendWith (.ref S) (.ref z) .none) _ _ s
  refine wpAny_bind ?_
  unfold Builtin.List.listItems
  refine wpAny_bind (wpAny_seqItems hS rfl (wpAny_pure ?_))
  show wpAny _ A.in1 (updateSeq S (fun _=>#[]) >>= fun _=>letGo (#[]:Array Value).toList.reverse >>= fun _=>Builtin.List.listExtendWith (.ref S) (.ref z) .none) _ _ s
  refine wpAny_bind (wpAny_updateSeq hS rfl ?_)
  have hS₂:=Heap.get?_update_self (Obj.mapSeq (fun _=>(#[]:Array Value))) hS rfl
  refine wpAny_bind (wpAny_letGo ?_)
  exact tV (hz.at fun b hb o e=>(Heap.get?_update_other _ _ (fun q:S=b=>hf (q ▸ hb))).trans e) hS₂ fun _=>go
theorem rQ {s:Shared} {E:Value→Shared→Prop} {Q:Value→Shared→Prop} {z TI TO i1 i2 l1 l2:Addr} {b1 b2:Bool} {k:Nat} {f0:Value} (hz:Zs s.heap z TI TO i1 i2 l1 l2 b1 b2 k f0)
    (go:∀ R:Result→Shared→Prop,(∀ s',Q (.ref s.heap.objs.size) s'→R (.ok (.ret .none)) s')→(∀ e s',E e s'→R (.error e) s')→codeAny (model prog w) A.in1 (.builtin "list.extend.loop" ⟨[.ref s.heap.objs.size,.ref z,.none],[]⟩) R
      { s with heap:=(((s.heap.push { cls:=.type "list",data:=.seq #[] }).update s.heap.objs.size (Obj.mapSeq (fun _=>#[]))).update s.heap.objs.size (Obj.mapSeq (·.push Value.none))).update s.heap.objs.size (Obj.mapSeq (·.pop)) }) :
    wpAny (model prog w) A (call (.type "list") [.ref z]) Q E s:=by
  refine callType_codes (Q₁:=fun obj s₁=>obj=.ref s.heap.objs.size∧s₁={ s with heap:=s.heap.push { cls:=.type "list",data:=.seq #[] } }) F.called_list (F.typeCall_list_1 _) F.entry_list_init
    (code_list_new _ ⟨rfl,rfl⟩) fun obj s₁ h₁=>?_
  obtain ⟨rfl,rfl⟩:=h₁
  have hS:(s.heap.push { cls:=.type "list",data:=.seq #[] }).get? s.heap.objs.size=some { cls:=.type "list",data:=.seq #[] }:=Heap.get?_push_size _ rfl
  have hf:s.heap.objs.size∉[z,TI,TO,i1,i2]:=fun hb=>by
    obtain ⟨⟨u,e1⟩,e2,⟨p,q,e3⟩,e4,e5⟩:=hz
    simp only [List.mem_cons,List.not_mem_nil,or_false] at hb
    rcases hb with hb | hb | hb | hb | hb
    · exact Nat.lt_irrefl _ (hb ▸ Heap.lt_size e1)
    · exact Nat.lt_irrefl _ (hb ▸ Heap.lt_size e2)
    · exact Nat.lt_irrefl _ (hb ▸ Heap.lt_size e3)
    · obtain ⟨o,ho,_⟩:=e4.lt; exact Nat.lt_irrefl _ (hb ▸ Heap.lt_size ho)
    · obtain ⟨o,ho,_⟩:=e5.lt; exact Nat.lt_irrefl _ (hb ▸ Heap.lt_size ho)
  refine ⟨⟨_,hS,rfl⟩,F.args_list_init_2 _ _,rP (hz.at fun b hb o e=>Heap.get?_push_of_some _ e) hf hS (go _ (fun s' h=>⟨rfl,h⟩) fun e s' h=>h)⟩
end
theorem iY {H:Hp} {p:Addr} {a b:HO}:upd (upd H p a) p b=upd H p b:=by
  funext c
  by_cases h:c=p
  · subst h; rw [ar,ar]
  · rw [aq h,aq h,aq h]
theorem pR:bootBuiltins "list"=some (.type "list"):=by decide +kernel
structure LzJ (X:Cx) (pins:List (Addr×Obj)) (σ:St) (H1:Hp) (S z TI TO i1 i2 a1 a2:Addr) (b1 b2:Bool) (xs ys:List V) (i:Nat) (s:Shared):Prop where
  ex:∃ H vs f0,Inv X pins σ H s∧H S=some (.lst vs)∧vs.length=i∧Zs s.heap z TI TO i1 i2 a1 a2 b1 b2 i f0∧(f0=.none∨∃ (T:Addr) (t:List V),f0=rawInt T∧H T=some (.tup t))∧(∀ b∈[z,TI,TO,i1,i2],FpOk X pins H b)∧Same H1 H ∧
    ∀ (j:Nat) (x y v:V),xs[j]?=some x→ys[j]?=some y→vs[j]?=some v→∃ p,v=V.ref p∧H1 p=none∧H p=some (.tup [x,y])
section
variable {X:Cx} {pins:List (Addr×Obj)} {σ:St} {H1:Hp} {S z TI TO i1 i2 a1 a2:Addr} {b1 b2:Bool} {xs ys:List V}
theorem me {H:Hp} {s:Shared} {f0:Value} (I:Inv X pins σ H s) (hf:∀ b∈[z,TI,TO,i1,i2],FpOk X pins H b) (h:f0=.none∨∃ (T:Addr) (t:List V),f0=rawInt T∧H T=some (.tup t)) :
    f0=.none∨∃ (T:Addr) (o:Obj),f0=rawInt T∧T≠z∧T≠i1∧T≠i2∧s.heap.get? T=some o:=by
  rcases h with h | ⟨T,t,e,hT⟩
  · exact .inl h
  · have ne:∀ b∈[z,TI,TO,i1,i2],T≠b:=fun b hb q=>by subst q; rw [(hf T hb).1] at hT; cases hT
    obtain ⟨_,_,_,o,ho,_⟩:=I.hok T _ hT
    exact .inr ⟨T,o,e,ne z (by simp),ne i1 (by simp),ne i2 (by simp),ho⟩
theorem tW {A:Around} {E:Value→Shared→Prop} {s:Shared} {i:Nat} (D:ZipApart z TI TO i1 i2 a1 a2) (h1:SqB X.K H1 b1 a1 xs) (h2:SqB X.K H1 b2 a2 ys) (hS1:H1 S=none) (hi:i < min xs.length ys.length) (hz:min xs.length ys.length≤sizeLine) (J:LzJ X pins σ H1 S z TI TO i1 i2 a1 a2 b1 b2 xs ys i s) :
    wpAny (model X.prog X.w) A (pyNext (.ref z)) (fun r s'=>∃ v acc c,r=some v∧s'.heap.get? S=some { cls:=.type "list",dict:=none,data:=.seq acc c,slots:=#[] }∧acc.size=i∧LzJ X pins σ H1 S z TI TO i1 i2 a1 a2 b1 b2 xs ys (i+1) { s' with heap:=s'.heap.update S (Obj.mapSeq (·.push v)) }) E s:=by
  obtain ⟨H,vs,f0,I,hS,hl,zs,hf0,hf,sm,pr⟩:=J.ex
  have q1:=h1.mono sm
  have q2:=h2.mono sm
  obtain ⟨is1,rv1,o1,_⟩:=dl I q1
  obtain ⟨is2,rv2,o2,_⟩:=dl I q2
  have hx:xs[i]?=some xs[i]:=List.getElem?_eq_getElem (by omega)
  have hy:ys[i]?=some ys[i]:=List.getElem?_eq_getElem (by omega)
  obtain ⟨u,hu,ru⟩:=rv1.get hx
  obtain ⟨v,hv,rv⟩:=rv2.get hy
  obtain ⟨its,n,r,eS,_⟩:=I.lst hS
  have lt:∀ b∈[z,TI,TO,i1,i2],b≠s.heap.objs.size:=fun b hb=>by
    obtain ⟨⟨u,e1⟩,e2,⟨p,q,e3⟩,e4,e5⟩:=zs
    simp only [List.mem_cons,List.not_mem_nil,or_false] at hb
    rcases hb with rfl | rfl | rfl | rfl | rfl
    · exact Nat.ne_of_lt (Heap.lt_size e1)
    · exact Nat.ne_of_lt (Heap.lt_size e2)
    · exact Nat.ne_of_lt (Heap.lt_size e3)
    · obtain ⟨o,ho,_⟩:=e4.lt; exact Nat.ne_of_lt (Heap.lt_size ho)
    · obtain ⟨o,ho,_⟩:=e5.lt; exact Nat.ne_of_lt (Heap.lt_size ho)
  have neS:∀ b∈[z,TI,TO,i1,i2],S≠b:=fun b hb q=>by subst q; rw [(hf S hb).1] at hS; cases hS
  have nS:S≠s.heap.objs.size:=Nat.ne_of_lt (Heap.lt_size eS)
  refine l4 D zs (me I hf hf0) o1 o2 (x:=u) (y:=v) (by simpa using hu) (by simpa using hv) fun h' g0 c1 c2 _ c3 c4 c5=>?_
  have k2:∀ b o,b∉[z,TI,TO,i1,i2]→s.heap.get? b=some o→h'.get? b=some o:=fun b o hb e=>by
    simp only [List.mem_cons,List.not_mem_nil,or_false,not_or] at hb
    exact c5 b o hb.1 hb.2.2.1 hb.2.2.2.1 hb.2.2.2.2 e
  have I2:Inv X pins σ (upd H s.heap.objs.size (.tup [xs[i],ys[i]])) { s with heap:=h',toks:=s.toks }:=turnedP I hf lt ru rv c3 k2
  have eS':h'.get? S=some { cls:=.type "list",data:=.seq its.toArray n }:=k2 _ _ (fun hb=>neS S hb rfl) eS
  have hl':=r.length
  refine ⟨_,its.toArray,n,rfl,eS',by simp; omega,?_⟩
  have I3:=Inv.lset (t':=s.toks) (ys:=vs++[.ref s.heap.objs.size]) (its':=its++[.ref s.heap.objs.size]) (f:=(·.push (.ref s.heap.objs.size))) I2 (l:=S) (xs:=vs) (by rw [aq nS]; exact hS) eS' (by simp) (show Vals (vs++[V.ref s.heap.objs.size]) (its++[Value.ref s.heap.objs.size]) from r.append (.cons (show RelV (V.ref s.heap.objs.size) (Value.ref s.heap.objs.size) from rfl) .nil)) (by simp only [List.length_append,List.length_cons,List.length_nil]; omega)
  have fr:H s.heap.objs.size=none:=I.hok.fresh (Nat.le_refl _)
  refine ⟨_,vs++[.ref s.heap.objs.size],g0,I3,ar,by simp [hl],c1.at fun b hb o e=>(Heap.get?_update_other _ _ (neS b hb)).trans e,?_,fun b hb=>?_,fun b o e=>?_,fun j x y w ex ey ew=>?_⟩
  · rcases c2 with e | ⟨e,ne⟩
    · exact .inr ⟨s.heap.objs.size,[xs[i],ys[i]],e,by rw [aq (Ne.symm nS),ar]⟩
    · rcases hf0 with z0 | ⟨T,t,e2,hT⟩
      · exact absurd z0 ne
      · refine .inr ⟨T,t,e.trans e2,?_⟩
        rw [aq (fun q=>by subst q; rw [hS] at hT; cases hT),aq (fun q=>by subst q; rw [fr] at hT; cases hT)]
        exact hT
  · obtain ⟨f0,f1⟩:=hf b hb
    exact ⟨by rw [aq (Ne.symm (neS b hb)),aq (lt b hb)]; exact f0,f1⟩
  · rw [aq (fun q=>by subst q; rw [hS1] at e; cases e),aq (fun q=>by subst q; have:=sm _ _ e; rw [fr] at this; cases this)]
    exact sm b o e
  · by_cases hj:j < vs.length
    · rw [List.getElem?_append_left hj] at ew
      obtain ⟨p,e1,e2,e3⟩:=pr j x y w ex ey ew
      refine ⟨p,e1,e2,?_⟩
      rw [aq (fun q=>by subst q; rw [hS] at e3; cases e3),aq (fun q=>by subst q; rw [fr] at e3; cases e3)]
      exact e3
    · rw [List.getElem?_append_right (by omega)] at ew
      have hj':j=i:=by
        have:=(List.getElem?_eq_some_iff.mp ew).1
        simp only [List.length_cons,List.length_nil] at this
        omega
      subst hj'
      rw [hl,Nat.sub_self] at ew
      cases ew
      rw [hx] at ex
      rw [hy] at ey
      cases ex
      cases ey
      refine ⟨s.heap.objs.size,rfl,?_,by rw [aq (Ne.symm nS),ar]⟩
      cases q:H1 s.heap.objs.size with
      | none=>rfl
      | some o=>have:=sm _ _ q; rw [fr] at this; cases this
theorem mf {a b:Expr} {ta:TA} {p p2 pos pos2:Pos} (hc:X.calm=true) (hg:Gl X "list") (hm:X.mg "list"=none) (hg2:Gl X "zip") (hm2:X.mg "zip"=none) (ha:PA X [a,b] ta)
    (hs:starEach [a,b] X.env=[(false,eval a X.env),(false,eval b X.env)]) (hs2:starEach [b] X.env=[(false,eval b X.env)]) (hs3:starEach [.Call (.Name "zip" p2) [a,b] [] pos2] X.env=[(false,eval (.Call (.Name "zip" p2) [a,b] [] pos2) X.env)]) :
    PE X (.Call (.Name "list" p) [.Call (.Name "zip" p2) [a,b] [] pos2] [] pos) (fun σ H Q=>ta σ H fun ws H1=>∃ b1 b2 a1 a2 xs ys,ws=[.ref a1,.ref a2]∧SqB X.K H1 b1 a1 xs∧SqB X.K H1 b2 a2 ys ∧
      ∀ l vs H2,Same H1 H2→H1 l=none→H2 l=some (.lst vs)→vs.length=min xs.length ys.length→(∀ (j:Nat) (x y v:V),xs[j]?=some x→ys[j]?=some y→vs[j]?=some v→∃ p,v=V.ref p∧H1 p=none∧H2 p=some (.tup [x,y]))→Q (.ref l) H2):=by
  intro pins s σ H Q I h
  refine Call_ (f8 I hg hm pR (PyProof.Rows.callWith_type1 ?_ (by rw [hs3]; rfl) (by rfl)))
  rw [hs3]
  refine Calls.spliced_cons ?_
  refine Call_ (f8 I hg2 hm2 l8 (PyProof.Rows.callWith_type1 (thn (ha pos2 pins s σ H _ I h) fun us s1 ⟨vs,H1,I1,r1,q1⟩=>?_) (by rw [hs,hs2]) (by rw [hs2]; rfl)))
  obtain ⟨b1,b2,a1,a2,xs,ys,e,hx,hy,q⟩:=q1
  subst e
  cases r1 with
  | cons r rr =>
    cases rr with
    | cons r' rr =>
      cases rr
      cases r
      cases r'
      obtain ⟨is1,rv1,o1,z1⟩:=dl I1 hx
      obtain ⟨is2,rv2,o2,z2⟩:=dl I1 hy
      have lt:∀ {b:Bool} {a:Addr} {is:Array Value},SOb s1.heap b a is→a < s1.heap.objs.size:=fun {b a is} o=>by cases b<;>(obtain ⟨_,e,_⟩:=o; exact Heap.lt_size e)
      have D:=zipApart_new (lt o1) (lt o2)
      refine l6 o1 o2 fun h' zs hk=>Calls.spliced_nil ?_
      have I2:Inv X pins σ H1 { s1 with heap:=h',toks:=s1.toks }:=I1.kept hk
      have hf2:∀ b∈[s1.heap.objs.size+4,s1.heap.objs.size+2,s1.heap.objs.size+3,s1.heap.objs.size,s1.heap.objs.size+1],FpOk X pins H1 b:=fun c hc=>by
        have hb:s1.heap.objs.size≤c:=by
          simp only [List.mem_cons,List.not_mem_nil,or_false] at hc
          rcases hc with rfl | rfl | rfl | rfl | rfl
          · exact Nat.le_add_right _ _
          · exact Nat.le_add_right _ _
          · exact Nat.le_add_right _ _
          · exact Nat.le_refl _
          · exact Nat.le_add_right _ _
        exact I1.fpOk hb (I1.hok.fresh hb)
      have fr:H1 h'.objs.size=none:=I2.hok.fresh (Nat.le_refl _)
      refine rQ (s:={ s1 with heap:=h' }) zs fun R hR hE=>?_
      have I3:=Inv.lnew (t':=s1.toks) (ys:=[]) (its:=[]) I2 .nil (Nat.zero_le _)
      have e3:(h'.push { cls:=.type "list",data:=.seq #[] }).get? h'.objs.size=some { cls:=.type "list",data:=.seq ([]:List Value).toArray 0 }:=Heap.get?_push_size _ rfl
      have I4:=Inv.lset (t':=s1.toks) (ys:=[]) (its':=[]) (f:=fun _=>#[]) I3 (l:=h'.objs.size) ar e3 rfl .nil (Nat.zero_le _)
      obtain ⟨its4,n4,r4,e4,_⟩:=I4.lst ar
      cases r4
      have I5:=Inv.lset (t':=s1.toks) (ys:=[.non]) (its':=[.none]) (f:=(·.push Value.none)) I4 (l:=h'.objs.size) ar e4 rfl (.cons (show RelV .non Value.none from rfl) .nil) (by show 1≤sizeLine; decide)
      obtain ⟨its5,n5,r5,e5,_⟩:=I5.lst ar
      cases r5 with
      | cons p5 q5 =>
        cases q5
        have I6:=Inv.lset (t':=s1.toks) (ys:=[]) (its':=[]) (f:=(·.pop)) I5 (l:=h'.objs.size) ar e5 rfl .nil (Nat.zero_le _)
        rw [iY,iY,iY] at I6
        have ltz:∀ b∈[s1.heap.objs.size+4,s1.heap.objs.size+2,s1.heap.objs.size+3,s1.heap.objs.size,s1.heap.objs.size+1],h'.objs.size≠b:=fun b hb=>by
          obtain ⟨⟨u,e1⟩,e2,⟨p,q,e3⟩,e4,e5⟩:=zs
          simp only [List.mem_cons,List.not_mem_nil,or_false] at hb
          rcases hb with rfl | rfl | rfl | rfl | rfl
          · exact Nat.ne_of_gt (Heap.lt_size e1)
          · exact Nat.ne_of_gt (Heap.lt_size e2)
          · exact Nat.ne_of_gt (Heap.lt_size e3)
          · obtain ⟨o,ho,_⟩:=e4.lt; exact Nat.ne_of_gt (Heap.lt_size ho)
          · obtain ⟨o,ho,_⟩:=e5.lt; exact Nat.ne_of_gt (Heap.lt_size ho)
        refine rN (n:=min xs.length ys.length) (LzJ X pins σ H1 h'.objs.size _ _ _ _ _ a1 a2 b1 b2 xs ys) (by omega) (fun i s' hi J=>tW D hx hy fr hi (by omega) J) (fun s' J=>?_) _ 0 _ rfl (Nat.zero_le _) ?_
        · obtain ⟨H,vs,f0,J1,hS,hl,zs',hf0,hf,sm,pr⟩:=J.ex
          obtain ⟨js1,rw1,p1,_⟩:=dl J1 (hx.mono sm)
          obtain ⟨js2,rw2,p2,_⟩:=dl J1 (hy.mono sm)
          have l1:=rw1.length
          have l2:=rw2.length
          refine l5 (show X.A.in1.in1.handled=none from I.ok.hd hc) D zs' (me J1 hf hf0) p1 p2 (by
            rcases Nat.le_total xs.length ys.length with h | h
            · exact .inl (by simp; omega)
            · exact .inr (by simp; omega)) fun h2 hk2=>⟨rfl,hR _ ⟨.ref h'.objs.size,H,turnedL (t':=s'.toks) J1 hf fun b o hb e=>?_,rfl,q _ vs H sm fr hS hl pr⟩⟩
          simp only [List.mem_cons,List.not_mem_nil,or_false,not_or] at hb
          exact hk2 b o hb.1 hb.2.2.1 hb.2.2.2.1 hb.2.2.2.2 e
        · refine ⟨_,[],.none,I6,ar,rfl,zs.at fun b hb o e=>?_,.inl rfl,fun b hb=>?_,aK fr,fun j x y v _ _ ev=>by simp at ev⟩
          · exact (Heap.get?_update_other _ _ (ltz b hb)).trans ((Heap.get?_update_other _ _ (ltz b hb)).trans ((Heap.get?_update_other _ _ (ltz b hb)).trans (Heap.get?_push_of_some _ e)))
          · obtain ⟨f0,f1⟩:=hf2 b hb
            exact ⟨by rw [aq (Ne.symm (ltz b hb))]; exact f0,f1⟩
end
theorem rR {H1 Z H2:Hp} (z:Same Z H1) (s:Same H1 H2):Ex H1 Z H2 (fun b=>if H1 b=none then H2 b else Z b):=by
  refine ⟨s,fun b o e=>?_,fun b o e=>?_,fun b hb=>?_⟩
  · show (if H1 b=none then H2 b else Z b)=some o
    rw [if_neg (by rw [z b o e]; simp)]; exact e
  · have e':(if H1 b=none then H2 b else Z b)=some o:=e
    split at e'
    · exact e'
    · exact s b o (z b o e')
  · by_cases q:H1 b=none
    · exact .inr q
    · have hb':(if H1 b=none then H2 b else Z b)≠none:=hb
      rw [if_neg q] at hb'
      exact .inl hb'
theorem oM {K:PySem.W.Frag} {C:Nat→Addr} {Z:Hp}:∀ {ds:List D} {vs:List V},ds.length=vs.length→(∀ (j:Nat) (d:D) (v:V),ds[j]?=some d→vs[j]?=some v→Rep K C Z d v)→Reps K C Z ds vs
  | [],[],_,_=>Reps.nil
  | d::ds,v::vs,hl,h=>Reps.cons (h 0 d v rfl rfl) (oM (by simpa using hl) fun j d' v' e1 e2=>h (j+1) d' v' (by simpa using e1) (by simpa using e2))
  | [],_::_,hl,_=>by simp at hl
  | _::_,[],hl,_=>by simp at hl
theorem mh:∀ {xs ys:List D} {i:Nat} {d:D},(zipD xs ys)[i]?=some d→∃ x y,xs[i]?=some x∧ys[i]?=some y∧d=.tup [x,y]
  | a::xs,b::ys,0,d,h=>by cases h; exact ⟨a,b,rfl,rfl,rfl⟩
  | a::xs,b::ys,i+1,d,h=>by
    obtain ⟨x,y,h1,h2,h3⟩:=mh (xs:=xs) (ys:=ys) (i:=i) (by simpa [zipD] using h)
    exact ⟨x,y,by simpa using h1,by simpa using h2,h3⟩
  | [],ys,i,d,h=>by cases ys<;>simp [zipD] at h
  | _::_,[],i,d,h=>by simp [zipD] at h
section
variable {X:Cx} {F:Fx} {a b:Expr} {ga gb:SS→R D} {k:Nat}
theorem mi {p p2 pos pos2:Pos} (bx:BX X F k) (hg:Gl X "list") (hm:X.mg "list"=none) (hg2:Gl X "zip") (hm2:X.mg "zip"=none) (ha:FAL X F [a,b] [ga,gb])
    (hs:starEach [a,b] X.env=[(false,eval a X.env),(false,eval b X.env)]:=by rfl) (hs2:starEach [b] X.env=[(false,eval b X.env)]:=by rfl) (hs3:starEach [.Call (.Name "zip" p2) [a,b] [] pos2] X.env=[(false,eval (.Call (.Name "zip" p2) [a,b] [] pos2) X.env)]:=by rfl) :
    FE X F (.Call (.Name "list" p) [.Call (.Name "zip" p2) [a,b] [] pos2] [] pos) (fun S=>((ga S).bind fun x=>(gb S).bind fun y=>dZip x y).bind fun zs=>R.ok (FF.D.lst zs)) :=
  (mf bx.calm hg hm hg2 hm2 (FAL.out ha) hs hs2 hs3).weak fun σ H Q ⟨Z,S,ok,w⟩=>by
    have w:WG F H Z (((ga S).bind fun x=>(gb S).bind fun y=>dZip x y).bind fun zs=>R.ok (FF.D.lst zs)) _:=w
    rw [← ma,R.bind_assoc] at w
    refine bH ok w fun ds vs H1 Z1 ok1 x1 rs w1=>?_
    obtain ⟨dx,dy,rfl⟩:∃ dx dy,ds=[dx,dy]:=by
      rcases ds with _ | ⟨dx,_ | ⟨dy,_ | ⟨dz,r⟩⟩⟩
      · exact False.elim w1
      · exact False.elim w1
      · exact ⟨dx,dy,rfl⟩
      · exact False.elim w1
    focus
      have w2:WG F H1 Z1 ((dZip dx dy).bind fun zs=>R.ok (FF.D.lst zs)) _:=w1
      unfold dZip sq at w2
      rw [Reps] at rs
      obtain ⟨v1,r,rfl,q1,rs⟩:=rs
      rw [Reps] at rs
      obtain ⟨v2,r,rfl,q2,rs⟩:=rs
      rw [Reps] at rs
      subst rs
      cases e1:asSeq dx with
      | err k=>rw [e1] at w2; cases dx<;>cases e1
      | stuck=>rw [e1] at w2; exact w2.elim
      | ok xs =>
        rw [e1] at w2
        have w3:WG F H1 Z1 ((R.bind (if xs.length≤16777216 then R.ok xs else R.stuck) fun xs=>((asSeq dy).bind fun ds=>if ds.length≤16777216 then R.ok ds else R.stuck).bind fun ys=>R.ok (zipD xs ys)).bind fun zs=>R.ok (FF.D.lst zs)) _:=w2
        split at w3
        · rename_i hl1
          cases e2:asSeq dy with
          | err k=>rw [e2] at w3; cases dy<;>cases e2
          | stuck=>rw [e2] at w3; exact w3.elim
          | ok ys =>
            rw [e2] at w3
            have w4:WG F H1 Z1 ((R.bind (if ys.length≤16777216 then R.ok ys else R.stuck) fun ys=>R.ok (zipD xs ys)).bind fun zs=>R.ok (FF.D.lst zs)) _:=w3
            split at w4
            · obtain ⟨b1,a1,us1,rfl,s1,t1⟩:=la e1 q1
              obtain ⟨b2,a2,us2,rfl,s2,t2⟩:=la e2 q2
              rw [bx.K]
              have l1:=t1.length
              have l2:=t2.length
              refine ⟨b1,b2,a1,a2,us1,us2,rfl,s1.mono ok1.sub,s2.mono ok1.sub,fun l vs H2 sm hl e hv pr=>?_⟩
              have w5:WG F H1 Z1 (R.ok (FF.D.lst (zipD xs ys))) _:=w4
              have zz:Same Z1 (fun b=>if H1 b=none then H2 b else Z1 b):=(rR ok1.sub sm).z
              refine w5 H2 _ (rR ok1.sub sm) _ ?_
              rw [Rep]
              refine ⟨l,vs,rfl,SqL.of (by show (if H1 l=none then H2 l else Z1 l)=_; rw [if_pos hl]; exact e),oM (by rw [gF,hv]; omega) fun j d v ed ev=>?_⟩
              obtain ⟨x,y,f1,f2,rfl⟩:=mh ed
              obtain ⟨u1,g1,k1⟩:=t1.get f1
              obtain ⟨u2,g2,k2⟩:=t2.get f2
              obtain ⟨p,rfl,hp1,hp2⟩:=pr j u1 u2 v g1 g2 ev
              rw [Rep]
              exact ⟨p,[u1,u2],rfl,SqT.of (by show (if H1 p=none then H2 p else Z1 p)=_; rw [if_pos hp1]; exact hp2),Reps.cons (k1.mono zz) (Reps.cons (k2.mono zz) Reps.nil)⟩
            · exact w4.elim
        · exact w3.elim
end
end FF
end
noncomputable section
set_option Elab.async false
set_option linter.all false
set_option maxRecDepth 100000
namespace FF
open PySem PySem.Spec PyProof.Rows L2
section
variable {X:Cx} {F:Fx} {e:Expr} {g:SS→R D} {k:Nat} {l:List (Str×Nat)} {x:Str} {p pos:Pos}
end
section
variable {prog:Program} {w:World} {A:Around} {E:Value→Shared→Prop} {s:Shared}
end
section
variable {X:Cx} {F:Fx} {k:Nat} {l:List (Str×Nat)} {x:Str} {p p2 pos:Pos}
end
end FF
end
noncomputable section
set_option Elab.async false
set_option linter.all false
set_option maxRecDepth 100000
namespace FF
open PySem PySem.Spec PyProof.Rows L2
open AutoSeq1 (wpAny_loadPart')
section
variable {prog:Program} {w:World} {A:Around} {E:Value→Shared→Prop} {s:Shared}
end
section
variable {prog:Program} {w:World} {A:Around} {E:Value→Shared→Prop} {s:Shared}
end
section
variable {X:Cx} {F:Fx} {a:Expr} {ga:SS→R D} {k:Nat}
end
end FF
end
noncomputable section
set_option Elab.async false
set_option linter.all false
set_option maxRecDepth 100000
namespace FF
open PySem PySem.Spec PyProof.Rows L2
section
variable {X:Cx} {F:Fx} {a:Expr} {ga:SS→R D} {k:Nat} {p p2 pos pos2:Pos}
end
section
variable {prog:Program} {w:World} {A:Around} {E:Value→Shared→Prop} {s:Shared}
end
section
variable {X:Cx} {F:Fx}
variable {σ:Type} {S:SS} {rest:List Stmt} {J:σ→SS→Prop} {e:Expr} {ge:SS→R D} {r:R D} {n:Nat}
end
end FF
end
noncomputable section
set_option Elab.async false
set_option linter.all false
set_option maxRecDepth 100000
namespace FF
open PySem PySem.Spec PyProof.Rows L2
section
variable {X:Cx} {F:Fx}
end
def eM2 (own:Nat) (cap:List Nat) (it:SS→R (List D)) (i j:Nat) (e:SS→R D):SS→R D:=fun S=>(it S).bind fun ds =>
  cMap (fun d=>un2 d fun x y=>e (((blkS own cap S).set i (some (.val x))).set j (some (.val y)))) ds
theorem oN (f:D→D→R D):∀ ds:List D,cGo (fun d=>un2 d fun _ _=>.ok true) (fun d=>un2 d f) ds=cGo (fun _=>.ok true) (fun d=>un2 d f) ds
  | []=>rfl
  | d::ds=>by
    have ih:=oN f ds
    cases d with
    | tup xs =>
      match xs with
      | [a,b] =>
        have e1:un2 (.tup [a,b]) (fun _ _=>(R.ok true:R Bool))=.ok true:=rfl
        rw [cGo,cGo,e1,ih]
      | []=>rfl
      | [_]=>rfl
      | _::_::_::_=>rfl
    | _=>rfl
theorem rS {own:Nat} {cap:List Nat} {it:SS→R (List D)} {i j:Nat} {e:SS→R D} (S:SS):eC2 own cap it i j tTrue e S=eM2 own cap it i j e S:=by
  unfold eC2 eM2
  cases it S with
  | ok ds=>exact congrArg (fun r:R (List D)=>r.bind fun ys=>R.ok (FF.D.lst ys)) (oN _ ds)
  | err k=>rfl
  | stuck=>rfl
theorem wl {X:Cx} {F:Fx} {e:Expr} {own:Nat} {cap:List Nat} {it:SS→R (List D)} {i j:Nat} {el:SS→R D} (h:FE X F e (eComp own cap it (gTup [i,j]) tTrue el)):FE X F e (eM2 own cap it i j el):=ff (we h) fun S=>rS S
theorem wm {X:Cx} {F:Fx} {st:Stmt} {n own:Nat} {cap:List Nat} {it:SS→R (List D)} {i j:Nat} {el:SS→R D} (h:FS X F st (sSet n (eComp own cap it (gTup [i,j]) tTrue el))):FS X F st (sSet n (eM2 own cap it i j el)):=fO (wf h) fun S=>by unfold sSet; rw [rS]
end FF
end
noncomputable section
set_option Elab.async false
set_option linter.all false
set_option maxRecDepth 100000
namespace FF
open PySem PySem.Spec PyProof.Rows L2
def capB (XN:List Str) (scope:Scope) (N:List Str) (own:Nat):Nat→List Nat→Bool
  | _,[]=>true
  | j,i::r=>(match N[own+j]?,XN[i]? with
    | some x,some y=>x==y&&scope.names.lookup x==some .free
    | _,_=>false)&&capB XN scope N own (j+1) r
def blkB (XN:List Str) (osc scope:Scope) (N:List Str) (own:Nat) (cap:List Nat):Bool :=
  scope.kind==.function&&(scope.names.all fun y=>scope.names.lookup y.1==some y.2)&&(scope.names.all fun y=>!(y.2==.free)||(osc.names.lookup y.1==some .cell||osc.names.lookup y.1==some .free))&&N.length==own+cap.length&&capB XN scope N own 0 cap
theorem oO {XN:List Str} {scope:Scope} {N:List Str} {own:Nat}:∀ {cap:List Nat} {k:Nat},capB XN scope N own k cap=true→∀ j i,cap[j]?=some i→∃ x,N[own+(k+j)]?=some x∧XN[i]?=some x∧scope.names.lookup x=some .free
  | [],_,_,j,i,e=>by simp at e
  | c::r,k,h,j,i,e=>by
    unfold capB at h
    rw [Bool.and_eq_true] at h
    cases j with
    | zero =>
      simp only [List.getElem?_cons_zero,Option.some.injEq] at e
      subst e
      have h1:=h.1
      split at h1
      · rename_i x y e1 e2
        rw [Bool.and_eq_true] at h1
        have:=eq_of_beq h1.1
        subst this
        exact ⟨x,by rw [Nat.add_zero]; exact e1,e2,eq_of_beq h1.2⟩
      · cases h1
    | succ j =>
      obtain ⟨x,a,b⟩:=oO h.2 j i (by simpa using e)
      exact ⟨x,by rw [← a]; congr 1; omega,b⟩
theorem BlkOk.of {XN:List Str} {osc scope:Scope} {N:List Str} {own:Nat} {cap:List Nat} (h:blkB XN osc scope N own cap=true):BlkOk XN osc scope N own cap:=by
  unfold blkB at h
  simp only [Bool.and_eq_true,List.all_eq_true] at h
  obtain ⟨⟨⟨⟨h1,h2⟩,h3⟩,h4⟩,h5⟩:=h
  have look:∀ y∈scope.names,scope.names.lookup y.1=some y.2:=fun y hy=>eq_of_beq (h2 y hy)
  refine ⟨eq_of_beq h1,fun y hy e=>by rw [look y hy,e],fun y hy e=>by rw [look y hy,e],fun y hy e=>by rw [look y hy,e],fun y hy e=>?_,eq_of_beq h4,fun j i e=>?_⟩
  · have:=h3 y hy
    rw [e] at this
    simp only [beq_self_eq_true,Bool.not_true,Bool.false_or,Bool.or_eq_true] at this
    rcases this with z | z
    · exact .inl (eq_of_beq z)
    · exact .inr (eq_of_beq z)
  · have:=oO h5 j i e
    rw [Nat.zero_add] at this
    exact this
end FF
end
noncomputable section
set_option linter.all false
set_option maxRecDepth 100000
namespace Lw
open PySem FF
def esL:List Nat:=[1,4,7]
namespace F
abbrev is_whole:Nat:=20
abbrev is_worth:Nat:=21
abbrev is_size:Nat:=22
abbrev is_tree:Nat:=23
abbrev is_sized_tree:Nat:=24
abbrev put_together:Nat:=25
abbrev lean_tree:Nat:=26
abbrev quarters_in:Nat:=105
abbrev is_picture:Nat:=27
abbrev check_picture:Nat:=28
abbrev check_sizes:Nat:=158
abbrev check_pictures:Nat:=159
abbrev joined_tree:Nat:=160
abbrev is_setting:Nat:=230
abbrev is_change:Nat:=231
abbrev check_change:Nat:=232
abbrev lean_change:Nat:=233
abbrev set_over:Nat:=234
abbrev changed:Nat:=235
abbrev tree_between:Nat:=236
abbrev between:Nat:=237
abbrev L_cell:Nat:=30
abbrev L_pick:Nat:=31
abbrev L_tree:Nat:=32
abbrev L_picture:Nat:=33
abbrev L_rows_of:Nat:=54
abbrev L_rows:Nat:=55
abbrev L_least:Nat:=56
abbrev L_of:Nat:=57
abbrev L_places:Nat:=34
abbrev L_put:Nat:=35
abbrev L_there:Nat:=36
abbrev L_spoilt_thing:Nat:=37
abbrev L_is_tree:Nat:=39
abbrev L_is_picture:Nat:=38
abbrev L_is_change_tree:Nat:=239
abbrev L_is_change:Nat:=238
abbrev L_change_tree:Nat:=240
abbrev L_set:Nat:=241
abbrev L_least_set:Nat:=242
abbrev L_word:Nat:=40
abbrev L_do_8:Nat:=243
abbrev L_between:Nat:=244
abbrev law_k70:Nat:=245
end F
def fvL:List Nat:=[21,230,234]
def dU (t:Nat→List D→R D) (thing:D):L Unit :=
  lB (vAnd (dIsA qInt thing) (vNot (dIsA qBool thing))) .rt
def cX (t:Nat→List D→R D) (thing:D):L Unit :=
  lB (vAnd (t F.is_whole [thing]) (rCh dLe dLe (.int 0) thing (.ok (.int 9)))) .rt
def dC (t:Nat→List D→R D) (thing:D):L Unit :=
  lB (vAnd (t F.is_whole [thing]) (rCh dLe dLe (.int 0) thing (.ok (.int 3)))) .rt
def cY (t:Nat→List D→R D) (size_:D) (thing:D) (is_end:D):L Unit :=
  lS (lB (σ:=Unit) (rNot (asB (dIsA qTup thing))) fun b=>if b=true then lB (onF fvL is_end fun i=>t i [thing]) .rt else .nx ()) fun _ =>
  lS (lB (σ:=Unit) (rOr (asB (dEq size_ (.int 0))) (asB ((dLen [thing]).bind fun x=>dNf x (.int 4)))) fun b1=>if b1=true then .rt (.bl false) else .nx ()) fun _ =>
  lB (((sq thing).bind fun xs=>cMap (fun part=>(dSub size_ (.int 1)).bind fun x1=>t F.is_tree [x1,part,is_end]) xs).bind fun x2=>dAll [x2]) .rt
def bb (t:Nat→List D→R D) (thing:D) (is_end:D):L Unit :=
  lS (lB (σ:=Unit) (rOr (rNot (asB (dIsA qTup thing))) (asB ((dLen [thing]).bind fun x=>dNf x (.int 2)))) fun b=>if b=true then .rt (.bl false) else .nx ()) fun _ =>
  lB (vAnd ((dIx thing (.int 0)).bind fun x3=>t F.is_size [x3]) ((dIx thing (.int 0)).bind fun x1=>(dIx thing (.int 1)).bind fun x2=>t F.is_tree [x1,x2,is_end])) .rt
def bw (t:Nat→List D→R D) (four:D):L Unit :=
  lB (dIx four (.int 0)) fun first =>
  lS (lB (σ:=Unit) (rAnd (rNot (asB (dIsA qTup first))) (asB (dEq four (.tup [first,first,first,first])))) fun b=>if b=true then .rt first else .nx ()) fun _ =>
  .rt four
def b4 (t:Nat→List D→R D) (tree_:D):L Unit :=
  lS (lB (σ:=Unit) (rNot (asB (dIsA qTup tree_))) fun b=>if b=true then .rt tree_ else .nx ()) fun _ =>
  lB ((((sq tree_).bind fun xs=>cMap (fun part=>t F.lean_tree [part]) xs).bind fun x=>dTuple [x]).bind fun x1=>t F.put_together [x1]) .rt
def bP (t:Nat→List D→R D) (tree_:D):L Unit :=
  lS (lB (σ:=Unit) (asB (dIsA qTup tree_)) fun b=>if b=true then .rt tree_ else .nx ()) fun _ =>
  .rt (.tup [tree_,tree_,tree_,tree_])
def ce (t:Nat→List D→R D) (thing:D):L Unit :=
  lB (t F.is_sized_tree [thing,(.fn F.is_worth)]) .rt
def bc (t:Nat→List D→R D) (thing:D):L Unit :=
  lB (rNot (asB (t F.is_picture [thing]))) fun b=>if b=true then .er 1 else .nx ()
def cf (t:Nat→List D→R D) (things:D) (thing:D):L (Unit) :=
  lB (asB ((dIx thing (.int 0)).bind fun x=>((dIx things (.int 0)).bind fun x1=>dIx x1 (.int 0)).bind fun x2=>dNf x x2)) fun b=>if b=true then .er 4 else .nx ()
def bp (t:Nat→List D→R D) (things:D):L Unit :=
  lS (lB (sq things) fun xs=>lFor (τ:=Unit) (fun _ x=>cf t things x) xs ()) fun _ =>
  .nx ()
def aO (t:Nat→List D→R D) (picture:D):L (Unit) :=
  lB (t F.check_picture [picture]) fun _ =>
  .nx ()
def aF (t:Nat→List D→R D) (pictures:D):L Unit :=
  lS (lB (sq pictures) fun xs=>lFor (τ:=Unit) (fun _ x=>aO t x) xs ()) fun _ =>
  lB (t F.check_sizes [pictures]) fun _ =>
  .nx ()
def bq (t:Nat→List D→R D) (make:D) (one:D) (other:D):L Unit :=
  lS (lB (σ:=Unit) (rAnd (rNot (asB (dIsA qTup one))) (rNot (asB (dIsA qTup other)))) fun b=>if b=true then lB (onF fvL make fun i=>t i [one,other]) .rt else .nx ()) fun _ =>
  lB (((t F.quarters_in [one]).bind fun x=>(t F.quarters_in [other]).bind fun x1=>dZip x x1).bind fun zs=>.ok (.lst zs)) fun couples =>
  lB ((((sq couples).bind fun xs=>cMap (fun couple=>(dIx couple (.int 0)).bind fun x2=>(dIx couple (.int 1)).bind fun x3=>t F.joined_tree [make,x2,x3]) xs).bind fun x4=>dTuple [x4]).bind fun x5=>t F.put_together [x5]) .rt
def cg (t:Nat→List D→R D) (thing:D):L Unit :=
  lB (vOr (dIs thing .non) (t F.is_worth [thing])) .rt
def cB (t:Nat→List D→R D) (thing:D):L Unit :=
  lB (t F.is_sized_tree [thing,(.fn F.is_setting)]) .rt
def bz (t:Nat→List D→R D) (thing:D):L Unit :=
  lB (rNot (asB (t F.is_change [thing]))) fun b=>if b=true then .er 7 else .nx ()
def br (t:Nat→List D→R D) (change:D):L Unit :=
  lB (t F.check_change [change]) fun _ =>
  lB ((dIx change (.int 0)).bind fun x=>((dIx change (.int 1)).bind fun x1=>t F.lean_tree [x1]).bind fun x2=>.ok (.tup [x,x2])) .rt
def cZ (t:Nat→List D→R D) (one:D) (other:D):L Unit :=
  lB (rIf (asB (dIs other .non)) (.ok one) (.ok other)) .rt
def ci (t:Nat→List D→R D) (picture:D) (change:D):L Unit :=
  lB (t F.check_picture [picture]) fun _ =>
  lB (t F.check_change [change]) fun _ =>
  lB (t F.check_sizes [(.lst [picture,change])]) fun _ =>
  lB ((dIx picture (.int 0)).bind fun x=>((dIx picture (.int 1)).bind fun x1=>(dIx change (.int 1)).bind fun x2=>t F.joined_tree [(.fn F.set_over),x1,x2]).bind fun x3=>.ok (.tup [x,x3])) .rt
def az (t:Nat→List D→R D) (one:D) (other:D):L Unit :=
  lS (lB (σ:=Unit) (asB (dEq one other)) fun b=>if b=true then .rt .non else .nx ()) fun _ =>
  lS (lB (σ:=Unit) (rNot (asB (dIsA qTup other))) fun b1=>if b1=true then .rt other else .nx ()) fun _ =>
  lB (t F.quarters_in [one]) fun parts_ =>
  lB (((rng1 [(.int 4)]).bind fun xs=>cMap (fun number=>(dIx parts_ number).bind fun x=>(dIx other number).bind fun x1=>t F.tree_between [x,x1]) xs).bind fun x2=>dTuple [x2]) .rt
def cC (t:Nat→List D→R D) (one:D) (other:D):L Unit :=
  lB (t F.check_pictures [(.lst [one,other])]) fun _ =>
  lB ((dIx one (.int 0)).bind fun x=>(((dIx one (.int 1)).bind fun x1=>t F.lean_tree [x1]).bind fun x2=>((dIx other (.int 1)).bind fun x3=>t F.lean_tree [x3]).bind fun x4=>t F.tree_between [x2,x4]).bind fun x5=>.ok (.tup [x,x5])) .rt
def eI (t:Nat→List D→R D) (l_script:D) (l_k:D):L Unit :=
  lS (lB (σ:=Unit) (asB ((dLen [l_script]).bind fun x=>dLt l_k x)) fun b=>if b=true then lB (dIx l_script l_k) .rt else .nx ()) fun _ =>
  lS (lB (σ:=Unit) (asB (dEq l_script (.lst []))) fun b1=>if b1=true then .rt (.int 0) else .nx ()) fun _ =>
  lB (((((dLen [l_script]).bind fun x1=>dMod l_k x1).bind fun x2=>dIx l_script x2).bind fun x3=>dMul x3 (.int 31)).bind fun x4=>dAdd x4 l_k) .rt
def eJ (t:Nat→List D→R D) (l_script:D) (l_k:D) (l_many:D):L Unit :=
  lB ((((t F.L_cell [l_script,l_k]).bind fun x=>((dAdd l_k (.int 1)).bind fun x1=>dMul (.int 6151) x1).bind fun x2=>dAdd x x2).bind fun x3=>dMul x3 (.int 40692)).bind fun x4=>dMod x4 (.int 2147483399)) fun l_drawn =>
  lB ((((dMul l_drawn l_drawn).bind fun x5=>(dDiv l_drawn (.int 31)).bind fun x6=>dAdd x5 x6).bind fun x7=>dMod x7 (.int 2147483629)).bind fun x8=>dMod x8 l_many) .rt
def dW (t:Nat→List D→R D) (l_script:D) (l_at:D) (l_size:D):L Unit :=
  lB (t F.L_pick [l_script,l_at,(.int 6)]) fun l_way =>
  lS (lB (σ:=Unit) (rOr (asB (dEq l_size (.int 0))) (asB (dLt l_way (.int 2)))) fun b=>if b=true then lB ((((dAdd l_at (.int 1)).bind fun x=>t F.L_pick [l_script,x,(.int 10)]).bind fun x1=>.ok (.lst [(.int 0),(.int 1),(.int 1),(.int 2),(.int 9),x1])).bind fun x2=>((dAdd l_at (.int 2)).bind fun x3=>t F.L_pick [l_script,x3,(.int 6)]).bind fun x4=>dIx x2 x4) .rt else .nx ()) fun _ =>
  lS (lB (σ:=Unit) (asB (dEq l_way (.int 2))) fun b1=>if b1=true then lB ((((dAdd l_at (.int 3)).bind fun x5=>(dSub l_size (.int 1)).bind fun x6=>t F.L_tree [l_script,x5,x6]).bind fun x7=>.ok (.tup [x7])).bind fun x8=>dMul x8 (.int 4)) .rt else .nx ()) fun _ =>
  lB (((rng1 [(.int 4)]).bind fun xs=>cMap (fun l_k=>(((dMul (.int 5) l_at).bind fun x9=>dAdd x9 (.int 7)).bind fun x10=>(dMul (.int 11) l_k).bind fun x11=>dAdd x10 x11).bind fun x12=>(dSub l_size (.int 1)).bind fun x13=>t F.L_tree [l_script,x12,x13]) xs).bind fun x14=>dTuple [x14]) .rt
def cD (t:Nat→List D→R D) (l_script:D) (l_at:D) (l_most:D):L Unit :=
  lB ((((t F.L_pick [l_script,l_at,(.int 7)]).bind fun x=>dIx (.lst [(.int 0),(.int 0),(.int 0),(.int 1),(.int 1),(.int 2),(.int 3)]) x).bind fun x1=>dSub l_most x1).bind fun x2=>dMax2 [(.int 0),x2]) fun l_size =>
  lB (((dAdd l_at (.int 1)).bind fun x3=>t F.L_tree [l_script,x3,l_size]).bind fun x4=>.ok (.tup [l_size,x4])) .rt
def dX (t:Nat→List D→R D) (l_some:D) (l_made:List D) (l_upper:D):L (List D) :=
  lB (((((dIx l_some l_upper).bind fun x=>dLen [x]).bind fun x1=>rng1 [x1]).bind fun xs=>cMap (fun l_k=>((dIx l_some l_upper).bind fun x2=>dIx x2 l_k).bind fun x3=>(((dAdd l_upper (.int 1)).bind fun x4=>dIx l_some x4).bind fun x5=>dIx x5 l_k).bind fun x6=>dAdd x3 x6) xs).bind fun x7=>oExt l_made x7) fun l_made1 =>
  .nx l_made1
def b5 (t:Nat→List D→R D) (l_size:D) (l_tree_here:D):L Unit :=
  lS (lB (σ:=Unit) (asB (dEq l_size (.int 0))) fun b=>if b=true then .rt (.lst [(.lst [l_tree_here])]) else .nx ()) fun _ =>
  lB (rIf (asB (dIsA qTup l_tree_here)) (.ok l_tree_here) (dMul (.tup [l_tree_here]) (.int 4))) fun l_parts =>
  lB ((sq l_parts).bind fun xs=>cMap (fun l_part=>(dSub l_size (.int 1)).bind fun x=>t F.L_rows_of [x,l_part]) xs) fun l_some =>
  lS (lB (sq (.tup [(.int 0),(.int 2)])) fun xs2=>lFor (τ:=List D) (fun s x=>dX t l_some s x) xs2 []) fun l_made1 =>
  .rt (.lst l_made1)
def eL (t:Nat→List D→R D) (l_picture_here:D):L Unit :=
  lB (((((dIx l_picture_here (.int 0)).bind fun x=>(dIx l_picture_here (.int 1)).bind fun x1=>t F.L_rows_of [x,x1]).bind fun x2=>sq x2).bind fun xs=>cMap (fun l_row=>dTuple [l_row]) xs).bind fun x3=>dTuple [x3]) .rt
def dq (t:Nat→List D→R D) (l_worths:List D) (l_row:D):L (List D) :=
  lB (oExt l_worths l_row) fun l_worths1 =>
  .nx l_worths1
def fg (t:Nat→List D→R D) (l_rows_here:D) (l_half:D) (l_top:D) (l_parts:List D) (l_left:D):L (List D) :=
  lB ((((((asI l_top).bind fun i=>((dAdd l_top l_half).bind asI).bind fun i1=>dSw l_rows_here i i1).bind fun x=>sq x).bind fun xs=>cMap (fun l_row=>(asI l_left).bind fun i2=>((dAdd l_left l_half).bind asI).bind fun i3=>dSw l_row i2 i3) xs).bind fun x1=>t F.L_least [x1]).bind fun x2=>oApp l_parts x2) fun l_parts1 =>
  .nx l_parts1
def fh (t:Nat→List D→R D) (l_rows_here:D) (l_half:D) (l_parts:List D) (l_top:D):L (List D) :=
  lS (lB (sq (.tup [(.int 0),l_half])) fun xs1=>lFor (τ:=List D) (fun s x=>fg t l_rows_here l_half l_top s x) xs1 l_parts) fun l_parts2 =>
  .nx l_parts2
def c6 (t:Nat→List D→R D) (l_rows_here:D):L Unit :=
  lS (lB (sq l_rows_here) fun xs=>lFor (τ:=List D) (fun s x=>dq t s x) xs []) fun l_worths1 =>
  lS (lB (σ:=Unit) (asB ((dLenSet [(.lst l_worths1)]).bind fun x1=>dEq x1 (.int 1))) fun b=>if b=true then lB (dIx (.lst l_worths1) (.int 0)) .rt else .nx ()) fun _ =>
  lB ((dLen [l_rows_here]).bind fun x2=>dDiv x2 (.int 2)) fun l_half =>
  lS (lB (sq (.tup [(.int 0),l_half])) fun xs3=>lFor (τ:=List D) (fun s x=>fh t l_rows_here l_half s x) xs3 []) fun l_parts2 =>
  lB (dTuple [(.lst l_parts2)]) .rt
def ii (t:Nat→List D→R D) (l_rows_here:D):L Unit :=
  lB ((onL (.lst [(.int 1),(.int 2),(.int 4),(.int 8)]) fun ls=>(dLen [l_rows_here]).bind fun x=>dIndexI ls [x]).bind fun x1=>(t F.L_least [l_rows_here]).bind fun x2=>.ok (.tup [x1,x2])) .rt
def eu (t:Nat→List D→R D) (l_thing:D) (l_made:List D) (l_k:D):L (List D) :=
  lB (((((dIx l_thing l_k).bind fun x=>t F.L_places [x]).bind fun x1=>sq x1).bind fun xs=>cMap (fun l_place=>dAdd (.tup [l_k]) l_place) xs).bind fun x2=>oExt l_made x2) fun l_made1 =>
  .nx l_made1
def cw (t:Nat→List D→R D) (l_thing:D):L Unit :=
  lS (lB (σ:=List D) (asB (dIsA qTup l_thing)) fun b=>if b=true then lS (lB ((dLen [l_thing]).bind fun x=>rng1 [x]) fun xs1=>lFor (τ:=List D) (fun s x=>eu t l_thing s x) xs1 [(.tup [])]) fun l_made1 =>
  .nx l_made1 else .nx [(.tup [])]) fun l_made2 =>
  .rt (.lst l_made2)
def fi (t:Nat→List D→R D) (l_thing:D) (l_place:D) (l_new:D):L Unit :=
  lS (lB (σ:=Unit) (asB (dEq l_place (.tup []))) fun b=>if b=true then .rt l_new else .nx ()) fun _ =>
  lB (dIx l_place (.int 0)) fun l_k =>
  lB ((((asI l_k).bind fun i=>dSw l_thing none i).bind fun x=>(((dIx l_thing l_k).bind fun x1=>(dSw l_place (some 1) none).bind fun x2=>t F.L_put [x1,x2,l_new]).bind fun x3=>.ok (.tup [x3])).bind fun x4=>dAdd x x4).bind fun x5=>(((dAdd l_k (.int 1)).bind asI).bind fun i1=>dSw l_thing i1 none).bind fun x6=>dAdd x5 x6) .rt
def fj (t:Nat→List D→R D) (l_thing:D) (l_k:D):L (D) :=
  lB (dIx l_thing l_k) fun l_thing1 =>
  .nx l_thing1
def dD (t:Nat→List D→R D) (l_thing:D) (l_place:D):L Unit :=
  lS (lB (sq l_place) fun xs=>lFor (τ:=D) (fun s x=>fj t s x) xs l_thing) fun l_thing2 =>
  .rt l_thing2
def aX (t:Nat→List D→R D) (l_script:D) (l_at:D) (l_thing:D):L Unit :=
  lB (t F.L_places [l_thing]) fun l_places_here =>
  lB (((dLen [l_places_here]).bind fun x=>t F.L_pick [l_script,l_at,x]).bind fun x1=>dIx l_places_here x1) fun l_place =>
  lB (t F.L_there [l_thing,l_place]) fun l_here =>
  lB (((dMul (.tup [l_here]) (.int 4)).bind fun x2=>.ok (.lst [(.lst [(.int 1),(.int 2),(.int 3),(.int 4)]),x2])).bind fun x3=>oExt [(.int (-1)),(.int 0),(.int 3),(.int 4),(.int 9),(.int 10),(.bl true),.non,(.str "1"),(.tup []),(.tup [(.int 1),(.int 2),(.int 3)]),(.tup [(.int 1),(.int 1),(.int 1),(.int 1)]),(.tup [(.int 1),(.int 2),(.int 3),(.int 4),(.int 5)])] x3) fun l_some =>
  lB ((((dAdd l_at (.int 1)).bind fun x4=>t F.L_pick [l_script,x4,(.int 15)]).bind fun x5=>oIx l_some x5).bind fun x6=>t F.L_put [l_thing,l_place,x6]) .rt
def b8 (t:Nat→List D→R D) (l_thing:D) (l_size:D):L Unit :=
  lS (lB (σ:=Unit) (rAnd (asB (dIsA qInt l_thing)) (rNot (asB (dIsA qBool l_thing)))) fun b=>if b=true then lB (rCh dLe dLe (.int 0) l_thing (.ok (.int 9))) .rt else .nx ()) fun _ =>
  lS (lB (σ:=Unit) (rOr (rNot (asB (dIsA qTup l_thing))) (rOr (asB ((dLen [l_thing]).bind fun x=>dNf x (.int 4))) (asB (dEq l_size (.int 0))))) fun b1=>if b1=true then .rt (.bl false) else .nx ()) fun _ =>
  lB (((sq l_thing).bind fun xs=>cFil (fun l_part=>(rNot (asB ((dSub l_size (.int 1)).bind fun x1=>t F.L_is_tree [l_part,x1])))) (fun l_part=>.ok l_part) xs).bind fun x2=>dEq x2 (.lst [])) .rt
def bB (t:Nat→List D→R D) (l_thing:D):L Unit :=
  lS (lB (σ:=Unit) (rOr (rNot (asB (dIsA qTup l_thing))) (rOr (asB ((dLen [l_thing]).bind fun x2=>dNf x2 (.int 2))) (rOr (rNot (asB ((dIx l_thing (.int 0)).bind fun x1=>dIsA qInt x1))) (asB ((dIx l_thing (.int 0)).bind fun x=>dIsA qBool x))))) fun b=>if b=true then .rt (.bl false) else .nx ()) fun _ =>
  lB (vAnd ((dIx l_thing (.int 0)).bind fun x5=>rCh dLe dLe (.int 0) x5 (.ok (.int 3))) ((dIx l_thing (.int 1)).bind fun x3=>(dIx l_thing (.int 0)).bind fun x4=>t F.L_is_tree [x3,x4])) .rt
def aJ (t:Nat→List D→R D) (l_thing:D) (l_size:D):L Unit :=
  lS (lB (σ:=Unit) (rOr (asB (dIs l_thing .non)) (rAnd (asB (dIsA qInt l_thing)) (rAnd (rNot (asB (dIsA qBool l_thing))) (asB (rCh dLe dLe (.int 0) l_thing (.ok (.int 9))))))) fun b=>if b=true then .rt (.bl true) else .nx ()) fun _ =>
  lS (lB (σ:=Unit) (rOr (rNot (asB (dIsA qTup l_thing))) (rOr (asB ((dLen [l_thing]).bind fun x=>dNf x (.int 4))) (asB (dEq l_size (.int 0))))) fun b1=>if b1=true then .rt (.bl false) else .nx ()) fun _ =>
  lB (((sq l_thing).bind fun xs=>cFil (fun l_part=>(rNot (asB ((dSub l_size (.int 1)).bind fun x1=>t F.L_is_change_tree [l_part,x1])))) (fun l_part=>.ok l_part) xs).bind fun x2=>dEq x2 (.lst [])) .rt
def bQ (t:Nat→List D→R D) (l_thing:D):L Unit :=
  lS (lB (σ:=Unit) (rOr (rNot (asB (dIsA qTup l_thing))) (rOr (asB ((dLen [l_thing]).bind fun x2=>dNf x2 (.int 2))) (rOr (rNot (asB ((dIx l_thing (.int 0)).bind fun x1=>dIsA qInt x1))) (asB ((dIx l_thing (.int 0)).bind fun x=>dIsA qBool x))))) fun b=>if b=true then .rt (.bl false) else .nx ()) fun _ =>
  lB (vAnd ((dIx l_thing (.int 0)).bind fun x5=>rCh dLe dLe (.int 0) x5 (.ok (.int 3))) ((dIx l_thing (.int 1)).bind fun x3=>(dIx l_thing (.int 0)).bind fun x4=>t F.L_is_change_tree [x3,x4])) .rt
def aT (t:Nat→List D→R D) (l_script:D) (l_at:D) (l_size:D):L Unit :=
  lB (t F.L_pick [l_script,l_at,(.int 6)]) fun l_way =>
  lS (lB (σ:=Unit) (rOr (asB (dLt l_way (.int 2))) (rAnd (asB (dEq l_size (.int 0))) (asB (dLt l_way (.int 4))))) fun b=>if b=true then .rt .non else .nx ()) fun _ =>
  lS (lB (σ:=Unit) (rOr (asB (dEq l_size (.int 0))) (asB (dEq l_way (.int 2)))) fun b1=>if b1=true then lB ((((dAdd l_at (.int 1)).bind fun x=>t F.L_pick [l_script,x,(.int 10)]).bind fun x1=>.ok (.lst [(.int 0),(.int 1),(.int 2),x1])).bind fun x2=>((dAdd l_at (.int 2)).bind fun x3=>t F.L_pick [l_script,x3,(.int 4)]).bind fun x4=>dIx x2 x4) .rt else .nx ()) fun _ =>
  lB (((rng1 [(.int 4)]).bind fun xs=>cMap (fun l_k=>(((dMul (.int 5) l_at).bind fun x5=>dAdd x5 (.int 13)).bind fun x6=>(dMul (.int 11) l_k).bind fun x7=>dAdd x6 x7).bind fun x8=>(dSub l_size (.int 1)).bind fun x9=>t F.L_change_tree [l_script,x8,x9]) xs).bind fun x10=>dTuple [x10]) .rt
def gi (t:Nat→List D→R D) (l_some:D) (l_made:List D) (l_upper:D):L (List D) :=
  lB (((((dIx l_some l_upper).bind fun x=>dLen [x]).bind fun x1=>rng1 [x1]).bind fun xs=>cMap (fun l_k=>((dIx l_some l_upper).bind fun x2=>dIx x2 l_k).bind fun x3=>(((dAdd l_upper (.int 1)).bind fun x4=>dIx l_some x4).bind fun x5=>dIx x5 l_k).bind fun x6=>dAdd x3 x6) xs).bind fun x7=>oExt l_made x7) fun l_made1 =>
  .nx l_made1
def fk (t:Nat→List D→R D) (l_size:D) (l_tree_here:D):L Unit :=
  lS (lB (σ:=Unit) (asB (dEq l_size (.int 0))) fun b=>if b=true then .rt (.lst [(.lst [l_tree_here])]) else .nx ()) fun _ =>
  lB (rIf (asB (dIsA qTup l_tree_here)) (.ok l_tree_here) (dMul (.tup [l_tree_here]) (.int 4))) fun l_parts =>
  lB ((sq l_parts).bind fun xs=>cMap (fun l_part=>(dSub l_size (.int 1)).bind fun x=>t F.L_set [x,l_part]) xs) fun l_some =>
  lS (lB (sq (.tup [(.int 0),(.int 2)])) fun xs2=>lFor (τ:=List D) (fun s x=>gi t l_some s x) xs2 []) fun l_made1 =>
  .rt (.lst l_made1)
def cj (t:Nat→List D→R D) (l_every:List D) (l_row:D):L (List D) :=
  lB (oExt l_every l_row) fun l_every1 =>
  .nx l_every1
def c7 (t:Nat→List D→R D) (l_rows_here:D) (l_half:D) (l_top:D) (l_parts:List D) (l_left:D):L (List D) :=
  lB ((((((asI l_top).bind fun i=>((dAdd l_top l_half).bind asI).bind fun i1=>dSw l_rows_here i i1).bind fun x=>sq x).bind fun xs=>cMap (fun l_row=>(asI l_left).bind fun i2=>((dAdd l_left l_half).bind asI).bind fun i3=>dSw l_row i2 i3) xs).bind fun x1=>t F.L_least_set [x1]).bind fun x2=>oApp l_parts x2) fun l_parts1 =>
  .nx l_parts1
def c8 (t:Nat→List D→R D) (l_rows_here:D) (l_half:D) (l_parts:List D) (l_top:D):L (List D) :=
  lS (lB (sq (.tup [(.int 0),l_half])) fun xs1=>lFor (τ:=List D) (fun s x=>c7 t l_rows_here l_half l_top s x) xs1 l_parts) fun l_parts2 =>
  .nx l_parts2
def bt (t:Nat→List D→R D) (l_rows_here:D):L Unit :=
  lS (lB (sq l_rows_here) fun xs=>lFor (τ:=List D) (fun s x=>cj t s x) xs []) fun l_every1 =>
  lS (lB (σ:=Unit) (asB (((sq (.lst l_every1)).bind fun xs1=>cFil (fun l_one=>(asB ((dIx (.lst l_every1) (.int 0)).bind fun x1=>dNf l_one x1))) (fun l_one=>.ok l_one) xs1).bind fun x2=>dEq x2 (.lst []))) fun b=>if b=true then lB (dIx (.lst l_every1) (.int 0)) .rt else .nx ()) fun _ =>
  lB ((dLen [l_rows_here]).bind fun x3=>dDiv x3 (.int 2)) fun l_half =>
  lS (lB (sq (.tup [(.int 0),l_half])) fun xs4=>lFor (τ:=List D) (fun s x=>c8 t l_rows_here l_half s x) xs4 []) fun l_parts2 =>
  lB (dTuple [(.lst l_parts2)]) .rt
def dj (t:Nat→List D→R D) (l_kept:D):L Unit :=
  lB ((dIsA (qEx esL 3) l_kept).bind fun x=>(dIsA (qEx esL 6) l_kept).bind fun x1=>(dIsA (qEx esL 7) l_kept).bind fun x2=>.ok [x,x1,x2]) fun l_kinds=>lB ((dIsA (qEx esL 8) l_kept).bind fun x3=>oApp l_kinds x3) fun l_kinds1 =>
  lB (((dIsA (qEx esL 1) l_kept).bind fun x4=>(dIsA (qEx esL 5) l_kept).bind fun x5=>(dIsA (qEx esL 2) l_kept).bind fun x6=>.ok (.lst [x4,x5,x6])).bind fun x7=>oExt l_kinds1 x7) fun l_kinds2 =>
  lB (((dIsA (qEx esL 10) l_kept).bind fun x8=>(dIsA (qEx esL 9) l_kept).bind fun x9=>(dIsA (qEx esL 4) l_kept).bind fun x10=>.ok (.lst [x8,x9,x10])).bind fun x11=>oExt l_kinds2 x11) fun l_kinds3 =>
  lS (lB (σ:=Unit) (rOr (asB ((onL (.lst l_kinds3) fun ls=>dCount ls [(.bl true)]).bind fun x12=>dNf x12 (.int 1))) (rNot (asB (dIsA (qVx esL) l_kept)))) fun b=>if b=true then .rt (.str "wrong") else .nx ()) fun _ =>
  lB ((dAdd (.lst [(.str "bad box"),(.str "no blocks"),(.str "no change"),(.str "no number"),(.str "no picture"),(.str "no rule"),(.str "no spot"),(.str "no text")]) (.lst [(.str "nothing done"),(.str "unlike")])).bind fun x13=>(onL (.lst l_kinds3) fun ls1=>dIndex ls1 [(.bl true)]).bind fun x14=>dIx x13 x14) .rt
def cQ (t:Nat→List D→R D) (l_what:D) (l_one:D) (l_other:D):L Unit :=
  lTry (τ:=D) (qTk esL) (lB (asB (dLt l_what (.int 2))) fun b=>if b=true then lB (rIf (asB (dEq l_what (.int 0))) (t F.between [l_one,l_other]) (t F.changed [l_one,l_other])) fun l_answer =>
  .nx l_answer else lB (t F.lean_change [l_one]) fun l_answer1 =>
  .nx l_answer1) (fun l_answer2=>lS (lB (σ:=Unit) (asB (dIs .non .non)) fun b1=>if b1=true then .rt l_answer2 else .nx ()) fun _ =>
  lB (t F.L_word [.non]) .rt) (fun k=>lS (lB (σ:=Unit) (asB (dIs (.exc k) .non)) fun b2=>if b2=true then lB (R.stuck) .rt else .nx ()) fun _ =>
  lB (t F.L_word [(.exc k)]) .rt)
def dY (t:Nat→List D→R D) (l_one:D) (l_other:D) (l_half:D) (l_top:D) (l_parts:List D) (l_left:D):L (List D) :=
  lB ((sq (.tup [l_one,l_other])).bind fun xs=>cMap (fun l_rows_here=>((((asI l_top).bind fun i=>((dAdd l_top l_half).bind asI).bind fun i1=>dSw l_rows_here i i1).bind fun x=>sq x).bind fun xs1=>cMap (fun l_row=>(asI l_left).bind fun i2=>((dAdd l_left l_half).bind asI).bind fun i3=>dSw l_row i2 i3) xs1).bind fun x1=>dTuple [x1]) xs) fun l_some =>
  lB (((dIx l_some (.int 0)).bind fun x2=>(dIx l_some (.int 1)).bind fun x3=>t F.L_between [x2,x3]).bind fun x4=>oApp l_parts x4) fun l_parts1 =>
  .nx l_parts1
def dZ (t:Nat→List D→R D) (l_one:D) (l_other:D) (l_half:D) (l_parts:List D) (l_top:D):L (List D) :=
  lS (lB (sq (.tup [(.int 0),l_half])) fun xs2=>lFor (τ:=List D) (fun s x=>dY t l_one l_other l_half l_top s x) xs2 l_parts) fun l_parts2 =>
  .nx l_parts2
def bG (t:Nat→List D→R D) (l_one:D) (l_other:D):L Unit :=
  lS (lB (σ:=Unit) (asB (dEq l_one l_other)) fun b=>if b=true then .rt .non else .nx ()) fun _ =>
  lB (t F.L_least [l_other]) fun l_least_here =>
  lS (lB (σ:=Unit) (rNot (asB (dIsA qTup l_least_here))) fun b1=>if b1=true then .rt l_least_here else .nx ()) fun _ =>
  lB ((dLen [l_one]).bind fun x=>dDiv x (.int 2)) fun l_half =>
  lS (lB (sq (.tup [(.int 0),l_half])) fun xs3=>lFor (τ:=List D) (fun s x=>dZ t l_one l_other l_half s x) xs3 []) fun l_parts2 =>
  lB (rIf (rAnd (rNot (asB ((dIx (.lst l_parts2) (.int 0)).bind fun x11=>dIsA qTup x11))) (asB ((((dIx (.lst l_parts2) (.int 0)).bind fun x8=>.ok (.lst [x8])).bind fun x9=>dMul x9 (.int 4)).bind fun x10=>dEq (.lst l_parts2) x10))) (dIx (.lst l_parts2) (.int 0)) (dTuple [(.lst l_parts2)])) .rt
def dr (t:Nat→List D→R D) (l_script:D) (l_one:D) (l_size:D) (l_change:D) (l_k:D):L (Unit) :=
  lB (((dMul (.int 5) l_k).bind fun x=>dAdd (.int 14000) x).bind fun x1=>t F.L_spoilt_thing [l_script,x1,l_change]) fun l_thing =>
  lB (t F.L_is_change [l_thing]) fun l_is_one =>
  lS (lB (σ:=Unit) (rOr (asB ((t F.is_change [l_thing]).bind fun x3=>dNf x3 l_is_one)) (rNot (asB ((t F.is_change [l_thing]).bind fun x2=>dIsA qBool x2)))) fun b=>if b=true then .rt (.bl false) else .nx ()) fun _ =>
  lS (lB (σ:=Unit) (rAnd (rNot (asB (.ok l_is_one))) (asB (((t F.L_do_8 [(.int 1),l_one,l_thing]).bind fun x4=>(t F.L_do_8 [(.int 2),l_thing,.non]).bind fun x5=>.ok (.lst [x4,x5])).bind fun x6=>(dMul (.lst [(.str "no change")]) (.int 2)).bind fun x7=>dNf x6 x7))) fun b1=>if b1=true then .rt (.bl false) else .nx ()) fun _ =>
  lB (rAnd (asB (.ok l_is_one)) (rAnd (asB ((dIx l_thing (.int 0)).bind fun x9=>dNf x9 l_size)) (asB ((t F.L_do_8 [(.int 1),l_one,l_thing]).bind fun x8=>dNf x8 (.str "unlike"))))) fun b2=>if b2=true then .rt (.bl false) else .nx ()
def dE (t:Nat→List D→R D) (l_script:D):L Unit :=
  lB (t F.L_picture [l_script,(.int 0),(.int 3)]) fun l_one =>
  lB (dIx l_one (.int 0)) fun l_size =>
  lB ((t F.L_change_tree [l_script,(.int 5000),l_size]).bind fun x=>.ok (.tup [l_size,x])) fun l_change =>
  lB (t F.L_rows [l_one]) fun l_mine =>
  lB ((dIx l_change (.int 1)).bind fun x1=>t F.L_set [l_size,x1]) fun l_some =>
  lB ((dZip l_mine l_some).bind fun xs=>cMap (fun p=>un2 p fun l_row l_more=>((dZip l_row l_more).bind fun xs1=>cMap (fun p1=>un2 p1 fun l_old l_new=>rIf (asB (dIsNot l_new .non)) (.ok l_new) (.ok l_old)) xs1).bind fun x2=>dTuple [x2]) xs) fun l_made =>
  lS (lB (σ:=Unit) (rOr (asB ((t F.L_do_8 [(.int 1),l_one,l_change]).bind fun x4=>((dTuple [l_made]).bind fun x5=>t F.L_of [x5]).bind fun x6=>dNf x4 x6)) (asB ((t F.is_change [l_change]).bind fun x3=>dIsNot x3 (.bl true)))) fun b=>if b=true then .rt (.bl false) else .nx ()) fun _ =>
  lS (lB (σ:=Unit) (asB ((t F.L_do_8 [(.int 2),l_change,.non]).bind fun x7=>((t F.L_least_set [l_some]).bind fun x8=>.ok (.tup [l_size,x8])).bind fun x9=>dNf x7 x9)) fun b1=>if b1=true then .rt (.bl false) else .nx ()) fun _ =>
  lB (rIf (asB ((t F.L_pick [l_script,(.int 9000),(.int 2)]).bind fun x10=>dEq x10 (.int 0))) ((dTuple [l_made]).bind fun x11=>t F.L_of [x11]) ((t F.L_tree [l_script,(.int 9100),l_size]).bind fun x12=>.ok (.tup [l_size,x12]))) fun l_other =>
  lB (((t F.L_rows [l_other]).bind fun x13=>t F.L_between [l_mine,x13]).bind fun x14=>.ok (.tup [l_size,x14])) fun l_due =>
  lS (lB (σ:=Unit) (rOr (asB ((t F.L_do_8 [(.int 0),l_one,l_other]).bind fun x18=>dNf x18 l_due)) (asB ((t F.L_do_8 [(.int 1),l_one,l_due]).bind fun x15=>((t F.L_rows [l_other]).bind fun x16=>t F.L_of [x16]).bind fun x17=>dNf x15 x17))) fun b2=>if b2=true then .rt (.bl false) else .nx ()) fun _ =>
  lS (lB (rng1 [(.int 4)]) fun xs2=>lFor (τ:=Unit) (fun _ x=>dr t l_script l_one l_size l_change x) xs2 ()) fun _ =>
  lB (t F.L_picture [l_script,(.int 14100),(.int 2)]) fun l_third =>
  lS (lB (σ:=Unit) (rAnd (asB ((dIx l_third (.int 0)).bind fun x31=>dNf x31 l_size)) (asB ((t F.L_do_8 [(.int 0),l_one,l_third]).bind fun x30=>dNf x30 (.str "unlike")))) fun b6=>if b6=true then .rt (.bl false) else .nx ()) fun _ =>
  lB (t F.L_spoilt_thing [l_script,(.int 14500),l_one]) fun l_bad =>
  lS (lB (σ:=Unit) (asB (t F.L_is_picture [l_bad])) fun b7=>if b7=true then .rt (.bl true) else .nx ()) fun _ =>
  lB (((t F.L_do_8 [(.int 0),l_bad,l_third]).bind fun x32=>(t F.L_do_8 [(.int 0),l_third,l_bad]).bind fun x33=>(t F.L_do_8 [(.int 1),l_bad,.non]).bind fun x34=>.ok (.lst [x32,x33,x34])).bind fun x35=>(dMul (.lst [(.str "no picture")]) (.int 3)).bind fun x36=>dEq x35 x36) .rt
def pf:Nat→Nat→List D→R D
  | 0,_=>fun _=>.stuck
  | n+1,i=>match i with
    | 20=>a1 (dU (pf n))
    | 21=>a1 (cX (pf n))
    | 22=>a1 (dC (pf n))
    | 23=>a3 (cY (pf n))
    | 24=>a2 (bb (pf n))
    | 25=>a1 (bw (pf n))
    | 26=>a1 (b4 (pf n))
    | 105=>a1 (bP (pf n))
    | 27=>a1 (ce (pf n))
    | 28=>a1 (bc (pf n))
    | 158=>a1 (bp (pf n))
    | 159=>a1 (aF (pf n))
    | 160=>a3 (bq (pf n))
    | 230=>a1 (cg (pf n))
    | 231=>a1 (cB (pf n))
    | 232=>a1 (bz (pf n))
    | 233=>a1 (br (pf n))
    | 234=>a2 (cZ (pf n))
    | 235=>a2 (ci (pf n))
    | 236=>a2 (az (pf n))
    | 237=>a2 (cC (pf n))
    | 30=>a2 (eI (pf n))
    | 31=>a3 (eJ (pf n))
    | 32=>a3 (dW (pf n))
    | 33=>a3 (cD (pf n))
    | 54=>a2 (b5 (pf n))
    | 55=>a1 (eL (pf n))
    | 56=>a1 (c6 (pf n))
    | 57=>a1 (ii (pf n))
    | 34=>a1 (cw (pf n))
    | 35=>a3 (fi (pf n))
    | 36=>a2 (dD (pf n))
    | 37=>a3 (aX (pf n))
    | 39=>a2 (b8 (pf n))
    | 38=>a1 (bB (pf n))
    | 239=>a2 (aJ (pf n))
    | 238=>a1 (bQ (pf n))
    | 240=>a3 (aT (pf n))
    | 241=>a2 (fk (pf n))
    | 242=>a1 (bt (pf n))
    | 40=>a1 (dj (pf n))
    | 243=>a3 (cQ (pf n))
    | 244=>a2 (bG (pf n))
    | 245=>a1 (dE (pf n))
    | _=>fun _=>.stuck
theorem mj (n:Nat) (a0:D):pf (n+1) F.is_whole [a0]=outL (dU (pf n) a0):=rfl
theorem ml (n:Nat) (a0:D):pf (n+1) F.is_worth [a0]=outL (cX (pf n) a0):=rfl
theorem nA (n:Nat) (a0:D):pf (n+1) F.is_size [a0]=outL (dC (pf n) a0):=rfl
theorem jz (n:Nat) (a0 a1 a2:D):pf (n+1) F.is_tree [a0,a1,a2]=outL (cY (pf n) a0 a1 a2):=rfl
theorem ij (n:Nat) (a0 a1:D):pf (n+1) F.is_sized_tree [a0,a1]=outL (bb (pf n) a0 a1):=rfl
theorem iP (n:Nat) (a0:D):pf (n+1) F.put_together [a0]=outL (bw (pf n) a0):=rfl
theorem gG (n:Nat) (a0:D):pf (n+1) F.lean_tree [a0]=outL (b4 (pf n) a0):=rfl
theorem jA (n:Nat) (a0:D):pf (n+1) F.quarters_in [a0]=outL (bP (pf n) a0):=rfl
theorem ke (n:Nat) (a0:D):pf (n+1) F.is_picture [a0]=outL (ce (pf n) a0):=rfl
theorem ik (n:Nat) (a0:D):pf (n+1) F.check_picture [a0]=outL (bc (pf n) a0):=rfl
theorem fE (n:Nat) (a0:D):pf (n+1) F.check_sizes [a0]=outL (bp (pf n) a0):=rfl
theorem bY (n:Nat) (a0:D):pf (n+1) F.check_pictures [a0]=outL (aF (pf n) a0):=rfl
theorem fF (n:Nat) (a0 a1 a2:D):pf (n+1) F.joined_tree [a0,a1,a2]=outL (bq (pf n) a0 a1 a2):=rfl
theorem kg (n:Nat) (a0:D):pf (n+1) F.is_setting [a0]=outL (cg (pf n) a0):=rfl
theorem lc (n:Nat) (a0:D):pf (n+1) F.is_change [a0]=outL (cB (pf n) a0):=rfl
theorem iQ (n:Nat) (a0:D):pf (n+1) F.check_change [a0]=outL (bz (pf n) a0):=rfl
theorem fG (n:Nat) (a0:D):pf (n+1) F.lean_change [a0]=outL (br (pf n) a0):=rfl
theorem mm (n:Nat) (a0 a1:D):pf (n+1) F.set_over [a0,a1]=outL (cZ (pf n) a0 a1):=rfl
theorem fm (n:Nat) (a0 a1:D):pf (n+1) F.changed [a0,a1]=outL (ci (pf n) a0 a1):=rfl
theorem aH (n:Nat) (a0 a1:D):pf (n+1) F.tree_between [a0,a1]=outL (az (pf n) a0 a1):=rfl
theorem gj (n:Nat) (a0 a1:D):pf (n+1) F.between [a0,a1]=outL (cC (pf n) a0 a1):=rfl
theorem pS (n:Nat) (a0 a1:D):pf (n+1) F.L_cell [a0,a1]=outL (eI (pf n) a0 a1):=rfl
theorem pT (n:Nat) (a0 a1 a2:D):pf (n+1) F.L_pick [a0,a1,a2]=outL (eJ (pf n) a0 a1 a2):=rfl
theorem kB (n:Nat) (a0 a1 a2:D):pf (n+1) F.L_tree [a0,a1,a2]=outL (dW (pf n) a0 a1 a2):=rfl
theorem lg (n:Nat) (a0 a1 a2:D):pf (n+1) F.L_picture [a0,a1,a2]=outL (cD (pf n) a0 a1 a2):=rfl
theorem gH (n:Nat) (a0 a1:D):pf (n+1) F.L_rows_of [a0,a1]=outL (b5 (pf n) a0 a1):=rfl
theorem pU (n:Nat) (a0:D):pf (n+1) F.L_rows [a0]=outL (eL (pf n) a0):=rfl
theorem jB (n:Nat) (a0:D):pf (n+1) F.L_least [a0]=outL (c6 (pf n) a0):=rfl
theorem tX (n:Nat) (a0:D):pf (n+1) F.L_of [a0]=outL (ii (pf n) a0):=rfl
theorem iH (n:Nat) (a0:D):pf (n+1) F.L_places [a0]=outL (cw (pf n) a0):=rfl
theorem mn (n:Nat) (a0 a1 a2:D):pf (n+1) F.L_put [a0,a1,a2]=outL (fi (pf n) a0 a1 a2):=rfl
theorem nB (n:Nat) (a0 a1:D):pf (n+1) F.L_there [a0,a1]=outL (dD (pf n) a0 a1):=rfl
theorem gI (n:Nat) (a0 a1 a2:D):pf (n+1) F.L_spoilt_thing [a0,a1,a2]=outL (aX (pf n) a0 a1 a2):=rfl
theorem gJ (n:Nat) (a0 a1:D):pf (n+1) F.L_is_tree [a0,a1]=outL (b8 (pf n) a0 a1):=rfl
theorem iR (n:Nat) (a0:D):pf (n+1) F.L_is_picture [a0]=outL (bB (pf n) a0):=rfl
theorem dm (n:Nat) (a0 a1:D):pf (n+1) F.L_is_change_tree [a0,a1]=outL (aJ (pf n) a0 a1):=rfl
theorem jC (n:Nat) (a0:D):pf (n+1) F.L_is_change [a0]=outL (bQ (pf n) a0):=rfl
theorem eM (n:Nat) (a0 a1 a2:D):pf (n+1) F.L_change_tree [a0,a1,a2]=outL (aT (pf n) a0 a1 a2):=rfl
theorem mo (n:Nat) (a0 a1:D):pf (n+1) F.L_set [a0,a1]=outL (fk (pf n) a0 a1):=rfl
theorem fH (n:Nat) (a0:D):pf (n+1) F.L_least_set [a0]=outL (bt (pf n) a0):=rfl
theorem il (n:Nat) (a0:D):pf (n+1) F.L_word [a0]=outL (dj (pf n) a0):=rfl
theorem fP (n:Nat) (a0 a1 a2:D):pf (n+1) F.L_do_8 [a0,a1,a2]=outL (cQ (pf n) a0 a1 a2):=rfl
theorem fo (n:Nat) (a0 a1:D):pf (n+1) F.L_between [a0,a1]=outL (bG (pf n) a0 a1):=rfl
theorem nC (n:Nat) (a0:D):pf (n+1) F.law_k70 [a0]=outL (dE (pf n) a0):=rfl
end Lw
end
noncomputable section
set_option Elab.async false
set_option linter.all false
set_option maxRecDepth 100000
set_option maxHeartbeats 4000000
namespace Lw
open PySem PySem.Spec PyProof.Rows L2 FF
def top (i:Nat):Stmt:=PySem.Challenge.pw_fourfold_k70_whole_changes.main.body.getD i (.Pass ⟨0,0,0,0⟩)
abbrev c9:Stmt:=top 15
theorem mq:FnScope ["thing"] ["thing"] (defScope c9):=⟨rfl,rfl,rfl,by decide +kernel,rfl,by decide +kernel,by decide +kernel⟩
abbrev de:Stmt:=top 16
theorem mr:FnScope ["thing"] ["thing"] (defScope de):=⟨rfl,rfl,rfl,by decide +kernel,rfl,by decide +kernel,by decide +kernel⟩
abbrev dF:Stmt:=top 17
theorem nD:FnScope ["thing"] ["thing"] (defScope dF):=⟨rfl,rfl,rfl,by decide +kernel,rfl,by decide +kernel,by decide +kernel⟩
abbrev dG:Stmt:=top 18
theorem nE:FnScope ["size", "thing", "is_end"] ["size", "thing", "is_end"] (defScope dG):=⟨rfl,rfl,rfl,by decide +kernel,rfl,by decide +kernel,by decide +kernel⟩
abbrev bd:Stmt:=top 19
theorem im:FnScope ["thing", "is_end"] ["thing", "is_end"] (defScope bd):=⟨rfl,rfl,rfl,by decide +kernel,rfl,by decide +kernel,by decide +kernel⟩
abbrev bC:Stmt:=top 20
theorem fA:FnScope ["four", "first"] ["four"] (defScope bC):=⟨rfl,rfl,rfl,by decide +kernel,rfl,by decide +kernel,by decide +kernel⟩
abbrev cE:Stmt:=top 21
theorem lh:FnScope ["tree"] ["tree"] (defScope cE):=⟨rfl,rfl,rfl,by decide +kernel,rfl,by decide +kernel,by decide +kernel⟩
abbrev bR:Stmt:=top 22
theorem jD:FnScope ["tree"] ["tree"] (defScope bR):=⟨rfl,rfl,rfl,by decide +kernel,rfl,by decide +kernel,by decide +kernel⟩
abbrev ck:Stmt:=top 24
theorem kh:FnScope ["thing"] ["thing"] (defScope ck):=⟨rfl,rfl,rfl,by decide +kernel,rfl,by decide +kernel,by decide +kernel⟩
abbrev bf:Stmt:=top 25
theorem io:FnScope ["thing"] ["thing"] (defScope bf):=⟨rfl,rfl,rfl,by decide +kernel,rfl,by decide +kernel,by decide +kernel⟩
abbrev bS:Stmt:=top 27
theorem fI:FnScope ["things", "thing"] ["things"] (defScope bS):=⟨rfl,rfl,rfl,by decide +kernel,rfl,by decide +kernel,by decide +kernel⟩
abbrev aY:Stmt:=top 28
theorem d9:FnScope ["pictures", "picture"] ["pictures"] (defScope aY):=⟨rfl,rfl,rfl,by decide +kernel,rfl,by decide +kernel,by decide +kernel⟩
abbrev bT:Stmt:=top 29
theorem fJ:FnScope ["make", "one", "other", "couples"] ["make", "one", "other"] (defScope bT):=⟨rfl,rfl,rfl,by decide +kernel,rfl,by decide +kernel,by decide +kernel⟩
abbrev cm:Stmt:=top 31
theorem ki:FnScope ["thing"] ["thing"] (defScope cm):=⟨rfl,rfl,rfl,by decide +kernel,rfl,by decide +kernel,by decide +kernel⟩
abbrev cF:Stmt:=top 32
theorem li:FnScope ["thing"] ["thing"] (defScope cF):=⟨rfl,rfl,rfl,by decide +kernel,rfl,by decide +kernel,by decide +kernel⟩
abbrev bD:Stmt:=top 33
theorem iS:FnScope ["thing"] ["thing"] (defScope bD):=⟨rfl,rfl,rfl,by decide +kernel,rfl,by decide +kernel,by decide +kernel⟩
abbrev bU:Stmt:=top 34
theorem jE:FnScope ["change"] ["change"] (defScope bU):=⟨rfl,rfl,rfl,by decide +kernel,rfl,by decide +kernel,by decide +kernel⟩
abbrev df:Stmt:=top 35
theorem ms:FnScope ["one", "other"] ["one", "other"] (defScope df):=⟨rfl,rfl,rfl,by decide +kernel,rfl,by decide +kernel,by decide +kernel⟩
abbrev dH:Stmt:=top 36
theorem nF:FnScope ["picture", "change"] ["picture", "change"] (defScope dH):=⟨rfl,rfl,rfl,by decide +kernel,rfl,by decide +kernel,by decide +kernel⟩
abbrev bE:Stmt:=top 37
theorem fB:FnScope ["one", "other", "parts"] ["one", "other"] (defScope bE):=⟨rfl,rfl,rfl,by decide +kernel,rfl,by decide +kernel,by decide +kernel⟩
abbrev dJ:Stmt:=top 38
theorem nG:FnScope ["one", "other"] ["one", "other"] (defScope dJ):=⟨rfl,rfl,rfl,by decide +kernel,rfl,by decide +kernel,by decide +kernel⟩
abbrev eN:Stmt:=top 40
theorem pV:FnScope ["_law_script", "_law_k"] ["_law_script", "_law_k"] (defScope eN):=⟨rfl,rfl,rfl,by decide +kernel,rfl,by decide +kernel,by decide +kernel⟩
abbrev eO:Stmt:=top 41
theorem kC:FnScope ["_law_script", "_law_k", "_law_many", "_law_drawn"] ["_law_script", "_law_k", "_law_many"] (defScope eO):=⟨rfl,rfl,rfl,by decide +kernel,rfl,by decide +kernel,by decide +kernel⟩
abbrev eQ:Stmt:=top 42
theorem kD:FnScope ["_law_script", "_law_at", "_law_size", "_law_way"] ["_law_script", "_law_at", "_law_size"] (defScope eQ):=⟨rfl,rfl,rfl,by decide +kernel,rfl,by decide +kernel,by decide +kernel⟩
abbrev cG:Stmt:=top 43
theorem gK:FnScope ["_law_script", "_law_at", "_law_most", "_law_size"] ["_law_script", "_law_at", "_law_most"] (defScope cG):=⟨rfl,rfl,rfl,by decide +kernel,rfl,by decide +kernel,by decide +kernel⟩
abbrev cH:Stmt:=top 44
theorem cR:FnScope ["_law_size", "_law_tree_here", "_law_parts", "_law_some", "_law_made", "_law_upper"] ["_law_size", "_law_tree_here"] (defScope cH):=⟨rfl,rfl,rfl,by decide +kernel,rfl,by decide +kernel,by decide +kernel⟩
abbrev eR:Stmt:=top 45
theorem pW:FnScope ["_law_picture_here"] ["_law_picture_here"] (defScope eR):=⟨rfl,rfl,rfl,by decide +kernel,rfl,by decide +kernel,by decide +kernel⟩
abbrev dL:Stmt:=top 46
theorem cx:FnScope ["_law_rows_here", "_law_worths", "_law_row", "_law_half", "_law_parts", "_law_top", "_law_left"] ["_law_rows_here"] (defScope dL):=⟨rfl,rfl,rfl,by decide +kernel,rfl,by decide +kernel,by decide +kernel⟩
abbrev ir:Stmt:=top 47
theorem tY:FnScope ["_law_rows_here"] ["_law_rows_here"] (defScope ir):=⟨rfl,rfl,rfl,by decide +kernel,rfl,by decide +kernel,by decide +kernel⟩
abbrev dg:Stmt:=top 48
theorem fK:FnScope ["_law_thing", "_law_made", "_law_k"] ["_law_thing"] (defScope dg):=⟨rfl,rfl,rfl,by decide +kernel,rfl,by decide +kernel,by decide +kernel⟩
abbrev fQ:Stmt:=top 49
theorem mt:FnScope ["_law_thing", "_law_place", "_law_new", "_law_k"] ["_law_thing", "_law_place", "_law_new"] (defScope fQ):=⟨rfl,rfl,rfl,by decide +kernel,rfl,by decide +kernel,by decide +kernel⟩
abbrev dM:Stmt:=top 50
theorem gm:FnScope ["_law_thing", "_law_place", "_law_k"] ["_law_thing", "_law_place"] (defScope dM):=⟨rfl,rfl,rfl,by decide +kernel,rfl,by decide +kernel,by decide +kernel⟩
abbrev aZ:Stmt:=top 51
theorem bo:FnScope ["_law_script", "_law_at", "_law_thing", "_law_places_here", "_law_place", "_law_here", "_law_some"] ["_law_script", "_law_at", "_law_thing"] (defScope aZ):=⟨rfl,rfl,rfl,by decide +kernel,rfl,by decide +kernel,by decide +kernel⟩
abbrev bF:Stmt:=top 52
theorem iT:FnScope ["_law_thing"] ["_law_thing"] (defScope bF):=⟨rfl,rfl,rfl,by decide +kernel,rfl,by decide +kernel,by decide +kernel⟩
abbrev cI:Stmt:=top 53
theorem lj:FnScope ["_law_thing", "_law_size"] ["_law_thing", "_law_size"] (defScope cI):=⟨rfl,rfl,rfl,by decide +kernel,rfl,by decide +kernel,by decide +kernel⟩
abbrev bV:Stmt:=top 54
theorem jF:FnScope ["_law_thing"] ["_law_thing"] (defScope bV):=⟨rfl,rfl,rfl,by decide +kernel,rfl,by decide +kernel,by decide +kernel⟩
abbrev aR:Stmt:=top 55
theorem fU:FnScope ["_law_thing", "_law_size"] ["_law_thing", "_law_size"] (defScope aR):=⟨rfl,rfl,rfl,by decide +kernel,rfl,by decide +kernel,by decide +kernel⟩
abbrev bg:Stmt:=top 56
theorem eT:FnScope ["_law_script", "_law_at", "_law_size", "_law_way"] ["_law_script", "_law_at", "_law_size"] (defScope bg):=⟨rfl,rfl,rfl,by decide +kernel,rfl,by decide +kernel,by decide +kernel⟩
abbrev fR:Stmt:=top 57
theorem fL:FnScope ["_law_size", "_law_tree_here", "_law_parts", "_law_some", "_law_made", "_law_upper"] ["_law_size", "_law_tree_here"] (defScope fR):=⟨rfl,rfl,rfl,by decide +kernel,rfl,by decide +kernel,by decide +kernel⟩
abbrev bW:Stmt:=top 58
theorem ba:FnScope ["_law_rows_here", "_law_every", "_law_row", "_law_half", "_law_parts", "_law_top", "_law_left"] ["_law_rows_here"] (defScope bW):=⟨rfl,rfl,rfl,by decide +kernel,rfl,by decide +kernel,by decide +kernel⟩
abbrev eU:Stmt:=top 59
theorem iu:FnScope ["_law_kept", "_law_kinds", "_law_words"] ["_law_kept"] (defScope eU):=⟨rfl,rfl,rfl,by decide +kernel,rfl,by decide +kernel,by decide +kernel⟩
abbrev eV:Stmt:=top 60
theorem dN:FnScope ["_law_what", "_law_one", "_law_other", "_law_kept", "_law_answer", "e"] ["_law_what", "_law_one", "_law_other"] (defScope eV):=⟨rfl,rfl,rfl,by decide +kernel,rfl,by decide +kernel,by decide +kernel⟩
abbrev cJ:Stmt:=top 61
theorem bM:FnScope ["_law_one", "_law_other", "_law_least_here", "_law_half", "_law_parts", "_law_top", "_law_left", "_law_some"] ["_law_one", "_law_other"] (defScope cJ):=⟨rfl,rfl,rfl,by decide +kernel,rfl,by decide +kernel,by decide +kernel⟩
abbrev a9:Stmt:=top 62
theorem aS:FnScope ["_law_script", "_law_one", "_law_size", "_law_change", "_law_mine", "_law_some", "_law_made", "_law_other", "_law_due", "_law_k", "_law_thing", "_law_is_one", "_law_third", "_law_bad"] ["_law_script"] (defScope a9):=⟨rfl,rfl,rfl,by decide +kernel,rfl,by decide +kernel,by decide +kernel⟩
structure Txt (K:PySem.W.Frag) (mg:Str→Option Value) (C:Nat→Addr) (wP:Params):Prop where
  b_ValueError:mg "ValueError"=none
  b_all:mg "all"=none
  b_bool:mg "bool"=none
  b_int:mg "int"=none
  b_isinstance:mg "isinstance"=none
  b_len:mg "len"=none
  b_list:mg "list"=none
  b_max:mg "max"=none
  b_range:mg "range"=none
  b_set:mg "set"=none
  b_tuple:mg "tuple"=none
  b_zip:mg "zip"=none
  k_GREATEST_WORTH:∃ t,mg "GREATEST_WORTH"=some (.int 9 t)
  k_LARGEST_SIZE:∃ t,mg "LARGEST_SIZE"=some (.int 3 t)
  f_is_worth:mg "is_worth"=some (.ref (C F.is_worth))
  f_is_setting:mg "is_setting"=some (.ref (C F.is_setting))
  f_set_over:mg "set_over"=some (.ref (C F.set_over))
  c_FourError:mg "FourError"=some (.ref (C 0))
  c_NoPicture:mg "NoPicture"=some (.ref (C 1))
  c_NoSpot:mg "NoSpot"=some (.ref (C 2))
  c_BadBox:mg "BadBox"=some (.ref (C 3))
  c_Unlike:mg "Unlike"=some (.ref (C 4))
  c_NoRule:mg "NoRule"=some (.ref (C 5))
  c_NoBlocks:mg "NoBlocks"=some (.ref (C 6))
  c_NoChange:mg "NoChange"=some (.ref (C 7))
  c_NoNumber:mg "NoNumber"=some (.ref (C 8))
  c_NothingDone:mg "NothingDone"=some (.ref (C 9))
  c_NoText:mg "NoText"=some (.ref (C 10))
  x_NoPicture:PySem.W.excIn K (C 1) bmVE "ValueError.__new__"=true
  x_Unlike:PySem.W.excIn K (C 4) bmVE "ValueError.__new__"=true
  x_NoChange:PySem.W.excIn K (C 7) bmVE "ValueError.__new__"=true
  i_BadBox:IsA K C (.ref (C 3)) (qEx esL 3)
  i_NoBlocks:IsA K C (.ref (C 6)) (qEx esL 6)
  i_NoChange:IsA K C (.ref (C 7)) (qEx esL 7)
  i_NoNumber:IsA K C (.ref (C 8)) (qEx esL 8)
  i_NoPicture:IsA K C (.ref (C 1)) (qEx esL 1)
  i_NoRule:IsA K C (.ref (C 5)) (qEx esL 5)
  i_NoSpot:IsA K C (.ref (C 2)) (qEx esL 2)
  i_NoText:IsA K C (.ref (C 10)) (qEx esL 10)
  i_NothingDone:IsA K C (.ref (C 9)) (qEx esL 9)
  i_Unlike:IsA K C (.ref (C 4)) (qEx esL 4)
  i_ValueError:IsA K C (.ty "ValueError") (qVx esL)
  takes:Takes K C (C 0) (qTk esL)
structure Tab (P:Program) (w:World) (K:PySem.W.Frag) (mg:Str→Option Value) (base:Heap) (C:Nat→Addr) (k:Nat) (t:Nat→List FF.D→FF.R FF.D):Prop where
  g_is_whole:Fn1 P w K mg base C k "is_whole" ["thing"] (t F.is_whole)
  g_is_worth:Fn1 P w K mg base C k "is_worth" ["thing"] (t F.is_worth)
  g_is_size:Fn1 P w K mg base C k "is_size" ["thing"] (t F.is_size)
  g_is_tree:Fn1 P w K mg base C k "is_tree" ["size", "thing", "is_end"] (t F.is_tree)
  g_is_sized_tree:Fn1 P w K mg base C k "is_sized_tree" ["thing", "is_end"] (t F.is_sized_tree)
  g_put_together:Fn1 P w K mg base C k "put_together" ["four"] (t F.put_together)
  g_lean_tree:Fn1 P w K mg base C k "lean_tree" ["tree"] (t F.lean_tree)
  g_quarters_in:Fn1 P w K mg base C k "quarters_in" ["tree"] (t F.quarters_in)
  g_is_picture:Fn1 P w K mg base C k "is_picture" ["thing"] (t F.is_picture)
  g_check_picture:Fn1 P w K mg base C k "check_picture" ["thing"] (t F.check_picture)
  g_check_sizes:Fn1 P w K mg base C k "check_sizes" ["things"] (t F.check_sizes)
  g_check_pictures:Fn1 P w K mg base C k "check_pictures" ["pictures"] (t F.check_pictures)
  g_joined_tree:Fn1 P w K mg base C k "joined_tree" ["make", "one", "other"] (t F.joined_tree)
  g_is_setting:Fn1 P w K mg base C k "is_setting" ["thing"] (t F.is_setting)
  g_is_change:Fn1 P w K mg base C k "is_change" ["thing"] (t F.is_change)
  g_check_change:Fn1 P w K mg base C k "check_change" ["thing"] (t F.check_change)
  g_lean_change:Fn1 P w K mg base C k "lean_change" ["change"] (t F.lean_change)
  g_set_over:Fn1 P w K mg base C k "set_over" ["one", "other"] (t F.set_over)
  g_changed:Fn1 P w K mg base C k "changed" ["picture", "change"] (t F.changed)
  g_tree_between:Fn1 P w K mg base C k "tree_between" ["one", "other"] (t F.tree_between)
  g_between:Fn1 P w K mg base C k "between" ["one", "other"] (t F.between)
  g_L_cell:Fn1 P w K mg base C k "_law_cell" ["_law_script", "_law_k"] (t F.L_cell)
  g_L_pick:Fn1 P w K mg base C k "_law_pick" ["_law_script", "_law_k", "_law_many"] (t F.L_pick)
  g_L_tree:Fn1 P w K mg base C k "_law_tree" ["_law_script", "_law_at", "_law_size"] (t F.L_tree)
  g_L_picture:Fn1 P w K mg base C k "_law_picture" ["_law_script", "_law_at", "_law_most"] (t F.L_picture)
  g_L_rows_of:Fn1 P w K mg base C k "_law_rows_of" ["_law_size", "_law_tree_here"] (t F.L_rows_of)
  g_L_rows:Fn1 P w K mg base C k "_law_rows" ["_law_picture_here"] (t F.L_rows)
  g_L_least:Fn1 P w K mg base C k "_law_least" ["_law_rows_here"] (t F.L_least)
  g_L_of:Fn1 P w K mg base C k "_law_of" ["_law_rows_here"] (t F.L_of)
  g_L_places:Fn1 P w K mg base C k "_law_places" ["_law_thing"] (t F.L_places)
  g_L_put:Fn1 P w K mg base C k "_law_put" ["_law_thing", "_law_place", "_law_new"] (t F.L_put)
  g_L_there:Fn1 P w K mg base C k "_law_there" ["_law_thing", "_law_place"] (t F.L_there)
  g_L_spoilt_thing:Fn1 P w K mg base C k "_law_spoilt_thing" ["_law_script", "_law_at", "_law_thing"] (t F.L_spoilt_thing)
  g_L_is_picture:Fn1 P w K mg base C k "_law_is_picture" ["_law_thing"] (t F.L_is_picture)
  g_L_is_tree:Fn1 P w K mg base C k "_law_is_tree" ["_law_thing", "_law_size"] (t F.L_is_tree)
  g_L_is_change:Fn1 P w K mg base C k "_law_is_change" ["_law_thing"] (t F.L_is_change)
  g_L_is_change_tree:Fn1 P w K mg base C k "_law_is_change_tree" ["_law_thing", "_law_size"] (t F.L_is_change_tree)
  g_L_change_tree:Fn1 P w K mg base C k "_law_change_tree" ["_law_script", "_law_at", "_law_size"] (t F.L_change_tree)
  g_L_set:Fn1 P w K mg base C k "_law_set" ["_law_size", "_law_tree_here"] (t F.L_set)
  g_L_least_set:Fn1 P w K mg base C k "_law_least_set" ["_law_rows_here"] (t F.L_least_set)
  g_L_word:Fn1 P w K mg base C k "_law_word" ["_law_kept"] (t F.L_word)
  g_L_do_8:Fn1 P w K mg base C k "_law_do" ["_law_what", "_law_one", "_law_other"] (t F.L_do_8)
  g_L_between:Fn1 P w K mg base C k "_law_between" ["_law_one", "_law_other"] (t F.L_between)
  g_law_k70:Fn1 P w K mg base C k "law" ["_law_script"] (t F.law_k70)
  v:∀ i∈fvL,FnV P w K mg base C k i (t i)
section
variable {P:Program} {w:World} {K:PySem.W.Frag} {mg:Str→Option Value} {base:Heap} {C:Nat→Addr} {k:Nat} {t:Nat→List FF.D→FF.R FF.D}
theorem mv {f:Addr} {fd:FuncData} (F:Fun K "is_whole" "is_whole" c9 f fd) (T:Txt K mg C w.params) (G:Tab P w K mg base C k t):FnOk P w K mg base (CXE P w) (k+1) f fd ["thing"] (spF K C 1 (a1 (dU t))):=by
  refine ao F mq fun cdv A outer s H Z E bx hpo made ds hl=>?_
  obtain ⟨thing,rfl⟩:=len1 hl
  refine ⟨dU t thing,rfl,?_⟩
  show FL (bodyX P w K mg base ["thing"] "is_whole" (defScope c9) f cdv A outer s H E) ⟨K,C,H,Z,E⟩ [vv thing] (defBody c9) JU (dU t thing)
  refine aw (ah (g9 (aj bx rfl T.b_isinstance gA (ac 0) (aC rfl T.b_int (by decide +kernel) rfl)) (f9 (vc (aj bx rfl T.b_isinstance eG (ac 0) (aC rfl T.b_bool (by decide +kernel) rfl)))))) ?_
  rfl
theorem iI {f:Addr} {fd:FuncData} (F:Fun K "is_worth" "is_worth" de f fd) (T:Txt K mg C w.params) (G:Tab P w K mg base C k t):FnOk P w K mg base (CXE P w) (k+1) f fd ["thing"] (spF K C 1 (a1 (cX t))):=by
  refine ao F mr fun cdv A outer s H Z E bx hpo made ds hl=>?_
  obtain ⟨thing,rfl⟩:=len1 hl
  refine ⟨cX t thing,rfl,?_⟩
  show FL (bodyX P w K mg base ["thing"] "is_worth" (defScope de) f cdv A outer s H E) ⟨K,C,H,Z,E⟩ [vv thing] (defBody de) JU (cX t thing)
  refine aw (ah (g9 (af bx G.g_is_whole rfl (aa (ac 0) ad)) (f9 (gz ae (ac 0) (oH T.k_GREATEST_WORTH rfl))))) ?_
  rfl
theorem nH {f:Addr} {fd:FuncData} (F:Fun K "is_size" "is_size" dF f fd) (T:Txt K mg C w.params) (G:Tab P w K mg base C k t):FnOk P w K mg base (CXE P w) (k+1) f fd ["thing"] (spF K C 1 (a1 (dC t))):=by
  refine ao F nD fun cdv A outer s H Z E bx hpo made ds hl=>?_
  obtain ⟨thing,rfl⟩:=len1 hl
  refine ⟨dC t thing,rfl,?_⟩
  show FL (bodyX P w K mg base ["thing"] "is_size" (defScope dF) f cdv A outer s H E) ⟨K,C,H,Z,E⟩ [vv thing] (defBody dF) JU (dC t thing)
  refine aw (ah (g9 (af bx G.g_is_whole rfl (aa (ac 0) ad)) (f9 (gz ae (ac 0) (oH T.k_LARGEST_SIZE rfl))))) ?_
  rfl
theorem nI {f:Addr} {fd:FuncData} (F:Fun K "is_tree" "is_tree" dG f fd) (T:Txt K mg C w.params) (G:Tab P w K mg base C k t):FnOk P w K mg base (CXE P w) (k+1) f fd ["size", "thing", "is_end"] (spF K C 3 (a3 (cY t))):=by
  refine ao F nE fun cdv A outer s H Z E bx hpo made ds hl=>?_
  obtain ⟨size_,thing,is_end,rfl⟩:=len3 hl
  refine ⟨cY t size_ thing is_end,rfl,?_⟩
  show FL (bodyX P w K mg base ["size", "thing", "is_end"] "is_tree" (defScope dG) f cdv A outer s H E) ⟨K,C,H,Z,E⟩ [vv size_,vv thing,vv is_end] (defBody dG) JU (cY t size_ thing is_end)
  refine av (inj:=fun (_:Unit) (w:Unit)=>[vv size_,vv thing,vv is_end]) (ay (aV (aD (aj bx rfl T.b_isinstance bn (ac 1) (aC rfl T.b_tuple (by decide +kernel) rfl)))) ?_ ?_ ?_) (fun _ w=>?_)
  rfl
  · refine aw (ah (lU bx G.v (ac 2) (aa (ac 1) ad))) ?_
    rfl
  · exact al ⟨(),rfl⟩
  refine av (inj:=fun (_:Unit) (w1:Unit)=>[vv size_,vv thing,vv is_end]) (ay (ft_w (cy (cz bx (ac 0) ae) (cM (cP bx (fe_N (cp bx rfl T.b_len (FAL.out (aa (ac 1) ad)))) ae)))) ?_ ?_ ?_) (fun _ w1=>?_)
  rfl
  · refine ax (ah cL) ?_
    rfl
  · exact al ⟨(),rfl⟩
  refine aw (ah (fe_N (vj bx rfl T.b_all (FAL.out (aa (fe_C (bv (N:=["part", "is_end", "size"]) (own:=1) (cap:=[2,0]) bx (BlkOk.of (by kernel_rfl)) (aP bx.K (ac 1)) (bJ (by decide)) (fun _ _ _ _ _=>aA 0 (show List.Nodup (α:=Str) ["part", "is_end", "size"] by decide +kernel)) (fun _ _ _ _ _=>(af (au bx) G.g_is_tree rfl (aa (e6 (ac 2) ae) (aa (ac 0) (aa (ac 1) ad))))))) ad))))) ?_
  rfl
theorem iv {f:Addr} {fd:FuncData} (F:Fun K "is_sized_tree" "is_sized_tree" bd f fd) (T:Txt K mg C w.params) (G:Tab P w K mg base C k t):FnOk P w K mg base (CXE P w) (k+1) f fd ["thing", "is_end"] (spF K C 2 (a2 (bb t))):=by
  refine ao F im fun cdv A outer s H Z E bx hpo made ds hl=>?_
  obtain ⟨thing,is_end,rfl⟩:=len2 hl
  refine ⟨bb t thing is_end,rfl,?_⟩
  show FL (bodyX P w K mg base ["thing", "is_end"] "is_sized_tree" (defScope bd) f cdv A outer s H E) ⟨K,C,H,Z,E⟩ [vv thing,vv is_end] (defBody bd) JU (bb t thing is_end)
  refine av (inj:=fun (_:Unit) (w:Unit)=>[vv thing,vv is_end]) (ay (ft_w (cy (aV (aD (aj bx rfl T.b_isinstance bn (ac 0) (aC rfl T.b_tuple (by decide +kernel) rfl)))) (cM (cP bx (fe_N (cp bx rfl T.b_len (FAL.out (aa (ac 0) ad)))) ae)))) ?_ ?_ ?_) (fun _ w=>?_)
  rfl
  · refine ax (ah cL) ?_
    rfl
  · exact al ⟨(),rfl⟩
  refine aw (ah (g9 (af bx G.g_is_size rfl (aa (ag bx.K (ac 0) ae) ad)) (f9 (af bx G.g_is_tree rfl (aa (ag bx.K (ac 0) ae) (aa (ag bx.K (ac 0) ae) (aa (ac 1) ad))))))) ?_
  rfl
theorem iU {f:Addr} {fd:FuncData} (F:Fun K "put_together" "put_together" bC f fd) (T:Txt K mg C w.params) (G:Tab P w K mg base C k t):FnOk P w K mg base (CXE P w) (k+1) f fd ["four"] (spF K C 1 (a1 (bw t))):=by
  refine ao F fA fun cdv A outer s H Z E bx hpo made ds hl=>?_
  obtain ⟨four,rfl⟩:=len1 hl
  refine ⟨bw t four,rfl,?_⟩
  show FL (bodyX P w K mg base ["four", "first"] "put_together" (defScope bC) f cdv A outer s H E) ⟨K,C,H,Z,E⟩ [vv four,nn] (defBody bC) JU (bw t four)
  refine ak (S':=fun first=>[vv four,vv first]) (aE 1 fA.nd (ag bx.K (ac 0) ae)) ?_ (fun first=>?_)
  rfl
  refine av (inj:=fun (_:Unit) (w:Unit)=>[vv four,vv first]) (ay (ft_w (dQ (aV (aD (aj bx rfl T.b_isinstance bn (ac 1) (aC rfl T.b_tuple (by decide +kernel) rfl)))) (dn (cz bx (ac 0) (aB (aa (ac 1) (aa (ac 1) (aa (ac 1) (aa (ac 1) ad))))))))) ?_ ?_ ?_) (fun _ w=>?_)
  rfl
  · refine ax (ah (ac 1)) ?_
    rfl
  · exact al ⟨(),rfl⟩
  refine ax (ah (ac 0)) ?_
  rfl
theorem ll {f:Addr} {fd:FuncData} (F:Fun K "lean_tree" "lean_tree" cE f fd) (T:Txt K mg C w.params) (G:Tab P w K mg base C k t):FnOk P w K mg base (CXE P w) (k+1) f fd ["tree"] (spF K C 1 (a1 (b4 t))):=by
  refine ao F lh fun cdv A outer s H Z E bx hpo made ds hl=>?_
  obtain ⟨tree_,rfl⟩:=len1 hl
  refine ⟨b4 t tree_,rfl,?_⟩
  show FL (bodyX P w K mg base ["tree"] "lean_tree" (defScope cE) f cdv A outer s H E) ⟨K,C,H,Z,E⟩ [vv tree_] (defBody cE) JU (b4 t tree_)
  refine av (inj:=fun (_:Unit) (w:Unit)=>[vv tree_]) (ay (aV (aD (aj bx rfl T.b_isinstance bn (ac 0) (aC rfl T.b_tuple (by decide +kernel) rfl)))) ?_ ?_ ?_) (fun _ w=>?_)
  rfl
  · refine ax (ah (ac 0)) ?_
    rfl
  · exact al ⟨(),rfl⟩
  refine aw (ah (af bx G.g_put_together rfl (aa (fe_N (bj bx rfl T.b_tuple (FAL.out (aa (fe_C (bv (N:=["part"]) (own:=1) (cap:=[]) bx (BlkOk.of (by kernel_rfl)) (aP bx.K (ac 0)) (bJ (by decide)) (fun _ _ _ _ _=>aA 0 (show List.Nodup (α:=Str) ["part"] by decide +kernel)) (fun _ _ _ _ _=>(af (au bx) G.g_lean_tree rfl (aa (ac 0) ad))))) ad)))) ad))) ?_
  rfl
theorem jG {f:Addr} {fd:FuncData} (F:Fun K "quarters_in" "quarters_in" bR f fd) (T:Txt K mg C w.params) (G:Tab P w K mg base C k t):FnOk P w K mg base (CXE P w) (k+1) f fd ["tree"] (spF K C 1 (a1 (bP t))):=by
  refine ao F jD fun cdv A outer s H Z E bx hpo made ds hl=>?_
  obtain ⟨tree_,rfl⟩:=len1 hl
  refine ⟨bP t tree_,rfl,?_⟩
  show FL (bodyX P w K mg base ["tree"] "quarters_in" (defScope bR) f cdv A outer s H E) ⟨K,C,H,Z,E⟩ [vv tree_] (defBody bR) JU (bP t tree_)
  refine av (inj:=fun (_:Unit) (w:Unit)=>[vv tree_]) (ay (aD (aj bx rfl T.b_isinstance bn (ac 0) (aC rfl T.b_tuple (by decide +kernel) rfl))) ?_ ?_ ?_) (fun _ w=>?_)
  rfl
  · refine ax (ah (ac 0)) ?_
    rfl
  · exact al ⟨(),rfl⟩
  refine ax (ah (aB (aa (ac 0) (aa (ac 0) (aa (ac 0) (aa (ac 0) ad)))))) ?_
  rfl
theorem kj {f:Addr} {fd:FuncData} (F:Fun K "is_picture" "is_picture" ck f fd) (T:Txt K mg C w.params) (G:Tab P w K mg base C k t):FnOk P w K mg base (CXE P w) (k+1) f fd ["thing"] (spF K C 1 (a1 (ce t))):=by
  refine ao F kh fun cdv A outer s H Z E bx hpo made ds hl=>?_
  obtain ⟨thing,rfl⟩:=len1 hl
  refine ⟨ce t thing,rfl,?_⟩
  show FL (bodyX P w K mg base ["thing"] "is_picture" (defScope ck) f cdv A outer s H E) ⟨K,C,H,Z,E⟩ [vv thing] (defBody ck) JU (ce t thing)
  refine aw (ah (af bx G.g_is_sized_tree rfl (aa (ac 0) (aa (rC T.f_is_worth rfl) ad)))) ?_
  rfl
theorem iw {f:Addr} {fd:FuncData} (F:Fun K "check_picture" "check_picture" bf f fd) (T:Txt K mg C w.params) (G:Tab P w K mg base C k t):FnOk P w K mg base (CXE P w) (k+1) f fd ["thing"] (spF K C 1 (a1 (bc t))):=by
  refine ao F io fun cdv A outer s H Z E bx hpo made ds hl=>?_
  obtain ⟨thing,rfl⟩:=len1 hl
  refine ⟨bc t thing,rfl,?_⟩
  show FL (bodyX P w K mg base ["thing"] "check_picture" (defScope bf) f cdv A outer s H E) ⟨K,C,H,Z,E⟩ [vv thing] (defBody bf) JU (bc t thing)
  refine ju (ay (aV (aD (af bx G.g_is_picture rfl (aa (ac 0) ad)))) ?_ ?_ ?_)
  rfl
  · refine rA (js 1 bx made rfl T.c_NoPicture T.x_NoPicture (FAL.out (aa bI ad))) ?_
    rfl
  · exact al True.intro
theorem jH {f:Addr} {fd:FuncData} (F:Fun K "check_sizes" "check_sizes" bS f fd) (T:Txt K mg C w.params) (G:Tab P w K mg base C k t):FnOk P w K mg base (CXE P w) (k+1) f fd ["things"] (spF K C 1 (a1 (bp t))):=by
  refine ao F fI fun cdv A outer s H Z E bx hpo made ds hl=>?_
  obtain ⟨things,rfl⟩:=len1 hl
  refine ⟨bp t things,rfl,?_⟩
  show FL (bodyX P w K mg base ["things", "thing"] "check_sizes" (defScope bS) f cdv A outer s H E) ⟨K,C,H,Z,E⟩ [vv things,nn] (defBody bS) JU (bp t things)
  refine av (inj:=fun (s:Unit) (w:Option Sl)=>[vv things,w]) (bL 1 (B:=fun (s:Unit) (w:Option Sl) x=>[vv things,vv x]) nn hpo rfl (aP bx.K (ac 0)) ?_ (aA 1 fI.nd) rfl (fun _ _ _=>rfl) (fun s w x=>?_)) (fun _ w1=>?_)
  rfl
  · refine ju (ay (cP bx (ag bx.K (ac 1) ae) (ag bx.K (ag bx.K (ac 0) ae) ae)) ?_ ?_ ?_)
    rfl
    · refine rA (js 4 bx made rfl T.c_Unlike T.x_Unlike (FAL.out (aa bI ad))) ?_
      rfl
    · exact al ⟨vv x,rfl⟩
  exact al True.intro
theorem gL {f:Addr} {fd:FuncData} (F:Fun K "check_pictures" "check_pictures" aY f fd) (T:Txt K mg C w.params) (G:Tab P w K mg base C k t):FnOk P w K mg base (CXE P w) (k+1) f fd ["pictures"] (spF K C 1 (a1 (aF t))):=by
  refine ao F d9 fun cdv A outer s H Z E bx hpo made ds hl=>?_
  obtain ⟨pictures,rfl⟩:=len1 hl
  refine ⟨aF t pictures,rfl,?_⟩
  show FL (bodyX P w K mg base ["pictures", "picture"] "check_pictures" (defScope aY) f cdv A outer s H E) ⟨K,C,H,Z,E⟩ [vv pictures,nn] (defBody aY) JU (aF t pictures)
  refine av (inj:=fun (s:Unit) (w:Option Sl)=>[vv pictures,w]) (bL 1 (B:=fun (s:Unit) (w:Option Sl) x=>[vv pictures,vv x]) nn hpo rfl (aP bx.K (ac 0)) ?_ (aA 1 d9.nd) rfl (fun _ _ _=>rfl) (fun s w x=>?_)) (fun _ w1=>?_)
  rfl
  · refine ak (S':=fun _=>[vv pictures,vv x]) (eZ (af bx G.g_check_picture rfl (aa (ac 1) ad))) ?_ (fun _=>?_)
    rfl
    exact al ⟨vv x,rfl⟩
  refine ak (S':=fun _=>[vv pictures,w1]) (eZ (af bx G.g_check_sizes rfl (aa (ac 0) ad))) ?_ (fun _=>?_)
  rfl
  exact al True.intro
theorem jI {f:Addr} {fd:FuncData} (F:Fun K "joined_tree" "joined_tree" bT f fd) (T:Txt K mg C w.params) (G:Tab P w K mg base C k t):FnOk P w K mg base (CXE P w) (k+1) f fd ["make", "one", "other"] (spF K C 3 (a3 (bq t))):=by
  refine ao F fJ fun cdv A outer s H Z E bx hpo made ds hl=>?_
  obtain ⟨make,one,other,rfl⟩:=len3 hl
  refine ⟨bq t make one other,rfl,?_⟩
  show FL (bodyX P w K mg base ["make", "one", "other", "couples"] "joined_tree" (defScope bT) f cdv A outer s H E) ⟨K,C,H,Z,E⟩ [vv make,vv one,vv other,nn] (defBody bT) JU (bq t make one other)
  refine av (inj:=fun (_:Unit) (w:Unit)=>[vv make,vv one,vv other,nn]) (ay (ft_w (dQ (aV (aD (aj bx rfl T.b_isinstance bn (ac 1) (aC rfl T.b_tuple (by decide +kernel) rfl)))) (dn (aV (aD (aj bx rfl T.b_isinstance bn (ac 2) (aC rfl T.b_tuple (by decide +kernel) rfl))))))) ?_ ?_ ?_) (fun _ w=>?_)
  rfl
  · refine aw (ah (lU bx G.v (ac 0) (aa (ac 1) (aa (ac 2) ad)))) ?_
    rfl
  · exact al ⟨(),rfl⟩
  refine ak (S':=fun couples=>[vv make,vv one,vv other,vv couples]) (aE 3 fJ.nd (mi bx rfl T.b_list rfl T.b_zip (aa (af bx G.g_quarters_in rfl (aa (ac 1) ad)) (aa (af bx G.g_quarters_in rfl (aa (ac 2) ad)) ad)))) ?_ (fun couples=>?_)
  rfl
  refine aw (ah (af bx G.g_put_together rfl (aa (fe_N (bj bx rfl T.b_tuple (FAL.out (aa (fe_C (bv (N:=["couple", "make"]) (own:=1) (cap:=[0]) bx (BlkOk.of (by kernel_rfl)) (aP bx.K (ac 3)) (bJ (by decide)) (fun _ _ _ _ _=>aA 0 (show List.Nodup (α:=Str) ["couple", "make"] by decide +kernel)) (fun _ _ _ _ _=>(af (au bx) G.g_joined_tree rfl (aa (ac 1) (aa (ag (au bx).K (ac 0) ae) (aa (ag (au bx).K (ac 0) ae) ad))))))) ad)))) ad))) ?_
  rfl
theorem fW {f:Addr} {fd:FuncData} (F:Fun K "is_setting" "is_setting" cm f fd) (T:Txt K mg C w.params) (G:Tab P w K mg base C k t):FnOk P w K mg base (CXE P w) (k+1) f fd ["thing"] (spF K C 1 (a1 (cg t))):=by
  refine ao F ki fun cdv A outer s H Z E bx hpo made ds hl=>?_
  obtain ⟨thing,rfl⟩:=len1 hl
  refine ⟨cg t thing,rfl,?_⟩
  show FL (bodyX P w K mg base ["thing"] "is_setting" (defScope cm) f cdv A outer s H E) ⟨K,C,H,Z,E⟩ [vv thing] (defBody cm) JU (cg t thing)
  refine aw (ah (vW (vX (ac 0) cu) (f9 (af bx G.g_is_worth rfl (aa (ac 0) ad))))) ?_
  rfl
theorem lm {f:Addr} {fd:FuncData} (F:Fun K "is_change" "is_change" cF f fd) (T:Txt K mg C w.params) (G:Tab P w K mg base C k t):FnOk P w K mg base (CXE P w) (k+1) f fd ["thing"] (spF K C 1 (a1 (cB t))):=by
  refine ao F li fun cdv A outer s H Z E bx hpo made ds hl=>?_
  obtain ⟨thing,rfl⟩:=len1 hl
  refine ⟨cB t thing,rfl,?_⟩
  show FL (bodyX P w K mg base ["thing"] "is_change" (defScope cF) f cdv A outer s H E) ⟨K,C,H,Z,E⟩ [vv thing] (defBody cF) JU (cB t thing)
  refine aw (ah (af bx G.g_is_sized_tree rfl (aa (ac 0) (aa (rC T.f_is_setting rfl) ad)))) ?_
  rfl
theorem iV {f:Addr} {fd:FuncData} (F:Fun K "check_change" "check_change" bD f fd) (T:Txt K mg C w.params) (G:Tab P w K mg base C k t):FnOk P w K mg base (CXE P w) (k+1) f fd ["thing"] (spF K C 1 (a1 (bz t))):=by
  refine ao F iS fun cdv A outer s H Z E bx hpo made ds hl=>?_
  obtain ⟨thing,rfl⟩:=len1 hl
  refine ⟨bz t thing,rfl,?_⟩
  show FL (bodyX P w K mg base ["thing"] "check_change" (defScope bD) f cdv A outer s H E) ⟨K,C,H,Z,E⟩ [vv thing] (defBody bD) JU (bz t thing)
  refine ju (ay (aV (aD (af bx G.g_is_change rfl (aa (ac 0) ad)))) ?_ ?_ ?_)
  rfl
  · refine rA (js 7 bx made rfl T.c_NoChange T.x_NoChange (FAL.out (aa bI ad))) ?_
    rfl
  · exact al True.intro
theorem jJ {f:Addr} {fd:FuncData} (F:Fun K "lean_change" "lean_change" bU f fd) (T:Txt K mg C w.params) (G:Tab P w K mg base C k t):FnOk P w K mg base (CXE P w) (k+1) f fd ["change"] (spF K C 1 (a1 (br t))):=by
  refine ao F jE fun cdv A outer s H Z E bx hpo made ds hl=>?_
  obtain ⟨change,rfl⟩:=len1 hl
  refine ⟨br t change,rfl,?_⟩
  show FL (bodyX P w K mg base ["change"] "lean_change" (defScope bU) f cdv A outer s H E) ⟨K,C,H,Z,E⟩ [vv change] (defBody bU) JU (br t change)
  refine ak (S':=fun _=>[vv change]) (eZ (af bx G.g_check_change rfl (aa (ac 0) ad))) ?_ (fun _=>?_)
  rfl
  refine aw (ah (aB (aa (ag bx.K (ac 0) ae) (aa (af bx G.g_lean_tree rfl (aa (ag bx.K (ac 0) ae) ad)) ad)))) ?_
  rfl
theorem iJ {f:Addr} {fd:FuncData} (F:Fun K "set_over" "set_over" df f fd) (T:Txt K mg C w.params) (G:Tab P w K mg base C k t):FnOk P w K mg base (CXE P w) (k+1) f fd ["one", "other"] (spF K C 2 (a2 (cZ t))):=by
  refine ao F ms fun cdv A outer s H Z E bx hpo made ds hl=>?_
  obtain ⟨one,other,rfl⟩:=len2 hl
  refine ⟨cZ t one other,rfl,?_⟩
  show FL (bodyX P w K mg base ["one", "other"] "set_over" (defScope df) f cdv A outer s H E) ⟨K,C,H,Z,E⟩ [vv one,vv other] (defBody df) JU (cZ t one other)
  refine aw (ah (jh (oC (ac 1) cu) (ac 0) (ac 1))) ?_
  rfl
theorem nJ {f:Addr} {fd:FuncData} (F:Fun K "changed" "changed" dH f fd) (T:Txt K mg C w.params) (G:Tab P w K mg base C k t):FnOk P w K mg base (CXE P w) (k+1) f fd ["picture", "change"] (spF K C 2 (a2 (ci t))):=by
  refine ao F nF fun cdv A outer s H Z E bx hpo made ds hl=>?_
  obtain ⟨picture,change,rfl⟩:=len2 hl
  refine ⟨ci t picture change,rfl,?_⟩
  show FL (bodyX P w K mg base ["picture", "change"] "changed" (defScope dH) f cdv A outer s H E) ⟨K,C,H,Z,E⟩ [vv picture,vv change] (defBody dH) JU (ci t picture change)
  refine ak (S':=fun _=>[vv picture,vv change]) (eZ (af bx G.g_check_picture rfl (aa (ac 0) ad))) ?_ (fun _=>?_)
  rfl
  refine ak (S':=fun _=>[vv picture,vv change]) (eZ (af bx G.g_check_change rfl (aa (ac 1) ad))) ?_ (fun _=>?_)
  rfl
  refine ak (S':=fun _=>[vv picture,vv change]) (eZ (af bx G.g_check_sizes rfl (aa (aG (aa (ac 0) (aa (ac 1) ad))) ad))) ?_ (fun _=>?_)
  rfl
  refine aw (ah (aB (aa (ag bx.K (ac 0) ae) (aa (af bx G.g_joined_tree rfl (aa (rC T.f_set_over rfl) (aa (ag bx.K (ac 0) ae) (aa (ag bx.K (ac 1) ae) ad)))) ad)))) ?_
  rfl
theorem iW {f:Addr} {fd:FuncData} (F:Fun K "tree_between" "tree_between" bE f fd) (T:Txt K mg C w.params) (G:Tab P w K mg base C k t):FnOk P w K mg base (CXE P w) (k+1) f fd ["one", "other"] (spF K C 2 (a2 (az t))):=by
  refine ao F fB fun cdv A outer s H Z E bx hpo made ds hl=>?_
  obtain ⟨one,other,rfl⟩:=len2 hl
  refine ⟨az t one other,rfl,?_⟩
  show FL (bodyX P w K mg base ["one", "other", "parts"] "tree_between" (defScope bE) f cdv A outer s H E) ⟨K,C,H,Z,E⟩ [vv one,vv other,nn] (defBody bE) JU (az t one other)
  refine av (inj:=fun (_:Unit) (w:Unit)=>[vv one,vv other,nn]) (ay (cz bx (ac 0) (ac 1)) ?_ ?_ ?_) (fun _ w=>?_)
  rfl
  · refine ax (ah cu) ?_
    rfl
  · exact al ⟨(),rfl⟩
  refine av (inj:=fun (_:Unit) (w1:Unit)=>[vv one,vv other,nn]) (ay (aV (aD (aj bx rfl T.b_isinstance bn (ac 1) (aC rfl T.b_tuple (by decide +kernel) rfl)))) ?_ ?_ ?_) (fun _ w1=>?_)
  rfl
  · refine ax (ah (ac 1)) ?_
    rfl
  · exact al ⟨(),rfl⟩
  refine ak (S':=fun parts_=>[vv one,vv other,vv parts_]) (aE 2 fB.nd (af bx G.g_quarters_in rfl (aa (ac 0) ad))) ?_ (fun parts_=>?_)
  rfl
  refine aw (ah (fe_N (bj bx rfl T.b_tuple (FAL.out (aa (fe_C (bv (N:=["number", "parts", "other"]) (own:=1) (cap:=[2,1]) bx (BlkOk.of (by kernel_rfl)) (jv (cW rfl T.b_range (FAL.out (aa ae ad)))) (bJ (by decide)) (fun _ _ _ _ _=>aA 0 (show List.Nodup (α:=Str) ["number", "parts", "other"] by decide +kernel)) (fun _ _ _ _ _=>(af (au bx) G.g_tree_between rfl (aa (ag (au bx).K (ac 1) (ac 0)) (aa (ag (au bx).K (ac 2) (ac 0)) ad)))))) ad))))) ?_
  rfl
theorem nK {f:Addr} {fd:FuncData} (F:Fun K "between" "between" dJ f fd) (T:Txt K mg C w.params) (G:Tab P w K mg base C k t):FnOk P w K mg base (CXE P w) (k+1) f fd ["one", "other"] (spF K C 2 (a2 (cC t))):=by
  refine ao F nG fun cdv A outer s H Z E bx hpo made ds hl=>?_
  obtain ⟨one,other,rfl⟩:=len2 hl
  refine ⟨cC t one other,rfl,?_⟩
  show FL (bodyX P w K mg base ["one", "other"] "between" (defScope dJ) f cdv A outer s H E) ⟨K,C,H,Z,E⟩ [vv one,vv other] (defBody dJ) JU (cC t one other)
  refine ak (S':=fun _=>[vv one,vv other]) (eZ (af bx G.g_check_pictures rfl (aa (aG (aa (ac 0) (aa (ac 1) ad))) ad))) ?_ (fun _=>?_)
  rfl
  refine aw (ah (aB (aa (ag bx.K (ac 0) ae) (aa (af bx G.g_tree_between rfl (aa (af bx G.g_lean_tree rfl (aa (ag bx.K (ac 0) ae) ad)) (aa (af bx G.g_lean_tree rfl (aa (ag bx.K (ac 1) ae) ad)) ad))) ad)))) ?_
  rfl
theorem pX {f:Addr} {fd:FuncData} (F:Fun K "_law_cell" "_law_cell" eN f fd) (T:Txt K mg C w.params) (G:Tab P w K mg base C k t):FnOk P w K mg base (CXE P w) (k+1) f fd ["_law_script", "_law_k"] (spF K C 2 (a2 (eI t))):=by
  refine ao F pV fun cdv A outer s H Z E bx hpo made ds hl=>?_
  obtain ⟨l_script,l_k,rfl⟩:=len2 hl
  refine ⟨eI t l_script l_k,rfl,?_⟩
  show FL (bodyX P w K mg base ["_law_script", "_law_k"] "_law_cell" (defScope eN) f cdv A outer s H E) ⟨K,C,H,Z,E⟩ [vv l_script,vv l_k] (defBody eN) JU (eI t l_script l_k)
  refine av (inj:=fun (_:Unit) (w:Unit)=>[vv l_script,vv l_k]) (ay (lL (ac 1) (fe_N (cp bx rfl T.b_len (FAL.out (aa (ac 0) ad))))) ?_ ?_ ?_) (fun _ w=>?_)
  rfl
  · refine aw (ah (ag bx.K (ac 0) (ac 1))) ?_
    rfl
  · exact al ⟨(),rfl⟩
  refine av (inj:=fun (_:Unit) (w1:Unit)=>[vv l_script,vv l_k]) (ay (cz bx (ac 0) (aG ad)) ?_ ?_ ?_) (fun _ w1=>?_)
  rfl
  · refine ax (ah ae) ?_
    rfl
  · exact al ⟨(),rfl⟩
  refine aw (ah (aI bx.K (cn bx.K (ag bx.K (ac 0) (k6 (ac 1) (fe_N (cp bx rfl T.b_len (FAL.out (aa (ac 0) ad)))))) ae) (ac 1))) ?_
  rfl
theorem pY {f:Addr} {fd:FuncData} (F:Fun K "_law_pick" "_law_pick" eO f fd) (T:Txt K mg C w.params) (G:Tab P w K mg base C k t):FnOk P w K mg base (CXE P w) (k+1) f fd ["_law_script", "_law_k", "_law_many"] (spF K C 3 (a3 (eJ t))):=by
  refine ao F kC fun cdv A outer s H Z E bx hpo made ds hl=>?_
  obtain ⟨l_script,l_k,l_many,rfl⟩:=len3 hl
  refine ⟨eJ t l_script l_k l_many,rfl,?_⟩
  show FL (bodyX P w K mg base ["_law_script", "_law_k", "_law_many", "_law_drawn"] "_law_pick" (defScope eO) f cdv A outer s H E) ⟨K,C,H,Z,E⟩ [vv l_script,vv l_k,vv l_many,nn] (defBody eO) JU (eJ t l_script l_k l_many)
  refine ak (S':=fun l_drawn=>[vv l_script,vv l_k,vv l_many,vv l_drawn]) (aE 3 kC.nd (k6 (cn bx.K (aI bx.K (af bx G.g_L_cell rfl (aa (ac 0) (aa (ac 1) ad))) (cn bx.K ae (aI bx.K (ac 1) ae))) ae) ae)) ?_ (fun l_drawn=>?_)
  rfl
  refine aw (ah (k6 (k6 (aI bx.K (cn bx.K (ac 3) (ac 3)) (kZ (ac 3) ae)) ae) (ac 2))) ?_
  rfl
theorem pZ {f:Addr} {fd:FuncData} (F:Fun K "_law_tree" "_law_tree" eQ f fd) (T:Txt K mg C w.params) (G:Tab P w K mg base C k t):FnOk P w K mg base (CXE P w) (k+1) f fd ["_law_script", "_law_at", "_law_size"] (spF K C 3 (a3 (dW t))):=by
  refine ao F kD fun cdv A outer s H Z E bx hpo made ds hl=>?_
  obtain ⟨l_script,l_at,l_size,rfl⟩:=len3 hl
  refine ⟨dW t l_script l_at l_size,rfl,?_⟩
  show FL (bodyX P w K mg base ["_law_script", "_law_at", "_law_size", "_law_way"] "_law_tree" (defScope eQ) f cdv A outer s H E) ⟨K,C,H,Z,E⟩ [vv l_script,vv l_at,vv l_size,nn] (defBody eQ) JU (dW t l_script l_at l_size)
  refine ak (S':=fun l_way=>[vv l_script,vv l_at,vv l_size,vv l_way]) (aE 3 kD.nd (af bx G.g_L_pick rfl (aa (ac 0) (aa (ac 1) (aa ae ad))))) ?_ (fun l_way=>?_)
  rfl
  refine av (inj:=fun (_:Unit) (w:Unit)=>[vv l_script,vv l_at,vv l_size,vv l_way]) (ay (ft_w (cy (cz bx (ac 2) ae) (cM (lL (ac 3) ae)))) ?_ ?_ ?_) (fun _ w=>?_)
  rfl
  · refine aw (ah (ag bx.K (aG (aa ae (aa ae (aa ae (aa ae (aa ae (aa (af bx G.g_L_pick rfl (aa (ac 0) (aa (aI bx.K (ac 1) ae) (aa ae ad)))) ad))))))) (af bx G.g_L_pick rfl (aa (ac 0) (aa (aI bx.K (ac 1) ae) (aa ae ad)))))) ?_
    rfl
  · exact al ⟨(),rfl⟩
  refine av (inj:=fun (_:Unit) (w1:Unit)=>[vv l_script,vv l_at,vv l_size,vv l_way]) (ay (cz bx (ac 3) ae) ?_ ?_ ?_) (fun _ w1=>?_)
  rfl
  · refine aw (ah (cn bx.K (aB (aa (af bx G.g_L_tree rfl (aa (ac 0) (aa (aI bx.K (ac 1) ae) (aa (e6 (ac 2) ae) ad)))) ad)) ae)) ?_
    rfl
  · exact al ⟨(),rfl⟩
  refine aw (ah (fe_N (bj bx rfl T.b_tuple (FAL.out (aa (fe_C (bv (N:=["_law_k", "_law_script", "_law_size", "_law_at"]) (own:=1) (cap:=[0,2,1]) bx (BlkOk.of (by kernel_rfl)) (jv (cW rfl T.b_range (FAL.out (aa ae ad)))) (bJ (by decide)) (fun _ _ _ _ _=>aA 0 (show List.Nodup (α:=Str) ["_law_k", "_law_script", "_law_size", "_law_at"] by decide +kernel)) (fun _ _ _ _ _=>(af (au bx) G.g_L_tree rfl (aa (ac 1) (aa (aI (au bx).K (aI (au bx).K (cn (au bx).K ae (ac 3)) ae) (cn (au bx).K ae (ac 0))) (aa (e6 (ac 2) ae) ad))))))) ad))))) ?_
  rfl
theorem ln {f:Addr} {fd:FuncData} (F:Fun K "_law_picture" "_law_picture" cG f fd) (T:Txt K mg C w.params) (G:Tab P w K mg base C k t):FnOk P w K mg base (CXE P w) (k+1) f fd ["_law_script", "_law_at", "_law_most"] (spF K C 3 (a3 (cD t))):=by
  refine ao F gK fun cdv A outer s H Z E bx hpo made ds hl=>?_
  obtain ⟨l_script,l_at,l_most,rfl⟩:=len3 hl
  refine ⟨cD t l_script l_at l_most,rfl,?_⟩
  show FL (bodyX P w K mg base ["_law_script", "_law_at", "_law_most", "_law_size"] "_law_picture" (defScope cG) f cdv A outer s H E) ⟨K,C,H,Z,E⟩ [vv l_script,vv l_at,vv l_most,nn] (defBody cG) JU (cD t l_script l_at l_most)
  refine ak (S':=fun l_size=>[vv l_script,vv l_at,vv l_most,vv l_size]) (aE 3 gK.nd (fe_N (tu bx rfl T.b_max (FAL.out (aa ae (aa (e6 (ac 2) (ag bx.K (aG (aa ae (aa ae (aa ae (aa ae (aa ae (aa ae (aa ae ad)))))))) (af bx G.g_L_pick rfl (aa (ac 0) (aa (ac 1) (aa ae ad)))))) ad)))))) ?_ (fun l_size=>?_)
  rfl
  refine aw (ah (aB (aa (ac 3) (aa (af bx G.g_L_tree rfl (aa (ac 0) (aa (aI bx.K (ac 1) ae) (aa (ac 3) ad)))) ad)))) ?_
  rfl
theorem lp {f:Addr} {fd:FuncData} (F:Fun K "_law_rows_of" "_law_rows_of" cH f fd) (T:Txt K mg C w.params) (G:Tab P w K mg base C k t):FnOk P w K mg base (CXE P w) (k+1) f fd ["_law_size", "_law_tree_here"] (spF K C 2 (a2 (b5 t))):=by
  refine ao F cR fun cdv A outer s H Z E bx hpo made ds hl=>?_
  obtain ⟨l_size,l_tree_here,rfl⟩:=len2 hl
  refine ⟨b5 t l_size l_tree_here,rfl,?_⟩
  show FL (bodyX P w K mg base ["_law_size", "_law_tree_here", "_law_parts", "_law_some", "_law_made", "_law_upper"] "_law_rows_of" (defScope cH) f cdv A outer s H E) ⟨K,C,H,Z,E⟩ [vv l_size,vv l_tree_here,nn,nn,nn,nn] (defBody cH) JU (b5 t l_size l_tree_here)
  refine av (inj:=fun (_:Unit) (w:Unit)=>[vv l_size,vv l_tree_here,nn,nn,nn,nn]) (ay (cz bx (ac 0) ae) ?_ ?_ ?_) (fun _ w=>?_)
  rfl
  · refine ax (ah (aG (aa (aG (aa (ac 1) ad)) ad))) ?_
    rfl
  · exact al ⟨(),rfl⟩
  refine ak (S':=fun l_parts=>[vv l_size,vv l_tree_here,vv l_parts,nn,nn,nn]) (aE 2 cR.nd (jh (aD (aj bx rfl T.b_isinstance bn (ac 1) (aC rfl T.b_tuple (by decide +kernel) rfl))) (ac 1) (cn bx.K (aB (aa (ac 1) ad)) ae))) ?_ (fun l_parts=>?_)
  rfl
  refine ak (S':=fun l_some=>[vv l_size,vv l_tree_here,vv l_parts,vv l_some,nn,nn]) (aE 3 cR.nd (fe_C (bv (N:=["_law_part", "_law_size"]) (own:=1) (cap:=[0]) bx (BlkOk.of (by kernel_rfl)) (aP bx.K (ac 2)) (bJ (by decide)) (fun _ _ _ _ _=>aA 0 (show List.Nodup (α:=Str) ["_law_part", "_law_size"] by decide +kernel)) (fun _ _ _ _ _=>(af (au bx) G.g_L_rows_of rfl (aa (e6 (ac 1) ae) (aa (ac 0) ad)))))) (hs:=by kernel_rfl)) ?_ (fun l_some=>?_)
  rfl
  refine bN (S':=[vv l_size,vv l_tree_here,vv l_parts,vv l_some,ow [],nn]) (fs_O (en 4 cR.nd (FAL.out ad))) ?_ ?_
  rfl
  refine av (inj:=fun (s:List D) (w1:Option Sl)=>[vv l_size,vv l_tree_here,vv l_parts,vv l_some,ow s,w1]) (bL 5 (B:=fun (s:List D) (w1:Option Sl) x1=>[vv l_size,vv l_tree_here,vv l_parts,vv l_some,ow s,vv x1]) nn hpo rfl (aP bx.K (aB (aa ae (aa ae ad)))) ?_ (aA 5 cR.nd) rfl (fun _ _ _=>rfl) (fun s w1 x1=>?_)) (fun l_made1 w2=>?_)
  rfl
  · refine ak (S':=fun l_made=>[vv l_size,vv l_tree_here,vv l_parts,vv l_some,ow l_made,vv x1]) (fs_X (cA 4 bx.K (FAL.out (aa (fe_C (bv (N:=["_law_k", "_law_some", "_law_upper"]) (own:=1) (cap:=[3,5]) bx (BlkOk.of (by kernel_rfl)) (jv (cW rfl T.b_range (FAL.out (aa (fe_N (cp bx rfl T.b_len (FAL.out (aa (ag bx.K (ac 3) (ac 5)) ad)))) ad)))) (bJ (by decide)) (fun _ _ _ _ _=>aA 0 (show List.Nodup (α:=Str) ["_law_k", "_law_some", "_law_upper"] by decide +kernel)) (fun _ _ _ _ _=>(aI (au bx).K (ag (au bx).K (ag (au bx).K (ac 1) (ac 2)) (ac 0)) (ag (au bx).K (ag (au bx).K (ac 1) (aI (au bx).K (ac 2) ae)) (ac 0)))))) ad)))) ?_ (fun l_made=>?_)
    rfl
    exact al ⟨vv x1,rfl⟩
  refine fe 4 (S':=[vv l_size,vv l_tree_here,vv l_parts,vv l_some,vv (.lst l_made1),w2]) rfl rfl ?_
  refine ax (ah (ac 4)) ?_
  rfl
theorem p6 {f:Addr} {fd:FuncData} (F:Fun K "_law_rows" "_law_rows" eR f fd) (T:Txt K mg C w.params) (G:Tab P w K mg base C k t):FnOk P w K mg base (CXE P w) (k+1) f fd ["_law_picture_here"] (spF K C 1 (a1 (eL t))):=by
  refine ao F pW fun cdv A outer s H Z E bx hpo made ds hl=>?_
  obtain ⟨l_picture_here,rfl⟩:=len1 hl
  refine ⟨eL t l_picture_here,rfl,?_⟩
  show FL (bodyX P w K mg base ["_law_picture_here"] "_law_rows" (defScope eR) f cdv A outer s H E) ⟨K,C,H,Z,E⟩ [vv l_picture_here] (defBody eR) JU (eL t l_picture_here)
  refine aw (ah (fe_N (bj bx rfl T.b_tuple (FAL.out (aa (fe_C (bv (N:=["_law_row"]) (own:=1) (cap:=[]) bx (BlkOk.of (by kernel_rfl)) (aP bx.K (af bx G.g_L_rows_of rfl (aa (ag bx.K (ac 0) ae) (aa (ag bx.K (ac 0) ae) ad)))) (bJ (by decide)) (fun _ _ _ _ _=>aA 0 (show List.Nodup (α:=Str) ["_law_row"] by decide +kernel)) (fun _ _ _ _ _=>(fe_N (bj (au bx) rfl T.b_tuple (FAL.out (aa (ac 0) ad))))))) ad))))) ?_
  rfl
theorem nM {f:Addr} {fd:FuncData} (F:Fun K "_law_least" "_law_least" dL f fd) (T:Txt K mg C w.params) (G:Tab P w K mg base C k t):FnOk P w K mg base (CXE P w) (k+1) f fd ["_law_rows_here"] (spF K C 1 (a1 (c6 t))):=by
  refine ao F cx fun cdv A outer s H Z E bx hpo made ds hl=>?_
  obtain ⟨l_rows_here,rfl⟩:=len1 hl
  refine ⟨c6 t l_rows_here,rfl,?_⟩
  show FL (bodyX P w K mg base ["_law_rows_here", "_law_worths", "_law_row", "_law_half", "_law_parts", "_law_top", "_law_left"] "_law_least" (defScope dL) f cdv A outer s H E) ⟨K,C,H,Z,E⟩ [vv l_rows_here,nn,nn,nn,nn,nn,nn] (defBody dL) JU (c6 t l_rows_here)
  refine bN (S':=[vv l_rows_here,ow [],nn,nn,nn,nn,nn]) (fs_O (en 1 cx.nd (FAL.out ad))) ?_ ?_
  rfl
  refine av (inj:=fun (s:List D) (w:Option Sl)=>[vv l_rows_here,ow s,w,nn,nn,nn,nn]) (bL 2 (B:=fun (s:List D) (w:Option Sl) x=>[vv l_rows_here,ow s,vv x,nn,nn,nn,nn]) nn hpo rfl (aP bx.K (ac 0)) ?_ (aA 2 cx.nd) rfl (fun _ _ _=>rfl) (fun s w x=>?_)) (fun l_worths1 w1=>?_)
  rfl
  · refine ak (S':=fun l_worths=>[vv l_rows_here,ow l_worths,vv x,nn,nn,nn,nn]) (fs_X (cA 1 bx.K (FAL.out (aa (ac 2) ad)))) ?_ (fun l_worths=>?_)
    rfl
    exact al ⟨vv x,rfl⟩
  refine fe 1 (S':=[vv l_rows_here,vv (.lst l_worths1),w1,nn,nn,nn,nn]) rfl rfl ?_
  refine av (inj:=fun (_:Unit) (w2:Unit)=>[vv l_rows_here,vv (.lst l_worths1),w1,nn,nn,nn,nn]) (ay (cz bx (fe_N (pP bx rfl T.b_len rfl T.b_set (FAL.out (aa (ac 1) ad)))) ae) ?_ ?_ ?_) (fun _ w2=>?_)
  rfl
  · refine aw (ah (ag bx.K (ac 1) ae)) ?_
    rfl
  · exact al ⟨(),rfl⟩
  refine ak (S':=fun l_half=>[vv l_rows_here,vv (.lst l_worths1),w1,vv l_half,nn,nn,nn]) (aE 3 cx.nd (kZ (fe_N (cp bx rfl T.b_len (FAL.out (aa (ac 0) ad)))) ae)) ?_ (fun l_half=>?_)
  rfl
  refine bN (S':=[vv l_rows_here,vv (.lst l_worths1),w1,vv l_half,ow [],nn,nn]) (fs_O (en 4 cx.nd (FAL.out ad))) ?_ ?_
  rfl
  refine av (inj:=fun (s1:List D) (w3:Option Sl×Option Sl)=>[vv l_rows_here,vv (.lst l_worths1),w1,vv l_half,ow s1,w3.1,w3.2]) (bL 5 (B:=fun (s1:List D) (w3:Option Sl×Option Sl) x3=>[vv l_rows_here,vv (.lst l_worths1),w1,vv l_half,ow s1,vv x3,w3.2]) (nn,nn) hpo rfl (aP bx.K (aB (aa ae (aa (ac 3) ad)))) ?_ (aA 5 cx.nd) rfl (fun _ _ _=>rfl) (fun s1 w3 x3=>?_)) (fun l_parts2 w6=>?_)
  rfl
  · refine av (inj:=fun (s2:List D) (w4:Option Sl)=>[vv l_rows_here,vv (.lst l_worths1),w1,vv l_half,ow s2,vv x3,w4]) (bL 6 (B:=fun (s2:List D) (w4:Option Sl) x4=>[vv l_rows_here,vv (.lst l_worths1),w1,vv l_half,ow s2,vv x3,vv x4]) w3.2 hpo rfl (aP bx.K (aB (aa ae (aa (ac 3) ad)))) ?_ (aA 6 cx.nd) rfl (fun _ _ _=>rfl) (fun s2 w4 x4=>?_)) (fun l_parts1 w5=>?_)
    rfl
    · refine ak (S':=fun l_parts=>[vv l_rows_here,vv (.lst l_worths1),w1,vv l_half,ow l_parts,vv x3,vv x4]) (fs_A (fN 4 (FAL.out (aa (af bx G.g_L_least rfl (aa (fe_C (bv (N:=["_law_row", "_law_left", "_law_half"]) (own:=1) (cap:=[6,3]) bx (BlkOk.of (by kernel_rfl)) (aP bx.K (e9 bx.K (ac 0) (dS (ac 5)) (dS (aI bx.K (ac 5) (ac 3))))) (bJ (by decide)) (fun _ _ _ _ _=>aA 0 (show List.Nodup (α:=Str) ["_law_row", "_law_left", "_law_half"] by decide +kernel)) (fun _ _ _ _ _=>(e9 (au bx).K (ac 0) (dS (ac 1)) (dS (aI (au bx).K (ac 1) (ac 2))))))) ad)) ad)))) ?_ (fun l_parts=>?_)
      rfl
      exact al ⟨vv x4,rfl⟩
    exact al ⟨(vv x3,w5),rfl⟩
  refine fe 4 (S':=[vv l_rows_here,vv (.lst l_worths1),w1,vv l_half,vv (.lst l_parts2),w6.1,w6.2]) rfl rfl ?_
  refine aw (ah (fe_N (bj bx rfl T.b_tuple (FAL.out (aa (ac 4) ad))))) ?_
  rfl
theorem tZ {f:Addr} {fd:FuncData} (F:Fun K "_law_of" "_law_of" ir f fd) (T:Txt K mg C w.params) (G:Tab P w K mg base C k t):FnOk P w K mg base (CXE P w) (k+1) f fd ["_law_rows_here"] (spF K C 1 (a1 (ii t))):=by
  refine ao F tY fun cdv A outer s H Z E bx hpo made ds hl=>?_
  obtain ⟨l_rows_here,rfl⟩:=len1 hl
  refine ⟨ii t l_rows_here,rfl,?_⟩
  show FL (bodyX P w K mg base ["_law_rows_here"] "_law_of" (defScope ir) f cdv A outer s H E) ⟨K,C,H,Z,E⟩ [vv l_rows_here] (defBody ir) JU (ii t l_rows_here)
  refine aw (ah (aB (aa (rE (pO bx (aG (aa ae (aa ae (aa ae (aa ae ad))))) (FAL.out (aa (fe_N (cp bx rfl T.b_len (FAL.out (aa (ac 0) ad)))) ad)))) (aa (af bx G.g_L_least rfl (aa (ac 0) ad)) ad)))) ?_
  rfl
theorem mw {f:Addr} {fd:FuncData} (F:Fun K "_law_places" "_law_places" dg f fd) (T:Txt K mg C w.params) (G:Tab P w K mg base C k t):FnOk P w K mg base (CXE P w) (k+1) f fd ["_law_thing"] (spF K C 1 (a1 (cw t))):=by
  refine ao F fK fun cdv A outer s H Z E bx hpo made ds hl=>?_
  obtain ⟨l_thing,rfl⟩:=len1 hl
  refine ⟨cw t l_thing,rfl,?_⟩
  show FL (bodyX P w K mg base ["_law_thing", "_law_made", "_law_k"] "_law_places" (defScope dg) f cdv A outer s H E) ⟨K,C,H,Z,E⟩ [vv l_thing,nn,nn] (defBody dg) JU (cw t l_thing)
  refine bN (S':=[vv l_thing,ow ([(.tup [])]),nn]) (fs_O (en 1 fK.nd (FAL.out (aa (aB ad) ad)))) ?_ ?_
  rfl
  refine av (inj:=fun (l_made2:List D) (w2:Option Sl)=>[vv l_thing,ow l_made2,w2]) (ay (aD (aj bx rfl T.b_isinstance bn (ac 0) (aC rfl T.b_tuple (by decide +kernel) rfl))) ?_ ?_ ?_) (fun l_made2 w2=>?_)
  rfl
  · refine av (inj:=fun (s:List D) (w:Option Sl)=>[vv l_thing,ow s,w]) (bL 2 (B:=fun (s:List D) (w:Option Sl) x1=>[vv l_thing,ow s,vv x1]) nn hpo rfl (jv (cW rfl T.b_range (FAL.out (aa (fe_N (cp bx rfl T.b_len (FAL.out (aa (ac 0) ad)))) ad)))) ?_ (aA 2 fK.nd) rfl (fun _ _ _=>rfl) (fun s w x1=>?_)) (fun l_made1 w1=>?_)
    rfl
    · refine ak (S':=fun l_made=>[vv l_thing,ow l_made,vv x1]) (fs_X (cA 1 bx.K (FAL.out (aa (fe_C (bv (N:=["_law_place", "_law_k"]) (own:=1) (cap:=[2]) bx (BlkOk.of (by kernel_rfl)) (aP bx.K (af bx G.g_L_places rfl (aa (ag bx.K (ac 0) (ac 2)) ad))) (bJ (by decide)) (fun _ _ _ _ _=>aA 0 (show List.Nodup (α:=Str) ["_law_place", "_law_k"] by decide +kernel)) (fun _ _ _ _ _=>(aI (au bx).K (aB (aa (ac 1) ad)) (ac 0))))) ad)))) ?_ (fun l_made=>?_)
      rfl
      exact al ⟨vv x1,rfl⟩
    exact al ⟨w1,rfl⟩
  · exact al ⟨nn,rfl⟩
  refine fe 1 (S':=[vv l_thing,vv (.lst l_made2),w2]) rfl rfl ?_
  refine ax (ah (ac 1)) ?_
  rfl
theorem rT {f:Addr} {fd:FuncData} (F:Fun K "_law_put" "_law_put" fQ f fd) (T:Txt K mg C w.params) (G:Tab P w K mg base C k t):FnOk P w K mg base (CXE P w) (k+1) f fd ["_law_thing", "_law_place", "_law_new"] (spF K C 3 (a3 (fi t))):=by
  refine ao F mt fun cdv A outer s H Z E bx hpo made ds hl=>?_
  obtain ⟨l_thing,l_place,l_new,rfl⟩:=len3 hl
  refine ⟨fi t l_thing l_place l_new,rfl,?_⟩
  show FL (bodyX P w K mg base ["_law_thing", "_law_place", "_law_new", "_law_k"] "_law_put" (defScope fQ) f cdv A outer s H E) ⟨K,C,H,Z,E⟩ [vv l_thing,vv l_place,vv l_new,nn] (defBody fQ) JU (fi t l_thing l_place l_new)
  refine av (inj:=fun (_:Unit) (w:Unit)=>[vv l_thing,vv l_place,vv l_new,nn]) (ay (cz bx (ac 1) (aB ad)) ?_ ?_ ?_) (fun _ w=>?_)
  rfl
  · refine ax (ah (ac 2)) ?_
    rfl
  · exact al ⟨(),rfl⟩
  refine ak (S':=fun l_k=>[vv l_thing,vv l_place,vv l_new,vv l_k]) (aE 3 mt.nd (ag bx.K (ac 1) ae)) ?_ (fun l_k=>?_)
  rfl
  refine aw (ah (aI bx.K (aI bx.K (e9 bx.K (ac 0) ri (dS (ac 3))) (aB (aa (af bx G.g_L_put rfl (aa (ag bx.K (ac 0) (ac 3)) (aa (e9 bx.K (ac 1) (dS ae) ri) (aa (ac 2) ad)))) ad))) (e9 bx.K (ac 0) (dS (aI bx.K (ac 3) ae)) ri))) ?_
  rfl
theorem nN {f:Addr} {fd:FuncData} (F:Fun K "_law_there" "_law_there" dM f fd) (T:Txt K mg C w.params) (G:Tab P w K mg base C k t):FnOk P w K mg base (CXE P w) (k+1) f fd ["_law_thing", "_law_place"] (spF K C 2 (a2 (dD t))):=by
  refine ao F gm fun cdv A outer s H Z E bx hpo made ds hl=>?_
  obtain ⟨l_thing,l_place,rfl⟩:=len2 hl
  refine ⟨dD t l_thing l_place,rfl,?_⟩
  show FL (bodyX P w K mg base ["_law_thing", "_law_place", "_law_k"] "_law_there" (defScope dM) f cdv A outer s H E) ⟨K,C,H,Z,E⟩ [vv l_thing,vv l_place,nn] (defBody dM) JU (dD t l_thing l_place)
  refine av (inj:=fun (s:D) (w:Option Sl)=>[vv s,vv l_place,w]) (bL 2 (B:=fun (s:D) (w:Option Sl) x=>[vv s,vv l_place,vv x]) nn hpo rfl (aP bx.K (ac 1)) ?_ (aA 2 gm.nd) rfl (fun _ _ _=>rfl) (fun s w x=>?_)) (fun l_thing2 w1=>?_)
  rfl
  · refine ak (S':=fun l_thing1=>[vv l_thing1,vv l_place,vv x]) (aE 0 gm.nd (ag bx.K (ac 0) (ac 2))) ?_ (fun l_thing1=>?_)
    rfl
    exact al ⟨vv x,rfl⟩
  refine ax (ah (ac 0)) ?_
  rfl
theorem gM {f:Addr} {fd:FuncData} (F:Fun K "_law_spoilt_thing" "_law_spoilt_thing" aZ f fd) (T:Txt K mg C w.params) (G:Tab P w K mg base C k t):FnOk P w K mg base (CXE P w) (k+1) f fd ["_law_script", "_law_at", "_law_thing"] (spF K C 3 (a3 (aX t))):=by
  refine ao F bo fun cdv A outer s H Z E bx hpo made ds hl=>?_
  obtain ⟨l_script,l_at,l_thing,rfl⟩:=len3 hl
  refine ⟨aX t l_script l_at l_thing,rfl,?_⟩
  show FL (bodyX P w K mg base ["_law_script", "_law_at", "_law_thing", "_law_places_here", "_law_place", "_law_here", "_law_some"] "_law_spoilt_thing" (defScope aZ) f cdv A outer s H E) ⟨K,C,H,Z,E⟩ [vv l_script,vv l_at,vv l_thing,nn,nn,nn,nn] (defBody aZ) JU (aX t l_script l_at l_thing)
  refine ak (S':=fun l_places_here=>[vv l_script,vv l_at,vv l_thing,vv l_places_here,nn,nn,nn]) (aE 3 bo.nd (af bx G.g_L_places rfl (aa (ac 2) ad))) ?_ (fun l_places_here=>?_)
  rfl
  refine ak (S':=fun l_place=>[vv l_script,vv l_at,vv l_thing,vv l_places_here,vv l_place,nn,nn]) (aE 4 bo.nd (ag bx.K (ac 3) (af bx G.g_L_pick rfl (aa (ac 0) (aa (ac 1) (aa (fe_N (cp bx rfl T.b_len (FAL.out (aa (ac 3) ad)))) ad)))))) ?_ (fun l_place=>?_)
  rfl
  refine ak (S':=fun l_here=>[vv l_script,vv l_at,vv l_thing,vv l_places_here,vv l_place,vv l_here,nn]) (aE 5 bo.nd (af bx G.g_L_there rfl (aa (ac 2) (aa (ac 4) ad)))) ?_ (fun l_here=>?_)
  rfl
  refine bN (S':=[vv l_script,vv l_at,vv l_thing,vv l_places_here,vv l_place,vv l_here,ow ([(.int (-1)),(.int 0),(.int 3),(.int 4),(.int 9),(.int 10),(.bl true),.non,(.str "1"),(.tup []),(.tup [(.int 1),(.int 2),(.int 3)]),(.tup [(.int 1),(.int 1),(.int 1),(.int 1)]),(.tup [(.int 1),(.int 2),(.int 3),(.int 4),(.int 5)])])]) (fs_O (en 6 bo.nd (FAL.out (aa (vn ae) (aa ae (aa ae (aa ae (aa ae (aa ae (aa cL (aa cu (aa bI (aa (aB ad) (aa (aB (aa ae (aa ae (aa ae ad)))) (aa (aB (aa ae (aa ae (aa ae (aa ae ad))))) (aa (aB (aa ae (aa ae (aa ae (aa ae (aa ae ad)))))) ad)))))))))))))))) ?_ ?_
  rfl
  refine ak (S':=fun l_some=>[vv l_script,vv l_at,vv l_thing,vv l_places_here,vv l_place,vv l_here,ow l_some]) (fs_X (cA 6 bx.K (FAL.out (aa (aG (aa (aG (aa ae (aa ae (aa ae (aa ae ad))))) (aa (cn bx.K (aB (aa (ac 5) ad)) ae) ad))) ad)))) ?_ (fun l_some=>?_)
  rfl
  refine aw (ah (af bx G.g_L_put rfl (aa (ac 2) (aa (ac 4) (aa (rq 6 bx.K (af bx G.g_L_pick rfl (aa (ac 0) (aa (aI bx.K (ac 1) ae) (aa ae ad))))) ad))))) ?_
  rfl
theorem iX {f:Addr} {fd:FuncData} (F:Fun K "_law_is_picture" "_law_is_picture" bF f fd) (T:Txt K mg C w.params) (G:Tab P w K mg base C k t):FnOk P w K mg base (CXE P w) (k+1) f fd ["_law_thing"] (spF K C 1 (a1 (bB t))):=by
  refine ao F iT fun cdv A outer s H Z E bx hpo made ds hl=>?_
  obtain ⟨l_thing,rfl⟩:=len1 hl
  refine ⟨bB t l_thing,rfl,?_⟩
  show FL (bodyX P w K mg base ["_law_thing"] "_law_is_picture" (defScope bF) f cdv A outer s H E) ⟨K,C,H,Z,E⟩ [vv l_thing] (defBody bF) JU (bB t l_thing)
  refine av (inj:=fun (_:Unit) (w:Unit)=>[vv l_thing]) (ay (ft_w (cy (aV (aD (aj bx rfl T.b_isinstance bn (ac 0) (aC rfl T.b_tuple (by decide +kernel) rfl)))) (cy (cP bx (fe_N (cp bx rfl T.b_len (FAL.out (aa (ac 0) ad)))) ae) (cy (aV (aD (aj bx rfl T.b_isinstance gA (ag bx.K (ac 0) ae) (aC rfl T.b_int (by decide +kernel) rfl)))) (cM (aD (aj bx rfl T.b_isinstance eG (ag bx.K (ac 0) ae) (aC rfl T.b_bool (by decide +kernel) rfl)))))))) ?_ ?_ ?_) (fun _ w=>?_)
  rfl
  · refine ax (ah cL) ?_
    rfl
  · exact al ⟨(),rfl⟩
  refine aw (ah (g9 (gz ae (ag bx.K (ac 0) ae) ae) (f9 (af bx G.g_L_is_tree rfl (aa (ag bx.K (ac 0) ae) (aa (ag bx.K (ac 0) ae) ad)))))) ?_
  rfl
theorem lq {f:Addr} {fd:FuncData} (F:Fun K "_law_is_tree" "_law_is_tree" cI f fd) (T:Txt K mg C w.params) (G:Tab P w K mg base C k t):FnOk P w K mg base (CXE P w) (k+1) f fd ["_law_thing", "_law_size"] (spF K C 2 (a2 (b8 t))):=by
  refine ao F lj fun cdv A outer s H Z E bx hpo made ds hl=>?_
  obtain ⟨l_thing,l_size,rfl⟩:=len2 hl
  refine ⟨b8 t l_thing l_size,rfl,?_⟩
  show FL (bodyX P w K mg base ["_law_thing", "_law_size"] "_law_is_tree" (defScope cI) f cdv A outer s H E) ⟨K,C,H,Z,E⟩ [vv l_thing,vv l_size] (defBody cI) JU (b8 t l_thing l_size)
  refine av (inj:=fun (_:Unit) (w:Unit)=>[vv l_thing,vv l_size]) (ay (ft_w (dQ (aD (aj bx rfl T.b_isinstance gA (ac 0) (aC rfl T.b_int (by decide +kernel) rfl))) (dn (aV (aD (aj bx rfl T.b_isinstance eG (ac 0) (aC rfl T.b_bool (by decide +kernel) rfl))))))) ?_ ?_ ?_) (fun _ w=>?_)
  rfl
  · refine aw (ah (gz ae (ac 0) ae)) ?_
    rfl
  · exact al ⟨(),rfl⟩
  refine av (inj:=fun (_:Unit) (w1:Unit)=>[vv l_thing,vv l_size]) (ay (ft_w (cy (aV (aD (aj bx rfl T.b_isinstance bn (ac 0) (aC rfl T.b_tuple (by decide +kernel) rfl)))) (cy (cP bx (fe_N (cp bx rfl T.b_len (FAL.out (aa (ac 0) ad)))) ae) (cM (cz bx (ac 1) ae))))) ?_ ?_ ?_) (fun _ w1=>?_)
  rfl
  · refine ax (ah cL) ?_
    rfl
  · exact al ⟨(),rfl⟩
  refine aw (ah (q0 bx (fe_C (hZ (N:=["_law_part", "_law_size"]) (own:=1) (cap:=[1]) bx (BlkOk.of (by kernel_rfl)) (aP bx.K (ac 0)) (bJ (by decide)) (fun _ _ _ _ _=>aA 0 (show List.Nodup (α:=Str) ["_law_part", "_law_size"] by decide +kernel)) (fun _ _ _ _ _=>(aV (aD (af (au bx) G.g_L_is_tree rfl (aa (ac 0) (aa (e6 (ac 1) ae) ad)))))) (fun _ _ _ _ _=>(ac 0)))) (aG ad))) ?_
  rfl
theorem jK {f:Addr} {fd:FuncData} (F:Fun K "_law_is_change" "_law_is_change" bV f fd) (T:Txt K mg C w.params) (G:Tab P w K mg base C k t):FnOk P w K mg base (CXE P w) (k+1) f fd ["_law_thing"] (spF K C 1 (a1 (bQ t))):=by
  refine ao F jF fun cdv A outer s H Z E bx hpo made ds hl=>?_
  obtain ⟨l_thing,rfl⟩:=len1 hl
  refine ⟨bQ t l_thing,rfl,?_⟩
  show FL (bodyX P w K mg base ["_law_thing"] "_law_is_change" (defScope bV) f cdv A outer s H E) ⟨K,C,H,Z,E⟩ [vv l_thing] (defBody bV) JU (bQ t l_thing)
  refine av (inj:=fun (_:Unit) (w:Unit)=>[vv l_thing]) (ay (ft_w (cy (aV (aD (aj bx rfl T.b_isinstance bn (ac 0) (aC rfl T.b_tuple (by decide +kernel) rfl)))) (cy (cP bx (fe_N (cp bx rfl T.b_len (FAL.out (aa (ac 0) ad)))) ae) (cy (aV (aD (aj bx rfl T.b_isinstance gA (ag bx.K (ac 0) ae) (aC rfl T.b_int (by decide +kernel) rfl)))) (cM (aD (aj bx rfl T.b_isinstance eG (ag bx.K (ac 0) ae) (aC rfl T.b_bool (by decide +kernel) rfl)))))))) ?_ ?_ ?_) (fun _ w=>?_)
  rfl
  · refine ax (ah cL) ?_
    rfl
  · exact al ⟨(),rfl⟩
  refine aw (ah (g9 (gz ae (ag bx.K (ac 0) ae) ae) (f9 (af bx G.g_L_is_change_tree rfl (aa (ag bx.K (ac 0) ae) (aa (ag bx.K (ac 0) ae) ad)))))) ?_
  rfl
theorem fV {f:Addr} {fd:FuncData} (F:Fun K "_law_is_change_tree" "_law_is_change_tree" aR f fd) (T:Txt K mg C w.params) (G:Tab P w K mg base C k t):FnOk P w K mg base (CXE P w) (k+1) f fd ["_law_thing", "_law_size"] (spF K C 2 (a2 (aJ t))):=by
  refine ao F fU fun cdv A outer s H Z E bx hpo made ds hl=>?_
  obtain ⟨l_thing,l_size,rfl⟩:=len2 hl
  refine ⟨aJ t l_thing l_size,rfl,?_⟩
  show FL (bodyX P w K mg base ["_law_thing", "_law_size"] "_law_is_change_tree" (defScope aR) f cdv A outer s H E) ⟨K,C,H,Z,E⟩ [vv l_thing,vv l_size] (defBody aR) JU (aJ t l_thing l_size)
  refine av (inj:=fun (_:Unit) (w:Unit)=>[vv l_thing,vv l_size]) (ay (ft_w (cy (oC (ac 0) cu) (cM (ft_w (dQ (aD (aj bx rfl T.b_isinstance gA (ac 0) (aC rfl T.b_int (by decide +kernel) rfl))) (dQ (aV (aD (aj bx rfl T.b_isinstance eG (ac 0) (aC rfl T.b_bool (by decide +kernel) rfl)))) (dn (tt ae (ac 0) ae)))))))) ?_ ?_ ?_) (fun _ w=>?_)
  rfl
  · refine ax (ah cL) ?_
    rfl
  · exact al ⟨(),rfl⟩
  refine av (inj:=fun (_:Unit) (w1:Unit)=>[vv l_thing,vv l_size]) (ay (ft_w (cy (aV (aD (aj bx rfl T.b_isinstance bn (ac 0) (aC rfl T.b_tuple (by decide +kernel) rfl)))) (cy (cP bx (fe_N (cp bx rfl T.b_len (FAL.out (aa (ac 0) ad)))) ae) (cM (cz bx (ac 1) ae))))) ?_ ?_ ?_) (fun _ w1=>?_)
  rfl
  · refine ax (ah cL) ?_
    rfl
  · exact al ⟨(),rfl⟩
  refine aw (ah (q0 bx (fe_C (hZ (N:=["_law_part", "_law_size"]) (own:=1) (cap:=[1]) bx (BlkOk.of (by kernel_rfl)) (aP bx.K (ac 0)) (bJ (by decide)) (fun _ _ _ _ _=>aA 0 (show List.Nodup (α:=Str) ["_law_part", "_law_size"] by decide +kernel)) (fun _ _ _ _ _=>(aV (aD (af (au bx) G.g_L_is_change_tree rfl (aa (ac 0) (aa (e6 (ac 1) ae) ad)))))) (fun _ _ _ _ _=>(ac 0)))) (aG ad))) ?_
  rfl
theorem iy {f:Addr} {fd:FuncData} (F:Fun K "_law_change_tree" "_law_change_tree" bg f fd) (T:Txt K mg C w.params) (G:Tab P w K mg base C k t):FnOk P w K mg base (CXE P w) (k+1) f fd ["_law_script", "_law_at", "_law_size"] (spF K C 3 (a3 (aT t))):=by
  refine ao F eT fun cdv A outer s H Z E bx hpo made ds hl=>?_
  obtain ⟨l_script,l_at,l_size,rfl⟩:=len3 hl
  refine ⟨aT t l_script l_at l_size,rfl,?_⟩
  show FL (bodyX P w K mg base ["_law_script", "_law_at", "_law_size", "_law_way"] "_law_change_tree" (defScope bg) f cdv A outer s H E) ⟨K,C,H,Z,E⟩ [vv l_script,vv l_at,vv l_size,nn] (defBody bg) JU (aT t l_script l_at l_size)
  refine ak (S':=fun l_way=>[vv l_script,vv l_at,vv l_size,vv l_way]) (aE 3 eT.nd (af bx G.g_L_pick rfl (aa (ac 0) (aa (ac 1) (aa ae ad))))) ?_ (fun l_way=>?_)
  rfl
  refine av (inj:=fun (_:Unit) (w:Unit)=>[vv l_script,vv l_at,vv l_size,vv l_way]) (ay (ft_w (cy (lL (ac 3) ae) (cM (ft_w (dQ (cz bx (ac 2) ae) (dn (lL (ac 3) ae))))))) ?_ ?_ ?_) (fun _ w=>?_)
  rfl
  · refine ax (ah cu) ?_
    rfl
  · exact al ⟨(),rfl⟩
  refine av (inj:=fun (_:Unit) (w1:Unit)=>[vv l_script,vv l_at,vv l_size,vv l_way]) (ay (ft_w (cy (cz bx (ac 2) ae) (cM (cz bx (ac 3) ae)))) ?_ ?_ ?_) (fun _ w1=>?_)
  rfl
  · refine aw (ah (ag bx.K (aG (aa ae (aa ae (aa ae (aa (af bx G.g_L_pick rfl (aa (ac 0) (aa (aI bx.K (ac 1) ae) (aa ae ad)))) ad))))) (af bx G.g_L_pick rfl (aa (ac 0) (aa (aI bx.K (ac 1) ae) (aa ae ad)))))) ?_
    rfl
  · exact al ⟨(),rfl⟩
  refine aw (ah (fe_N (bj bx rfl T.b_tuple (FAL.out (aa (fe_C (bv (N:=["_law_k", "_law_script", "_law_size", "_law_at"]) (own:=1) (cap:=[0,2,1]) bx (BlkOk.of (by kernel_rfl)) (jv (cW rfl T.b_range (FAL.out (aa ae ad)))) (bJ (by decide)) (fun _ _ _ _ _=>aA 0 (show List.Nodup (α:=Str) ["_law_k", "_law_script", "_law_size", "_law_at"] by decide +kernel)) (fun _ _ _ _ _=>(af (au bx) G.g_L_change_tree rfl (aa (ac 1) (aa (aI (au bx).K (aI (au bx).K (cn (au bx).K ae (ac 3)) ae) (cn (au bx).K ae (ac 0))) (aa (e6 (ac 2) ae) ad))))))) ad))))) ?_
  rfl
theorem rV {f:Addr} {fd:FuncData} (F:Fun K "_law_set" "_law_set" fR f fd) (T:Txt K mg C w.params) (G:Tab P w K mg base C k t):FnOk P w K mg base (CXE P w) (k+1) f fd ["_law_size", "_law_tree_here"] (spF K C 2 (a2 (fk t))):=by
  refine ao F fL fun cdv A outer s H Z E bx hpo made ds hl=>?_
  obtain ⟨l_size,l_tree_here,rfl⟩:=len2 hl
  refine ⟨fk t l_size l_tree_here,rfl,?_⟩
  show FL (bodyX P w K mg base ["_law_size", "_law_tree_here", "_law_parts", "_law_some", "_law_made", "_law_upper"] "_law_set" (defScope fR) f cdv A outer s H E) ⟨K,C,H,Z,E⟩ [vv l_size,vv l_tree_here,nn,nn,nn,nn] (defBody fR) JU (fk t l_size l_tree_here)
  refine av (inj:=fun (_:Unit) (w:Unit)=>[vv l_size,vv l_tree_here,nn,nn,nn,nn]) (ay (cz bx (ac 0) ae) ?_ ?_ ?_) (fun _ w=>?_)
  rfl
  · refine ax (ah (aG (aa (aG (aa (ac 1) ad)) ad))) ?_
    rfl
  · exact al ⟨(),rfl⟩
  refine ak (S':=fun l_parts=>[vv l_size,vv l_tree_here,vv l_parts,nn,nn,nn]) (aE 2 fL.nd (jh (aD (aj bx rfl T.b_isinstance bn (ac 1) (aC rfl T.b_tuple (by decide +kernel) rfl))) (ac 1) (cn bx.K (aB (aa (ac 1) ad)) ae))) ?_ (fun l_parts=>?_)
  rfl
  refine ak (S':=fun l_some=>[vv l_size,vv l_tree_here,vv l_parts,vv l_some,nn,nn]) (aE 3 fL.nd (fe_C (bv (N:=["_law_part", "_law_size"]) (own:=1) (cap:=[0]) bx (BlkOk.of (by kernel_rfl)) (aP bx.K (ac 2)) (bJ (by decide)) (fun _ _ _ _ _=>aA 0 (show List.Nodup (α:=Str) ["_law_part", "_law_size"] by decide +kernel)) (fun _ _ _ _ _=>(af (au bx) G.g_L_set rfl (aa (e6 (ac 1) ae) (aa (ac 0) ad)))))) (hs:=by kernel_rfl)) ?_ (fun l_some=>?_)
  rfl
  refine bN (S':=[vv l_size,vv l_tree_here,vv l_parts,vv l_some,ow [],nn]) (fs_O (en 4 fL.nd (FAL.out ad))) ?_ ?_
  rfl
  refine av (inj:=fun (s:List D) (w1:Option Sl)=>[vv l_size,vv l_tree_here,vv l_parts,vv l_some,ow s,w1]) (bL 5 (B:=fun (s:List D) (w1:Option Sl) x1=>[vv l_size,vv l_tree_here,vv l_parts,vv l_some,ow s,vv x1]) nn hpo rfl (aP bx.K (aB (aa ae (aa ae ad)))) ?_ (aA 5 fL.nd) rfl (fun _ _ _=>rfl) (fun s w1 x1=>?_)) (fun l_made1 w2=>?_)
  rfl
  · refine ak (S':=fun l_made=>[vv l_size,vv l_tree_here,vv l_parts,vv l_some,ow l_made,vv x1]) (fs_X (cA 4 bx.K (FAL.out (aa (fe_C (bv (N:=["_law_k", "_law_some", "_law_upper"]) (own:=1) (cap:=[3,5]) bx (BlkOk.of (by kernel_rfl)) (jv (cW rfl T.b_range (FAL.out (aa (fe_N (cp bx rfl T.b_len (FAL.out (aa (ag bx.K (ac 3) (ac 5)) ad)))) ad)))) (bJ (by decide)) (fun _ _ _ _ _=>aA 0 (show List.Nodup (α:=Str) ["_law_k", "_law_some", "_law_upper"] by decide +kernel)) (fun _ _ _ _ _=>(aI (au bx).K (ag (au bx).K (ag (au bx).K (ac 1) (ac 2)) (ac 0)) (ag (au bx).K (ag (au bx).K (ac 1) (aI (au bx).K (ac 2) ae)) (ac 0)))))) ad)))) ?_ (fun l_made=>?_)
    rfl
    exact al ⟨vv x1,rfl⟩
  refine fe 4 (S':=[vv l_size,vv l_tree_here,vv l_parts,vv l_some,vv (.lst l_made1),w2]) rfl rfl ?_
  refine ax (ah (ac 4)) ?_
  rfl
theorem jL {f:Addr} {fd:FuncData} (F:Fun K "_law_least_set" "_law_least_set" bW f fd) (T:Txt K mg C w.params) (G:Tab P w K mg base C k t):FnOk P w K mg base (CXE P w) (k+1) f fd ["_law_rows_here"] (spF K C 1 (a1 (bt t))):=by
  refine ao F ba fun cdv A outer s H Z E bx hpo made ds hl=>?_
  obtain ⟨l_rows_here,rfl⟩:=len1 hl
  refine ⟨bt t l_rows_here,rfl,?_⟩
  show FL (bodyX P w K mg base ["_law_rows_here", "_law_every", "_law_row", "_law_half", "_law_parts", "_law_top", "_law_left"] "_law_least_set" (defScope bW) f cdv A outer s H E) ⟨K,C,H,Z,E⟩ [vv l_rows_here,nn,nn,nn,nn,nn,nn] (defBody bW) JU (bt t l_rows_here)
  refine bN (S':=[vv l_rows_here,ow [],nn,nn,nn,nn,nn]) (fs_O (en 1 ba.nd (FAL.out ad))) ?_ ?_
  rfl
  refine av (inj:=fun (s:List D) (w:Option Sl)=>[vv l_rows_here,ow s,w,nn,nn,nn,nn]) (bL 2 (B:=fun (s:List D) (w:Option Sl) x=>[vv l_rows_here,ow s,vv x,nn,nn,nn,nn]) nn hpo rfl (aP bx.K (ac 0)) ?_ (aA 2 ba.nd) rfl (fun _ _ _=>rfl) (fun s w x=>?_)) (fun l_every1 w1=>?_)
  rfl
  · refine ak (S':=fun l_every=>[vv l_rows_here,ow l_every,vv x,nn,nn,nn,nn]) (fs_X (cA 1 bx.K (FAL.out (aa (ac 2) ad)))) ?_ (fun l_every=>?_)
    rfl
    exact al ⟨vv x,rfl⟩
  refine fe 1 (S':=[vv l_rows_here,vv (.lst l_every1),w1,nn,nn,nn,nn]) rfl rfl ?_
  refine av (inj:=fun (_:Unit) (w2:Unit)=>[vv l_rows_here,vv (.lst l_every1),w1,nn,nn,nn,nn]) (ay (cz bx (fe_C (hZ (N:=["_law_one", "_law_every"]) (own:=1) (cap:=[1]) bx (BlkOk.of (by kernel_rfl)) (aP bx.K (ac 1)) (bJ (by decide)) (fun _ _ _ _ _=>aA 0 (show List.Nodup (α:=Str) ["_law_one", "_law_every"] by decide +kernel)) (fun _ _ _ _ _=>(cP (au bx) (ac 0) (ag (au bx).K (ac 1) ae))) (fun _ _ _ _ _=>(ac 0)))) (aG ad)) ?_ ?_ ?_) (fun _ w2=>?_)
  rfl
  · refine aw (ah (ag bx.K (ac 1) ae)) ?_
    rfl
  · exact al ⟨(),rfl⟩
  refine ak (S':=fun l_half=>[vv l_rows_here,vv (.lst l_every1),w1,vv l_half,nn,nn,nn]) (aE 3 ba.nd (kZ (fe_N (cp bx rfl T.b_len (FAL.out (aa (ac 0) ad)))) ae)) ?_ (fun l_half=>?_)
  rfl
  refine bN (S':=[vv l_rows_here,vv (.lst l_every1),w1,vv l_half,ow [],nn,nn]) (fs_O (en 4 ba.nd (FAL.out ad))) ?_ ?_
  rfl
  refine av (inj:=fun (s1:List D) (w3:Option Sl×Option Sl)=>[vv l_rows_here,vv (.lst l_every1),w1,vv l_half,ow s1,w3.1,w3.2]) (bL 5 (B:=fun (s1:List D) (w3:Option Sl×Option Sl) x4=>[vv l_rows_here,vv (.lst l_every1),w1,vv l_half,ow s1,vv x4,w3.2]) (nn,nn) hpo rfl (aP bx.K (aB (aa ae (aa (ac 3) ad)))) ?_ (aA 5 ba.nd) rfl (fun _ _ _=>rfl) (fun s1 w3 x4=>?_)) (fun l_parts2 w6=>?_)
  rfl
  · refine av (inj:=fun (s2:List D) (w4:Option Sl)=>[vv l_rows_here,vv (.lst l_every1),w1,vv l_half,ow s2,vv x4,w4]) (bL 6 (B:=fun (s2:List D) (w4:Option Sl) x5=>[vv l_rows_here,vv (.lst l_every1),w1,vv l_half,ow s2,vv x4,vv x5]) w3.2 hpo rfl (aP bx.K (aB (aa ae (aa (ac 3) ad)))) ?_ (aA 6 ba.nd) rfl (fun _ _ _=>rfl) (fun s2 w4 x5=>?_)) (fun l_parts1 w5=>?_)
    rfl
    · refine ak (S':=fun l_parts=>[vv l_rows_here,vv (.lst l_every1),w1,vv l_half,ow l_parts,vv x4,vv x5]) (fs_A (fN 4 (FAL.out (aa (af bx G.g_L_least_set rfl (aa (fe_C (bv (N:=["_law_row", "_law_left", "_law_half"]) (own:=1) (cap:=[6,3]) bx (BlkOk.of (by kernel_rfl)) (aP bx.K (e9 bx.K (ac 0) (dS (ac 5)) (dS (aI bx.K (ac 5) (ac 3))))) (bJ (by decide)) (fun _ _ _ _ _=>aA 0 (show List.Nodup (α:=Str) ["_law_row", "_law_left", "_law_half"] by decide +kernel)) (fun _ _ _ _ _=>(e9 (au bx).K (ac 0) (dS (ac 1)) (dS (aI (au bx).K (ac 1) (ac 2))))))) ad)) ad)))) ?_ (fun l_parts=>?_)
      rfl
      exact al ⟨vv x5,rfl⟩
    exact al ⟨(vv x4,w5),rfl⟩
  refine fe 4 (S':=[vv l_rows_here,vv (.lst l_every1),w1,vv l_half,vv (.lst l_parts2),w6.1,w6.2]) rfl rfl ?_
  refine aw (ah (fe_N (bj bx rfl T.b_tuple (FAL.out (aa (ac 4) ad))))) ?_
  rfl
theorem p7 {f:Addr} {fd:FuncData} (F:Fun K "_law_word" "_law_word" eU f fd) (T:Txt K mg C w.params) (G:Tab P w K mg base C k t):FnOk P w K mg base (CXE P w) (k+1) f fd ["_law_kept"] (spF K C 1 (a1 (dj t))):=by
  refine ao F iu fun cdv A outer s H Z E bx hpo made ds hl=>?_
  obtain ⟨l_kept,rfl⟩:=len1 hl
  refine ⟨dj t l_kept,rfl,?_⟩
  show FL (bodyX P w K mg base ["_law_kept", "_law_kinds", "_law_words"] "_law_word" (defScope eU) f cdv A outer s H E) ⟨K,C,H,Z,E⟩ [vv l_kept,nn,nn] (defBody eU) JU (dj t l_kept)
  refine ak (S':=fun l_kinds=>[vv l_kept,ow l_kinds,nn]) (fs_O (en 1 iu.nd (FAL.out (aa (aj bx rfl T.b_isinstance T.i_BadBox (ac 0) (cq rfl T.c_BadBox rfl)) (aa (aj bx rfl T.b_isinstance T.i_NoBlocks (ac 0) (cq rfl T.c_NoBlocks rfl)) (aa (aj bx rfl T.b_isinstance T.i_NoChange (ac 0) (cq rfl T.c_NoChange rfl)) ad)))))) ?_ (fun l_kinds=>?_)
  rfl
  refine ak (S':=fun l_kinds1=>[vv l_kept,ow l_kinds1,nn]) (fs_A (fN 1 (FAL.out (aa (aj bx rfl T.b_isinstance T.i_NoNumber (ac 0) (cq rfl T.c_NoNumber rfl)) ad)))) ?_ (fun l_kinds1=>?_)
  rfl
  refine ak (S':=fun l_kinds2=>[vv l_kept,ow l_kinds2,nn]) (fs_X (cA 1 bx.K (FAL.out (aa (aG (aa (aj bx rfl T.b_isinstance T.i_NoPicture (ac 0) (cq rfl T.c_NoPicture rfl)) (aa (aj bx rfl T.b_isinstance T.i_NoRule (ac 0) (cq rfl T.c_NoRule rfl)) (aa (aj bx rfl T.b_isinstance T.i_NoSpot (ac 0) (cq rfl T.c_NoSpot rfl)) ad)))) ad)))) ?_ (fun l_kinds2=>?_)
  rfl
  refine ak (S':=fun l_kinds3=>[vv l_kept,ow l_kinds3,nn]) (fs_X (cA 1 bx.K (FAL.out (aa (aG (aa (aj bx rfl T.b_isinstance T.i_NoText (ac 0) (cq rfl T.c_NoText rfl)) (aa (aj bx rfl T.b_isinstance T.i_NothingDone (ac 0) (cq rfl T.c_NothingDone rfl)) (aa (aj bx rfl T.b_isinstance T.i_Unlike (ac 0) (cq rfl T.c_Unlike rfl)) ad)))) ad)))) ?_ (fun l_kinds3=>?_)
  rfl
  refine fe 1 (S':=[vv l_kept,vv (.lst l_kinds3),nn]) rfl rfl ?_
  refine av (inj:=fun (_:Unit) (w:Unit)=>[vv l_kept,vv (.lst l_kinds3),nn]) (ay (ft_w (cy (cP bx (rE (ro bx (ac 1) (FAL.out (aa cL ad)))) ae) (cM (aV (aD (aj bx rfl T.b_isinstance T.i_ValueError (ac 0) (aC rfl T.b_ValueError (by decide +kernel) rfl))))))) ?_ ?_ ?_) (fun _ w=>?_)
  rfl
  · refine ax (ah bI) ?_
    rfl
  · exact al ⟨(),rfl⟩
  refine bN (S':=[vv l_kept,vv (.lst l_kinds3),vv (.lst [(.str "bad box"),(.str "no blocks"),(.str "no change"),(.str "no number"),(.str "no picture"),(.str "no rule"),(.str "no spot"),(.str "no text")])]) (aE 2 iu.nd (aG (aa bI (aa bI (aa bI (aa bI (aa bI (aa bI (aa bI (aa bI ad)))))))))) ?_ ?_
  rfl
  refine aw (ah (ag bx.K (aI bx.K (ac 2) (aG (aa bI (aa bI ad)))) (rE (pH bx (ac 1) (FAL.out (aa cL ad)))))) ?_
  rfl
theorem p9 {f:Addr} {fd:FuncData} (F:Fun K "_law_do" "_law_do" eV f fd) (T:Txt K mg C w.params) (G:Tab P w K mg base C k t):FnOk P w K mg base (CXE P w) (k+1) f fd ["_law_what", "_law_one", "_law_other"] (spF K C 3 (a3 (cQ t))):=by
  refine ao F dN fun cdv A outer s H Z E bx hpo made ds hl=>?_
  obtain ⟨l_what,l_one,l_other,rfl⟩:=len3 hl
  refine ⟨cQ t l_what l_one l_other,rfl,?_⟩
  show FL (bodyX P w K mg base ["_law_what", "_law_one", "_law_other", "_law_kept", "_law_answer", "e"] "_law_do" (defScope eV) f cdv A outer s H E) ⟨K,C,H,Z,E⟩ [vv l_what,vv l_one,vv l_other,nn,nn,nn] (defBody eV) JU (cQ t l_what l_one l_other)
  refine bN (S':=[vv l_what,vv l_one,vv l_other,vv .non,nn,nn]) (aE 3 dN.nd cu) ?_ ?_
  rfl
  refine bN (S':=[vv l_what,vv l_one,vv l_other,vv .non,vv .non,nn]) (aE 4 dN.nd cu) ?_ ?_
  rfl
  refine vz 5 3 (B:=fun k=>[nn,nn,nn,vv (.exc k),nn,nn]) (tO 5 3 (inj:=fun (l_answer2:D) (w:Unit)=>[vv l_what,vv l_one,vv l_other,vv .non,vv l_answer2,nn]) bx (by decide) rfl rfl rfl dN.nd rfl T.c_FourError T.takes (fun pn xe H0 Z0 E bx=>?_)) (fun _=>rfl) (fun l_answer2 w=>?_) (fun k=>?_)
  · refine ju (ay (lL (ac 0) ae) ?_ ?_ ?_)
    rfl
    · refine ak (S':=fun l_answer=>[vv l_what,vv l_one,vv l_other,vv .non,vv l_answer,nn]) (aE 4 dN.nd (jh (cz bx (ac 0) ae) (af bx G.g_between rfl (aa (ac 1) (aa (ac 2) ad))) (af bx G.g_changed rfl (aa (ac 1) (aa (ac 2) ad))))) ?_ (fun l_answer=>?_)
      rfl
      exact al ⟨(),rfl⟩
    · refine ak (S':=fun l_answer1=>[vv l_what,vv l_one,vv l_other,vv .non,vv l_answer1,nn]) (aE 4 dN.nd (af bx G.g_lean_change rfl (aa (ac 1) ad))) ?_ (fun l_answer1=>?_)
      rfl
      exact al ⟨(),rfl⟩
  · refine av (inj:=fun (_:Unit) (w1:Unit)=>[vv l_what,vv l_one,vv l_other,vv .non,vv l_answer2,nn]) (ay (oC (ac 3) cu) ?_ ?_ ?_) (fun _ w1=>?_)
    rfl
    · refine ax (ah (ac 4)) ?_
      rfl
    · exact al ⟨(),rfl⟩
    refine aw (ah (af bx G.g_L_word rfl (aa (ac 3) ad))) ?_
    rfl
  · refine av (inj:=fun (_:Unit) (w2:Unit)=>[nn,nn,nn,vv (.exc k),nn,nn]) (ay (oC (ac 3) cu) ?_ ?_ ?_) (fun _ w2=>?_)
    rfl
    · refine aw (ah (ac 4)) ?_
      rfl
    · exact al ⟨(),rfl⟩
    refine aw (ah (af bx G.g_L_word rfl (aa (ac 3) ad))) ?_
    rfl
theorem lu {f:Addr} {fd:FuncData} (F:Fun K "_law_between" "_law_between" cJ f fd) (T:Txt K mg C w.params) (G:Tab P w K mg base C k t):FnOk P w K mg base (CXE P w) (k+1) f fd ["_law_one", "_law_other"] (spF K C 2 (a2 (bG t))):=by
  refine ao F bM fun cdv A outer s H Z E bx hpo made ds hl=>?_
  obtain ⟨l_one,l_other,rfl⟩:=len2 hl
  refine ⟨bG t l_one l_other,rfl,?_⟩
  show FL (bodyX P w K mg base ["_law_one", "_law_other", "_law_least_here", "_law_half", "_law_parts", "_law_top", "_law_left", "_law_some"] "_law_between" (defScope cJ) f cdv A outer s H E) ⟨K,C,H,Z,E⟩ [vv l_one,vv l_other,nn,nn,nn,nn,nn,nn] (defBody cJ) JU (bG t l_one l_other)
  refine av (inj:=fun (_:Unit) (w:Unit)=>[vv l_one,vv l_other,nn,nn,nn,nn,nn,nn]) (ay (cz bx (ac 0) (ac 1)) ?_ ?_ ?_) (fun _ w=>?_)
  rfl
  · refine ax (ah cu) ?_
    rfl
  · exact al ⟨(),rfl⟩
  refine ak (S':=fun l_least_here=>[vv l_one,vv l_other,vv l_least_here,nn,nn,nn,nn,nn]) (aE 2 bM.nd (af bx G.g_L_least rfl (aa (ac 1) ad))) ?_ (fun l_least_here=>?_)
  rfl
  refine av (inj:=fun (_:Unit) (w1:Unit)=>[vv l_one,vv l_other,vv l_least_here,nn,nn,nn,nn,nn]) (ay (aV (aD (aj bx rfl T.b_isinstance bn (ac 2) (aC rfl T.b_tuple (by decide +kernel) rfl)))) ?_ ?_ ?_) (fun _ w1=>?_)
  rfl
  · refine ax (ah (ac 2)) ?_
    rfl
  · exact al ⟨(),rfl⟩
  refine ak (S':=fun l_half=>[vv l_one,vv l_other,vv l_least_here,vv l_half,nn,nn,nn,nn]) (aE 3 bM.nd (kZ (fe_N (cp bx rfl T.b_len (FAL.out (aa (ac 0) ad)))) ae)) ?_ (fun l_half=>?_)
  rfl
  refine bN (S':=[vv l_one,vv l_other,vv l_least_here,vv l_half,ow [],nn,nn,nn]) (fs_O (en 4 bM.nd (FAL.out ad))) ?_ ?_
  rfl
  refine av (inj:=fun (s:List D) (w2:Option Sl×Option Sl×Option Sl)=>[vv l_one,vv l_other,vv l_least_here,vv l_half,ow s,w2.1,w2.2.1,w2.2.2]) (bL 5 (B:=fun (s:List D) (w2:Option Sl×Option Sl×Option Sl) x1=>[vv l_one,vv l_other,vv l_least_here,vv l_half,ow s,vv x1,w2.2.1,w2.2.2]) (nn,nn,nn) hpo rfl (aP bx.K (aB (aa ae (aa (ac 3) ad)))) ?_ (aA 5 bM.nd) rfl (fun _ _ _=>rfl) (fun s w2 x1=>?_)) (fun l_parts2 w5=>?_)
  rfl
  · refine av (inj:=fun (s1:List D) (w3:Option Sl×Option Sl)=>[vv l_one,vv l_other,vv l_least_here,vv l_half,ow s1,vv x1,w3.1,w3.2]) (bL 6 (B:=fun (s1:List D) (w3:Option Sl×Option Sl) x2=>[vv l_one,vv l_other,vv l_least_here,vv l_half,ow s1,vv x1,vv x2,w3.2]) (w2.2.1,w2.2.2) hpo rfl (aP bx.K (aB (aa ae (aa (ac 3) ad)))) ?_ (aA 6 bM.nd) rfl (fun _ _ _=>rfl) (fun s1 w3 x2=>?_)) (fun l_parts1 w4=>?_)
    rfl
    · refine ak (S':=fun l_some=>[vv l_one,vv l_other,vv l_least_here,vv l_half,ow s1,vv x1,vv x2,vv l_some]) (fs_C (jm 7 (N:=["_law_rows_here", "_law_left", "_law_half", "_law_top"]) (own:=1) (cap:=[6,3,5]) bx (BlkOk.of (by kernel_rfl)) (aP bx.K (aB (aa (ac 0) (aa (ac 1) ad)))) (bJ (by decide)) (fun _ _ _ _ _=>aA 0 (show List.Nodup (α:=Str) ["_law_rows_here", "_law_left", "_law_half", "_law_top"] by decide +kernel)) (fun _ _ _ _ _=>(fe_N (bj (au bx) rfl T.b_tuple (FAL.out (aa (fe_C (bv (N:=["_law_row", "_law_left", "_law_half"]) (own:=1) (cap:=[1,2]) (au bx) (BlkOk.of (by kernel_rfl)) (aP (au bx).K (e9 (au bx).K (ac 0) (dS (ac 3)) (dS (aI (au bx).K (ac 3) (ac 2))))) (bJ (by decide)) (fun _ _ _ _ _=>aA 0 (show List.Nodup (α:=Str) ["_law_row", "_law_left", "_law_half"] by decide +kernel)) (fun _ _ _ _ _=>(e9 (au (au bx)).K (ac 0) (dS (ac 1)) (dS (aI (au (au bx)).K (ac 1) (ac 2))))))) ad))))) bM.nd (hsw:=by kernel_rfl))) ?_ (fun l_some=>?_)
      rfl
      refine ak (S':=fun l_parts=>[vv l_one,vv l_other,vv l_least_here,vv l_half,ow l_parts,vv x1,vv x2,vv l_some]) (fs_A (fN 4 (FAL.out (aa (af bx G.g_L_between rfl (aa (ag bx.K (ac 7) ae) (aa (ag bx.K (ac 7) ae) ad))) ad)))) ?_ (fun l_parts=>?_)
      rfl
      exact al ⟨(vv x2,vv l_some),rfl⟩
    exact al ⟨(vv x1,w4.1,w4.2),rfl⟩
  refine fe 4 (S':=[vv l_one,vv l_other,vv l_least_here,vv l_half,vv (.lst l_parts2),w5.1,w5.2.1,w5.2.2]) rfl rfl ?_
  refine aw (ah (jh (ft_w (dQ (aV (aD (aj bx rfl T.b_isinstance bn (ag bx.K (ac 4) ae) (aC rfl T.b_tuple (by decide +kernel) rfl)))) (dn (cz bx (ac 4) (cn bx.K (aG (aa (ag bx.K (ac 4) ae) ad)) ae))))) (ag bx.K (ac 4) ae) (fe_N (bj bx rfl T.b_tuple (FAL.out (aa (ac 4) ad)))))) ?_
  rfl
theorem jM {f:Addr} {fd:FuncData} (F:Fun K "law" "law" a9 f fd) (T:Txt K mg C w.params) (G:Tab P w K mg base C k t):FnOk P w K mg base (CXE P w) (k+1) f fd ["_law_script"] (spF K C 1 (a1 (dE t))):=by
  refine ao F aS fun cdv A outer s H Z E bx hpo made ds hl=>?_
  obtain ⟨l_script,rfl⟩:=len1 hl
  refine ⟨dE t l_script,rfl,?_⟩
  show FL (bodyX P w K mg base ["_law_script", "_law_one", "_law_size", "_law_change", "_law_mine", "_law_some", "_law_made", "_law_other", "_law_due", "_law_k", "_law_thing", "_law_is_one", "_law_third", "_law_bad"] "law" (defScope a9) f cdv A outer s H E) ⟨K,C,H,Z,E⟩ [vv l_script,nn,nn,nn,nn,nn,nn,nn,nn,nn,nn,nn,nn,nn] (defBody a9) JU (dE t l_script)
  refine ak (S':=fun l_one=>[vv l_script,vv l_one,nn,nn,nn,nn,nn,nn,nn,nn,nn,nn,nn,nn]) (aE 1 aS.nd (af bx G.g_L_picture rfl (aa (ac 0) (aa ae (aa ae ad))))) ?_ (fun l_one=>?_)
  rfl
  refine ak (S':=fun l_size=>[vv l_script,vv l_one,vv l_size,nn,nn,nn,nn,nn,nn,nn,nn,nn,nn,nn]) (aE 2 aS.nd (ag bx.K (ac 1) ae)) ?_ (fun l_size=>?_)
  rfl
  refine ak (S':=fun l_change=>[vv l_script,vv l_one,vv l_size,vv l_change,nn,nn,nn,nn,nn,nn,nn,nn,nn,nn]) (aE 3 aS.nd (aB (aa (ac 2) (aa (af bx G.g_L_change_tree rfl (aa (ac 0) (aa ae (aa (ac 2) ad)))) ad)))) ?_ (fun l_change=>?_)
  rfl
  refine tR 4 5 (S':=fun l_mine l_some=>[vv l_script,vv l_one,vv l_size,vv l_change,vv l_mine,vv l_some,nn,nn,nn,nn,nn,nn,nn,nn]) (tG 4 5 bx aS.nd (FAL.out (aa (af bx G.g_L_rows rfl (aa (ac 1) ad)) (aa (af bx G.g_L_set rfl (aa (ac 2) (aa (ag bx.K (ac 3) ae) ad))) ad)))) ?_ ?_ (fun _ _=>rfl) (fun l_mine l_some=>?_)
  rfl
  rfl
  refine ak (S':=fun l_made=>[vv l_script,vv l_one,vv l_size,vv l_change,vv l_mine,vv l_some,vv l_made,nn,nn,nn,nn,nn,nn,nn]) (wm (jm 6 (N:=["_law_row", "_law_more"]) (own:=2) (cap:=[]) bx (BlkOk.of (by kernel_rfl)) (rM bx rfl T.b_zip (ac 4) (ac 5)) (lY (by decide) (by decide)) (fun _ _ _ _ _=>oJ 0 1 rfl (show List.Nodup (α:=Str) ["_law_row", "_law_more"] by decide +kernel)) (fun _ _ _ _ _=>(fe_N (bj (au bx) rfl T.b_tuple (FAL.out (aa (wl (bv (N:=["_law_old", "_law_new"]) (own:=2) (cap:=[]) (au bx) (BlkOk.of (by kernel_rfl)) (rM (au bx) rfl T.b_zip (ac 0) (ac 1)) (lY (by decide) (by decide)) (fun _ _ _ _ _=>oJ 0 1 rfl (show List.Nodup (α:=Str) ["_law_old", "_law_new"] by decide +kernel)) (fun _ _ _ _ _=>(jh (lM (ac 1) cu) (ac 1) (ac 0))))) ad))))) aS.nd (hsw:=by kernel_rfl))) ?_ (fun l_made=>?_)
  rfl
  refine av (inj:=fun (_:Unit) (w:Unit)=>[vv l_script,vv l_one,vv l_size,vv l_change,vv l_mine,vv l_some,vv l_made,nn,nn,nn,nn,nn,nn,nn]) (ay (ft_w (cy (cP bx (af bx G.g_L_do_8 rfl (aa ae (aa (ac 1) (aa (ac 3) ad)))) (af bx G.g_L_of rfl (aa (fe_N (bj bx rfl T.b_tuple (FAL.out (aa (ac 6) ad)))) ad))) (cM (lM (af bx G.g_is_change rfl (aa (ac 3) ad)) cL)))) ?_ ?_ ?_) (fun _ w=>?_)
  rfl
  · refine ax (ah cL) ?_
    rfl
  · exact al ⟨(),rfl⟩
  refine av (inj:=fun (_:Unit) (w1:Unit)=>[vv l_script,vv l_one,vv l_size,vv l_change,vv l_mine,vv l_some,vv l_made,nn,nn,nn,nn,nn,nn,nn]) (ay (cP bx (af bx G.g_L_do_8 rfl (aa ae (aa (ac 3) (aa cu ad)))) (aB (aa (ac 2) (aa (af bx G.g_L_least_set rfl (aa (ac 5) ad)) ad)))) ?_ ?_ ?_) (fun _ w1=>?_)
  rfl
  · refine ax (ah cL) ?_
    rfl
  · exact al ⟨(),rfl⟩
  refine ak (S':=fun l_other=>[vv l_script,vv l_one,vv l_size,vv l_change,vv l_mine,vv l_some,vv l_made,vv l_other,nn,nn,nn,nn,nn,nn]) (aE 7 aS.nd (jh (cz bx (af bx G.g_L_pick rfl (aa (ac 0) (aa ae (aa ae ad)))) ae) (af bx G.g_L_of rfl (aa (fe_N (bj bx rfl T.b_tuple (FAL.out (aa (ac 6) ad)))) ad)) (aB (aa (ac 2) (aa (af bx G.g_L_tree rfl (aa (ac 0) (aa ae (aa (ac 2) ad)))) ad))))) ?_ (fun l_other=>?_)
  rfl
  refine ak (S':=fun l_due=>[vv l_script,vv l_one,vv l_size,vv l_change,vv l_mine,vv l_some,vv l_made,vv l_other,vv l_due,nn,nn,nn,nn,nn]) (aE 8 aS.nd (aB (aa (ac 2) (aa (af bx G.g_L_between rfl (aa (ac 4) (aa (af bx G.g_L_rows rfl (aa (ac 7) ad)) ad))) ad)))) ?_ (fun l_due=>?_)
  rfl
  refine av (inj:=fun (_:Unit) (w2:Unit)=>[vv l_script,vv l_one,vv l_size,vv l_change,vv l_mine,vv l_some,vv l_made,vv l_other,vv l_due,nn,nn,nn,nn,nn]) (ay (ft_w (cy (cP bx (af bx G.g_L_do_8 rfl (aa ae (aa (ac 1) (aa (ac 7) ad)))) (ac 8)) (cM (cP bx (af bx G.g_L_do_8 rfl (aa ae (aa (ac 1) (aa (ac 8) ad)))) (af bx G.g_L_of rfl (aa (af bx G.g_L_rows rfl (aa (ac 7) ad)) ad)))))) ?_ ?_ ?_) (fun _ w2=>?_)
  rfl
  · refine ax (ah cL) ?_
    rfl
  · exact al ⟨(),rfl⟩
  refine av (inj:=fun (s:Unit) (w3:Option Sl×Option Sl×Option Sl)=>[vv l_script,vv l_one,vv l_size,vv l_change,vv l_mine,vv l_some,vv l_made,vv l_other,vv l_due,w3.1,w3.2.1,w3.2.2,nn,nn]) (bL 9 (B:=fun (s:Unit) (w3:Option Sl×Option Sl×Option Sl) x19=>[vv l_script,vv l_one,vv l_size,vv l_change,vv l_mine,vv l_some,vv l_made,vv l_other,vv l_due,vv x19,w3.2.1,w3.2.2,nn,nn]) (nn,nn,nn) hpo rfl (jv (cW rfl T.b_range (FAL.out (aa ae ad)))) ?_ (aA 9 aS.nd) rfl (fun _ _ _=>rfl) (fun s w3 x19=>?_)) (fun _ w6=>?_)
  rfl
  · refine ak (S':=fun l_thing=>[vv l_script,vv l_one,vv l_size,vv l_change,vv l_mine,vv l_some,vv l_made,vv l_other,vv l_due,vv x19,vv l_thing,w3.2.2,nn,nn]) (aE 10 aS.nd (af bx G.g_L_spoilt_thing rfl (aa (ac 0) (aa (aI bx.K ae (cn bx.K ae (ac 9))) (aa (ac 3) ad))))) ?_ (fun l_thing=>?_)
    rfl
    refine ak (S':=fun l_is_one=>[vv l_script,vv l_one,vv l_size,vv l_change,vv l_mine,vv l_some,vv l_made,vv l_other,vv l_due,vv x19,vv l_thing,vv l_is_one,nn,nn]) (aE 11 aS.nd (af bx G.g_L_is_change rfl (aa (ac 10) ad))) ?_ (fun l_is_one=>?_)
    rfl
    refine av (inj:=fun (_:Unit) (w4:Unit)=>[vv l_script,vv l_one,vv l_size,vv l_change,vv l_mine,vv l_some,vv l_made,vv l_other,vv l_due,vv x19,vv l_thing,vv l_is_one,nn,nn]) (ay (ft_w (cy (cP bx (af bx G.g_is_change rfl (aa (ac 10) ad)) (ac 11)) (cM (aV (aD (aj bx rfl T.b_isinstance eG (af bx G.g_is_change rfl (aa (ac 10) ad)) (aC rfl T.b_bool (by decide +kernel) rfl))))))) ?_ ?_ ?_) (fun _ w4=>?_)
    rfl
    · refine ax (ah cL) ?_
      rfl
    · exact al ⟨(),rfl⟩
    refine av (inj:=fun (_:Unit) (w5:Unit)=>[vv l_script,vv l_one,vv l_size,vv l_change,vv l_mine,vv l_some,vv l_made,vv l_other,vv l_due,vv x19,vv l_thing,vv l_is_one,nn,nn]) (ay (ft_w (dQ (aV (aD (ac 11))) (dn (cP bx (aG (aa (af bx G.g_L_do_8 rfl (aa ae (aa (ac 1) (aa (ac 10) ad)))) (aa (af bx G.g_L_do_8 rfl (aa ae (aa (ac 10) (aa cu ad)))) ad))) (cn bx.K (aG (aa bI ad)) ae))))) ?_ ?_ ?_) (fun _ w5=>?_)
    rfl
    · refine ax (ah cL) ?_
      rfl
    · exact al ⟨(),rfl⟩
    refine ju (ay (ft_w (dQ (aD (ac 11)) (dQ (cP bx (ag bx.K (ac 10) ae) (ac 2)) (dn (cP bx (af bx G.g_L_do_8 rfl (aa ae (aa (ac 1) (aa (ac 10) ad)))) bI))))) ?_ ?_ ?_)
    rfl
    · refine ax (ah cL) ?_
      rfl
    · exact al ⟨(vv x19,vv l_thing,vv l_is_one),rfl⟩
  refine ak (S':=fun l_third=>[vv l_script,vv l_one,vv l_size,vv l_change,vv l_mine,vv l_some,vv l_made,vv l_other,vv l_due,w6.1,w6.2.1,w6.2.2,vv l_third,nn]) (aE 12 aS.nd (af bx G.g_L_picture rfl (aa (ac 0) (aa ae (aa ae ad))))) ?_ (fun l_third=>?_)
  rfl
  refine av (inj:=fun (_:Unit) (w7:Unit)=>[vv l_script,vv l_one,vv l_size,vv l_change,vv l_mine,vv l_some,vv l_made,vv l_other,vv l_due,w6.1,w6.2.1,w6.2.2,vv l_third,nn]) (ay (ft_w (dQ (cP bx (ag bx.K (ac 12) ae) (ac 2)) (dn (cP bx (af bx G.g_L_do_8 rfl (aa ae (aa (ac 1) (aa (ac 12) ad)))) bI)))) ?_ ?_ ?_) (fun _ w7=>?_)
  rfl
  · refine ax (ah cL) ?_
    rfl
  · exact al ⟨(),rfl⟩
  refine ak (S':=fun l_bad=>[vv l_script,vv l_one,vv l_size,vv l_change,vv l_mine,vv l_some,vv l_made,vv l_other,vv l_due,w6.1,w6.2.1,w6.2.2,vv l_third,vv l_bad]) (aE 13 aS.nd (af bx G.g_L_spoilt_thing rfl (aa (ac 0) (aa ae (aa (ac 1) ad))))) ?_ (fun l_bad=>?_)
  rfl
  refine av (inj:=fun (_:Unit) (w8:Unit)=>[vv l_script,vv l_one,vv l_size,vv l_change,vv l_mine,vv l_some,vv l_made,vv l_other,vv l_due,w6.1,w6.2.1,w6.2.2,vv l_third,vv l_bad]) (ay (aD (af bx G.g_L_is_picture rfl (aa (ac 13) ad))) ?_ ?_ ?_) (fun _ w8=>?_)
  rfl
  · refine ax (ah cL) ?_
    rfl
  · exact al ⟨(),rfl⟩
  refine aw (ah (q0 bx (aG (aa (af bx G.g_L_do_8 rfl (aa ae (aa (ac 13) (aa (ac 12) ad)))) (aa (af bx G.g_L_do_8 rfl (aa ae (aa (ac 12) (aa (ac 13) ad)))) (aa (af bx G.g_L_do_8 rfl (aa ae (aa (ac 13) (aa cu ad)))) ad)))) (cn bx.K (aG (aa bI ad)) ae))) ?_
  rfl
end
end Lw
end
noncomputable section
section
set_option linter.all false
set_option maxRecDepth 10000
namespace Lw
open PySem FF
inductive Q (α:Type) where
  | lf (a:α) | nd (a b c d:Q α)
  deriving DecidableEq
section
variable {α β γ:Type}
def Q.dep:Q α→Nat
  | .lf _=>0
  | .nd a b c d=>1+max (max a.dep b.dep) (max c.dep d.dep)
def Q.at:Nat→Q α→Nat→Nat→α
  | _,.lf a,_,_=>a
  | 0,.nd a _ _ _,x,y=>Q.at 0 a x y
  | n+1,.nd a b c d,x,y=>if y < 2^n then (if x < 2^n then a.at n x y else b.at n (x - 2^n) y) else (if x < 2^n then c.at n x (y - 2^n) else d.at n (x - 2^n) (y - 2^n))
def Q.All (p:α→Prop):Q α→Prop
  | .lf a=>p a
  | .nd a b c d=>a.All p∧b.All p∧c.All p∧d.All p
def sh (f:Nat→Nat→α) (a b:Nat):Nat→Nat→α:=fun x y=>f (x+a) (y+b)
@[simp] theorem fX (n:Nat) (a:α) (x y:Nat):Q.at n (.lf a) x y=a:=by cases n<;>rfl
variable [DecidableEq α] [DecidableEq β] [DecidableEq γ]
def put4 (a b c d:Q α):Q α:=match a with
  | .lf v=>if b=.lf v∧c=.lf v∧d=.lf v then .lf v else .nd a b c d
  | _=>.nd a b c d
def T (f:Nat→Nat→α):Nat→Q α
  | 0=>.lf (f 0 0)
  | n+1=>put4 (T f n) (T (sh f (2^n) 0) n) (T (sh f 0 (2^n)) n) (T (sh f (2^n) (2^n)) n)
def Q.lean:Q α→Q α
  | .lf a=>.lf a
  | .nd a b c d=>put4 a.lean b.lean c.lean d.lean
theorem dh (n:Nat):(2^(n+1):Nat)=2^n+2^n:=by rw [Nat.pow_succ]; omega
theorem iz (v:α):put4 (.lf v) (.lf v) (.lf v) (.lf v)=.lf v:=by simp [put4]
theorem t4 (n:Nat) (a b c d:Q α) (x y:Nat):(put4 a b c d).at (n+1) x y=(Q.nd a b c d).at (n+1) x y:=by
  unfold put4
  split
  · split
    · rename_i h
      obtain ⟨rfl,rfl,rfl⟩:=h
      simp only [Q.at,fX,ite_self]
    · rfl
  · rfl
theorem rW (n:Nat) (a b c d:Q α) (ha:a.dep≤n) (hb:b.dep≤n) (hc:c.dep≤n) (hd:d.dep≤n):(put4 a b c d).dep≤n+1:=by
  unfold put4
  split
  · split
    · exact Nat.zero_le _
    · simp only [Q.dep] at *; omega
  · simp only [Q.dep] at *; omega
theorem aM:∀ (n:Nat) (f g:Nat→Nat→α),(∀ x y,x < 2^n→y < 2^n→f x y=g x y)→T f n=T g n
  | 0,f,g,h=>by rw [T,T,h 0 0 (by decide) (by decide)]
  | n+1,f,g,h=>by
    rw [dh] at h
    rw [T,T,aM n f g fun x y hx hy=>h x y (by omega) (by omega),aM n (sh f (2^n) 0) (sh g (2^n) 0) fun x y hx hy=>h _ _ (by omega) (by omega),
      aM n (sh f 0 (2^n)) (sh g 0 (2^n)) fun x y hx hy=>h _ _ (by omega) (by omega),aM n (sh f (2^n) (2^n)) (sh g (2^n) (2^n)) fun x y hx hy=>h _ _ (by omega) (by omega)]
theorem gN (v:α):∀ n,T (fun _ _=>v) n=.lf v
  | 0=>rfl
  | n+1=>by
    rw [T]
    show put4 (T (fun _ _=>v) n) (T (fun _ _=>v) n) (T (fun _ _=>v) n) (T (fun _ _=>v) n)=_
    rw [gN v n,iz]
theorem d5:∀ (n:Nat) (f:Nat→Nat→α),(T f n).dep≤n
  | 0,f=>Nat.le_refl _
  | n+1,f=>rW n _ _ _ _ (d5 n _) (d5 n _) (d5 n _) (d5 n _)
theorem T_at:∀ (n:Nat) (f:Nat→Nat→α) (x y:Nat),x < 2^n→y < 2^n→(T f n).at n x y=f x y
  | 0,f,x,y,hx,hy=>by
    have:x=0:=by simp at hx; exact hx
    have:y=0:=by simp at hy; exact hy
    subst x; subst y
    rfl
  | n+1,f,x,y,hx,hy=>by
    rw [dh] at hx hy
    rw [T,t4,Q.at]
    by_cases h1:y < 2^n
    · rw [if_pos h1]
      by_cases h2:x < 2^n
      · rw [if_pos h2,T_at n f x y h2 h1]
      · rw [if_neg h2,T_at n _ _ _ (by omega) h1]
        unfold sh
        rw [show x - 2^n+2^n=x by omega,Nat.add_zero]
    · rw [if_neg h1]
      by_cases h2:x < 2^n
      · rw [if_pos h2,T_at n _ _ _ h2 (by omega)]
        unfold sh
        rw [show y - 2^n+2^n=y by omega,Nat.add_zero]
      · rw [if_neg h2,T_at n _ _ _ (by omega) (by omega)]
        unfold sh
        rw [show x - 2^n+2^n=x by omega,show y - 2^n+2^n=y by omega]
theorem uB {n:Nat} {f g:Nat→Nat→α} (h:T f n=T g n):∀ x y,x < 2^n→y < 2^n→f x y=g x y:=fun x y hx hy=>by
  rw [← T_at n f x y hx hy,h,T_at n g x y hx hy]
theorem rX {n:Nat} {f g:Nat→Nat→α}:T f n=T g n↔∀ x y,x < 2^n→y < 2^n→f x y=g x y:=⟨uB,aM n f g⟩
theorem kE {p:α→Prop}:∀ (n:Nat) (f:Nat→Nat→α),(∀ x y,x < 2^n→y < 2^n→p (f x y))→(T f n).All p
  | 0,f,h=>h 0 0 (by decide) (by decide)
  | n+1,f,h=>by
    rw [dh] at h
    have ha:=kE n f fun x y hx hy=>h x y (by omega) (by omega)
    have hb:=kE n (sh f (2^n) 0) fun x y hx hy=>h _ _ (by omega) (by omega)
    have hc:=kE n (sh f 0 (2^n)) fun x y hx hy=>h _ _ (by omega) (by omega)
    have hd:=kE n (sh f (2^n) (2^n)) fun x y hx hy=>h _ _ (by omega) (by omega)
    rw [T]
    unfold put4
    split
    · rename_i v e
      split
      · rw [e] at ha; exact ha
      · exact ⟨ha,hb,hc,hd⟩
    · exact ⟨ha,hb,hc,hd⟩
theorem gn {p:α→Prop}:∀ (n:Nat) (t:Q α) (x y:Nat),t.All p→p (t.at n x y)
  | n,.lf a,x,y,h=>by rw [fX]; exact h
  | 0,.nd a _ _ _,x,y,h=>gn 0 a x y h.1
  | n+1,.nd a b c d,x,y,h=>by
    rw [Q.at]
    split
    · split
      · exact gn n a _ _ h.1
      · exact gn n b _ _ h.2.1
    · split
      · exact gn n c _ _ h.2.2.1
      · exact gn n d _ _ h.2.2.2
theorem rY (n:Nat) (a b c d:Q α):T ((Q.nd a b c d).at (n+1)) (n+1)=put4 (T (a.at n) n) (T (b.at n) n) (T (c.at n) n) (T (d.at n) n):=by
  rw [T]
  congr 1
  · exact aM n _ _ fun x y hx hy=>by rw [Q.at,if_pos hy,if_pos hx]
  · exact aM n _ _ fun x y hx hy=>by
      unfold sh
      rw [Q.at,if_pos (by omega),if_neg (by omega)]
      simp
  · exact aM n _ _ fun x y hx hy=>by
      unfold sh
      rw [Q.at,if_neg (by omega),if_pos (by omega)]
      simp
  · exact aM n _ _ fun x y hx hy=>by
      unfold sh
      rw [Q.at,if_neg (by omega),if_neg (by omega)]
      simp
def Q.qs:Q α→Q α×Q α×Q α×Q α
  | .lf a=>(.lf a,.lf a,.lf a,.lf a)
  | .nd a b c d=>(a,b,c,d)
theorem ez:∀ (n:Nat) (t:Q α),t.dep≤n→t.lean=T (t.at n) n
  | n,.lf a,_=>by
    rw [Q.lean]
    exact (gN a n).symm.trans (aM _ _ _ fun x y _ _=>(fX _ _ _ _).symm)
  | 0,.nd a b c d,h=>by simp [Q.dep] at h
  | n+1,.nd a b c d,h=>by
    have h':1+max (max a.dep b.dep) (max c.dep d.dep)≤n+1:=h
    rw [rY,Q.lean,ez n a (by omega),ez n b (by omega),ez n c (by omega),ez n d (by omega)]
theorem gO {n:Nat} {t:Q α} (h:t.dep≤n):t.lean.dep≤n:=by rw [ez n t h]; exact d5 n _
structure En (e:α→D):Prop where
  tup:∀ a,isTup (e a)=false
  gd:∀ n a,good n (e a)=true
  eq:∀ a b,eqD (e a) (e b)=decide (a=b)
  tD:∀ a xs,eqD (e a) (.tup xs)=false
  dT:∀ a xs,eqD (.tup xs) (e a)=false
end
section
variable {α:Type} [DecidableEq α] {e:α→D}
def Q.d (e:α→D):Q α→D
  | .lf a=>e a
  | .nd a b c d=>.tup [a.d e,b.d e,c.d e,d.d e]
theorem Q.gd (E:En e):∀ (n:Nat) (t:Q α),t.dep≤n→good n (t.d e)=true
  | n,.lf a,_=>E.gd n a
  | 0,.nd a b c d,h=>by simp [Q.dep] at h
  | n+1,.nd a b c d,h=>by
    have h':1+max (max a.dep b.dep) (max c.dep d.dep)≤n+1:=h
    rw [Q.d,good,goods,goods,goods,goods,goods,Q.gd E n a (by omega),Q.gd E n b (by omega),Q.gd E n c (by omega),Q.gd E n d (by omega)]
    rfl
theorem Q.eqd (E:En e):∀ (s t:Q α),eqD (s.d e) (t.d e)=decide (s=t)
  | .lf a,.lf b=>by rw [Q.d,Q.d,E.eq]; simp
  | .lf a,.nd ..=>by rw [Q.d,Q.d,E.tD]; simp
  | .nd ..,.lf b=>by rw [Q.d,Q.d,E.dT]; simp
  | .nd a b c d,.nd a' b' c' d'=>by
    rw [Q.d,Q.d,eqD,eqDs,eqDs,eqDs,eqDs,eqDs,Q.eqd E a a',Q.eqd E b b',Q.eqd E c c',Q.eqd E d d']
    simp [Bool.eq_iff_iff]
theorem Q.d_inj (E:En e) {s t:Q α} (h:s.d e=t.d e):s=t:=by
  have:=Q.eqd E s t
  rw [h,Q.eqd E t t] at this
  simpa using this.symm
end
theorem En.int:En FF.D.int:=⟨fun _=>rfl,fun n a=>by cases n<;>rfl,fun a b=>by simp [eqD,Bool.beq_eq_decide_eq],fun a xs=>by simp [eqD],fun a xs=>by simp [eqD]⟩
def oD:Option Int→D
  | none=>.non
  | some v=>.int v
theorem En.opt:En oD:=⟨fun a=>by cases a<;>rfl,fun n a=>by cases a<;>cases n<;>rfl,fun a b=>by cases a<;>cases b<;>simp [oD,eqD,Bool.beq_eq_decide_eq],fun a xs=>by cases a<;>simp [oD,eqD],fun a xs=>by cases a<;>simp [oD,eqD]⟩
end Lw
end
section
set_option linter.all false
set_option maxRecDepth 10000
namespace Lw
open PySem FF
theorem fq {xs:List D} (h:xs.length≤16777216):sq (.tup xs)=.ok xs:=by unfold sq asSeq; rw [R.bind_ok,if_pos h]
theorem eB {xs:List D} (h:xs.length≤16777216):sq (.lst xs)=.ok xs:=by unfold sq asSeq; rw [R.bind_ok,if_pos h]
theorem sq4 (a b c d:D):sq (.tup [a,b,c,d])=.ok [a,b,c,d]:=fq (by show 4≤16777216; decide)
theorem rZ {e:D→R D} {f:D→D}:∀ {xs:List D},(∀ d∈xs,e d=.ok (f d))→cGo (fun _=>.ok true) e xs=.ok (xs.map f)
  | [],_=>rfl
  | x::xs,h=>by
    rw [cGo]
    simp only
    rw [h x (.head _),rZ fun d hd=>h d (.tail _ hd)]
    rfl
theorem t5 {e:D→R D} {xs:List D} (f:D→D) (h:∀ d∈xs,e d=.ok (f d)):cMap e xs=.ok (.lst (xs.map f)):=by
  unfold cMap; rw [rZ h]; rfl
theorem du {α:Type} {e:D→R D} {l:List α} (c g:α→D) (h:∀ a∈l,e (c a)=.ok (g a)):cMap e (l.map c)=.ok (.lst (l.map g)):=by
  unfold cMap
  have:∀ {l:List α},(∀ a∈l,e (c a)=.ok (g a))→cGo (fun _=>.ok true) e (l.map c)=.ok (l.map g):=by
    intro l
    induction l with
    | nil=>intro _; rfl
    | cons a l ih =>
      intro h
      rw [List.map_cons,cGo]
      simp only
      rw [h a (.head _),ih fun b hb=>h b (.tail _ hb)]
      rfl
  rw [this h]; rfl
theorem cMap4 {e:D→R D} {a b c d a' b' c' d':D} (ha:e a=.ok a') (hb:e b=.ok b') (hc:e c=.ok c') (hd:e d=.ok d'):cMap e [a,b,c,d]=.ok (.lst [a',b',c',d']):=by
  unfold cMap; simp only [cGo,ha,hb,hc,hd]; rfl
theorem lv {α:Type} {c:D→R Bool} {e:D→R D} {l:List α} (k g:α→D) (p:α→Bool) (h:∀ a∈l,c (k a)=.ok (p a)∧(p a=true→e (k a)=.ok (g a))):cFil c e (l.map k)=.ok (.lst ((l.filter p).map g)):=by
  unfold cFil
  have:∀ {l:List α},(∀ a∈l,c (k a)=.ok (p a)∧(p a=true→e (k a)=.ok (g a)))→cGo c e (l.map k)=.ok ((l.filter p).map g):=by
    intro l
    induction l with
    | nil=>intro _; rfl
    | cons a l ih =>
      intro h
      have h1:=h a (.head _)
      have h2:=ih fun b hb=>h b (.tail _ hb)
      rw [List.map_cons,cGo,h1.1]
      cases q:p a with
      | false=>simp only; rw [h2,List.filter_cons_of_neg (by simp [q])]
      | true=>simp only; rw [h1.2 q,h2,List.filter_cons_of_pos q]; rfl
  rw [this h]; rfl
@[simp] theorem ft (xs:List D):dTuple [.lst xs]=.ok (.tup xs):=rfl
@[simp] theorem nO (xs:List D):dTuple [.tup xs]=.ok (.tup xs):=rfl
@[simp] theorem qd (xs:List D):dList [.tup xs]=.ok (.lst xs):=rfl
@[simp] theorem qf (xs:List D):dList [.lst xs]=.ok (.lst xs):=rfl
@[simp] theorem eW (xs:List D):dLen [.tup xs]=.ok (.int xs.length):=rfl
@[simp] theorem gP (xs:List D):dLen [.lst xs]=.ok (.int xs.length):=rfl
@[simp] theorem cS (a b:Int):dAdd (.int a) (.int b)=.ok (.int (a+b)):=rfl
@[simp] theorem d6 (a b:Int):dSub (.int a) (.int b)=.ok (.int (a - b)):=rfl
@[simp] theorem t6 (a b:Int):dLt (.int a) (.int b)=.ok (.bl (decide (a < b))):=rfl
@[simp] theorem i6 (a b:Int):dLe (.int a) (.int b)=.ok (.bl (decide (a≤b))):=rfl
@[simp] theorem t7 (a b:Int):dGt (.int a) (.int b)=.ok (.bl (decide (b < a))):=rfl
@[simp] theorem t8 (a b:Int):dGe (.int a) (.int b)=.ok (.bl (decide (b≤a))):=rfl
@[simp] theorem fu (a b:Int):dEq (.int a) (.int b)=.ok (.bl (decide (a=b))):=by
  show R.ok (D.bl (a==b))=_
  rw [Bool.beq_eq_decide_eq]
@[simp] theorem eg (a b:Int):dNf (.int a) (.int b)=.ok (.bl (!decide (a=b))):=by
  show R.ok (D.bl (!(a==b)))=_
  rw [Bool.beq_eq_decide_eq]
theorem cT {a b:Int} (h:(-(2^64) < b∧b < 2^64)∨(-(2^64) < a∧a < 2^64)):dMul (.int a) (.int b)=.ok (.int (a*b)):=by
  have:cMul a b=true:=by unfold cMul; simp only [Bool.or_eq_true,Bool.and_eq_true,decide_eq_true_eq]; rcases h with h | h; exact .inr h; exact .inl h
  show (if cMul a b=true then R.ok (D.int (a*b)) else R.stuck)=_
  rw [if_pos this]
theorem mx {a b:Int} (h0:0 < b) (h1:b < 1073741824):dDiv (.int a) (.int b)=.ok (.int (a/b)):=by
  have:cDiv a b=true:=by unfold cDiv; simp only [Bool.and_eq_true,decide_eq_true_eq]; exact ⟨h0,h1⟩
  show (if cDiv a b=true then R.ok (D.int (a/b)) else R.stuck)=_
  rw [if_pos this]
theorem gQ {a b:Int} (h0:0 < b):dMod (.int a) (.int b)=.ok (.int (a%b)):=by
  show (if decide (0 < b)=true then R.ok (D.int (a%b)) else R.stuck)=_
  rw [if_pos (by simpa using h0)]
theorem dk {x y:D} (hx:good 60 x=true) (hy:good 60 y=true):dEq x y=.ok (.bl (eqD x y)):=by unfold dEq; rw [if_pos ⟨hx,hy⟩]
theorem my {x y:D} (hx:good 60 x=true) (hy:good 60 y=true):dNf x y=.ok (.bl (!eqD x y)):=by unfold dNf; rw [if_pos ⟨hx,hy⟩]
theorem oq {α:Type} {xs:List α} {i:Nat} {x:α} (h:xs[i]?=some x):L2.atI xs ((i:Nat):Int)=some x:=by
  have hi:i < xs.length:=(List.getElem?_eq_some_iff.mp h).1
  unfold L2.atI L2.ixN
  rw [if_pos (by omega),if_pos (by omega)]
  simpa using h
theorem ixL {xs:List D} {i:Nat} {x:D} (h:xs[i]?=some x):dIx (.lst xs) (.int ((i:Nat):Int))=.ok x:=by
  show (match L2.atI xs (i:Int) with | some d=>R.ok d | none=>R.stuck)=_
  rw [oq h]
@[simp] theorem ix20 (a b:D):dIx (.tup [a,b]) (.int 0)=.ok a:=rfl
@[simp] theorem ix21 (a b:D):dIx (.tup [a,b]) (.int 1)=.ok b:=rfl
@[simp] theorem ix40 (a b c d:D):dIx (.tup [a,b,c,d]) (.int 0)=.ok a:=rfl
@[simp] theorem ix41 (a b c d:D):dIx (.tup [a,b,c,d]) (.int 1)=.ok b:=rfl
@[simp] theorem ix42 (a b c d:D):dIx (.tup [a,b,c,d]) (.int 2)=.ok c:=rfl
@[simp] theorem ix43 (a b c d:D):dIx (.tup [a,b,c,d]) (.int 3)=.ok d:=rfl
@[simp] theorem cK (xs:List D):dIsA qTup (.tup xs)=.ok (.bl true):=rfl
@[simp] theorem qh (i:Int):dIsA qTup (.int i)=.ok (.bl false):=rfl
theorem jN {α:Type} (p:α→Bool):∀ l:List α,boolsD (l.map fun d=>D.bl (p d))=some (l.map p)
  | []=>rfl
  | a::r=>by simp only [List.map_cons,boolsD,jN p r,Option.map_some]
theorem r6 {α:Type} (p:α→Bool) (l:List α):dAll [.lst (l.map fun d=>D.bl (p d))]=.ok (.bl (l.all p)):=by
  show (match boolsD (l.map fun d=>D.bl (p d)) with | some bs=>R.ok (D.bl (bs.all id)) | none=>R.stuck)=_
  rw [jN]
  simp [List.all_map,Function.comp_def]
theorem oP (f:Int→Int→Bool) (F' G':D→D→R D) {x y w:Int} {g:Int→Int→Bool} (h1:F' (.int x) (.int y)=.ok (.bl (f x y))) (h2:G' (.int y) (.int w)=.ok (.bl (g y w))):rCh F' G' (.int x) (.int y) (.ok (.int w))=.ok (.bl (f x y&&g y w)):=by
  unfold rCh
  rw [h1]
  cases f x y with
  | true=>show G' (.int y) (.int w)=_; rw [h2]; rfl
  | false=>rfl
@[simp] theorem mz (x y w:Int):rCh dLe dLe (.int x) (.int y) (.ok (.int w))=.ok (.bl (decide (x≤y)&&decide (y≤w))):=oP (fun a b=>decide (a≤b)) _ _ (g:=fun a b=>decide (a≤b)) rfl rfl
@[simp] theorem r8 (x y w:Int):rCh dLe dLt (.int x) (.int y) (.ok (.int w))=.ok (.bl (decide (x≤y)&&decide (y < w))):=oP (fun a b=>decide (a≤b)) _ _ (g:=fun a b=>decide (a < b)) rfl rfl
theorem t9 (a b:Bool):vAnd (.ok (.bl a)) (.ok (.bl b))=.ok (.bl (a&&b)):=by cases a<;>rfl
theorem vC (a b:Bool):vOr (.ok (.bl a)) (.ok (.bl b))=.ok (.bl (a||b)):=by cases a<;>rfl
theorem ub (a b:Bool):rAnd (.ok a) (.ok b)=.ok (a&&b):=by cases a<;>rfl
theorem nP (a b:Bool):rOr (.ok a) (.ok b)=.ok (a||b):=by cases a<;>rfl
def isW:D→Bool
  | .int _=>true
  | _=>false
def noX:D→Bool
  | .exc _=>false
  | .fn _=>false
  | _=>true
def inTo (hi:Int):D→Bool
  | .int i=>decide (0≤i)&&decide (i≤hi)
  | _=>false
theorem b9 {n:Nat} {d:D} (h:good n d=true):noX d=true:=by
  cases d<;>first | rfl | (cases n<;>simp [good] at h)
theorem mB {n:Nat} (hn:1≤n) {d:D} (h:noX d=true):pf n F.is_whole [d]=.ok (.bl (isW d)):=by
  obtain ⟨m,rfl⟩:∃ m,n=m+1:=⟨n - 1,by omega⟩
  rw [mj]
  cases d<;>first | rfl | (cases h)
theorem mC {n:Nat} (hn:2≤n) {d:D} (h:noX d=true):pf n F.is_worth [d]=.ok (.bl (inTo 9 d)):=by
  obtain ⟨m,rfl⟩:∃ m,n=m+1:=⟨n - 1,by omega⟩
  rw [ml,cX,mB (by omega) h]
  cases d<;>first | rfl | (cases h; done) | skip
  simp [isW,inTo]
theorem uc {n:Nat} (hn:2≤n) {d:D} (h:noX d=true):pf n F.is_size [d]=.ok (.bl (inTo 3 d)):=by
  obtain ⟨m,rfl⟩:∃ m,n=m+1:=⟨n - 1,by omega⟩
  rw [nA,dC,mB (by omega) h]
  cases d<;>first | rfl | (cases h; done) | skip
  simp [isW,inTo]
def STP:=And.intro @bX (And.intro @vq (And.intro @lT (And.intro @v3 (And.intro @v4 (And.intro @tK (And.intro @tJ (And.intro @tM (And.intro @R.bind_ok (And.intro @R.bind_err (And.intro @fc (And.intro @k9 (And.intro @ub (And.intro @nP (And.intro @vt (And.intro @vw (And.intro @v6 (And.intro @v7 (And.intro @vx (And.intro @vy (And.intro @v8 (And.intro @v9 (And.intro @t9 (And.intro @vC (And.intro @tN (And.intro @uy (And.intro @uz (And.intro @Bool.not_true (And.intro @Bool.not_false (And.intro @Bool.false_or (And.intro @Bool.true_or (And.intro @Bool.or_false (And.intro @Bool.or_true (And.intro @Bool.true_and (And.intro @Bool.false_and (And.intro @Bool.and_true (And.intro @Bool.and_false (And.intro @Bool.false_eq_true (@Bool.true_eq_false))))))))))))))))))))))))))))))))))))))
def OPP:=And.intro @cS (And.intro @d6 (And.intro @t6 (And.intro @i6 (And.intro @t7 (And.intro @t8 (And.intro @fu (And.intro @eg (And.intro @eW (And.intro @gP (And.intro @ft (And.intro @nO (And.intro @qd (And.intro @qf (And.intro @ix20 (And.intro @ix21 (And.intro @ix40 (And.intro @ix41 (And.intro @ix42 (And.intro @ix43 (And.intro @cK (And.intro @qh (And.intro @mz (@r8)))))))))))))))))))))))
end Lw
end
section
set_option linter.all false
set_option maxRecDepth 10000
namespace Lw
open PySem FF
def slim:Nat→D→Bool
  | n+1,.tup xs=>decide (xs.length≤1000)&&xs.all (slim n)
  | n+1,.lst xs=>decide (xs.length≤1000)&&xs.all (slim n)
  | _,_=>true
def treeOk (p:D→Bool):Nat→Int→D→Bool
  | n+1,s,.tup xs=>decide (s≠0)&&(decide (xs.length=4)&&xs.all (treeOk p n (s - 1)))
  | _,_,d=>p d
theorem dO {n:Nat}:∀ {xs:List D},goods n xs=true→∀ d∈xs,good n d=true
  | x::xs,h,d,hd=>by
    rw [goods,Bool.and_eq_true] at h
    cases hd with
    | head=>exact h.1
    | tail _ hd=>exact dO h.2 d hd
theorem cc {n:Nat}:∀ {xs:List D},(∀ d∈xs,good n d=true)→goods n xs=true
  | [],_=>rfl
  | x::xs,h=>by rw [goods,h x (.head _),cc fun d hd=>h d (.tail _ hd)]; rfl
theorem ex1 {n k:Nat} (h:k+1≤n):∃ m,n=m+1∧k≤m:=⟨n - 1,by omega,by omega⟩
theorem bO {d:D} (h:isTup d=false) (h':noX d=true):dIsA qTup d=.ok (.bl false):=by cases d<;>first | rfl | (cases h; done) | (cases h'; done)
theorem ue {i c:Nat} {p:D→Bool} (hi:fvL.contains i=true) (hp:∀ m d,c≤m→noX d=true→pf m i [d]=.ok (.bl (p d))):∀ (n m:Nat) (s:Int) (d:D),good n d=true→slim n d=true→n+c+1≤m→pf m F.is_tree [.int s,d,.fn i]=.ok (.bl (treeOk p n s d)):=by
  have flat:∀ (n m:Nat) (s:Int) (d:D),isTup d=false→noX d=true→c+1≤m→treeOk p n s d=p d→pf m F.is_tree [.int s,d,.fn i]=.ok (.bl (treeOk p n s d)):=fun n m s d ht hx hm e=>by
    obtain ⟨m,rfl,hm⟩:=ex1 hm
    rw [jz,cY,bO ht hx,e]
    have:onF fvL (.fn i) (fun i=>pf m i [d])=.ok (.bl (p d)):=by
      show (if fvL.contains i=true then pf m i [d] else R.stuck)=_
      rw [if_pos hi,hp m d (by omega) hx]
    simp [this]
  intro n
  induction n with
  | zero =>
    intro m s d hg hs hm
    have ht:isTup d=false:=by cases d<;>first | rfl | (simp [good] at hg)
    exact flat 0 m s d ht (b9 hg) (by omega) (by cases d<;>rfl)
  | succ n ih =>
    intro m s d hg hs hm
    by_cases ht:isTup d=true
    · cases d with
      | tup xs =>
        rw [good] at hg
        rw [slim,Bool.and_eq_true,decide_eq_true_eq,List.all_eq_true] at hs
        obtain ⟨m,rfl,hm⟩:=ex1 (show n+c+1+1≤m by omega)
        rw [jz,cY]
        have hc:cMap (fun part=>(dSub (.int s) (.int 1)).bind fun x1=>pf m F.is_tree [x1,part,.fn i]) xs=.ok (.lst (xs.map fun d=>.bl (treeOk p n (s - 1) d))) :=
          t5 _ fun d hd=>by rw [d6,R.bind_ok]; exact ih m (s - 1) d (dO hg d hd) (hs.2 d hd) (by omega)
        simp only [cK,fc,k9,Bool.not_true,bX,lT,fu,eW,R.bind_ok,eg,nP,fq (show xs.length≤16777216 by omega),hc,r6,treeOk]
        by_cases h0:s=0
        · simp [h0]
        · by_cases h4:xs.length=4
          · simp [h0,h4]
          · have h4':¬ ((xs.length:Int)=4):=by omega
            simp [h0,h4,h4']
      | _=>cases ht
    · have ht':isTup d=false:=by simpa using ht
      exact flat (n+1) m s d ht' (b9 hg) (by omega) (by cases d<;>first | rfl | (cases ht'; done))
def sizedOk (p:D→Bool) (n:Nat):D→Bool
  | .tup [s,t]=>inTo 3 s&&(match s with
    | .int i=>treeOk p n i t
    | _=>false)
  | _=>false
theorem mD {i c:Nat} {p:D→Bool} (hc:2≤c) (hi:fvL.contains i=true) (hp:∀ m d,c≤m→noX d=true→pf m i [d]=.ok (.bl (p d))) (n m:Nat) (d:D) (hg:good (n+1) d=true) (hs:slim (n+1) d=true) (hm:n+c+2≤m):pf m F.is_sized_tree [d,.fn i]=.ok (.bl (sizedOk p n d)):=by
  obtain ⟨m,rfl,hm⟩:=ex1 (show n+c+1+1≤m by omega)
  rw [ij,bb]
  by_cases ht:isTup d=true
  · cases d with
    | tup xs =>
      rw [good] at hg
      rw [slim,Bool.and_eq_true,decide_eq_true_eq,List.all_eq_true] at hs
      by_cases h2:xs.length=2
      · match xs,h2 with
        | [a,b],_ =>
          have ga:=dO hg a (by simp)
          have gb:=dO hg b (by simp)
          have sb:=hs.2 b (by simp)
          have hz:pf m F.is_size [a]=.ok (.bl (inTo 3 a)):=uc (by omega) (b9 ga)
          simp only [cK,fc,k9,Bool.not_true,eW,R.bind_ok,eg,ix20,ix21,nP,List.length_cons,List.length_nil,hz]
          cases a with
          | int v =>
            rw [ue hi hp n m v b gb sb (by omega)]
            by_cases hv:inTo 3 (.int v)=true
            · simp [hv,sizedOk]
            · have hv':inTo 3 (.int v)=false:=by simpa using hv
              simp [hv',sizedOk]
          | _=>simp [sizedOk,inTo]
      · have h2':¬ ((xs.length:Int)=2):=by omega
        have e:sizedOk p n (.tup xs)=false:=by
          match xs,h2 with
          | [],_=>rfl
          | [_],_=>rfl
          | _::_::_::_,_=>rfl
        simp [h2',e]
    | _=>cases ht
  · have ht':isTup d=false:=by simpa using ht
    rw [bO ht' (b9 hg)]
    have e:sizedOk p n d=false:=by cases d<;>first | rfl | (cases ht'; done)
    simp [e]
end Lw
end
section
set_option linter.all false
set_option maxRecDepth 10000
namespace Lw
open PySem FF
def scr (ns:List Int):D:=.lst (ns.map .int)
def cell (ns:List Int) (k:Nat):Int:=if k < ns.length then ns.getD k 0 else if ns=[] then 0 else ns.getD (k%ns.length) 0*31+k
def pk (ns:List Int) (k:Nat) (m:Int):Int :=
  let d:=(cell ns k+6151*((k:Int)+1))*40692%2147483399
  (d*d+d/31)%2147483629%m
theorem fY {ns:List Int} {k:Nat} {m:Int} (h:0 < m):0≤pk ns k m:=Int.emod_nonneg _ (by omega)
theorem fZ {ns:List Int} {k:Nat} {m:Int} (h:0 < m):pk ns k m < m:=Int.emod_lt_of_pos _ h
theorem kF (n:Nat):∀ ns:List Int,goods n (ns.map .int)=true
  | []=>rfl
  | i::r=>by rw [List.map_cons,goods,kF n r]; cases n<;>rfl
theorem uf {n:Nat} (hn:1≤n) (ns:List Int) (k:Nat):pf n F.L_cell [scr ns,.int k]=.ok (.int (cell ns k)):=by
  obtain ⟨n,rfl,hn⟩:=ex1 hn
  rw [pS,eI]
  unfold scr cell
  by_cases h:k < ns.length
  · have h':((k:Int) < (ns.length:Int)):=by omega
    have e0:=ixL (xs:=ns.map .int) (i:=k) (x:=.int (ns.getD k 0)) (by rw [List.getElem?_map,List.getElem?_eq_getElem h]; simp [List.getD,h])
    simp only [STP,if_true,if_false,ite_true,ite_false,reduceIte,reduceCtorEq,OPP,List.length_map,decide_eq_true h',e0,if_pos h]
  · have h':¬ ((k:Int) < (ns.length:Int)):=by omega
    cases ns with
    | nil =>
      have e1:dEq (.lst []) (.lst [])=.ok (.bl true):=rfl
      have h2:¬ ((k:Int) < ((0:Nat):Int)):=by omega
      simp only [STP,if_true,if_false,ite_true,ite_false,reduceIte,reduceCtorEq,OPP,List.map_nil,List.length_nil,decide_eq_false h2,e1,if_neg (Nat.not_lt_zero k)]
    | cons a r =>
      have hl:0 < (a::r).length:=by simp
      have hk:k%(a::r).length < (a::r).length:=Nat.mod_lt _ hl
      have e1:dEq (.lst ((a::r).map .int)) (.lst [])=.ok (.bl false):=by
        rw [dk (by rw [good]; exact kF _ _) rfl]
        simp [eqD,eqDs]
      have e2:dMod (.int (k:Int)) (.int ((a::r).length:Int))=.ok (.int ((k%(a::r).length:Nat):Int)):=by
        rw [gQ (by omega)]; rfl
      have e3:dIx (.lst ((a::r).map .int)) (.int ((k%(a::r).length:Nat):Int))=.ok (.int ((a::r).getD (k%(a::r).length) 0)) :=
        ixL (by rw [List.getElem?_map,List.getElem?_eq_getElem hk,List.getD,List.getElem?_eq_getElem hk]; rfl)
      have e4:=cT (a:=(a::r).getD (k%(a::r).length) 0) (b:=31) (.inl (by decide))
      simp only [STP,if_true,if_false,ite_true,ite_false,reduceIte,reduceCtorEq,OPP,List.length_map,decide_eq_false h',e1,e2,e3,e4,if_neg h]
theorem fw {n:Nat} (hn:2≤n) (ns:List Int) (k:Nat) {m:Int} (hm:0 < m):pf n F.L_pick [scr ns,.int k,.int m]=.ok (.int (pk ns k m)):=by
  obtain ⟨n,rfl,hn⟩:=ex1 hn
  rw [pT,eJ,uf (by omega)]
  simp only [R.bind_ok,cS]
  rw [cT (.inr (by decide))]
  simp only [R.bind_ok,cS]
  rw [cT (.inl (by decide))]
  simp only [R.bind_ok]
  rw [gQ (by decide)]
  simp only [bX]
  have h0:0≤(cell ns k+6151*((k:Int)+1))*40692%2147483399:=Int.emod_nonneg _ (by decide)
  have h1:(cell ns k+6151*((k:Int)+1))*40692%2147483399 < 2147483399:=Int.emod_lt_of_pos _ (by decide)
  rw [cT (.inl ⟨by omega,by omega⟩),mx (by decide) (by decide)]
  simp only [R.bind_ok,cS]
  rw [gQ (by decide)]
  simp only [R.bind_ok]
  rw [gQ hm]
  rfl
theorem eh {n:Nat} (hn:2≤n) (ns:List Int) (k:Nat) {a m:Int} (ha:a=(k:Int)) (hm:0 < m):pf n F.L_pick [scr ns,.int a,.int m]=.ok (.int (pk ns k m)):=by subst ha; exact fw hn ns k hm
def W9 (v:Int):Prop:=0≤v∧v≤9
def dleaf (ns:List Int) (k:Nat):Int:=[0,1,1,2,9,pk ns (k+1) 10].getD (pk ns (k+2) 6).toNat 0
def dt (ns:List Int):Nat→Nat→Q Int
  | 0,k=>.lf (dleaf ns k)
  | n+1,k=>if pk ns k 6 < 2 then .lf (dleaf ns k) else if pk ns k 6=2 then .nd (dt ns n (k+3)) (dt ns n (k+3)) (dt ns n (k+3)) (dt ns n (k+3)) else
    .nd (dt ns n (5*k+7)) (dt ns n (5*k+18)) (dt ns n (5*k+29)) (dt ns n (5*k+40))
theorem oQ (ns:List Int) (k:Nat):W9 (dleaf ns k):=by
  unfold dleaf W9
  have h0:=fY (ns:=ns) (k:=k+2) (m:=6) (by decide)
  have h1:=fZ (ns:=ns) (k:=k+2) (m:=6) (by decide)
  have g0:=fY (ns:=ns) (k:=k+1) (m:=10) (by decide)
  have g1:=fZ (ns:=ns) (k:=k+1) (m:=10) (by decide)
  obtain ⟨j,hj⟩:∃ j:Nat,pk ns (k+2) 6=(j:Int):=⟨(pk ns (k+2) 6).toNat,by omega⟩
  rw [hj] at h1 ⊢
  have:j < 6:=by omega
  rcases j with _ | _ | _ | _ | _ | _ | j<;>first | (simp; done) | (simp; omega) | omega
theorem nQ (ns:List Int):∀ n k,(dt ns n k).dep≤n
  | 0,k=>Nat.le_refl _
  | n+1,k=>by
    rw [dt]
    have h1:=nQ ns n
    split
    · exact Nat.zero_le _
    · split
      · have:=h1 (k+3); simp only [Q.dep]; omega
      · have a:=h1 (5*k+7); have b:=h1 (5*k+18); have c:=h1 (5*k+29); have d:=h1 (5*k+40); simp only [Q.dep]; omega
theorem nR (ns:List Int):∀ n k,(dt ns n k).All W9
  | 0,k=>oQ ns k
  | n+1,k=>by
    rw [dt]
    have h1:=nR ns n
    split
    · exact oQ ns k
    · split
      · exact ⟨h1 _,h1 _,h1 _,h1 _⟩
      · exact ⟨h1 _,h1 _,h1 _,h1 _⟩
theorem mE {n:Nat} (hn:2≤n) (ns:List Int) (k:Nat):((((dAdd (.int (k:Int)) (.int 1)).bind fun x=>pf n F.L_pick [scr ns,x,(.int 10)]).bind fun x1=>.ok (.lst [(.int 0),(.int 1),(.int 1),(.int 2),(.int 9),x1])).bind fun x2=>((dAdd (.int (k:Int)) (.int 2)).bind fun x3=>pf n F.L_pick [scr ns,x3,(.int 6)]).bind fun x4=>dIx x2 x4)=.ok (.int (dleaf ns k)):=by
  simp only [cS,R.bind_ok]
  rw [eh hn ns (k+1) (by omega) (by decide),eh hn ns (k+2) (by omega) (by decide)]
  simp only [R.bind_ok]
  have h0:=fY (ns:=ns) (k:=k+2) (m:=6) (by decide)
  have h1:=fZ (ns:=ns) (k:=k+2) (m:=6) (by decide)
  unfold dleaf
  obtain ⟨j,hj⟩:∃ j:Nat,pk ns (k+2) 6=(j:Int):=⟨(pk ns (k+2) 6).toNat,by omega⟩
  rw [hj] at h1 ⊢
  have:j < 6:=by omega
  rcases j with _ | _ | _ | _ | _ | _ | j<;>first | rfl | omega
theorem rep4 (x:D):dMul (.tup [x]) (.int 4)=.ok (.tup [x,x,x,x]):=rfl
theorem rng4:rng1 [.int 4]=.ok [.int 0,.int 1,.int 2,.int 3]:=rfl
theorem mF (ns:List Int):∀ (s k n:Nat),s+3≤n→pf n F.L_tree [scr ns,.int k,.int s]=.ok ((dt ns s k).d .int):=by
  intro s
  induction s with
  | zero =>
    intro k n hn
    obtain ⟨n,rfl,hn⟩:=ex1 (show 2+1≤n by omega)
    rw [kB,dW,fw (by omega) ns k (by decide)]
    simp only [bX]
    rw [mE (by omega)]
    simp [dt,Q.d]
  | succ s ih =>
    intro k n hn
    obtain ⟨n,rfl,hn⟩:=ex1 (show s+3+1≤n by omega)
    rw [kB,dW,fw (by omega) ns k (by decide)]
    simp only [bX]
    rw [mE (by omega)]
    have hs:¬ (((s+1:Nat):Int)=0):=by omega
    have hs1:((s+1:Nat):Int) - 1=(s:Int):=by omega
    have ih':∀ (a:Int) (j:Nat),a=(j:Int)→pf n F.L_tree [scr ns,.int a,.int (s:Int)]=.ok ((dt ns s j).d .int):=fun a j e=>by subst e; exact ih j n (by omega)
    rw [dt]
    by_cases h2:pk ns k 6 < 2
    · simp only [STP,if_true,if_false,ite_true,ite_false,reduceIte,reduceCtorEq,OPP,decide_eq_false hs,decide_eq_true h2,if_pos h2,Q.d]
    · by_cases h3:pk ns k 6=2
      · have e:=ih' ((k:Int)+3) (k+3) (by omega)
        simp only [STP,if_true,if_false,ite_true,ite_false,reduceIte,reduceCtorEq,OPP,decide_eq_false hs,decide_eq_false h2,decide_eq_true h3,if_neg h2,if_pos h3,hs1,e,rep4,Q.d]
      · have step:∀ (i:Nat) ,(((dMul (.int 5) (.int (k:Int))).bind fun x9=>dAdd x9 (.int 7)).bind fun x10=>(dMul (.int 11) (.int (i:Int))).bind fun x11=>dAdd x10 x11).bind (fun x12=>pf n F.L_tree [scr ns,x12,.int (s:Int)])=.ok ((dt ns s (5*k+7+11*i)).d .int):=fun i=>by
          rw [cT (.inr (by decide)),cT (.inr (by decide))]
          simp only [R.bind_ok,cS]
          exact ih' _ _ (by omega)
        have e:cMap (fun l_k=>(((dMul (.int 5) (.int (k:Int))).bind fun x9=>dAdd x9 (.int 7)).bind fun x10=>(dMul (.int 11) l_k).bind fun x11=>dAdd x10 x11).bind fun x12=>pf n F.L_tree [scr ns,x12,.int (s:Int)]) [.int 0,.int 1,.int 2,.int 3]=.ok (.lst [(dt ns s (5*k+7)).d .int,(dt ns s (5*k+18)).d .int,(dt ns s (5*k+29)).d .int,(dt ns s (5*k+40)).d .int]):=cMap4 (step 0) (step 1) (step 2) (step 3)
        simp only [STP,if_true,if_false,ite_true,ite_false,reduceIte,reduceCtorEq,OPP,decide_eq_false hs,decide_eq_false h2,decide_eq_false h3,if_neg h2,if_neg h3,hs1,rng4]
        rw [e]
        rfl
structure Pc (sz:Nat) (t:Q Int):Prop where
  h3:sz≤3
  dep:t.dep≤sz
  all:t.All W9
def picD (sz:Nat) (t:Q Int):D:=.tup [.int (sz:Int),t.d .int]
theorem oR (ns:List Int) (k most n:Nat) (hm:most≤3) (hn:7≤n):∃ sz t,sz≤most∧Pc sz t∧pf n F.L_picture [scr ns,.int k,.int most]=.ok (picD sz t):=by
  obtain ⟨n,rfl,hn⟩:=ex1 (show 6+1≤n by omega)
  have h0:=fY (ns:=ns) (k:=k) (m:=7) (by decide)
  have h1:=fZ (ns:=ns) (k:=k) (m:=7) (by decide)
  obtain ⟨j,hj⟩:∃ j:Nat,pk ns k 7=(j:Int):=⟨(pk ns k 7).toNat,by omega⟩
  rw [hj] at h1
  have hj7:j < 7:=by omega
  obtain ⟨c,hc3,hc⟩:∃ c:Nat,c≤3∧dIx (.lst [(.int 0),(.int 0),(.int 0),(.int 1),(.int 1),(.int 2),(.int 3)]) (.int (j:Int))=.ok (.int (c:Int)):=by
    rcases j with _ | _ | _ | _ | _ | _ | _ | j
    · exact ⟨0,by omega,rfl⟩
    · exact ⟨0,by omega,rfl⟩
    · exact ⟨0,by omega,rfl⟩
    · exact ⟨1,by omega,rfl⟩
    · exact ⟨1,by omega,rfl⟩
    · exact ⟨2,by omega,rfl⟩
    · exact ⟨3,by omega,rfl⟩
    · omega
  refine ⟨most - c,dt ns (most - c) (k+1),by omega,⟨by omega,nQ _ _ _,nR _ _ _⟩,?_⟩
  have hx:dMax2 [.int 0,.int ((most:Int) - (c:Int))]=.ok (.int ((most - c:Nat):Int)):=by
    show R.ok (D.int (if (most:Int) - c > 0 then (most:Int) - c else 0))=_
    congr 2
    split<;>omega
  rw [lg,cD,fw (by omega) ns k (by decide),R.bind_ok,hj,hc]
  simp only [R.bind_ok,d6,hx,bX,cS]
  have e:((k:Int)+1)=((k+1:Nat):Int):=by omega
  rw [e,mF ns (most - c) (k+1) n (by omega)]
  rfl
end Lw
end
section
set_option linter.all false
set_option maxRecDepth 10000
namespace Lw
open PySem FF
section
variable {α:Type} [DecidableEq α] {e:α→D}
theorem bZ:∀ {n m:Nat} {d:D},good n d=true→n≤m→good m d=true
  | n,m,.non,_,_=>by cases m<;>rfl
  | n,m,.bl _,_,_=>by cases m<;>rfl
  | n,m,.int _,_,_=>by cases m<;>rfl
  | n,m,.str _,_,_=>by cases m<;>rfl
  | n,m,.exc _,h,_=>by cases n<;>simp [good] at h
  | n,m,.fn _,h,_=>by cases n<;>simp [good] at h
  | 0,m,.tup _,h,_=>by simp [good] at h
  | 0,m,.lst _,h,_=>by simp [good] at h
  | n+1,0,.tup _,_,l=>by omega
  | n+1,0,.lst _,_,l=>by omega
  | n+1,m+1,.tup xs,h,l=>by
    rw [good] at h ⊢
    exact cc fun d hd=>bZ (n:=n) (dO h d hd) (by omega)
  | n+1,m+1,.lst xs,h,l=>by
    rw [good] at h ⊢
    exact cc fun d hd=>bZ (n:=n) (dO h d hd) (by omega)
theorem Q.g60 (E:En e) {t:Q α} (h:t.dep≤50):good 50 (t.d e)=true:=Q.gd E 50 t h
theorem r9 (E:En e) {n:Nat} (hn:1≤n) {a b c d:Q α} (ha:a.dep≤50) (hb:b.dep≤50) (hc:c.dep≤50) (hd:d.dep≤50):pf n F.put_together [.tup [a.d e,b.d e,c.d e,d.d e]]=.ok ((put4 a b c d).d e):=by
  obtain ⟨n,rfl,hn⟩:=ex1 hn
  rw [iP,bw]
  cases a with
  | nd a1 a2 a3 a4=>simp only [STP,if_true,if_false,ite_true,ite_false,reduceIte,reduceCtorEq,OPP,Q.d,put4]
  | lf v =>
    have e1:dIsA qTup (Q.d e (.lf v))=.ok (.bl false):=bO (E.tup v) (b9 (E.gd 0 v))
    have gv:good 59 (e v)=true:=E.gd 59 v
    have e2:dEq (.tup [Q.d e (.lf v),b.d e,c.d e,d.d e]) (.tup [Q.d e (.lf v),Q.d e (.lf v),Q.d e (.lf v),Q.d e (.lf v)])=.ok (.bl (decide (b=.lf v)&&(decide (c=.lf v)&&decide (d=.lf v)))):=by
      rw [dk]
      · rw [eqD,eqDs,eqDs,eqDs,eqDs,eqDs,Q.eqd E,Q.eqd E,Q.eqd E,Q.eqd E]
        simp
      · rw [good,goods,goods,goods,goods,goods,bZ (Q.gd E 50 b hb) (by decide),bZ (Q.gd E 50 c hc) (by decide),bZ (Q.gd E 50 d hd) (by decide),Q.d,gv]
        rfl
      · rw [good,goods,goods,goods,goods,goods,Q.d,gv]
        rfl
    simp only [STP,if_true,if_false,ite_true,ite_false,reduceIte,reduceCtorEq,OPP,e1,e2]
    unfold put4
    by_cases hb':b=.lf v
    · by_cases hc':c=.lf v
      · by_cases hd':d=.lf v
        · simp [hb',hc',hd']
        · simp [hb',hc',hd',Q.d]
      · simp [hb',hc',Q.d]
    · simp [hb',Q.d]
theorem cU (E:En e):∀ (t:Q α) (n:Nat),t.dep≤40→t.dep+2≤n→pf n F.lean_tree [t.d e]=.ok (t.lean.d e)
  | .lf a,n,_,hn=>by
    obtain ⟨n,rfl,hn⟩:=ex1 (show 1+1≤n by omega)
    rw [gG,b4]
    have e1:dIsA qTup (Q.d e (.lf a))=.ok (.bl false):=bO (E.tup a) (b9 (E.gd 0 a))
    simp only [STP,if_true,if_false,ite_true,ite_false,reduceIte,reduceCtorEq,e1,Q.lean]
  | .nd a b c d,n,hd,hn=>by
    have hd':1+max (max a.dep b.dep) (max c.dep d.dep)≤40:=hd
    have hn':1+max (max a.dep b.dep) (max c.dep d.dep)+2≤n:=hn
    obtain ⟨n,rfl,hn⟩:=ex1 (show max (max a.dep b.dep) (max c.dep d.dep)+2+1≤n by omega)
    rw [gG,b4]
    have ka:=cU E a n (by omega) (by omega)
    have kb:=cU E b n (by omega) (by omega)
    have kc:=cU E c n (by omega) (by omega)
    have kd:=cU E d n (by omega) (by omega)
    have hm:cMap (fun part=>pf n F.lean_tree [part]) [a.d e,b.d e,c.d e,d.d e]=.ok (.lst [a.lean.d e,b.lean.d e,c.lean.d e,d.lean.d e]):=cMap4 ka kb kc kd
    have hp:=r9 E (n:=n) (by omega) (a:=a.lean) (b:=b.lean) (c:=c.lean) (d:=d.lean) (gO (n:=50) (by omega)) (gO (n:=50) (by omega)) (gO (n:=50) (by omega)) (gO (n:=50) (by omega))
    rw [Q.d]
    simp only [STP,if_true,if_false,ite_true,ite_false,reduceIte,reduceCtorEq,OPP,sq4,hm,hp,Q.lean]
theorem oS:∀ {n:Nat} {d:D},isTup d=false→isLst d=false→slim n d=true
  | 0,d,_,_=>by cases d<;>rfl
  | n+1,d,h,h'=>by cases d<;>first | rfl | (cases h; done) | (cases h'; done)
theorem iA (hl:∀ a,isLst (e a)=false) (E:En e):∀ (n:Nat) (t:Q α),slim n (t.d e)=true
  | n,.lf a=>oS (E.tup a) (hl a)
  | 0,.nd ..=>rfl
  | n+1,.nd a b c d=>by
    rw [Q.d,Lw.slim]
    simp only [List.all_cons,List.all_nil,iA hl E n a,iA hl E n b,iA hl E n c,iA hl E n d,List.length_cons,List.length_nil]
    rfl
theorem iB {p:D→Bool} (E:En e):∀ (m:Nat) (s:Nat) (t:Q α),t.dep≤m→t.dep≤s→t.All (fun a=>p (e a)=true)→treeOk p m s (t.d e)=true
  | m,s,.lf a,_,_,h=>by
    have:treeOk p m s (e a)=p (e a):=by
      have:=E.tup a
      cases m with
      | zero=>cases e a<;>rfl
      | succ m=>cases q:e a<;>first | rfl | (rw [q] at this; cases this)
    exact this.trans h
  | 0,s,.nd a b c d,h,_,_=>by simp [Q.dep] at h
  | m+1,0,.nd a b c d,_,h,_=>by simp [Q.dep] at h
  | m+1,s+1,.nd a b c d,h,h',hall=>by
    have h1:1+max (max a.dep b.dep) (max c.dep d.dep)≤m+1:=h
    have h2:1+max (max a.dep b.dep) (max c.dep d.dep)≤s+1:=h'
    rw [Q.d,Lw.treeOk,show ((s+1:Nat):Int) - 1=(s:Int) by omega]
    have h0:((s+1:Nat):Int)≠0:=by omega
    simp only [List.all_cons,List.all_nil,iB E m s a (by omega) (by omega) hall.1,iB E m s b (by omega) (by omega) hall.2.1,iB E m s c (by omega) (by omega) hall.2.2.1,iB E m s d (by omega) (by omega) hall.2.2.2,List.length_cons,List.length_nil,decide_eq_true h0]
    rfl
end
theorem fS {α:Type} {p q:α→Prop} (h:∀ a,p a→q a):∀ {t:Q α},t.All p→t.All q
  | .lf a,x=>h a x
  | .nd _ _ _ _,x=>⟨fS h x.1,fS h x.2.1,fS h x.2.2.1,fS h x.2.2.2⟩
theorem in9 {v:Int} (h:W9 v):inTo 9 (.int v)=true:=by simp [inTo,h.1,h.2]
theorem sd:fvL.contains F.is_worth=true:=by decide
theorem se {n m:Nat} {d:D} (hg:good (m+1) d=true) (hs:slim (m+1) d=true) (hn:m+5≤n):pf n F.is_picture [d]=.ok (.bl (sizedOk (inTo 9) m d)):=by
  obtain ⟨n,rfl,hn⟩:=ex1 (show m+4+1≤n by omega)
  rw [ke,ce,mD (c:=2) (p:=inTo 9) (by decide) sd (fun m d h1 h2=>mC h1 h2) m n d hg hs (by omega)]
  rfl
theorem kG {n m:Nat} {d:D} (hg:good (m+1) d=true) (hs:slim (m+1) d=true) (hn:m+6≤n):pf n F.check_picture [d]=if sizedOk (inTo 9) m d=true then .ok .non else .err 1:=by
  obtain ⟨n,rfl,hn⟩:=ex1 (show m+5+1≤n by omega)
  rw [ik,bc,se hg hs (by omega)]
  cases sizedOk (inTo 9) m d<;>rfl
section
variable {sz:Nat} {t:Q Int}
theorem Pc.good (p:Pc sz t):good 4 (picD sz t)=true:=by
  unfold picD
  rw [FF.good,goods,goods,goods,Q.gd En.int 3 t (Nat.le_trans p.dep p.h3)]
  rfl
theorem Pc.slim (p:Pc sz t):slim 4 (picD sz t)=true:=by
  unfold picD
  rw [Lw.slim]
  simp only [List.all_cons,List.all_nil,iA (fun _=>rfl) En.int,oS (d:=.int (sz:Int)) rfl rfl,List.length_cons,List.length_nil]
  rfl
theorem Pc.sized (p:Pc sz t):sizedOk (inTo 9) 3 (picD sz t)=true:=by
  have h3:=p.h3
  have h1:inTo 3 (.int (sz:Int))=true:=by simp [inTo]; omega
  unfold picD sizedOk
  simp only [h1,iB En.int 3 sz t (Nat.le_trans p.dep p.h3) p.dep (fS (fun a h=>in9 h) p.all)]
  rfl
theorem Pc.check (p:Pc sz t) {n:Nat} (hn:9≤n):pf n F.check_picture [picD sz t]=.ok .non:=by rw [kG p.good p.slim hn,p.sized]; rfl
theorem pc_T {f:Nat→Nat→Int} (h3:sz≤3) (h:∀ x y,x < 2^sz→y < 2^sz→W9 (f x y)):Pc sz (T f sz):=⟨h3,d5 sz f,kE sz f h⟩
theorem Pc.at (p:Pc sz t) (x y:Nat):W9 (t.at sz x y):=gn sz t x y p.all
end
end Lw
end
section
set_option linter.all false
set_option maxRecDepth 10000
namespace Lw
open PySem FF
section
variable {α:Type} [DecidableEq α] {e:α→D}
theorem p8 {s:Nat} (h:s≤3):2^s≤8:=by
  have:s=0∨s=1∨s=2∨s=3:=by omega
  rcases this with rfl | rfl | rfl | rfl<;>decide
theorem pos2 (s:Nat):0 < 2^s:=Nat.pow_pos (by decide)
theorem sf {a b:Nat} (h0:0 < b) (h1:b < 1073741824):dDiv (.int (a:Int)) (.int (b:Int))=.ok (.int ((a/b:Nat):Int)):=by
  rw [mx (by omega) (by omega)]; rfl
end
def rowT {α:Type} (e:α→D) (f:Nat→Nat→α) (w y:Nat):D:=.tup ((List.range w).map fun x=>e (f x y))
def rowsT {α:Type} (e:α→D) (f:Nat→Nat→α) (w h:Nat):D:=.tup ((List.range h).map fun y=>rowT e f w y)
theorem oU {s:Nat} (h:s≤16777216):rng1 [.int (s:Int)]=.ok ((List.range s).map fun i=>D.int ((i:Nat):Int)):=by
  show (if -16777216≤(s:Int)∧(s:Int)≤16777216 then R.ok (rngD 0 (s:Int).toNat) else R.stuck)=_
  rw [if_pos ⟨by omega,by omega⟩]
  unfold rngD
  simp
theorem nT {α:Type} {e:α→D} {f g:Nat→Nat→α} {w y:Nat} (h:∀ x,x < w→f x y=g x y):rowT e f w y=rowT e g w y:=by
  unfold rowT
  congr 1
  exact List.map_congr_left fun x hx=>by rw [h x (List.mem_range.mp hx)]
theorem mG {α:Type} {e:α→D} {f g:Nat→Nat→α} {w k:Nat} (h:∀ x y,x < w→y < k→f x y=g x y):rowsT e f w k=rowsT e g w k:=by
  unfold rowsT
  congr 1
  exact List.map_congr_left fun y hy=>nT fun x hx=>h x y hx (List.mem_range.mp hy)
theorem qi {α:Type} {e:α→D} (hE:∀ n a,good n (e a)=true) (f:Nat→Nat→α) (w y n:Nat):good (n+1) (rowT e f w y)=true:=by
  unfold rowT
  rw [good]
  exact cc fun d hd=>by
    obtain ⟨x,_,rfl⟩:=List.mem_map.mp hd
    exact hE n _
theorem jO {α:Type} {e:α→D} (hE:∀ n a,good n (e a)=true) (f:Nat→Nat→α) (w k n:Nat):good (n+2) (rowsT e f w k)=true:=by
  unfold rowsT
  rw [good]
  exact cc fun d hd=>by
    obtain ⟨x,_,rfl⟩:=List.mem_map.mp hd
    exact qi hE f w x n
section
variable {sz:Nat} {t:Q Int}
end
end Lw
end
section
set_option linter.all false
set_option maxRecDepth 10000
namespace Lw
open PySem FF
theorem lw (n:Nat):dDiv (.int ((2^(n+1):Nat):Int)) (.int 2)=.ok (.int ((2^n:Nat):Int)):=by
  have:=sf (a:=2^(n+1)) (b:=2) (by decide) (by decide)
  rw [show (2^(n+1)/2:Nat)=2^n by rw [dh]; omega] at this
  exact this
theorem nU {sz:Nat} (h:sz≤3):sz=0∨sz=1∨sz=2∨sz=3:=by omega
theorem nV {sz:Nat} (h:sz≤3):dIndexI [(.int 1),(.int 2),(.int 4),(.int 8)] [.int ((2^sz:Nat):Int)]=.ok (.int (sz:Int)):=by
  rcases nU h with rfl | rfl | rfl | rfl<;>rfl
def Wo (f:Nat→Nat→Int) (sz:Nat):Prop:=∀ x y,x < 2^sz→y < 2^sz→W9 (f x y)
def rowL {α:Type} (e:α→D) (f:Nat→Nat→α) (w y:Nat):D:=.lst ((List.range w).map fun x=>e (f x y))
def rowsL {α:Type} (e:α→D) (f:Nat→Nat→α) (w h:Nat):D:=.lst ((List.range h).map fun y=>rowL e f w y)
theorem mH {α:Type} {e:α→D} {f:Nat→Nat→α} {w k y:Nat} (h:y < k):dIx (rowsL e f w k) (.int (y:Int))=.ok (rowL e f w y):=ixL (by simp [h])
theorem catL {xs ys:List D} (h:xs.length+ys.length≤16777216):dAdd (.lst xs) (.lst ys)=.ok (.lst (xs++ys)):=by
  show (if xs.length+ys.length≤16777216 then R.ok (D.lst (xs++ys)) else R.stuck)=_
  rw [if_pos h]
theorem mI {α:Type} {e:α→D} {fa fb F:Nat→Nat→α} {h y y':Nat} (ha:∀ x,x < h→F x y'=fa x y) (hb:∀ x,x < h→F (h+x) y'=fb x y):((List.range h).map fun x=>e (fa x y))++((List.range h).map fun x=>e (fb x y))=(List.range (h+h)).map fun x=>e (F x y'):=by
  rw [List.range_add,List.map_append,List.map_map]
  congr 1
  · exact List.map_congr_left fun x hx=>by rw [ha x (List.mem_range.mp hx)]
  · exact List.map_congr_left fun x hx=>by show _=e (F (h+x) y'); rw [hb x (List.mem_range.mp hx)]
theorem jP {xs ys:List D} (h:xs.length+ys.length≤16777216):oExt xs (.lst ys)=.ok (xs++ys):=by unfold oExt; simp [h]
theorem sg {xs ys:List D} (h:xs.length+ys.length≤16777216):oExt xs (.tup ys)=.ok (xs++ys):=by unfold oExt; simp [h]
theorem lx {xs:List D} {y:D} (h:xs.length < 16777216):oApp xs y=.ok (xs++[y]):=by unfold oApp; simp [h]
section
variable {α:Type} [DecidableEq α] {e:α→D}
theorem mJ {fa fb F:Nat→Nat→α} {h o:Nat} (hh:h≤1000) {some_:List D} {u:Nat} (e1:some_[u]?=some (rowsL e fa h h)) (e2:some_[u+1]?=some (rowsL e fb h h)) (ha:∀ x y,x < h→y < h→F x (o+y)=fa x y) (hb:∀ x y,x < h→y < h→F (h+x) (o+y)=fb x y) {t:Nat→List D→R D} {made:List D} (hm:made.length≤1000) :
    dX t (.lst some_) made (.int (u:Int))=.nx (made++(List.range h).map fun y=>rowL e F (h+h) (o+y)):=by
  have i1:=ixL e1
  have i2:dIx (.lst some_) (.int ((u:Int)+1))=.ok (rowsL e fb h h):=by have:=ixL e2; rw [show ((u+1:Nat):Int)=(u:Int)+1 by omega] at this; exact this
  have hl:dLen [rowsL e fa h h]=.ok (.int (h:Int)):=by unfold rowsL; rw [gP,List.length_map,List.length_range]
  have hc:cMap (fun l_k=>((dIx (.lst some_) (.int (u:Int))).bind fun x2=>dIx x2 l_k).bind fun x3=>(((dAdd (.int (u:Int)) (.int 1)).bind fun x4=>dIx (.lst some_) x4).bind fun x5=>dIx x5 l_k).bind fun x6=>dAdd x3 x6) ((List.range h).map fun i=>D.int ((i:Nat):Int))=.ok (.lst ((List.range h).map fun y=>rowL e F (h+h) (o+y))) :=
    du _ _ fun y hy=>by
      have hy:=List.mem_range.mp hy
      rw [i1]
      simp only [STP,if_true,if_false,ite_true,ite_false,reduceIte,reduceCtorEq,OPP,i2,mH hy]
      unfold rowL
      rw [catL (by simp; omega),mI (F:=F) (y':=o+y) (fun x hx=>ha x y hx hy) (fun x hx=>hb x y hx hy)]
  unfold dX
  rw [i1]
  simp only [STP,if_true,if_false,ite_true,ite_false,reduceIte,reduceCtorEq,hl,oU (show h≤16777216 by omega)]
  rw [i1] at hc
  simp only [STP,if_true,if_false,ite_true,ite_false,reduceIte,reduceCtorEq] at hc
  simp only [STP,if_true,if_false,ite_true,ite_false,reduceIte,reduceCtorEq,hc]
  rw [jP (by simp; omega)]
  rfl
theorem d7 (E:En e):∀ (s:Nat) (t:Q α) (n:Nat),s≤3→t.dep≤s→s+1≤n→pf n F.L_rows_of [.int (s:Int),t.d e]=.ok (rowsL e (t.at s) (2^s) (2^s))
  | 0,t,n,_,hd,hn=>by
    obtain ⟨n,rfl,hn⟩:=ex1 (show 0+1≤n by omega)
    rw [gH,b5,show ((0:Nat):Int)=0 from rfl]
    simp only [STP,if_true,if_false,ite_true,ite_false,reduceIte,reduceCtorEq,OPP,decide_true]
    cases t with
    | lf a=>rfl
    | nd=>simp [Q.dep] at hd
  | s+1,t,n,h3,hd,hn=>by
    obtain ⟨n,rfl,hn⟩:=ex1 (show s+1+1≤n by omega)
    have e0:¬ (((s+1:Nat):Int)=0):=by omega
    have e1:((s+1:Nat):Int) - 1=(s:Int):=by omega
    have h8:=p8 (show s≤3 by omega)
    obtain ⟨a,b,c,d,hq,ha,hb,hc,hd4,hF⟩:∃ a b c d:Q α,(rIf (asB (dIsA qTup (t.d e))) (.ok (t.d e)) (dMul (.tup [t.d e]) (.int 4)))=.ok (.tup [a.d e,b.d e,c.d e,d.d e])∧a.dep≤s∧b.dep≤s∧c.dep≤s∧d.dep≤s∧∀ x y,t.at (s+1) x y=(Q.nd a b c d).at (s+1) x y:=by
      cases t with
      | lf v =>
        refine ⟨.lf v,.lf v,.lf v,.lf v,?_,Nat.zero_le _,Nat.zero_le _,Nat.zero_le _,Nat.zero_le _,fun x y=>by simp [Q.at]⟩
        rw [bO (d:=Q.d e (.lf v)) (E.tup v) (b9 (E.gd 0 v))]
        rfl
      | nd a b c d =>
        have hd':1+max (max a.dep b.dep) (max c.dep d.dep)≤s+1:=hd
        exact ⟨a,b,c,d,rfl,by omega,by omega,by omega,by omega,fun _ _=>rfl⟩
    have ka:=d7 E s a n (by omega) ha (by omega)
    have kb:=d7 E s b n (by omega) hb (by omega)
    have kc:=d7 E s c n (by omega) hc (by omega)
    have kd:=d7 E s d n (by omega) hd4 (by omega)
    have hm:cMap (fun l_part=>(dSub (.int ((s+1:Nat):Int)) (.int 1)).bind fun x=>pf n F.L_rows_of [x,l_part]) [a.d e,b.d e,c.d e,d.d e]=.ok (.lst [rowsL e (a.at s) (2^s) (2^s),rowsL e (b.at s) (2^s) (2^s),rowsL e (c.at s) (2^s) (2^s),rowsL e (d.at s) (2^s) (2^s)]):=by
      rw [d6,e1]; exact cMap4 ka kb kc kd
    have u1:=mJ (e:=e) (fa:=a.at s) (fb:=b.at s) (F:=t.at (s+1)) (h:=2^s) (o:=0) (by omega) (some_:=[rowsL e (a.at s) (2^s) (2^s),rowsL e (b.at s) (2^s) (2^s),rowsL e (c.at s) (2^s) (2^s),rowsL e (d.at s) (2^s) (2^s)]) (u:=0) rfl rfl
      (fun x y hx hy=>by rw [hF,Q.at,if_pos (by omega),if_pos hx,Nat.zero_add]) (fun x y hx hy=>by rw [hF,Q.at,if_pos (by omega),if_neg (by omega),Nat.zero_add,Nat.add_sub_cancel_left]) (t:=pf n) (made:=[]) (by simp)
    have u2:=mJ (e:=e) (fa:=c.at s) (fb:=d.at s) (F:=t.at (s+1)) (h:=2^s) (o:=2^s) (by omega) (some_:=[rowsL e (a.at s) (2^s) (2^s),rowsL e (b.at s) (2^s) (2^s),rowsL e (c.at s) (2^s) (2^s),rowsL e (d.at s) (2^s) (2^s)]) (u:=2) rfl rfl
      (fun x y hx hy=>by rw [hF,Q.at,if_neg (by omega),if_pos hx,Nat.add_sub_cancel_left]) (fun x y hx hy=>by rw [hF,Q.at,if_neg (by omega),if_neg (by omega),Nat.add_sub_cancel_left,Nat.add_sub_cancel_left]) (t:=pf n) (made:=(List.range (2^s)).map fun y=>rowL e (t.at (s+1)) (2^s+2^s) (0+y)) (by simp; omega)
    rw [gH,b5,hq]
    have hs2:sq (.tup [(.int 0),(.int 2)])=.ok [.int 0,.int 2]:=rfl
    rw [show ((0:Nat):Int)=0 from rfl] at u1
    rw [show ((2:Nat):Int)=2 from rfl] at u2
    simp only [STP,if_true,if_false,ite_true,ite_false,reduceIte,reduceCtorEq,OPP,decide_eq_false e0,sq4,e1,hs2,aQ,di] at hm ⊢
    simp only [STP,if_true,if_false,ite_true,ite_false,reduceIte,reduceCtorEq,hm,u1,List.nil_append] at u2 ⊢
    simp only [STP,if_true,if_false,ite_true,ite_false,reduceIte,reduceCtorEq,u2]
    unfold rowsL
    rw [dh,List.range_add,List.map_append,List.map_map]
    simp [Function.comp_def]
end
theorem Pc.lrows {sz:Nat} {t:Q Int} (p:Pc sz t) {n:Nat} (hn:5≤n):pf n F.L_rows [picD sz t]=.ok (rowsT .int (t.at sz) (2^sz) (2^sz)):=by
  obtain ⟨n,rfl,hn⟩:=ex1 (show 4+1≤n by omega)
  have h3:=p.h3
  have h8:=p8 h3
  have e1:=d7 En.int sz t n h3 p.dep (by omega)
  have hsq:sq (rowsL .int (t.at sz) (2^sz) (2^sz))=.ok ((List.range (2^sz)).map fun y=>rowL .int (t.at sz) (2^sz) y):=eB (by simp; omega)
  have hm:cMap (fun l_row=>dTuple [l_row]) ((List.range (2^sz)).map fun y=>rowL .int (t.at sz) (2^sz) y)=.ok (.lst ((List.range (2^sz)).map fun y=>rowT .int (t.at sz) (2^sz) y)):=du _ _ fun y _=>rfl
  rw [pU,eL]
  unfold picD
  simp only [STP,if_true,if_false,ite_true,ite_false,reduceIte,reduceCtorEq,OPP,e1,hsq,hm]
  rfl
end Lw
end
section
set_option linter.all false
set_option maxRecDepth 10000
namespace Lw
open PySem FF
theorem jQ {α:Type} (c:α→D) {step:List D→D→L (List D)} (g:α→List D) (m:Nat):∀ (l:List α) (acc:List D),(∀ a∈l,∀ acc:List D,acc.length≤10000→step acc (c a)=.nx (acc++g a))→(∀ a∈l,(g a).length≤m)→acc.length+l.length*m≤10000→lFor step (l.map c) acc=.nx (acc++l.flatMap g)
  | [],acc,_,_,_=>by simp
  | a::l,acc,h,hm,hl=>by
    have hl':acc.length+(l.length+1)*m≤10000:=hl
    rw [Nat.add_mul] at hl'
    have ha:=hm a (.head _)
    rw [List.map_cons,aQ,h a (.head _) acc (by omega),lT,jQ c g m l (acc++g a) (fun b hb=>h b (.tail _ hb)) (fun b hb=>hm b (.tail _ hb)) (by rw [List.length_append]; omega),List.flatMap_cons,List.append_assoc]
theorem jR:∀ is:List Int,intsOf (is.map .int)=some is
  | []=>rfl
  | i::r=>by rw [List.map_cons,intsOf,jR r]; rfl
def vals (f:Nat→Nat→Int) (w k:Nat):List Int:=(List.range k).flatMap fun y=>(List.range w).map fun x=>f x y
theorem si (f:Nat→Nat→Int) (w k:Nat):(vals f w k).length=k*w:=by
  unfold vals
  rw [List.length_flatMap]
  have:∀ l:List Nat,(l.map fun y=>((List.range w).map fun x=>f x y).length).sum=l.length*w:=fun l=>by
    induction l with
    | nil=>simp
    | cons a l ih=>rw [List.map_cons,List.sum_cons,ih,List.length_map,List.length_range,List.length_cons,Nat.add_mul]; omega
  rw [this,List.length_range]
theorem mK {f:Nat→Nat→Int} {w k:Nat} {v:Int}:v∈vals f w k↔∃ x y,x < w∧y < k∧v=f x y:=by
  unfold vals
  simp only [List.mem_flatMap,List.mem_map,List.mem_range]
  constructor
  · rintro ⟨y,hy,x,hx,rfl⟩; exact ⟨x,y,hx,hy,rfl⟩
  · rintro ⟨x,y,hx,hy,rfl⟩; exact ⟨y,hy,x,hx,rfl⟩
theorem sj:∀ {l:List Int},l.eraseDups.length=1↔∃ a r,l=a::r∧∀ v∈l,v=a
  | []=>by simp
  | a::r=>by
    rw [List.eraseDups_cons]
    constructor
    · intro h
      have h0:(r.filter fun b=>!b==a).eraseDups=[]:=List.length_eq_zero_iff.mp (by simpa using h)
      have h1:(r.filter fun b=>!b==a)=[]:=by
        cases q:(r.filter fun b=>!b==a) with
        | nil=>rfl
        | cons b s=>rw [q,List.eraseDups_cons] at h0; cases h0
      refine ⟨a,r,rfl,fun v hv=>?_⟩
      cases hv with
      | head=>rfl
      | tail _ hv =>
        rw [List.filter_eq_nil_iff] at h1
        simpa using h1 v hv
    · rintro ⟨a',r',e,h⟩
      cases e
      have:(r.filter fun b=>!b==a)=[]:=List.filter_eq_nil_iff.mpr fun v hv=>by simpa using h v (.tail _ hv)
      rw [this]; rfl
theorem kH {f:Nat→Nat→Int} {w k:Nat} (hw:0 < w) (hk:0 < k):∃ r,vals f w k=f 0 0::r:=by
  obtain ⟨w,rfl⟩:∃ m,w=m+1:=⟨w - 1,by omega⟩
  obtain ⟨k,rfl⟩:∃ m,k=m+1:=⟨k - 1,by omega⟩
  unfold vals
  rw [List.range_succ_eq_map (n:=k),List.flatMap_cons,List.range_succ_eq_map (n:=w),List.map_cons]
  exact ⟨_,rfl⟩
theorem sk {f:Nat→Nat→Int} {w k:Nat} (hw:0 < w) (hk:0 < k):(vals f w k).eraseDups.length=1↔∀ x y,x < w→y < k→f x y=f 0 0:=by
  rw [sj]
  obtain ⟨r,hr⟩:=kH (f:=f) hw hk
  constructor
  · rintro ⟨a,r',e,h⟩ x y hx hy
    rw [hr] at e
    cases e
    exact h _ (mK.mpr ⟨x,y,hx,hy,rfl⟩)
  · intro h
    refine ⟨_,r,hr,fun v hv=>?_⟩
    obtain ⟨x,y,hx,hy,rfl⟩:=mK.mp hv
    exact h x y hx hy
theorem T_nd {α:Type} [DecidableEq α] {n:Nat} {f:Nat→Nat→α} (h:¬ ∀ x y,x < 2^(n+1)→y < 2^(n+1)→f x y=f 0 0):T f (n+1)=.nd (T f n) (T (sh f (2^n) 0) n) (T (sh f 0 (2^n)) n) (T (sh f (2^n) (2^n)) n):=by
  by_cases q:∃ v,T f (n+1)=.lf v
  · obtain ⟨v,q⟩:=q
    exfalso
    apply h
    intro x y hx hy
    have:=T_at (n+1) f x y hx hy
    rw [q,fX] at this
    have h0:=T_at (n+1) f 0 0 (pos2 _) (pos2 _)
    rw [q,fX] at h0
    rw [← this,h0]
  · rw [T] at q ⊢
    unfold put4 at q ⊢
    split
    · rename_i v e
      split
      · rename_i h'; exfalso; apply q; rw [e]; simp only; rw [if_pos h']; exact ⟨v,rfl⟩
      · rw [e]
    · rfl
theorem i7 {n d k:Nat} (h:k≤n):HT.sIx n d (some ((k:Nat):Int))=k:=by
  unfold HT.sIx
  simp only
  rw [if_neg (by omega)]
  rw [Int.toNat_natCast]
  omega
theorem dP {g:Nat→D} {w a h:Nat} (hw:a+h≤w):cutD ((List.range w).map g) (some ((a:Nat):Int)) (some ((a+h:Nat):Int))=(List.range h).map fun i=>g (a+i):=by
  unfold cutD
  rw [List.length_map,List.length_range,i7 (by omega),i7 (by omega),← List.map_drop,← List.map_take]
  have:((List.range w).drop a).take (a+h - a)=(List.range h).map (a + ·):=by
    rw [show a+h - a=h by omega]
    apply List.ext_getElem?
    intro i
    rw [List.getElem?_take]
    by_cases hi:i < h
    · rw [if_pos hi,List.getElem?_drop,List.getElem?_range (by omega),List.getElem?_map,List.getElem?_range hi]; rfl
    · rw [if_neg hi,List.getElem?_eq_none (by simp; omega)]
  rw [this,List.map_map]
  rfl
def seqD (b:Bool) (xs:List D):D:=if b then .tup xs else .lst xs
theorem nW {b:Bool} {xs:List D} (h:xs.length≤16777216):sq (seqD b xs)=.ok xs:=by cases b; exact eB h; exact fq h
theorem ug {b:Bool} {xs:List D} {lo hi:Option Int}:dSw (seqD b xs) lo hi=.ok (seqD b (cutD xs lo hi)):=by cases b<;>rfl
theorem mM {b:Bool} {xs:List D}:dLen [seqD b xs]=.ok (.int xs.length):=by cases b<;>rfl
def rowsS {α:Type} (b:Bool) (e:α→D) (f:Nat→Nat→α) (w h:Nat):D:=seqD b ((List.range h).map fun y=>rowT e f w y)
theorem iC:∀ (n:Nat) (b:Bool) (f:Nat→Nat→Int) (k:Nat),n≤3→n+1≤k→pf k F.L_least [rowsS b .int f (2^n) (2^n)]=.ok ((T f n).d .int):=by
  have flat:∀ (b:Bool) (f:Nat→Nat→Int) (s:Nat) (t:Nat→List D→R D),s≤8→lFor (τ:=List D) (fun s x=>dq t s x) ((List.range s).map fun y=>rowT .int f s y) []=.nx ((vals f s s).map .int):=fun b f s t hs=>by
    have h8:s*s≤64:=Nat.mul_le_mul hs hs
    have:=jQ (fun y=>rowT .int f s y) (step:=fun s x=>dq t s x) (fun y=>(List.range s).map fun x=>D.int (f x y)) s (List.range s) [] (fun y hy acc ha=>by
      unfold dq rowT
      rw [sg (by simp; omega)]
      rfl) (fun y hy=>by simp) (by simp; omega)
    rw [this]
    unfold vals
    simp [List.map_flatMap,Function.comp_def]
  intro n
  induction n with
  | zero =>
    intro b f k _ hk
    obtain ⟨k,rfl,hk⟩:=ex1 (show 0+1≤k by omega)
    have hf:=flat b f 1 (pf k) (by decide)
    rw [jB,c6]
    unfold rowsS
    rw [show (2^0:Nat)=1 from rfl,nW (by simp),bX,hf]
    rfl
  | succ n ih =>
    intro b f k h3 hk
    obtain ⟨k,rfl,hk⟩:=ex1 (show n+1+1≤k by omega)
    have h8:=p8 h3
    have hp:=pos2 (n+1)
    have hq:=pos2 n
    have hd:=dh n
    have hf:=flat b f (2^(n+1)) (pf k) h8
    have hls:dLenSet [.lst ((vals f (2^(n+1)) (2^(n+1))).map .int)]=.ok (.int ((vals f (2^(n+1)) (2^(n+1))).eraseDups.length:Nat)):=by
      have hl:(vals f (2^(n+1)) (2^(n+1))).length≤4000:=by
        rw [si]; have:=Nat.mul_le_mul h8 h8; omega
      unfold dLenSet; simp only [jR]; rw [if_pos hl]
    have hv:=sk (f:=f) hp hp
    obtain ⟨r,hr⟩:=kH (f:=f) hp hp
    have hsq:sq (rowsS b .int f (2^(n+1)) (2^(n+1)))=.ok ((List.range (2^(n+1))).map fun y=>rowT .int f (2^(n+1)) y):=nW (by simp; omega)
    have hln:dLen [rowsS b .int f (2^(n+1)) (2^(n+1))]=.ok (.int ((2^(n+1):Nat):Int)):=by unfold rowsS; rw [mM]; simp
    rw [jB,c6]
    by_cases hall:∀ x y,x < 2^(n+1)→y < 2^(n+1)→f x y=f 0 0
    · have h1:((vals f (2^(n+1)) (2^(n+1))).eraseDups.length:Int)=1:=by have:=hv.mpr hall; omega
      have h2:dIx (.lst ((vals f (2^(n+1)) (2^(n+1))).map .int)) (.int 0)=.ok (.int (f 0 0)):=by
        have:=ixL (xs:=(vals f (2^(n+1)) (2^(n+1))).map .int) (i:=0) (x:=.int (f 0 0)) (by rw [hr]; rfl)
        exact this
      have h3:T f (n+1)=.lf (f 0 0):=(aM _ _ _ hall).trans (gN _ _)
      simp only [STP,if_true,if_false,ite_true,ite_false,reduceIte,reduceCtorEq,OPP,hsq,hf,hls,decide_eq_true h1,h2,h3,Q.d]
    · have h1:¬ ((vals f (2^(n+1)) (2^(n+1))).eraseDups.length:Int)=1:=fun q=>hall (hv.mp (by omega))
      have one:∀ (tp lf:Nat) (parts:List D),tp+2^n≤2^(n+1)→lf+2^n≤2^(n+1)→parts.length≤10→fg (pf k) (rowsS b .int f (2^(n+1)) (2^(n+1))) (.int ((2^n:Nat):Int)) (.int (tp:Int)) parts (.int (lf:Int))=.nx (parts++[(T (sh f lf tp) n).d .int]):=fun tp lf parts htp hlf hpa=>by
        have c1:(tp:Int)+((2^n:Nat):Int)=((tp+2^n:Nat):Int):=by omega
        have c2:(lf:Int)+((2^n:Nat):Int)=((lf+2^n:Nat):Int):=by omega
        have ai:∀ i:Int,asI (.int i)=.ok (some i):=fun _=>rfl
        have s1:dSw (rowsS b .int f (2^(n+1)) (2^(n+1))) (some (tp:Int)) (some ((tp+2^n:Nat):Int))=.ok (seqD b ((List.range (2^n)).map fun i=>rowT .int f (2^(n+1)) (tp+i))):=by
          unfold rowsS
          rw [ug,dP htp]
        have s2:sq (seqD b ((List.range (2^n)).map fun i=>rowT .int f (2^(n+1)) (tp+i)))=.ok ((List.range (2^n)).map fun i=>rowT .int f (2^(n+1)) (tp+i)):=nW (by simp; omega)
        have s3:cMap (fun l_row=>dSw l_row (some (lf:Int)) (some ((lf+2^n:Nat):Int))) ((List.range (2^n)).map fun i=>rowT .int f (2^(n+1)) (tp+i))=.ok (rowsS false .int (sh f lf tp) (2^n) (2^n)):=by
          refine (du _ (fun i=>rowT .int (sh f lf tp) (2^n) i) fun i hi=>?_).trans rfl
          unfold rowT
          show R.ok (D.tup (cutD _ _ _))=_
          rw [dP (g:=fun x=>D.int (f x (tp+i))) hlf]
          unfold sh
          congr 2
          exact List.map_congr_left fun x _=>by rw [Nat.add_comm lf x,Nat.add_comm tp i]
        have s4:=ih false (sh f lf tp) k (by omega) (by omega)
        unfold fg
        simp only [STP,if_true,if_false,ite_true,ite_false,reduceIte,reduceCtorEq,OPP,ai,c1,c2,s1,s2,s3,s4]
        rw [lx (by omega)]
        rfl
      have pair:∀ (tp:Nat) (parts:List D),tp+2^n≤2^(n+1)→parts.length≤5→fh (pf k) (rowsS b .int f (2^(n+1)) (2^(n+1))) (.int ((2^n:Nat):Int)) parts (.int (tp:Int))=.nx (parts++[(T (sh f 0 tp) n).d .int,(T (sh f (2^n) tp) n).d .int]):=fun tp parts htp hpa=>by
        have h0:=one tp 0 parts htp (by omega) (by omega)
        have h1:=one tp (2^n) (parts++[(T (sh f 0 tp) n).d .int]) htp (by omega) (by simp; omega)
        have hs2:sq (.tup [(.int 0),(.int ((2^n:Nat):Int))])=.ok [.int 0,.int ((2^n:Nat):Int)]:=rfl
        rw [show ((0:Nat):Int)=0 from rfl] at h0
        unfold fh
        simp only [STP,if_true,if_false,ite_true,ite_false,reduceIte,reduceCtorEq,hs2,aQ,di,h0,h1,List.append_assoc,List.cons_append,List.nil_append]
      have p0:=pair 0 [] (by omega) (by simp)
      have p1:=pair (2^n) [(T (sh f 0 0) n).d .int,(T (sh f (2^n) 0) n).d .int] (by omega) (by simp)
      have hs2:sq (.tup [(.int 0),(.int ((2^n:Nat):Int))])=.ok [.int 0,.int ((2^n:Nat):Int)]:=rfl
      rw [show ((0:Nat):Int)=0 from rfl] at p0
      rw [T_nd hall]
      simp only [STP,if_true,if_false,ite_true,ite_false,reduceIte,reduceCtorEq,OPP,hsq,hf,hls,decide_eq_false h1,hln,lw,hs2,aQ,di,p0,List.nil_append,p1,List.cons_append,Q.d]
      rfl
theorem vD {n:Nat} (b:Bool) (f:Nat→Nat→Int) {sz:Nat} (h3:sz≤3) (hn:5≤n):pf n F.L_of [rowsS b .int f (2^sz) (2^sz)]=.ok (picD sz (T f sz)):=by
  obtain ⟨n,rfl,hn⟩:=ex1 (show 4+1≤n by omega)
  have hln:dLen [rowsS b .int f (2^sz) (2^sz)]=.ok (.int ((2^sz:Nat):Int)):=by unfold rowsS; rw [mM]; simp
  have e1:(onL (.lst [(.int 1),(.int 2),(.int 4),(.int 8)]) fun ls=>dIndexI ls [.int ((2^sz:Nat):Int)])=.ok (.int (sz:Int)):=nV h3
  have e2:=iC sz b f n h3 (by omega)
  rw [tX,ii]
  simp only [STP,if_true,if_false,ite_true,ite_false,reduceIte,reduceCtorEq,hln,e1,e2]
  rfl
theorem uC {n:Nat} (f:Nat→Nat→Int) {sz:Nat} (h3:sz≤3) (hn:5≤n):pf n F.L_of [rowsT .int f (2^sz) (2^sz)]=.ok (picD sz (T f sz)):=vD true f h3 hn
end Lw
end
section
set_option linter.all false
set_option maxRecDepth 10000
namespace Lw
open PySem FF
section
variable {sz:Nat} {tr:Q Int}
end
section
variable {sz:Nat} {tr:Q Int}
end
end Lw
end
section
set_option linter.all false
set_option maxRecDepth 10000
namespace Lw
open PySem FF
theorem iK {α τ:Type} (f:τ→α→L τ):∀ (xs ys:List α) (s:τ),lFor f (xs++ys) s=lS (lFor f xs s) fun s'=>lFor f ys s'
  | [],ys,s=>rfl
  | x::xs,ys,s=>by
    rw [List.cons_append,aQ,aQ]
    cases f s x with
    | nx s'=>exact iK f xs ys s'
    | rt d=>rfl
    | er k=>rfl
    | stuck=>rfl
theorem mO {α τ:Type} {f:τ→α→L τ} (c:Nat→α) (inv:Nat→τ):∀ n,(∀ i,i < n→f (inv i) (c i)=.nx (inv (i+1)))→lFor f ((List.range n).map c) (inv 0)=.nx (inv n)
  | 0,_=>rfl
  | n+1,h=>by
    rw [List.range_succ,List.map_append,iK,mO c inv n fun i hi=>h i (by omega),lT,List.map_cons,List.map_nil,aQ,h n (by omega)]
    rfl
theorem gR {α:Type} {f:Unit→α→L Unit}:∀ (l:List α),(∀ a∈l,f () a=.nx ())→lFor f l ()=.nx ()
  | [],_=>rfl
  | a::l,h=>by rw [aQ,h a (.head _),lT]; exact gR l fun b hb=>h b (.tail _ hb)
structure Sh (sz:Nat) (g:Nat→Nat→Int) (t:Q Int):Prop where
  p:Pc sz t
  w:∀ x y,x < 2^sz→y < 2^sz→t.at sz x y=g x y
theorem Sh.wo {sz:Nat} {g:Nat→Nat→Int} {t:Q Int} (h:Sh sz g t):Wo g sz:=fun x y hx hy=>by rw [← h.w x y hx hy]; exact h.p.at x y
theorem sh_T {sz:Nat} {g:Nat→Nat→Int} (h3:sz≤3) (h:Wo g sz):Sh sz g (T g sz):=⟨pc_T h3 h,fun x y hx hy=>T_at sz g x y hx hy⟩
theorem Pc.sh {sz:Nat} {t:Q Int} (p:Pc sz t):Sh sz (t.at sz) t:=⟨p,fun _ _ _ _=>rfl⟩
section
variable {sz:Nat} {g:Nat→Nat→Int} {t:Q Int}
theorem Sh.lrows (q:Sh sz g t) {n:Nat} (hn:5≤n):pf n F.L_rows [picD sz t]=.ok (rowsT .int g (2^sz) (2^sz)):=by rw [q.p.lrows hn,mG q.w]
end
theorem vE {xs:List D} {a:Nat} (h:a≤xs.length):cutD xs none (some ((a:Nat):Int))=xs.take a:=by
  unfold cutD
  rw [i7 h,HT.lD]
  simp
theorem mP {xs:List D} {a:Nat} (h:a≤xs.length):cutD xs (some ((a:Nat):Int)) none=xs.drop a:=by
  unfold cutD
  rw [i7 h,HT.lD,List.take_of_length_le (by simp)]
section
variable {sz:Nat} {g:Nat→Nat→Int} {t:Q Int}
end
theorem gS {x:D} (h:good 60 x=true):dNf x x=.ok (.bl false):=by rw [my h h,FF.gw 60 x h]; rfl
theorem Pc.g60 {sz:Nat} {t:Q Int} (p:Pc sz t):FF.good 60 (picD sz t)=true:=bZ p.good (by decide)
end Lw
end
section
set_option linter.all false
set_option maxRecDepth 10000
namespace Lw
open PySem FF
def th (w:Nat):Nat→D→Bool
  | n+1,.tup xs=>decide (xs.length≤w)&&xs.all (th w n)
  | 0,.tup _=>false
  | _,.lst xs=>decide (xs.length≤w)&&xs.all flatD
  | _,.exc _=>false
  | _,.fn _=>false
  | _,_=>true
def kid (xs:List D) (i:Nat):D:=xs[i]?.getD .non
def places:Nat→D→List (List Nat)
  | n+1,.tup xs=>[]::(List.range xs.length).flatMap fun i=>(places n (kid xs i)).map (i::·)
  | _,_=>[[]]
def pD (p:List Nat):D:=.tup (p.map fun (i:Nat)=>.int (i:Int))
theorem nX {xs:List D} {i:Nat} (h:i < xs.length):xs[i]?=some (kid xs i):=by
  unfold kid; rw [List.getElem?_eq_getElem h]; rfl
theorem ek {xs:List D} {i:Nat} (h:i < xs.length):kid xs i∈xs:=by
  have:=nX h
  exact List.mem_of_getElem? this
theorem ly {xs:List D} {i:Nat} (h:i < xs.length):dIx (.tup xs) (.int (i:Int))=.ok (kid xs i):=by
  have e:L2.atI xs (i:Int)=some (kid xs i):=by
    unfold L2.atI L2.ixN
    rw [if_pos (by omega),if_pos (by omega)]
    show xs[(i:Int).toNat]?=_
    rw [Int.toNat_natCast]
    exact nX h
  show (match L2.atI xs (i:Int) with | some d=>R.ok d | none=>R.stuck)=_
  rw [e]
theorem bu {w n:Nat} {xs:List D}:th w (n+1) (.tup xs)=true↔xs.length≤w∧∀ x∈xs,th w n x=true:=by
  rw [th,Bool.and_eq_true,decide_eq_true_eq,List.all_eq_true]
theorem nY {w n:Nat} {d:D} (h:th w n d=true):noX d=true:=by
  cases d<;>first | rfl | (cases n<;>simp [th] at h)
theorem kI {n:Nat} {d:D} (h:flatD d=true):good n d=true:=by
  cases d<;>first | (simp [flatD] at h; done) | (cases n<;>rfl)
theorem qj {n:Nat} {d:D} (h:flatD d=true):slim n d=true:=by
  cases d<;>first | (simp [flatD] at h; done) | (cases n<;>rfl)
theorem gT {w:Nat}:∀ {n:Nat} {d:D},th w n d=true→good (n+1) d=true:=by
  intro n
  induction n with
  | zero =>
    intro d h
    cases d with
    | lst xs =>
      simp only [th,Bool.and_eq_true,decide_eq_true_eq,List.all_eq_true] at h
      rw [good]
      exact cc fun x hx=>kI (h.2 x hx)
    | _=>first | rfl | (simp [th] at h)
  | succ n ih =>
    intro d h
    cases d with
    | tup xs =>
      rw [good]
      exact cc fun x hx=>ih ((bu.mp h).2 x hx)
    | lst xs =>
      simp only [th,Bool.and_eq_true,decide_eq_true_eq,List.all_eq_true] at h
      rw [good]
      exact cc fun x hx=>kI (h.2 x hx)
    | _=>first | rfl | (simp [th] at h)
theorem lz {w:Nat} (hw:w≤1000):∀ {n:Nat} {d:D} (m:Nat),th w n d=true→slim m d=true:=by
  have hl:∀ {n:Nat} {xs:List D} (m:Nat),th w n (.lst xs)=true→slim m (.lst xs)=true:=fun {n xs} m h=>by
    have h':xs.length≤w∧∀ x∈xs,flatD x=true:=by
      cases n<;>simpa only [th,Bool.and_eq_true,decide_eq_true_eq,List.all_eq_true] using h
    cases m with
    | zero=>rfl
    | succ m =>
      rw [slim,Bool.and_eq_true,decide_eq_true_eq,List.all_eq_true]
      exact ⟨by omega,fun x hx=>qj (h'.2 x hx)⟩
  intro n
  induction n with
  | zero =>
    intro d m h
    cases d with
    | lst xs=>exact hl m h
    | _=>first | (cases m<;>rfl) | (simp [th] at h)
  | succ n ih =>
    intro d m h
    cases d with
    | lst xs=>exact hl m h
    | tup xs =>
      cases m with
      | zero=>rfl
      | succ m =>
        rw [slim,Bool.and_eq_true,decide_eq_true_eq,List.all_eq_true]
        exact ⟨by have:=(bu.mp h).1; omega,fun x hx=>ih m ((bu.mp h).2 x hx)⟩
    | _=>first | (cases m<;>rfl) | (simp [th] at h)
theorem oV {w v:Nat} (hv:w≤v):∀ {n m:Nat} {d:D},th w n d=true→n≤m→th v m d=true:=by
  have hl:∀ {n m:Nat} {xs:List D},th w n (.lst xs)=true→th v m (.lst xs)=true:=fun {n m xs} h=>by
    have h':xs.length≤w∧∀ x∈xs,flatD x=true:=by
      cases n<;>simpa only [th,Bool.and_eq_true,decide_eq_true_eq,List.all_eq_true] using h
    have:xs.length≤v∧∀ x∈xs,flatD x=true:=⟨by omega,h'.2⟩
    cases m<;>simpa only [th,Bool.and_eq_true,decide_eq_true_eq,List.all_eq_true] using this
  intro n
  induction n with
  | zero =>
    intro m d h _
    cases d with
    | lst xs=>exact hl h
    | _=>first | (cases m<;>rfl) | (simp [th] at h)
  | succ n ih =>
    intro m d h hm
    cases d with
    | lst xs=>exact hl h
    | tup xs =>
      obtain ⟨m,rfl⟩:∃ k,m=k+1:=⟨m - 1,by omega⟩
      exact bu.mpr ⟨by have:=(bu.mp h).1; omega,fun x hx=>ih ((bu.mp h).2 x hx) (by omega)⟩
    | _=>first | (cases m<;>rfl) | (simp [th] at h)
theorem jS {α:Type} {g:Nat→List α} {b:Nat}:∀ k,(∀ i,i < k→(g i).length≤b)→((List.range k).flatMap g).length≤k*b
  | 0,_=>by simp
  | k+1,h=>by
    rw [List.range_succ,List.flatMap_append,List.length_append,Nat.succ_mul]
    have h1:=jS k fun i hi=>h i (by omega)
    have h2:=h k (by omega)
    have:([k].flatMap g).length=(g k).length:=by simp
    omega
theorem nZ (n:Nat) (d:D):1≤(places n d).length:=by
  cases n with
  | zero=>cases d<;>exact Nat.le_refl 1
  | succ n=>cases d<;>first | (show 1≤_+1; omega) | exact Nat.le_refl 1
theorem jT {w:Nat}:∀ {n:Nat} {d:D},th w n d=true→(places n d).length≤(w+1)^n:=by
  intro n
  induction n with
  | zero=>intro d h; cases d<;>exact Nat.le_refl 1
  | succ n ih =>
    intro d h
    have h1:1≤(w+1)^(n+1):=Nat.pow_pos (by omega)
    cases d with
    | tup xs =>
      have ht:=bu.mp h
      have:=jS (g:=fun i=>(places n (kid xs i)).map (i::·)) (b:=(w+1)^n) xs.length fun i hi=>by
        rw [List.length_map]; exact ih (ht.2 _ (ek hi))
      show ((List.range xs.length).flatMap fun i=>(places n (kid xs i)).map (i::·)).length+1≤_
      have h2:xs.length*(w+1)^n≤w*(w+1)^n:=Nat.mul_le_mul_right _ ht.1
      have h3:1≤(w+1)^n:=Nat.pow_pos (by omega)
      have h4:(w+1)^(n+1)=w*(w+1)^n+(w+1)^n:=by rw [Nat.pow_succ,Nat.mul_comm,Nat.succ_mul]
      omega
    | _=>exact h1
theorem so {w n:Nat} {d:D} (h:th w n d=true) (ht:isTup d=false):dIsA qTup d=.ok (.bl false):=bO ht (nY h)
theorem mQ {n:Nat} {d:D} (ht:isTup d=false):places n d=[[]]:=by
  cases n<;>cases d<;>first | rfl | (cases ht; done)
theorem uh (k:Nat) (p:List Nat) (h:p.length < 16777216):dAdd (.tup [.int (k:Int)]) (pD p)=.ok (pD (k::p)):=by
  show (if 1+(p.map fun (i:Nat)=>D.int (i:Int)).length≤16777216 then _ else _)=_
  rw [List.length_map,if_pos (by omega)]
  rfl
theorem em {n:Nat}:∀ {d:D} {p:List Nat},p∈places n d→p.length≤n:=by
  induction n with
  | zero=>intro d p h; cases d<;>simp [places] at h<;>simp [h]
  | succ n ih =>
    intro d p h
    cases d with
    | tup xs =>
      rw [places,List.mem_cons,List.mem_flatMap] at h
      rcases h with rfl | ⟨i,_,h⟩
      · simp
      · obtain ⟨q,hq,rfl⟩:=List.mem_map.mp h
        have:=ih hq
        simp only [List.length_cons]
        omega
    | _=>simp [places] at h; simp [h]
theorem ql {w:Nat}:∀ (n m:Nat) (d:D),th w n d=true→(w+1)^n≤16000000→n+1≤m→w≤1000→n≤1000→pf m F.L_places [d]=.ok (.lst ((places n d).map pD)):=by
  have flat:∀ (n m:Nat) (d:D),th w n d=true→isTup d=false→1≤m→pf m F.L_places [d]=.ok (.lst ((places n d).map pD)):=fun n m d h ht hm=>by
    obtain ⟨m,rfl,_⟩:=ex1 hm
    rw [iH,cw,so h ht,mQ ht]
    simp only [STP,if_true,if_false,ite_true,ite_false,reduceIte,reduceCtorEq]
    rfl
  intro n
  induction n with
  | zero =>
    intro m d h _ hm _ _
    exact flat 0 m d h (by cases d<;>first | rfl | (simp [th] at h)) hm
  | succ n ih =>
    intro m d h hp hm hw hn
    by_cases ht:isTup d=true
    · cases d with
      | tup xs =>
        have hh:=bu.mp h
        obtain ⟨m,rfl,hm⟩:=ex1 hm
        have hpn:(w+1)^n≤16000000:=Nat.le_trans (Nat.pow_le_pow_right (by omega) (Nat.le_succ n)) hp
        have loop:lFor (τ:=List D) (fun s x=>eu (pf m) (.tup xs) s x) ((List.range xs.length).map fun i=>.int (0+((i:Nat):Int))) ((fun k=>([]::(List.range k).flatMap fun i=>(places n (kid xs i)).map (i::·)).map pD) 0)=.nx (([]::(List.range xs.length).flatMap fun i=>(places n (kid xs i)).map (i::·)).map pD):=by
          refine mO _ (fun k=>([]::(List.range k).flatMap fun i=>(places n (kid xs i)).map (i::·)).map pD) xs.length fun i hi=>?_
          have hk:=ih m (kid xs i) (hh.2 _ (ek hi)) hpn (by omega) hw (by omega)
          have hc:cMap (fun l_place=>dAdd (.tup [.int (i:Int)]) l_place) ((places n (kid xs i)).map pD)=.ok (.lst (((places n (kid xs i)).map (i::·)).map pD)):=by
            rw [du (l:=places n (kid xs i)) pD (fun p:List Nat=>pD (i::p)) fun p hp=>uh i p (by have:=em hp; omega),List.map_map]
            rfl
          have hl:=jT (hh.2 _ (ek hi))
          have hl2:=jS (g:=fun i=>(places n (kid xs i)).map (i::·)) (b:=(w+1)^n) i fun j hj=>by
            rw [List.length_map]; exact jT (hh.2 _ (ek (by omega)))
          have h2:i*(w+1)^n+(w+1)^n≤(w+1)^(n+1):=by
            rw [← Nat.succ_mul,Nat.pow_succ,Nat.mul_comm]; exact Nat.mul_le_mul_left _ (by have:=hh.1; omega)
          unfold eu
          rw [show (0:Int)+(i:Int)=(i:Int) by omega,ly hi]
          simp only [STP,if_true,if_false,ite_true,ite_false,reduceIte,reduceCtorEq,hk,eB (show ((places n (kid xs i)).map pD).length≤16777216 by rw [List.length_map]; omega),hc]
          have ho:oExt (([]::(List.range i).flatMap fun i=>(places n (kid xs i)).map (i::·)).map pD) (.lst (((places n (kid xs i)).map (i::·)).map pD))=.ok (([]::(List.range (i+1)).flatMap fun i=>(places n (kid xs i)).map (i::·)).map pD):=by
            show (if _ then _ else _)=_
            rw [if_pos (by simp only [List.length_map,List.length_cons]; omega),← List.map_append,List.cons_append,List.range_succ,List.flatMap_append]
            simp
          rw [ho]
          simp only [STP,if_true,if_false,ite_true,ite_false,reduceIte,reduceCtorEq]
        rw [iH,cw]
        have hr:rng1 [.int (xs.length:Int)]=.ok ((List.range xs.length).map fun i=>.int (0+((i:Nat):Int))):=by
          have:=hh.1
          show (if _ then _ else _)=_
          rw [if_pos (by omega)]
          rw [Int.toNat_natCast]
          rfl
        have e0:((fun k=>([]::(List.range k).flatMap fun i=>(places n (kid xs i)).map (i::·)).map pD) 0)=[.tup []]:=rfl
        rw [e0] at loop
        simp only [cK,STP,if_true,if_false,ite_true,ite_false,reduceIte,reduceCtorEq,eW,hr,loop]
        rfl
      | _=>cases ht
    · exact flat (n+1) m d h (by simpa using ht) (by omega)
def there:D→List Nat→D
  | d,[]=>d
  | .tup xs,i::p=>there (kid xs i) p
  | d,_::_=>d
def putAt:D→List Nat→D→D
  | _,[],e=>e
  | .tup xs,i::p,e=>.tup (xs.set i (putAt (kid xs i) p e))
  | d,_::_,_=>d
theorem fz {n:Nat} {d:D} {i:Nat} {p:List Nat} (h:i::p∈places n d):∃ xs k,n=k+1∧d=.tup xs∧i < xs.length∧p∈places k (kid xs i):=by
  cases n with
  | zero=>cases d<;>simp [places] at h
  | succ n =>
    cases d with
    | tup xs =>
      rw [places,List.mem_cons,List.mem_flatMap] at h
      rcases h with h | ⟨j,hj,h⟩
      · cases h
      · obtain ⟨q,hq,e⟩:=List.mem_map.mp h
        injection e with e1 e2
        subst e1; subst e2
        exact ⟨xs,n,rfl,rfl,List.mem_range.mp hj,hq⟩
    | _=>simp [places] at h
theorem jU {t:Nat→List D→R D}:∀ {p:List Nat} {n:Nat} {d:D},p∈places n d→lFor (τ:=D) (fun s x=>fj t s x) (p.map fun (i:Nat)=>.int (i:Int)) d=.nx (there d p)
  | [],n,d,_=>by cases d<;>rfl
  | i::p,n,d,h=>by
    obtain ⟨xs,k,rfl,rfl,hi,hp⟩:=fz h
    rw [List.map_cons,aQ]
    unfold fj
    rw [ly hi]
    simp only [STP,if_true,if_false,ite_true,ite_false,reduceIte,reduceCtorEq]
    exact jU (t:=t) hp
theorem mR {w:Nat}:∀ {p:List Nat} {n:Nat} {d:D},p∈places n d→th w n d=true→th w (n - p.length) (there d p)=true
  | [],n,d,_,h=>by cases d<;>exact h
  | i::p,n,d,h,ht=>by
    obtain ⟨xs,k,rfl,rfl,hi,hp⟩:=fz h
    have:=mR hp ((bu.mp ht).2 _ (ek hi))
    show th w (k+1 - (p.length+1)) _=true
    rw [Nat.add_sub_add_right]
    exact this
theorem sr {n m:Nat} {d:D} {p:List Nat} (h:p∈places n d) (hm:1≤m) (hn:n≤1000):pf m F.L_there [d,pD p]=.ok (there d p):=by
  obtain ⟨m,rfl,hm⟩:=ex1 hm
  rw [nB,dD]
  unfold pD
  have hl:=em h
  rw [fq (by rw [List.length_map]; omega)]
  simp only [STP,if_true,if_false,ite_true,ite_false,reduceIte,reduceCtorEq,jU h]
theorem mS {w:Nat}:∀ {p:List Nat} {n N k:Nat} {d e:D},p∈places n d→th w n d=true→th w k e=true→k+p.length≤N→n≤N→th w N (putAt d p e)=true
  | [],n,N,k,d,e,_,_,he,hk,_=>by cases d<;>exact oV (Nat.le_refl w) he (by simpa using hk)
  | i::p,n,N,k,d,e,h,hd,he,hk,hn=>by
    obtain ⟨xs,j,rfl,rfl,hi,hp⟩:=fz h
    obtain ⟨N,rfl⟩:∃ M,N=M+1:=⟨N - 1,by omega⟩
    have ht:=bu.mp hd
    have hr:=mS (N:=N) hp (ht.2 _ (ek hi)) he (by simp only [List.length_cons] at hk; omega) (by omega)
    show th w (N+1) (.tup (xs.set i (putAt (kid xs i) p e)))=true
    refine bu.mpr ⟨by rw [List.length_set]; exact ht.1,fun x hx=>?_⟩
    rcases List.mem_or_eq_of_mem_set hx with hx | rfl
    · exact oV (Nat.le_refl w) (ht.2 x hx) (by omega)
    · exact hr
theorem ui {n:Nat} (hn:1≤n) (p:List Nat):good n (pD p)=true:=by
  obtain ⟨n,rfl⟩:∃ k,n=k+1:=⟨n - 1,by omega⟩
  unfold pD
  rw [good]
  refine cc fun d hd=>?_
  obtain ⟨i,_,rfl⟩:=List.mem_map.mp hd
  cases n<;>rfl
theorem mT (xs ys:List D) (h:xs.length+ys.length≤16777216):dAdd (.tup xs) (.tup ys)=.ok (.tup (xs++ys)):=by
  show (if xs.length+ys.length≤16777216 then _ else _)=_
  rw [if_pos h]
theorem ss {w:Nat} (hw:w≤1000):∀ {p:List Nat} {n m:Nat} {d:D} (e:D),p∈places n d→th w n d=true→p.length+1≤m→pf m F.L_put [d,pD p,e]=.ok (putAt d p e)
  | [],n,m,d,e,_,_,hm=>by
    obtain ⟨m,rfl,hm⟩:=ex1 (k:=0) (by simpa using hm)
    rw [mn,fi]
    have:dEq (pD []) (.tup [])=.ok (.bl true):=rfl
    simp only [STP,if_true,if_false,ite_true,ite_false,reduceIte,reduceCtorEq,this]
    cases d<;>rfl
  | i::p,n,m,d,e,h,hd,hm=>by
    obtain ⟨xs,j,rfl,rfl,hi,hp⟩:=fz h
    have ht:=bu.mp hd
    obtain ⟨m,rfl,hm⟩:=ex1 hm
    have ih:=ss hw (m:=m) e hp (ht.2 _ (ek hi)) (by simpa using hm)
    have h0:dEq (pD (i::p)) (.tup [])=.ok (.bl false):=by
      unfold dEq
      rw [if_pos ⟨ui (by decide) _,rfl⟩]
      rfl
    have h1:dIx (pD (i::p)) (.int 0)=.ok (.int (i:Int)):=ly (xs:=(i::p).map fun (i:Nat)=>D.int (i:Int)) (i:=0) (by simp)
    have h2:dSw (pD (i::p)) (some 1) none=.ok (pD p):=by
      show R.ok (D.tup (cutD _ (some ((1:Nat):Int)) none))=_
      rw [mP (by simp)]
      rfl
    have h3:dSw (.tup xs) none (some (i:Int))=.ok (.tup (xs.take i)):=by
      show R.ok (D.tup (cutD _ none (some (i:Int))))=_
      rw [vE (by omega)]
    have h4:dSw (.tup xs) (some ((i:Int)+1)) none=.ok (.tup (xs.drop (i+1))):=by
      rw [show (i:Int)+1=((i+1:Nat):Int) by omega]
      show R.ok (D.tup (cutD _ (some ((i+1:Nat):Int)) none))=_
      rw [mP (by omega)]
    have h5:∀ v:Int,asI (.int v)=.ok (some v):=fun v=>rfl
    have h6:dAdd (.tup (xs.take i)) (.tup [putAt (kid xs i) p e])=.ok (.tup (xs.take i++[putAt (kid xs i) p e])):=mT _ _ (by simp only [List.length_take,List.length_cons,List.length_nil]; omega)
    have h7:dAdd (.tup (xs.take i++[putAt (kid xs i) p e])) (.tup (xs.drop (i+1)))=.ok (.tup (xs.set i (putAt (kid xs i) p e))):=by
      rw [mT _ _ (by simp only [List.length_append,List.length_take,List.length_drop,List.length_cons,List.length_nil]; omega),List.set_eq_take_append_cons_drop,if_pos hi,List.append_assoc]
      rfl
    rw [mn,fi]
    simp only [STP,if_true,if_false,ite_true,ite_false,reduceIte,reduceCtorEq,h0,h1,h5,h3,ly hi,h2,ih,h6,cS,h4,h7]
    rfl
theorem su {ds:List D} {i:Int} (h0:0≤i) (h:i < ds.length):∃ e∈ds,L2.atI ds i=some e:=by
  refine ⟨kid ds i.toNat,ek (by omega),?_⟩
  unfold L2.atI L2.ixN
  rw [if_pos h0,if_pos h]
  exact nX (by omega)
theorem uj {ds:List D} {i:Int} (h0:0≤i) (h:i < ds.length):∃ e∈ds,oIx ds (.int i)=.ok e:=by
  obtain ⟨e,he,h⟩:=su h0 h
  refine ⟨e,he,?_⟩
  show (match L2.atI ds i with | some d=>R.ok d | none=>R.stuck)=_
  rw [h]
theorem uk {ds:List D} {i:Int} (h0:0≤i) (h:i < ds.length):∃ e∈ds,dIx (.lst ds) (.int i)=.ok e:=by
  obtain ⟨e,he,h⟩:=su h0 h
  refine ⟨e,he,?_⟩
  show (match L2.atI ds i with | some d=>R.ok d | none=>R.stuck)=_
  rw [h]
def news (here:D):List D:=[(.int (-1)),(.int 0),(.int 3),(.int 4),(.int 9),(.int 10),(.bl true),.non,(.str "1"),(.tup []),(.tup [(.int 1),(.int 2),(.int 3)]),(.tup [(.int 1),(.int 1),(.int 1),(.int 1)]),(.tup [(.int 1),(.int 2),(.int 3),(.int 4),(.int 5)]),(.lst [(.int 1),(.int 2),(.int 3),(.int 4)]),.tup [here,here,here,here]]
theorem ul {w n:Nat} (hw:5≤w) {here e:D} (h:th w n here=true) (he:e∈news here):th w (n+1) e=true:=by
  have cons:∀ {xs:List D},xs.length≤w→(∀ x∈xs,th w n x=true)→th w (n+1) (.tup xs)=true:=fun h1 h2=>bu.mpr ⟨h1,h2⟩
  have iN:∀ i:Int,th w n (.int i)=true:=fun i=>by cases n<;>rfl
  unfold news at he
  simp only [List.mem_cons,List.not_mem_nil,or_false] at he
  rcases he with rfl | rfl | rfl | rfl | rfl | rfl | rfl | rfl | rfl | rfl | rfl | rfl | rfl | rfl | rfl
  any_goals rfl
  · exact cons (Nat.le_trans (by decide) hw) (by intro x hx; simp only [List.mem_cons,List.not_mem_nil,or_false] at hx; rcases hx with rfl | rfl | rfl<;>exact iN _)
  · exact cons (Nat.le_trans (by decide) hw) (by intro x hx; simp only [List.mem_cons,List.not_mem_nil,or_false] at hx; rcases hx with rfl | rfl | rfl | rfl<;>exact iN _)
  · exact cons hw (by intro x hx; simp only [List.mem_cons,List.not_mem_nil,or_false] at hx; rcases hx with rfl | rfl | rfl | rfl | rfl<;>exact iN _)
  · rw [th,Bool.and_eq_true,decide_eq_true_eq]; exact ⟨Nat.le_trans (by decide) hw,rfl⟩
  · exact cons (by show 4≤w; omega) (by intro x hx; simp only [List.mem_cons,List.not_mem_nil,or_false] at hx; rcases hx with rfl | rfl | rfl | rfl<;>exact h)
theorem qm {w n:Nat} (hw:w≤1000) (h5:5≤w) (hn:n≤100) (hp:(w+1)^n≤16000000) {d:D} (h:th w n d=true) {m:Nat} (hm:n+4≤m) (ns:List Int) (k:Nat):∃ p∈places n d,∃ e∈news (there d p),pf m F.L_spoilt_thing [scr ns,.int (k:Int),d]=.ok (putAt d p e):=by
  obtain ⟨m,rfl,hm⟩:=ex1 (show n+3+1≤m by omega)
  have e1:=ql n m d h hp (by omega) hw (by omega)
  have hl:=nZ n d
  have hl':(0:Int) < (((places n d).map pD).length:Nat):=by rw [List.length_map]; omega
  have p1:=eh (n:=m) (by omega) ns k (a:=(k:Int)) (m:=(((places n d).map pD).length:Nat)) rfl hl'
  have b0:=fY (ns:=ns) (k:=k) (m:=(((places n d).map pD).length:Nat)) hl'
  have b1:=fZ (ns:=ns) (k:=k) (m:=(((places n d).map pD).length:Nat)) hl'
  obtain ⟨q,hq,e2⟩:=uk b0 b1
  obtain ⟨p,hp',rfl⟩:=List.mem_map.mp hq
  have e3:=sr hp' (m:=m) (by omega) (by omega)
  have p2:=eh (n:=m) (by omega) ns (k+1) (a:=(k:Int)+1) (m:=15) (by omega) (by decide)
  have c0:=fY (ns:=ns) (k:=k+1) (m:=15) (by decide)
  have c1:=fZ (ns:=ns) (k:=k+1) (m:=15) (by decide)
  obtain ⟨e,he,e4⟩:=uj (ds:=news (there d p)) c0 (by show _ < ((15:Nat):Int); omega)
  have hd:=em hp'
  have e5:=ss hw (m:=m) e hp' h (by omega)
  refine ⟨p,hp',e,he,?_⟩
  have r4:dMul (.tup [there d p]) (.int 4)=.ok (.tup [there d p,there d p,there d p,there d p]):=rfl
  rw [gI,aX]
  simp only [STP,if_true,if_false,ite_true,ite_false,reduceIte,reduceCtorEq,e1,gP,p1,e2,e3,r4]
  have ho:oExt [(.int (-1)),(.int 0),(.int 3),(.int 4),(.int 9),(.int 10),(.bl true),.non,(.str "1"),(.tup []),(.tup [(.int 1),(.int 2),(.int 3)]),(.tup [(.int 1),(.int 1),(.int 1),(.int 1)]),(.tup [(.int 1),(.int 2),(.int 3),(.int 4),(.int 5)])] (.lst [.lst [.int 1,.int 2,.int 3,.int 4],.tup [there d p,there d p,there d p,there d p]])=.ok (news (there d p)):=rfl
  simp only [STP,if_true,if_false,ite_true,ite_false,reduceIte,reduceCtorEq,ho,cS,p2,e4,e5]
theorem kJ {w n:Nat} (hw:w≤1000) (h5:5≤w) (hn:n≤100) (hp:(w+1)^n≤16000000) {d:D} (h:th w n d=true) {m:Nat} (hm:n+4≤m) (ns:List Int) (k:Nat):∃ d',th w (n+1) d'=true∧pf m F.L_spoilt_thing [scr ns,.int (k:Int),d]=.ok d':=by
  obtain ⟨p,hp',e,he,q⟩:=qm hw h5 hn hp h hm ns k
  have hd:=em hp'
  exact ⟨_,mS hp' h (ul h5 (mR hp' h) he) (by omega) (by omega),q⟩
end Lw
end
section
set_option linter.all false
set_option maxRecDepth 10000
namespace Lw
open PySem FF
theorem qo {w:Nat} (hw:w≤1000):∀ (n m:Nat) (s:Int) (d:D),th w n d=true→n+1≤m→n≤50→pf m F.L_is_tree [d,.int s]=.ok (.bl (treeOk (inTo 9) n s d)):=by
  have flat:∀ (n m:Nat) (s:Int) (d:D),th w n d=true→isTup d=false→1≤m→pf m F.L_is_tree [d,.int s]=.ok (.bl (treeOk (inTo 9) n s d)):=fun n m s d h ht hm=>by
    obtain ⟨m,rfl,hm⟩:=ex1 hm
    have e:treeOk (inTo 9) n s d=inTo 9 d:=by cases n<;>cases d<;>first | rfl | (cases ht; done)
    rw [gJ,b8,e]
    cases d with
    | int i =>
      have:rAnd (asB (dIsA qInt (.int i))) (rNot (asB (dIsA qBool (.int i))))=.ok true:=rfl
      simp only [this,STP,if_true,if_false,ite_true,ite_false,reduceIte,reduceCtorEq]
      simp only [rCh,i6,fc,R.bind_ok,inTo]
      by_cases h0:(0:Int)≤i<;>simp [h0]
    | tup _=>cases ht
    | exc _=>cases n<;>simp [th] at h
    | fn _=>cases n<;>simp [th] at h
    | _=>rfl
  intro n
  induction n with
  | zero=>intro m s d h hm _; exact flat 0 m s d h (by cases d<;>first | rfl | (simp [th] at h)) hm
  | succ n ih =>
    intro m s d h hm hn
    by_cases ht:isTup d=true
    · cases d with
      | tup xs =>
        have hh:=bu.mp h
        obtain ⟨m,rfl,hm⟩:=ex1 hm
        have hc:cFil (fun l_part=>(rNot (asB ((dSub (.int s) (.int 1)).bind fun x1=>pf m F.L_is_tree [l_part,x1])))) (fun l_part=>.ok l_part) xs=.ok (.lst (xs.filter fun d=>!treeOk (inTo 9) n (s - 1) d)):=by
          have:=lv (c:=fun l_part=>(rNot (asB ((dSub (.int s) (.int 1)).bind fun x1=>pf m F.L_is_tree [l_part,x1])))) (e:=fun l_part=>.ok l_part) (l:=xs) (fun d=>d) (fun d=>d) (fun d=>!treeOk (inTo 9) n (s - 1) d) fun d hd=>⟨by
            rw [d6,R.bind_ok,ih m (s - 1) d (hh.2 d hd) (by omega) (by omega)]
            rfl,fun _=>rfl⟩
          rw [List.map_id',List.map_id'] at this
          exact this
        have he:dEq (.lst (xs.filter fun d=>!treeOk (inTo 9) n (s - 1) d)) (.lst [])=.ok (.bl (xs.all (treeOk (inTo 9) n (s - 1)))):=by
          unfold dEq
          rw [if_pos ⟨by
            rw [good]
            exact cc fun d hd=>bZ (gT (hh.2 d (List.mem_filter.mp hd).1)) (by omega),rfl⟩]
          cases hx:xs.filter fun d=>!treeOk (inTo 9) n (s - 1) d with
          | nil =>
            have:xs.all (treeOk (inTo 9) n (s - 1))=true:=by
              rw [List.all_eq_true]
              intro d hd
              have:=List.filter_eq_nil_iff.mp hx d hd
              simpa using this
            rw [this]
            rfl
          | cons a l =>
            have ha:a∈xs.filter fun d=>!treeOk (inTo 9) n (s - 1) d:=by rw [hx]; simp
            have:=List.mem_filter.mp ha
            have:xs.all (treeOk (inTo 9) n (s - 1))=false:=by
              rw [List.all_eq_false]
              exact ⟨a,this.1,by simpa using this.2⟩
            rw [this]
            rfl
        have hi:rAnd (asB (dIsA qInt (.tup xs))) (rNot (asB (dIsA qBool (.tup xs))))=.ok false:=rfl
        rw [gJ,b8]
        simp only [hi,cK,STP,if_true,if_false,ite_true,ite_false,reduceIte,reduceCtorEq,eW,eg,fu,fq (show xs.length≤16777216 by have:=hh.1; omega),hc,he,treeOk]
        by_cases h0:s=0
        · by_cases h4:(xs.length:Int)=4<;>simp [h0,h4]
        · by_cases h4:xs.length=4
          · simp [h0,h4]
          · have h4':¬ ((xs.length:Int)=4):=by omega
            simp [h0,h4,h4']
      | _=>cases ht
    · exact flat (n+1) m s d h (by simpa using ht) (by omega)
theorem kK {w:Nat} (hw:w≤1000) {n m:Nat} {d:D} (h:th w (n+1) d=true) (hm:n+2≤m) (hn:n≤50):pf m F.L_is_picture [d]=.ok (.bl (sizedOk (inTo 9) n d)):=by
  obtain ⟨m,rfl,hm⟩:=ex1 hm
  rw [iR,bB]
  by_cases ht:isTup d=true
  · cases d with
    | tup xs =>
      have hh:=bu.mp h
      by_cases h2:xs.length=2
      · match xs,h2 with
        | [a,b],_ =>
          have ha:=hh.2 a (by simp)
          have hb:=hh.2 b (by simp)
          have l2:asB ((dLen [.tup [a,b]]).bind fun x2=>dNf x2 (.int 2))=.ok false:=rfl
          cases a with
          | int v =>
            have ht:=qo hw n m v b hb (by omega) hn
            have hi:(rNot (asB (dIsA qInt (.int v))))=.ok false:=rfl
            have hj:(asB (dIsA qBool (.int v)))=.ok false:=rfl
            simp only [cK,STP,if_true,if_false,ite_true,ite_false,reduceIte,reduceCtorEq,l2,ix20,ix21,hi,hj,ht,sizedOk,inTo,rCh,i6]
            by_cases c0:(0:Int)≤v
            · by_cases c1:v≤3<;>simp [c0,c1]
            · simp [c0]
          | exc _=>cases n<;>simp [th] at ha
          | fn _=>cases n<;>simp [th] at ha
          | _=>rfl
      · have h2':¬ ((xs.length:Int)=2):=by omega
        have e:sizedOk (inTo 9) n (.tup xs)=false:=by
          match xs,h2 with
          | [],_=>rfl
          | [_],_=>rfl
          | _::_::_::_,_=>rfl
        simp [h2',e]
    | _=>cases ht
  · have ht':isTup d=false:=by simpa using ht
    rw [bO ht' (nY h)]
    have e:sizedOk (inTo 9) n d=false:=by cases d<;>first | rfl | (cases ht'; done)
    simp [e]
theorem Pc.th (p:Pc sz t):th 5 4 (picD sz t)=true:=by
  have hq:∀ (n:Nat) (t:Q Int),t.dep≤n→Lw.th 5 n (t.d .int)=true:=by
    intro n
    induction n with
    | zero=>intro t h; cases t with
      | lf a=>rfl
      | nd a b c d=>rw [Q.dep] at h; omega
    | succ n ih =>
      intro t h
      cases t with
      | lf a=>rfl
      | nd a b c d =>
        rw [Q.dep] at h
        refine bu.mpr ⟨by show 4≤5; decide,fun x hx=>?_⟩
        simp only [List.mem_cons,List.not_mem_nil,or_false] at hx
        rcases hx with rfl | rfl | rfl | rfl
        · exact ih a (by omega)
        · exact ih b (by omega)
        · exact ih c (by omega)
        · exact ih d (by omega)
  refine bu.mpr ⟨by show 2≤5; decide,fun x hx=>?_⟩
  simp only [List.mem_cons,List.not_mem_nil,or_false] at hx
  rcases hx with rfl | rfl
  · rfl
  · exact hq 3 t (by have:=p.dep; have:=p.h3; omega)
theorem word1 {m:Nat} (hm:1≤m):pf m F.L_word [.exc 1]=.ok (.str "no picture"):=by
  obtain ⟨m,rfl,hm⟩:=ex1 hm
  rw [il,dj]
  rfl
end Lw
end
section
set_option linter.all false
set_option maxRecDepth 10000
namespace Lw
open PySem FF
section
variable {α:Type} [DecidableEq α]
theorem iL (n:Nat) (t:Q α) {x y:Nat} (hx:x < 2^n) (hy:y < 2^n):t.at (n+1) x y=t.qs.1.at n x y∧t.at (n+1) (x+2^n) y=t.qs.2.1.at n x y∧t.at (n+1) x (y+2^n)=t.qs.2.2.1.at n x y∧t.at (n+1) (x+2^n) (y+2^n)=t.qs.2.2.2.at n x y:=by
  cases t with
  | lf a=>simp [Q.qs]
  | nd a b c d =>
    have e1:¬ (x+2^n < 2^n):=by omega
    have e2:¬ (y+2^n < 2^n):=by omega
    simp only [Q.at,Q.qs,if_pos hx,if_pos hy,if_neg e1,if_neg e2,Nat.add_sub_cancel]
    exact ⟨trivial,trivial,trivial,trivial⟩
theorem wn {β γ:Type} [DecidableEq β] [DecidableEq γ] (f:α→β→γ) (n:Nat) (t:Q α) (u:Q β):T (fun x y=>f (t.at (n+1) x y) (u.at (n+1) x y)) (n+1) =
    put4 (T (fun x y=>f (t.qs.1.at n x y) (u.qs.1.at n x y)) n) (T (fun x y=>f (t.qs.2.1.at n x y) (u.qs.2.1.at n x y)) n) (T (fun x y=>f (t.qs.2.2.1.at n x y) (u.qs.2.2.1.at n x y)) n) (T (fun x y=>f (t.qs.2.2.2.at n x y) (u.qs.2.2.2.at n x y)) n):=by
  rw [T]
  congr 1
  · exact aM n _ _ fun x y hx hy=>by rw [(iL n t hx hy).1,(iL n u hx hy).1]
  · exact aM n _ _ fun x y hx hy=>by show f (t.at (n+1) (x+2^n) y) (u.at (n+1) (x+2^n) y)=_; rw [(iL n t hx hy).2.1,(iL n u hx hy).2.1]
  · exact aM n _ _ fun x y hx hy=>by show f (t.at (n+1) x (y+2^n)) (u.at (n+1) x (y+2^n))=_; rw [(iL n t hx hy).2.2.1,(iL n u hx hy).2.2.1]
  · exact aM n _ _ fun x y hx hy=>by show f (t.at (n+1) (x+2^n) (y+2^n)) (u.at (n+1) (x+2^n) (y+2^n))=_; rw [(iL n t hx hy).2.2.2,(iL n u hx hy).2.2.2]
theorem sv {n:Nat} {t:Q α} (h:t.dep≤n+1):t.qs.1.dep≤n∧t.qs.2.1.dep≤n∧t.qs.2.2.1.dep≤n∧t.qs.2.2.2.dep≤n:=by
  cases t with
  | lf a=>exact ⟨Nat.zero_le _,Nat.zero_le _,Nat.zero_le _,Nat.zero_le _⟩
  | nd a b c d =>
    rw [Q.dep] at h
    simp only [Q.qs]
    omega
theorem sw {p:α→Prop} {t:Q α} (h:t.All p):t.qs.1.All p∧t.qs.2.1.All p∧t.qs.2.2.1.All p∧t.qs.2.2.2.All p:=by
  cases t with
  | lf a=>exact ⟨h,h,h,h⟩
  | nd a b c d=>exact h
def isLf:Q α→Bool
  | .lf _=>true
  | _=>false
theorem i8 {e:α→D} (E:En e) (t:Q α):dIsA qTup (t.d e)=.ok (.bl (!isLf t)):=by
  cases t with
  | lf a=>exact bO (E.tup a) (b9 (E.gd 0 a))
  | nd a b c d=>rfl
theorem gU {e:α→D} (E:En e) (t:Q α) {n:Nat} (hn:1≤n):pf n F.quarters_in [t.d e]=.ok (.tup [t.qs.1.d e,t.qs.2.1.d e,t.qs.2.2.1.d e,t.qs.2.2.2.d e]):=by
  obtain ⟨n,rfl,hn⟩:=ex1 hn
  rw [jA,bP,i8 E]
  cases t with
  | lf a=>rfl
  | nd a b c d=>rfl
end
theorem um (a b c d:D):sq (.lst [a,b,c,d])=.ok [a,b,c,d]:=rfl
section
variable {sz:Nat} {r:PySem.Str} {i:Nat} {f:Int→Int→Int}
theorem kL {l:List (Q Int)} (hl:l.length≤1000) (h:∀ t∈l,Pc sz t) {n:Nat} (hn:10≤n):pf n F.check_pictures [.lst (l.map (picD sz))]=.ok .non:=by
  obtain ⟨n,rfl,hn⟩:=ex1 (show 9+1≤n by omega)
  have hs:sq (.lst (l.map (picD sz)))=.ok (l.map (picD sz)):=eB (by rw [List.length_map]; omega)
  have l1:lFor (τ:=Unit) (fun _ x=>aO (pf n) x) (l.map (picD sz)) ()=.nx ():=by
    refine gR _ fun a ha=>?_
    obtain ⟨t,ht,rfl⟩:=List.mem_map.mp ha
    unfold aO
    rw [(h t ht).check (by omega)]
    rfl
  have l2:pf n F.check_sizes [.lst (l.map (picD sz))]=.ok .non:=by
    obtain ⟨n,rfl,hn⟩:=ex1 (show 8+1≤n by omega)
    rw [fE,bp,hs]
    have l3:lFor (τ:=Unit) (fun _ x=>cf (pf n) (.lst (l.map (picD sz))) x) (l.map (picD sz)) ()=.nx ():=by
      refine gR _ fun a ha=>?_
      obtain ⟨t,ht,rfl⟩:=List.mem_map.mp ha
      have h0:∃ u:Q Int,dIx (.lst (l.map (picD sz))) (.int 0)=.ok (picD sz u):=by
        cases l with
        | nil=>cases ht
        | cons u l=>exact ⟨u,by
            show (match L2.atI (picD sz u::l.map (picD sz)) 0 with | some d=>R.ok d | none=>R.stuck)=_
            have:L2.atI (picD sz u::l.map (picD sz)) 0=some (picD sz u):=by
              unfold L2.atI L2.ixN
              rw [if_pos (by omega),if_pos (by simp only [List.length_cons]; omega)]
              rfl
            rw [this]⟩
      obtain ⟨u,h0⟩:=h0
      unfold cf
      rw [h0]
      unfold picD
      simp only [ix20,STP,if_true,if_false,ite_true,ite_false,reduceIte,reduceCtorEq,eg]
      simp
    simp only [STP,if_true,if_false,ite_true,ite_false,reduceIte,reduceCtorEq,l3]
  rw [bY,aF]
  simp only [STP,if_true,if_false,ite_true,ite_false,reduceIte,reduceCtorEq,hs,l1,l2]
variable {g g':Nat→Nat→Int} {t t':Q Int}
end
end Lw
end
section
set_option linter.all false
set_option maxRecDepth 10000
namespace Lw
open PySem FF
section
variable {α:Type} [DecidableEq α]
theorem sx (a b c d:Q α):(∃ v,a=.lf v∧b=.lf v∧c=.lf v∧d=.lf v)∨put4 a b c d=.nd a b c d:=by
  unfold put4
  split
  · split
    · rename_i h2; exact .inl ⟨_,rfl,h2⟩
    · exact .inr rfl
  · exact .inr rfl
end
section
variable {p q r s:Nat} {m:Nat→(Nat→Nat→Int)→Nat→Nat→Int}
variable {sz:Nat} {g:Nat→Nat→Int} {t:Q Int}
end
end Lw
end
section
set_option linter.all false
set_option maxRecDepth 10000
namespace Lw
open PySem FF
section
variable {sz:Nat} {g g' g'':Nat→Nat→Int} {t t' t'':Q Int}
end
theorem word4 {m:Nat} (hm:1≤m):pf m F.L_word [.exc 4]=.ok (.str "unlike"):=by
  obtain ⟨m,rfl,hm⟩:=ex1 hm
  rw [il,dj]
  rfl
theorem kM {w:Nat} (hw:w≤1000) {n m:Nat} {d:D} (h:th w n d=true) (hm:n+6≤m) (c:sizedOk (inTo 9) n d=false):pf m F.check_picture [d]=.err 1:=by
  have e:=kG (n:=m) (m:=n) (gT h) (lz hw _ h) (by omega)
  rw [c] at e; exact e
end Lw
end
section
set_option linter.all false
set_option maxRecDepth 10000
namespace Lw
open PySem FF
section
variable {α β γ:Type} [DecidableEq α] [DecidableEq β] [DecidableEq γ] {ea:α→D} {eb:β→D} {ec:γ→D}
theorem vF (Ea:En ea) (Eb:En eb) (Ec:En ec) {pa:α→Prop} {pb:β→Prop} {i:Nat} {f:α→β→γ} (fv:fvL.contains i=true) (ok:∀ m a b,1≤m→pa a→pb b→pf m i [ea a,eb b]=.ok (ec (f a b))):∀ (n m:Nat) (t:Q α) (u:Q β),t.dep≤n→u.dep≤n→n≤40→t.All pa→u.All pb→n+3≤m→pf m F.joined_tree [.fn i,t.d ea,u.d eb]=.ok ((T (fun x y=>f (t.at n x y) (u.at n x y)) n).d ec):=by
  have both:∀ (n m:Nat) (a:α) (b:β),pa a→pb b→2≤m→pf m F.joined_tree [.fn i,ea a,eb b]=.ok ((T (fun x y=>f ((Q.lf a).at n x y) ((Q.lf b).at n x y)) n).d ec):=fun n m a b ha hb hm=>by
    obtain ⟨m,rfl,hm⟩:=ex1 (show 1+1≤m by omega)
    have e:T (fun x y=>f ((Q.lf a).at n x y) ((Q.lf b).at n x y)) n=.lf (f a b):=by
      rw [← gN (f a b) n]
      exact aM n _ _ fun x y _ _=>by rw [fX,fX]
    have o:onF fvL (.fn i) (fun i=>pf m i [ea a,eb b])=.ok (ec (f a b)):=by
      show (if fvL.contains i=true then pf m i [ea a,eb b] else R.stuck)=_
      rw [if_pos fv,ok m a b (by omega) ha hb]
    have h1:dIsA qTup (ea a)=.ok (.bl false):=bO (Ea.tup a) (b9 (Ea.gd 0 a))
    have h2:dIsA qTup (eb b)=.ok (.bl false):=bO (Eb.tup b) (b9 (Eb.gd 0 b))
    rw [fF,bq,e]
    simp only [STP,if_true,if_false,ite_true,ite_false,reduceIte,reduceCtorEq,h1,h2,o]
    rfl
  intro n
  induction n with
  | zero =>
    intro m t u ht hu _ wt wu hm
    cases t with
    | nd a b c d=>rw [Q.dep] at ht; omega
    | lf a =>
      cases u with
      | nd a b c d=>rw [Q.dep] at hu; omega
      | lf b=>exact both 0 m a b wt wu (by omega)
  | succ n ih =>
    intro m t u ht hu h40 wt wu hm
    by_cases hb:isLf t=true∧isLf u=true
    · cases t with
      | nd a b c d=>cases hb.1
      | lf a =>
        cases u with
        | nd a b c d=>cases hb.2
        | lf b=>exact both (n+1) m a b wt wu (by omega)
    · obtain ⟨m,rfl,hm⟩:=ex1 (show n+3+1≤m by omega)
      have td:=sv ht
      have ud:=sv hu
      have ta:=sw wt
      have ua:=sw wu
      have k1:=ih m t.qs.1 u.qs.1 td.1 ud.1 (by omega) ta.1 ua.1 (by omega)
      have k2:=ih m t.qs.2.1 u.qs.2.1 td.2.1 ud.2.1 (by omega) ta.2.1 ua.2.1 (by omega)
      have k3:=ih m t.qs.2.2.1 u.qs.2.2.1 td.2.2.1 ud.2.2.1 (by omega) ta.2.2.1 ua.2.2.1 (by omega)
      have k4:=ih m t.qs.2.2.2 u.qs.2.2.2 td.2.2.2 ud.2.2.2 (by omega) ta.2.2.2 ua.2.2.2 (by omega)
      have b1:rAnd (rNot (asB (dIsA qTup (t.d ea)))) (rNot (asB (dIsA qTup (u.d eb))))=.ok false:=by
        rw [i8 Ea,i8 Eb]
        cases h1:isLf t with
        | false=>rfl
        | true =>
          cases h2:isLf u with
          | false=>rfl
          | true=>exact (hb ⟨h1,h2⟩).elim
      have q1:=gU Ea t (n:=m) (by omega)
      have q2:=gU Eb u (n:=m) (by omega)
      have z4:∀ a b c d a' b' c' d':D,dZip (.tup [a,b,c,d]) (.tup [a',b',c',d'])=.ok [.tup [a,a'],.tup [b,b'],.tup [c,c'],.tup [d,d']]:=fun _ _ _ _ _ _ _ _=>rfl
      have step:∀ a b:D,((dIx (.tup [a,b]) (.int 0)).bind fun x2=>(dIx (.tup [a,b]) (.int 1)).bind fun x3=>pf m F.joined_tree [.fn i,x2,x3])=pf m F.joined_tree [.fn i,a,b]:=fun a b=>by rw [ix20,ix21]; rfl
      have hm4:=cMap4 (e:=fun couple=>(dIx couple (.int 0)).bind fun x2=>(dIx couple (.int 1)).bind fun x3=>pf m F.joined_tree [.fn i,x2,x3]) ((step _ _).trans k1) ((step _ _).trans k2) ((step _ _).trans k3) ((step _ _).trans k4)
      have hp:=r9 Ec (n:=m) (by omega) (a:=T (fun x y=>f (t.qs.1.at n x y) (u.qs.1.at n x y)) n) (b:=T (fun x y=>f (t.qs.2.1.at n x y) (u.qs.2.1.at n x y)) n) (c:=T (fun x y=>f (t.qs.2.2.1.at n x y) (u.qs.2.2.1.at n x y)) n) (d:=T (fun x y=>f (t.qs.2.2.2.at n x y) (u.qs.2.2.2.at n x y)) n)
        (Nat.le_trans (d5 _ _) (by omega)) (Nat.le_trans (d5 _ _) (by omega)) (Nat.le_trans (d5 _ _) (by omega)) (Nat.le_trans (d5 _ _) (by omega))
      rw [fF,bq,wn]
      simp only [STP,if_true,if_false,ite_true,ite_false,reduceIte,reduceCtorEq,b1,q1,q2,z4,um,hm4,OPP,hp]
end
section
variable {α:Type} [DecidableEq α] {e:α→D}
theorem kN {fa fb F:Nat→Nat→α} {h o:Nat} (hh:h≤1000) {some_:List D} {u:Nat} (e1:some_[u]?=some (rowsL e fa h h)) (e2:some_[u+1]?=some (rowsL e fb h h)) (ha:∀ x y,x < h→y < h→F x (o+y)=fa x y) (hb:∀ x y,x < h→y < h→F (h+x) (o+y)=fb x y) {t:Nat→List D→R D} {made:List D} (hm:made.length≤1000) :
    gi t (.lst some_) made (.int (u:Int))=.nx (made++(List.range h).map fun y=>rowL e F (h+h) (o+y)):=by
  have i1:=ixL e1
  have i2:dIx (.lst some_) (.int ((u:Int)+1))=.ok (rowsL e fb h h):=by have:=ixL e2; rw [show ((u+1:Nat):Int)=(u:Int)+1 by omega] at this; exact this
  have hl:dLen [rowsL e fa h h]=.ok (.int (h:Int)):=by unfold rowsL; rw [gP,List.length_map,List.length_range]
  have hc:cMap (fun l_k=>((dIx (.lst some_) (.int (u:Int))).bind fun x2=>dIx x2 l_k).bind fun x3=>(((dAdd (.int (u:Int)) (.int 1)).bind fun x4=>dIx (.lst some_) x4).bind fun x5=>dIx x5 l_k).bind fun x6=>dAdd x3 x6) ((List.range h).map fun i=>D.int ((i:Nat):Int))=.ok (.lst ((List.range h).map fun y=>rowL e F (h+h) (o+y))) :=
    du _ _ fun y hy=>by
      have hy:=List.mem_range.mp hy
      rw [i1]
      simp only [STP,if_true,if_false,ite_true,ite_false,reduceIte,reduceCtorEq,OPP,i2,mH hy]
      unfold rowL
      rw [catL (by simp; omega),mI (F:=F) (y':=o+y) (fun x hx=>ha x y hx hy) (fun x hx=>hb x y hx hy)]
  unfold gi
  rw [i1]
  simp only [STP,if_true,if_false,ite_true,ite_false,reduceIte,reduceCtorEq,hl,oU (show h≤16777216 by omega)]
  rw [i1] at hc
  simp only [STP,if_true,if_false,ite_true,ite_false,reduceIte,reduceCtorEq] at hc
  simp only [STP,if_true,if_false,ite_true,ite_false,reduceIte,reduceCtorEq,hc]
  rw [jP (by simp; omega)]
  rfl
theorem gW (E:En e):∀ (s:Nat) (t:Q α) (n:Nat),s≤3→t.dep≤s→s+1≤n→pf n F.L_set [.int (s:Int),t.d e]=.ok (rowsL e (t.at s) (2^s) (2^s))
  | 0,t,n,_,hd,hn=>by
    obtain ⟨n,rfl,hn⟩:=ex1 (show 0+1≤n by omega)
    rw [mo,fk,show ((0:Nat):Int)=0 from rfl]
    simp only [STP,if_true,if_false,ite_true,ite_false,reduceIte,reduceCtorEq,OPP,decide_true]
    cases t with
    | lf a=>rfl
    | nd=>simp [Q.dep] at hd
  | s+1,t,n,h3,hd,hn=>by
    obtain ⟨n,rfl,hn⟩:=ex1 (show s+1+1≤n by omega)
    have e0:¬ (((s+1:Nat):Int)=0):=by omega
    have e1:((s+1:Nat):Int) - 1=(s:Int):=by omega
    have h8:=p8 (show s≤3 by omega)
    obtain ⟨a,b,c,d,hq,ha,hb,hc,hd4,hF⟩:∃ a b c d:Q α,(rIf (asB (dIsA qTup (t.d e))) (.ok (t.d e)) (dMul (.tup [t.d e]) (.int 4)))=.ok (.tup [a.d e,b.d e,c.d e,d.d e])∧a.dep≤s∧b.dep≤s∧c.dep≤s∧d.dep≤s∧∀ x y,t.at (s+1) x y=(Q.nd a b c d).at (s+1) x y:=by
      cases t with
      | lf v =>
        refine ⟨.lf v,.lf v,.lf v,.lf v,?_,Nat.zero_le _,Nat.zero_le _,Nat.zero_le _,Nat.zero_le _,fun x y=>by simp [Q.at]⟩
        rw [bO (d:=Q.d e (.lf v)) (E.tup v) (b9 (E.gd 0 v))]
        rfl
      | nd a b c d =>
        have hd':1+max (max a.dep b.dep) (max c.dep d.dep)≤s+1:=hd
        exact ⟨a,b,c,d,rfl,by omega,by omega,by omega,by omega,fun _ _=>rfl⟩
    have ka:=gW E s a n (by omega) ha (by omega)
    have kb:=gW E s b n (by omega) hb (by omega)
    have kc:=gW E s c n (by omega) hc (by omega)
    have kd:=gW E s d n (by omega) hd4 (by omega)
    have hm:cMap (fun l_part=>(dSub (.int ((s+1:Nat):Int)) (.int 1)).bind fun x=>pf n F.L_set [x,l_part]) [a.d e,b.d e,c.d e,d.d e]=.ok (.lst [rowsL e (a.at s) (2^s) (2^s),rowsL e (b.at s) (2^s) (2^s),rowsL e (c.at s) (2^s) (2^s),rowsL e (d.at s) (2^s) (2^s)]):=by
      rw [d6,e1]; exact cMap4 ka kb kc kd
    have u1:=kN (e:=e) (fa:=a.at s) (fb:=b.at s) (F:=t.at (s+1)) (h:=2^s) (o:=0) (by omega) (some_:=[rowsL e (a.at s) (2^s) (2^s),rowsL e (b.at s) (2^s) (2^s),rowsL e (c.at s) (2^s) (2^s),rowsL e (d.at s) (2^s) (2^s)]) (u:=0) rfl rfl
      (fun x y hx hy=>by rw [hF,Q.at,if_pos (by omega),if_pos hx,Nat.zero_add]) (fun x y hx hy=>by rw [hF,Q.at,if_pos (by omega),if_neg (by omega),Nat.zero_add,Nat.add_sub_cancel_left]) (t:=pf n) (made:=[]) (by simp)
    have u2:=kN (e:=e) (fa:=c.at s) (fb:=d.at s) (F:=t.at (s+1)) (h:=2^s) (o:=2^s) (by omega) (some_:=[rowsL e (a.at s) (2^s) (2^s),rowsL e (b.at s) (2^s) (2^s),rowsL e (c.at s) (2^s) (2^s),rowsL e (d.at s) (2^s) (2^s)]) (u:=2) rfl rfl
      (fun x y hx hy=>by rw [hF,Q.at,if_neg (by omega),if_pos hx,Nat.add_sub_cancel_left]) (fun x y hx hy=>by rw [hF,Q.at,if_neg (by omega),if_neg (by omega),Nat.add_sub_cancel_left,Nat.add_sub_cancel_left]) (t:=pf n) (made:=(List.range (2^s)).map fun y=>rowL e (t.at (s+1)) (2^s+2^s) (0+y)) (by simp; omega)
    rw [mo,fk,hq]
    have hs2:sq (.tup [(.int 0),(.int 2)])=.ok [.int 0,.int 2]:=rfl
    rw [show ((0:Nat):Int)=0 from rfl] at u1
    rw [show ((2:Nat):Int)=2 from rfl] at u2
    simp only [STP,if_true,if_false,ite_true,ite_false,reduceIte,reduceCtorEq,OPP,decide_eq_false e0,sq4,e1,hs2,aQ,di] at hm ⊢
    simp only [STP,if_true,if_false,ite_true,ite_false,reduceIte,reduceCtorEq,hm,u1,List.nil_append] at u2 ⊢
    simp only [STP,if_true,if_false,ite_true,ite_false,reduceIte,reduceCtorEq,u2]
    unfold rowsL
    rw [dh,List.range_add,List.map_append,List.map_map]
    simp [Function.comp_def]
end
def inSet:D→Bool
  | .non=>true
  | d=>inTo 9 d
theorem n6 {n:Nat} (hn:3≤n) {d:D} (h:noX d=true):pf n F.is_setting [d]=.ok (.bl (inSet d)):=by
  obtain ⟨n,rfl,hn⟩:=ex1 (show 2+1≤n by omega)
  have e:=mC (n:=n) (by omega) h
  rw [kg,cg]
  cases d<;>first | (cases h; done) | (simp only [dIs,e,STP,if_true,if_false,ite_true,ite_false,reduceIte,reduceCtorEq,inSet])
theorem n8:fvL.contains F.is_setting=true:=by decide
theorem jV {n m:Nat} {d:D} (hg:good (m+1) d=true) (hs:slim (m+1) d=true) (hn:m+6≤n):pf n F.is_change [d]=.ok (.bl (sizedOk inSet m d)):=by
  obtain ⟨n,rfl,hn⟩:=ex1 (show m+5+1≤n by omega)
  have e:=mD (i:=F.is_setting) (c:=3) (p:=inSet) (by decide) n8 (fun m d hm hx=>n6 hm hx) m n d hg hs (by omega)
  rw [lc,cB]
  simp only [STP,if_true,if_false,ite_true,ite_false,reduceIte,reduceCtorEq,e]
theorem jW {n m:Nat} {d:D} (hg:good (m+1) d=true) (hs:slim (m+1) d=true) (hn:m+7≤n):pf n F.check_change [d]=if sizedOk inSet m d=true then .ok .non else .err 7:=by
  obtain ⟨n,rfl,hn⟩:=ex1 (show m+6+1≤n by omega)
  have e:=jV (n:=n) hg hs (by omega)
  rw [iQ,bz]
  simp only [STP,if_true,if_false,ite_true,ite_false,reduceIte,reduceCtorEq,e]
  cases sizedOk inSet m d<;>rfl
def S9 (o:Option Int):Prop:=∀ v,o=some v→W9 v
theorem uo {o:Option Int} (h:S9 o):inSet (oD o)=true:=by
  cases o with
  | none=>rfl
  | some v=>exact in9 (h v rfl)
def chD (sz:Nat) (t:Q (Option Int)):D:=.tup [.int (sz:Int),t.d oD]
structure Cg (sz:Nat) (t:Q (Option Int)):Prop where
  h3:sz≤3
  dep:t.dep≤sz
  all:t.All S9
section
variable {sz:Nat} {t:Q (Option Int)}
theorem Cg.good (p:Cg sz t):good 4 (chD sz t)=true:=by
  have:=Q.gd En.opt 3 t (by have:=p.dep; have:=p.h3; omega)
  unfold chD; rw [FF.good,goods,goods,this]; rfl
theorem Cg.slim (p:Cg sz t):slim 4 (chD sz t)=true:=by
  have:=iA (e:=oD) (fun a=>by cases a<;>rfl) En.opt 3 t
  unfold chD; rw [Lw.slim]; simp [this,Lw.slim]
theorem Cg.sized (p:Cg sz t):sizedOk inSet 3 (chD sz t)=true:=by
  have h3:=p.h3
  have:=iB (p:=inSet) En.opt 3 sz t (by have:=p.dep; omega) p.dep (fS (fun a h=>uo h) p.all)
  unfold chD sizedOk
  simp only [inTo,this,Bool.and_true]
  simp; omega
theorem Cg.check (p:Cg sz t) {n:Nat} (hn:10≤n):pf n F.check_change [chD sz t]=.ok .non:=by rw [jW p.good p.slim hn,p.sized]; rfl
theorem Cg.g60 (p:Cg sz t):FF.good 60 (chD sz t)=true:=bZ p.good (by decide)
end
structure Sc (sz:Nat) (c:Nat→Nat→Option Int) (t:Q (Option Int)):Prop where
  p:Cg sz t
  w:∀ x y,x < 2^sz→y < 2^sz→t.at sz x y=c x y
def Ws (c:Nat→Nat→Option Int) (sz:Nat):Prop:=∀ x y,x < 2^sz→y < 2^sz→S9 (c x y)
theorem Sc.wo {sz:Nat} {c:Nat→Nat→Option Int} {t:Q (Option Int)} (h:Sc sz c t):Ws c sz:=fun x y hx hy=>by rw [← h.w x y hx hy]; exact gn sz t x y h.p.all
theorem sc_T {sz:Nat} {c:Nat→Nat→Option Int} (h3:sz≤3) (h:Ws c sz):Sc sz c (T c sz):=⟨⟨h3,d5 sz c,kE sz c h⟩,fun x y hx hy=>T_at sz c x y hx hy⟩
theorem Cg.sc {sz:Nat} {t:Q (Option Int)} (p:Cg sz t):Sc sz (t.at sz) t:=⟨p,fun _ _ _ _=>rfl⟩
def ov (a:Int) (o:Option Int):Int:=o.getD a
theorem uq {α:Type} {e:α→D} {m:Nat} (hm:1≤m) (a:D) (b:Option Int):pf m F.set_over [a,oD b]=.ok (match b with | none=>a | some v=>.int v):=by
  obtain ⟨m,rfl,hm⟩:=ex1 (show 0+1≤m by omega)
  rw [mm,cZ]
  cases b<;>rfl
theorem ur:fvL.contains F.set_over=true:=by decide
theorem vG (n m:Nat) (t:Q Int) (u:Q (Option Int)) (ht:t.dep≤n) (hu:u.dep≤n) (h40:n≤40) (hm:n+3≤m) (wt:t.All W9) (wu:u.All S9):pf m F.joined_tree [.fn F.set_over,t.d .int,u.d oD]=.ok ((T (fun x y=>ov (t.at n x y) (u.at n x y)) n).d .int) :=
  vF En.int En.opt En.int (pa:=W9) (pb:=S9) (f:=ov) ur (fun m a b hm _ _=>by rw [uq (e:=D.int) hm]; cases b<;>rfl) n m t u ht hu h40 wt wu hm
theorem sizes2 {s1 s2:Nat} {a b:D} {m:Nat} (hm:1≤m):pf m F.check_sizes [.lst [.tup [.int (s1:Int),a],.tup [.int (s2:Int),b]]]=if s1=s2 then .ok .non else .err 4:=by
  obtain ⟨m,rfl,hm⟩:=ex1 (show 0+1≤m by omega)
  have hs:sq (.lst [.tup [.int (s1:Int),a],.tup [.int (s2:Int),b]])=.ok [.tup [.int (s1:Int),a],.tup [.int (s2:Int),b]]:=rfl
  have e0:dIx (.lst [.tup [.int (s1:Int),a],.tup [.int (s2:Int),b]]) (.int 0)=.ok (.tup [.int (s1:Int),a]):=rfl
  rw [fE,bp,hs]
  simp only [STP,if_true,if_false,ite_true,ite_false,reduceIte,reduceCtorEq,OPP,lFor,cf,e0,decide_true]
  by_cases h:s1=s2
  · rw [decide_eq_true (show (s2:Int)=s1 by omega),if_pos h]; simp only [STP,if_true,if_false,ite_true,ite_false,reduceIte,reduceCtorEq]
  · rw [decide_eq_false (show ¬ (s2:Int)=s1 by omega),if_neg h]; simp only [STP,if_true,if_false,ite_true,ite_false,reduceIte,reduceCtorEq]
section
variable {sz:Nat} {g g':Nat→Nat→Int} {c c':Nat→Nat→Option Int} {t t':Q Int} {u u':Q (Option Int)}
theorem Sc.lean (q:Sc sz c u) {n:Nat} (hn:11≤n):pf n F.lean_change [chD sz u]=.ok (chD sz (T c sz)):=by
  obtain ⟨n,rfl,hn⟩:=ex1 (show 10+1≤n by omega)
  have h3:=q.p.h3; have hd:=q.p.dep
  have e1:=q.p.check (n:=n) (by omega)
  have e2:=cU En.opt u n (by omega) (by omega)
  rw [ez sz u hd,aM sz _ _ q.w] at e2
  rw [fG,br,e1,bX]
  unfold chD
  simp only [STP,if_true,if_false,ite_true,ite_false,reduceIte,reduceCtorEq,OPP,e2]
theorem Sc.changed (q:Sc sz c u) (s:Sh sz g t) {n:Nat} (hn:11≤n):pf n F.changed [picD sz t,chD sz u]=.ok (picD sz (T (fun x y=>ov (g x y) (c x y)) sz)):=by
  obtain ⟨n,rfl,hn⟩:=ex1 (show 10+1≤n by omega)
  have h3:=q.p.h3; have hd:=q.p.dep
  have e1:=q.p.check (n:=n) (by omega)
  have e2:=s.p.check (n:=n) (by omega)
  have e3:pf n F.check_sizes [.lst [picD sz t,chD sz u]]=.ok .non:=(sizes2 (by omega)).trans (if_pos rfl)
  have e4:=vG sz n t u s.p.dep hd (by omega) (by omega) s.p.all q.p.all
  rw [aM sz _ (fun x y=>ov (g x y) (c x y)) (fun x y hx hy=>by rw [q.w x y hx hy,s.w x y hx hy])] at e4
  rw [fm,ci,e1,e2,bX,bX,e3,bX]
  unfold chD picD
  simp only [STP,if_true,if_false,ite_true,ite_false,reduceIte,reduceCtorEq,OPP,e4]
theorem Sc.over (q:Sc sz c u) (s:Sh sz g t):Sh sz (fun x y=>ov (g x y) (c x y)) (T (fun x y=>ov (g x y) (c x y)) sz):=sh_T s.p.h3 fun x y hx hy=>by
  show W9 (ov (g x y) (c x y))
  have h:=q.wo x y hx hy
  cases e:c x y with
  | none=>exact s.wo x y hx hy
  | some v=>exact h v e
theorem T_qs (n:Nat) (g:Nat→Nat→Int):(T g (n+1)).qs=(T g n,T (sh g (2^n) 0) n,T (sh g 0 (2^n)) n,T (sh g (2^n) (2^n)) n):=by
  rw [T]
  rcases sx (T g n) (T (sh g (2^n) 0) n) (T (sh g 0 (2^n)) n) (T (sh g (2^n) (2^n)) n) with ⟨v,h1,h2,h3,h4⟩ | h
  · rw [h1,h2,h3,h4,iz]; rfl
  · rw [h]; rfl
theorem vH:∀ (n:Nat) (g g':Nat→Nat→Int) (m:Nat),n≤40→n+2≤m→(∀ x y,x < 2^n→y < 2^n→W9 (g' x y)) →
    ∃ u:Q (Option Int),u.dep≤n∧u.All S9∧(∀ x y,x < 2^n→y < 2^n→ov (g x y) (u.at n x y)=g' x y)∧(T g n=T g' n→u=.lf none)∧pf m F.tree_between [(T g n).d .int,(T g' n).d .int]=.ok (u.d oD):=by
  intro n
  induction n with
  | zero =>
    intro g g' m h40 hm hw
    obtain ⟨m,rfl,hm⟩:=ex1 (show 0+1≤m by omega)
    by_cases h:g 0 0=g' 0 0
    · refine ⟨.lf none,Nat.le_refl _,(fun v hv=>by cases hv),fun x y hx hy=>?_,fun _=>rfl,?_⟩
      · have:x=0∧y=0:=by constructor<;>(simp at hx hy; omega)
        rw [this.1,this.2]; exact h
      · rw [aH,az]
        show outL (lS (lB (asB (dEq (.int (g 0 0)) (.int (g' 0 0)))) _) _)=_
        rw [fu,decide_eq_true h]; simp only [STP,if_true,if_false,ite_true,ite_false,reduceIte,reduceCtorEq]; rfl
    · refine ⟨.lf (some (g' 0 0)),Nat.le_refl _,(fun v hv=>by cases hv; exact hw 0 0 (by decide) (by decide)),fun x y hx hy=>?_,fun e=>?_,?_⟩
      · have:x=0∧y=0:=by constructor<;>(simp at hx hy; omega)
        rw [this.1,this.2]; rfl
      · simp only [T,Q.lf.injEq] at e; exact (h e).elim
      · rw [aH,az]
        show outL (lS (lB (asB (dEq (.int (g 0 0)) (.int (g' 0 0)))) _) _)=_
        rw [fu,decide_eq_false h]
        have t1:dIsA qTup ((T g' 0).d .int)=.ok (.bl false):=rfl
        simp only [STP,if_true,if_false,ite_true,ite_false,reduceIte,reduceCtorEq,t1]; rfl
  | succ n ih =>
    intro g g' m h40 hm hw
    obtain ⟨m,rfl,hm⟩:=ex1 (show n+2+1≤m by omega)
    have hd1:(T g (n+1)).dep≤50:=Nat.le_trans (d5 _ _) (by omega)
    have hd2:(T g' (n+1)).dep≤50:=Nat.le_trans (d5 _ _) (by omega)
    have he:dEq ((T g (n+1)).d .int) ((T g' (n+1)).d .int)=.ok (.bl (decide (T g (n+1)=T g' (n+1)))):=by
      rw [dk (bZ (Q.g60 En.int hd1) (by decide)) (bZ (Q.g60 En.int hd2) (by decide)),Q.eqd En.int]
    by_cases h:T g (n+1)=T g' (n+1)
    · refine ⟨.lf none,Nat.zero_le _,(fun v hv=>by cases hv),fun x y hx hy=>by rw [fX]; exact uB h x y hx hy,fun _=>rfl,?_⟩
      rw [aH,az,he,decide_eq_true h]
      simp only [STP,if_true,if_false,ite_true,ite_false,reduceIte,reduceCtorEq]; rfl
    · cases hq:T g' (n+1) with
      | lf v =>
        have hv:∀ x y,x < 2^(n+1)→y < 2^(n+1)→g' x y=v:=fun x y hx hy=>by rw [← T_at (n+1) g' x y hx hy,hq,fX]
        refine ⟨.lf (some v),Nat.zero_le _,(fun w e=>by cases e; rw [← hv 0 0 (Nat.two_pow_pos _) (Nat.two_pow_pos _)]; exact hw 0 0 (Nat.two_pow_pos _) (Nat.two_pow_pos _)),fun x y hx hy=>by rw [fX,hv x y hx hy]; rfl,fun e=>(h (e.trans hq.symm)).elim,?_⟩
        rw [hq] at he h
        rw [aH,az,he,decide_eq_false h]
        have t1:dIsA qTup (Q.d .int (.lf v))=.ok (.bl false):=rfl
        simp only [STP,if_true,if_false,ite_true,ite_false,reduceIte,reduceCtorEq,t1]; rfl
      | nd a b c d =>
        have q1:=T_qs n g
        have q2:=T_qs n g'
        rw [hq] at q2
        simp only [Q.qs,Prod.mk.injEq] at q2
        obtain ⟨ea,eb,ec,ed⟩:=q2
        have pw:2^(n+1)=2^n+2^n:=dh n
        obtain ⟨u1,d1,a1,f1,_,k1⟩:=ih g g' m (by omega) (by omega) (fun x y hx hy=>hw x y (by omega) (by omega))
        obtain ⟨u2,d2,a2,f2,_,k2⟩:=ih (sh g (2^n) 0) (sh g' (2^n) 0) m (by omega) (by omega) (fun x y hx hy=>hw _ _ (by omega) (by omega))
        obtain ⟨u3,d3,a3,f3,_,k3⟩:=ih (sh g 0 (2^n)) (sh g' 0 (2^n)) m (by omega) (by omega) (fun x y hx hy=>hw _ _ (by omega) (by omega))
        obtain ⟨u4,d4,a4,f4,_,k4⟩:=ih (sh g (2^n) (2^n)) (sh g' (2^n) (2^n)) m (by omega) (by omega) (fun x y hx hy=>hw _ _ (by omega) (by omega))
        rw [← ea] at k1; rw [← eb] at k2; rw [← ec] at k3; rw [← ed] at k4
        refine ⟨.nd u1 u2 u3 u4,by simp only [Q.dep]; omega,⟨a1,a2,a3,a4⟩,fun x y hx hy=>?_,fun e=>(h (e.trans hq.symm)).elim,?_⟩
        · rw [pw] at hx hy
          simp only [Q.at]
          by_cases hy':y < 2^n<;>by_cases hx':x < 2^n
          · rw [if_pos hy',if_pos hx']; exact f1 x y hx' hy'
          · rw [if_pos hy',if_neg hx']
            have:=f2 (x - 2^n) y (by omega) hy'
            simp only [sh,Nat.add_zero,show x - 2^n+2^n=x by omega] at this; exact this
          · rw [if_neg hy',if_pos hx']
            have:=f3 x (y - 2^n) hx' (by omega)
            simp only [sh,Nat.add_zero,show y - 2^n+2^n=y by omega] at this; exact this
          · rw [if_neg hy',if_neg hx']
            have:=f4 (x - 2^n) (y - 2^n) (by omega) (by omega)
            simp only [sh,show x - 2^n+2^n=x by omega,show y - 2^n+2^n=y by omega] at this; exact this
        · rw [hq] at he h
          have qk:=gU En.int (T g (n+1)) (n:=m) (by omega)
          rw [q1] at qk
          simp only at qk
          have M:cMap (fun number=>(dIx (.tup [(T g n).d .int,(T (sh g (2^n) 0) n).d .int,(T (sh g 0 (2^n)) n).d .int,(T (sh g (2^n) (2^n)) n).d .int]) number).bind fun x=>(dIx (.tup [a.d .int,b.d .int,c.d .int,d.d .int]) number).bind fun x1=>pf m F.tree_between [x,x1]) [.int 0,.int 1,.int 2,.int 3]=.ok (.lst [u1.d oD,u2.d oD,u3.d oD,u4.d oD]):=cMap4 (e:=fun number=>(dIx (.tup [(T g n).d .int,(T (sh g (2^n) 0) n).d .int,(T (sh g 0 (2^n)) n).d .int,(T (sh g (2^n) (2^n)) n).d .int]) number).bind fun x=>(dIx (.tup [a.d .int,b.d .int,c.d .int,d.d .int]) number).bind fun x1=>pf m F.tree_between [x,x1]) k1 k2 k3 k4
          rw [aH,az,he,decide_eq_false h]
          simp only [Q.d,STP,if_true,if_false,ite_true,ite_false,reduceIte,reduceCtorEq,OPP,qk,rng4,M]
theorem Sh.between (s:Sh sz g t) (s':Sh sz g' t') {n:Nat} (hn:11≤n):∃ u:Q (Option Int),Sc sz (u.at sz) u∧(∀ x y,x < 2^sz→y < 2^sz→ov (g x y) (u.at sz x y)=g' x y)∧(T g sz=T g' sz→u=.lf none)∧pf n F.between [picD sz t,picD sz t']=.ok (chD sz u):=by
  obtain ⟨n,rfl,hn⟩:=ex1 (show 10+1≤n by omega)
  have h3:=s.p.h3
  obtain ⟨u,hd,ha,hf,hN,hk⟩:=vH sz g g' n (by omega) (by omega) s'.wo
  refine ⟨u,(⟨h3,hd,ha⟩:Cg sz u).sc,hf,hN,?_⟩
  have e2:pf n F.check_pictures [.lst [picD sz t,picD sz t']]=.ok .non:=kL (l:=[t,t']) (by simp) (fun u hu=>by
    simp only [List.mem_cons,List.not_mem_nil,or_false] at hu
    rcases hu with rfl | rfl
    · exact s.p
    · exact s'.p) (by omega)
  have l1:=cU En.int t n (by have:=s.p.dep; omega) (by have:=s.p.dep; omega)
  rw [ez sz t s.p.dep,aM sz _ _ s.w] at l1
  have l2:=cU En.int t' n (by have:=s'.p.dep; omega) (by have:=s'.p.dep; omega)
  rw [ez sz t' s'.p.dep,aM sz _ _ s'.w] at l2
  rw [gj,cC,e2,bX]
  unfold picD chD
  simp only [STP,if_true,if_false,ite_true,ite_false,reduceIte,reduceCtorEq,OPP,l1,l2,hk]
end
end Lw
end
section
set_option linter.all false
set_option maxRecDepth 10000
namespace Lw
open PySem FF
def valsO (f:Nat→Nat→Option Int) (w k:Nat):List (Option Int):=(List.range k).flatMap fun y=>(List.range w).map fun x=>f x y
theorem qp (f:Nat→Nat→Option Int) (w k:Nat):(valsO f w k).length=k*w:=by
  unfold valsO
  rw [List.length_flatMap]
  simp [List.map_const',List.sum_replicate_nat]
theorem iD {f:Nat→Nat→Option Int} {w k:Nat} {v:Option Int}:v∈valsO f w k↔∃ x y,x < w∧y < k∧v=f x y:=by
  unfold valsO
  simp only [List.mem_flatMap,List.mem_range,List.mem_map]
  constructor
  · rintro ⟨y,hy,x,hx,rfl⟩; exact ⟨x,y,hx,hy,rfl⟩
  · rintro ⟨x,y,hx,hy,rfl⟩; exact ⟨y,hy,x,hx,rfl⟩
theorem n9 {f:Nat→Nat→Option Int} {w k:Nat} (hw:0 < w) (hk:0 < k):∃ r,valsO f w k=f 0 0::r:=by
  obtain ⟨w,rfl⟩:∃ j,w=j+1:=⟨w - 1,by omega⟩
  obtain ⟨k,rfl⟩:∃ j,k=j+1:=⟨k - 1,by omega⟩
  unfold valsO
  rw [show List.range (k+1)=0::(List.range k).map Nat.succ from List.range_succ_eq_map,List.flatMap_cons,show List.range (w+1)=0::(List.range w).map Nat.succ from List.range_succ_eq_map]
  exact ⟨_,rfl⟩
theorem mU (n:Nat):∀ l:List (Option Int),goods n (l.map oD)=true
  | []=>rfl
  | b::l=>by rw [List.map_cons,goods,mU n l,En.opt.gd]; rfl
theorem oa:∀ (n:Nat) (f:Nat→Nat→Option Int) (k:Nat),n≤3→n+1≤k→pf k F.L_least_set [rowsL oD f (2^n) (2^n)]=.ok ((T f n).d oD):=by
  have flat:∀ (f:Nat→Nat→Option Int) (s:Nat) (t:Nat→List D→R D),s≤8→lFor (τ:=List D) (fun s x=>cj t s x) ((List.range s).map fun y=>rowL oD f s y) []=.nx ((valsO f s s).map oD):=fun f s t hs=>by
    have h8:s*s≤64:=Nat.mul_le_mul hs hs
    have:=jQ (fun y=>rowL oD f s y) (step:=fun s x=>cj t s x) (fun y=>(List.range s).map fun x=>oD (f x y)) s (List.range s) [] (fun y hy acc ha=>by
      unfold cj rowL
      rw [jP (by simp; omega)]
      rfl) (fun y hy=>by simp) (by simp; omega)
    rw [this]
    unfold valsO
    simp [List.map_flatMap,Function.comp_def]
  have test:∀ (f:Nat→Nat→Option Int) (s:Nat),0 < s→s≤8→((sq (.lst ((valsO f s s).map oD))).bind fun xs1=>cFil (fun l_one=>(asB ((dIx (.lst ((valsO f s s).map oD)) (.int 0)).bind fun x1=>dNf l_one x1))) (fun l_one=>.ok l_one) xs1).bind (fun x2=>dEq x2 (.lst []))=.ok (.bl (decide (∀ v∈valsO f s s,v=f 0 0)))∧dIx (.lst ((valsO f s s).map oD)) (.int 0)=.ok (oD (f 0 0)):=fun f s h0 h8=>by
    have h64:s*s≤64:=Nat.mul_le_mul h8 h8
    have hl:=qp f s s
    obtain ⟨r,hr⟩:=n9 (f:=f) h0 h0
    have e0:dIx (.lst ((valsO f s s).map oD)) (.int 0)=.ok (oD (f 0 0)):=ixL (i:=0) (by rw [hr]; rfl)
    refine ⟨?_,e0⟩
    have e1:=eB (xs:=(valsO f s s).map oD) (by simp; omega)
    have e2:cFil (fun l_one=>(asB ((dIx (.lst ((valsO f s s).map oD)) (.int 0)).bind fun x1=>dNf l_one x1))) (fun l_one=>.ok l_one) ((valsO f s s).map oD)=.ok (.lst (((valsO f s s).filter fun v=>!decide (v=f 0 0)).map oD)):=lv oD oD (fun v=>!decide (v=f 0 0)) fun v _=>⟨by
      rw [e0,R.bind_ok,my (En.opt.gd _ _) (En.opt.gd _ _),En.opt.eq]; rfl,fun _=>rfl⟩
    rw [e1,R.bind_ok,e2,R.bind_ok,dk (by rw [good]; exact mU _ _) rfl]
    congr 2
    cases hx:(valsO f s s).filter fun v=>!decide (v=f 0 0) with
    | nil =>
      have:∀ v∈valsO f s s,v=f 0 0:=fun v hv=>by
        have:=List.filter_eq_nil_iff.1 hx v hv
        simpa using this
      rw [decide_eq_true this]; rfl
    | cons a l =>
      have ha:a∈(valsO f s s).filter fun v=>!decide (v=f 0 0):=by rw [hx]; simp
      have ha:=List.mem_filter.1 ha
      have:¬ ∀ v∈valsO f s s,v=f 0 0:=fun h=>by have:=h a ha.1; simp [this] at ha
      rw [decide_eq_false this]; rfl
  intro n
  induction n with
  | zero =>
    intro f k _ hk
    obtain ⟨k,rfl,hk⟩:=ex1 (show 0+1≤k by omega)
    have hf:=flat f 1 (pf k) (by decide)
    obtain ⟨t1,t2⟩:=test f 1 (by decide) (by decide)
    have ha:∀ v∈valsO f 1 1,v=f 0 0:=fun v hv=>by
      obtain ⟨x,y,hx,hy,rfl⟩:=iD.1 hv
      rw [show x=0 by omega,show y=0 by omega]
    rw [decide_eq_true ha] at t1
    simp only [t2,R.bind_ok] at t1
    rw [fH,bt]
    unfold rowsL
    rw [show (2^0:Nat)=1 from rfl,eB (by simp),bX,hf]
    simp only [STP,if_true,if_false,ite_true,ite_false,reduceIte,reduceCtorEq,t1,t2]
    rfl
  | succ n ih =>
    intro f k h3 hk
    obtain ⟨k,rfl,hk⟩:=ex1 (show n+1+1≤k by omega)
    have h8:=p8 h3
    have hp:=pos2 (n+1)
    have hq:=pos2 n
    have hd:=dh n
    have hf:=flat f (2^(n+1)) (pf k) h8
    obtain ⟨t1,t2⟩:=test f (2^(n+1)) hp h8
    have hsq:sq (rowsL oD f (2^(n+1)) (2^(n+1)))=.ok ((List.range (2^(n+1))).map fun y=>rowL oD f (2^(n+1)) y):=eB (by simp; omega)
    have hln:dLen [rowsL oD f (2^(n+1)) (2^(n+1))]=.ok (.int ((2^(n+1):Nat):Int)):=by unfold rowsL; simp
    rw [fH,bt]
    by_cases hall:∀ x y,x < 2^(n+1)→y < 2^(n+1)→f x y=f 0 0
    · have h3:T f (n+1)=.lf (f 0 0):=(aM _ _ _ hall).trans (gN _ _)
      have ha:∀ v∈valsO f (2^(n+1)) (2^(n+1)),v=f 0 0:=fun v hv=>by
        obtain ⟨x,y,hx,hy,rfl⟩:=iD.1 hv
        exact hall x y hx hy
      rw [decide_eq_true ha] at t1
      simp only [t2,R.bind_ok] at t1
      simp only [STP,if_true,if_false,ite_true,ite_false,reduceIte,reduceCtorEq,hsq,hf,t1,t2,h3,Q.d]
    · have ha:¬ ∀ v∈valsO f (2^(n+1)) (2^(n+1)),v=f 0 0:=fun h=>hall fun x y hx hy=>h _ (iD.2 ⟨x,y,hx,hy,rfl⟩)
      rw [decide_eq_false ha] at t1
      simp only [t2,R.bind_ok] at t1
      have one:∀ (tp lf:Nat) (parts:List D),tp+2^n≤2^(n+1)→lf+2^n≤2^(n+1)→parts.length≤10→c7 (pf k) (rowsL oD f (2^(n+1)) (2^(n+1))) (.int ((2^n:Nat):Int)) (.int (tp:Int)) parts (.int (lf:Int))=.nx (parts++[(T (sh f lf tp) n).d oD]):=fun tp lf parts htp hlf hpa=>by
        have c1:(tp:Int)+((2^n:Nat):Int)=((tp+2^n:Nat):Int):=by omega
        have c2:(lf:Int)+((2^n:Nat):Int)=((lf+2^n:Nat):Int):=by omega
        have ai:∀ i:Int,asI (.int i)=.ok (some i):=fun _=>rfl
        have s1:dSw (rowsL oD f (2^(n+1)) (2^(n+1))) (some (tp:Int)) (some ((tp+2^n:Nat):Int))=.ok (.lst ((List.range (2^n)).map fun i=>rowL oD f (2^(n+1)) (tp+i))):=by
          unfold rowsL
          show R.ok (D.lst (cutD _ _ _))=_
          rw [dP htp]
        have s2:sq (.lst ((List.range (2^n)).map fun i=>rowL oD f (2^(n+1)) (tp+i)))=.ok ((List.range (2^n)).map fun i=>rowL oD f (2^(n+1)) (tp+i)):=eB (by simp; omega)
        have s3:cMap (fun l_row=>dSw l_row (some (lf:Int)) (some ((lf+2^n:Nat):Int))) ((List.range (2^n)).map fun i=>rowL oD f (2^(n+1)) (tp+i))=.ok (rowsL oD (sh f lf tp) (2^n) (2^n)):=by
          refine (du _ (fun i=>rowL oD (sh f lf tp) (2^n) i) fun i hi=>?_).trans rfl
          unfold rowL
          show R.ok (D.lst (cutD _ _ _))=_
          rw [dP (g:=fun x=>oD (f x (tp+i))) hlf]
          unfold sh
          congr 2
          exact List.map_congr_left fun x _=>by rw [Nat.add_comm lf x,Nat.add_comm tp i]
        have s4:=ih (sh f lf tp) k (by omega) (by omega)
        unfold c7
        simp only [STP,if_true,if_false,ite_true,ite_false,reduceIte,reduceCtorEq,OPP,ai,c1,c2,s1,s2,s3,s4]
        rw [lx (by omega)]
        rfl
      have pair:∀ (tp:Nat) (parts:List D),tp+2^n≤2^(n+1)→parts.length≤5→c8 (pf k) (rowsL oD f (2^(n+1)) (2^(n+1))) (.int ((2^n:Nat):Int)) parts (.int (tp:Int))=.nx (parts++[(T (sh f 0 tp) n).d oD,(T (sh f (2^n) tp) n).d oD]):=fun tp parts htp hpa=>by
        have h0:=one tp 0 parts htp (by omega) (by omega)
        have h1:=one tp (2^n) (parts++[(T (sh f 0 tp) n).d oD]) htp (by omega) (by simp; omega)
        have hs2:sq (.tup [(.int 0),(.int ((2^n:Nat):Int))])=.ok [.int 0,.int ((2^n:Nat):Int)]:=rfl
        rw [show ((0:Nat):Int)=0 from rfl] at h0
        unfold c8
        simp only [STP,if_true,if_false,ite_true,ite_false,reduceIte,reduceCtorEq,hs2,aQ,di,h0,h1,List.append_assoc,List.cons_append,List.nil_append]
      have p0:=pair 0 [] (by omega) (by simp)
      have p1:=pair (2^n) [(T (sh f 0 0) n).d oD,(T (sh f (2^n) 0) n).d oD] (by omega) (by simp)
      have hs2:sq (.tup [(.int 0),(.int ((2^n:Nat):Int))])=.ok [.int 0,.int ((2^n:Nat):Int)]:=rfl
      rw [show ((0:Nat):Int)=0 from rfl] at p0
      rw [T_nd hall]
      simp only [STP,if_true,if_false,ite_true,ite_false,reduceIte,reduceCtorEq,hsq,hf,t1,t2,hln,lw,hs2,aQ,di,p0,List.nil_append,p1,List.cons_append,Q.d,ft]
      rfl
theorem og {w:Nat} (hw:w≤1000):∀ (n m:Nat) (s:Int) (d:D),th w n d=true→n+1≤m→n≤50→pf m F.L_is_change_tree [d,.int s]=.ok (.bl (treeOk inSet n s d)):=by
  have flat:∀ (n m:Nat) (s:Int) (d:D),th w n d=true→isTup d=false→1≤m→pf m F.L_is_change_tree [d,.int s]=.ok (.bl (treeOk inSet n s d)):=fun n m s d h ht hm=>by
    obtain ⟨m,rfl,hm⟩:=ex1 hm
    have e:treeOk inSet n s d=inSet d:=by cases n<;>cases d<;>first | rfl | (cases ht; done)
    rw [dm,aJ,e]
    cases d with
    | int i =>
      have i1:dIs (.int i) .non=.ok (.bl false):=rfl
      have i2:asB (dIsA qInt (.int i))=.ok true:=rfl
      have i3:asB (dIsA qBool (.int i))=.ok false:=rfl
      have i4:dIsA qTup (.int i)=.ok (.bl false):=rfl
      simp only [STP,if_true,if_false,ite_true,ite_false,reduceIte,reduceCtorEq,i1,i2,i3,i4,mz,inSet,inTo]
      by_cases h0:(0:Int)≤i<;>by_cases h9:i≤9<;>simp [h0,h9]
    | tup _=>cases ht
    | exc _=>cases n<;>simp [th] at h
    | fn _=>cases n<;>simp [th] at h
    | _=>rfl
  intro n
  induction n with
  | zero=>intro m s d h hm _; exact flat 0 m s d h (by cases d<;>first | rfl | (simp [th] at h)) hm
  | succ n ih =>
    intro m s d h hm hn
    by_cases ht:isTup d=true
    · cases d with
      | tup xs =>
        have hh:=bu.mp h
        obtain ⟨m,rfl,hm⟩:=ex1 hm
        have hc:cFil (fun l_part=>(rNot (asB ((dSub (.int s) (.int 1)).bind fun x1=>pf m F.L_is_change_tree [l_part,x1])))) (fun l_part=>.ok l_part) xs=.ok (.lst (xs.filter fun d=>!treeOk inSet n (s - 1) d)):=by
          have:=lv (c:=fun l_part=>(rNot (asB ((dSub (.int s) (.int 1)).bind fun x1=>pf m F.L_is_change_tree [l_part,x1])))) (e:=fun l_part=>.ok l_part) (l:=xs) (fun d=>d) (fun d=>d) (fun d=>!treeOk inSet n (s - 1) d) fun d hd=>⟨by
            rw [d6,R.bind_ok,ih m (s - 1) d (hh.2 d hd) (by omega) (by omega)]
            rfl,fun _=>rfl⟩
          rw [List.map_id',List.map_id'] at this
          exact this
        have he:dEq (.lst (xs.filter fun d=>!treeOk inSet n (s - 1) d)) (.lst [])=.ok (.bl (xs.all (treeOk inSet n (s - 1)))):=by
          unfold dEq
          rw [if_pos ⟨by
            rw [good]
            exact cc fun d hd=>bZ (gT (hh.2 d (List.mem_filter.mp hd).1)) (by omega),rfl⟩]
          cases hx:xs.filter fun d=>!treeOk inSet n (s - 1) d with
          | nil =>
            have:xs.all (treeOk inSet n (s - 1))=true:=by
              rw [List.all_eq_true]
              intro d hd
              have:=List.filter_eq_nil_iff.mp hx d hd
              simpa using this
            rw [this]
            rfl
          | cons a l =>
            have ha:a∈xs.filter fun d=>!treeOk inSet n (s - 1) d:=by rw [hx]; simp
            have:=List.mem_filter.mp ha
            have:xs.all (treeOk inSet n (s - 1))=false:=by
              rw [List.all_eq_false]
              exact ⟨a,this.1,by simpa using this.2⟩
            rw [this]
            rfl
        have h0:dIs (.tup xs) .non=.ok (.bl false):=rfl
        have hi:asB (dIsA qInt (.tup xs))=.ok false:=rfl
        rw [dm,aJ]
        simp only [h0,hi,cK,STP,if_true,if_false,ite_true,ite_false,reduceIte,reduceCtorEq,eW,eg,fu,fq (show xs.length≤16777216 by have:=hh.1; omega),hc,he,treeOk]
        by_cases h0:s=0
        · by_cases h4:(xs.length:Int)=4<;>simp [h0,h4]
        · by_cases h4:xs.length=4
          · simp [h0,h4]
          · have h4':¬ ((xs.length:Int)=4):=by omega
            simp [h0,h4,h4']
      | _=>cases ht
    · exact flat (n+1) m s d h (by simpa using ht) (by omega)
theorem kO {w:Nat} (hw:w≤1000) {n m:Nat} {d:D} (h:th w (n+1) d=true) (hm:n+2≤m) (hn:n≤50):pf m F.L_is_change [d]=.ok (.bl (sizedOk inSet n d)):=by
  obtain ⟨m,rfl,hm⟩:=ex1 hm
  rw [jC,bQ]
  by_cases ht:isTup d=true
  · cases d with
    | tup xs =>
      have hh:=bu.mp h
      by_cases h2:xs.length=2
      · match xs,h2 with
        | [a,b],_ =>
          have ha:=hh.2 a (by simp)
          have hb:=hh.2 b (by simp)
          have l2:asB ((dLen [.tup [a,b]]).bind fun x2=>dNf x2 (.int 2))=.ok false:=rfl
          cases a with
          | int v =>
            have ht:=og hw n m v b hb (by omega) hn
            have hi:(rNot (asB (dIsA qInt (.int v))))=.ok false:=rfl
            have hj:(asB (dIsA qBool (.int v)))=.ok false:=rfl
            simp only [cK,STP,if_true,if_false,ite_true,ite_false,reduceIte,reduceCtorEq,l2,ix20,ix21,hi,hj,ht,sizedOk,inTo,rCh,i6]
            by_cases c0:(0:Int)≤v
            · by_cases c1:v≤3<;>simp [c0,c1]
            · simp [c0]
          | exc _=>cases n<;>simp [th] at ha
          | fn _=>cases n<;>simp [th] at ha
          | _=>rfl
      · have h2':¬ ((xs.length:Int)=2):=by omega
        have e:sizedOk inSet n (.tup xs)=false:=by
          match xs,h2 with
          | [],_=>rfl
          | [_],_=>rfl
          | _::_::_::_,_=>rfl
        simp [h2',e]
    | _=>cases ht
  · have ht':isTup d=false:=by simpa using ht
    rw [bO ht' (nY h)]
    have e:sizedOk inSet n d=false:=by cases d<;>first | rfl | (cases ht'; done)
    simp [e]
theorem Cg.th {sz:Nat} {t:Q (Option Int)} (p:Cg sz t):th 5 4 (chD sz t)=true:=by
  have hq:∀ (n:Nat) (t:Q (Option Int)),t.dep≤n→Lw.th 5 n (t.d oD)=true:=by
    intro n
    induction n with
    | zero=>intro t h; cases t with
      | lf a=>cases a<;>rfl
      | nd a b c d=>rw [Q.dep] at h; omega
    | succ n ih=>intro t h; cases t with
      | lf a=>cases a<;>rfl
      | nd a b c d =>
        rw [Q.dep] at h
        refine bu.mpr ⟨by show 4≤5; decide,fun x hx=>?_⟩
        simp only [List.mem_cons,List.not_mem_nil,or_false] at hx
        rcases hx with rfl | rfl | rfl | rfl
        · exact ih a (by omega)
        · exact ih b (by omega)
        · exact ih c (by omega)
        · exact ih d (by omega)
  refine bu.mpr ⟨by show 2≤5; decide,fun x hx=>?_⟩
  simp only [List.mem_cons,List.not_mem_nil,or_false] at hx
  rcases hx with rfl | rfl
  · rfl
  · exact hq 3 t (by have:=p.dep; have:=p.h3; omega)
theorem word7 {m:Nat} (hm:1≤m):pf m F.L_word [.exc 7]=.ok (.str "no change"):=by
  obtain ⟨m,rfl,hm⟩:=ex1 hm
  rw [il,dj]
  rfl
theorem oh {w:Nat} (hw:w≤1000) {n m:Nat} {d:D} (h:th w n d=true) (hm:n+7≤m) (c:sizedOk inSet n d=false):pf m F.check_change [d]=.err 7:=by
  have e:=jW (n:=m) (m:=n) (gT h) (lz hw _ h) (by omega)
  rw [c] at e; exact e
theorem sy (ns:List Int):∀ (s k n:Nat),s+3≤n→∃ t:Q (Option Int),t.dep≤s∧t.All S9∧pf n F.L_change_tree [scr ns,.int (k:Int),.int (s:Int)]=.ok (t.d oD):=by
  intro s
  induction s with
  | zero =>
    intro k n hn
    obtain ⟨n,rfl,hn⟩:=ex1 (show 2+1≤n by omega)
    have p1:=fw (n:=n) (by omega) ns k (m:=6) (by decide)
    have p2:=eh (n:=n) (by omega) ns (k+1) (a:=(k:Int)+1) (m:=10) (by omega) (by decide)
    have p3:=eh (n:=n) (by omega) ns (k+2) (a:=(k:Int)+2) (m:=4) (by omega) (by decide)
    obtain ⟨v,hv,ev⟩:∃ v,W9 v∧dIx (.lst [.int 0,.int 1,.int 2,.int (pk ns (k+1) 10)]) (.int (pk ns (k+2) 4))=.ok (.int v):=by
      have a:=fY (ns:=ns) (k:=k+2) (m:=4) (by decide); have b:=fZ (ns:=ns) (k:=k+2) (m:=4) (by decide)
      have c:=fY (ns:=ns) (k:=k+1) (m:=10) (by decide); have d:=fZ (ns:=ns) (k:=k+1) (m:=10) (by decide)
      generalize pk ns (k+2) 4=q at *
      have:q=0∨q=1∨q=2∨q=3:=by omega
      rcases this with rfl | rfl | rfl | rfl
      · exact ⟨0,⟨by decide,by decide⟩,rfl⟩
      · exact ⟨1,⟨by decide,by decide⟩,rfl⟩
      · exact ⟨2,⟨by decide,by decide⟩,rfl⟩
      · exact ⟨_,⟨c,by omega⟩,rfl⟩
    generalize pk ns k 6=w at *
    rw [eM,aT]
    simp only [STP,if_true,if_false,ite_true,ite_false,reduceIte,reduceCtorEq,OPP,p1,p2,p3,ev,show ((0:Nat):Int)=0 from rfl,decide_true]
    by_cases h2:w < 2
    · exact ⟨.lf none,Nat.le_refl _,(fun v hv=>by cases hv),by simp only [decide_eq_true h2,STP,if_true,if_false,ite_true,ite_false,reduceIte,reduceCtorEq]; rfl⟩
    · by_cases h4:w < 4
      · exact ⟨.lf none,Nat.le_refl _,(fun v hv=>by cases hv),by simp only [decide_eq_false h2,decide_eq_true h4,STP,if_true,if_false,ite_true,ite_false,reduceIte,reduceCtorEq]; rfl⟩
      · exact ⟨.lf (some v),Nat.le_refl _,(fun u hu=>by cases hu; exact hv),by simp only [decide_eq_false h2,decide_eq_false h4,STP,if_true,if_false,ite_true,ite_false,reduceIte,reduceCtorEq]; rfl⟩
  | succ s ih =>
    intro k n hn
    obtain ⟨n,rfl,hn⟩:=ex1 (show s+3+1≤n by omega)
    have p1:=fw (n:=n) (by omega) ns k (m:=6) (by decide)
    have p2:=eh (n:=n) (by omega) ns (k+1) (a:=(k:Int)+1) (m:=10) (by omega) (by decide)
    have p3:=eh (n:=n) (by omega) ns (k+2) (a:=(k:Int)+2) (m:=4) (by omega) (by decide)
    obtain ⟨v,hv,ev⟩:∃ v,W9 v∧dIx (.lst [.int 0,.int 1,.int 2,.int (pk ns (k+1) 10)]) (.int (pk ns (k+2) 4))=.ok (.int v):=by
      have a:=fY (ns:=ns) (k:=k+2) (m:=4) (by decide); have b:=fZ (ns:=ns) (k:=k+2) (m:=4) (by decide)
      have c:=fY (ns:=ns) (k:=k+1) (m:=10) (by decide); have d:=fZ (ns:=ns) (k:=k+1) (m:=10) (by decide)
      generalize pk ns (k+2) 4=q at *
      have:q=0∨q=1∨q=2∨q=3:=by omega
      rcases this with rfl | rfl | rfl | rfl
      · exact ⟨0,⟨by decide,by decide⟩,rfl⟩
      · exact ⟨1,⟨by decide,by decide⟩,rfl⟩
      · exact ⟨2,⟨by decide,by decide⟩,rfl⟩
      · exact ⟨_,⟨c,by omega⟩,rfl⟩
    obtain ⟨t0,d0,a0,k0⟩:=ih (5*k+13+11*0) n (by omega)
    obtain ⟨t1,d1,a1,k1⟩:=ih (5*k+13+11*1) n (by omega)
    obtain ⟨t2,d2,a2,k2⟩:=ih (5*k+13+11*2) n (by omega)
    obtain ⟨t3,d3,a3,k3⟩:=ih (5*k+13+11*3) n (by omega)
    have e0:¬ (((s+1:Nat):Int)=0):=by omega
    have e1:((s+1:Nat):Int) - 1=(s:Int):=by omega
    have m5:dMul (.int 5) (.int (k:Int))=.ok (.int (5*(k:Int))):=cT (.inr (by decide))
    have st:∀ (i:Nat) (t:Q (Option Int)),pf n F.L_change_tree [scr ns,.int ((5*k+13+11*i:Nat):Int),.int (s:Int)]=.ok (t.d oD)→((((dMul (.int 5) (.int (k:Int))).bind fun x5=>dAdd x5 (.int 13)).bind fun x6=>(dMul (.int 11) (.int (i:Int))).bind fun x7=>dAdd x6 x7).bind fun x8=>(dSub (.int ((s+1:Nat):Int)) (.int 1)).bind fun x9=>pf n F.L_change_tree [scr ns,x8,x9])=.ok (t.d oD):=fun i t h=>by
      have m11:dMul (.int 11) (.int (i:Int))=.ok (.int (11*(i:Int))):=cT (.inr (by decide))
      simp only [m5,m11,STP,if_true,if_false,ite_true,ite_false,reduceIte,reduceCtorEq,OPP,e1]
      rw [show (5*(k:Int)+13+11*(i:Int))=((5*k+13+11*i:Nat):Int) by omega]; exact h
    have M:cMap (fun l_k=>(((dMul (.int 5) (.int (k:Int))).bind fun x5=>dAdd x5 (.int 13)).bind fun x6=>(dMul (.int 11) l_k).bind fun x7=>dAdd x6 x7).bind fun x8=>(dSub (.int ((s+1:Nat):Int)) (.int 1)).bind fun x9=>pf n F.L_change_tree [scr ns,x8,x9]) [.int 0,.int 1,.int 2,.int 3]=.ok (.lst [t0.d oD,t1.d oD,t2.d oD,t3.d oD]):=cMap4 (e:=fun l_k=>(((dMul (.int 5) (.int (k:Int))).bind fun x5=>dAdd x5 (.int 13)).bind fun x6=>(dMul (.int 11) l_k).bind fun x7=>dAdd x6 x7).bind fun x8=>(dSub (.int ((s+1:Nat):Int)) (.int 1)).bind fun x9=>pf n F.L_change_tree [scr ns,x8,x9]) (st 0 t0 k0) (st 1 t1 k1) (st 2 t2 k2) (st 3 t3 k3)
    generalize pk ns k 6=w at *
    rw [eM,aT,rng4,R.bind_ok,M]
    simp only [STP,if_true,if_false,ite_true,ite_false,reduceIte,reduceCtorEq,OPP,p1,p2,p3,ev,decide_eq_false e0]
    by_cases h2:w < 2
    · exact ⟨.lf none,Nat.zero_le _,(fun v hv=>by cases hv),by simp only [decide_eq_true h2,STP,if_true,if_false,ite_true,ite_false,reduceIte,reduceCtorEq]; rfl⟩
    · by_cases h4:w=2
      · exact ⟨.lf (some v),Nat.zero_le _,(fun u hu=>by cases hu; exact hv),by simp only [decide_eq_false h2,decide_eq_true h4,STP,if_true,if_false,ite_true,ite_false,reduceIte,reduceCtorEq]; rfl⟩
      · exact ⟨.nd t0 t1 t2 t3,by simp only [Q.dep]; omega,⟨a0,a1,a2,a3⟩,by simp only [decide_eq_false h2,decide_eq_false h4,STP,if_true,if_false,ite_true,ite_false,reduceIte,reduceCtorEq]; rfl⟩
end Lw
end
section
set_option linter.all false
set_option maxRecDepth 10000
namespace Lw
open PySem FF
section
variable {sz:Nat} {g g':Nat→Nat→Int} {c c':Nat→Nat→Option Int} {t t':Q Int} {u u':Q (Option Int)}
def both (a b:Option Int):Int:=if a=none∨b=none then 0 else 1
end
end Lw
end
section
set_option linter.all false
set_option maxRecDepth 10000
namespace Lw
open PySem FF
theorem sA:∀ (n:Nat) (s:Int) (d:D),0≤s→treeOk inSet n s d=true→∃ t:Q (Option Int),d=t.d oD∧t.dep≤s.toNat∧t.All S9:=by
  have flat:∀ {s:Int} {d:D},inSet d=true→∃ t:Q (Option Int),d=t.d oD∧t.dep≤s.toNat∧t.All S9:=fun {s d} h=>by
    cases d with
    | int i =>
      simp only [inSet,inTo,Bool.and_eq_true,decide_eq_true_eq] at h
      exact ⟨.lf (some i),rfl,Nat.zero_le _,fun v hv=>by cases hv; exact h⟩
    | non=>exact ⟨.lf none,rfl,Nat.zero_le _,fun v hv=>by cases hv⟩
    | _=>simp [inSet,inTo] at h
  intro n
  induction n with
  | zero=>intro s d h0 h; exact flat (by cases d<;>exact h)
  | succ n ih =>
    intro s d h0 h
    cases d with
    | tup xs =>
      simp only [treeOk,Bool.and_eq_true,decide_eq_true_eq,List.all_eq_true] at h
      obtain ⟨hs,hl,ha⟩:=h
      match xs,hl with
      | [a,b,c,d],_ =>
        obtain ⟨ta,ea,da,wa⟩:=ih (s - 1) a (by omega) (ha a (by simp))
        obtain ⟨tb,eb,db,wb⟩:=ih (s - 1) b (by omega) (ha b (by simp))
        obtain ⟨tc,ec,dc,wc⟩:=ih (s - 1) c (by omega) (ha c (by simp))
        obtain ⟨td,ed,dd,wd⟩:=ih (s - 1) d (by omega) (ha d (by simp))
        subst ea; subst eb; subst ec; subst ed
        refine ⟨.nd ta tb tc td,rfl,?_,wa,wb,wc,wd⟩
        rw [Q.dep]
        omega
    | _=>exact flat (by exact h)
theorem qq {n:Nat} {d:D} (h:sizedOk inSet n d=true):∃ sz t,d=chD sz t∧Cg sz t:=by
  have hf:∀ {e:D},e=d→(∀ s t,e≠.tup [s,t])→False:=fun {e} q hn=>by
    subst q
    unfold sizedOk at h
    split at h
    · exact hn _ _ rfl
    · cases h
  by_cases hd:∃ s t,d=.tup [s,t]
  · obtain ⟨s,t,rfl⟩:=hd
    cases s with
    | int i =>
      simp only [sizedOk,inTo,Bool.and_eq_true,decide_eq_true_eq] at h
      obtain ⟨q,rfl,hd,hw⟩:=sA n i t h.1.1 h.2
      refine ⟨i.toNat,q,?_,⟨by omega,hd,hw⟩⟩
      unfold chD
      rw [Int.toNat_of_nonneg h.1.1]
    | _=>simp [sizedOk,inTo] at h
  · exact (hf rfl fun s t e=>hd ⟨s,t,e⟩).elim
def btF:Nat→(Nat→Nat→Int)→(Nat→Nat→Int)→Q (Option Int)
  | 0,g,g'=>if T g 0=T g' 0 then .lf none else .lf (some (g' 0 0))
  | n+1,g,g'=>if T g (n+1)=T g' (n+1) then .lf none else match T g' (n+1) with
    | .lf v=>.lf (some v)
    | .nd _ _ _ _=>.nd (btF n g g') (btF n (sh g (2^n) 0) (sh g' (2^n) 0)) (btF n (sh g 0 (2^n)) (sh g' 0 (2^n))) (btF n (sh g (2^n) (2^n)) (sh g' (2^n) (2^n)))
theorem gX:∀ {n:Nat} {g g':Nat→Nat→Int},btF n g g'=.lf none→T g n=T g' n
  | 0,g,g',h=>by
    unfold btF at h
    by_cases e:T g 0=T g' 0
    · exact e
    · rw [if_neg e] at h; cases h
  | n+1,g,g',h=>by
    unfold btF at h
    by_cases e:T g (n+1)=T g' (n+1)
    · exact e
    · rw [if_neg e] at h
      cases q:T g' (n+1) with
      | lf v=>rw [q] at h; cases h
      | nd a b c d=>rw [q] at h; cases h
theorem gY:∀ {n:Nat} {g g':Nat→Nat→Int} {v:Int},btF n g g'=.lf (some v)→T g' n=.lf v
  | 0,g,g',v,h=>by
    unfold btF at h
    by_cases e:T g 0=T g' 0
    · rw [if_pos e] at h; cases h
    · rw [if_neg e] at h; cases h; rfl
  | n+1,g,g',v,h=>by
    unfold btF at h
    by_cases e:T g (n+1)=T g' (n+1)
    · rw [if_pos e] at h; cases h
    · rw [if_neg e] at h
      cases q:T g' (n+1) with
      | lf w=>rw [q] at h; cases h; rfl
      | nd a b c d=>rw [q] at h; cases h
theorem wq:∀ (n:Nat) (g g':Nat→Nat→Int) (m:Nat),n≤40→n+2≤m→pf m F.tree_between [(T g n).d .int,(T g' n).d .int]=.ok ((btF n g g').d oD):=by
  intro n
  induction n with
  | zero =>
    intro g g' m h40 hm
    obtain ⟨m,rfl,hm⟩:=ex1 (show 0+1≤m by omega)
    have t1:dIsA qTup ((T g' 0).d .int)=.ok (.bl false):=rfl
    have he:dEq ((T g 0).d .int) ((T g' 0).d .int)=.ok (.bl (decide (T g 0=T g' 0))):=by
      rw [dk rfl rfl,Q.eqd En.int]
    unfold btF
    rw [aH,az,he]
    by_cases h:T g 0=T g' 0
    · rw [decide_eq_true h,if_pos h]; simp only [STP,if_true,if_false,ite_true,ite_false,reduceIte,reduceCtorEq]; rfl
    · rw [decide_eq_false h,if_neg h]; simp only [STP,if_true,if_false,ite_true,ite_false,reduceIte,reduceCtorEq,t1]; rfl
  | succ n ih =>
    intro g g' m h40 hm
    obtain ⟨m,rfl,hm⟩:=ex1 (show n+2+1≤m by omega)
    have hd1:(T g (n+1)).dep≤50:=Nat.le_trans (d5 _ _) (by omega)
    have hd2:(T g' (n+1)).dep≤50:=Nat.le_trans (d5 _ _) (by omega)
    have he:dEq ((T g (n+1)).d .int) ((T g' (n+1)).d .int)=.ok (.bl (decide (T g (n+1)=T g' (n+1)))):=by
      rw [dk (bZ (Q.g60 En.int hd1) (by decide)) (bZ (Q.g60 En.int hd2) (by decide)),Q.eqd En.int]
    unfold btF
    by_cases h:T g (n+1)=T g' (n+1)
    · rw [aH,az,he,decide_eq_true h,if_pos h]
      simp only [STP,if_true,if_false,ite_true,ite_false,reduceIte,reduceCtorEq]; rfl
    · rw [if_neg h]
      have q1:=T_qs n g
      have q2:=T_qs n g'
      have qk:=gU En.int (T g (n+1)) (n:=m) (by omega)
      rw [q1] at qk
      simp only at qk
      have k1:=ih g g' m (by omega) (by omega)
      have k2:=ih (sh g (2^n) 0) (sh g' (2^n) 0) m (by omega) (by omega)
      have k3:=ih (sh g 0 (2^n)) (sh g' 0 (2^n)) m (by omega) (by omega)
      have k4:=ih (sh g (2^n) (2^n)) (sh g' (2^n) (2^n)) m (by omega) (by omega)
      cases hq:T g' (n+1) with
      | lf v =>
        rw [hq] at he h
        rw [aH,az,he,decide_eq_false h]
        have t1:dIsA qTup (Q.d .int (.lf v))=.ok (.bl false):=rfl
        simp only [STP,if_true,if_false,ite_true,ite_false,reduceIte,reduceCtorEq,t1]; rfl
      | nd a b c d =>
        rw [hq] at q2 he h
        simp only [Q.qs,Prod.mk.injEq] at q2
        obtain ⟨ea,eb,ec,ed⟩:=q2
        rw [← ea] at k1; rw [← eb] at k2; rw [← ec] at k3; rw [← ed] at k4
        have M:cMap (fun number=>(dIx (.tup [(T g n).d .int,(T (sh g (2^n) 0) n).d .int,(T (sh g 0 (2^n)) n).d .int,(T (sh g (2^n) (2^n)) n).d .int]) number).bind fun x=>(dIx (.tup [a.d .int,b.d .int,c.d .int,d.d .int]) number).bind fun x1=>pf m F.tree_between [x,x1]) [.int 0,.int 1,.int 2,.int 3]=_:=cMap4 (e:=fun number=>(dIx (.tup [(T g n).d .int,(T (sh g (2^n) 0) n).d .int,(T (sh g 0 (2^n)) n).d .int,(T (sh g (2^n) (2^n)) n).d .int]) number).bind fun x=>(dIx (.tup [a.d .int,b.d .int,c.d .int,d.d .int]) number).bind fun x1=>pf m F.tree_between [x,x1]) k1 k2 k3 k4
        rw [aH,az,he,decide_eq_false h]
        simp only [Q.d,STP,if_true,if_false,ite_true,ite_false,reduceIte,reduceCtorEq,OPP,qk,rng4,M]
theorem jX {α:Type} (a b:α→D):∀ l:List α,eqDs (l.map a) (l.map b)=l.all fun i=>eqD (a i) (b i)
  | []=>rfl
  | x::l=>by rw [List.map_cons,List.map_cons,eqDs,jX a b l,List.all_cons]
theorem oW (f g:Nat→Nat→Int) (n:Nat):dEq (rowsT .int f (2^n) (2^n)) (rowsT .int g (2^n) (2^n))=.ok (.bl (decide (T f n=T g n))):=by
  rw [dk (jO En.int.gd f _ _ 58) (jO En.int.gd g _ _ 58)]
  congr 2
  unfold rowsT rowT
  rw [eqD,jX,Bool.eq_iff_iff,List.all_eq_true,decide_eq_true_iff,rX]
  simp only [eqD,jX,List.all_eq_true,List.mem_range,beq_iff_eq]
  exact ⟨fun h x y hx hy=>h y hy x hx,fun h y hy x hx=>h x y hx hy⟩
theorem jY (f:Nat→Nat→Int) {n tp lf:Nat} (h3:n+1≤3) (htp:tp+2^n≤2^(n+1)) (hlf:lf+2^n≤2^(n+1)):(((((asI (.int (tp:Int))).bind fun i=>((dAdd (.int (tp:Int)) (.int ((2^n:Nat):Int))).bind asI).bind fun i1=>dSw (rowsT .int f (2^(n+1)) (2^(n+1))) i i1).bind fun x=>sq x).bind fun xs1=>cMap (fun l_row=>(asI (.int (lf:Int))).bind fun i2=>((dAdd (.int (lf:Int)) (.int ((2^n:Nat):Int))).bind asI).bind fun i3=>dSw l_row i2 i3) xs1).bind fun x1=>dTuple [x1])=.ok (rowsT .int (sh f lf tp) (2^n) (2^n)):=by
  have h8:=p8 h3
  have c1:(tp:Int)+((2^n:Nat):Int)=((tp+2^n:Nat):Int):=by omega
  have c2:(lf:Int)+((2^n:Nat):Int)=((lf+2^n:Nat):Int):=by omega
  have ai:∀ i:Int,asI (.int i)=.ok (some i):=fun _=>rfl
  have s1:dSw (rowsT .int f (2^(n+1)) (2^(n+1))) (some (tp:Int)) (some ((tp+2^n:Nat):Int))=.ok (.tup ((List.range (2^n)).map fun i=>rowT .int f (2^(n+1)) (tp+i))):=by
    unfold rowsT
    show R.ok (D.tup (cutD _ _ _))=_
    rw [dP htp]
  have s2:sq (.tup ((List.range (2^n)).map fun i=>rowT .int f (2^(n+1)) (tp+i)))=.ok ((List.range (2^n)).map fun i=>rowT .int f (2^(n+1)) (tp+i)):=fq (by simp; omega)
  have s3:cMap (fun l_row=>dSw l_row (some (lf:Int)) (some ((lf+2^n:Nat):Int))) ((List.range (2^n)).map fun i=>rowT .int f (2^(n+1)) (tp+i))=.ok (.lst ((List.range (2^n)).map fun i=>rowT .int (sh f lf tp) (2^n) i)):=by
    refine du _ (fun i=>rowT .int (sh f lf tp) (2^n) i) fun i hi=>?_
    unfold rowT
    show R.ok (D.tup (cutD _ _ _))=_
    rw [dP (g:=fun x=>D.int (f x (tp+i))) hlf]
    unfold sh
    congr 2
    exact List.map_congr_left fun x _=>by rw [Nat.add_comm lf x,Nat.add_comm tp i]
  simp only [STP,if_true,if_false,ite_true,ite_false,reduceIte,reduceCtorEq,OPP,ai,c1,c2,s1,s2,s3]
  rfl
theorem cMap2' {e:D→R D} {a b a' b':D} (h:e a=.ok a') (h2:e b=.ok b'):cMap e [a,b]=.ok (.lst [a',b']):=by unfold cMap; simp only [cGo,h,h2]; rfl
theorem wr:∀ (n:Nat) (g g':Nat→Nat→Int) (m:Nat),n≤3→n+2≤m→pf m F.L_between [rowsT .int g (2^n) (2^n),rowsT .int g' (2^n) (2^n)]=.ok ((btF n g g').d oD):=by
  intro n
  induction n with
  | zero =>
    intro g g' m h3 hm
    obtain ⟨m,rfl,hm⟩:=ex1 (show 1+1≤m by omega)
    have he:=oW g g' 0
    have hl:pf m F.L_least [rowsT .int g' (2^0) (2^0)]=_:=iC 0 true g' m (by decide) (by omega)
    have t1:dIsA qTup ((T g' 0).d .int)=.ok (.bl false):=rfl
    unfold btF
    rw [fo,bG,he]
    by_cases h:T g 0=T g' 0
    · rw [decide_eq_true h,if_pos h]; simp only [STP,if_true,if_false,ite_true,ite_false,reduceIte,reduceCtorEq]; rfl
    · rw [decide_eq_false h,if_neg h]; simp only [STP,if_true,if_false,ite_true,ite_false,reduceIte,reduceCtorEq,hl,t1]; rfl
  | succ n ih =>
    intro g g' m h3 hm
    obtain ⟨m,rfl,hm⟩:=ex1 (show n+2+1≤m by omega)
    have h8:=p8 h3
    have hp:=pos2 n
    have hdd:=dh n
    have he:=oW g g' (n+1)
    have hl:pf m F.L_least [rowsT .int g' (2^(n+1)) (2^(n+1))]=_:=iC (n+1) true g' m h3 (by omega)
    have hln:dLen [rowsT .int g (2^(n+1)) (2^(n+1))]=.ok (.int ((2^(n+1):Nat):Int)):=by unfold rowsT; simp
    unfold btF
    by_cases h:T g (n+1)=T g' (n+1)
    · rw [fo,bG,he,decide_eq_true h,if_pos h]
      simp only [STP,if_true,if_false,ite_true,ite_false,reduceIte,reduceCtorEq]; rfl
    · rw [if_neg h,fo,bG,he,decide_eq_false h]
      cases hq:T g' (n+1) with
      | lf v =>
        rw [hq] at hl
        have t1:dIsA qTup (Q.d .int (.lf v))=.ok (.bl false):=rfl
        simp only [STP,if_true,if_false,ite_true,ite_false,reduceIte,reduceCtorEq,hl,t1]; rfl
      | nd a b c d =>
        rw [hq] at hl
        have t1:dIsA qTup (Q.d .int (.nd a b c d))=.ok (.bl true):=rfl
        have one:∀ (tp lf:Nat) (parts:List D),tp+2^n≤2^(n+1)→lf+2^n≤2^(n+1)→parts.length≤10→dY (pf m) (rowsT .int g (2^(n+1)) (2^(n+1))) (rowsT .int g' (2^(n+1)) (2^(n+1))) (.int ((2^n:Nat):Int)) (.int (tp:Int)) parts (.int (lf:Int))=.nx (parts++[(btF n (sh g lf tp) (sh g' lf tp)).d oD]):=fun tp lf parts htp hlf hpa=>by
          have M:=cMap2' (e:=fun l_rows_here=>((((asI (.int (tp:Int))).bind fun i=>((dAdd (.int (tp:Int)) (.int ((2^n:Nat):Int))).bind asI).bind fun i1=>dSw l_rows_here i i1).bind fun x=>sq x).bind fun xs1=>cMap (fun l_row=>(asI (.int (lf:Int))).bind fun i2=>((dAdd (.int (lf:Int)) (.int ((2^n:Nat):Int))).bind asI).bind fun i3=>dSw l_row i2 i3) xs1).bind fun x1=>dTuple [x1]) (jY g h3 htp hlf) (jY g' h3 htp hlf)
          have sq2:sq (.tup [rowsT .int g (2^(n+1)) (2^(n+1)),rowsT .int g' (2^(n+1)) (2^(n+1))])=.ok [rowsT .int g (2^(n+1)) (2^(n+1)),rowsT .int g' (2^(n+1)) (2^(n+1))]:=rfl
          have i0:dIx (.lst [rowsT .int (sh g lf tp) (2^n) (2^n),rowsT .int (sh g' lf tp) (2^n) (2^n)]) (.int 0)=.ok (rowsT .int (sh g lf tp) (2^n) (2^n)):=rfl
          have i1:dIx (.lst [rowsT .int (sh g lf tp) (2^n) (2^n),rowsT .int (sh g' lf tp) (2^n) (2^n)]) (.int 1)=.ok (rowsT .int (sh g' lf tp) (2^n) (2^n)):=rfl
          have k:=ih (sh g lf tp) (sh g' lf tp) m (by omega) (by omega)
          unfold dY
          rw [sq2,R.bind_ok,M,bX,i0,R.bind_ok,i1,R.bind_ok,k,R.bind_ok,lx (by omega)]
          rfl
        have pair:∀ (tp:Nat) (parts:List D),tp+2^n≤2^(n+1)→parts.length≤5→dZ (pf m) (rowsT .int g (2^(n+1)) (2^(n+1))) (rowsT .int g' (2^(n+1)) (2^(n+1))) (.int ((2^n:Nat):Int)) parts (.int (tp:Int))=.nx (parts++[(btF n (sh g 0 tp) (sh g' 0 tp)).d oD,(btF n (sh g (2^n) tp) (sh g' (2^n) tp)).d oD]):=fun tp parts htp hpa=>by
          have h0:=one tp 0 parts htp (by omega) (by omega)
          have h1:=one tp (2^n) (parts++[(btF n (sh g 0 tp) (sh g' 0 tp)).d oD]) htp (by omega) (by simp; omega)
          have hs2:sq (.tup [(.int 0),(.int ((2^n:Nat):Int))])=.ok [.int 0,.int ((2^n:Nat):Int)]:=rfl
          rw [show ((0:Nat):Int)=0 from rfl] at h0
          unfold dZ
          simp only [STP,if_true,if_false,ite_true,ite_false,reduceIte,reduceCtorEq,hs2,aQ,di,h0,h1,List.append_assoc,List.cons_append,List.nil_append]
        have p0:=pair 0 [] (by omega) (by simp)
        have p1:=pair (2^n) [(btF n (sh g 0 0) (sh g' 0 0)).d oD,(btF n (sh g (2^n) 0) (sh g' (2^n) 0)).d oD] (by omega) (by simp)
        have hs2:sq (.tup [(.int 0),(.int ((2^n:Nat):Int))])=.ok [.int 0,.int ((2^n:Nat):Int)]:=rfl
        rw [show ((0:Nat):Int)=0 from rfl] at p0
        have nolf:¬ ∃ o,btF n g g'=.lf o∧btF n (sh g (2^n) 0) (sh g' (2^n) 0)=.lf o∧btF n (sh g 0 (2^n)) (sh g' 0 (2^n))=.lf o∧btF n (sh g (2^n) (2^n)) (sh g' (2^n) (2^n))=.lf o:=by
          rintro ⟨o,e1,e2,e3,e4⟩
          cases o with
          | none=>exact h (by rw [T,T,gX e1,gX e2,gX e3,gX e4])
          | some v =>
            rw [T,gY e1,gY e2,gY e3,gY e4,iz] at hq
            cases hq
        have dp:∀ (f f':Nat→Nat→Int) (k:Nat),(btF k f f').dep≤k:=fun f f' k=>by
          induction k generalizing f f' with
          | zero=>unfold btF; split<;>exact Nat.le_refl _
          | succ k ihk =>
            unfold btF
            split
            · exact Nat.zero_le _
            · split
              · exact Nat.zero_le _
              · have a1:=ihk f f'; have a2:=ihk (sh f (2^k) 0) (sh f' (2^k) 0); have a3:=ihk (sh f 0 (2^k)) (sh f' 0 (2^k)); have a4:=ihk (sh f (2^k) (2^k)) (sh f' (2^k) (2^k))
                simp only [Q.dep]; omega
        have d1:=dp g g' n; have d2:=dp (sh g (2^n) 0) (sh g' (2^n) 0) n; have d3:=dp (sh g 0 (2^n)) (sh g' 0 (2^n)) n; have d4:=dp (sh g (2^n) (2^n)) (sh g' (2^n) (2^n)) n
        rw [show sh g 0 0=g from rfl,show sh g' 0 0=g' from rfl] at p0 p1
        generalize btF n g g'=A at *
        generalize btF n (sh g (2^n) 0) (sh g' (2^n) 0)=B at *
        generalize btF n (sh g 0 (2^n)) (sh g' 0 (2^n))=C at *
        generalize btF n (sh g (2^n) (2^n)) (sh g' (2^n) (2^n))=E at *
        simp only [STP,if_true,if_false,ite_true,ite_false,reduceIte,reduceCtorEq,hl,t1,hln,lw,hs2,aQ,di,p0,List.nil_append,p1,List.cons_append]
        have i0:dIx (.lst [A.d oD,B.d oD,C.d oD,E.d oD]) (.int 0)=.ok (A.d oD):=rfl
        have r4:dMul (.lst [A.d oD]) (.int 4)=.ok (.lst [A.d oD,A.d oD,A.d oD,A.d oD]):=rfl
        have gq:∀ q:Q (Option Int),q.dep≤n→good 59 (q.d oD)=true:=fun q hq=>bZ (Q.gd En.opt n q hq) (by omega)
        have e4:dEq (.lst [A.d oD,B.d oD,C.d oD,E.d oD]) (.lst [A.d oD,A.d oD,A.d oD,A.d oD])=.ok (.bl (decide (B=A∧C=A∧E=A))):=by
          rw [dk (by rw [good]; simp only [goods,gq A d1,gq B d2,gq C d3,gq E d4]; rfl) (by rw [good]; simp only [goods,gq A d1]; rfl)]
          congr 2
          simp only [eqD,eqDs,Q.eqd En.opt,Bool.and_true,decide_true,Bool.true_and]
          rw [← Bool.decide_and,← Bool.decide_and]
        rw [i0]
        simp only [STP,if_true,if_false,ite_true,ite_false,reduceIte,reduceCtorEq,r4,e4,i8 En.opt]
        cases hA:isLf A with
        | false=>rfl
        | true =>
          cases A with
          | nd _ _ _ _=>cases hA
          | lf o =>
            have:¬ (B=.lf o∧C=.lf o∧E=.lf o):=fun ⟨x,y,z⟩=>nolf ⟨o,rfl,x,y,z⟩
            rw [decide_eq_false this]
            rfl
section
variable {sz:Nat} {g g':Nat→Nat→Int} {t t':Q Int}
theorem Sh.betweenF (s:Sh sz g t) (s':Sh sz g' t') {n:Nat} (hn:11≤n):pf n F.between [picD sz t,picD sz t']=.ok (chD sz (btF sz g g')):=by
  obtain ⟨n,rfl,hn⟩:=ex1 (show 10+1≤n by omega)
  have h3:=s.p.h3
  have hk:=wq sz g g' n (by omega) (by omega)
  have e2:pf n F.check_pictures [.lst [picD sz t,picD sz t']]=.ok .non:=kL (l:=[t,t']) (by simp) (fun u hu=>by
    simp only [List.mem_cons,List.not_mem_nil,or_false] at hu
    rcases hu with rfl | rfl
    · exact s.p
    · exact s'.p) (by omega)
  have l1:=cU En.int t n (by have:=s.p.dep; omega) (by have:=s.p.dep; omega)
  rw [ez sz t s.p.dep,aM sz _ _ s.w] at l1
  have l2:=cU En.int t' n (by have:=s'.p.dep; omega) (by have:=s'.p.dep; omega)
  rw [ez sz t' s'.p.dep,aM sz _ _ s'.w] at l2
  rw [gj,cC,e2,bX]
  unfold picD chD
  simp only [STP,if_true,if_false,ite_true,ite_false,reduceIte,reduceCtorEq,OPP,l1,l2,hk]
theorem Sh.btF (s:Sh sz g t) (s':Sh sz g' t'):Sc sz ((btF sz g g').at sz) (btF sz g g')∧∀ x y,x < 2^sz→y < 2^sz→ov (g x y) ((Lw.btF sz g g').at sz x y)=g' x y:=by
  obtain ⟨u,c,f,_,k⟩:=s.between s' (n:=11) (by decide)
  rw [s.betweenF s' (by decide)] at k
  have k:=R.ok.inj k
  unfold chD at k
  simp only [D.tup.injEq,List.cons.injEq,and_true,true_and] at k
  have e:=Q.d_inj En.opt k
  rw [e]
  exact ⟨c,f⟩
end
theorem ww {a b d:D} {m:Nat} (h:pf m F.between [a,b]=.ok d):pf (m+1) F.L_do_8 [.int 0,a,b]=.ok d:=by
  rw [fP,cQ,h]; rfl
theorem uD {a b d:D} {m:Nat} (h:pf m F.changed [a,b]=.ok d):pf (m+1) F.L_do_8 [.int 1,a,b]=.ok d:=by
  rw [fP,cQ,h]; rfl
theorem wx {a b d:D} {m:Nat} (h:pf m F.lean_change [a]=.ok d):pf (m+1) F.L_do_8 [.int 2,a,b]=.ok d:=by
  rw [fP,cQ,h]; rfl
theorem jZ {a b:D} {w:Int} {k m:Nat} {s:Str} (h:(w=0∧pf m F.between [a,b]=.err k)∨(w=1∧pf m F.changed [a,b]=.err k)∨(w=2∧pf m F.lean_change [a]=.err k)) (hq:qTk esL k=true) (hw:pf m F.L_word [.exc k]=.ok (.str s)):pf (m+1) F.L_do_8 [.int w,a,b]=.ok (.str s):=by
  have hn:dIs (.exc k) .non=.ok (.bl false):=rfl
  rw [fP,cQ]
  have d0:dEq (.int 0) (.int 0)=.ok (.bl true):=rfl
  have d1:dEq (.int 1) (.int 0)=.ok (.bl false):=rfl
  have l0:dLt (.int 0) (.int 2)=.ok (.bl true):=rfl
  have l1:dLt (.int 1) (.int 2)=.ok (.bl true):=rfl
  have l2:dLt (.int 2) (.int 2)=.ok (.bl false):=rfl
  rcases h with ⟨rfl,h⟩ | ⟨rfl,h⟩ | ⟨rfl,h⟩
  · simp only [l0,d0,fc,uy,h]
    simp only [lB,lTry,hq,if_true]
    simp only [hn,hw,STP,if_true,if_false,ite_true,ite_false,reduceIte,reduceCtorEq]
  · simp only [l1,d1,fc,uz,h]
    simp only [lB,lTry,hq,if_true]
    simp only [hn,hw,STP,if_true,if_false,ite_true,ite_false,reduceIte,reduceCtorEq]
  · simp only [l2,fc,h]
    simp only [lB,lTry,hq,if_true,Bool.false_eq_true,if_false]
    simp only [hn,hw,STP,if_true,if_false,ite_true,ite_false,reduceIte,reduceCtorEq]
theorem oi {a b:D} {m k:Nat} (h:pf m F.check_pictures [.lst [a,b]]=.err k):pf (m+1) F.between [a,b]=.err k:=by
  rw [gj,cC,h]; rfl
theorem vI {a b:D} {m:Nat} (h:pf m F.check_picture [a]=.err 1):pf (m+1) F.changed [a,b]=.err 1:=by
  rw [fm,ci,h]; rfl
theorem vJ {a b:D} {m:Nat} (h1:pf m F.check_picture [a]=.ok .non) (h:pf m F.check_change [b]=.err 7):pf (m+1) F.changed [a,b]=.err 7:=by
  rw [fm,ci,h1,bX,h]; rfl
theorem vK {s1 s2:Nat} {t:Q Int} {u:Q (Option Int)} (p:Pc s1 t) (c:Cg s2 u) (h:s1≠s2) {m:Nat} (hm:10≤m):pf (m+1) F.changed [picD s1 t,chD s2 u]=.err 4:=by
  have e3:pf m F.check_sizes [.lst [picD s1 t,chD s2 u]]=.err 4:=(sizes2 (by omega)).trans (if_neg h)
  rw [fm,ci,p.check (by omega),bX,c.check hm,bX,e3]; rfl
theorem ut {a:D} {m:Nat} (h:pf m F.check_change [a]=.err 7):pf (m+1) F.lean_change [a]=.err 7:=by
  rw [fG,br,h]; rfl
theorem qu {a b:D} {m:Nat} (h:pf m F.check_picture [a]=.err 1):pf (m+1) F.check_pictures [.lst [a,b]]=.err 1:=by
  have hs:sq (.lst [a,b])=.ok [a,b]:=rfl
  rw [bY,aF]
  simp only [STP,if_true,if_false,ite_true,ite_false,reduceIte,reduceCtorEq,hs,lFor,aO,h]
theorem qv {a b:D} {m:Nat} (h1:pf m F.check_picture [a]=.ok .non) (h:pf m F.check_picture [b]=.err 1):pf (m+1) F.check_pictures [.lst [a,b]]=.err 1:=by
  have hs:sq (.lst [a,b])=.ok [a,b]:=rfl
  rw [bY,aF]
  simp only [STP,if_true,if_false,ite_true,ite_false,reduceIte,reduceCtorEq,hs,lFor,aO,h1,h]
theorem unlike2 {s1 s2:Nat} {a b:Q Int} (pa:Pc s1 a) (pb:Pc s2 b) (h:s1≠s2) {m:Nat} (hm:10≤m):pf m F.check_pictures [.lst [picD s1 a,picD s2 b]]=.err 4:=by
  obtain ⟨m,rfl,hm⟩:=ex1 (show 9+1≤m by omega)
  have hs:sq (.lst [picD s1 a,picD s2 b])=.ok [picD s1 a,picD s2 b]:=rfl
  have h1:=pa.check (n:=m) (by omega); have h2:=pb.check (n:=m) (by omega)
  have l2:pf m F.check_sizes [.lst [picD s1 a,picD s2 b]]=.err 4:=(sizes2 (by omega)).trans (if_neg h)
  rw [bY,aF]
  simp only [STP,if_true,if_false,ite_true,ite_false,reduceIte,reduceCtorEq,hs,lFor,aO,h1,h2,l2]
theorem mV {α:Type} (a b:α→D):∀ l:List α,zipD (l.map a) (l.map b)=l.map fun i=>.tup [a i,b i]
  | []=>rfl
  | x::l=>by rw [List.map_cons,List.map_cons,zipD,mV a b l]; rfl
theorem mW {α:Type} (a b:α→D) (l:List α) (A B:D) (hA:sq A=.ok (l.map a)) (hB:sq B=.ok (l.map b)):dZip A B=.ok (l.map fun i=>.tup [a i,b i]):=by
  unfold dZip
  rw [hA,R.bind_ok,hB,R.bind_ok,mV]
theorem uu {sz:Nat} (h3:sz≤3) (g:Nat→Nat→Int) (c:Nat→Nat→Option Int):((dZip (rowsT .int g (2^sz) (2^sz)) (rowsL oD c (2^sz) (2^sz))).bind fun xs=>cMap (fun p=>un2 p fun l_row l_more=>((dZip l_row l_more).bind fun xs1=>cMap (fun p1=>un2 p1 fun l_old l_new=>rIf (asB (dIsNot l_new .non)) (.ok l_new) (.ok l_old)) xs1).bind fun x2=>dTuple [x2]) xs)=.ok (.lst ((List.range (2^sz)).map fun y=>rowT .int (fun x y=>ov (g x y) (c x y)) (2^sz) y)):=by
  have h8:=p8 h3
  rw [mW (fun y=>rowT .int g (2^sz) y) (fun y=>rowL oD c (2^sz) y) (List.range (2^sz)) (rowsT .int g (2^sz) (2^sz)) (rowsL oD c (2^sz) (2^sz)) (fq (by simp; omega)) (eB (by simp; omega)),R.bind_ok]
  refine du _ _ fun y _=>?_
  have z:dZip (rowT .int g (2^sz) y) (rowL oD c (2^sz) y)=.ok ((List.range (2^sz)).map fun x=>D.tup [.int (g x y),oD (c x y)]):=mW _ _ _ _ _ (fq (by simp; omega)) (eB (by simp; omega))
  have M:cMap (fun p=>un2 p fun l_old l_new=>rIf (asB (dIsNot l_new .non)) (.ok l_new) (.ok l_old)) ((List.range (2^sz)).map fun x=>D.tup [.int (g x y),oD (c x y)])=.ok (.lst ((List.range (2^sz)).map fun x=>D.int (ov (g x y) (c x y)))):=du _ _ fun x _=>by
    show rIf (asB (dIsNot (oD (c x y)) .non)) (.ok (oD (c x y))) (.ok (.int (g x y)))=_
    cases c x y<;>rfl
  show ((dZip (rowT .int g (2^sz) y) (rowL oD c (2^sz) y)).bind _).bind _=_
  rw [z,R.bind_ok,M]
  rfl
theorem gZ {sz:Nat} {t:Q Int} {u:Q (Option Int)} (p:Pc sz t) (c:Cg sz u) (ns:List Int) (k:Nat) {n:Nat} (hn:30≤n):dr (pf n) (scr ns) (picD sz t) (.int (sz:Int)) (chD sz u) (.int (k:Int))=.nx ():=by
  obtain ⟨n,rfl⟩:∃ j,n=j+10:=⟨n - 10,by omega⟩
  have m5:dMul (.int 5) (.int (k:Int))=.ok (.int (5*(k:Int))):=cT (.inr (by decide))
  obtain ⟨d,td,ed⟩:=kJ (w:=5) (n:=4) (by decide) (by decide) (by decide) (by decide) c.th (m:=n+10) (by omega) ns (14000+5*k)
  rw [show ((14000+5*k:Nat):Int)=14000+5*(k:Int) by omega] at ed
  have ip:=kO (w:=5) (by decide) (n:=4) td (m:=n+10) (by omega) (by decide)
  have ic:=jV (n:=n+10) (m:=5) (gT td) (lz (by decide) _ td) (by omega)
  have e54:sizedOk inSet 5 d=sizedOk inSet 4 d:=by
    have h1:=kO (w:=5) (by decide) (n:=5) (oV (Nat.le_refl 5) td (show 5≤6 by decide)) (m:=n+10) (by omega) (by decide)
    rw [ip] at h1; exact (D.bl.inj (R.ok.inj h1)).symm
  rw [e54] at ic
  have nb:∀ b:Bool,dNf (.bl b) (.bl b)=.ok (.bl false):=fun b=>by cases b<;>rfl
  have ib:∀ b:Bool,dIsA qBool (.bl b)=.ok (.bl true):=fun b=>rfl
  unfold dr
  simp only [STP,if_true,if_false,ite_true,ite_false,reduceIte,reduceCtorEq,OPP,m5,ed,ip,ic,nb,ib]
  cases h4:sizedOk inSet 4 d with
  | false =>
    rw [h4] at e54
    have cb:∀ m,12≤m→pf m F.check_change [d]=.err 7:=fun m hm=>oh (w:=5) (by decide) td (m:=m) (by omega) e54
    have b1:pf (n+10) F.L_do_8 [.int 1,picD sz t,d]=_:=jZ (.inr (.inl ⟨rfl,vJ (p.check (n:=n+8) (by omega)) (cb (n+8) (by omega))⟩)) (by decide) (word7 (m:=n+9) (by omega))
    have b2:pf (n+10) F.L_do_8 [.int 2,d,.non]=_:=jZ (.inr (.inr ⟨rfl,ut (cb (n+8) (by omega))⟩)) (by decide) (word7 (m:=n+9) (by omega))
    simp only [STP,if_true,if_false,ite_true,ite_false,reduceIte,reduceCtorEq,b1,b2]
    rfl
  | true =>
    obtain ⟨s,v,rfl,cv⟩:=qq h4
    have i0:dIx (chD s v) (.int 0)=.ok (.int (s:Int)):=rfl
    simp only [STP,if_true,if_false,ite_true,ite_false,reduceIte,reduceCtorEq,i0,eg]
    by_cases hs:s=sz
    · rw [decide_eq_true (show (s:Int)=sz by omega)]
      simp only [STP,if_true,if_false,ite_true,ite_false,reduceIte,reduceCtorEq]
    · have b1:pf (n+10) F.L_do_8 [.int 1,picD sz t,chD s v]=_:=jZ (.inr (.inl ⟨rfl,vK p cv (Ne.symm hs) (m:=n+8) (by omega)⟩)) (by decide) (word4 (m:=n+9) (by omega))
      have nu:dNf (.str "unlike") (.str "unlike")=.ok (.bl false):=rfl
      rw [decide_eq_false (show ¬ (s:Int)=sz by omega)]
      simp only [STP,if_true,if_false,ite_true,ite_false,reduceIte,reduceCtorEq,b1,nu]
theorem kl (ns:List Int):pf 40 F.law_k70 [.lst (ns.map .int)]=.ok (.bl true):=by
  obtain ⟨sz,t,_,p,hp⟩:=oR ns 0 3 39 (by decide) (by decide)
  have hp':pf 39 F.L_picture [scr ns,.int 0,.int 3]=.ok (picD sz t):=hp
  have h3:=p.h3
  have q:=p.sh
  generalize t.at sz=g at *
  have e0:dIx (picD sz t) (.int 0)=.ok (.int (sz:Int)):=rfl
  obtain ⟨u,a1,b1,k1⟩:=sy ns sz 5000 39 (by omega)
  have k1':pf 39 F.L_change_tree [scr ns,.int 5000,.int (sz:Int)]=.ok (u.d oD):=k1
  have c1:=(⟨h3,a1,b1⟩:Cg sz u).sc
  have cd:∀ u:Q (Option Int),D.tup [.int (sz:Int),u.d oD]=chD sz u:=fun _=>rfl
  have lr:=q.lrows (n:=39) (by decide)
  have i1:dIx (chD sz u) (.int 1)=.ok (u.d oD):=rfl
  have l1:=gW En.opt sz u 39 h3 a1 (by omega)
  have mk:=uu h3 g (u.at sz)
  have x1:pf 39 F.L_do_8 [.int 1,picD sz t,chD sz u]=_:=uD (c1.changed q (n:=38) (by decide))
  have of1:pf 39 F.L_of [.tup ((List.range (2^sz)).map fun y=>rowT .int (fun x y=>ov (g x y) (u.at sz x y)) (2^sz) y)]=.ok (picD sz (T (fun x y=>ov (g x y) (u.at sz x y)) sz)):=uC _ h3 (by decide)
  have n1:=gS (c1.over q).p.g60
  have ic:=jV (n:=39) (m:=3) c1.p.good c1.p.slim (by decide)
  rw [c1.p.sized] at ic
  have inn:dIsNot (.bl true) (.bl true)=.ok (.bl false):=rfl
  have x2:pf 39 F.L_do_8 [.int 2,chD sz u,.non]=_:=wx (c1.lean (n:=38) (by decide))
  have ls:=oa sz (u.at sz) 39 h3 (by omega)
  have n2:=gS (sc_T h3 c1.wo).p.g60
  have pk1:pf 39 F.L_pick [scr ns,.int 9000,.int 2]=.ok (.int (pk ns 9000 2)):=fw (by decide) ns 9000 (by decide)
  have p2:Pc sz (dt ns sz 9100):=⟨h3,nQ ns _ _,nR ns _ _⟩
  have t2:pf 39 F.L_tree [scr ns,.int 9100,.int (sz:Int)]=.ok ((dt ns sz 9100).d .int):=mF ns sz 9100 39 (by omega)
  obtain ⟨g2,w,s2,eo⟩:∃ g2 w,Sh sz g2 w∧rIf (asB ((pf 39 F.L_pick [scr ns,(.int 9000),(.int 2)]).bind fun x10=>dEq x10 (.int 0))) ((dTuple [.lst ((List.range (2^sz)).map fun y=>rowT .int (fun x y=>ov (g x y) (u.at sz x y)) (2^sz) y)]).bind fun x11=>pf 39 F.L_of [x11]) ((pf 39 F.L_tree [scr ns,(.int 9100),.int (sz:Int)]).bind fun x12=>.ok (.tup [.int (sz:Int),x12]))=.ok (picD sz w):=by
    rw [pk1,R.bind_ok,fu,fc,ft,R.bind_ok,of1,t2,R.bind_ok]
    by_cases h:pk ns 9000 2=0
    · exact ⟨_,_,c1.over q,by rw [decide_eq_true h]; rfl⟩
    · exact ⟨_,_,p2.sh,by rw [decide_eq_false h]; rfl⟩
  have lr2:=s2.lrows (n:=39) (by decide)
  have lb:=wr sz g g2 39 h3 (by omega)
  have x3:pf 39 F.L_do_8 [.int 0,picD sz t,picD sz w]=_:=ww (q.betweenF s2 (n:=38) (by decide))
  obtain ⟨cb,fb⟩:=q.btF s2
  have n3:=gS cb.p.g60
  have x4:pf 39 F.L_do_8 [.int 1,picD sz t,chD sz (btF sz g g2)]=_:=uD (cb.changed q (n:=38) (by decide))
  rw [aM sz (fun x y=>ov (g x y) ((btF sz g g2).at sz x y)) g2 fb] at x4
  have lo2:=uC (n:=39) g2 h3 (by decide)
  have n4:=gS (sh_T h3 s2.wo).p.g60
  have lo:=gR (f:=fun _ x=>dr (pf 39) (scr ns) (picD sz t) (.int (sz:Int)) (chD sz u) x) [.int 0,.int 1,.int 2,.int 3] (fun d hd=>by
    simp only [List.mem_cons,List.not_mem_nil,or_false] at hd
    rcases hd with rfl | rfl | rfl | rfl
    · exact gZ p c1.p ns 0 (by decide)
    · exact gZ p c1.p ns 1 (by decide)
    · exact gZ p c1.p ns 2 (by decide)
    · exact gZ p c1.p ns 3 (by decide))
  obtain ⟨s3,t3,_,p3,hp3⟩:=oR ns 14100 2 39 (by decide) (by decide)
  have hp3':pf 39 F.L_picture [scr ns,.int 14100,.int 2]=.ok (picD s3 t3):=hp3
  have e3:dIx (picD s3 t3) (.int 0)=.ok (.int (s3:Int)):=rfl
  have A:rAnd (asB ((dIx (picD s3 t3) (.int 0)).bind fun x31=>dNf x31 (.int (sz:Int)))) (asB ((pf 39 F.L_do_8 [(.int 0),picD sz t,picD s3 t3]).bind fun x30=>dNf x30 (.str "unlike")))=.ok false:=by
    rw [e3,R.bind_ok,eg,fc]
    by_cases h:s3=sz
    · rw [decide_eq_true (show (s3:Int)=sz by omega)]; rfl
    · have x:pf 39 F.L_do_8 [.int 0,picD sz t,picD s3 t3]=_:=jZ (.inl ⟨rfl,oi (unlike2 p p3 (Ne.symm h) (m:=37) (by decide))⟩) (by decide) (word4 (m:=38) (by decide))
      rw [decide_eq_false (show ¬ (s3:Int)=sz by omega),x]; rfl
  obtain ⟨bad,tb,eb⟩:=kJ (w:=5) (n:=4) (by decide) (by decide) (by decide) (by decide) p.th (m:=39) (by decide) ns 14500
  have eb':pf 39 F.L_spoilt_thing [scr ns,.int 14500,picD sz t]=.ok bad:=eb
  have iq:=kK (w:=5) (by decide) (n:=4) tb (m:=39) (by decide) (by decide)
  rw [show D.lst (ns.map .int)=scr ns from rfl,nC,dE]
  rw [hp',bX,e0,bX,k1',R.bind_ok,cd,bX,lr,bX,i1,R.bind_ok,l1,bX,mk,bX,eo]
  simp only [STP,if_true,if_false,ite_true,ite_false,reduceIte,reduceCtorEq,x1,ft,of1,n1,ic,inn,x2,ls,cd,n2,lr2,lb,x3,n3,x4,lo2,n4,rng4,lo,hp3',A,eb',iq]
  cases c4:sizedOk (inTo 9) 4 bad with
  | true=>simp only [STP,if_true,if_false,ite_true,ite_false,reduceIte,reduceCtorEq]
  | false =>
    have ec5:sizedOk (inTo 9) 5 bad=false:=by
      have h1:=kK (w:=5) (by decide) (n:=5) (oV (Nat.le_refl 5) tb (show 5≤6 by decide)) (m:=39) (by decide) (by decide)
      rw [iq,c4] at h1; exact (D.bl.inj (R.ok.inj h1)).symm
    have cb1:=kM (w:=5) (by decide) tb (m:=36) (by decide) ec5
    have cb2:=kM (w:=5) (by decide) tb (m:=37) (by decide) ec5
    have y1:pf 39 F.L_do_8 [.int 0,bad,picD s3 t3]=_:=jZ (.inl ⟨rfl,oi (qu cb1)⟩) (by decide) (word1 (m:=38) (by decide))
    have y2:pf 39 F.L_do_8 [.int 0,picD s3 t3,bad]=_:=jZ (.inl ⟨rfl,oi (qv (p3.check (n:=36) (by decide)) cb1)⟩) (by decide) (word1 (m:=38) (by decide))
    have y3:pf 39 F.L_do_8 [.int 1,bad,.non]=_:=jZ (.inr (.inl ⟨rfl,vI cb2⟩)) (by decide) (word1 (m:=38) (by decide))
    simp only [STP,if_true,if_false,ite_true,ite_false,reduceIte,reduceCtorEq,y1,y2,y3]
    rfl
end Lw
end
end
noncomputable section
set_option Elab.async false
set_option linter.all false
set_option maxRecDepth 100000
set_option maxHeartbeats 4000000
namespace Lw
open PySem PySem.Spec PyProof.Rows L2 FF
def cname:Nat→Str
  | 0 => "FourError"
  | 1 => "NoPicture"
  | 2 => "NoSpot"
  | 3 => "BadBox"
  | 4 => "Unlike"
  | 5 => "NoRule"
  | 6 => "NoBlocks"
  | 7 => "NoChange"
  | 8 => "NoNumber"
  | 9 => "NothingDone"
  | 10 => "NoText"
  | 21 => "is_worth"
  | 230 => "is_setting"
  | 234 => "set_over"
  | _ => "?"
def Cof (K:PySem.W.Frag) (i:Nat):Addr:=match PySem.W.nsIn K mainGlobals (cname i) with
  | some (some (.ref a))=>a
  | _=>0
theorem cof {K:PySem.W.Frag} {i:Nat} {x:Str} {a:Addr} (hx:cname i=x) (h:PySem.W.nsIn K mainGlobals x=some (some (.ref a))):Cof K i=a:=by unfold Cof; rw [hx,h]
theorem g6 {P:Program} {w:World} {K:PySem.W.Frag} {mg:Str→Option Value} {base:Heap} {C:Nat→Addr} {f:Addr} {fd:FuncData} {ps:List Str} {k n:Nat}:FnOk P w K mg base (CXE P w) k f fd ps (spF K C n fun _=>.stuck) :=
  ⟨fun vs H Q E h=>by obtain ⟨_,_,_,_,_,z⟩:=h; exact z.elim,fun A outer s H args us vs Q E _ _ _ _ h=>by obtain ⟨_,_,_,_,_,z⟩:=h; exact z.elim⟩
structure Fd (K:PySem.W.Frag) (mg:Str→Option Value) (x:Str) (ps:List Str) (st:Stmt):Prop where
  ex:∃ a fd,Fun K x x st a fd∧mg x=some (.ref a)∧Binds K fd ps []
theorem iE {P:Program} {w:World} {K:PySem.W.Frag} {mg:Str→Option Value} {base:Heap} {C:Nat→Addr} {k i:Nat} {x:Str} {ps:List Str} {st:Stmt} {fn:List FF.D→FF.R FF.D} (F:Fd K mg x ps st) (hf:mg x=some (.ref (C i)))
    (ok:∀ f fd,Fun K x x st f fd→FnOk P w K mg base (CXE P w) k f fd ps (spF K C ps.length fn)) (hl:∀ ds,ds.length≠ps.length→fn ds=.stuck):FnV P w K mg base C k i fn:=by
  obtain ⟨a,fd,F,h,b⟩:=F.ex
  rw [hf] at h
  cases h
  exact ⟨fd,ps,ok _ _ F,F.kp,b,hl⟩
structure Fds (K:PySem.W.Frag) (mg:Str→Option Value):Prop where
  F_is_whole:Fd K mg "is_whole" ["thing"] c9
  F_is_worth:Fd K mg "is_worth" ["thing"] de
  F_is_size:Fd K mg "is_size" ["thing"] dF
  F_is_tree:Fd K mg "is_tree" ["size", "thing", "is_end"] dG
  F_is_sized_tree:Fd K mg "is_sized_tree" ["thing", "is_end"] bd
  F_put_together:Fd K mg "put_together" ["four"] bC
  F_lean_tree:Fd K mg "lean_tree" ["tree"] cE
  F_quarters_in:Fd K mg "quarters_in" ["tree"] bR
  F_is_picture:Fd K mg "is_picture" ["thing"] ck
  F_check_picture:Fd K mg "check_picture" ["thing"] bf
  F_check_sizes:Fd K mg "check_sizes" ["things"] bS
  F_check_pictures:Fd K mg "check_pictures" ["pictures"] aY
  F_joined_tree:Fd K mg "joined_tree" ["make", "one", "other"] bT
  F_is_setting:Fd K mg "is_setting" ["thing"] cm
  F_is_change:Fd K mg "is_change" ["thing"] cF
  F_check_change:Fd K mg "check_change" ["thing"] bD
  F_lean_change:Fd K mg "lean_change" ["change"] bU
  F_set_over:Fd K mg "set_over" ["one", "other"] df
  F_changed:Fd K mg "changed" ["picture", "change"] dH
  F_tree_between:Fd K mg "tree_between" ["one", "other"] bE
  F_between:Fd K mg "between" ["one", "other"] dJ
  F_L_cell:Fd K mg "_law_cell" ["_law_script", "_law_k"] eN
  F_L_pick:Fd K mg "_law_pick" ["_law_script", "_law_k", "_law_many"] eO
  F_L_tree:Fd K mg "_law_tree" ["_law_script", "_law_at", "_law_size"] eQ
  F_L_picture:Fd K mg "_law_picture" ["_law_script", "_law_at", "_law_most"] cG
  F_L_rows_of:Fd K mg "_law_rows_of" ["_law_size", "_law_tree_here"] cH
  F_L_rows:Fd K mg "_law_rows" ["_law_picture_here"] eR
  F_L_least:Fd K mg "_law_least" ["_law_rows_here"] dL
  F_L_of:Fd K mg "_law_of" ["_law_rows_here"] ir
  F_L_places:Fd K mg "_law_places" ["_law_thing"] dg
  F_L_put:Fd K mg "_law_put" ["_law_thing", "_law_place", "_law_new"] fQ
  F_L_there:Fd K mg "_law_there" ["_law_thing", "_law_place"] dM
  F_L_spoilt_thing:Fd K mg "_law_spoilt_thing" ["_law_script", "_law_at", "_law_thing"] aZ
  F_L_is_picture:Fd K mg "_law_is_picture" ["_law_thing"] bF
  F_L_is_tree:Fd K mg "_law_is_tree" ["_law_thing", "_law_size"] cI
  F_L_is_change:Fd K mg "_law_is_change" ["_law_thing"] bV
  F_L_is_change_tree:Fd K mg "_law_is_change_tree" ["_law_thing", "_law_size"] aR
  F_L_change_tree:Fd K mg "_law_change_tree" ["_law_script", "_law_at", "_law_size"] bg
  F_L_set:Fd K mg "_law_set" ["_law_size", "_law_tree_here"] fR
  F_L_least_set:Fd K mg "_law_least_set" ["_law_rows_here"] bW
  F_L_word:Fd K mg "_law_word" ["_law_kept"] eU
  F_L_do_8:Fd K mg "_law_do" ["_law_what", "_law_one", "_law_other"] eV
  F_L_between:Fd K mg "_law_between" ["_law_one", "_law_other"] cJ
  F_law_k70:Fd K mg "law" ["_law_script"] a9
theorem g0 {P:Program} {w:World} {K:PySem.W.Frag} {mg:Str→Option Value} {base:Heap} {C:Nat→Addr} {x:Str} {ps:List Str} {st:Stmt} (F:Fd K mg x ps st):Fn1 P w K mg base C 0 x ps (fun _=>.stuck):=by obtain ⟨a,fd,F,h,b⟩:=F.ex; exact ⟨a,fd,g6,h,F.kp,b⟩
theorem g1 {P:Program} {w:World} {K:PySem.W.Frag} {mg:Str→Option Value} {base:Heap} {C:Nat→Addr} {n:Nat} {x:Str} {ps:List Str} {st:Stmt} {fn:List FF.D→FF.R FF.D} (F:Fd K mg x ps st) (ok:∀ f fd,Fun K x x st f fd→FnOk P w K mg base (CXE P w) n f fd ps (spF K C ps.length fn)):Fn1 P w K mg base C n x ps fn:=by obtain ⟨a,fd,F,h,b⟩:=F.ex; exact ⟨a,fd,ok _ _ F,h,F.kp,b⟩
theorem tab {P:Program} {w:World} {K:PySem.W.Frag} {mg:Str→Option Value} {base:Heap} {C:Nat→Addr} (T:Txt K mg C w.params) (S:Fds K mg):∀ n,Tab P w K mg base C n (pf n)
  | 0=>⟨(g0 S.F_is_whole),(g0 S.F_is_worth),(g0 S.F_is_size),(g0 S.F_is_tree),(g0 S.F_is_sized_tree),(g0 S.F_put_together),(g0 S.F_lean_tree),(g0 S.F_quarters_in),(g0 S.F_is_picture),(g0 S.F_check_picture),(g0 S.F_check_sizes),(g0 S.F_check_pictures),(g0 S.F_joined_tree),(g0 S.F_is_setting),(g0 S.F_is_change),(g0 S.F_check_change),(g0 S.F_lean_change),(g0 S.F_set_over),(g0 S.F_changed),(g0 S.F_tree_between),(g0 S.F_between),(g0 S.F_L_cell),(g0 S.F_L_pick),(g0 S.F_L_tree),(g0 S.F_L_picture),(g0 S.F_L_rows_of),(g0 S.F_L_rows),(g0 S.F_L_least),(g0 S.F_L_of),(g0 S.F_L_places),(g0 S.F_L_put),(g0 S.F_L_there),(g0 S.F_L_spoilt_thing),(g0 S.F_L_is_picture),(g0 S.F_L_is_tree),(g0 S.F_L_is_change),(g0 S.F_L_is_change_tree),(g0 S.F_L_change_tree),(g0 S.F_L_set),(g0 S.F_L_least_set),(g0 S.F_L_word),(g0 S.F_L_do_8),(g0 S.F_L_between),(g0 S.F_law_k70),
      fun i hi=>by
        simp only [fvL,List.mem_cons,List.not_mem_nil,or_false] at hi
        rcases hi with rfl | rfl | rfl
        · exact iE S.F_is_worth T.f_is_worth (fun _ _ _=>g6) (fun _ _=>rfl)
        · exact iE S.F_is_setting T.f_is_setting (fun _ _ _=>g6) (fun _ _=>rfl)
        · exact iE S.F_set_over T.f_set_over (fun _ _ _=>g6) (fun _ _=>rfl)⟩
  | n+1=>by
    have G:=tab T S n (P:=P) (w:=w) (base:=base)
    exact ⟨(g1 S.F_is_whole fun _ _ F=>mv F T G),(g1 S.F_is_worth fun _ _ F=>iI F T G),(g1 S.F_is_size fun _ _ F=>nH F T G),(g1 S.F_is_tree fun _ _ F=>nI F T G),(g1 S.F_is_sized_tree fun _ _ F=>iv F T G),(g1 S.F_put_together fun _ _ F=>iU F T G),(g1 S.F_lean_tree fun _ _ F=>ll F T G),(g1 S.F_quarters_in fun _ _ F=>jG F T G),(g1 S.F_is_picture fun _ _ F=>kj F T G),(g1 S.F_check_picture fun _ _ F=>iw F T G),(g1 S.F_check_sizes fun _ _ F=>jH F T G),(g1 S.F_check_pictures fun _ _ F=>gL F T G),(g1 S.F_joined_tree fun _ _ F=>jI F T G),(g1 S.F_is_setting fun _ _ F=>fW F T G),(g1 S.F_is_change fun _ _ F=>lm F T G),(g1 S.F_check_change fun _ _ F=>iV F T G),(g1 S.F_lean_change fun _ _ F=>jJ F T G),(g1 S.F_set_over fun _ _ F=>iJ F T G),(g1 S.F_changed fun _ _ F=>nJ F T G),(g1 S.F_tree_between fun _ _ F=>iW F T G),(g1 S.F_between fun _ _ F=>nK F T G),(g1 S.F_L_cell fun _ _ F=>pX F T G),(g1 S.F_L_pick fun _ _ F=>pY F T G),(g1 S.F_L_tree fun _ _ F=>pZ F T G),(g1 S.F_L_picture fun _ _ F=>ln F T G),(g1 S.F_L_rows_of fun _ _ F=>lp F T G),(g1 S.F_L_rows fun _ _ F=>p6 F T G),(g1 S.F_L_least fun _ _ F=>nM F T G),(g1 S.F_L_of fun _ _ F=>tZ F T G),(g1 S.F_L_places fun _ _ F=>mw F T G),(g1 S.F_L_put fun _ _ F=>rT F T G),(g1 S.F_L_there fun _ _ F=>nN F T G),(g1 S.F_L_spoilt_thing fun _ _ F=>gM F T G),(g1 S.F_L_is_picture fun _ _ F=>iX F T G),(g1 S.F_L_is_tree fun _ _ F=>lq F T G),(g1 S.F_L_is_change fun _ _ F=>jK F T G),(g1 S.F_L_is_change_tree fun _ _ F=>fV F T G),(g1 S.F_L_change_tree fun _ _ F=>iy F T G),(g1 S.F_L_set fun _ _ F=>rV F T G),(g1 S.F_L_least_set fun _ _ F=>jL F T G),(g1 S.F_L_word fun _ _ F=>p7 F T G),(g1 S.F_L_do_8 fun _ _ F=>p9 F T G),(g1 S.F_L_between fun _ _ F=>lu F T G),(g1 S.F_law_k70 fun _ _ F=>jM F T G),
      fun i hi=>by
        simp only [fvL,List.mem_cons,List.not_mem_nil,or_false] at hi
        rcases hi with rfl | rfl | rfl
        · exact iE S.F_is_worth T.f_is_worth (fun _ _ F=>iI F T G) (fun ds h=>uA h)
        · exact iE S.F_is_setting T.f_is_setting (fun _ _ F=>fW F T G) (fun ds h=>uA h)
        · exact iE S.F_set_over T.f_set_over (fun _ _ F=>iJ F T G) (fun ds h=>wj h)⟩
theorem wy {K:PySem.W.Frag} {h:Heap} {mg:Str→Option Value} {x:Str} {ps:List Str} {st:Stmt} {f:Addr} {oc:Value} {od an:Option Addr} {osl:Array (Option Value)} {kV doc pm cdv ct:Value} (X:K.In h) (G:h.Ns mainGlobals mg) (a:PySem.W.nsIn K mainGlobals x=some (some (.ref f)))
    (l:K.lookup f=some ⟨oc,od,.func (PySem.W.fnOf x x (defArgs st) (defBody st) (defScope st) .none kV doc pm an cdv ct),osl⟩) (c:PySem.W.codeIn K cdv x=true) (k:PySem.W.keepIn K (.ref f)=true)
    (hb:∀ (kV doc pm:Value) (an:Option Addr) (cdv ct:Value) (us:List Value),us.length=ps.length→bindArgs (PySem.W.fnOf x x (defArgs st) (defBody st) (defScope st) .none kV doc pm an cdv ct) ⟨us,[]⟩=pure (ps.zip us)):Fd K mg x ps st :=
  ⟨f,_,na l c k,PySem.W.mg_of X G a,(na l c k).binds hb⟩
theorem ap {K:PySem.W.Frag} {h:Heap} {mg:Str→Option Value} {x:Str} {ps:List Str} {st:Stmt} {f:Addr} {oc:Value} {od an:Option Addr} {osl:Array (Option Value)} {kV doc pm cdv ct:Value} {P:Prop} (X:K.In h) (G:h.Ns mainGlobals mg) (a:PySem.W.nsIn K mainGlobals x=some (some (.ref f)))
    (l:K.lookup f=some ⟨oc,od,.func (PySem.W.fnOf x x (defArgs st) (defBody st) (defScope st) .none kV doc pm an cdv ct),osl⟩) (c:PySem.W.codeIn K cdv x=true) (k:PySem.W.keepIn K (.ref f)=true)
    (hb:∀ (kV doc pm:Value) (an:Option Addr) (cdv ct:Value) (us:List Value),us.length=ps.length→bindArgs (PySem.W.fnOf x x (defArgs st) (defBody st) (defScope st) .none kV doc pm an cdv ct) ⟨us,[]⟩=pure (ps.zip us)) (n:Fd K mg x ps st→P):P:=n (wy X G a l c k hb)
theorem aN {K:PySem.W.Frag} {n c:Addr} {b:Bool} {cd:ClassData} (hd:PySem.W.clsIn K c=some cd) (hy:PySem.W.typeIn K (.ref c)=some (.type "type")) (hs:PySem.W.subIn K (.ref n) (.ref c)=some b) (hn:PySem.W.subIn K (.ref n) (.ref n)=some true):PySem.W.kitOne K (.ref n) (.ref c)=some b:=by
  unfold PySem.W.kitOne
  by_cases e:n=c
  · subst e
    rw [hn] at hs
    rw [if_pos (by simp)]
    exact hs
  · rw [if_neg (by simpa using e)]
    show (if ((PySem.W.clsIn K c).isSome&&PySem.W.typeIn K (.ref c)==some (.type "type"))=true then PySem.W.subIn K (.ref n) (.ref c) else none)=some b
    rw [hd,hy,if_pos (by simp)]
    exact hs
theorem oj {K:PySem.W.Frag} {n:Addr} (hs:PySem.W.subIn K (.ref n) (.type "ValueError")=some true):PySem.W.kitOne K (.ref n) (.type "ValueError")=some true:=by
  unfold PySem.W.kitOne
  rw [if_neg (by simp)]
  show (if PySem.W.kitMeta "ValueError"=true then PySem.W.subIn K (.ref n) (.type "ValueError") else none)=some true
  rw [if_pos (by decide +kernel)]
  exact hs
theorem oX {K:PySem.W.Frag} {C:Nat→Addr} {Z:Hp}:∀ ns:List Int,Reps K C Z (ns.map .int) (ns.map V.int)
  | []=>by rw [List.map_nil,List.map_nil,Reps]
  | i::ns=>by rw [List.map_cons,List.map_cons,Reps]; exact ⟨_,_,rfl,bi,oX ns⟩
theorem vL {l:PySem.W.OpenLaw} {w:World} {K:PySem.W.Frag} {h:Heap} {mg:Str→Option Value} {fa f1 f13 f17 f43 C_FourError C_NoPicture C_NoSpot C_BadBox C_Unlike C_NoRule C_NoBlocks C_NoChange C_NoNumber C_NothingDone C_NoText:Addr} (X:K.In h) (G:h.Ns mainGlobals mg) (hfa:mg "law"=some (.ref fa)) (S:Fds K mg)
    {od43 an43:Option Addr} {sl43:Array (Option Value)} {oc43 kV43 dc43 pm43 cd43 ct43:Value} {tk_GREATEST_WORTH tk_LARGEST_SIZE:Tok} {cl_NoPicture cl_NoSpot cl_BadBox cl_Unlike cl_NoRule cl_NoBlocks cl_NoChange cl_NoNumber cl_NothingDone cl_NoText:ClassData}
    (a1:PySem.W.nsIn K mainGlobals "is_worth"=some (some (.ref f1)))
    (a13:PySem.W.nsIn K mainGlobals "is_setting"=some (some (.ref f13)))
    (a17:PySem.W.nsIn K mainGlobals "set_over"=some (some (.ref f17)))
    (a43:PySem.W.nsIn K mainGlobals "law"=some (some (.ref f43)))
    (l43:K.lookup f43=some ⟨oc43,od43,.func (PySem.W.fnOf "law" "law" (defArgs a9) (defBody a9) (defScope a9) .none kV43 dc43 pm43 an43 cd43 ct43),sl43⟩)
    (c43:PySem.W.codeIn K cd43 "law"=true)
    (k43:PySem.W.keepIn K (.ref f43)=true)
    (zb_ValueError:PySem.W.nsIn K mainGlobals "ValueError"=some none)
    (zb_all:PySem.W.nsIn K mainGlobals "all"=some none)
    (zb_bool:PySem.W.nsIn K mainGlobals "bool"=some none)
    (zb_int:PySem.W.nsIn K mainGlobals "int"=some none)
    (zb_isinstance:PySem.W.nsIn K mainGlobals "isinstance"=some none)
    (zb_len:PySem.W.nsIn K mainGlobals "len"=some none)
    (zb_list:PySem.W.nsIn K mainGlobals "list"=some none)
    (zb_max:PySem.W.nsIn K mainGlobals "max"=some none)
    (zb_range:PySem.W.nsIn K mainGlobals "range"=some none)
    (zb_set:PySem.W.nsIn K mainGlobals "set"=some none)
    (zb_tuple:PySem.W.nsIn K mainGlobals "tuple"=some none)
    (zb_zip:PySem.W.nsIn K mainGlobals "zip"=some none)
    (zk_GREATEST_WORTH:PySem.W.nsIn K mainGlobals "GREATEST_WORTH"=some (some (.int 9 tk_GREATEST_WORTH)))
    (zk_LARGEST_SIZE:PySem.W.nsIn K mainGlobals "LARGEST_SIZE"=some (some (.int 3 tk_LARGEST_SIZE)))
    (zc_FourError:PySem.W.nsIn K mainGlobals "FourError"=some (some (.ref C_FourError)))
    (zc_NoPicture:PySem.W.nsIn K mainGlobals "NoPicture"=some (some (.ref C_NoPicture)))
    (zc_NoSpot:PySem.W.nsIn K mainGlobals "NoSpot"=some (some (.ref C_NoSpot)))
    (zc_BadBox:PySem.W.nsIn K mainGlobals "BadBox"=some (some (.ref C_BadBox)))
    (zc_Unlike:PySem.W.nsIn K mainGlobals "Unlike"=some (some (.ref C_Unlike)))
    (zc_NoRule:PySem.W.nsIn K mainGlobals "NoRule"=some (some (.ref C_NoRule)))
    (zc_NoBlocks:PySem.W.nsIn K mainGlobals "NoBlocks"=some (some (.ref C_NoBlocks)))
    (zc_NoChange:PySem.W.nsIn K mainGlobals "NoChange"=some (some (.ref C_NoChange)))
    (zc_NoNumber:PySem.W.nsIn K mainGlobals "NoNumber"=some (some (.ref C_NoNumber)))
    (zc_NothingDone:PySem.W.nsIn K mainGlobals "NothingDone"=some (some (.ref C_NothingDone)))
    (zc_NoText:PySem.W.nsIn K mainGlobals "NoText"=some (some (.ref C_NoText)))
    (zx_NoPicture:PySem.W.excIn K C_NoPicture bmVE "ValueError.__new__"=true)
    (zx_Unlike:PySem.W.excIn K C_Unlike bmVE "ValueError.__new__"=true)
    (zx_NoChange:PySem.W.excIn K C_NoChange bmVE "ValueError.__new__"=true)
    (zx_FourError:PySem.W.excIn K C_FourError bmVE "ValueError.__new__"=true)
    (zd_NoPicture:PySem.W.clsIn K C_NoPicture=some cl_NoPicture)
    (zy_NoPicture:PySem.W.typeIn K (.ref C_NoPicture)=some (.type "type"))
    (zd_NoSpot:PySem.W.clsIn K C_NoSpot=some cl_NoSpot)
    (zy_NoSpot:PySem.W.typeIn K (.ref C_NoSpot)=some (.type "type"))
    (zd_BadBox:PySem.W.clsIn K C_BadBox=some cl_BadBox)
    (zy_BadBox:PySem.W.typeIn K (.ref C_BadBox)=some (.type "type"))
    (zd_Unlike:PySem.W.clsIn K C_Unlike=some cl_Unlike)
    (zy_Unlike:PySem.W.typeIn K (.ref C_Unlike)=some (.type "type"))
    (zd_NoRule:PySem.W.clsIn K C_NoRule=some cl_NoRule)
    (zy_NoRule:PySem.W.typeIn K (.ref C_NoRule)=some (.type "type"))
    (zd_NoBlocks:PySem.W.clsIn K C_NoBlocks=some cl_NoBlocks)
    (zy_NoBlocks:PySem.W.typeIn K (.ref C_NoBlocks)=some (.type "type"))
    (zd_NoChange:PySem.W.clsIn K C_NoChange=some cl_NoChange)
    (zy_NoChange:PySem.W.typeIn K (.ref C_NoChange)=some (.type "type"))
    (zd_NoNumber:PySem.W.clsIn K C_NoNumber=some cl_NoNumber)
    (zy_NoNumber:PySem.W.typeIn K (.ref C_NoNumber)=some (.type "type"))
    (zd_NothingDone:PySem.W.clsIn K C_NothingDone=some cl_NothingDone)
    (zy_NothingDone:PySem.W.typeIn K (.ref C_NothingDone)=some (.type "type"))
    (zd_NoText:PySem.W.clsIn K C_NoText=some cl_NoText)
    (zy_NoText:PySem.W.typeIn K (.ref C_NoText)=some (.type "type"))
    (zs_NoPicture_NoPicture:PySem.W.subIn K (.ref C_NoPicture) (.ref C_NoPicture)=some true)
    (zs_NoPicture_NoSpot:PySem.W.subIn K (.ref C_NoPicture) (.ref C_NoSpot)=some false)
    (zs_NoPicture_BadBox:PySem.W.subIn K (.ref C_NoPicture) (.ref C_BadBox)=some false)
    (zs_NoPicture_Unlike:PySem.W.subIn K (.ref C_NoPicture) (.ref C_Unlike)=some false)
    (zs_NoPicture_NoRule:PySem.W.subIn K (.ref C_NoPicture) (.ref C_NoRule)=some false)
    (zs_NoPicture_NoBlocks:PySem.W.subIn K (.ref C_NoPicture) (.ref C_NoBlocks)=some false)
    (zs_NoPicture_NoChange:PySem.W.subIn K (.ref C_NoPicture) (.ref C_NoChange)=some false)
    (zs_NoPicture_NoNumber:PySem.W.subIn K (.ref C_NoPicture) (.ref C_NoNumber)=some false)
    (zs_NoPicture_NothingDone:PySem.W.subIn K (.ref C_NoPicture) (.ref C_NothingDone)=some false)
    (zs_NoPicture_NoText:PySem.W.subIn K (.ref C_NoPicture) (.ref C_NoText)=some false)
    (zs_NoPicture_FourError:PySem.W.subIn K (.ref C_NoPicture) (.ref C_FourError)=some true)
    (zv_NoPicture:PySem.W.subIn K (.ref C_NoPicture) (.type "ValueError")=some true)
    (e1_NoPicture:PySem.W.findIn K (.ref C_NoPicture) "__getattribute__"=some (some (.builtin "BaseException.__getattribute__")))
    (e2_NoPicture:PySem.W.findIn K (.ref C_NoPicture) "__getattr__"=some none)
    (e3_NoPicture:PySem.W.findIn K (.ref C_NoPicture) "__class__"=some (some (.builtin "object.__class__")))
    (e4_NoPicture:PySem.W.subIn K (.ref C_NoPicture) (.type "BaseException")=some true)
    (e5_NoPicture:PySem.W.subIn K (.ref C_NoPicture) (.type "object")=some true)
    (zs_Unlike_NoPicture:PySem.W.subIn K (.ref C_Unlike) (.ref C_NoPicture)=some false)
    (zs_Unlike_NoSpot:PySem.W.subIn K (.ref C_Unlike) (.ref C_NoSpot)=some false)
    (zs_Unlike_BadBox:PySem.W.subIn K (.ref C_Unlike) (.ref C_BadBox)=some false)
    (zs_Unlike_Unlike:PySem.W.subIn K (.ref C_Unlike) (.ref C_Unlike)=some true)
    (zs_Unlike_NoRule:PySem.W.subIn K (.ref C_Unlike) (.ref C_NoRule)=some false)
    (zs_Unlike_NoBlocks:PySem.W.subIn K (.ref C_Unlike) (.ref C_NoBlocks)=some false)
    (zs_Unlike_NoChange:PySem.W.subIn K (.ref C_Unlike) (.ref C_NoChange)=some false)
    (zs_Unlike_NoNumber:PySem.W.subIn K (.ref C_Unlike) (.ref C_NoNumber)=some false)
    (zs_Unlike_NothingDone:PySem.W.subIn K (.ref C_Unlike) (.ref C_NothingDone)=some false)
    (zs_Unlike_NoText:PySem.W.subIn K (.ref C_Unlike) (.ref C_NoText)=some false)
    (zs_Unlike_FourError:PySem.W.subIn K (.ref C_Unlike) (.ref C_FourError)=some true)
    (zv_Unlike:PySem.W.subIn K (.ref C_Unlike) (.type "ValueError")=some true)
    (e1_Unlike:PySem.W.findIn K (.ref C_Unlike) "__getattribute__"=some (some (.builtin "BaseException.__getattribute__")))
    (e2_Unlike:PySem.W.findIn K (.ref C_Unlike) "__getattr__"=some none)
    (e3_Unlike:PySem.W.findIn K (.ref C_Unlike) "__class__"=some (some (.builtin "object.__class__")))
    (e4_Unlike:PySem.W.subIn K (.ref C_Unlike) (.type "BaseException")=some true)
    (e5_Unlike:PySem.W.subIn K (.ref C_Unlike) (.type "object")=some true)
    (zs_NoChange_NoPicture:PySem.W.subIn K (.ref C_NoChange) (.ref C_NoPicture)=some false)
    (zs_NoChange_NoSpot:PySem.W.subIn K (.ref C_NoChange) (.ref C_NoSpot)=some false)
    (zs_NoChange_BadBox:PySem.W.subIn K (.ref C_NoChange) (.ref C_BadBox)=some false)
    (zs_NoChange_Unlike:PySem.W.subIn K (.ref C_NoChange) (.ref C_Unlike)=some false)
    (zs_NoChange_NoRule:PySem.W.subIn K (.ref C_NoChange) (.ref C_NoRule)=some false)
    (zs_NoChange_NoBlocks:PySem.W.subIn K (.ref C_NoChange) (.ref C_NoBlocks)=some false)
    (zs_NoChange_NoChange:PySem.W.subIn K (.ref C_NoChange) (.ref C_NoChange)=some true)
    (zs_NoChange_NoNumber:PySem.W.subIn K (.ref C_NoChange) (.ref C_NoNumber)=some false)
    (zs_NoChange_NothingDone:PySem.W.subIn K (.ref C_NoChange) (.ref C_NothingDone)=some false)
    (zs_NoChange_NoText:PySem.W.subIn K (.ref C_NoChange) (.ref C_NoText)=some false)
    (zs_NoChange_FourError:PySem.W.subIn K (.ref C_NoChange) (.ref C_FourError)=some true)
    (zv_NoChange:PySem.W.subIn K (.ref C_NoChange) (.type "ValueError")=some true)
    (e1_NoChange:PySem.W.findIn K (.ref C_NoChange) "__getattribute__"=some (some (.builtin "BaseException.__getattribute__")))
    (e2_NoChange:PySem.W.findIn K (.ref C_NoChange) "__getattr__"=some none)
    (e3_NoChange:PySem.W.findIn K (.ref C_NoChange) "__class__"=some (some (.builtin "object.__class__")))
    (e4_NoChange:PySem.W.subIn K (.ref C_NoChange) (.type "BaseException")=some true)
    (e5_NoChange:PySem.W.subIn K (.ref C_NoChange) (.type "object")=some true) :
    ∃ fd:FuncData,(∀ (s:Shared) (v:Value),BindsTo s fd ⟨[v],[]⟩ [("_law_script",v)])∧∀ base:Heap,K.In base→base.Ns mainGlobals mg→FnOk l.prog w K mg base (CXE l.prog w) 40 fa fd ["_law_script"] (spF K (Cof K) 1 (pf 40 Lw.F.law_k70)):=by
  have e:=hfa.symm.trans (PySem.W.mg_of X G a43)
  cases e
  have q_FourError:Cof K 0=C_FourError:=cof rfl zc_FourError
  have q_NoPicture:Cof K 1=C_NoPicture:=cof rfl zc_NoPicture
  have q_NoSpot:Cof K 2=C_NoSpot:=cof rfl zc_NoSpot
  have q_BadBox:Cof K 3=C_BadBox:=cof rfl zc_BadBox
  have q_Unlike:Cof K 4=C_Unlike:=cof rfl zc_Unlike
  have q_NoRule:Cof K 5=C_NoRule:=cof rfl zc_NoRule
  have q_NoBlocks:Cof K 6=C_NoBlocks:=cof rfl zc_NoBlocks
  have q_NoChange:Cof K 7=C_NoChange:=cof rfl zc_NoChange
  have q_NoNumber:Cof K 8=C_NoNumber:=cof rfl zc_NoNumber
  have q_NothingDone:Cof K 9=C_NothingDone:=cof rfl zc_NothingDone
  have q_NoText:Cof K 10=C_NoText:=cof rfl zc_NoText
  have xk_NoPicture:ExcK K (Cof K 1):=by rw [q_NoPicture]; exact ⟨e1_NoPicture,e2_NoPicture,e3_NoPicture,e4_NoPicture,e5_NoPicture,by rw [zd_NoPicture]; rfl⟩
  have xk_Unlike:ExcK K (Cof K 4):=by rw [q_Unlike]; exact ⟨e1_Unlike,e2_Unlike,e3_Unlike,e4_Unlike,e5_Unlike,by rw [zd_Unlike]; rfl⟩
  have xk_NoChange:ExcK K (Cof K 7):=by rw [q_NoChange]; exact ⟨e1_NoChange,e2_NoChange,e3_NoChange,e4_NoChange,e5_NoChange,by rw [zd_NoChange]; rfl⟩
  have T:Txt K mg (Cof K) w.params:=⟨PySem.W.mg_none_of X G zb_ValueError,
    PySem.W.mg_none_of X G zb_all,
    PySem.W.mg_none_of X G zb_bool,
    PySem.W.mg_none_of X G zb_int,
    PySem.W.mg_none_of X G zb_isinstance,
    PySem.W.mg_none_of X G zb_len,
    PySem.W.mg_none_of X G zb_list,
    PySem.W.mg_none_of X G zb_max,
    PySem.W.mg_none_of X G zb_range,
    PySem.W.mg_none_of X G zb_set,
    PySem.W.mg_none_of X G zb_tuple,
    PySem.W.mg_none_of X G zb_zip,
    ⟨_,PySem.W.mg_of X G zk_GREATEST_WORTH⟩,
    ⟨_,PySem.W.mg_of X G zk_LARGEST_SIZE⟩,
    (by rw [show Cof K F.is_worth=f1 from cof rfl a1]; exact PySem.W.mg_of X G a1),
    (by rw [show Cof K F.is_setting=f13 from cof rfl a13]; exact PySem.W.mg_of X G a13),
    (by rw [show Cof K F.set_over=f17 from cof rfl a17]; exact PySem.W.mg_of X G a17),
    (by rw [q_FourError]; exact PySem.W.mg_of X G zc_FourError),
    (by rw [q_NoPicture]; exact PySem.W.mg_of X G zc_NoPicture),
    (by rw [q_NoSpot]; exact PySem.W.mg_of X G zc_NoSpot),
    (by rw [q_BadBox]; exact PySem.W.mg_of X G zc_BadBox),
    (by rw [q_Unlike]; exact PySem.W.mg_of X G zc_Unlike),
    (by rw [q_NoRule]; exact PySem.W.mg_of X G zc_NoRule),
    (by rw [q_NoBlocks]; exact PySem.W.mg_of X G zc_NoBlocks),
    (by rw [q_NoChange]; exact PySem.W.mg_of X G zc_NoChange),
    (by rw [q_NoNumber]; exact PySem.W.mg_of X G zc_NoNumber),
    (by rw [q_NothingDone]; exact PySem.W.mg_of X G zc_NothingDone),
    (by rw [q_NoText]; exact PySem.W.mg_of X G zc_NoText),
    (by rw [q_NoPicture]; exact zx_NoPicture),
    (by rw [q_Unlike]; exact zx_Unlike),
    (by rw [q_NoChange]; exact zx_NoChange),
    (et (fun j hj=>by
      simp only [esL,List.mem_cons,List.not_mem_nil,or_false] at hj
      rcases hj with rfl | rfl | rfl
      · rw [q_NoPicture,q_BadBox]; exact aN zd_BadBox zy_BadBox zs_NoPicture_BadBox zs_NoPicture_NoPicture
      · rw [q_Unlike,q_BadBox]; exact aN zd_BadBox zy_BadBox zs_Unlike_BadBox zs_Unlike_Unlike
      · rw [q_NoChange,q_BadBox]; exact aN zd_BadBox zy_BadBox zs_NoChange_BadBox zs_NoChange_NoChange) (fun j hj=>by
      simp only [esL,List.mem_cons,List.not_mem_nil,or_false] at hj
      rcases hj with rfl | rfl | rfl
      · exact xk_NoPicture
      · exact xk_Unlike
      · exact xk_NoChange)),
    (et (fun j hj=>by
      simp only [esL,List.mem_cons,List.not_mem_nil,or_false] at hj
      rcases hj with rfl | rfl | rfl
      · rw [q_NoPicture,q_NoBlocks]; exact aN zd_NoBlocks zy_NoBlocks zs_NoPicture_NoBlocks zs_NoPicture_NoPicture
      · rw [q_Unlike,q_NoBlocks]; exact aN zd_NoBlocks zy_NoBlocks zs_Unlike_NoBlocks zs_Unlike_Unlike
      · rw [q_NoChange,q_NoBlocks]; exact aN zd_NoBlocks zy_NoBlocks zs_NoChange_NoBlocks zs_NoChange_NoChange) (fun j hj=>by
      simp only [esL,List.mem_cons,List.not_mem_nil,or_false] at hj
      rcases hj with rfl | rfl | rfl
      · exact xk_NoPicture
      · exact xk_Unlike
      · exact xk_NoChange)),
    (et (fun j hj=>by
      simp only [esL,List.mem_cons,List.not_mem_nil,or_false] at hj
      rcases hj with rfl | rfl | rfl
      · rw [q_NoPicture,q_NoChange]; exact aN zd_NoChange zy_NoChange zs_NoPicture_NoChange zs_NoPicture_NoPicture
      · rw [q_Unlike,q_NoChange]; exact aN zd_NoChange zy_NoChange zs_Unlike_NoChange zs_Unlike_Unlike
      · rw [q_NoChange]; exact aN zd_NoChange zy_NoChange zs_NoChange_NoChange zs_NoChange_NoChange) (fun j hj=>by
      simp only [esL,List.mem_cons,List.not_mem_nil,or_false] at hj
      rcases hj with rfl | rfl | rfl
      · exact xk_NoPicture
      · exact xk_Unlike
      · exact xk_NoChange)),
    (et (fun j hj=>by
      simp only [esL,List.mem_cons,List.not_mem_nil,or_false] at hj
      rcases hj with rfl | rfl | rfl
      · rw [q_NoPicture,q_NoNumber]; exact aN zd_NoNumber zy_NoNumber zs_NoPicture_NoNumber zs_NoPicture_NoPicture
      · rw [q_Unlike,q_NoNumber]; exact aN zd_NoNumber zy_NoNumber zs_Unlike_NoNumber zs_Unlike_Unlike
      · rw [q_NoChange,q_NoNumber]; exact aN zd_NoNumber zy_NoNumber zs_NoChange_NoNumber zs_NoChange_NoChange) (fun j hj=>by
      simp only [esL,List.mem_cons,List.not_mem_nil,or_false] at hj
      rcases hj with rfl | rfl | rfl
      · exact xk_NoPicture
      · exact xk_Unlike
      · exact xk_NoChange)),
    (et (fun j hj=>by
      simp only [esL,List.mem_cons,List.not_mem_nil,or_false] at hj
      rcases hj with rfl | rfl | rfl
      · rw [q_NoPicture]; exact aN zd_NoPicture zy_NoPicture zs_NoPicture_NoPicture zs_NoPicture_NoPicture
      · rw [q_Unlike,q_NoPicture]; exact aN zd_NoPicture zy_NoPicture zs_Unlike_NoPicture zs_Unlike_Unlike
      · rw [q_NoChange,q_NoPicture]; exact aN zd_NoPicture zy_NoPicture zs_NoChange_NoPicture zs_NoChange_NoChange) (fun j hj=>by
      simp only [esL,List.mem_cons,List.not_mem_nil,or_false] at hj
      rcases hj with rfl | rfl | rfl
      · exact xk_NoPicture
      · exact xk_Unlike
      · exact xk_NoChange)),
    (et (fun j hj=>by
      simp only [esL,List.mem_cons,List.not_mem_nil,or_false] at hj
      rcases hj with rfl | rfl | rfl
      · rw [q_NoPicture,q_NoRule]; exact aN zd_NoRule zy_NoRule zs_NoPicture_NoRule zs_NoPicture_NoPicture
      · rw [q_Unlike,q_NoRule]; exact aN zd_NoRule zy_NoRule zs_Unlike_NoRule zs_Unlike_Unlike
      · rw [q_NoChange,q_NoRule]; exact aN zd_NoRule zy_NoRule zs_NoChange_NoRule zs_NoChange_NoChange) (fun j hj=>by
      simp only [esL,List.mem_cons,List.not_mem_nil,or_false] at hj
      rcases hj with rfl | rfl | rfl
      · exact xk_NoPicture
      · exact xk_Unlike
      · exact xk_NoChange)),
    (et (fun j hj=>by
      simp only [esL,List.mem_cons,List.not_mem_nil,or_false] at hj
      rcases hj with rfl | rfl | rfl
      · rw [q_NoPicture,q_NoSpot]; exact aN zd_NoSpot zy_NoSpot zs_NoPicture_NoSpot zs_NoPicture_NoPicture
      · rw [q_Unlike,q_NoSpot]; exact aN zd_NoSpot zy_NoSpot zs_Unlike_NoSpot zs_Unlike_Unlike
      · rw [q_NoChange,q_NoSpot]; exact aN zd_NoSpot zy_NoSpot zs_NoChange_NoSpot zs_NoChange_NoChange) (fun j hj=>by
      simp only [esL,List.mem_cons,List.not_mem_nil,or_false] at hj
      rcases hj with rfl | rfl | rfl
      · exact xk_NoPicture
      · exact xk_Unlike
      · exact xk_NoChange)),
    (et (fun j hj=>by
      simp only [esL,List.mem_cons,List.not_mem_nil,or_false] at hj
      rcases hj with rfl | rfl | rfl
      · rw [q_NoPicture,q_NoText]; exact aN zd_NoText zy_NoText zs_NoPicture_NoText zs_NoPicture_NoPicture
      · rw [q_Unlike,q_NoText]; exact aN zd_NoText zy_NoText zs_Unlike_NoText zs_Unlike_Unlike
      · rw [q_NoChange,q_NoText]; exact aN zd_NoText zy_NoText zs_NoChange_NoText zs_NoChange_NoChange) (fun j hj=>by
      simp only [esL,List.mem_cons,List.not_mem_nil,or_false] at hj
      rcases hj with rfl | rfl | rfl
      · exact xk_NoPicture
      · exact xk_Unlike
      · exact xk_NoChange)),
    (et (fun j hj=>by
      simp only [esL,List.mem_cons,List.not_mem_nil,or_false] at hj
      rcases hj with rfl | rfl | rfl
      · rw [q_NoPicture,q_NothingDone]; exact aN zd_NothingDone zy_NothingDone zs_NoPicture_NothingDone zs_NoPicture_NoPicture
      · rw [q_Unlike,q_NothingDone]; exact aN zd_NothingDone zy_NothingDone zs_Unlike_NothingDone zs_Unlike_Unlike
      · rw [q_NoChange,q_NothingDone]; exact aN zd_NothingDone zy_NothingDone zs_NoChange_NothingDone zs_NoChange_NoChange) (fun j hj=>by
      simp only [esL,List.mem_cons,List.not_mem_nil,or_false] at hj
      rcases hj with rfl | rfl | rfl
      · exact xk_NoPicture
      · exact xk_Unlike
      · exact xk_NoChange)),
    (et (fun j hj=>by
      simp only [esL,List.mem_cons,List.not_mem_nil,or_false] at hj
      rcases hj with rfl | rfl | rfl
      · rw [q_NoPicture,q_Unlike]; exact aN zd_Unlike zy_Unlike zs_NoPicture_Unlike zs_NoPicture_NoPicture
      · rw [q_Unlike]; exact aN zd_Unlike zy_Unlike zs_Unlike_Unlike zs_Unlike_Unlike
      · rw [q_NoChange,q_Unlike]; exact aN zd_Unlike zy_Unlike zs_NoChange_Unlike zs_NoChange_NoChange) (fun j hj=>by
      simp only [esL,List.mem_cons,List.not_mem_nil,or_false] at hj
      rcases hj with rfl | rfl | rfl
      · exact xk_NoPicture
      · exact xk_Unlike
      · exact xk_NoChange)),
    (vp (fun j hj=>by
      simp only [esL,List.mem_cons,List.not_mem_nil,or_false] at hj
      rcases hj with rfl | rfl | rfl
      · rw [q_NoPicture]; exact oj zv_NoPicture
      · rw [q_Unlike]; exact oj zv_Unlike
      · rw [q_NoChange]; exact oj zv_NoChange) (fun j hj=>by
      simp only [esL,List.mem_cons,List.not_mem_nil,or_false] at hj
      rcases hj with rfl | rfl | rfl
      · exact xk_NoPicture
      · exact xk_Unlike
      · exact xk_NoChange)),
    (rz (by rw [q_FourError]; exact zx_FourError) (fun j hj=>by
      simp only [esL,List.mem_cons,List.not_mem_nil,or_false] at hj
      rcases hj with rfl | rfl | rfl
      · rw [q_NoPicture,q_FourError]; exact zs_NoPicture_FourError
      · rw [q_Unlike,q_FourError]; exact zs_Unlike_FourError
      · rw [q_NoChange,q_FourError]; exact zs_NoChange_FourError))⟩
  have FL:=na (st:=a9) l43 c43 k43
  exact ⟨PySem.W.fnOf "law" "law" (defArgs a9) (defBody a9) (defScope a9) .none kV43 dc43 pm43 an43 cd43 ct43,fun s v=>.of_eq rfl,fun base _ _=>jM FL T (tab T S 39)⟩
theorem walk {l:PySem.W.OpenLaw} {q:Program} {loose:List Str} {XP:(Str→Option Value)→Heap→Prop} {YP:World→Heap→Prop} {d:DefRec} {K:Params→PySem.W.Frag} (hn:l.most=some 63) (hdf:d.params.defaults=[])
    (hY:∀ (w:World) (h:Heap),YP w h→(K w.params).In h)
    (F:∀ (w:World) (mg:Str→Option Value) (fa:Addr) (h:Heap),(K w.params).In h→h.Ns mainGlobals mg→mg d.name=some (.ref fa) →
      ∃ fd:FuncData,(∀ (s:Shared) (u:Value),BindsTo s fd ⟨[u],[]⟩ [("_law_script",u)])∧∀ base:Heap,(K w.params).In base→base.Ns mainGlobals mg→FnOk l.prog w (K w.params) mg base (CXE l.prog w) 40 fa fd ["_law_script"] (spF (K w.params) (Cof (K w.params)) 1 (pf 40 Lw.F.law_k70))) :
    PySem.W.WalkO q loose XP YP l.row.toRowW d [] (fun f vs=>PySem.call f vs) :=
  L2.sQ (n:=63) (k:=40) (x := "_law_script") (CX:=fun w=>CXE l.prog w) (sp:=fun w=>spF (K w.params) (Cof (K w.params)) 1 (pf 40 Lw.F.law_k70)) hn (by decide) hdf ⟨rfl,by decide,by decide⟩ hY F
    (fun w H a ns hl _ hS=>⟨rfl,H,[.lst (ns.map .int)],Same.refl H,by rw [Reps]; exact ⟨_,_,rfl,by rw [Rep]; exact ⟨a,_,rfl,hS,oX ns⟩,by rw [Reps]⟩,by rw [kl ns]; exact fun H' Z' _ v rv=>by rw [Rep] at rv; exact rv⟩)
    fun w H s e s' z=>by obtain ⟨_,_,_,_,_,_,_,_,_,_,_,_,_,z⟩:=z; exact z
end Lw
open PySem PySem.W PyProof.Rows
def PySem.W.Fast.tw15528438689146292881:Nat:=0
def PySem.W.Fast.tw8850870068157178700:Nat:=0
def PySem.W.Fast.tw10636402552370962873:Nat:=0
def PySem.W.Fast.tw4677413354167862982:Nat:=0
def PySem.W.Fast.tw4854357663977391078:Nat:=0
def PySem.W.Fast.tw11556008789651442018:Nat:=0
def PySem.W.Fast.tw3860890255339187862:Nat:=0
def PySem.W.Fast.tw5039383112856766638:Nat:=0
def PySem.W.Fast.tw832007986142415302:Nat:=0
def PySem.W.Fast.tw18116933838573431948:Nat:=0
def PySem.W.Fast.tw10620905479670391729:Nat:=0
def PySem.W.Fast.tw15188763248488015946:Nat:=0
def PySem.W.Fast.tw13525890059251150672:Nat:=0
def PySem.W.Fast.tw11436642981300352913:Nat:=0
def PySem.W.Fast.tw14515816112855515790:Nat:=0
def PySem.W.Fast.tw1992030264191447981:Nat:=0
def PySem.W.Fast.tw9475907269958963253:Nat:=0
def PySem.W.Fast.tw12654058289975286393:Nat:=0
def PySem.W.Fast.tw3082506750769827964:Nat:=0
def PySem.W.Fast.tw13158677213139149619:Nat:=0
def PySem.W.Fast.tw17693402123002014701:Nat:=0
def PySem.W.Fast.tw16015476981867046462:Nat:=0
def PySem.W.Fast.tw1496571725091405333:Nat:=0
def PySem.W.Fast.tw8553852199987322694:Nat:=0
def PySem.W.Fast.tw12728898714663665676:Nat:=0
def PySem.W.Fast.tw13790544578372397538:Nat:=0
def PySem.W.Fast.tw8401191976424883030:Nat:=0
def PySem.W.Fast.tw10427804415759827087:Nat:=0
def PySem.W.Fast.tw10320268885408237187:Nat:=0
def PySem.W.Fast.tw1457298631213720180:Nat:=0
def PySem.W.Fast.tw10561559667984017662:Nat:=0
def PySem.W.Fast.tw12304971919670049508:Nat:=0
def PySem.W.Fast.tw7454835498004137312:Nat:=0
def PySem.W.Fast.tw5850646970764972818:Nat:=0
def PySem.W.Fast.tw9586446541487217126:Nat:=0
def PySem.W.Fast.tw2743047805468854187:Nat:=0
def PySem.W.Fast.tw14410032216946103676:Nat:=0
def PySem.W.Fast.tw9081416020665508844:Nat:=0
def PySem.W.Fast.tw3367522751042323003:Nat:=0
def PySem.W.Fast.tw17132928994268318819:Nat:=0
def PySem.W.Fast.tw15613599264124609600:Nat:=0
def PySem.W.Fast.tw17931198927350633046:Nat:=0
def PySem.W.Fast.tw16632977929475214896:Nat:=0
def PySem.W.Fast.tw769550973844716672:Nat:=0
def PySem.W.Fast.tw15674239765629825311:Nat:=0
def PySem.W.Fast.tw5526784165695214444:Nat:=0
def PySem.W.Fast.tw10454718793148901463:Nat:=0
def PySem.W.Fast.tw16130542778544513059:Nat:=0
def PySem.W.Fast.tw3113350143540490268:Nat:=0
def PySem.W.Fast.tw5515604426735866490:Nat:=0
def PySem.W.Fast.tw17079294856809108711:Nat:=0
def PySem.W.Fast.tw4582273173335994561:Nat:=0
def PySem.W.Fast.tw1570157033986253421:Nat:=0
def PySem.W.Fast.tw75941117915506695:Nat:=0
set_option maxRecDepth 100000 in
set_option maxHeartbeats 0 in
theorem PySem.Challenge.cw_fourfold_k70_whole_changes_holds : PySem.Challenge.rw_fourfold_k70_whole_changes.Holds := by
  w_on; o_law; k_head; (case hw=>w_witness2)
  k_fill
  refine Lw.walk (l:=PySem.Challenge.rw_fourfold_k70_whole_changes) rfl rfl (fun w h Y=>PySem.W.kIn_of Y) ?F
  case F =>
    intro w mg fa h KX G hmg
    refine' Lw.ap (x := "is_whole") (ps:=["thing"]) (st:=Lw.c9) KX G ?a ?l ?c ?k (fun _ _ _ _ _ _ us hl=>match us,hl with | [_],_=>rfl) ?_
    (case a=>k_is); (case l=>k_is); (case c=>k_is); (case k=>k_is)
    intro F_is_whole
    refine' Lw.ap (x := "is_worth") (ps:=["thing"]) (st:=Lw.de) KX G ?a ?l ?c ?k (fun _ _ _ _ _ _ us hl=>match us,hl with | [_],_=>rfl) ?_
    (case a=>k_is); (case l=>k_is); (case c=>k_is); (case k=>k_is)
    intro F_is_worth
    refine' Lw.ap (x := "is_size") (ps:=["thing"]) (st:=Lw.dF) KX G ?a ?l ?c ?k (fun _ _ _ _ _ _ us hl=>match us,hl with | [_],_=>rfl) ?_
    (case a=>k_is); (case l=>k_is); (case c=>k_is); (case k=>k_is)
    intro F_is_size
    refine' Lw.ap (x := "is_tree") (ps:=["size", "thing", "is_end"]) (st:=Lw.dG) KX G ?a ?l ?c ?k (fun _ _ _ _ _ _ us hl=>match us,hl with | [_,_,_],_=>rfl) ?_
    (case a=>k_is); (case l=>k_is); (case c=>k_is); (case k=>k_is)
    intro F_is_tree
    refine' Lw.ap (x := "is_sized_tree") (ps:=["thing", "is_end"]) (st:=Lw.bd) KX G ?a ?l ?c ?k (fun _ _ _ _ _ _ us hl=>match us,hl with | [_,_],_=>rfl) ?_
    (case a=>k_is); (case l=>k_is); (case c=>k_is); (case k=>k_is)
    intro F_is_sized_tree
    refine' Lw.ap (x := "put_together") (ps:=["four"]) (st:=Lw.bC) KX G ?a ?l ?c ?k (fun _ _ _ _ _ _ us hl=>match us,hl with | [_],_=>rfl) ?_
    (case a=>k_is); (case l=>k_is); (case c=>k_is); (case k=>k_is)
    intro F_put_together
    refine' Lw.ap (x := "lean_tree") (ps:=["tree"]) (st:=Lw.cE) KX G ?a ?l ?c ?k (fun _ _ _ _ _ _ us hl=>match us,hl with | [_],_=>rfl) ?_
    (case a=>k_is); (case l=>k_is); (case c=>k_is); (case k=>k_is)
    intro F_lean_tree
    refine' Lw.ap (x := "quarters_in") (ps:=["tree"]) (st:=Lw.bR) KX G ?a ?l ?c ?k (fun _ _ _ _ _ _ us hl=>match us,hl with | [_],_=>rfl) ?_
    (case a=>k_is); (case l=>k_is); (case c=>k_is); (case k=>k_is)
    intro F_quarters_in
    refine' Lw.ap (x := "is_picture") (ps:=["thing"]) (st:=Lw.ck) KX G ?a ?l ?c ?k (fun _ _ _ _ _ _ us hl=>match us,hl with | [_],_=>rfl) ?_
    (case a=>k_is); (case l=>k_is); (case c=>k_is); (case k=>k_is)
    intro F_is_picture
    refine' Lw.ap (x := "check_picture") (ps:=["thing"]) (st:=Lw.bf) KX G ?a ?l ?c ?k (fun _ _ _ _ _ _ us hl=>match us,hl with | [_],_=>rfl) ?_
    (case a=>k_is); (case l=>k_is); (case c=>k_is); (case k=>k_is)
    intro F_check_picture
    refine' Lw.ap (x := "check_sizes") (ps:=["things"]) (st:=Lw.bS) KX G ?a ?l ?c ?k (fun _ _ _ _ _ _ us hl=>match us,hl with | [_],_=>rfl) ?_
    (case a=>k_is); (case l=>k_is); (case c=>k_is); (case k=>k_is)
    intro F_check_sizes
    refine' Lw.ap (x := "check_pictures") (ps:=["pictures"]) (st:=Lw.aY) KX G ?a ?l ?c ?k (fun _ _ _ _ _ _ us hl=>match us,hl with | [_],_=>rfl) ?_
    (case a=>k_is); (case l=>k_is); (case c=>k_is); (case k=>k_is)
    intro F_check_pictures
    refine' Lw.ap (x := "joined_tree") (ps:=["make", "one", "other"]) (st:=Lw.bT) KX G ?a ?l ?c ?k (fun _ _ _ _ _ _ us hl=>match us,hl with | [_,_,_],_=>rfl) ?_
    (case a=>k_is); (case l=>k_is); (case c=>k_is); (case k=>k_is)
    intro F_joined_tree
    refine' Lw.ap (x := "is_setting") (ps:=["thing"]) (st:=Lw.cm) KX G ?a ?l ?c ?k (fun _ _ _ _ _ _ us hl=>match us,hl with | [_],_=>rfl) ?_
    (case a=>k_is); (case l=>k_is); (case c=>k_is); (case k=>k_is)
    intro F_is_setting
    refine' Lw.ap (x := "is_change") (ps:=["thing"]) (st:=Lw.cF) KX G ?a ?l ?c ?k (fun _ _ _ _ _ _ us hl=>match us,hl with | [_],_=>rfl) ?_
    (case a=>k_is); (case l=>k_is); (case c=>k_is); (case k=>k_is)
    intro F_is_change
    refine' Lw.ap (x := "check_change") (ps:=["thing"]) (st:=Lw.bD) KX G ?a ?l ?c ?k (fun _ _ _ _ _ _ us hl=>match us,hl with | [_],_=>rfl) ?_
    (case a=>k_is); (case l=>k_is); (case c=>k_is); (case k=>k_is)
    intro F_check_change
    refine' Lw.ap (x := "lean_change") (ps:=["change"]) (st:=Lw.bU) KX G ?a ?l ?c ?k (fun _ _ _ _ _ _ us hl=>match us,hl with | [_],_=>rfl) ?_
    (case a=>k_is); (case l=>k_is); (case c=>k_is); (case k=>k_is)
    intro F_lean_change
    refine' Lw.ap (x := "set_over") (ps:=["one", "other"]) (st:=Lw.df) KX G ?a ?l ?c ?k (fun _ _ _ _ _ _ us hl=>match us,hl with | [_,_],_=>rfl) ?_
    (case a=>k_is); (case l=>k_is); (case c=>k_is); (case k=>k_is)
    intro F_set_over
    refine' Lw.ap (x := "changed") (ps:=["picture", "change"]) (st:=Lw.dH) KX G ?a ?l ?c ?k (fun _ _ _ _ _ _ us hl=>match us,hl with | [_,_],_=>rfl) ?_
    (case a=>k_is); (case l=>k_is); (case c=>k_is); (case k=>k_is)
    intro F_changed
    refine' Lw.ap (x := "tree_between") (ps:=["one", "other"]) (st:=Lw.bE) KX G ?a ?l ?c ?k (fun _ _ _ _ _ _ us hl=>match us,hl with | [_,_],_=>rfl) ?_
    (case a=>k_is); (case l=>k_is); (case c=>k_is); (case k=>k_is)
    intro F_tree_between
    refine' Lw.ap (x := "between") (ps:=["one", "other"]) (st:=Lw.dJ) KX G ?a ?l ?c ?k (fun _ _ _ _ _ _ us hl=>match us,hl with | [_,_],_=>rfl) ?_
    (case a=>k_is); (case l=>k_is); (case c=>k_is); (case k=>k_is)
    intro F_between
    refine' Lw.ap (x := "_law_cell") (ps:=["_law_script", "_law_k"]) (st:=Lw.eN) KX G ?a ?l ?c ?k (fun _ _ _ _ _ _ us hl=>match us,hl with | [_,_],_=>rfl) ?_
    (case a=>k_is); (case l=>k_is); (case c=>k_is); (case k=>k_is)
    intro F_L_cell
    refine' Lw.ap (x := "_law_pick") (ps:=["_law_script", "_law_k", "_law_many"]) (st:=Lw.eO) KX G ?a ?l ?c ?k (fun _ _ _ _ _ _ us hl=>match us,hl with | [_,_,_],_=>rfl) ?_
    (case a=>k_is); (case l=>k_is); (case c=>k_is); (case k=>k_is)
    intro F_L_pick
    refine' Lw.ap (x := "_law_tree") (ps:=["_law_script", "_law_at", "_law_size"]) (st:=Lw.eQ) KX G ?a ?l ?c ?k (fun _ _ _ _ _ _ us hl=>match us,hl with | [_,_,_],_=>rfl) ?_
    (case a=>k_is); (case l=>k_is); (case c=>k_is); (case k=>k_is)
    intro F_L_tree
    refine' Lw.ap (x := "_law_picture") (ps:=["_law_script", "_law_at", "_law_most"]) (st:=Lw.cG) KX G ?a ?l ?c ?k (fun _ _ _ _ _ _ us hl=>match us,hl with | [_,_,_],_=>rfl) ?_
    (case a=>k_is); (case l=>k_is); (case c=>k_is); (case k=>k_is)
    intro F_L_picture
    refine' Lw.ap (x := "_law_rows_of") (ps:=["_law_size", "_law_tree_here"]) (st:=Lw.cH) KX G ?a ?l ?c ?k (fun _ _ _ _ _ _ us hl=>match us,hl with | [_,_],_=>rfl) ?_
    (case a=>k_is); (case l=>k_is); (case c=>k_is); (case k=>k_is)
    intro F_L_rows_of
    refine' Lw.ap (x := "_law_rows") (ps:=["_law_picture_here"]) (st:=Lw.eR) KX G ?a ?l ?c ?k (fun _ _ _ _ _ _ us hl=>match us,hl with | [_],_=>rfl) ?_
    (case a=>k_is); (case l=>k_is); (case c=>k_is); (case k=>k_is)
    intro F_L_rows
    refine' Lw.ap (x := "_law_least") (ps:=["_law_rows_here"]) (st:=Lw.dL) KX G ?a ?l ?c ?k (fun _ _ _ _ _ _ us hl=>match us,hl with | [_],_=>rfl) ?_
    (case a=>k_is); (case l=>k_is); (case c=>k_is); (case k=>k_is)
    intro F_L_least
    refine' Lw.ap (x := "_law_of") (ps:=["_law_rows_here"]) (st:=Lw.ir) KX G ?a ?l ?c ?k (fun _ _ _ _ _ _ us hl=>match us,hl with | [_],_=>rfl) ?_
    (case a=>k_is); (case l=>k_is); (case c=>k_is); (case k=>k_is)
    intro F_L_of
    refine' Lw.ap (x := "_law_places") (ps:=["_law_thing"]) (st:=Lw.dg) KX G ?a ?l ?c ?k (fun _ _ _ _ _ _ us hl=>match us,hl with | [_],_=>rfl) ?_
    (case a=>k_is); (case l=>k_is); (case c=>k_is); (case k=>k_is)
    intro F_L_places
    refine' Lw.ap (x := "_law_put") (ps:=["_law_thing", "_law_place", "_law_new"]) (st:=Lw.fQ) KX G ?a ?l ?c ?k (fun _ _ _ _ _ _ us hl=>match us,hl with | [_,_,_],_=>rfl) ?_
    (case a=>k_is); (case l=>k_is); (case c=>k_is); (case k=>k_is)
    intro F_L_put
    refine' Lw.ap (x := "_law_there") (ps:=["_law_thing", "_law_place"]) (st:=Lw.dM) KX G ?a ?l ?c ?k (fun _ _ _ _ _ _ us hl=>match us,hl with | [_,_],_=>rfl) ?_
    (case a=>k_is); (case l=>k_is); (case c=>k_is); (case k=>k_is)
    intro F_L_there
    refine' Lw.ap (x := "_law_spoilt_thing") (ps:=["_law_script", "_law_at", "_law_thing"]) (st:=Lw.aZ) KX G ?a ?l ?c ?k (fun _ _ _ _ _ _ us hl=>match us,hl with | [_,_,_],_=>rfl) ?_
    (case a=>k_is); (case l=>k_is); (case c=>k_is); (case k=>k_is)
    intro F_L_spoilt_thing
    refine' Lw.ap (x := "_law_is_picture") (ps:=["_law_thing"]) (st:=Lw.bF) KX G ?a ?l ?c ?k (fun _ _ _ _ _ _ us hl=>match us,hl with | [_],_=>rfl) ?_
    (case a=>k_is); (case l=>k_is); (case c=>k_is); (case k=>k_is)
    intro F_L_is_picture
    refine' Lw.ap (x := "_law_is_tree") (ps:=["_law_thing", "_law_size"]) (st:=Lw.cI) KX G ?a ?l ?c ?k (fun _ _ _ _ _ _ us hl=>match us,hl with | [_,_],_=>rfl) ?_
    (case a=>k_is); (case l=>k_is); (case c=>k_is); (case k=>k_is)
    intro F_L_is_tree
    refine' Lw.ap (x := "_law_is_change") (ps:=["_law_thing"]) (st:=Lw.bV) KX G ?a ?l ?c ?k (fun _ _ _ _ _ _ us hl=>match us,hl with | [_],_=>rfl) ?_
    (case a=>k_is); (case l=>k_is); (case c=>k_is); (case k=>k_is)
    intro F_L_is_change
    refine' Lw.ap (x := "_law_is_change_tree") (ps:=["_law_thing", "_law_size"]) (st:=Lw.aR) KX G ?a ?l ?c ?k (fun _ _ _ _ _ _ us hl=>match us,hl with | [_,_],_=>rfl) ?_
    (case a=>k_is); (case l=>k_is); (case c=>k_is); (case k=>k_is)
    intro F_L_is_change_tree
    refine' Lw.ap (x := "_law_change_tree") (ps:=["_law_script", "_law_at", "_law_size"]) (st:=Lw.bg) KX G ?a ?l ?c ?k (fun _ _ _ _ _ _ us hl=>match us,hl with | [_,_,_],_=>rfl) ?_
    (case a=>k_is); (case l=>k_is); (case c=>k_is); (case k=>k_is)
    intro F_L_change_tree
    refine' Lw.ap (x := "_law_set") (ps:=["_law_size", "_law_tree_here"]) (st:=Lw.fR) KX G ?a ?l ?c ?k (fun _ _ _ _ _ _ us hl=>match us,hl with | [_,_],_=>rfl) ?_
    (case a=>k_is); (case l=>k_is); (case c=>k_is); (case k=>k_is)
    intro F_L_set
    refine' Lw.ap (x := "_law_least_set") (ps:=["_law_rows_here"]) (st:=Lw.bW) KX G ?a ?l ?c ?k (fun _ _ _ _ _ _ us hl=>match us,hl with | [_],_=>rfl) ?_
    (case a=>k_is); (case l=>k_is); (case c=>k_is); (case k=>k_is)
    intro F_L_least_set
    refine' Lw.ap (x := "_law_word") (ps:=["_law_kept"]) (st:=Lw.eU) KX G ?a ?l ?c ?k (fun _ _ _ _ _ _ us hl=>match us,hl with | [_],_=>rfl) ?_
    (case a=>k_is); (case l=>k_is); (case c=>k_is); (case k=>k_is)
    intro F_L_word
    refine' Lw.ap (x := "_law_do") (ps:=["_law_what", "_law_one", "_law_other"]) (st:=Lw.eV) KX G ?a ?l ?c ?k (fun _ _ _ _ _ _ us hl=>match us,hl with | [_,_,_],_=>rfl) ?_
    (case a=>k_is); (case l=>k_is); (case c=>k_is); (case k=>k_is)
    intro F_L_do_8
    refine' Lw.ap (x := "_law_between") (ps:=["_law_one", "_law_other"]) (st:=Lw.cJ) KX G ?a ?l ?c ?k (fun _ _ _ _ _ _ us hl=>match us,hl with | [_,_],_=>rfl) ?_
    (case a=>k_is); (case l=>k_is); (case c=>k_is); (case k=>k_is)
    intro F_L_between
    refine' Lw.ap (x := "law") (ps:=["_law_script"]) (st:=Lw.a9) KX G ?a ?l ?c ?k (fun _ _ _ _ _ _ us hl=>match us,hl with | [_],_=>rfl) ?_
    (case a=>k_is); (case l=>k_is); (case c=>k_is); (case k=>k_is)
    intro F_law_k70
    refine' Lw.vL KX G hmg ⟨F_is_whole,F_is_worth,F_is_size,F_is_tree,F_is_sized_tree,F_put_together,F_lean_tree,F_quarters_in,F_is_picture,F_check_picture,F_check_sizes,F_check_pictures,F_joined_tree,F_is_setting,F_is_change,F_check_change,F_lean_change,F_set_over,F_changed,F_tree_between,F_between,F_L_cell,F_L_pick,F_L_tree,F_L_picture,F_L_rows_of,F_L_rows,F_L_least,F_L_of,F_L_places,F_L_put,F_L_there,F_L_spoilt_thing,F_L_is_picture,F_L_is_tree,F_L_is_change,F_L_is_change_tree,F_L_change_tree,F_L_set,F_L_least_set,F_L_word,F_L_do_8,F_L_between,F_law_k70⟩ ?a1 ?a13 ?a17 ?a43 ?l43 ?c43 ?k43 ?zb_ValueError ?zb_all ?zb_bool ?zb_int ?zb_isinstance ?zb_len ?zb_list ?zb_max ?zb_range ?zb_set ?zb_tuple ?zb_zip ?zk_GREATEST_WORTH ?zk_LARGEST_SIZE ?zc_FourError ?zc_NoPicture ?zc_NoSpot ?zc_BadBox ?zc_Unlike ?zc_NoRule ?zc_NoBlocks ?zc_NoChange ?zc_NoNumber ?zc_NothingDone ?zc_NoText ?zx_NoPicture ?zx_Unlike ?zx_NoChange ?zx_FourError ?zd_NoPicture ?zy_NoPicture ?zd_NoSpot ?zy_NoSpot ?zd_BadBox ?zy_BadBox ?zd_Unlike ?zy_Unlike ?zd_NoRule ?zy_NoRule ?zd_NoBlocks ?zy_NoBlocks ?zd_NoChange ?zy_NoChange ?zd_NoNumber ?zy_NoNumber ?zd_NothingDone ?zy_NothingDone ?zd_NoText ?zy_NoText ?zs_NoPicture_NoPicture ?zs_NoPicture_NoSpot ?zs_NoPicture_BadBox ?zs_NoPicture_Unlike ?zs_NoPicture_NoRule ?zs_NoPicture_NoBlocks ?zs_NoPicture_NoChange ?zs_NoPicture_NoNumber ?zs_NoPicture_NothingDone ?zs_NoPicture_NoText ?zs_NoPicture_FourError ?zv_NoPicture ?e1_NoPicture ?e2_NoPicture ?e3_NoPicture ?e4_NoPicture ?e5_NoPicture ?zs_Unlike_NoPicture ?zs_Unlike_NoSpot ?zs_Unlike_BadBox ?zs_Unlike_Unlike ?zs_Unlike_NoRule ?zs_Unlike_NoBlocks ?zs_Unlike_NoChange ?zs_Unlike_NoNumber ?zs_Unlike_NothingDone ?zs_Unlike_NoText ?zs_Unlike_FourError ?zv_Unlike ?e1_Unlike ?e2_Unlike ?e3_Unlike ?e4_Unlike ?e5_Unlike ?zs_NoChange_NoPicture ?zs_NoChange_NoSpot ?zs_NoChange_BadBox ?zs_NoChange_Unlike ?zs_NoChange_NoRule ?zs_NoChange_NoBlocks ?zs_NoChange_NoChange ?zs_NoChange_NoNumber ?zs_NoChange_NothingDone ?zs_NoChange_NoText ?zs_NoChange_FourError ?zv_NoChange ?e1_NoChange ?e2_NoChange ?e3_NoChange ?e4_NoChange ?e5_NoChange
    (case a1=>k_is)
    (case a13=>k_is)
    (case a17=>k_is)
    (case a43=>k_is)
    (case l43=>k_is)
    (case c43=>k_is)
    (case k43=>k_is)
    (case zb_ValueError=>k_is)
    (case zb_all=>k_is)
    (case zb_bool=>k_is)
    (case zb_int=>k_is)
    (case zb_isinstance=>k_is)
    (case zb_len=>k_is)
    (case zb_list=>k_is)
    (case zb_max=>k_is)
    (case zb_range=>k_is)
    (case zb_set=>k_is)
    (case zb_tuple=>k_is)
    (case zb_zip=>k_is)
    (case zk_GREATEST_WORTH=>k_is)
    (case zk_LARGEST_SIZE=>k_is)
    (case zc_FourError=>k_is)
    (case zc_NoPicture=>k_is)
    (case zc_NoSpot=>k_is)
    (case zc_BadBox=>k_is)
    (case zc_Unlike=>k_is)
    (case zc_NoRule=>k_is)
    (case zc_NoBlocks=>k_is)
    (case zc_NoChange=>k_is)
    (case zc_NoNumber=>k_is)
    (case zc_NothingDone=>k_is)
    (case zc_NoText=>k_is)
    (case zx_NoPicture=>k_exc)
    (case zx_Unlike=>k_exc)
    (case zx_NoChange=>k_exc)
    (case zx_FourError=>k_exc)
    (case zd_NoPicture=>k_is)
    (case zy_NoPicture=>k_is)
    (case zd_NoSpot=>k_is)
    (case zy_NoSpot=>k_is)
    (case zd_BadBox=>k_is)
    (case zy_BadBox=>k_is)
    (case zd_Unlike=>k_is)
    (case zy_Unlike=>k_is)
    (case zd_NoRule=>k_is)
    (case zy_NoRule=>k_is)
    (case zd_NoBlocks=>k_is)
    (case zy_NoBlocks=>k_is)
    (case zd_NoChange=>k_is)
    (case zy_NoChange=>k_is)
    (case zd_NoNumber=>k_is)
    (case zy_NoNumber=>k_is)
    (case zd_NothingDone=>k_is)
    (case zy_NothingDone=>k_is)
    (case zd_NoText=>k_is)
    (case zy_NoText=>k_is)
    (case zs_NoPicture_NoPicture=>k_is)
    (case zs_NoPicture_NoSpot=>k_is)
    (case zs_NoPicture_BadBox=>k_is)
    (case zs_NoPicture_Unlike=>k_is)
    (case zs_NoPicture_NoRule=>k_is)
    (case zs_NoPicture_NoBlocks=>k_is)
    (case zs_NoPicture_NoChange=>k_is)
    (case zs_NoPicture_NoNumber=>k_is)
    (case zs_NoPicture_NothingDone=>k_is)
    (case zs_NoPicture_NoText=>k_is)
    (case zs_NoPicture_FourError=>k_is)
    (case zv_NoPicture=>k_is)
    (case e1_NoPicture=>k_is)
    (case e2_NoPicture=>k_is)
    (case e3_NoPicture=>k_is)
    (case e4_NoPicture=>k_is)
    (case e5_NoPicture=>k_is)
    (case zs_Unlike_NoPicture=>k_is)
    (case zs_Unlike_NoSpot=>k_is)
    (case zs_Unlike_BadBox=>k_is)
    (case zs_Unlike_Unlike=>k_is)
    (case zs_Unlike_NoRule=>k_is)
    (case zs_Unlike_NoBlocks=>k_is)
    (case zs_Unlike_NoChange=>k_is)
    (case zs_Unlike_NoNumber=>k_is)
    (case zs_Unlike_NothingDone=>k_is)
    (case zs_Unlike_NoText=>k_is)
    (case zs_Unlike_FourError=>k_is)
    (case zv_Unlike=>k_is)
    (case e1_Unlike=>k_is)
    (case e2_Unlike=>k_is)
    (case e3_Unlike=>k_is)
    (case e4_Unlike=>k_is)
    (case e5_Unlike=>k_is)
    (case zs_NoChange_NoPicture=>k_is)
    (case zs_NoChange_NoSpot=>k_is)
    (case zs_NoChange_BadBox=>k_is)
    (case zs_NoChange_Unlike=>k_is)
    (case zs_NoChange_NoRule=>k_is)
    (case zs_NoChange_NoBlocks=>k_is)
    (case zs_NoChange_NoChange=>k_is)
    (case zs_NoChange_NoNumber=>k_is)
    (case zs_NoChange_NothingDone=>k_is)
    (case zs_NoChange_NoText=>k_is)
    (case zs_NoChange_FourError=>k_is)
    (case zv_NoChange=>k_is)
    (case e1_NoChange=>k_is)
    (case e2_NoChange=>k_is)
    (case e3_NoChange=>k_is)
    (case e4_NoChange=>k_is)
    (case e5_NoChange=>k_is)
end
