import PyProof.Rows.All
import Wide.All
import OpenK.AllK
import Wide.FinOn
import Lean
import PyProof.EqAt
import PyProof.EqKinds
import PyProof.TupleCall
import PyProof.AttrMiss
import PyProof.ConsumeWalk
import KE.KDictOf
import OpenK.KOwn
import PyProof.NsDelKeeps
import KE.KIsAll
import PyProof.Rows.SumAny
import PyProof.NeKinds
import PyProof.SeqI3
import KE.KRevIter
import KE.KSortTup
import PyProof.DictIter
import KE.KDictList
import PyProof.TupleOfGen
import PyProof.DictWalks
import OpenK.KCls
import KE.KItemsList
import PyProof.StrCalls
import PyProof.DictItems
import PyProof.DictUpdate
import KE.KDictLaws
import PyProof.ListMulRoad
import PyProof.FactsAll.tuple
import PyProof.MinMaxWalk
import PyProof.WalkInts
import PyProof.Rows.CallKwBuiltin
import KE.KMinKey
import KE.KListMore
import KE.KFind
import PyProof.TupleIter
import PyProof.ExcInit
import PyProof.InstStoreFacts
import KE.BitLaws
import PySem.Challenge.RW_bitfloor_k11_values
import KE.RegKIsAll
set_option Elab.async false
set_option linter.all false
set_option maxRecDepth 100000
namespace L2
open PySem PySem.Spec PyProof.Rows
abbrev Key:=Sum Int Str
def keyIs:Key→Value→Bool
 | .inl k,v=>Value.isInt k v
 | .inr x,v=>Value.isStrOf x v
def keyH (w:World):Key→Int
 | .inl k=>hashInt k
 | .inr x=>hashStr w x
theorem zabl:∀ {k:Key}{v:Value},keyIs k v=true→(∃ i t,k=Sum.inl i∧v=Value.int i t)∨(∃ x t,k=Sum.inr x∧v=Value.str x t)
 | .inl i,v,h=>by
  obtain ⟨t,e⟩:=Value.isInt_shape (k:=i) (v:=v) h
  exact .inl ⟨i,t,rfl,e⟩
 | .inr x,v,h=>by
  obtain ⟨t,e⟩:=Value.isStrOf_shape (x:=x) (v:=v) h
  exact .inr ⟨x,t,rfl,e⟩
theorem zajx (i:Int) (t:Tok):keyIs (.inl i) (.int i t)=true:=by simp [keyIs,Value.isInt]
theorem zaer (x:Str) (t:Tok):keyIs (.inr x) (.str x t)=true:=by simp [keyIs,Value.isStrOf]
theorem zapx (a b:Int):decide ((Sum.inl a:Key)=Sum.inl b)=(a == b):=by
 by_cases e:a=b
 ·subst e; simp
 ·have h:¬ (Sum.inl a:Key)=Sum.inl b:=fun q=>e (Sum.inl.inj q)
  rw [decide_eq_false h]
  exact (beq_eq_false_iff_ne.mpr e).symm
theorem zapy (a b:Str):decide ((Sum.inr a:Key)=Sum.inr b)=decide (a=b):=by
 by_cases e:a=b
 ·subst e; simp
 ·have h:¬ (Sum.inr a:Key)=Sum.inr b:=fun q=>e (Sum.inr.inj q)
  rw [decide_eq_false h,decide_eq_false e]
theorem zapz (a:Int) (b:Str):decide ((Sum.inl a:Key)=Sum.inr b)=false:=decide_eq_false (fun q=>nomatch q)
theorem zap0 (a:Str) (b:Int):decide ((Sum.inr a:Key)=Sum.inl b)=false:=decide_eq_false (fun q=>nomatch q)
def mixKind (prog:Program) (w:World):PySem.KeyKind prog w Key where
 is:=keyIs
 hash:=keyH w
 inj:=fun v a b ha hb=>by
  rcases zabl ha with ⟨i,t,rfl,rfl⟩ | ⟨x,t,rfl,rfl⟩
  ·rcases zabl hb with ⟨j,u,rfl,e⟩ | ⟨y,u,rfl,e⟩
   ·injection e with e1 _; rw [e1]
   ·exact nomatch e
  ·rcases zabl hb with ⟨j,u,rfl,e⟩ | ⟨y,u,rfl,e⟩
   ·exact nomatch e
   ·injection e with e1 _; rw [e1]
 byValue:=fun k v h=>by
  rcases zabl h with ⟨i,t,rfl,rfl⟩ | ⟨x,t,rfl,rfl⟩ <;> rfl
 pyHash:=fun hv h=>by
  rcases zabl hv with ⟨i,t,rfl,rfl⟩ | ⟨x,t,rfl,rfl⟩
  ·exact wpAny_pyHash_int h
  ·exact wpAny_pyHash_str h
 eqBool:=fun hu hv h=>by
  rcases zabl hu with ⟨i,t,rfl,rfl⟩ | ⟨x,t,rfl,rfl⟩
  ·rcases zabl hv with ⟨j,u,rfl,rfl⟩ | ⟨y,u,rfl,rfl⟩
   ·rw [zapx] at h; exact wpAny_eqBool_int h
   ·rw [zapz] at h; exact SeqAt.EqAt.int_str i t y u _ _ _ _ h
  ·rcases zabl hv with ⟨j,u,rfl,rfl⟩ | ⟨y,u,rfl,rfl⟩
   ·rw [zap0] at h; exact SeqAt.EqAt.str_int x t j u _ _ _ _ h
   ·rw [zapy] at h; exact wpAny_eqBool_str h
 «strs»:=fun k x t v h=>by
  rcases zabl h with ⟨i,u,rfl,e⟩ | ⟨y,u,rfl,e⟩
  ·exact nomatch e
  ·injection e with e1 _
   subst e1
   cases v <;> rfl
theorem zahr (prog:Program) (w:World) (i:Int) (t:Tok):(mixKind prog w).is (.inl i) (.int i t)=true:=zajx i t
theorem zahs (prog:Program) (w:World) (x:Str) (t:Tok):(mixKind prog w).is (.inr x) (.str x t)=true:=zaer x t
inductive V where
 | non | bl (b:Bool) | int (i:Int) | str (x:Str) | byt (b:Array UInt8) | flt (b:UInt64) | ref (a:Addr) | ty (n:String)
 deriving DecidableEq
def RelV:V→Value→Prop
 | .non,u=>u=Value.none
 | .bl b,u=>u=Value.bool b
 | .int i,u=>∃ t,u=Value.int i t
 | .str x,u=>∃ t,u=Value.str x t
 | .byt b,u=>∃ t,u=Value.bytes b t
 | .flt b,u=>∃ t,u=Value.float b t
 | .ref a,u=>u=Value.ref a
 | .ty n,u=>u=Value.type n
abbrev Vals:List V→List Value→Prop:=Paired RelV
theorem Vals.length {xs:List V}{us:List Value} (r:Vals xs us):xs.length=us.length:=Paired.length r
theorem Vals.get:∀ {xs:List V}{us:List Value}{i:Nat}{x:V},Vals xs us→xs[i]?=some x→∃ u,us[i]?=some u∧RelV x u
 | _,_,_,_,.nil,e=>by simp at e
 | _,_,0,_,.cons r _,e=>by simp at e; subst e; exact ⟨_,rfl,r⟩
 | _,_,i + 1,x,.cons _ t,e=>by
  obtain ⟨u,h1,h2⟩:=Vals.get (i:=i) (x:=x) t (by simpa using e)
  exact ⟨u,by simpa using h1,h2⟩
theorem Vals.set {x:V}{u:Value} (r:RelV x u):∀ {xs:List V}{us:List Value} (i:Nat),Vals xs us→Vals (xs.set i x) (us.set i u)
 | _,_,_,.nil=>.nil
 | _,_,0,.cons _ t=>.cons r t
 | _,_,i + 1,.cons q t=>.cons q (Vals.set r i t)
theorem Vals.append:∀ {xs ys:List V}{us ws:List Value},Vals xs us→Vals ys ws→Vals (xs++ys) (us++ws)
 | _,_,_,_,.nil,s=>s
 | _,_,_,_,.cons r t,s=>.cons r (Vals.append t s)
theorem Vals.take:∀ {xs:List V}{us:List Value} (n:Nat),Vals xs us→Vals (xs.take n) (us.take n)
 | _,_,0,_=>.nil
 | _,_,_ + 1,.nil=>.nil
 | _,_,n + 1,.cons r t=>.cons r (Vals.take n t)
theorem Vals.drop:∀ {xs:List V}{us:List Value} (n:Nat),Vals xs us→Vals (xs.drop n) (us.drop n)
 | _,_,0,r=>r
 | _,_,_ + 1,.nil=>.nil
 | _,_,n + 1,.cons _ t=>Vals.drop n t
def RelO:Option V→Option Value→Prop
 | some v,some u=>RelV v u
 | none,none=>True
 | _,_=>False
def KV {κ:Type}:List (κ × V)→List (κ × Value)→Prop:=Paired fun (p:κ × V) (q:κ × Value)=>p.1=q.1∧RelV p.2 q.2
def kV:Key→V
 | .inl i=>.int i
 | .inr x=>.str x
inductive HO where
 | lst (xs:List V)
 | tup (xs:List V)
 | dK (kvs:List (Key × V)) | dT (kvs:List (List Key × V))
 | set (S:Int→Bool) (n:Nat)
 | ins (C dx:Addr) (fs:List (Str × V))
 | own (x:Addr)
 | xd (fs:List (Str × V))
 | met (f x:Addr)
 | rng (lo hi:Int)
 | frz (o:Obj) (u:HO)
 | tbl (ps:Array Value)
 | ext (φ:Heap→Prop)
abbrev Hp:=Addr→Option HO
def upd (H:Hp) (a:Addr) (o:HO):Hp:=fun b=>if b=a then some o else H b
theorem zaag {H:Hp}{a:Addr}{o:HO}:upd H a o a=some o:=by unfold upd; rw [if_pos rfl]
theorem zaak {H:Hp}{a b:Addr}{o:HO} (h:b≠a):upd H a o b=H b:=by unfold upd; rw [if_neg h]
theorem zajy {H:Hp}{a:Addr}{o u:HO}:upd (upd H a o) a u=upd H a u:=by
 funext b; unfold upd; split <;> rfl
theorem zab9 {H:Hp}{a b:Addr}{o u:HO} (h:H a=some o) (h':H b=some u) (d:o≠u):a≠b:=by
 intro e; subst e; rw [h] at h'; exact d (Option.some.inj h')
theorem zaa8 {H:Hp}{a b:Addr}{o:HO} (h:H a=some o) (h':H b=none):a≠b:=by
 intro e; subst e; rw [h] at h'; cases h'
section
variable (P:Program) (w:World)
def ObjOk (H:Hp) (h:Heap) (a:Addr):HO→Prop
 | .lst xs=>xs.length≤sizeLine∧∃ (its:List Value) (n:Nat),Vals xs its∧h.get? a=some { cls:=.type "list",data:=.seq its.toArray n }
 | .tup xs=>xs.length≤sizeLine∧∃ its:List Value,Vals xs its∧IsTup h a its.toArray
 | .dK kvs=>kvs.length≤sizeLine∧(a == sysModules)=false∧∃ vs,KV kvs vs∧h.DictOf (mixKind P w) a vs
 | .dT kvs=>kvs.length≤sizeLine∧(a == sysModules)=false∧∃ xs:List (List Key × Addr × Value),
   Paired (fun (p:List Key × V) (q:List Key × Addr × Value)=>p.1=q.1∧H q.2.1=some (.tup (p.1.map kV))∧RelV p.2 q.2.2) kvs xs ∧
   ∃ o es ep,h.get? a=some o∧o.ExactDict∧o.data=.dict es ep∧es.toList=xs.map (entryOfKey (tupleKind (mixKind P w)))∧(xs.map (·.1)).Nodup
 | .set S n=>h.SetOf (intKind P w) a S n
 | .ins C dx fs=>H dx=some (.own a)∧fs.length≤1000∧dx≠a∧h.get? a=some (PySem.W.instObj C dx) ∧
   ∃ mA,h.Ns1 dx mA∧(∀ f,RelO (fs.lookup f) (mA f))∧PySem.Within mA (fs.map (·.1))
 | .own _=>∃ o,h.get? a=some o
 | .xd fs=>∃ mA,h.Ns1 a mA∧∀ f,RelO (fs.lookup f) (mA f)
 | .rng lo hi=>∃ t u v,h.get? a=some { cls:=.type "range",data:=.fields #[.int lo t,.int hi u,.int 1 v] }
 | .frz o u=>h.get? a=some o∧ObjOk H h a u
 | .tbl ps=>h.get? a=some { cls:=.none,data:=.fields ps }
 | .met f x=>h.get? a=some (PySem.W.methodObj (.ref f) (.ref x))
 | .ext φ=>φ h∧(∃ o,h.get? a=some o)∧∀ h1 h2:Heap,φ h1→(∀ o,h1.get? a=some o→h2.get? a=some o)→φ h2
def HOk (H:Hp) (h:Heap):Prop:=∀ a o,H a=some o→ObjOk P w H h a o
end
section
variable {P:Program}{w:World}{H H':Hp}{h h':Heap}{a:Addr}{o:HO}
theorem ObjOk.lt (x:ObjOk P w H h a o):a < h.objs.size:=by
 cases o with
 | lst xs=>obtain ⟨_,_,_,_,e⟩:=x; exact Heap.lt_size e
 | tup xs=>obtain ⟨_,_,_,p⟩:=x; exact p.lt
 | dK kvs=>obtain ⟨_,_,_,_,o,_,_,e,_⟩:=x; exact Heap.lt_size e
 | dT kvs=>obtain ⟨_,_,_,_,o,_,_,e,_⟩:=x; exact Heap.lt_size e
 | set S n=>obtain ⟨o,_,_,_,e,_⟩:=x; exact Heap.lt_size e
 | ins C dx fs=>obtain ⟨_,_,_,e,_⟩:=x; exact Heap.lt_size e
 | own y=>obtain ⟨_,e⟩:=x; exact Heap.lt_size e
 | xd fs=>obtain ⟨_,⟨_,_,_,e,_⟩,_⟩:=x; exact Heap.lt_size e
 | rng lo hi=>obtain ⟨_,_,_,e⟩:=x; exact Heap.lt_size e
 | frz ob u=>obtain ⟨e,_⟩:=x; exact Heap.lt_size e
 | tbl ps=>exact Heap.lt_size (show h.get? a=some _ from x)
 | met f y=>exact Heap.lt_size (show h.get? a=some _ from x)
 | ext φ=>obtain ⟨_,⟨_,e⟩,_⟩:=x; exact Heap.lt_size e
theorem Paired.mapP {α β:Type}{F G:α→β→Prop}:∀ {l₁:List α}{l₂:List β},Paired F l₁ l₂→(∀ a b,F a b→G a b)→Paired G l₁ l₂
 | _,_,.nil,_=>.nil
 | _,_,.cons r t,f=>.cons (f _ _ r) (Paired.mapP t f)
theorem ObjOk.stay (x:ObjOk P w H h a o) (k:∀ b u,(b=a∨H b=some (.own a))→h.get? b=some u→h'.get? b=some u)
  (ho:∀ b,H b=some (.own a)→H' b=some (.own a)) (ht:∀ b xs,H b=some (.tup xs)→H' b=some (.tup xs)):ObjOk P w H' h' a o:=by
 induction o with
 | lst xs=>obtain ⟨z,its,n,r,e⟩:=x; exact ⟨z,its,n,r,k _ _ (.inl rfl) e⟩
 | tup xs=>obtain ⟨z,its,r,ob,e,c⟩:=x; exact ⟨z,its,r,ob,k _ _ (.inl rfl) e,c⟩
 | dK kvs=>obtain ⟨z,y,vs,r,ob,es,ep,e,c⟩:=x; exact ⟨z,y,vs,r,ob,es,ep,k _ _ (.inl rfl) e,c⟩
 | dT kvs =>
  obtain ⟨z,y,xs,r,ob,es,ep,e,c⟩:=x
  exact ⟨z,y,xs,Paired.mapP r fun p q z=>⟨z.1,ht _ _ z.2.1,z.2.2⟩,ob,es,ep,k _ _ (.inl rfl) e,c⟩
 | set S n=>obtain ⟨ob,es,ep,t,e,c⟩:=x; exact ⟨ob,es,ep,t,k _ _ (.inl rfl) e,c⟩
 | ins C dx fs =>
  obtain ⟨d,z,ne,e,mA,⟨od,es,ep,e2,c⟩,r⟩:=x
  exact ⟨ho _ d,z,ne,k _ _ (.inl rfl) e,mA,⟨od,es,ep,k _ _ (.inr d) e2,c⟩,r⟩
 | own y=>obtain ⟨ob,e⟩:=x; exact ⟨ob,k _ _ (.inl rfl) e⟩
 | xd fs=>obtain ⟨mA,⟨od,es,ep,e,c⟩,r⟩:=x; exact ⟨mA,⟨od,es,ep,k _ _ (.inl rfl) e,c⟩,r⟩
 | rng lo hi=>obtain ⟨t,u,v,e⟩:=x; exact ⟨t,u,v,k _ _ (.inl rfl) e⟩
 | frz ob u ih=>obtain ⟨e,q⟩:=x; exact ⟨k _ _ (.inl rfl) e,ih q⟩
 | tbl ps =>
  have e:h.get? a=some { cls:=.none,data:=.fields ps }:=x
  show h'.get? a=some { cls:=.none,data:=.fields ps }
  exact k a _ (.inl rfl) e
 | met f y =>
  have e:h.get? a=some (PySem.W.methodObj (.ref f) (.ref y)):=x
  show h'.get? a=some (PySem.W.methodObj (.ref f) (.ref y))
  exact k a _ (.inl rfl) e
 | ext φ=>obtain ⟨p,⟨o,e⟩,st⟩:=x; exact ⟨st _ _ p fun o q=>k _ _ (.inl rfl) q,⟨o,k _ _ (.inl rfl) e⟩,st⟩
theorem HOk.lt (x:HOk P w H h) (e:H a=some o):a < h.objs.size:=(x a o e).lt
theorem HOk.fresh (x:HOk P w H h) (e:h.objs.size≤a):H a=none:=by
 cases q:H a with
 | none=>rfl
 | some u=>exact absurd (Nat.lt_of_lt_of_le (x.lt q) e) (Nat.lt_irrefl _)
theorem HOk.kept (x:HOk P w H h) (k:∀ b u,h.get? b=some u→h'.get? b=some u):HOk P w H h':=fun a o e =>
 (x a o e).stay (fun b u _ q=>k b u q) (fun _ q=>q) fun _ _ q=>q
theorem HOk.laid (x:HOk P w H h) (k:∀ b u,h.get? b=some u→h'.get? b=some u) (hp:h.objs.size≤a) (new:ObjOk P w (upd H a o) h' a o):HOk P w (upd H a o) h':=fun b u e=>by
 have hn:=x.fresh hp
 by_cases hb:b=a
 ·subst hb; rw [zaag] at e; cases e; exact new
 ·rw [zaak hb] at e
  exact (x b u e).stay (fun c v _ q=>k c v q) (fun c q=>by rw [zaak (zaa8 q hn)]; exact q) fun c xs q=>by rw [zaak (zaa8 q hn)]; exact q
end
def Rd (H:Hp) (a:Addr) (u:HO):Prop:=H a=some u∨∃ o,H a=some (.frz o u)
theorem Rd.ok {P:Program}{w:World}{H:Hp}{h:Heap}{a:Addr}{u:HO} (r:Rd H a u) (x:HOk P w H h):ObjOk P w H h a u:=by
 rcases r with r | ⟨o,r⟩
 ·exact x a u r
 ·obtain ⟨_,q⟩:=x a _ r
  exact q
def Mut:Option HO→Prop
 | some (.lst _)=>True
 | some (.dK _)=>True
 | some (.dT _)=>True
 | some (.set _ _)=>True
 | some (.ins _ _ _)=>True
 | some (.ext _)=>True
 | _=>False
section
variable {P:Program}{w:World}{H:Hp}{h h':Heap}{x e:Addr}{o':HO}
theorem HOk.write (ok:HOk P w H h) (mu:Mut (H x)) (he:e=x∨H e=some (.own x)) (k:∀ b u,b≠e→h.get? b=some u→h'.get? b=some u) (heo:∃ u,h'.get? e=some u)
  (new:ObjOk P w (upd H x o') h' x o'):HOk P w (upd H x o') h':=fun b u q=>by
 have nown:∀ c y,H c=some (.own y)→c≠x:=fun c y r z=>by subst z; rw [r] at mu; exact mu
 have ntup:∀ c xs,H c=some (.tup xs)→c≠x:=fun c xs r z=>by subst z; rw [r] at mu; exact mu
 by_cases hb:b=x
 ·subst hb; rw [zaag] at q; cases q; exact new
 ·rw [zaak hb] at q
  by_cases hbe:b=e
  ·have q':H b=some (.own x):=by
    rcases he with z | z
    ·exact absurd (hbe.trans z) hb
    ·rw [hbe]; exact z
   rw [q] at q'; cases q'
   obtain ⟨v,hv⟩:=heo
   exact ⟨v,by rw [hbe]; exact hv⟩
  ·refine (ok b u q).stay (fun c v hc r=>k c v ?_ r) (fun c r=>by rw [zaak (nown c b r)]; exact r) fun c xs r=>by rw [zaak (ntup c xs r)]; exact r
   rcases hc with rfl | hc
   ·exact hbe
   ·rintro rfl
    rcases he with z | z
    ·exact nown c b hc z
    ·rw [hc] at z; cases z; exact hb rfl
end
structure Un (fs ex:List Addr) (H H':Hp) (h h':Heap):Prop where
 keep:∀ b o,h.get? b=some o→H b=none→b ∉ fs→b ∉ ex→h'.get? b=some o
 slot:∀ b o,h.get? b=some o→H b=none→b∈fs→b ∉ ex→∃ sl,h'.get? b=some { o with slots:=sl }
 free:∀ b o,h.get? b=some o→H b=none→b ∉ ex→H' b=none
 there:∀ b o,h.get? b=some o→b ∉ ex→∃ o',h'.get? b=some o'
 tups:∀ b xs,H b=some (.tup xs)→H' b=some (.tup xs)
 frzs:∀ b o u,H b=some (.frz o u)→H' b=some (.frz o u)
 tbls:∀ b ps,H b=some (.tbl ps)→∃ more,H' b=some (.tbl (ps++more))
section
variable {fs fs' ex ex':List Addr}{H H1 H2:Hp}{h h1 h2 h':Heap}{a x e:Addr}{o:HO}
theorem Un.any (u:Un fs ex H H1 h h1) {b:Addr}{ob:Obj} (q:h.get? b=some ob) (n:H b=none) (hx:b ∉ ex):∃ sl,h1.get? b=some { ob with slots:=sl }:=by
 by_cases hb:b∈fs
 ·exact u.slot b ob q n hb hx
 ·exact ⟨ob.slots,u.keep b ob q n hb hx⟩
theorem Un.kept (k:∀ b u,h.get? b=some u→h'.get? b=some u):Un fs ex H H h h' :=
 ⟨fun b ob q _ _ _=>k b ob q,fun b ob q _ _ _=>⟨ob.slots,k b ob q⟩,fun _ _ _ n _=>n,fun b ob q _=>⟨ob,k b ob q⟩,fun _ _ q=>q,fun _ _ _ q=>q,fun _ ps q=>⟨#[],by rw [q]; simp⟩⟩
theorem Un.refl:Un fs ex H H h h:=Un.kept fun _ _ q=>q
theorem Un.laid (k:∀ b u,h.get? b=some u→h'.get? b=some u) (hp:h.objs.size≤a) (hn:H a=none):Un fs ex H (upd H a o) h h' where
 keep:=fun b u q _ _ _=>k b u q
 slot:=fun b u q _ _ _=>⟨u.slots,k b u q⟩
 free:=fun b u q n _=>by rw [zaak (Nat.ne_of_lt (Nat.lt_of_lt_of_le (Heap.lt_size q) hp))]; exact n
 there:=fun b u q _=>⟨u,k b u q⟩
 tups:=fun b xs q=>by rw [zaak (zaa8 q hn)]; exact q
 frzs:=fun b u xs q=>by rw [zaak (zaa8 q hn)]; exact q
 tbls:=fun b ps q=>⟨#[],by rw [zaak (zaa8 q hn),q]; simp⟩
theorem Un.write (mu:Mut (H x)) (he:e=x∨H e=some (.own x)) (k:∀ b u,b≠e→h.get? b=some u→h'.get? b=some u) (heo:∃ u,h'.get? e=some u):Un fs ex H (upd H x o) h h':=by
 have hx:∀ b,H b=none→b≠x:=fun b n z=>by subst z; rw [n] at mu; exact mu
 have hb:∀ b,H b=none→b≠e:=fun b n z=>by
  subst z
  rcases he with r | r
  ·exact hx b n r
  ·rw [n] at r; cases r
 have hm:∀ b u,H b=some u→¬ Mut (some u)→b≠x:=fun b u q nm z=>by subst z; rw [q] at mu; exact nm mu
 refine ⟨fun b u q n _ _=>k b u (hb b n) q,fun b u q n _ _=>⟨u.slots,k b u (hb b n) q⟩,fun b u q n _=>by rw [zaak (hx b n)]; exact n,fun b u q _=>?_,
  fun b xs q=>by rw [zaak (hm b _ q fun z=>z)]; exact q,fun b u xs q=>by rw [zaak (hm b _ q fun z=>z)]; exact q,fun b ps q=>⟨#[],by rw [zaak (hm b _ q fun z=>z),q]; simp⟩⟩
 by_cases hbe:b=e
 ·subst hbe; exact heo
 ·exact ⟨u,k b u hbe q⟩
end
def trk (h:Heap) (H:Hp):List Addr:=(List.range h.objs.size).filter fun a=>(H a).isSome
def hidT (h:Heap) (H:Hp):Heap:=PySem.W.hideAll h (trk h H)
theorem zajz (h:Heap) (H:Hp):(hidT h H).objs.size=h.objs.size:=PySem.W.hideAll_size _ _
theorem zama {h:Heap}{H:Hp}{b:Addr}{o:Obj} (e:h.get? b=some o) (n:H b=none):(hidT h H).get? b=some o :=
 PySem.W.hideAll_get _ e fun hm=>by
  have q:(H b).isSome=true:=(List.mem_filter.mp hm).2
  rw [n] at q; simp at q
theorem zan5 {h:Heap}{H:Hp}{b:Addr}{o:Obj} (e:(hidT h H).get? b=some o):h.get? b=some o∧H b=none:=by
 have e':h.get? b=some o:=PySem.W.of_hideAll (trk h H) e
 refine ⟨e',?_⟩
 cases q:H b with
 | none=>rfl
 | some x =>
  have hm:b∈trk h H:=List.mem_filter.mpr ⟨List.mem_range.mpr (Heap.lt_size e'),by simp [q]⟩
  have z:(hidT h H).get? b=none:=PySem.W.hideAll_none (trk h H) hm
  rw [z] at e; cases e
structure Mod (K:PySem.W.Frag) (mg:Str→Option Value) (base:Heap):Prop where
 kin:K.In base
 glob:base.Ns mainGlobals mg
 blt:∃ mb,base.Ns builtinsNs mb∧∀ x:Str,x ≠ "__name__" → mb x=bootBuiltins x
 nolimit:base.NoLimit
structure Cx where
 prog:Program
 w:World
 K:PySem.W.Frag
 mg:Str→Option Value
 base:Heap
 A:Around
 N:List Str
 s₀:Shared
 H₀:Hp
 env:Env
 outer:List Env
 stack:List Env
 ex:List Addr
 fn:Str→Bool
 calm:Bool
 pn:List (Addr × Obj)
 xe:Value→Shared→Prop
def frs (l:List Env):List Addr:=l.filterMap (·.frame)
abbrev Cx.fs (X:Cx):List Addr:=frs X.outer
def Vis (sc:Scope) (x:Str):Prop:=sc.names.lookup x=some .local∨sc.names.lookup x=some .cell∨sc.names.lookup x=some .free
def Loc (sc:Scope) (x:Str):Prop:=sc.names.lookup x=some .local∨sc.names.lookup x=some .cell
def Look (env:Env) (h:Heap) (m:Str→Option Value) (x:Str) (u:Value):Prop :=
 (env.kindOf x=some .local∧m x=some u)∨((env.kindOf x=some .cell∨env.kindOf x=some .free)∧∃ c,env.cells.lookup x=some c∧h.IsCell c (some u))
structure Cx.Ok (X:Cx):Prop where
 mod:Mod X.K X.mg X.base
 kind:X.env.scope.kind=.function
 glob:X.env.globals=mainGlobals
 blt:X.env.builtins=builtinsNs
 above:X.s₀.heap.objs.size≤X.env.locals
 inj:∀ x y c,X.env.cells.lookup x=some c→X.env.cells.lookup y=some c→x=y
 has:∀ x,(X.env.kindOf x=some .cell∨X.env.kindOf x=some .free)→∃ c,X.env.cells.lookup x=some c
 cab:∀ x c,X.fn x=true→X.env.cells.lookup x=some c→X.s₀.heap.objs.size≤c
 hd:X.calm=true→X.A.handled=none
 frames:X.A.frames=some X.stack
 stk:X.stack=X.outer∨(X.stack=X.env :: X.outer∧X.env.frame=some X.env.locals)
 exf:∀ b∈X.ex,b≠X.env.locals∧∀ x c,X.env.cells.lookup x=some c→c≠b
 bs:∀ b o,X.base.get? b=some o→X.s₀.heap.get? b=some o∧X.H₀ b=none
 bsz:X.base.objs.size≤X.s₀.heap.objs.size
 noex:∀ b o,X.base.get? b=some o→b ∉ X.ex
 exfs:∀ b∈X.ex,b ∉ X.fs
 funs:X.s₀.heap.FunFrames X.base X.outer
 frf:∀ b∈X.fs,X.H₀ b=none
structure Inv (X:Cx) (pins:List (Addr × Obj)) (σ:List (Option V)) (H:Hp) (s:Shared):Prop where
 ok:X.Ok
 os:s.os=X.s₀.os
 bare:AllBare s.gens
 base:Un X.fs X.ex X.H₀ H X.s₀.heap s.heap
 loc:∃ m,s.heap.Ns X.env.locals m∧∀ (i:Nat) (x:Str) (v:V),X.N[i]?=some x→σ[i]?=some (some v)→Vis X.env.scope x→∃ u,RelV v u∧Look X.env s.heap m x u
 cell:∀ x c,X.env.cells.lookup x=some c→∃ v,s.heap.IsCell c v
 free:H X.env.locals=none
 freeC:∀ x c,X.env.cells.lookup x=some c→H c=none
 pin:∀ p∈X.pn++pins,s.heap.get? p.1=some p.2∧H p.1=none∧p.1≠X.env.locals∧p.1 ∉ X.fs∧∀ v,p.2.data≠.cell v
 hok:HOk X.prog X.w H s.heap
 len:σ.length=X.N.length
section
variable {X:Cx}{pins:List (Addr × Obj)}{σ:List (Option V)}{H H':Hp}{s:Shared}{h':Heap}
theorem Cx.Ok.nofr (ok:X.Ok) {b:Addr}{o:Obj} (e:X.base.get? b=some o):b ∉ X.fs:=fun hb=>by
 have:=(ok.funs.mem hb).1
 rw [e] at this; cases this
theorem Inv.bs (I:Inv X pins σ H s):∀ b o,X.base.get? b=some o→s.heap.get? b=some o∧H b=none:=fun b o e =>
 ⟨I.base.keep b o (I.ok.bs b o e).1 (I.ok.bs b o e).2 (I.ok.nofr e) (I.ok.noex b o e),I.base.free b o (I.ok.bs b o e).1 (I.ok.bs b o e).2 (I.ok.noex b o e)⟩
theorem Inv.bk (I:Inv X pins σ H s):∀ b o,X.base.get? b=some o→s.heap.get? b=some o:=fun b o e=>(I.bs b o e).1
theorem Inv.mod (I:Inv X pins σ H s):Mod X.K X.mg X.base:=I.ok.mod
theorem Inv.kIn (I:Inv X pins σ H s):X.K.In s.heap:=I.ok.mod.kin.keeps I.bk
theorem Inv.lt (I:Inv X pins σ H s):X.env.locals < s.heap.objs.size:=let ⟨_,hn,_⟩:=I.loc; hn.lt
theorem Inv.sz (I:Inv X pins σ H s):X.s₀.heap.objs.size≤s.heap.objs.size:=Nat.le_trans I.ok.above (Nat.le_of_lt I.lt)
theorem Inv.nofs (I:Inv X pins σ H s) {a:Addr} (h:s.heap.objs.size≤a):a ∉ X.fs:=fun hb=>by
 obtain ⟨_,o,ho,_⟩:=I.ok.funs.mem hb
 exact absurd (Nat.lt_of_lt_of_le (Heap.lt_size ho) (Nat.le_trans I.sz h)) (Nat.lt_irrefl _)
theorem Inv.cne (I:Inv X pins σ H s):∀ x c,X.env.cells.lookup x=some c→c≠X.env.locals:=fun x c e z=>by
 obtain ⟨v,o,ho,hd⟩:=I.cell x c e
 obtain ⟨m,⟨o',es,ep,ho',hd',_⟩,_⟩:=I.loc
 rw [z,ho'] at ho; cases ho; rw [hd'] at hd; cases hd
theorem Inv.funs (I:Inv X pins σ H s):s.heap.FunFrames X.base X.outer:=by
 have all:∀ (l:List Env),(∀ b∈frs l,b∈X.fs)→X.s₀.heap.FunFrames X.base l→s.heap.FunFrames X.base l:=by
  intro l
  induction l with
  | nil=>intro _ _; trivial
  | cons env r ih =>
   intro hs hl
   obtain ⟨hk,⟨L,o,hf,hn,ho,hd⟩,hr⟩:=hl
   have hL:L∈X.fs:=hs L (by unfold frs; rw [List.filterMap_cons,hf]; exact List.mem_cons_self)
   obtain ⟨sl,e⟩:=I.base.slot L o ho (I.ok.frf L hL) hL fun z=>I.ok.exfs L z hL
   exact ⟨hk,⟨L,_,hf,hn,e,hd⟩,ih (fun b hb=>hs b (by unfold frs; rw [List.filterMap_cons,hf]; exact List.mem_cons_of_mem _ hb)) hr⟩
 exact all X.outer (fun _ hb=>hb) I.ok.funs
theorem Inv.stack (I:Inv X pins σ H s):s.heap.FunFrames X.base X.stack:=by
 rcases I.ok.stk with e | ⟨e,hf⟩
 ·rw [e]; exact I.funs
 ·rw [e]
  obtain ⟨m,hn,_⟩:=I.loc
  refine .cons (by rw [I.ok.kind]; decide) hf hn ?_ I.funs
  exact Heap.get?_none_of_le (Nat.le_trans I.ok.bsz I.ok.above)
theorem Inv.stkSub (I:Inv X pins σ H s):∀ b∈frs X.stack,b∈X.env.locals :: X.fs:=fun b hb=>by
 rcases I.ok.stk with e | ⟨e,hf⟩
 ·rw [e] at hb; exact List.mem_cons_of_mem _ hb
 ·rw [e] at hb
  unfold frs at hb
  rw [List.filterMap_cons,hf] at hb
  exact hb
theorem Inv.stkFree (I:Inv X pins σ H s):∀ b∈frs X.stack,H b=none:=fun b hb=>by
 rcases List.mem_cons.mp (I.stkSub b hb) with e | hb
 ·rw [e]; exact I.free
 ·obtain ⟨_,o,ho,_⟩:=I.ok.funs.mem hb
  exact I.base.free b o ho (I.ok.frf b hb) fun z=>I.ok.exfs b z hb
theorem Inv.step {g':Array GenState}{t':Nat}{d':Drawn}{ch:List Addr} (I:Inv X pins σ H s)
  (hch:∀ b∈ch,(b∈X.ex∨X.s₀.heap.objs.size≤b)∧b≠X.env.locals∧(∀ x c,X.env.cells.lookup x=some c→c≠b)∧∀ p∈X.pn++pins,p.1≠b)
  (keep:∀ b o,b≠X.env.locals→b ∉ X.fs→b ∉ ch→s.heap.get? b=some o→H b=none→h'.get? b=some o)
  (slot:∀ b o,b≠X.env.locals→b∈X.fs→b ∉ ch→s.heap.get? b=some o→H b=none→∃ sl,h'.get? b=some { o with slots:=sl }) (free:∀ b o,b ∉ ch→s.heap.get? b=some o→H b=none→H' b=none)
  (there:∀ b o,b ∉ ch→s.heap.get? b=some o→∃ o',h'.get? b=some o')
  (tups:∀ b xs,H b=some (.tup xs)→H' b=some (.tup xs)) (frzs:∀ b o u,H b=some (.frz o u)→H' b=some (.frz o u)) (tbls:∀ b ps,H b=some (.tbl ps)→∃ more,H' b=some (.tbl (ps++more)))
  (ns:∀ m,s.heap.Ns X.env.locals m→h'.Ns X.env.locals m) (hok:HOk X.prog X.w H' h') (hg:AllBare g') :
  Inv X pins σ H' { s with heap:=h',gens:=g',drawn:=d',toks:=t' }:=by
 have neL:∀ b o,X.s₀.heap.get? b=some o→b≠X.env.locals:=fun b o e=>Nat.ne_of_lt (Nat.lt_of_lt_of_le (Heap.lt_size e) I.ok.above)
 have neC:∀ b o,X.s₀.heap.get? b=some o→b ∉ X.ex→b ∉ ch:=fun b o e hx hb=>by
  rcases (hch b hb).1 with z | z
  ·exact hx z
  ·exact absurd (Nat.lt_of_lt_of_le (Heap.lt_size e) z) (Nat.lt_irrefl _)
 have cellK:∀ x c,X.env.cells.lookup x=some c→∀ v,s.heap.IsCell c v→h'.IsCell c v:=fun x c e v ⟨o,ho,hd⟩=>by
  have nch:c ∉ ch:=fun z=>(hch c z).2.2.1 x c e rfl
  by_cases hc:c∈X.fs
  ·obtain ⟨sl,q⟩:=slot c o (I.cne x c e) hc nch ho (I.freeC x c e)
   exact ⟨_,q,hd⟩
  ·exact ⟨o,keep c o (I.cne x c e) hc nch ho (I.freeC x c e),hd⟩
 refine ⟨I.ok,I.os,hg,⟨fun b o e n hb hx=>?_,fun b o e n hb hx=>?_,fun b o e n hx=>?_,fun b o e hx=>?_,fun b xs e=>tups b xs (I.base.tups b xs e),fun b o xs e=>frzs b o xs (I.base.frzs b o xs e),fun b ps e=>?_⟩,?_,fun x c e=>?_,?_,fun x c e=>?_,fun p hp=>?_,hok,I.len⟩
 ·exact keep b o (neL b o e) hb (neC b o e hx) (I.base.keep b o e n hb hx) (I.base.free b o e n hx)
 ·obtain ⟨sl,e1⟩:=I.base.slot b o e n hb hx
  obtain ⟨sl',e2⟩:=slot b _ (neL b o e) hb (neC b o e hx) e1 (I.base.free b o e n hx)
  exact ⟨sl',e2⟩
 ·obtain ⟨o',e1⟩:=I.base.there b o e hx
  exact free b o' (neC b o e hx) e1 (I.base.free b o e n hx)
 ·obtain ⟨o',e1⟩:=I.base.there b o e hx
  exact there b o' (neC b o e hx) e1
 ·obtain ⟨m1,e1⟩:=I.base.tbls b ps e
  obtain ⟨m2,e2⟩:=tbls b _ e1
  exact ⟨m1++m2,by rw [e2,Array.append_assoc]⟩
 ·obtain ⟨m,hn,hl⟩:=I.loc
  refine ⟨m,ns m hn,fun i x v e1 e2 e3=>?_⟩
  obtain ⟨u,r,l⟩:=hl i x v e1 e2 e3
  refine ⟨u,r,?_⟩
  rcases l with l | ⟨k,c,e,z⟩
  ·exact .inl l
  ·exact .inr ⟨k,c,e,cellK x c e _ z⟩
 ·obtain ⟨v,z⟩:=I.cell x c e
  exact ⟨v,cellK x c e v z⟩
 ·obtain ⟨m,⟨o,_,_,ho,_⟩,_⟩:=I.loc
  exact free _ o (fun z=>(hch _ z).2.1 rfl) ho I.free
 ·obtain ⟨v,o,ho,hd⟩:=I.cell x c e
  exact free c o (fun z=>(hch c z).2.2.1 x c e rfl) ho (I.freeC x c e)
 ·obtain ⟨e,n,ne,nf,d⟩:=I.pin p hp
  have nch:p.1 ∉ ch:=fun z=>(hch p.1 z).2.2.2 p hp rfl
  exact ⟨keep p.1 p.2 ne nf nch e n,free p.1 p.2 nch e n,ne,nf,d⟩
theorem Inv.un {t':Nat} (I:Inv X pins σ H s) (u:Un X.fs [] H H' s.heap h') (hok:HOk X.prog X.w H' h'):Inv X pins σ H' { s with heap:=h',toks:=t' }:=by
 obtain ⟨m,⟨o,es,ep,ho,r⟩,_⟩:=id I.loc
 obtain ⟨sl,hL⟩:=u.any ho I.free (by simp)
 exact I.step (g':=s.gens) (d':=s.drawn) (ch:=[]) (fun _ z=>nomatch z) (fun b o _ hb _ e n=>u.keep b o e n hb (by simp)) (fun b o _ hb _ e n=>u.slot b o e n hb (by simp)) (fun b o _ e n=>u.free b o e n (by simp)) (fun b o _ e=>u.there b o e (by simp)) u.tups u.frzs u.tbls (fun m' hm=>by
  obtain ⟨o',es',ep',ho',r'⟩:=hm
  rw [ho] at ho'; cases ho'
  exact ⟨_,es',ep',hL,r'⟩) hok I.bare
theorem Inv.call {g':Array GenState}{t':Nat}{d':Drawn}{ch:List Addr} (I:Inv X pins σ H s) (u:Un (frs X.stack) ch H H' s.heap h') (hok:HOk X.prog X.w H' h') (hg:AllBare g')
  (hch:∀ b∈ch,(b∈X.ex∨X.s₀.heap.objs.size≤b)∧b≠X.env.locals∧(∀ x c,X.env.cells.lookup x=some c→c≠b)∧∀ p∈X.pn++pins,p.1≠b) :
  Inv X pins σ H' { s with heap:=h',gens:=g',drawn:=d',toks:=t' }:=by
 obtain ⟨m,⟨o,es,ep,ho,r⟩,_⟩:=id I.loc
 obtain ⟨sl,hL⟩:=u.any ho I.free fun z=>(hch _ z).2.1 rfl
 exact I.step (ch:=ch) hch (fun b o hL hb hc e n=>u.keep b o e n (fun z=>(List.mem_cons.mp (I.stkSub b z)).elim hL hb) hc) (fun b o _ _ hc e n=>u.any e n hc) (fun b o hc e n=>u.free b o e n hc) (fun b o hc e=>u.there b o e hc) u.tups u.frzs u.tbls (fun m' hm=>by
  obtain ⟨o',es',ep',ho',r'⟩:=hm
  rw [ho] at ho'; cases ho'
  exact ⟨_,es',ep',hL,r'⟩) hok hg
theorem Inv.turned {t':Nat}{it:Addr} (I:Inv X pins σ H s) (k:∀ b o,b≠it→s.heap.get? b=some o→h'.get? b=some o) (hn:H it=none) (hL:it≠X.env.locals)
  (h1:it∈X.ex∨X.s₀.heap.objs.size≤it) (h2:∀ x c,X.env.cells.lookup x=some c→c≠it) (h3:∀ p∈X.pn++pins,p.1≠it):Inv X pins σ H { s with heap:=h',toks:=t' }:=by
 have nit:∀ b u,H b=some u→b≠it:=fun b u e z=>by rw [z,hn] at e; cases e
 refine I.step (g':=s.gens) (d':=s.drawn) (ch:=[it]) (fun b hb=>?_) (fun b o _ _ hc e _=>k b o (fun z=>hc (by simp [z])) e) (fun b o _ _ hc e _=>⟨o.slots,k b o (fun z=>hc (by simp [z])) e⟩) (fun _ _ _ _ n=>n)
  (fun b o hc e=>⟨o,k b o (fun z=>hc (by simp [z])) e⟩) (fun _ _ e=>e) (fun _ _ _ e=>e) (fun b ps e=>⟨#[],by rw [e]; simp⟩) (fun m hm=>?_) (fun b u e=>?_) I.bare
 ·have e:b=it:=by simpa using hb
  subst e
  exact ⟨h1,hL,h2,h3⟩
 ·obtain ⟨o,es,ep,ho,r⟩:=hm
  exact ⟨o,es,ep,k _ o (Ne.symm hL) ho,r⟩
 ·refine (I.hok b u e).stay (fun c v hc q=>k c v ?_ q) (fun _ q=>q) fun _ _ q=>q
  rcases hc with z | z
  ·rw [z]; exact nit b u e
  ·exact nit c _ z
theorem Inv.tok (I:Inv X pins σ H s) (t:Nat):Inv X pins σ H { s with toks:=t }:=I.un (h':=s.heap) (t':=t) Un.refl I.hok
theorem Inv.kept {t':Nat} (I:Inv X pins σ H s) (k:∀ b u,s.heap.get? b=some u→h'.get? b=some u):Inv X pins σ H { s with heap:=h',toks:=t' }:=I.un (Un.kept k) (I.hok.kept k)
theorem Inv.laid {a:Addr}{o:HO}{t':Nat} (I:Inv X pins σ H s) (k:∀ b u,s.heap.get? b=some u→h'.get? b=some u) (hp:s.heap.objs.size≤a) (new:ObjOk X.prog X.w (upd H a o) h' a o) :
  Inv X pins σ (upd H a o) { s with heap:=h',toks:=t' }:=I.un (Un.laid k hp (I.hok.fresh hp)) (I.hok.laid k hp new)
theorem Inv.write {x e:Addr}{o:HO}{t':Nat} (I:Inv X pins σ H s) (mu:Mut (H x)) (he:e=x∨H e=some (.own x)) (k:∀ b u,b≠e→s.heap.get? b=some u→h'.get? b=some u) (heo:∃ u,h'.get? e=some u)
  (new:ObjOk X.prog X.w (upd H x o) h' x o):Inv X pins σ (upd H x o) { s with heap:=h',toks:=t' }:=I.un (Un.write mu he k heo) (I.hok.write mu he k heo new)
theorem Inv.pins_of {pins':List (Addr × Obj)} (I:Inv X pins σ H s) (h:∀ p∈pins',s.heap.get? p.1=some p.2∧H p.1=none∧p.1≠X.env.locals∧p.1 ∉ X.fs∧∀ v,p.2.data≠.cell v):Inv X pins' σ H s :=
 ⟨I.ok,I.os,I.bare,I.base,I.loc,I.cell,I.free,I.freeC,fun p hp=>(List.mem_append.mp hp).elim (fun z=>I.pin p (List.mem_append_left _ z)) (h p),I.hok,I.len⟩
theorem zain {N:List Str} (hN:N.Nodup) {i j:Nat}{x:Str} (a:N[i]?=some x) (b:N[j]?=some x):i=j:=by
 obtain ⟨h1,e1⟩:=List.getElem?_eq_some_iff.mp a
 obtain ⟨h2,e2⟩:=List.getElem?_eq_some_iff.mp b
 exact (List.getElem_inj hN).mp (e1.trans e2.symm)
theorem zag0 {M:Model}{A:Around}{E:Value→Shared→Prop}{i:Nat}{x:Str}{v:V}{u:Value}{Q:Unit→Shared→Prop} (I:Inv X pins σ H s) (hN:X.N.Nodup) (hi:X.N[i]?=some x) (hx:Loc X.env.scope x) (r:RelV v u)
  (h:∀ s',Inv X pins (σ.set i (some v)) H s'→(∃ a,Heap.SameBut a s.heap s'.heap∧(a=X.env.locals∨X.env.cells.lookup x=some a))→Q () s') (hf:X.fn x=true∨X.env.scope.names.lookup x=some .local:=by first | exact .inl rfl | exact .inr rfl | assumption):wpAny M A (storeName X.env x u) Q E s:=by
 obtain ⟨m,hn,hl⟩:=id I.loc
 have hcls:(X.env.scope.kind == .class || (X.env.scope.kind == .module && X.env.locals != X.env.globals))=false:=by rw [I.ok.kind]; rfl
 have hiσ:i < σ.length:=by rw [I.len]; exact (List.getElem?_eq_some_iff.mp hi).1
 have cne:=I.cne
 have tracked:∀ {a:Addr}{h':Heap},(∃ o,s.heap.get? a=some o∧H a=none)→Heap.SameBut a s.heap h'→HOk X.prog X.w H h':=fun {a h'} ha hs b ob e=>by
  obtain ⟨_,_,hfree⟩:=ha
  refine (I.hok b ob e).stay (fun c w' hc q=>(hs.2 c ?_).trans q) (fun _ q=>q) fun _ _ q=>q
  rintro rfl
  rcases hc with rfl | hc
  ·rw [hfree] at e; cases e
  ·rw [hfree] at hc; cases hc
 rcases hx with hk | hk
 ·refine wpAny_storeName_local hk hn (fun h' hn' hs=>?_) hcls
  obtain ⟨oL,_,_,hoL,_⟩:=id hn
  refine h _ ⟨I.ok,I.os,I.bare,⟨fun b o e n hb hx=>?_,fun b o e n hb hx=>?_,I.base.free,fun b o e hx=>?_,I.base.tups,I.base.frzs,I.base.tbls⟩,⟨_,hn',fun j y v' e1 e2 e3=>?_⟩,fun y c e=>?_,I.free,I.freeC,fun p hp=>?_,tracked ⟨oL,hoL,I.free⟩ hs,by simpa using I.len⟩ ⟨_,hs,.inl rfl⟩
  ·exact (hs.2 b (Nat.ne_of_lt (Nat.lt_of_lt_of_le (Heap.lt_size e) I.ok.above))).trans (I.base.keep b o e n hb hx)
  ·obtain ⟨sl,e1⟩:=I.base.slot b o e n hb hx
   exact ⟨sl,(hs.2 b (Nat.ne_of_lt (Nat.lt_of_lt_of_le (Heap.lt_size e) I.ok.above))).trans e1⟩
  ·obtain ⟨o',e1⟩:=I.base.there b o e hx
   exact ⟨o',(hs.2 b (Nat.ne_of_lt (Nat.lt_of_lt_of_le (Heap.lt_size e) I.ok.above))).trans e1⟩
  ·by_cases hj:j=i
   ·subst hj
    rw [hi] at e1; cases e1
    rw [List.getElem?_set_self hiσ] at e2
    cases e2
    exact ⟨u,r,.inl ⟨hk,by simp⟩⟩
   ·rw [List.getElem?_set_ne (Ne.symm hj)] at e2
    obtain ⟨u',r',q⟩:=hl j y v' e1 e2 e3
    refine ⟨u',r',?_⟩
    rcases q with ⟨k,e⟩ | ⟨k,c,e,z⟩
    ·refine .inl ⟨k,?_⟩
     have:y≠x:=fun e=>hj (zain hN e1 (e ▸ hi))
     simp [this,e]
    ·exact .inr ⟨k,c,e,z.sameBut hs (cne y c e)⟩
  ·obtain ⟨w',z⟩:=I.cell y c e
   exact ⟨w',z.sameBut hs (cne y c e)⟩
  ·obtain ⟨e,n,ne,nf,d⟩:=I.pin p hp
   exact ⟨(hs.2 p.1 ne).trans e,n,ne,nf,d⟩
 ·have hfn:X.fn x=true:=by
   rcases hf with z | z
   ·exact z
   ·rw [z] at hk; cases hk
  obtain ⟨c,hc⟩:=I.ok.has x (.inl hk)
  obtain ⟨w',z⟩:=I.cell x c hc
  refine wpAny_storeName_cell I.ok.kind hk hc z (fun h' hc' hs=>?_)
  obtain ⟨oc,hoc,hocd⟩:=id z
  refine h { s with heap:=h' } ⟨I.ok,I.os,I.bare,⟨fun b o e n hb hx=>?_,fun b o e n hb hx=>?_,I.base.free,fun b o e hx=>?_,I.base.tups,I.base.frzs,I.base.tbls⟩,⟨m,hn.sameBut hs (Ne.symm (cne x c hc)),fun j y v' e1 e2 e3=>?_⟩,fun y c' e=>?_,I.free,I.freeC,fun p hp=>?_,tracked ⟨oc,hoc,I.freeC x c hc⟩ hs,by simpa using I.len⟩ ⟨c,hs,.inr hc⟩
  ·exact (hs.2 b (Nat.ne_of_lt (Nat.lt_of_lt_of_le (Heap.lt_size e) (I.ok.cab x c hfn hc)))).trans (I.base.keep b o e n hb hx)
  ·obtain ⟨sl,e1⟩:=I.base.slot b o e n hb hx
   exact ⟨sl,(hs.2 b (Nat.ne_of_lt (Nat.lt_of_lt_of_le (Heap.lt_size e) (I.ok.cab x c hfn hc)))).trans e1⟩
  ·obtain ⟨o',e1⟩:=I.base.there b o e hx
   exact ⟨o',(hs.2 b (Nat.ne_of_lt (Nat.lt_of_lt_of_le (Heap.lt_size e) (I.ok.cab x c hfn hc)))).trans e1⟩
  ·by_cases hj:j=i
   ·subst hj
    rw [hi] at e1; cases e1
    rw [List.getElem?_set_self hiσ] at e2
    cases e2
    exact ⟨u,r,.inr ⟨.inl hk,c,hc,hc'⟩⟩
   ·rw [List.getElem?_set_ne (Ne.symm hj)] at e2
    obtain ⟨u',r',q⟩:=hl j y v' e1 e2 e3
    refine ⟨u',r',?_⟩
    rcases q with q | ⟨k,c',e,z'⟩
    ·exact .inl q
    ·refine .inr ⟨k,c',e,z'.sameBut hs ?_⟩
     rintro rfl
     exact hj (zain hN e1 (I.ok.inj _ _ _ e hc ▸ hi))
  ·by_cases hcc:c'=c
   ·subst hcc; exact ⟨_,hc'⟩
   ·obtain ⟨w2,z2⟩:=I.cell y c' e
    exact ⟨w2,z2.sameBut hs hcc⟩
  ·obtain ⟨e,n,ne,nf,d⟩:=I.pin p hp
   refine ⟨(hs.2 p.1 ?_).trans e,n,ne,nf,d⟩
   intro q
   rw [q,hoc] at e
   have q':oc=p.2:=Option.some.inj e
   exact d w' (by rw [← q']; exact hocd)
theorem zagb {M:Model}{A:Around}{E:Value→Shared→Prop}{i:Nat}{x:Str}{v:V}{u:Value}{Q:Unit→Shared→Prop} (I:Inv X pins σ H s) (hN:X.N.Nodup) (hi:X.N[i]?=some x) (hx:Loc X.env.scope x) (r:RelV v u)
  (h:∀ s',Inv X pins (σ.set i (some v)) H s'→Q () s') (hf:X.fn x=true∨X.env.scope.names.lookup x=some .local:=by first | exact .inl rfl | exact .inr rfl | assumption):wpAny M A (storeName X.env x u) Q E s :=
 zag0 I hN hi hx r (fun s' I' _=>h s' I') hf
theorem Inv.call' {s':Shared}{ch:List Addr} (I:Inv X pins σ H s) (ho:s'.os=s.os) (u:Un (frs X.stack) ch H H' s.heap s'.heap) (hok:HOk X.prog X.w H' s'.heap) (hg:AllBare s'.gens)
  (hch:∀ b∈ch,(b∈X.ex∨X.s₀.heap.objs.size≤b)∧b≠X.env.locals∧(∀ x c,X.env.cells.lookup x=some c→c≠b)∧∀ p∈X.pn++pins,p.1≠b):Inv X pins σ H' s':=by
 obtain ⟨h',g',d',t',o'⟩:=s'
 have e:o'=s.os:=ho
 subst e
 exact I.call (g':=g') (t':=t') (d':=d') u hok hg hch
end
abbrev XK:=Value→Option Addr→Hp→Prop
abbrev St:=List (Option V)
abbrev VK:=V→Hp→Prop
abbrev TE:=St→Hp→VK→Prop
abbrev TT:=St→Hp→(Bool→Hp→Prop)→Prop
abbrev TA:=St→Hp→(List V→Hp→Prop)→Prop
structure Ends where
 nx:St→Hp→Prop
 rt:VK
 bk:St→Hp→Prop:=fun _ _=>False
 ct:St→Hp→Prop:=fun _ _=>False
abbrev TS:=Ends→St→Hp→Prop
def EP (X:Cx) (pins:List (Addr × Obj)) (σ:St) (Q:VK) (u:Value) (s':Shared):Prop:=∃ v H',Inv X pins σ H' s'∧RelV v u∧Q v H'
def TP (X:Cx) (pins:List (Addr × Obj)) (σ:St) (Q:Bool→Hp→Prop) (b:Bool) (s':Shared):Prop:=∃ H',Inv X pins σ H' s'∧Q b H'
def AP (X:Cx) (pins:List (Addr × Obj)) (σ:St) (Q:List V→Hp→Prop) (us:List Value) (s':Shared):Prop:=∃ vs H',Inv X pins σ H' s'∧Vals vs us∧Q vs H'
def SP (X:Cx) (pins:List (Addr × Obj)) (D:Ends) (f:Flow) (s':Shared):Prop :=
 match f with
 | .next=>∃ σ' H',Inv X pins σ' H' s'∧D.nx σ' H'
 | .brk=>∃ σ' H',Inv X pins σ' H' s'∧D.bk σ' H'
 | .cont=>∃ σ' H',Inv X pins σ' H' s'∧D.ct σ' H'
 | .ret u=>∃ v σ' H',Inv X pins σ' H' s'∧RelV v u∧D.rt v H'
def PE (X:Cx) (e:Expr) (t:TE):Prop :=
 ∀ (pins:List (Addr × Obj)) (s:Shared) (σ:St) (H:Hp) (Q:VK),Inv X pins σ H s→t σ H Q→wpAny (model X.prog X.w) X.A (eval e X.env) (EP X pins σ Q) X.xe s
def PT (X:Cx) (e:Expr) (t:TT):Prop :=
 ∀ (pins:List (Addr × Obj)) (s:Shared) (σ:St) (H:Hp) (Q:Bool→Hp→Prop),Inv X pins σ H s→t σ H Q→wpAny (model X.prog X.w) X.A (isTrue e X.env (eval e X.env)) (TP X pins σ Q) X.xe s
def PW (X:Cx) (e:Expr) (t:TT):Prop :=
 ∀ (whole:Sem Value) (pins:List (Addr × Obj)) (s:Shared) (σ:St) (H:Hp) (Q:Bool→Hp→Prop),Inv X pins σ H s→t σ H Q→wpAny (model X.prog X.w) X.A (isTrue e X.env whole) (TP X pins σ Q) X.xe s
theorem PW.pt {X:Cx}{e:Expr}{t:TT} (h:PW X e t):PT X e t:=h _
def PA (X:Cx) (es:List Expr) (t:TA):Prop :=
 ∀ (pos:Pos) (pins:List (Addr × Obj)) (s:Shared) (σ:St) (H:Hp) (Q:List V→Hp→Prop),Inv X pins σ H s→t σ H Q→wpAny (model X.prog X.w) X.A (spliced (backTo pos (starEach es X.env))) (AP X pins σ Q) X.xe s
def PS (X:Cx) (st:Stmt) (t:TS):Prop :=
 ∀ (pins:List (Addr × Obj)) (s:Shared) (σ:St) (H:Hp) (D:Ends),Inv X pins σ H s→t D σ H→wpAny (model X.prog X.w) X.A (exec st X.env) (SP X pins D) X.xe s
def PSs (X:Cx) (st:List Stmt) (t:TS):Prop :=
 ∀ (pins:List (Addr × Obj)) (s:Shared) (σ:St) (H:Hp) (D:Ends),Inv X pins σ H s→t D σ H→wpAny (model X.prog X.w) X.A (execs st X.env) (SP X pins D) X.xe s
theorem thn {α:Type}{t:Sem α}{Q Q':α→Shared→Prop}{M:Model}{A:Around}{E:Value→Shared→Prop}{s:Shared} (h:wpAny M A t Q E s) (hQ:∀ a s,Q a s→Q' a s):wpAny M A t Q' E s:=wpAny_mono h hQ fun _ _ x=>x
section
variable {X:Cx}
def tVar (i:Nat):TE:=fun σ H Q=>∃ v,σ[i]?=some (some v)∧Q v H
def tC (v:V):TE:=fun _ H Q=>Q v H
theorem zap1 {i:Nat}{x:Str}{pos:Pos} (hN:X.N[i]?=some x) (hv:Vis X.env.scope x) (hd:(x == ("__debug__" : Str))=false:=by decide) (hcd:(x == ("__classdict__" : Str))=false:=by decide):PE X (.Name x pos) (tVar i):=by
 intro pins s σ H Q I h
 obtain ⟨v,e,h⟩:=h
 obtain ⟨m,hn,hl⟩:=I.loc
 obtain ⟨u,r,l⟩:=hl i x v hN e hv
 have fin:EP X pins σ Q u s:=⟨v,H,I,r,h⟩
 rcases l with ⟨hk,hm⟩ | ⟨hk,c,hc,hcell⟩
 ·exact wpAny_Name (wpAny_loadName_local I.ok.kind hk hn hm fin) hd
 ·rcases hk with hk | hk
  ·exact wpAny_Name (wpAny_loadName_cell I.ok.kind hk hc hcell fin) hd
  ·exact wpAny_Name (wpAny_loadName_free I.ok.kind hk hc hcell fin hcd) hd
theorem zap2 {i j pos}:PE X (.Constant (.int i) j pos) (tC (.int i)):=fun _ _ _ H _ I h=>wpAny_Constant_int ⟨.int i,H,I.tok _,⟨_,rfl⟩,h⟩
theorem zasf {b j pos}:PE X (.Constant (.bool b) j pos) (tC (.bl b)):=fun _ _ _ H _ I h=>Constant_bool ⟨.bl b,H,I,rfl,h⟩
theorem zap3 {j pos}:PE X (.Constant .none j pos) (tC .non):=fun _ _ _ H _ I h=>Constant_none ⟨.non,H,I,rfl,h⟩
theorem zap4 {x j pos}:PE X (.Constant (.str x) j pos) (tC (.str x)):=fun _ _ _ H _ I h=>Calls.Constant_str ⟨.str x,H,I.tok _,⟨_,rfl⟩,h⟩
def Gl (X:Cx) (x:Str):Prop:=X.env.kindOf x=some .globalImplicit
theorem zagc {E:Value→Shared→Prop}{pins:List (Addr × Obj)}{s:Shared}{σ:St}{H:Hp}{x:Str}{u:Value}{pos:Pos}{Q:Value→Shared→Prop} (I:Inv X pins σ H s) (hg:Gl X x) (hm:X.mg x=some u) (h:Q u s)
  (hd:(x == ("__debug__" : Str))=false:=by decide):wpAny (model X.prog X.w) X.A (eval (.Name x pos) X.env) Q E s :=
 Calls.Name_function_global I.ok.kind hg (Calls.loadGlobal_global (by rw [I.ok.glob]; exact I.mod.glob.keeps I.bk) hm h) hd
theorem zaft {E:Value→Shared→Prop}{pins:List (Addr × Obj)}{s:Shared}{σ:St}{H:Hp}{x:Str}{u:Value}{pos:Pos}{Q:Value→Shared→Prop} (I:Inv X pins σ H s) (hg:Gl X x) (hm:X.mg x=none) (hv:bootBuiltins x=some u) (h:Q u s)
  (hn:x ≠ "__name__" := by decide) (hd:(x == ("__debug__" : Str))=false:=by decide):wpAny (model X.prog X.w) X.A (eval (.Name x pos) X.env) Q E s:=by
 obtain ⟨mb,h1,h2⟩:=I.mod.blt
 exact Calls.Name_function_global I.ok.kind hg (Calls.loadGlobal_builtin (by rw [I.ok.glob]; exact I.mod.glob.keeps I.bk) hm (by rw [I.ok.blt]; exact h1.keeps I.bk) ((h2 x hn).trans hv) h) hd
theorem zaj0 {x:Str}{v:V}{u:Value}{pos:Pos} (hg:Gl X x) (hm:X.mg x=some u) (r:RelV v u) (hd:(x == ("__debug__" : Str))=false:=by decide):PE X (.Name x pos) (tC v) :=
 fun _ _ _ H _ I h=>zagc I hg hm ⟨v,H,I,r,h⟩ hd
theorem zan6 {x:Str}{v:V}{u:Value}{pos:Pos} (hg:Gl X x) (hm:X.mg x=none) (hv:bootBuiltins x=some u) (r:RelV v u) (hn:x ≠ "__name__" := by decide) (hd:(x == ("__debug__" : Str))=false:=by decide):PE X (.Name x pos) (tC v) :=
 fun _ _ _ H _ I h=>zaft I hg hm hv ⟨v,H,I,r,h⟩ hn hd
variable {a b:Expr}{ta tb:TE}{pos:Pos}
def PC (X:Cx) (op:CmpOp) (a b:Expr) (t:TE):Prop :=
 ∀ (pins:List (Addr × Obj)) (s:Shared) (σ:St) (H:Hp) (Q:VK),Inv X pins σ H s→t σ H Q →
  wpAny (model X.prog X.w) X.A (eval a X.env) (fun v s₁=>wpAny (model X.prog X.w) X.A (eval b X.env) (fun u s₂=>wpAny (model X.prog X.w) X.A (compareOp op v u) (EP X pins σ Q) X.xe s₂) X.xe s₁) X.xe s
def tB (t:TE):TT:=fun σ H Q=>t σ H fun x H1=>∃ c,x=.bl c∧Q c H1
theorem zap5 {op:CmpOp}{t:TE} (h:PC X op a b t) (h1:behindInMarks op b=false:=by first | exact nobehind _ (by decide) (by decide) | rfl):PE X (.Compare a [op] [b] pos) t:=fun pins s σ H Q I hw=>wpAny_Compare1 (h pins s σ H Q I hw) h1
theorem zann {op:CmpOp}{t:TE} (h:PC X op a b t) (h1:behindInMarks op b=false:=by first | exact nobehind _ (by decide) (by decide) | rfl):PT X (.Compare a [op] [b] pos) (tB t):=by
 intro pins s σ H Q I hw
 refine wpAny_isTrue_Compare1 (thn (h pins s σ H _ I hw) fun v s1 h1=>thn h1 fun u s2 h2=>thn h2 fun c s3 ⟨x,H1,I1,r1,q1⟩=>?_) h1
 obtain ⟨d,rfl,q⟩:=q1
 cases r1
 exact wpAny_truthy_bool ⟨H1,I1,q⟩
theorem zap6 {e:Expr}{t:TE} (h:PE X e t) (he:∀ whole,isTrue e X.env whole=(do let v ← whole; standAt e.pos; holding [v] (truthy v)):=by intro _; rfl):PT X e (tB t):=by
 intro pins s σ H Q I hw
 refine isTrue_plain (thn (h pins s σ H _ I hw) fun v s1 ⟨x,H1,I1,r1,q1⟩=>?_) (he _)
 obtain ⟨d,rfl,q⟩:=q1
 cases r1
 exact wpAny_truthy_bool ⟨H1,I1,q⟩
variable {tA tB':TT}{rest:List Expr}
def tAnd (t u:TT):TT:=fun σ H Q=>t σ H fun c H1=>if c=true then u σ H1 Q else Q false H1
def tOr (t u:TT):TT:=fun σ H Q=>t σ H fun c H1=>if c=true then Q true H1 else u σ H1 Q
def tNot (t:TT):TT:=fun σ H Q=>t σ H fun c H1=>Q (!c) H1
theorem zan7 (ha:PT X a tA):PW X (.BoolOp .And [a] pos) tA:=by
 intro wh pins s σ H Q I h
 refine isTrue_and (thn (ha pins s σ H Q I h) fun c s1 e=>?_)
 cases c with
 | true=>exact isTrue_and_nil e
 | false=>exact e
theorem zap7 (ha:PT X a tA):PW X (.BoolOp .Or [a] pos) tA:=by
 intro wh pins s σ H Q I h
 refine isTrue_or (thn (ha pins s σ H Q I h) fun c s1 e=>?_)
 cases c with
 | false=>exact isTrue_or_nil e
 | true=>exact e
theorem zap8 (ha:PT X a tA) (hb:PW X (.BoolOp .And (b :: rest) pos) tB'):PW X (.BoolOp .And (a :: b :: rest) pos) (tAnd tA tB'):=by
 intro wh pins s σ H Q I h
 refine isTrue_and (thn (ha pins s σ H _ I h) fun c s1 ⟨H1,I1,q1⟩=>?_)
 cases c with
 | true=>exact hb wh pins s1 σ H1 Q I1 q1
 | false=>exact ⟨H1,I1,q1⟩
theorem zasg (ha:PT X a tA) (hb:PW X (.BoolOp .Or (b :: rest) pos) tB'):PW X (.BoolOp .Or (a :: b :: rest) pos) (tOr tA tB'):=by
 intro wh pins s σ H Q I h
 refine isTrue_or (thn (ha pins s σ H _ I h) fun c s1 ⟨H1,I1,q1⟩=>?_)
 cases c with
 | true=>exact ⟨H1,I1,q1⟩
 | false=>exact hb wh pins s1 σ H1 Q I1 q1
theorem zap9 (ha:PT X a tA):PT X (.UnaryOp .Not a pos) (tNot tA):=by
 intro pins s σ H Q I h
 exact isTrue_not (ha pins s σ H (fun c H1=>Q (!c) H1) I h)
def tAndV (ta tb:TE):TE:=fun σ H Q=>ta σ H fun x H1=>∃ c,x=.bl c∧if c=true then tb σ H1 Q else Q (.bl false) H1
def tNotV (ta:TE):TE:=fun σ H Q=>ta σ H fun x H1=>∃ c,x=.bl c∧Q (.bl (!c)) H1
theorem zaqa {op}{t:TE} (h:PE X a t):PE X (.BoolOp op [a] pos) t:=fun pins s σ H Q I hw=>BoolOp_one (h pins s σ H Q I hw)
theorem zaqb (ha:PE X a ta) (hb:PE X (.BoolOp .And (b :: rest) pos) tb):PE X (.BoolOp .And (a :: b :: rest) pos) (tAndV ta tb):=by
 intro pins s σ H Q I h
 refine BoolOp_and (thn (ha pins s σ H _ I h) fun v s1 ⟨x,H1,I1,r1,q1⟩=>?_)
 obtain ⟨c,rfl,q1⟩:=q1
 cases r1
 refine wpAny_truthy_bool ?_
 cases c with
 | true=>exact hb pins s1 σ H1 Q I1 q1
 | false=>exact ⟨.bl false,H1,I1,rfl,q1⟩
theorem zaqc (ha:PE X a ta):PE X (.UnaryOp .Not a pos) (tNotV ta):=by
 intro pins s σ H Q I h
 refine UnaryOp_ (thn (ha pins s σ H _ I h) fun v s1 ⟨x,H1,I1,r1,q1⟩=>?_)
 obtain ⟨c,rfl,q1⟩:=q1
 cases r1
 exact not_of (wpAny_truthy_bool ⟨.bl (!c),H1,I1,rfl,q1⟩)
def tIf (t:TT) (ta tb:TE):TE:=fun σ H Q=>t σ H fun c H1=>if c=true then ta σ H1 Q else tb σ H1 Q
theorem zamb {c:Expr} (hc:PT X c tA) (ha:PE X a ta) (hb:PE X b tb):PE X (.IfExp c a b pos) (tIf tA ta tb):=by
 intro pins s σ H Q I h
 refine wpAny_IfExp (thn (hc pins s σ H _ I h) fun d s1 ⟨H1,I1,q1⟩=>?_)
 cases d with
 | true=>exact ha pins s1 σ H1 Q I1 q1
 | false=>exact hb pins s1 σ H1 Q I1 q1
end
def SqL (K:PySem.W.Frag) (H:Hp) (a:Addr) (xs:List V):Prop :=
 Rd H a (.lst xs) ∨
  ∃ (o:Obj) (its:Array Value) (n:Nat),K.lookup a=some o∧o.cls=.type "list" ∧ o.dict=none∧o.data=.seq its n∧its.size≤sizeLine∧Vals xs its.toList
def SqT (K:PySem.W.Frag) (H:Hp) (a:Addr) (xs:List V):Prop :=
 Rd H a (.tup xs) ∨
  ∃ (o:Obj) (its:Array Value) (n:Nat),K.lookup a=some o∧o.cls=.type "tuple" ∧ o.data=.seq its n∧its.size≤sizeLine∧Vals xs its.toList
def absV:Value→Option V
 | .none=>some .non
 | .bool b=>some (.bl b)
 | .int i _=>some (.int i)
 | .str x _=>some (.str x)
 | .bytes b _=>some (.byt b)
 | .float b _=>some (.flt b)
 | .ref a=>some (.ref a)
 | .type n=>some (.ty n)
 | _=>none
theorem RelV.abs {x:V}{u:Value} (r:RelV x u):absV u=some x:=by
 cases x with
 | non=>cases r; rfl
 | bl _=>cases r; rfl
 | int _=>obtain ⟨t,rfl⟩:=r; rfl
 | str _=>obtain ⟨t,rfl⟩:=r; rfl
 | byt _=>obtain ⟨t,rfl⟩:=r; rfl
 | flt _=>obtain ⟨t,rfl⟩:=r; rfl
 | ref _=>cases r; rfl
 | ty _=>cases r; rfl
theorem RelV.inj {x y:V}{u:Value} (r:RelV x u) (q:RelV y u):x=y:=Option.some.inj (r.abs.symm.trans q.abs)
theorem Vals.inj:∀ {xs ys:List V}{us:List Value},Vals xs us→Vals ys us→xs=ys
 | _,_,_,.nil,.nil=>rfl
 | _,_,_,.cons r t,.cons r' t'=>by rw [r.inj r',Vals.inj t t']
section
variable {X:Cx}{pins:List (Addr × Obj)}{σ:St}{H:Hp}{s:Shared}{a:Addr}{xs ys:List V}
theorem SqL.of {K:PySem.W.Frag} (h:H a=some (.lst xs)):SqL K H a xs:=.inl (.inl h)
theorem SqT.of {K:PySem.W.Frag} (h:H a=some (.tup xs)):SqT K H a xs:=.inl (.inl h)
theorem Inv.list (I:Inv X pins σ H s) (h:SqL X.K H a xs):∃ its:List Value,Vals xs its∧PlainL s.heap a its.toArray∧xs.length≤sizeLine:=by
 rcases h with h | ⟨o,its,n,hk,hc,hd,hs,hz,r⟩
 ·obtain ⟨z,its,n,r,e⟩:=h.ok I.hok
  exact ⟨its,r,⟨_,n,e,rfl,rfl,rfl⟩,z⟩
 ·refine ⟨its.toList,r,⟨o,n,I.kIn a o hk,hc,hd,by simpa using hs⟩,?_⟩
  have e:=r.length
  simp only [Array.length_toList] at e
  omega
theorem Inv.tuple (I:Inv X pins σ H s) (h:SqT X.K H a xs):∃ its:List Value,Vals xs its∧IsTup s.heap a its.toArray∧xs.length≤sizeLine:=by
 rcases h with h | ⟨o,its,n,hk,hc,hs,hz,r⟩
 ·obtain ⟨z,its,r,p⟩:=h.ok I.hok
  exact ⟨its,r,p,z⟩
 ·refine ⟨its.toList,r,⟨o,I.kIn a o hk,hc,n,by simpa using hs⟩,?_⟩
  have e:=r.length
  simp only [Array.length_toList] at e
  omega
theorem Inv.list_inj (I:Inv X pins σ H s) (h:SqL X.K H a xs) (h':SqL X.K H a ys):xs=ys:=by
 obtain ⟨its,r,⟨o,n,e,_,_,d⟩,_⟩:=I.list h
 obtain ⟨its',r',⟨o',n',e',_,_,d'⟩,_⟩:=I.list h'
 rw [e] at e'; cases e'
 rw [d] at d'
 injection d' with d1 _
 have:its=its':=by simpa using congrArg Array.toList d1
 subst this
 exact r.inj r'
theorem Inv.tuple_inj (I:Inv X pins σ H s) (h:SqT X.K H a xs) (h':SqT X.K H a ys):xs=ys:=by
 obtain ⟨its,r,⟨o,e,_,n,d⟩,_⟩:=I.tuple h
 obtain ⟨its',r',⟨o',e',_,n',d'⟩,_⟩:=I.tuple h'
 rw [e] at e'; cases e'
 rw [d] at d'
 injection d' with d1 _
 have:its=its':=by simpa using congrArg Array.toList d1
 subst this
 exact r.inj r'
end
abbrev Cx.wish (X:Cx) (E:Value→Shared→Prop):Cx:={ X with xe:=E }
abbrev Cx.nox (X:Cx):Cx:=X.wish fun _ _=>False
theorem Cx.Ok.wish {X:Cx} (ok:X.Ok) (E:Value→Shared→Prop):(X.wish E).Ok :=
 ⟨ok.mod,ok.kind,ok.glob,ok.blt,ok.above,ok.inj,ok.has,ok.cab,ok.hd,ok.frames,ok.stk,ok.exf,ok.bs,ok.bsz,ok.noex,ok.exfs,ok.funs,ok.frf⟩
theorem Cx.Ok.unwish {X:Cx}{E:Value→Shared→Prop} (ok:(X.wish E).Ok):X.Ok :=
 ⟨ok.mod,ok.kind,ok.glob,ok.blt,ok.above,ok.inj,ok.has,ok.cab,ok.hd,ok.frames,ok.stk,ok.exf,ok.bs,ok.bsz,ok.noex,ok.exfs,ok.funs,ok.frf⟩
section
variable {X:Cx}{pins:List (Addr × Obj)}{σ:St}{H:Hp}{s:Shared}{E:Value→Shared→Prop}
theorem Inv.wish (I:Inv X pins σ H s) (E:Value→Shared→Prop):Inv (X.wish E) pins σ H s:=⟨I.ok.wish E,I.os,I.bare,I.base,I.loc,I.cell,I.free,I.freeC,I.pin,I.hok,I.len⟩
theorem Inv.unwish (I:Inv (X.wish E) pins σ H s):Inv X pins σ H s:=⟨I.ok.unwish,I.os,I.bare,I.base,I.loc,I.cell,I.free,I.freeC,I.pin,I.hok,I.len⟩
theorem SP.unwish {D:Ends}{f:Flow}{s':Shared} (h:SP (X.wish E) pins D f s'):SP X pins D f s':=by
 cases f with
 | next=>obtain ⟨σ',H',I,q⟩:=h; exact ⟨σ',H',I.unwish,q⟩
 | brk=>obtain ⟨σ',H',I,q⟩:=h; exact ⟨σ',H',I.unwish,q⟩
 | cont=>obtain ⟨σ',H',I,q⟩:=h; exact ⟨σ',H',I.unwish,q⟩
 | ret u=>obtain ⟨v,σ',H',I,r,q⟩:=h; exact ⟨v,σ',H',I.unwish,r,q⟩
theorem PSs.nox {st:List Stmt}{t:TS} (h:PSs X.nox st t):PSs X st t:=fun pins s σ H D I hw =>
 wpAny_mono (h pins s σ H D (I.wish _) hw) (fun _ _ q=>q.unwish) fun _ _ z=>False.elim z
end
section
variable {X:Cx}{st:Stmt}{rest:List Stmt}{t u:TS}{e:Expr}{te:TE}{pos:Pos}
def tNext:TS:=fun D σ H=>D.nx σ H
def tSeq (t u:TS):TS:=fun D σ H=>t { D with nx:=u D } σ H
theorem zan8:PSs X [] tNext:=fun _ _ σ H _ I h=>wpAny_execs_nil ⟨σ,H,I,h⟩
theorem zaio (h1:PS X st t) (h2:PSs X rest u):PSs X (st :: rest) (tSeq t u):=by
 intro pins s σ H D I h
 refine wpAny_execs_cons (thn (h1 pins s σ H { D with nx:=u D } I h) fun f s1 q=>?_)
 cases f with
 | next =>
  obtain ⟨σ',H',I',q⟩:=q
  exact h2 pins s1 σ' H' D I' q
 | ret v=>exact q
 | brk=>exact q
 | cont=>exact q
theorem zan9 (h1:PS X st t):PSs X [st] t:=by
 intro pins s σ H D I h
 refine wpAny_execs_cons (thn (h1 pins s σ H D I h) fun f s1 q=>?_)
 cases f with
 | next=>exact wpAny_execs_nil q
 | ret v=>exact q
 | brk=>exact q
 | cont=>exact q
theorem Inv.quiet {pins:List (Addr × Obj)}{σ:St}{H:Hp}{s:Shared} (I:Inv X pins σ H s):interactive X.env=false:=by simp [interactive,I.ok.kind]
def tDrop (te:TE):TS:=fun D σ H=>te σ H fun _ H1=>D.nx σ H1
theorem zaoa (he:PE X e te) (hs:swapsWith e none pos.line X.env=pure false:=by rfl):PS X (.Expr e pos) (tDrop te):=by
 intro pins s σ H D I h
 exact wpAny_Expr_any (thn (he pins s σ H _ I h) fun v s1 ⟨x,H1,I1,r1,q1⟩=>⟨σ,H1,I1,q1⟩) I.quiet hs
def tRet (te:TE):TS:=fun D σ H=>te σ H D.rt
theorem zaqd (he:PE X e te):PS X (.Return (some e) pos) (tRet te):=by
 intro pins s σ H D I h
 exact wpAny_Return_some (thn (he pins s σ H _ I h) fun v s1 ⟨x,H1,I1,r1,q1⟩=>⟨x,σ,H1,I1,r1,q1⟩)
def tIfS (c:TT) (t u:TS):TS:=fun D σ H=>c σ H fun b H1=>if b=true then t D σ H1 else u D σ H1
theorem zash {c:Expr}{a b:List Stmt}{tc:TT} (hc:PT X c tc) (ha:PSs X a t) (hb:PSs X b u):PS X (.If c a b pos) (tIfS tc t u):=by
 intro pins s σ H D I h
 refine wpAny_If (thn (hc pins s σ H _ I h) fun d s1 ⟨H1,I1,q1⟩=>?_)
 cases d with
 | true=>exact ha pins s1 σ H1 D I1 q1
 | false=>exact hb pins s1 σ H1 D I1 q1
def tNever:TS:=fun _ _ _=>False
theorem zamc:PS X st tNever:=fun _ _ _ _ _ _ h=>h.elim
end
abbrev TG:=V→St→Hp→(St→Hp→Prop)→Prop
abbrev TGs:=List V→St→Hp→(St→Hp→Prop)→Prop
def PG (X:Cx) (target:Expr) (t:TG):Prop :=
 ∀ (pins:List (Addr × Obj)) (s:Shared) (σ:St) (H:Hp) (v:V) (u:Value) (Q:St→Hp→Prop),Inv X pins σ H s→RelV v u→t v σ H Q →
  wpAny (model X.prog X.w) X.A (assign target X.env u) (fun _ s'=>∃ σ' H',Inv X pins σ' H' s'∧Q σ' H') X.xe s
def PGs (X:Cx) (ts:List Expr) (t:TGs):Prop :=
 ∀ (pins:List (Addr × Obj)) (s:Shared) (σ:St) (H:Hp) (vs:List V) (us:List Value) (Q:St→Hp→Prop),Inv X pins σ H s→Vals vs us→t vs σ H Q →
  wpAny (model X.prog X.w) X.A (assignInOrder ((assignEach ts X.env).map (·.2)) us) (fun _ s'=>∃ σ' H',Inv X pins σ' H' s'∧Q σ' H') X.xe s
abbrev TSet:=V→V→V→Hp→(Hp→Prop)→Prop
def PSet (X:Cx) (t:TSet):Prop :=
 ∀ (pins:List (Addr × Obj)) (s:Shared) (σ:St) (H:Hp) (o i v:V) (ov iv u:Value) (Q:Hp→Prop),Inv X pins σ H s→RelV o ov→RelV i iv→RelV v u→t o i v H Q →
  wpAny (model X.prog X.w) X.A (setItem ov iv u) (fun _ s'=>∃ H',Inv X pins σ H' s'∧Q H') X.xe s
abbrev TIp:=V→V→Hp→VK→Prop
def PIp (X:Cx) (op:Operator) (t:TIp):Prop :=
 ∀ (pins:List (Addr × Obj)) (s:Shared) (σ:St) (H:Hp) (x y:V) (v u:Value) (Q:VK),Inv X pins σ H s→RelV x v→RelV y u→t x y H Q →
  wpAny (model X.prog X.w) X.A (inplaceOp op v u) (EP X pins σ Q) X.xe s
section
variable {X:Cx}{pos:Pos}
def gName (i:Nat):TG:=fun v σ H Q=>Q (σ.set i (some v)) H
theorem zaob {i:Nat}{x:Str} (hN:X.N.Nodup) (hi:X.N[i]?=some x) (hx:Loc X.env.scope x) (hf:X.fn x=true∨X.env.scope.names.lookup x=some .local:=by first | exact .inl rfl | exact .inr rfl | assumption):PG X (.Name x pos) (gName i):=by
 intro pins s σ H v u Q I r h
 exact wpAny_assign_Name (zagb I hN hi hx r (fun s' I'=>⟨_,H,I',h⟩) hf)
def gNil:TGs:=fun vs σ H Q=>vs=[]∧Q σ H
def gCons (t:TG) (u:TGs):TGs:=fun vs σ H Q=>∃ v r,vs=v :: r∧t v σ H fun σ' H'=>u r σ' H' Q
theorem zaoc:PGs X [] gNil:=by
 intro pins s σ H vs us Q I r h
 obtain ⟨e,h⟩:=h
 subst e
 cases r
 exact assignInOrder_nil ⟨σ,H,I,h⟩
theorem zamd {e:Expr}{es:List Expr}{t:TG}{u:TGs} (h1:PG X e t) (h2:PGs X es u)
  (hs:(assignEach (e :: es) X.env).map (·.2)=assign e X.env :: (assignEach es X.env).map (·.2):=by rfl):PGs X (e :: es) (gCons t u):=by
 intro pins s σ H vs us Q I r h
 obtain ⟨v,vr,e1,h⟩:=h
 subst e1
 cases r with
 | cons r rr =>
  rw [hs]
  refine assignInOrder_cons (thn (h1 pins s σ H _ _ _ I r h) fun _ s1 ⟨σ1,H1,I1,q1⟩=>?_)
  exact h2 pins s1 σ1 H1 _ _ Q I1 rr q1
def gTup (K:PySem.W.Frag) (n:Nat) (t:TGs):TG:=fun v σ H Q=>∃ a xs,v=.ref a∧SqT K H a xs∧xs.length=n∧t xs σ H Q
theorem zano {es:List Expr}{k:Nat}{t:TGs}{n:Nat} (hc:X.calm=true) (h:PGs X es t)
  (hn:(assignEach es X.env).length=n:=by rfl) (hst:(assignEach es X.env).findIdx? (·.1)=none:=by rfl):PG X (.Tuple es k pos) (gTup X.K n t):=by
 intro pins s σ H v u Q I r hw
 obtain ⟨a,xs,e1,hq,hl,hw⟩:=hw
 subst e1
 cases r
 obtain ⟨its,rv,ht,hz⟩:=I.tuple hq
 refine assign_Tuple_tuple (I.ok.hd hc) ht (by simp [hn,← hl,rv.length]) hst fun h' hx=>?_
 have I1:Inv X pins σ H { s with heap:=h' }:=I.kept (t':=s.toks) fun b o e=>hx b o (Nat.ne_of_lt (Heap.lt_size e)) e
 exact h pins _ σ H xs _ Q I1 (by simpa using rv) hw
def gSub (to ti:TE) (t:TSet):TG:=fun v σ H Q=>to σ H fun o H1=>ti σ H1 fun i H2=>t o i v H2 fun H3=>Q σ H3
theorem zaqe {o i:Expr}{to ti:TE}{t:TSet} (ho:PE X o to) (hi:PE X i ti) (hs:PSet X t)
  (ha:∀ v,assign (.Subscript o i pos) X.env v=(do
   let ov ← holding [v] (eval o X.env)
   let iv ← holding [v,ov] (eval i X.env)
   standAt pos
   holding [v,ov,iv] (setItem ov iv v)
   release [v,ov,iv] []):=by intro _; rfl):PG X (.Subscript o i pos) (gSub to ti t):=by
 intro pins s σ H v u Q I r h
 rw [ha]
 refine wpAny_bind (wpAny_holding (thn (ho pins s σ H _ I h) fun ov s1 ⟨x,H1,I1,r1,q1⟩=>?_))
 refine wpAny_bind (wpAny_holding (thn (hi pins s1 σ H1 _ I1 q1) fun iv s2 ⟨y,H2,I2,r2,q2⟩=>?_))
 refine wpAny_bind (wpAny_standAt (wpAny_bind (wpAny_holding (thn (hs pins s2 σ H2 x y v ov iv u _ I2 r1 r2 r q2) fun _ s3 ⟨H3,I3,q3⟩=>?_))))
 exact wpAny_release ⟨σ,H3,I3,q3⟩
def tAsg (te:TE) (g:TG):TS:=fun D σ H=>te σ H fun x H1=>g x σ H1 D.nx
theorem zaqf {tg e:Expr}{te:TE}{g:TG} (he:PE X e te) (hg:PG X tg g) (hs:swapsWithSole [tg] e pos.line X.env=pure false:=by rfl) (hw:swappedStores [tg] e X.env=pure none:=by rfl)
  (h1:(assignEach [tg] X.env).map (·.2)=[assign tg X.env]:=by rfl):PS X (.Assign [tg] e pos) (tAsg te g):=by
 intro pins s σ H D I h
 refine wpAny_Assign_stores (thn (he pins s σ H _ I h) fun v s1 ⟨x,H1,I1,r1,q1⟩=>?_) hs hw
 rw [h1]
 exact thn (hg pins s1 σ H1 x v _ I1 r1 q1) fun _ s2 q=>q
theorem zaqg {i:Nat}{x:Str}{e:Expr}{te:TE}{pos':Pos} (hN:X.N.Nodup) (hi:X.N[i]?=some x) (hx:Loc X.env.scope x) (he:PE X e te) (hs:swapsWith e (some (.Name x pos')) pos.line X.env=pure false:=by rfl) (hf:X.fn x=true∨X.env.scope.names.lookup x=some .local:=by first | exact .inl rfl | exact .inr rfl | assumption) :
  PS X (.Assign [.Name x pos'] e pos) (tAsg te (gName i)):=by
 intro pins s σ H D I h
 refine wpAny_Assign_Name (thn (he pins s σ H _ I h) fun v s1 ⟨y,H1,I1,r1,q1⟩=>?_) hs
 exact zagb I1 hN hi hx r1 (fun s2 I2=>⟨_,H1,I2,q1⟩) hf
def tAug (i:Nat) (te:TE) (ti:TIp):TS:=fun D σ H=>∃ x,σ[i]?=some (some x)∧te σ H fun y H1=>ti x y H1 fun z H2=>D.nx (σ.set i (some z)) H2
theorem zaqh {i:Nat}{x:Str}{e:Expr}{te:TE}{op:Operator}{ti:TIp}{pos':Pos} (hN:X.N.Nodup) (hi:X.N[i]?=some x) (hx:Loc X.env.scope x) (he:PE X e te) (ho:PIp X op ti) (hf:X.fn x=true∨X.env.scope.names.lookup x=some .local:=by first | exact .inl rfl | exact .inr rfl | assumption) :
  PS X (.AugAssign (.Name x pos') op e pos) (tAug i te ti):=by
 intro pins s σ H D I h
 obtain ⟨v,e1,h⟩:=h
 obtain ⟨m,hn,hl⟩:=I.loc
 have vis:Vis X.env.scope x:=by rcases hx with k | k; exact .inl k; exact .inr (.inl k)
 obtain ⟨u,r,l⟩:=hl i x v hi e1 vis
 refine wpAny_AugAssign_Name ?_
 have go:wpAny (model X.prog X.w) X.A (eval e X.env) (fun w s₂=>wpAny (model X.prog X.w) X.A (inplaceOp op u w) (fun r s₃=>wpAny (model X.prog X.w) X.A (storeName X.env x r) (fun _=>SP X pins D .next) X.xe s₃) X.xe s₂) X.xe s:=by
  refine thn (he pins s σ H _ I h) fun w s1 ⟨y,H1,I1,r1,q1⟩=>?_
  refine thn (ho pins s1 σ H1 v y u w _ I1 r r1 q1) fun z s2 ⟨zv,H2,I2,r2,q2⟩=>?_
  exact zagb I2 hN hi hx r2 (fun s3 I3=>⟨_,H2,I3,q2⟩) hf
 rcases l with ⟨hk,hm⟩ | ⟨hk,c,hc,hcell⟩
 ·exact wpAny_loadName_local I.ok.kind hk hn hm go
 ·rcases hk with hk | hk
  ·exact wpAny_loadName_cell I.ok.kind hk hc hcell go
  ·rcases hx with k | k
   ·have:X.env.scope.names.lookup x=some .free:=hk
    rw [k] at this; cases this
   ·have:X.env.scope.names.lookup x=some .free:=hk
    rw [k] at this; cases this
def ipI (f:Int→Int→Int):TIp:=fun x y H Q=>∃ i j,x=.int i∧y=.int j∧Q (.int (f i j)) H
theorem zaqi:PIp X .Add (ipI fun i j=>i + j):=by
 intro pins s σ H x y v u Q I r1 r2 h
 obtain ⟨i,j,e1,e2,q⟩:=h
 subst e1; subst e2
 obtain ⟨t,rfl⟩:=r1
 obtain ⟨t',rfl⟩:=r2
 exact iadd_int ⟨.int _,H,I.tok _,⟨_,rfl⟩,q⟩
end
structure It where
 go:Nat→Hp→Prop
 yld:Nat→Hp→V→Hp→Prop
 stop:Nat→Hp→Prop
def FpOk (X:Cx) (pins:List (Addr × Obj)) (H:Hp) (b:Addr):Prop :=
 H b=none∧b≠X.env.locals∧b ∉ X.fs∧(b∈X.ex∨X.s₀.heap.objs.size≤b)∧(∀ x c,X.env.cells.lookup x=some c→c≠b)∧∀ p∈X.pn++pins,p.1≠b
theorem Inv.fpOk {X:Cx}{pins:List (Addr × Obj)}{σ:St}{H H':Hp}{s:Shared}{b:Addr} (I:Inv X pins σ H s) (hb:s.heap.objs.size≤b) (hn:H' b=none):FpOk X pins H' b:=by
 refine ⟨hn,Nat.ne_of_gt (Nat.lt_of_lt_of_le I.lt hb),I.nofs hb,.inr (Nat.le_trans I.sz hb),fun x c e z=>?_,fun p hp z=>?_⟩
 ·obtain ⟨v,q⟩:=I.cell x c e
  exact absurd (Nat.lt_of_lt_of_le q.lt (by rw [z]; exact hb)) (Nat.lt_irrefl _)
 ·exact absurd (Nat.lt_of_lt_of_le (Heap.lt_size (I.pin p hp).1) (by rw [z]; exact hb)) (Nat.lt_irrefl _)
structure Turn (P:Program) (w:World) (K:PySem.W.Frag) (tg:Expr) (J:It) (fp:List Addr) (it:Addr) (tn:Nat→Heap→Prop):Prop where
 mem:it∈fp
 obj:∀ i h,tn i h→∀ b∈fp,∃ o,h.get? b=some o∧∀ v,o.data≠.cell v
 keep:∀ i h h',tn i h→(∀ b∈fp,∀ o,h.get? b=some o→h'.get? b=some o)→tn i h'
 item:∀ (X:Cx),X.prog=P→X.w=w→X.K=K→X.calm=true→∀ (i:Nat) (pins:List (Addr × Obj)) (s:Shared) (σ:St) (H:Hp) (E:Value→Shared→Prop),Inv X pins σ H s→(∀ b∈fp,FpOk X pins H b)→tn i s.heap→J.go i H →
  wpAny (model P w) X.A (pyNext (.ref it)) (fun r s1=>∃ u,r=some u ∧
   wpAny (model P w) X.A (letOwnedTupleGo tg (.ref it) u) (fun _ s2=>∃ x H',Inv X pins σ H' s2∧RelV x u∧J.yld i H x H'∧tn (i + 1) s2.heap∧∀ b∈fp,H' b=none) E s1) E s
 done:∀ (X:Cx),X.prog=P→X.w=w→X.K=K→X.calm=true→∀ (i:Nat) (pins:List (Addr × Obj)) (s:Shared) (σ:St) (H:Hp) (E:Value→Shared→Prop),Inv X pins σ H s→(∀ b∈fp,FpOk X pins H b)→tn i s.heap→J.stop i H →
  wpAny (model P w) X.A (pyNext (.ref it)) (fun r s1=>r=none∧Inv X pins σ H s1) E s
 self:∀ (A:Around) (i:Nat) (s:Shared) (Q:Value→Shared→Prop) (E:Value→Shared→Prop),tn i s.heap→Q (.ref it) s→wpAny (model P w) A (pyIter (.ref it)) Q E s
abbrev TI:=St→Hp→(It→Hp→Prop)→Prop
def PIE (X:Cx) (pins:List (Addr × Obj)) (σ:St) (tg:Expr) (R:It→Hp→Prop) (itv:Value) (s2:Shared):Prop :=
 ∃ (it:Addr) (fp:List Addr) (tn:Nat→Heap→Prop) (J:It) (H':Hp),itv=.ref it∧Inv X pins σ H' s2∧Turn X.prog X.w X.K tg J fp it tn∧tn 0 s2.heap∧(∀ b∈fp,FpOk X pins H' b)∧R J H'
def PI (X:Cx) (tg iter:Expr) (wi:TI):Prop :=
 ∀ (pins:List (Addr × Obj)) (s:Shared) (σ:St) (H:Hp) (R:It→Hp→Prop),Inv X pins σ H s→wi σ H R →
  wpAny (model X.prog X.w) X.A (eval iter X.env) (fun v s1=>wpAny (model X.prog X.w) X.A (pyIter v) (PIE X pins σ tg R) X.xe s1) X.xe s
theorem zame {M:Model}{A:Around}{E:Value→Shared→Prop}{s:Shared}{tg:Expr}{it:Addr}{u:Value}{o:Obj}{n:String}{vs:Array Value}{Q:Unit→Shared→Prop} (ho:s.heap.get? it=some o) (hc:o.cls=.type n) (hd:o.data=.fields vs)
  (hn:["enumerate", "zip", "dict_itemiterator", "dict_reverseitemiterator", "odict_iterator", "itertools.zip_longest", "itertools.pairwise"].contains n=false) (hQ:Q () s):wpAny M A (letOwnedTupleGo tg (.ref it) u) Q E s:=by
 unfold letOwnedTupleGo
 cases tg <;> first
  | exact wpAny_pure hQ
  | (cases u <;> first
    | exact wpAny_pure hQ
    | (refine wpAny_bind (wpAny_load ho ?_)
       rw [hc,hd]
       show wpAny M A (if (["enumerate", "zip", "dict_itemiterator", "dict_reverseitemiterator", "odict_iterator", "itertools.zip_longest", "itertools.pairwise"].contains n && vs[0]? == some (rawInt _))=true then _ else _) Q E s
       rw [if_neg (by intro h; rw [hn,Bool.false_and] at h; cases h)]
       exact wpAny_pure hQ))
def Itl (K:PySem.W.Frag) (a:Addr):It :=
 ⟨fun i H=>∃ xs x,SqL K H a xs∧xs[i]?=some x,fun i H x H'=>H'=H∧∀ xs,SqL K H a xs→xs[i]?=some x,fun i H=>∃ xs,SqL K H a xs∧xs.length≤i⟩
def Itt (K:PySem.W.Frag) (a:Addr):It :=
 ⟨fun i H=>∃ xs x,SqT K H a xs∧xs[i]?=some x,fun i H x H'=>H'=H∧∀ xs,SqT K H a xs→xs[i]?=some x,fun i H=>∃ xs,SqT K H a xs∧xs.length≤i⟩
def Itr (lo:Int) (n:Nat):It:=⟨fun i _=>i < n,fun i H x H'=>H'=H∧x=.int (lo + i),fun i _=>n≤i⟩
theorem zaj1 {P:Program}{w:World}{K:PySem.W.Frag}{tg:Expr} (a it:Addr):Turn P w K tg (Itl K a) [it] it (fun i h=>h.IsListIter it a i) where
 mem:=by simp
 obj:=fun i h st b hb=>by
  have e:b=it:=by simpa using hb
  subst e
  obtain ⟨o,e,c,d⟩:=st
  exact ⟨o,e,fun v z=>by rw [d] at z; cases z⟩
 keep:=fun i h h' st k=>st.at fun o e=>k it (by simp) o e
 item:=by
  intro X hP hw hK hc i pins s σ H E I hf st hg
  subst hP hw hK
  obtain ⟨xs,x,hq,hx⟩:=hg
  obtain ⟨its,rv,p,hz⟩:=I.list hq
  obtain ⟨u,hu,ru⟩:=rv.get hx
  obtain ⟨f0,f1,f2,f3,f4,f5⟩:=hf it (by simp)
  refine wpAny_pyNext_list_item st p.isList (x:=u) (by simpa using hu) fun h' st' sb=>?_
  have I1:Inv X pins σ H { s with heap:=h' }:=I.turned (t':=s.toks) (fun b o hb e=>(sb.2 b hb).trans e) f0 f1 f3 f4 f5
  obtain ⟨o,e,c,d⟩:=id st'
  exact ⟨u,rfl,zame (s:={ s with heap:=h' }) e c d (by decide) ⟨x,H,I1,ru,⟨rfl,fun ys hy=>by rw [I.list_inj hy hq]; exact hx⟩,st',fun b hb=>(hf b hb).1⟩⟩
 done:=by
  intro X hP hw hK hc i pins s σ H E I hf st hg
  subst hP hw hK
  obtain ⟨xs,hq,hx⟩:=hg
  obtain ⟨its,rv,p,hz⟩:=I.list hq
  obtain ⟨f0,f1,f2,f3,f4,f5⟩:=hf it (by simp)
  have hl:=rv.length
  exact wpAny_pyNext_list_end (I.ok.hd hc) st p.isList (by simp; omega) fun h' eb=>⟨rfl,I.turned (t':=s.toks) (fun b o hb e=>eb b o hb e) f0 f1 f3 f4 f5⟩
 self:=fun _ _ _ _ _ st h=>wpAny_pyIter_listiter st h
theorem zajc {P:Program}{w:World}{K:PySem.W.Frag}{tg:Expr} (a it:Addr):Turn P w K tg (Itt K a) [it] it (fun i h=>h.IsTupleIter it a i) where
 mem:=by simp
 obj:=fun i h st b hb=>by
  have e:b=it:=by simpa using hb
  subst e
  obtain ⟨o,e,c,d⟩:=st
  exact ⟨o,e,fun v z=>by rw [d] at z; cases z⟩
 keep:=fun i h h' st k=>st.at fun o e=>k it (by simp) o e
 item:=by
  intro X hP hw hK hc i pins s σ H E I hf st hg
  subst hP hw hK
  obtain ⟨xs,x,hq,hx⟩:=hg
  obtain ⟨its,rv,p,hz⟩:=I.tuple hq
  obtain ⟨u,hu,ru⟩:=rv.get hx
  obtain ⟨f0,f1,f2,f3,f4,f5⟩:=hf it (by simp)
  refine wpAny_pyNext_tuple_item st (show s.heap.IsTuple a its.toArray from p) (x:=u) (by simpa using hu) fun h' st' sb=>?_
  have I1:Inv X pins σ H { s with heap:=h' }:=I.turned (t':=s.toks) (fun b o hb e=>(sb.2 b hb).trans e) f0 f1 f3 f4 f5
  obtain ⟨o,e,c,d⟩:=id st'
  exact ⟨u,rfl,zame (s:={ s with heap:=h' }) e c d (by decide) ⟨x,H,I1,ru,⟨rfl,fun ys hy=>by rw [I.tuple_inj hy hq]; exact hx⟩,st',fun b hb=>(hf b hb).1⟩⟩
 done:=by
  intro X hP hw hK hc i pins s σ H E I hf st hg
  subst hP hw hK
  obtain ⟨xs,hq,hx⟩:=hg
  obtain ⟨its,rv,p,hz⟩:=I.tuple hq
  obtain ⟨f0,f1,f2,f3,f4,f5⟩:=hf it (by simp)
  have hl:=rv.length
  exact wpAny_pyNext_tuple_end (I.ok.hd hc) st (show s.heap.IsTuple a its.toArray from p) (by simp; omega) fun h' eb=>⟨rfl,I.turned (t':=s.toks) (fun b o hb e=>eb b o hb e) f0 f1 f3 f4 f5⟩
 self:=fun _ _ _ _ _ st h=>wpAny_pyIter_tupleiter st h
theorem zajd {P:Program}{w:World}{K:PySem.W.Frag}{tg:Expr} (it:Addr) (lo:Int) (n:Nat):Turn P w K tg (Itr lo n) [it] it (fun i h=>IsRangeIter h it (lo + (i:Nat) * 1) ((n:Int) - (i:Nat)) 1) where
 mem:=by simp
 obj:=fun i h st b hb=>by
  have e:b=it:=by simpa using hb
  subst e
  exact ⟨_,st,fun v z=>by
   have z':Data.fields _=Data.cell v:=z
   cases z'⟩
 keep:=fun i h h' st k=>k it (by simp) _ st
 item:=by
  intro X hP hw hK hc i pins s σ H E I hf st hg
  subst hP hw hK
  obtain ⟨f0,f1,f2,f3,f4,f5⟩:=hf it (by simp)
  have W:=Walks.range (prog:=X.prog) (w:=X.w) (I.ok.hd hc) it lo 1 n
  refine W.item i s _ _ hg st fun v h' tk hv st' kk=>?_
  obtain ⟨t,rfl⟩:=hv
  have I1:Inv X pins σ H { s with heap:=h',toks:=tk }:=I.turned (fun b o hb e=>kk b o (by simpa using hb) e) f0 f1 f3 f4 f5
  refine ⟨_,rfl,zame (s:={ s with heap:=h',toks:=tk }) (n := "range_iterator") st' rfl rfl (by decide) ⟨.int (lo + i),H,I1,⟨t,?_⟩,⟨rfl,rfl⟩,st',fun b hb=>(hf b hb).1⟩⟩
  rw [Int.mul_one]
 done:=by
  intro X hP hw hK hc i pins s σ H E I hf st hg
  subst hP hw hK
  obtain ⟨f0,f1,f2,f3,f4,f5⟩:=hf it (by simp)
  exact wpAny_pyNext_range_end (I.ok.hd hc) st (by have:n≤i:=hg; omega) fun h' eb=>⟨rfl,I.turned (t':=s.toks) (fun b o hb e=>eb b o hb e) f0 f1 f3 f4 f5⟩
 self:=fun _ _ _ _ _ st h=>wpAny_pyIter_rangeiter st h
section
variable {X:Cx}{tg:Expr}
def iList (K:PySem.W.Frag) (tl:TE):TI:=fun σ H R=>tl σ H fun x H1=>∃ a,x=.ref a∧(∃ xs,SqL K H1 a xs)∧R (Itl K a) H1
def iTup (K:PySem.W.Frag) (tl:TE):TI:=fun σ H R=>tl σ H fun x H1=>∃ a,x=.ref a∧(∃ xs,SqT K H1 a xs)∧R (Itt K a) H1
theorem zaj2 {l:Expr}{tl:TE} (hl:PE X l tl):PI X tg l (iList X.K tl):=by
 intro pins s σ H R I h
 refine thn (hl pins s σ H _ I h) fun v s1 ⟨x,H1,I1,r1,q1⟩=>?_
 obtain ⟨a,e,⟨xs,hq⟩,q⟩:=q1
 subst e
 cases r1
 obtain ⟨its,rv,p,hz⟩:=I1.list hq
 refine wpAny_pyIter_list p.isList ?_
 refine ⟨s1.heap.objs.size,[s1.heap.objs.size],_,_,H1,rfl,I1.kept (t':=s1.toks) fun b o e=>Heap.get?_push_of_some _ e,zaj1 a _,⟨_,Heap.get?_push_size _ rfl,rfl,rfl⟩,fun b hb=>?_,q⟩
 have e:b=s1.heap.objs.size:=by simpa using hb
 subst e
 exact I1.fpOk (Nat.le_refl _) (I1.hok.fresh (Nat.le_refl _))
theorem zanp {l:Expr}{tl:TE} (hl:PE X l tl):PI X tg l (iTup X.K tl):=by
 intro pins s σ H R I h
 refine thn (hl pins s σ H _ I h) fun v s1 ⟨x,H1,I1,r1,q1⟩=>?_
 obtain ⟨a,e,⟨xs,hq⟩,q⟩:=q1
 subst e
 cases r1
 obtain ⟨its,rv,p,hz⟩:=I1.tuple hq
 refine wpAny_pyIter_tuple (show s1.heap.IsTuple a its.toArray from p) ?_
 refine ⟨s1.heap.objs.size,[s1.heap.objs.size],_,_,H1,rfl,I1.kept (t':=s1.toks) fun b o e=>Heap.get?_push_of_some _ e,zajc a _,⟨_,Heap.get?_push_size _ rfl,rfl,rfl⟩,fun b hb=>?_,q⟩
 have e:b=s1.heap.objs.size:=by simpa using hb
 subst e
 exact I1.fpOk (Nat.le_refl _) (I1.hok.fresh (Nat.le_refl _))
theorem zamf {pins:List (Addr × Obj)}{σ:St}{H:Hp}{s:Shared}{R:It→Hp→Prop}{E:Value→Shared→Prop}{lo hi:Int}{t u v:Tok}{tk:Nat} (I:Inv X pins σ H s) (h1:-(2 ^ 62)≤lo) (h2:lo < 2 ^ 62) (h3:-(2 ^ 62)≤hi) (h4:hi < 2 ^ 62)
  (q:R (Itr lo (hi - lo).toNat) H):wpAny (model X.prog X.w) X.A (pyIter (.ref s.heap.objs.size)) (PIE X pins σ tg R) E { s with heap:=s.heap.push { cls:=.type "range",data:=.fields #[.int lo t,.int hi u,.int 1 v] },toks:=tk }:=by
 refine wpAny_pyIter_range (IsRange.new ..) (small_one h1 h2 h3 h4) ?_
 have I1:Inv X pins σ H { s with heap:=s.heap.push { cls:=.type "range",data:=.fields #[.int lo t,.int hi u,.int 1 v] },toks:=tk }:=I.kept fun b o e=>Heap.get?_push_of_some _ e
 refine ⟨(s.heap.push { cls:=.type "range",data:=.fields #[.int lo t,.int hi u,.int 1 v] }).objs.size,[(s.heap.push { cls:=.type "range",data:=.fields #[.int lo t,.int hi u,.int 1 v] }).objs.size],_,_,H,rfl,
  I1.kept (t':=tk) fun b o e=>Heap.get?_push_of_some _ e,zajd _ lo (hi - lo).toNat,?_,fun b hb=>?_,q⟩
 ·have e1:lo + ((0:Nat):Int) * 1=lo:=by simp
  have e2:(((hi - lo).toNat:Nat):Int) - ((0:Nat):Int)=Builtin.Range.rangeSize lo hi 1:=by rw [rangeSize_one]; split <;> omega
  show IsRangeIter _ _ (lo + ((0:Nat):Int) * 1) ((((hi - lo).toNat:Nat):Int) - ((0:Nat):Int)) 1
  rw [e1,e2]
  exact Heap.get?_push_size _ rfl
 ·have e:b=(s.heap.push { cls:=.type "range",data:=.fields #[.int lo t,.int hi u,.int 1 v] }).objs.size:=by simpa using hb
  subst e
  exact I1.fpOk (Nat.le_refl _) (I1.hok.fresh (Nat.le_refl _))
def iRng1 (ta:TA):TI:=fun σ H R=>ta σ H fun vs H1=>∃ j:Int,vs=[.int j]∧-(2 ^ 62)≤j∧j < 2 ^ 62∧R (Itr 0 j.toNat) H1
theorem zaj3 {a:Expr}{ta:TA}{p pos:Pos} (hg:Gl X "range") (hm:X.mg "range" = none) (ha:PA X [a] ta) (hs:starEach [a] X.env=[(false,eval a X.env)]:=by rfl):PI X tg (.Call (.Name "range" p) [a] [] pos) (iRng1 ta):=by
 intro pins s σ H R I h
 refine Call_ (zaft I hg hm boot_range (PyProof.Rows.callWith_type1 (thn (ha pos pins s σ H _ I h) fun us s1 ⟨vs,H1,I1,r1,q1⟩=>?_) hs rfl))
 obtain ⟨j,e,q1,q2,q⟩:=q1
 subst e
 cases r1 with
 | cons r rr =>
  cases rr
  obtain ⟨t,rfl⟩:=r
  exact call_range_1 (zamf I1 (by omega) (by omega) q1 q2 (by simpa using q))
def tFor (wi:TI) (g:TG) (tb:TS):TS:=fun D σ H=>wi σ H fun J H1=>∃ W:Nat→Nat→St→Hp→Prop,(∃ m,W 0 m σ H1)∧∀ i m σ H,W i m σ H →
 (J.stop i H∧D.nx σ H)∨(J.go i H∧∃ N:St→Hp→Prop,(∀ σ' H',N σ' H'→∃ m',m' < m∧W (i + 1) m' σ' H')∧∀ x H',J.yld i H x H'→g x σ H' fun σ2 H2=>tb { D with nx:=N,ct:=N,bk:=D.nx } σ2 H2)
def pinsAt (fp:List Addr) (h:Heap):List (Addr × Obj):=fp.filterMap fun b=>(h.get? b).map fun o=>(b,o)
theorem zadf {fp:List Addr}{h:Heap}{b:Addr}{o:Obj} (hb:b∈fp) (e:h.get? b=some o):(b,o)∈pinsAt fp h:=List.mem_filterMap.mpr ⟨b,hb,by rw [e]; rfl⟩
theorem zag1 {fp:List Addr}{h:Heap}{p:Addr × Obj} (hp:p∈pinsAt fp h):p.1∈fp∧h.get? p.1=some p.2:=by
 obtain ⟨b,hb,e⟩:=List.mem_filterMap.mp hp
 cases q:h.get? b with
 | none=>rw [q] at e; cases e
 | some o =>
  rw [q] at e
  have e':(b,o)=p:=Option.some.inj e
  subst e'
  exact ⟨hb,q⟩
theorem Inv.pinned {pins:List (Addr × Obj)}{σ:St}{H:Hp}{s:Shared}{fp:List Addr} (I:Inv X pins σ H s) (hf:∀ b∈fp,FpOk X pins H b) (ho:∀ b∈fp,∃ o,s.heap.get? b=some o∧∀ v,o.data≠.cell v):Inv X (pins++pinsAt fp s.heap) σ H s :=
 I.pins_of fun p hp=>(List.mem_append.mp hp).elim (fun z=>I.pin p (List.mem_append_right _ z)) fun z=>by
  obtain ⟨hb,e⟩:=zag1 z
  obtain ⟨f0,f1,f2,_⟩:=hf p.1 hb
  obtain ⟨o,e',d⟩:=ho p.1 hb
  rw [e] at e'; cases e'
  exact ⟨e,f0,f1,f2,d⟩
theorem Inv.unpinned {pins pl:List (Addr × Obj)}{σ:St}{H:Hp}{s:Shared} (I:Inv X (pins++pl) σ H s):Inv X pins σ H s:=I.pins_of fun p hp=>I.pin p (List.mem_append_right _ (List.mem_append_left _ hp))
theorem zaqj {iter:Expr}{body:List Stmt}{wi:TI}{g:TG}{tb:TS}{pos:Pos} (hp:PassesOwn (model X.prog X.w) X.A X.env X.xe) (hc:X.calm=true) (hi:PI X tg iter wi) (hg:PG X tg g) (hb:PSs X body tb)
  (hs:∀ x,foldedSetIterable iter X.env x=pure x:=by intro _; rfl):PS X (.For tg iter body [] pos) (tFor wi g tb):=by
 intro pins s σ H D I h
 refine wpAny_For (thn (hi pins s σ H _ I h) fun v s1 h1=>thn h1 fun itv s2 h2=>?_) hs
 obtain ⟨it,fp,tn,J,H2,e,I2,T,st2,f2,W,⟨m0,w0⟩,turn⟩:=h2
 subst e
 have stat:∀ {H':Hp},(∀ b∈fp,H' b=none)→∀ b∈fp,FpOk X pins H' b:=fun hn b hb=>⟨hn b hb,(f2 b hb).2⟩
 refine codeAny_forLoop_any (fun n s'=>∃ i σ' H',Inv X pins σ' H' s'∧tn i s'.heap∧(∀ b∈fp,H' b=none)∧W i n σ' H') ?_ m0 ⟨0,σ,H2,I2,st2,fun b hb=>(f2 b hb).1,w0⟩
 rintro n s3 ⟨i,σ3,H3,I3,st3,fr3,w3⟩
 rcases turn i n σ3 H3 w3 with ⟨stop,qn⟩ | ⟨go,N,hN,step⟩
 ·refine wpAny_passesOwn hp (thn (T.done X rfl rfl rfl hc i pins s3 σ3 H3 X.xe I3 (stat fr3) st3 stop) fun r s4 ⟨hr,I4⟩=>?_)
  subst hr
  exact wpAny_execs_nil ⟨σ3,H3,I4,qn⟩
 ·refine wpAny_passesOwn hp (thn (T.item X rfl rfl rfl hc i pins s3 σ3 H3 X.xe I3 (stat fr3) st3 go) fun r s4 ⟨u,hr,h4⟩=>?_)
  subst hr
  refine wpAny_passesOwn hp (thn h4 fun _ s5 ⟨x,H5,I5,r5,y5,st5,fr5⟩=>?_)
  have I5':=I5.pinned (stat fr5) (T.obj _ _ st5)
  refine wpAny_passesOwn hp (thn (hg _ s5 σ3 H5 x u _ I5' r5 (step x H5 y5)) fun _ s6 ⟨σ6,H6,I6,q6⟩=>?_)
  refine wpAny_passesOwn hp (thn (hb _ s6 σ6 H6 _ I6 q6) fun f s7 q7=>?_)
  have again:∀ {σ7:St}{H7:Hp},Inv X (pins++pinsAt fp s5.heap) σ7 H7 s7→N σ7 H7→∃ m,m < n∧∃ i σ' H',Inv X pins σ' H' s7∧tn i s7.heap∧(∀ b∈fp,H' b=none)∧W i m σ' H':=fun {σ7 H7} I7 n7=>by
   obtain ⟨m',hm,w7⟩:=hN σ7 H7 n7
   refine ⟨m',hm,i + 1,σ7,H7,I7.unpinned,T.keep _ _ _ st5 fun b hb o e=>(I7.pin (b,o) (List.mem_append_right _ (List.mem_append_right _ (zadf hb e)))).1,fun b hb=>?_,w7⟩
   obtain ⟨o,e,d⟩:=T.obj _ _ st5 b hb
   exact (I7.pin (b,o) (List.mem_append_right _ (List.mem_append_right _ (zadf hb e)))).2.1
  cases f with
  | next=>obtain ⟨σ7,H7,I7,n7⟩:=q7; exact again I7 n7
  | cont=>obtain ⟨σ7,H7,I7,n7⟩:=q7; exact again I7 n7
  | brk=>obtain ⟨σ7,H7,I7,q7⟩:=q7; exact ⟨σ7,H7,I7.unpinned,q7⟩
  | ret v=>obtain ⟨x7,σ7,H7,I7,r7,q7⟩:=q7; exact ⟨x7,σ7,H7,I7.unpinned,r7,q7⟩
end
theorem zamg {K:PySem.W.Frag}{a:Addr}{xs:List V}{g:TG}{tb:TS}{D:Ends}{σ:St}{H:Hp} (Pv:Nat→St→Hp→Prop) (h0:Pv 0 σ H) (hl:∀ i σ H,i≤xs.length→Pv i σ H→SqL K H a xs)
  (hs:∀ i x σ H,xs[i]?=some x→Pv i σ H→g x σ H fun σ2 H2=>tb { D with nx:=Pv (i + 1),ct:=Pv (i + 1),bk:=D.nx } σ2 H2) (hd:∀ σ H,Pv xs.length σ H→D.nx σ H) :
  ∃ W:Nat→Nat→St→Hp→Prop,(∃ m,W 0 m σ H)∧∀ i m σ H,W i m σ H →
   ((Itl K a).stop i H∧D.nx σ H)∨((Itl K a).go i H∧∃ N:St→Hp→Prop,(∀ σ' H',N σ' H'→∃ m',m' < m∧W (i + 1) m' σ' H')∧∀ x H',(Itl K a).yld i H x H'→g x σ H' fun σ2 H2=>tb { D with nx:=N,ct:=N,bk:=D.nx } σ2 H2):=by
 refine ⟨fun i m σ H=>m=xs.length - i∧i≤xs.length∧Pv i σ H,⟨xs.length,by simp,Nat.zero_le _,h0⟩,?_⟩
 rintro i m σ H ⟨rfl,hi,p⟩
 have q:=hl i σ H hi p
 by_cases hlt:i < xs.length
 ·refine .inr ⟨⟨xs,xs[i],q,by simp [hlt]⟩,Pv (i + 1),fun σ' H' p'=>⟨xs.length - (i + 1),by omega,rfl,hlt,p'⟩,fun x H' y=>?_⟩
  obtain ⟨e,y⟩:=y
  subst e
  exact hs i x σ _ (y xs q) p
 ·have e:i=xs.length:=by omega
  subst e
  exact .inl ⟨⟨xs,q,Nat.le_refl _⟩,hd σ H p⟩
theorem zaod {K:PySem.W.Frag}{a:Addr}{xs:List V}{g:TG}{tb:TS}{D:Ends}{σ:St}{H:Hp} (Pv:Nat→St→Hp→Prop) (h0:Pv 0 σ H) (hl:∀ i σ H,i≤xs.length→Pv i σ H→SqT K H a xs)
  (hs:∀ i x σ H,xs[i]?=some x→Pv i σ H→g x σ H fun σ2 H2=>tb { D with nx:=Pv (i + 1),ct:=Pv (i + 1),bk:=D.nx } σ2 H2) (hd:∀ σ H,Pv xs.length σ H→D.nx σ H) :
  ∃ W:Nat→Nat→St→Hp→Prop,(∃ m,W 0 m σ H)∧∀ i m σ H,W i m σ H →
   ((Itt K a).stop i H∧D.nx σ H)∨((Itt K a).go i H∧∃ N:St→Hp→Prop,(∀ σ' H',N σ' H'→∃ m',m' < m∧W (i + 1) m' σ' H')∧∀ x H',(Itt K a).yld i H x H'→g x σ H' fun σ2 H2=>tb { D with nx:=N,ct:=N,bk:=D.nx } σ2 H2):=by
 refine ⟨fun i m σ H=>m=xs.length - i∧i≤xs.length∧Pv i σ H,⟨xs.length,by simp,Nat.zero_le _,h0⟩,?_⟩
 rintro i m σ H ⟨rfl,hi,p⟩
 have q:=hl i σ H hi p
 by_cases hlt:i < xs.length
 ·refine .inr ⟨⟨xs,xs[i],q,by simp [hlt]⟩,Pv (i + 1),fun σ' H' p'=>⟨xs.length - (i + 1),by omega,rfl,hlt,p'⟩,fun x H' y=>?_⟩
  obtain ⟨e,y⟩:=y
  subst e
  exact hs i x σ _ (y xs q) p
 ·have e:i=xs.length:=by omega
  subst e
  exact .inl ⟨⟨xs,q,Nat.le_refl _⟩,hd σ H p⟩
theorem zaj4 {lo:Int}{n:Nat}{g:TG}{tb:TS}{D:Ends}{σ:St}{H:Hp} (Pv:Nat→St→Hp→Prop) (h0:Pv 0 σ H)
  (hs:∀ i σ H,i < n→Pv i σ H→g (.int (lo + i)) σ H fun σ2 H2=>tb { D with nx:=Pv (i + 1),ct:=Pv (i + 1),bk:=D.nx } σ2 H2) (hd:∀ σ H,Pv n σ H→D.nx σ H) :
  ∃ W:Nat→Nat→St→Hp→Prop,(∃ m,W 0 m σ H)∧∀ i m σ H,W i m σ H →
   ((Itr lo n).stop i H∧D.nx σ H)∨((Itr lo n).go i H∧∃ N:St→Hp→Prop,(∀ σ' H',N σ' H'→∃ m',m' < m∧W (i + 1) m' σ' H')∧∀ x H',(Itr lo n).yld i H x H'→g x σ H' fun σ2 H2=>tb { D with nx:=N,ct:=N,bk:=D.nx } σ2 H2):=by
 refine ⟨fun i m σ H=>m=n - i∧i≤n∧Pv i σ H,⟨n,by simp,Nat.zero_le _,h0⟩,?_⟩
 rintro i m σ H ⟨rfl,hi,p⟩
 by_cases hlt:i < n
 ·refine .inr ⟨hlt,Pv (i + 1),fun σ' H' p'=>⟨n - (i + 1),by omega,rfl,hlt,p'⟩,fun x H' y=>?_⟩
  obtain ⟨e,y⟩:=y
  subst e y
  exact hs i σ _ hlt p
 ·have e:i=n:=by omega
  subst e
  exact .inl ⟨Nat.le_refl _,hd σ H p⟩
abbrev R2:=V→V→Hp→VK→Prop
def OpR (X:Cx) (f:Value→Value→Sem Value) (r:R2):Prop :=
 ∀ (pins:List (Addr × Obj)) (s:Shared) (σ:St) (H:Hp) (x y:V) (v u:Value) (Q:VK),Inv X pins σ H s→RelV x v→RelV y u→r x y H Q →
  wpAny (model X.prog X.w) X.A (f v u) (EP X pins σ Q) X.xe s
def UnR (X:Cx) (f:Value→Sem Value) (r:V→Hp→VK→Prop):Prop :=
 ∀ (pins:List (Addr × Obj)) (s:Shared) (σ:St) (H:Hp) (x:V) (v:Value) (Q:VK),Inv X pins σ H s→RelV x v→r x H Q →
  wpAny (model X.prog X.w) X.A (f v) (EP X pins σ Q) X.xe s
def CallR (X:Cx) (f:Value) (r:List V→Hp→VK→Prop):Prop :=
 ∀ (pins:List (Addr × Obj)) (s:Shared) (σ:St) (H:Hp) (xs:List V) (us:List Value) (Q:VK),Inv X pins σ H s→Vals xs us→r xs H Q →
  wpAny (model X.prog X.w) X.A (call f us) (EP X pins σ Q) X.xe s
def tOp (r:R2) (ta tb:TE):TE:=fun σ H Q=>ta σ H fun x H1=>tb σ H1 fun y H2=>r x y H2 Q
def tUn (r:V→Hp→VK→Prop) (ta:TE):TE:=fun σ H Q=>ta σ H fun x H1=>r x H1 Q
def rI (C:Int→Int→Prop) (g:Int→Int→V):R2:=fun x y H Q=>∃ i j,x=.int i∧y=.int j∧C i j∧Q (g i j) H
def rI0 (g:Int→Int→V):R2:=fun x y H Q=>∃ i j,x=.int i∧y=.int j∧Q (g i j) H
def rU (g:Int→V):V→Hp→VK→Prop:=fun x H Q=>∃ i,x=.int i∧Q (g i) H
section
variable {X:Cx}{a b c:Expr}{ta tb tc:TE}{pos:Pos}
theorem binT (ha:PE X a ta) (hb:PE X b tb) {pins:List (Addr × Obj)}{s:Shared}{σ:St}{H:Hp}{R:V→V→Hp→Prop} (I:Inv X pins σ H s)
  (h:ta σ H fun x H1=>tb σ H1 fun y H2=>R x y H2) {Q:Value→Shared→Prop}{f:Value→Value→Sem Value}
  (hf:∀ v u s2 x y H2,Inv X pins σ H2 s2→RelV x v→RelV y u→R x y H2→wpAny (model X.prog X.w) X.A (f v u) Q X.xe s2) :
  wpAny (model X.prog X.w) X.A (eval a X.env) (fun v s₁=>wpAny (model X.prog X.w) X.A (eval b X.env) (fun u s₂=>wpAny (model X.prog X.w) X.A (f v u) Q X.xe s₂) X.xe s₁) X.xe s:=by
 refine thn (ha pins s σ H _ I h) fun v s1 ⟨x,H1,I1,r1,q1⟩=>?_
 refine thn (hb pins s1 σ H1 _ I1 q1) fun u s2 ⟨y,H2,I2,r2,q2⟩=>?_
 exact hf v u s2 x y H2 I2 r1 r2 q2
theorem zasi {op:Operator}{r:R2} (ho:OpR X (binaryOp op) r) (ha:PE X a ta) (hb:PE X b tb):PE X (.BinOp a op b pos) (tOp r ta tb):=by
 intro pins s σ H Q I h
 exact wpAny_BinOp (binT ha hb I h fun v u s2 x y H2 I2 rx ry q=>ho pins s2 σ H2 x y v u Q I2 rx ry q)
theorem zasj {op:UnaryOp}{r:V→Hp→VK→Prop} (ho:UnR X (unaryOp op) r) (ha:PE X a ta):PE X (.UnaryOp op a pos) (tUn r ta):=by
 intro pins s σ H Q I h
 exact UnaryOp_ (thn (ha pins s σ H _ I h) fun v s1 ⟨x,H1,I1,r1,q1⟩=>ho pins s1 σ H1 x v Q I1 r1 q1)
theorem opI {f:Value→Value→Sem Value}{C:Int→Int→Prop}{g:Int→Int→Int}
  (rule:∀ (i j:Int) (t u:Tok) (s:Shared) (Q:Value→Shared→Prop) (E:Value→Shared→Prop),C i j→Q (.int (g i j) s.toks) { s with toks:=s.toks + 1 }→wpAny (model X.prog X.w) X.A (f (.int i t) (.int j u)) Q E s) :
  OpR X f (rI C fun i j=>.int (g i j)):=by
 intro pins s σ H x y v u Q I rx ry h
 obtain ⟨i,j,rfl,rfl,hc,q⟩:=h
 obtain ⟨t,rfl⟩:=rx
 obtain ⟨t',rfl⟩:=ry
 exact rule i j t t' s _ _ hc ⟨.int (g i j),H,I.tok _,⟨_,rfl⟩,q⟩
theorem opI0 {f:Value→Value→Sem Value}{g:Int→Int→Int}
  (rule:∀ (i j:Int) (t u:Tok) (s:Shared) (Q:Value→Shared→Prop) (E:Value→Shared→Prop),Q (.int (g i j) s.toks) { s with toks:=s.toks + 1 }→wpAny (model X.prog X.w) X.A (f (.int i t) (.int j u)) Q E s) :
  OpR X f (rI0 fun i j=>.int (g i j)):=by
 intro pins s σ H x y v u Q I rx ry h
 obtain ⟨i,j,rfl,rfl,q⟩:=h
 obtain ⟨t,rfl⟩:=rx
 obtain ⟨t',rfl⟩:=ry
 exact rule i j t t' s _ _ ⟨.int (g i j),H,I.tok _,⟨_,rfl⟩,q⟩
theorem opB0 {f:Value→Value→Sem Value}{g:Int→Int→Bool}
  (rule:∀ (i j:Int) (t u:Tok) (s:Shared) (Q:Value→Shared→Prop) (E:Value→Shared→Prop),Q (.bool (g i j)) s→wpAny (model X.prog X.w) X.A (f (.int i t) (.int j u)) Q E s) :
  OpR X f (rI0 fun i j=>.bl (g i j)):=by
 intro pins s σ H x y v u Q I rx ry h
 obtain ⟨i,j,rfl,rfl,q⟩:=h
 obtain ⟨t,rfl⟩:=rx
 obtain ⟨t',rfl⟩:=ry
 exact rule i j t t' s _ _ ⟨.bl (g i j),H,I,rfl,q⟩
def CPow (i j:Int):Prop:=0≤j∧j≤1000000∧i.natAbs < 2 ^ 64
def CMul (i j:Int):Prop:=(-(2 ^ 64) < i∧i < 2 ^ 64)∨(-(2 ^ 64) < j∧j < 2 ^ 64)
theorem CMul.ok {i j:Int} (h:CMul i j):IntMulOk i j:=by
 rcases h with ⟨h1,h2⟩ | ⟨h1,h2⟩
 ·exact .of_left (intBits_le_64 h1 h2)
 ·exact .of_right (intBits_le_64 h1 h2)
theorem zaje (k:Nat):(0:Int)≤2 ^ k:=by
 rw [two_pow_cast]
 exact Int.natCast_nonneg _
theorem zabu:OpR X (binaryOp .Add) (rI0 fun i j=>.int (i + j)):=opI0 fun _ _ _ _ _ _ _ q=>add_int q
theorem zacz:OpR X (binaryOp .Sub) (rI0 fun i j=>.int (i - j)):=opI0 fun _ _ _ _ _ _ _ q=>sub_int q
theorem zac9:OpR X (binaryOp .Mult) (rI CMul fun i j=>.int (i * j)):=opI fun _ _ _ _ _ _ _ hc q=>mul_int q hc.ok
theorem zabn:OpR X (binaryOp .Mod) (rI (fun _ j=>0 < j) fun i j=>.int (i % j)):=opI fun i j _ _ _ _ _ hc q=>by
 have h1:(0:Int) < j:=hc
 exact mod_int' (by omega) (by rw [Int.fmod_eq_emod_of_nonneg i (by omega)]; exact q)
theorem zafu:OpR X (binaryOp .LShift) (rI CPow fun i j=>.int (i * 2 ^ j.toNat)):=opI fun _ _ _ _ _ _ _ hc q=>lshift_int_small hc.1 hc.2.1 hc.2.2 q
theorem zaqk:OpR X (binaryOp .RShift) (rI (fun _ j=>0≤j) fun i j=>.int (i / 2 ^ j.toNat)):=opI fun i j _ _ _ _ _ hc q =>
 rshift_int hc (by rw [Int.fdiv_eq_ediv_of_nonneg i (zaje _)]; exact q)
theorem zanq:OpR X (binaryOp .BitAnd) (rI0 fun i j=>.int (Builtin.bitAnd i j)):=opI0 fun _ _ _ _ _ _ _ q=>and_int q
theorem zaql:OpR X (binaryOp .BitOr) (rI0 fun i j=>.int (Builtin.bitOr i j)):=opI0 fun _ _ _ _ _ _ _ q=>or_int q
theorem zaj5:OpR X (binaryOp .BitXor) (rI0 fun i j=>.int (Builtin.bitXor i j)):=opI0 fun _ _ _ _ _ _ _ q=>xor_int q
theorem unI {f:Value→Sem Value}{g:Int→Int}
  (rule:∀ (i:Int) (t:Tok) (s:Shared) (Q:Value→Shared→Prop) (E:Value→Shared→Prop),Q (.int (g i) s.toks) { s with toks:=s.toks + 1 }→wpAny (model X.prog X.w) X.A (f (.int i t)) Q E s) :
  UnR X f (rU fun i=>.int (g i)):=by
 intro pins s σ H x v Q I rx h
 obtain ⟨i,rfl,q⟩:=h
 obtain ⟨t,rfl⟩:=rx
 exact rule i t s _ _ ⟨.int (g i),H,I.tok _,⟨_,rfl⟩,q⟩
theorem zaj6:UnR X (unaryOp .USub) (rU fun i=>.int (-i)):=unI fun _ _ _ _ _ q=>neg_int q
end
def scal:V→V→Bool
 | .non,.non=>true | .non,.int _=>true | .int _,.non=>true | .non,.bl _=>true | .bl _,.non=>true | .non,.str _=>true | .str _,.non=>true
 | .int _,.int _=>true | .bl _,.bl _=>true | .str _,.str _=>true | .byt _,.byt _=>true
 | .int _,.str _=>true | .str _,.int _=>true | .bl _,.str _=>true | .str _,.bl _=>true
 | _,_=>false
def rEq:R2:=fun x y H Q=>scal x y=true∧Q (.bl (decide (x=y))) H
def rNe:R2:=fun x y H Q=>scal x y=true∧Q (.bl (!decide (x=y))) H
theorem zaj7 {i j:Int}:decide (V.int i=V.int j)=(i == j):=by
 rw [Bool.eq_iff_iff]
 simp
theorem zanr {i j:Bool}:decide (V.bl i=V.bl j)=(i == j):=by
 rw [Bool.eq_iff_iff]
 simp
theorem zaj8 {i j:Str}:decide (V.str i=V.str j)=(i == j):=by
 rw [Bool.eq_iff_iff]
 simp
theorem zaj9 {i j:Array UInt8}:decide (V.byt i=V.byt j)=(i.toList == j.toList):=by
 rw [Bool.eq_iff_iff]
 cases i
 cases j
 simp
section
variable {X:Cx}{a b c:Expr}{ta tb tc:TE}{pos:Pos}
theorem zabg {pins:List (Addr × Obj)}{σ:St}{H:Hp}{s:Shared}{Q:VK}{k k':Bool} (I:Inv X pins σ H s) (q:Q (.bl k) H) (e:k=k'):EP X pins σ Q (.bool k') s:=by
 subst e
 exact ⟨.bl k,H,I,rfl,q⟩
theorem zab1:OpR X (compareOp .Eq) rEq:=by
 intro pins s σ H x y v u Q I rx ry h
 obtain ⟨hs,q⟩:=h
 cases x with
 | non =>
  cases rx
  cases y with
  | non=>cases ry; exact PySem.EqNone.eq_none_none (zabg I q (by simp))
  | bl j=>cases ry; exact PySem.EqNone.eq_none_bool (zabg I q (by simp))
  | int j=>obtain ⟨t',rfl⟩:=ry; exact PySem.EqNone.eq_none_int (zabg I q (by simp))
  | str j=>obtain ⟨t',rfl⟩:=ry; exact PySem.EqNone.eq_none_str (zabg I q (by simp))
  | _=>exact absurd (show false=true from hs) Bool.false_ne_true
 | bl i =>
  cases rx
  cases y with
  | non=>cases ry; exact PySem.EqNone.eq_bool_none (zabg I q (by simp))
  | bl j=>cases ry; exact eq_bool (zabg I q zanr)
  | str j=>obtain ⟨t',rfl⟩:=ry; exact PySem.EqMixed.eq_bool_str (zabg I q (by simp))
  | _=>exact absurd (show false=true from hs) Bool.false_ne_true
 | int i =>
  obtain ⟨t,rfl⟩:=rx
  cases y with
  | non=>cases ry; exact PySem.EqNone.eq_int_none (zabg I q (by simp))
  | int j=>obtain ⟨t',rfl⟩:=ry; exact eq_int (zabg I q zaj7)
  | str j=>obtain ⟨t',rfl⟩:=ry; exact PySem.EqMixed.eq_int_str (zabg I q (by simp))
  | _=>exact absurd (show false=true from hs) Bool.false_ne_true
 | str i =>
  obtain ⟨t,rfl⟩:=rx
  cases y with
  | non=>cases ry; exact PySem.EqNone.eq_str_none (zabg I q (by simp))
  | bl j=>cases ry; exact PySem.EqMixed.eq_str_bool (zabg I q (by simp))
  | int j=>obtain ⟨t',rfl⟩:=ry; exact PySem.EqMixed.eq_str_int (zabg I q (by simp))
  | str j=>obtain ⟨t',rfl⟩:=ry; exact eq_str (zabg I q zaj8)
  | _=>exact absurd (show false=true from hs) Bool.false_ne_true
 | byt i =>
  obtain ⟨t,rfl⟩:=rx
  cases y with
  | byt j=>obtain ⟨t',rfl⟩:=ry; exact PySem.W.eq_bytes (zabg I q zaj9)
  | _=>exact absurd (show false=true from hs) Bool.false_ne_true
 | _=>cases y <;> exact absurd (show false=true from hs) Bool.false_ne_true
theorem zaeh:OpR X (compareOp .NotEq) rNe:=by
 intro pins s σ H x y v u Q I rx ry h
 obtain ⟨hs,q⟩:=h
 cases x with
 | non =>
  cases rx
  cases y with
  | non=>cases ry; exact PySem.EqNone.ne_none_none (zabg I q (by simp))
  | bl j=>cases ry; exact PySem.EqNone.ne_none_bool (zabg I q (by simp))
  | int j=>obtain ⟨t',rfl⟩:=ry; exact PySem.EqNone.ne_none_int (zabg I q (by simp))
  | str j=>obtain ⟨t',rfl⟩:=ry; exact PySem.EqNone.ne_none_str (zabg I q (by simp))
  | _=>exact absurd (show false=true from hs) Bool.false_ne_true
 | bl i =>
  cases rx
  cases y with
  | non=>cases ry; exact PySem.EqNone.ne_bool_none (zabg I q (by simp))
  | bl j=>cases ry; exact ne_bool (zabg I q (congrArg not zanr))
  | str j=>obtain ⟨t',rfl⟩:=ry; exact PySem.EqMixed.ne_bool_str (zabg I q (by simp))
  | _=>exact absurd (show false=true from hs) Bool.false_ne_true
 | int i =>
  obtain ⟨t,rfl⟩:=rx
  cases y with
  | non=>cases ry; exact PySem.EqNone.ne_int_none (zabg I q (by simp))
  | int j=>obtain ⟨t',rfl⟩:=ry; exact ne_int (zabg I q (congrArg not zaj7))
  | str j=>obtain ⟨t',rfl⟩:=ry; exact PySem.EqMixed.ne_int_str (zabg I q (by simp))
  | _=>exact absurd (show false=true from hs) Bool.false_ne_true
 | str i =>
  obtain ⟨t,rfl⟩:=rx
  cases y with
  | non=>cases ry; exact PySem.EqNone.ne_str_none (zabg I q (by simp))
  | bl j=>cases ry; exact PySem.EqMixed.ne_str_bool (zabg I q (by simp))
  | int j=>obtain ⟨t',rfl⟩:=ry; exact PySem.EqMixed.ne_str_int (zabg I q (by simp))
  | str j=>obtain ⟨t',rfl⟩:=ry; exact ne_str (zabg I q (congrArg not zaj8))
  | _=>exact absurd (show false=true from hs) Bool.false_ne_true
 | byt i =>
  obtain ⟨t,rfl⟩:=rx
  cases y with
  | byt j=>obtain ⟨t',rfl⟩:=ry; exact PySem.W.ne_bytes (zabg I q (congrArg not zaj9))
  | _=>exact absurd (show false=true from hs) Bool.false_ne_true
 | _=>cases y <;> exact absurd (show false=true from hs) Bool.false_ne_true
theorem zagd:OpR X (compareOp .Lt) (rI0 fun i j=>.bl (decide (i < j))):=opB0 fun _ _ _ _ _ _ _ q=>lt_int q
theorem zamh:OpR X (compareOp .LtE) (rI0 fun i j=>.bl (decide (i≤j))):=opB0 fun _ _ _ _ _ _ _ q=>le_int q
theorem zaht:OpR X (compareOp .Gt) (rI0 fun i j=>.bl (decide (j < i))):=opB0 fun _ _ _ _ _ _ _ q=>gt_int q
theorem zag2:OpR X (compareOp .Is) (fun x y H Q=>y=.non∧Q (.bl (decide (x=.non))) H):=by
 intro pins s σ H x y v u Q I rx ry h
 obtain ⟨rfl,q⟩:=h
 cases ry
 refine is_none_gen (zabg I q ?_)
 cases x <;> first
  | (cases rx; rfl)
  | (obtain ⟨t,rfl⟩:=rx; rfl)
theorem nomark (b:Expr) {op:CmpOp} (h:op≠.In:=by decide) (h2:op≠.NotIn:=by decide):behindInMarks op b=false:=by
 have e1:(op == CmpOp.In)=false:=by cases op <;> first | rfl | exact absurd rfl h
 have e2:(op == CmpOp.NotIn)=false:=by cases op <;> first | rfl | exact absurd rfl h2
 cases b <;> simp [behindInMarks,e1,e2]
theorem zaoe {op:CmpOp}{r:R2} (ho:OpR X (compareOp op) r) (ha:PE X a ta) (hb:PE X b tb) (hm:behindInMarks op b=false):PE X (.Compare a [op] [b] pos) (tOp r ta tb):=by
 intro pins s σ H Q I h
 exact wpAny_Compare1 (binT ha hb I h fun v u s2 x y H2 I2 rx ry q=>ho pins s2 σ H2 x y v u Q I2 rx ry q) hm
def tTest (t:TE):TT:=fun σ H Q=>t σ H fun x H'=>∃ k,x=.bl k∧Q k H'
theorem zaof {op:CmpOp}{r:R2} (ho:OpR X (compareOp op) r) (ha:PE X a ta) (hb:PE X b tb) (hm:behindInMarks op b=false):PT X (.Compare a [op] [b] pos) (tTest (tOp r ta tb)):=by
 intro pins s σ H Q I h
 refine wpAny_isTrue_Compare1 (thn (ha pins s σ H _ I h) fun v s1 ⟨x,H1,I1,r1,q1⟩=>thn (hb pins s1 σ H1 _ I1 q1) fun u s2 ⟨y,H2,I2,r2,q2⟩ =>
  thn (ho pins s2 σ H2 x y v u _ I2 r1 r2 q2) fun c s3 ⟨z,H3,I3,r3,k,e,q3⟩=>?_) hm
 subst e
 cases r3
 exact wpAny_truthy_bool ⟨H3,I3,q3⟩
def tChain (r r':R2) (ta tb tc:TE):TE:=fun σ H Q=>ta σ H fun x H1=>tb σ H1 fun y H2=>r x y H2 fun z H3=>∃ k,z=.bl k ∧
 (if k=true then tc σ H3 fun w' H4=>r' y w' H4 Q else Q (.bl false) H3)
theorem zami {op op':CmpOp}{r r':R2} (ho:OpR X (compareOp op) r) (ho':OpR X (compareOp op') r') (ha:PE X a ta) (hb:PE X b tb) (hc:PE X c tc)
  (hm:lastMarks [op,op'] [b,c]=false:=by with_unfolding_all rfl):PE X (.Compare a [op,op'] [b,c] pos) (tChain r r' ta tb tc):=by
 intro pins s σ H Q I h
 refine Compare_chain (thn (ha pins s σ H _ I h) fun v s1 ⟨x,H1,I1,r1,q1⟩=>chain_link (thn (hb pins s1 σ H1 _ I1 q1) fun u s2 ⟨y,H2,I2,r2,q2⟩ =>
  thn (ho pins s2 σ H2 x y v u _ I2 r1 r2 q2) fun d s3 ⟨z,H3,I3,r3,k,e,q3⟩=>?_)) hm
 subst e
 cases r3
 refine wpAny_truthy_bool ?_
 cases k with
 | false=>exact ite_ff ⟨.bl false,H3,I3,rfl,q3⟩
 | true=>exact ite_tt (chain_last (thn (hc pins s3 σ H3 _ I3 q3) fun w' s4 ⟨z',H4,I4,r4,q4⟩=>ho' pins s4 σ H4 y z' u w' Q I4 r2 r4 q4))
theorem line63:(sizeLine:Nat) < 2 ^ 63:=by rw [sizeLine_eq]; decide
theorem zajf:OpR X (binaryOp .Add) (fun x y H Q=>∃ i j,x=.str i∧y=.str j∧i.length + j.length≤sizeLine∧Q (.str (i++j)) H):=by
 intro pins s σ H x y v u Q I rx ry h
 obtain ⟨i,j,rfl,rfl,hz,q⟩:=h
 obtain ⟨t,rfl⟩:=rx
 obtain ⟨t',rfl⟩:=ry
 exact add_str (fun t' tk=>⟨.str (i++j),H,I.tok _,⟨_,rfl⟩,q⟩) hz
theorem vals1 {x:V}{us:List Value} (r:Vals [x] us):∃ u,us=[u]∧RelV x u:=by
 cases r with
 | cons r1 r2=>cases r2; exact ⟨_,rfl,r1⟩
theorem vals2 {x y:V}{us:List Value} (r:Vals [x,y] us):∃ u w',us=[u,w']∧RelV x u∧RelV y w':=by
 cases r with
 | cons r1 r2 =>
  cases r2 with
  | cons r3 r4=>cases r4; exact ⟨_,_,rfl,r1,r3⟩
theorem zaka (hc:X.calm=true):CallR X (.builtin "max") (fun xs H Q=>∃ i j,xs=[.int i,.int j]∧Q (.int (if j > i then j else i)) H):=by
 intro pins s σ H xs us Q I r h
 obtain ⟨i,j,rfl,q⟩:=h
 obtain ⟨u,w',rfl,⟨t,rfl⟩,⟨t',rfl⟩⟩:=vals2 r
 refine max_two_ints (I.ok.hd hc) fun h' tk k=>⟨_,H,I.kept k,?_,q⟩
 by_cases hj:j > i
 ·rw [if_pos hj,if_pos hj]; exact ⟨_,rfl⟩
 ·rw [if_neg hj,if_neg hj]; exact ⟨_,rfl⟩
theorem zacu:CallR X (.type "int") (fun xs H Q=>(∃ i,xs=[.int i]∧Q (.int i) H)∨∃ k,xs=[.bl k]∧Q (.int (if k then 1 else 0)) H):=by
 intro pins s σ H xs us Q I r h
 rcases h with ⟨i,rfl,q⟩ | ⟨k,rfl,q⟩
 ·obtain ⟨u,rfl,t,rfl⟩:=vals1 r
  exact call_int_int ⟨.int i,H,I,⟨_,rfl⟩,q⟩
 ·obtain ⟨u,rfl,r1⟩:=vals1 r
  cases r1
  exact call_int_bool ⟨.int (if k then 1 else 0),H,I.tok _,⟨_,rfl⟩,q⟩
end
structure ObjM (h:Heap) (x dx C:Addr) (mA:Str→Option Value):Prop where
 obj:h.get? x=some (PySem.W.instObj C dx)
 ns:h.Ns1 dx mA
 ne:dx≠x
theorem zakb {h:Heap}{dx:Addr}{mA:Str→Option Value} (n:h.Ns1 dx mA):∃ od,h.get? dx=some od∧∀ name,PySem.W.lookIn name od=some (mA name):=by
 obtain ⟨o,es,ep,ho,hd,hk,_,hm⟩:=n
 refine ⟨o,ho,fun name=>?_⟩
 have e:=hm name
 unfold nsFind findBy at e
 rw [← Array.find?_toList] at e
 unfold PySem.W.lookIn
 rw [hd]
 dsimp only
 split
 ·rename_i y q
  rw [q] at e
  exact congrArg some e
 ·rename_i q
  rw [q] at e
  have a:es.toList.any (·.refKey)=false:=by
   rw [List.any_eq_false]
   intro y hy
   obtain ⟨z,t,hkey⟩:=hk y (Array.mem_toList_iff.mp hy)
   simp [DictEntry.refKey,hkey]
  have a':¬ es.toList.any (·.refKey)=true:=by rw [a]; exact Bool.false_ne_true
  rw [if_neg a']
  exact congrArg some e
theorem ObjM.look {h:Heap}{x dx C:Addr}{mA:Str→Option Value} (I:ObjM h x dx C mA):∃ od,PySem.W.InstAt h x (PySem.W.instObj C dx) C (some od)∧∀ name,PySem.W.lookIn name od=some (mA name) :=
 let ⟨od,ho,hl⟩:=zakb I.ns
 ⟨od,⟨I.obj,rfl,rfl,ho⟩,hl⟩
section
variable {prog:Program}{w:World}{A:Around}{E:Value→Shared→Prop}{s:Shared}{K:PySem.W.Frag}{x dx C f:Addr}{mA:Str→Option Value}{name:Str}{v:Value}
theorem zaog {expr:Bool}{Q:Value→Shared→Prop} (X:K.In s.heap) (I:ObjM s.heap x dx C mA) (hg:PySem.W.plainGet K C name=true) (hh:PySem.W.hasDictIn K C=true)
  (ha:PySem.W.findIn K (.ref C) name=some none) (hv:mA name=some v) (hv':PySem.W.handedIn v=true) (h:Q v { s with toks:=s.toks + 1 }) :
  wpAny (model prog w) A (getAttr (.ref x) name expr) Q E s:=by
 obtain ⟨od,J,hl⟩:=I.look
 exact PySem.W.get_value X J (PySem.W.plainGet_of hg).1 (PySem.W.findObj_own hh ha rfl (by rw [hl,hv])) hv' h
theorem zamj {pl:Sem Bool}{Q:Value × List Value→Shared→Prop} (X:K.In s.heap) (I:ObjM s.heap x dx C mA) (hg:PySem.W.plainGet K C name=true)
  (hf:PySem.W.findIn K (.ref C) name=some (some (.ref f))) (ht:PySem.W.isFn K (.ref f)=true) (hv:mA name=none) (h:Q (.ref f,[.ref x]) s) :
  wpAny (model prog w) A (getMethod (.ref x) name pl) Q E s:=by
 obtain ⟨od,J,hl⟩:=I.look
 exact PySem.W.method_fn X J (PySem.W.plainGet_of hg).1 (PySem.W.plainGet_of hg).2 hf (beq_iff_eq.mp ht) (by show (PySem.W.lookIn name od).map (·.isSome)=some false; rw [hl,hv]; rfl) h
theorem zaoh {ns:List Str}{Q:Unit→Shared→Prop} (X:K.In s.heap) (I:ObjM s.heap x dx C mA)
  (hs:PySem.W.findIn K (.ref C) "__setattr__" = some (some (.builtin "object.__setattr__"))) (hp:PySem.W.plainOver K C=true) (ht:PySem.W.takerIn K C name=some none) (hh:PySem.W.hasDictIn K C=true)
  (hw:PySem.Within mA ns) (hsz:ns.length≤sizeLine)
  (h:∀ h',ObjM h' x dx C (fun y=>if y=name then some v else mA y)→Heap.SameBut dx s.heap h'→Q () { s with heap:=h',toks:=s.toks + 2 }) :
  wpAny (model prog w) A (setAttr (.ref x) name v) Q E s:=by
 obtain ⟨od,J,hl⟩:=I.look
 refine PySem.W.set_plain X J hs (PySem.W.osa_open (s:={ s with toks:=s.toks + 1 }) (r:=none) X J hp ht fun b=>?_)
 obtain ⟨cd,hc,hd'⟩:=PySem.W.any_some hh
 have hx:s.heap.get? x=some ⟨.ref C,some dx,.plain,#[]⟩:=I.obj
 refine wpAny_bind (wpAny_pure (wpAny_bind (wpAny_bind (wpAny_loadPart hx (wpAny_bind (PySem.W.Looks.here (s:={ s with toks:=s.toks + 1 }) (PySem.W.looks_clsIn X hc) ?_))))))
 rw [hd']
 refine wpAny_pure (a:=some dx) (wpAny_bind (wpAny_pure (wpAny_bind ?_)))
 refine wpAny_nsSet1 (s:={ s with toks:=s.toks + 1 }) I.ns fun h' hn2 hs2=>?_
 obtain ⟨oD,esD,epD,hoD,hdD,hcD⟩:=hn2.count (PySem.Within.cons name v hw)
 refine wpAny_bind (wpAny_lookBehind hoD (by rw [hdD]; exact pastItsLine_dict (Nat.le_trans hcD (by rw [List.length_cons]; omega))) ?_)
 exact wpAny_pure (h _ ⟨(hs2.2 _ (Ne.symm I.ne)).trans I.obj,hn2,I.ne⟩ hs2)
theorem zamk {R:Result→Shared→Prop}{vs:List Value}{kw:List (Str × Value)} (X:K.In s.heap) (hm:PySem.W.makesIn K C=true)
  (hi:PySem.W.findIn K (.ref C) "__init__" = some (some (.ref f))) (hf:PySem.W.typeIn K (.ref f)=some (.type "function"))
  (h:codeAny (model prog w) (A.under (.builtin "type.__call__" ⟨.ref C :: vs,kw⟩)) (.call (.ref f) ⟨.ref (s.heap.objs.size + 1) :: vs,kw⟩) (PySem.W.InitBack (s.heap.objs.size + 1) R)
   { s with heap:=(s.heap.push PySem.W.emptyDict).push (PySem.W.instObj C s.heap.objs.size) }) :
  codeAny (model prog w) A (.call (.ref C) ⟨vs,kw⟩) R s:=by
 obtain ⟨hh,g,d,t,os⟩:=s
 exact PySem.W.make_core (PySem.W.makes_of X hm) (PySem.W.looks_findIn X hi) (fun self=>PySem.W.bind_fn X self hf) (.inl rfl) h
end
def putF (f:Str) (v:V):List (Str × V)→List (Str × V)
 | []=>[(f,v)]
 | (g,x) :: r=>if g=f then (g,v) :: r else (g,x) :: putF f v r
theorem zaes (f g:Str) (v:V):∀ fs:List (Str × V),(putF f v fs).lookup g=if g=f then some v else fs.lookup g
 | []=>by
  show List.lookup g [(f,v)]=_
  by_cases h:g=f
  ·have hb:(g == f)=true:=beq_iff_eq.mpr h
   simp only [List.lookup,hb,if_pos h]
  ·have hb:(g == f)=false:=beq_eq_false_iff_ne.mpr h
   simp only [List.lookup,hb,if_neg h]
 | (k,x) :: r=>by
  have ih:=zaes f g v r
  rw [show putF f v ((k,x) :: r)=(if k=f then (k,v) :: r else (k,x) :: putF f v r) from rfl]
  by_cases hk:k=f
  ·rw [if_pos hk]
   by_cases h:g=k
   ·have hb:(g == k)=true:=beq_iff_eq.mpr h
    simp only [List.lookup,hb,if_pos (h.trans hk)]
   ·have hb:(g == k)=false:=beq_eq_false_iff_ne.mpr h
    simp only [List.lookup,hb,if_neg (fun e:g=f=>h (e.trans hk.symm))]
  ·rw [if_neg hk]
   by_cases h:g=k
   ·have hb:(g == k)=true:=beq_iff_eq.mpr h
    simp only [List.lookup,hb,if_neg (fun e:g=f=>hk (h.symm.trans e))]
   ·have hb:(g == k)=false:=beq_eq_false_iff_ne.mpr h
    simp only [List.lookup,hb]
    exact ih
theorem zaet (f:Str) (v:V):∀ fs:List (Str × V),f∈(putF f v fs).map (·.1)∧∀ g,g∈fs.map (·.1)→g∈(putF f v fs).map (·.1)
 | []=>⟨by simp [putF],fun g h=>by simp at h⟩
 | (k,x) :: r=>by
  obtain ⟨i1,i2⟩:=zaet f v r
  rw [show putF f v ((k,x) :: r)=(if k=f then (k,v) :: r else (k,x) :: putF f v r) from rfl]
  by_cases hk:k=f
  ·rw [if_pos hk]
   subst hk
   exact ⟨by simp,fun g h=>by simpa using h⟩
  ·rw [if_neg hk]
   refine ⟨?_,fun g h=>?_⟩
   ·rw [List.map_cons]
    exact List.mem_cons_of_mem _ i1
   ·rw [List.map_cons] at h ⊢
    rcases List.mem_cons.mp h with e | e
    ·exact List.mem_cons.mpr (.inl e)
    ·exact List.mem_cons_of_mem _ (i2 g e)
theorem zaeu (f:Str) (v:V):∀ fs:List (Str × V),(putF f v fs).length≤fs.length + 1
 | []=>by simp [putF]
 | (k,x) :: r=>by
  have ih:=zaeu f v r
  rw [show putF f v ((k,x) :: r)=(if k=f then (k,v) :: r else (k,x) :: putF f v r) from rfl]
  by_cases hk:k=f
  ·rw [if_pos hk,List.length_cons,List.length_cons]; omega
  ·rw [if_neg hk,List.length_cons,List.length_cons]; omega
theorem RelO.some_of {v:V}{o:Option Value} (r:RelO (some v) o):∃ u,o=some u∧RelV v u:=by
 cases o with
 | none=>exact (show False from r).elim
 | some u=>exact ⟨u,rfl,r⟩
theorem RelO.none_of {o:Option Value} (r:RelO none o):o=none:=by
 cases o with
 | none=>rfl
 | some u=>exact (show False from r).elim
theorem zakc {v:V}{u:Value} (r:RelV v u):PySem.W.handedIn u=true:=by
 cases v with
 | non=>cases (show u=Value.none from r); rfl
 | bl b=>cases (show u=Value.bool b from r); rfl
 | int i=>obtain ⟨t,e⟩:=(show ∃ t,u=Value.int i t from r); cases e; rfl
 | str x=>obtain ⟨t,e⟩:=(show ∃ t,u=Value.str x t from r); cases e; rfl
 | byt b=>obtain ⟨t,e⟩:=(show ∃ t,u=Value.bytes b t from r); cases e; rfl
 | flt b=>obtain ⟨t,e⟩:=(show ∃ t,u=Value.float b t from r); cases e; rfl
 | ref a=>cases (show u=Value.ref a from r); rfl
 | ty n=>cases (show u=Value.type n from r); rfl
section
variable {P:Program}{w:World}{H H':Hp}{h h':Heap}{a C dx:Addr}{fs fs':List (Str × V)}
theorem zaev (hok:HOk P w H h) (e:H a=some (.ins C dx fs)):∃ mA,ObjM h a dx C mA∧(∀ f,RelO (fs.lookup f) (mA f))∧PySem.Within mA (fs.map (·.1))∧fs.length≤1000∧H dx=some (.own a):=by
 obtain ⟨d,z,ne,ob,mA,n,r,q⟩:=(show ObjOk P w H h a (.ins C dx fs) from hok a _ e)
 exact ⟨mA,⟨ob,n,ne⟩,r,q,z,d⟩
end
structure Cls (K:PySem.W.Frag) (C:Addr):Prop where
 pg:PySem.W.plainGet K C Str.empty=true
 hd:PySem.W.hasDictIn K C=true
 po:PySem.W.plainOver K C=true
 sa:PySem.W.findIn K (.ref C) "__setattr__" = some (some (.builtin "object.__setattr__"))
theorem Cls.get {K:PySem.W.Frag}{C:Addr} (c:Cls K C) (f:Str):PySem.W.plainGet K C f=true:=c.pg
def NoAttr (K:PySem.W.Frag) (C:Addr) (f:Str):Prop:=PySem.W.findIn K (.ref C) f=some none
theorem NoAttr.taker {K:PySem.W.Frag}{C:Addr}{f:Str} (n:NoAttr K C f):PySem.W.takerIn K C f=some none:=by
 unfold PySem.W.takerIn
 rw [show PySem.W.findIn K (.ref C) f=some none from n]
 rfl
structure Meth (K:PySem.W.Frag) (C:Addr) (m:Str) (f:Addr):Prop where
 at_:PySem.W.findIn K (.ref C) m=some (some (.ref f))
 fn:PySem.W.isFn K (.ref f)=true
 kp:PySem.W.keepIn K (.ref f)=true
section
variable {X:Cx}{pins:List (Addr × Obj)}{σ:St}{H:Hp}{s:Shared}{a C dx:Addr}{fs:List (Str × V)}{f:Str}{v:V}{A:Around}{E:Value→Shared→Prop}
theorem zajg {b:Bool}{Q:Value→Shared→Prop} (I:Inv X pins σ H s) (e:H a=some (.ins C dx fs)) (c:Cls X.K C) (n:NoAttr X.K C f) (l:fs.lookup f=some v)
  (h:∀ u s',Inv X pins σ H s'→RelV v u→Q u s'):wpAny (model X.prog X.w) A (getAttr (.ref a) f b) Q E s:=by
 obtain ⟨mA,O,r,_,_,_⟩:=zaev I.hok e
 obtain ⟨u,hu,ru⟩:=RelO.some_of (v:=v) (o:=mA f) (by rw [← l]; exact r f)
 exact zaog I.kIn O (c.get f) c.hd n hu (zakc ru) (h u _ (I.tok _) ru)
theorem zafv {m:Str}{g:Addr}{pl:Sem Bool}{Q:Value × List Value→Shared→Prop} (I:Inv X pins σ H s) (e:H a=some (.ins C dx fs)) (c:Cls X.K C) (k:Meth X.K C m g) (l:fs.lookup m=none)
  (h:Q (.ref g,[.ref a]) s):wpAny (model X.prog X.w) A (getMethod (.ref a) m pl) Q E s:=by
 obtain ⟨mA,O,r,_,_,_⟩:=zaev I.hok e
 have hn:mA m=none:=RelO.none_of (by rw [← l]; exact r m)
 exact zamj I.kIn O (c.get m) k.at_ k.fn hn h
theorem zajh {y:V}{u:Value}{Q:Unit→Shared→Prop} (I:Inv X pins σ H s) (e:H a=some (.ins C dx fs)) (c:Cls X.K C) (n:NoAttr X.K C f) (hl:fs.length < 1000) (ry:RelV y u)
  (h:∀ s',Inv X pins σ (upd H a (.ins C dx (putF f y fs))) s'→Q () s'):wpAny (model X.prog X.w) A (setAttr (.ref a) f u) Q E s:=by
 obtain ⟨mA,O,r,wi,_,ho⟩:=zaev I.hok e
 have hz:(fs.map (·.1)).length≤sizeLine:=by rw [List.length_map,sizeLine_eq]; omega
 refine zaoh I.kIn O c.sa c.po n.taker c.hd wi hz fun h' O' sb=>h _ ?_
 have hd:∃ o,h'.get? dx=some o:=let ⟨o,_,_,e',_⟩:=O'.ns; ⟨o,e'⟩
 refine I.write (x:=a) (e:=dx) (by rw [e]; exact True.intro) (.inr ho) (fun b q hb z=>(sb.2 b hb).trans z) hd ?_
 refine ⟨by rw [zaak O.ne]; exact ho,?_,O.ne,O'.obj,_,O'.ns,fun g=>?_,fun g hg=>?_⟩
 ·have:=zaeu f y fs; omega
 ·show RelO ((putF f y fs).lookup g) (if g=f then some u else mA g)
  rw [zaes]
  by_cases q:g=f
  ·rw [if_pos q,if_pos q]; exact ry
  ·rw [if_neg q,if_neg q]; exact r g
 ·by_cases q:g=f
  ·rw [q]; exact (zaet f y fs).1
  ·refine (zaet f y fs).2 g (wi g fun z=>hg ?_)
   show (if g=f then some u else mA g)=none
   rw [if_neg q]; exact z
theorem Inv.made (I:Inv X pins σ H s):Inv X pins σ (upd (upd H s.heap.objs.size (.own (s.heap.objs.size + 1))) (s.heap.objs.size + 1) (.ins C s.heap.objs.size []))
  { s with heap:=(s.heap.push PySem.W.emptyDict).push (PySem.W.instObj C s.heap.objs.size) }:=by
 have e1:(s.heap.push PySem.W.emptyDict).get? s.heap.objs.size=some PySem.W.emptyDict:=Heap.get?_push_size s.heap rfl
 have e2:((s.heap.push PySem.W.emptyDict).push (PySem.W.instObj C s.heap.objs.size)).get? (s.heap.objs.size + 1)=some (PySem.W.instObj C s.heap.objs.size):=by
  have:=Heap.get?_push_size (s.heap.push PySem.W.emptyDict) (o:=PySem.W.instObj C s.heap.objs.size) rfl
  rwa [Heap.size_push] at this
 have e3:(s.heap.push PySem.W.emptyDict).Ns s.heap.objs.size (fun _=>none):=⟨PySem.W.emptyDict,#[],_,e1,rfl,(fun e he=>absurd he (by simp)),fun _=>rfl⟩
 have I1:=I.laid (a:=s.heap.objs.size) (o:=.own (s.heap.objs.size + 1)) (h':=s.heap.push PySem.W.emptyDict) (t':=s.toks) (fun b u q=>Heap.get?_push_of_some _ q) (Nat.le_refl _) ⟨_,e1⟩
 refine I1.laid (a:=s.heap.objs.size + 1) (o:=.ins C s.heap.objs.size []) (t':=s.toks) (fun b u q=>Heap.get?_push_of_some _ q) (Nat.le_of_eq (Heap.size_push _ _)) ?_
 have ne:s.heap.objs.size≠s.heap.objs.size + 1:=Nat.ne_of_lt (Nat.lt_succ_self _)
 refine ⟨by rw [zaak ne,zaag],Nat.zero_le _,ne,e2,fun _=>none,(Heap.Ns1.of_empty e3).at fun o q=>Heap.get?_push_of_some _ q,fun _=>True.intro,fun y hy=>absurd rfl hy⟩
theorem zaoi {prog:Program}{w:World}{env:Env}{e:Expr}{f:Str}{pos:Pos}{s:Shared}{Q:Value→Shared→Prop} (hb:attributeBase e f env (eval e env)=eval e env)
  (h:wpAny (model prog w) A (eval e env) (fun o s₁=>wpAny (model prog w) A (getAttr o f true) Q E s₁) E s):wpAny (model prog w) A (eval (.Attribute e f pos) env) Q E s :=
 Attribute_any_ h (by rw [arm_eval_Attribute,hb])
end
def tFld (K:PySem.W.Frag) (ta:TE) (f:Str):TE:=fun σ H Q=>ta σ H fun x H1=>∃ a C dx fs v,x=.ref a∧H1 a=some (.ins C dx fs)∧Cls K C∧NoAttr K C f∧fs.lookup f=some v∧Q v H1
def sFld (K:PySem.W.Frag) (ta tv:TE) (f:Str):TS:=fun D σ H=>tv σ H fun y H1=>ta σ H1 fun x H2=>∃ a C dx fs,x=.ref a∧H2 a=some (.ins C dx fs)∧Cls K C∧NoAttr K C f∧fs.length < 1000 ∧
 D.nx σ (upd H2 a (.ins C dx (putF f y fs)))
section
variable {X:Cx}{o e value:Expr}{f:Str}{pos pos' tpos:Pos}{ta tv:TE}
theorem zaqm (he:PE X e ta) (hb:attributeBase e f X.env (eval e X.env)=eval e X.env):PE X (.Attribute e f pos) (tFld X.K ta f):=by
 intro pins s σ H Q I h
 refine zaoi hb (thn (he pins s σ H _ I h) fun u s1 ⟨x,H1,I1,rx,a,C,dx,fs,v,ex,ea,c,n,l,q⟩=>?_)
 subst ex
 obtain rfl:u=Value.ref a:=rx
 exact zajg I1 ea c n l fun u' s2 I2 ru=>⟨v,H1,I2,ru,q⟩
theorem zaqn (ha:PE X o ta) (hv:PE X value tv) (hs:swapsWith value (some (.Attribute o f pos')) pos.line X.env=pure false):PS X (.Assign [.Attribute o f pos'] value pos) (sFld X.K ta tv f):=by
 intro pins s σ H D I h
 refine plainObj_wpAny_Assign_Attribute (thn (hv pins s σ H _ I h) fun u s1 ⟨y,H1,I1,ry,q⟩=>thn (ha pins s1 σ H1 _ I1 q) fun ov s2 ⟨x,H2,I2,rx,a,C,dx,fs,ex,ea,c,n,l,q2⟩=>?_) hs
 subst ex
 obtain rfl:ov=Value.ref a:=rx
 exact zajh I2 ea c n l ry fun s3 I3=>⟨σ,_,I3,q2⟩
end
section
variable {X:Cx}{pins:List (Addr × Obj)}{σ:St}{H:Hp}{s:Shared}{A:Around}{E:Value→Shared→Prop}{Q:Value→Shared→Prop}{c:Value}{b:Bool}
inductive TyOf (K:PySem.W.Frag) (H:Hp):V→Value→Prop where
 | non:TyOf K H .non (.type "NoneType")
 | bl (x:Bool):TyOf K H (.bl x) (.type "bool")
 | int (i:Int):TyOf K H (.int i) (.type "int")
 | str (x:Str):TyOf K H (.str x) (.type "str")
 | flt (x:UInt64):TyOf K H (.flt x) (.type "float")
 | lst {a:Addr}{xs:List V} (e:H a=some (.lst xs)):TyOf K H (.ref a) (.type "list")
 | frz {a:Addr}{o:Obj}{xs:List V} (e:H a=some (.frz o (.lst xs))):TyOf K H (.ref a) (.type "list")
 | tup {a:Addr}{xs:List V} (e:H a=some (.tup xs)):TyOf K H (.ref a) (.type "tuple")
 | dK {a:Addr}{kvs:List (Key × V)} (e:H a=some (.dK kvs)):TyOf K H (.ref a) (.type "dict")
 | dT {a:Addr}{kvs:List (List Key × V)} (e:H a=some (.dT kvs)):TyOf K H (.ref a) (.type "dict")
 | ins {a C dx:Addr}{fs:List (Str × V)} (e:H a=some (.ins C dx fs)) (cl:Cls K C) (ha:PySem.W.findIn K (.ref C) "__class__" = some (some (.builtin "object.__class__")))
   (hn:PySem.W.specialIn K (.builtin "object.__class__") "__get__" = some (some (.builtin "getset_descriptor.__get__"))) (htk:PySem.W.takesIn K (.builtin "object.__class__")=some true)
   (hm:PySem.W.mroIn K C (.type "object")=some true):TyOf K H (.ref a) (.ref C)
theorem zakd {x:V}{u t:Value} (I:Inv X pins σ H s) (rx:RelV x u) (ty:TyOf X.K H x t) (e:PySem.W.kitOne X.K t c=some b) (h:∀ tk,Q (.bool b) { s with toks:=tk }) :
  wpAny (model X.prog X.w) A (call (.builtin "isinstance") [u,c]) Q E s:=by
 cases ty with
 | non=>cases (show u=Value.none from rx); exact PySem.W.kia_one PySem.W.kitx_none I.kIn True.intro e (fun z=>nomatch z) h
 | bl y=>cases (show u=Value.bool y from rx); exact PySem.W.kia_one PySem.W.kitx_bool I.kIn True.intro e (fun z=>nomatch z) h
 | int i=>obtain ⟨t,q⟩:=(show ∃ t,u=Value.int i t from rx); cases q; exact PySem.W.kia_one PySem.W.kitx_int I.kIn True.intro e (fun z=>nomatch z) h
 | str y=>obtain ⟨t,q⟩:=(show ∃ t,u=Value.str y t from rx); cases q; exact PySem.W.kia_one PySem.W.kitx_str I.kIn True.intro e (fun z=>nomatch z) h
 | flt y=>obtain ⟨t,q⟩:=(show ∃ t,u=Value.float y t from rx); cases q; exact PySem.W.kia_one PySem.W.kitx_float I.kIn True.intro e (fun z=>nomatch z) h
 | @lst a xs ea =>
  cases (show u=Value.ref a from rx)
  obtain ⟨_,_,n,_,h1⟩:=(show ObjOk X.prog X.w H s.heap a (.lst xs) from I.hok a _ ea)
  exact PySem.W.kia_one PySem.W.kitx_list I.kIn ⟨_,h1,rfl⟩ e (fun z=>nomatch z) h
 | @frz a ob xs ea =>
  cases (show u=Value.ref a from rx)
  obtain ⟨_,_,_,n,_,h1⟩:=(show ObjOk X.prog X.w H s.heap a (.frz ob (.lst xs)) from I.hok a _ ea)
  exact PySem.W.kia_one PySem.W.kitx_list I.kIn ⟨_,h1,rfl⟩ e (fun z=>nomatch z) h
 | @tup a xs ea =>
  cases (show u=Value.ref a from rx)
  obtain ⟨_,_,_,p⟩:=(show ObjOk X.prog X.w H s.heap a (.tup xs) from I.hok a _ ea)
  obtain ⟨o,h1,h2,_⟩:=p
  exact PySem.W.kia_one PySem.W.kitx_tuple I.kIn ⟨o,h1,h2⟩ e (fun z=>nomatch z) h
 | @dK a kvs ea =>
  cases (show u=Value.ref a from rx)
  obtain ⟨_,_,vs,_,p⟩:=(show ObjOk X.prog X.w H s.heap a (.dK kvs) from I.hok a _ ea)
  obtain ⟨o,es,ep,h1,h2,_⟩:=p
  exact PySem.W.kia_one PySem.W.kitx_dict I.kIn ⟨o,h1,h2.1⟩ e (fun z=>nomatch z) h
 | @dT a kvs ea =>
  cases (show u=Value.ref a from rx)
  obtain ⟨_,_,xs,_,o,es,ep,h1,h2,_⟩:=(show ObjOk X.prog X.w H s.heap a (.dT kvs) from I.hok a _ ea)
  exact PySem.W.kia_one PySem.W.kitx_dict I.kIn ⟨o,h1,h2.1⟩ e (fun z=>nomatch z) h
 | @ins a C dx fs ea cl ha hn htk hm =>
  cases (show u=Value.ref a from rx)
  obtain ⟨mA,O,_⟩:=zaev I.hok ea
  obtain ⟨od,J,_⟩:=O.look
  exact PySem.W.kia_one (PySem.W.kitx_own (cl.get _) cl.hd ha hn htk hm) I.kIn J e (fun z=>nomatch z) h
end
structure Room (k:Nat) (A:Around):Prop where
 hd:A.handled=none
 dp:A.depth + 3 * k + 5 < recursionLimit
 un:A.units + 16 * k + 200 < cLine
theorem Room.mono {j k:Nat}{A:Around} (r:Room k A) (h:j≤k):Room j A:=⟨r.hd,by have:=r.dp; omega,by have:=r.un; omega⟩
theorem Room.deeper {k:Nat}{A:Around} (r:Room (k + 1) A) (env:Env):Room k (A.deeper env) :=
 ⟨r.hd,by have:=r.dp; show A.depth + 1 + 3 * k + 5 < _; omega,by have:=r.un; show A.units + 3 + 16 * k + 200 < _; omega⟩
theorem zaji {A:Around}{C:Addr}{us:List Value}{kw:List (Str × Value)}:(A.under (.builtin "type.__call__" ⟨.ref C :: us,kw⟩)).depth=A.depth + 1:=by
 first | rfl | simp [Around.under,Code.weight,Code.isCreation,Code.isGuard,Code.isCaller,Code.frames,Code.isFrame,guardIds]
theorem zajj {A:Around}{C:Addr}{us:List Value}{kw:List (Str × Value)}:(A.under (.builtin "type.__call__" ⟨.ref C :: us,kw⟩)).units=A.units + 1:=by
 first | rfl | simp [Around.under,Code.cUnits,Code.frames,Code.isFrame]
theorem Room.make {k:Nat}{A:Around} (r:Room (k + 1) A) (C:Addr) (us:List Value) (kw:List (Str × Value)):Room k (A.under (.builtin "type.__call__" ⟨.ref C :: us,kw⟩)) :=
 ⟨r.hd,by have:=r.dp; rw [zaji]; omega,by have:=r.un; rw [zajj]; omega⟩
theorem Room.depth {k:Nat}{A:Around} (r:Room k A):A.depth < recursionLimit:=by have:=r.dp; omega
theorem Room.units {k:Nat}{A:Around} (r:Room k A):A.units + 64 < cLine:=by have:=r.un; omega
def tNil:TA:=fun _ H Q=>Q [] H
def tCons (ta:TE) (tr:TA):TA:=fun σ H Q=>ta σ H fun x H1=>tr σ H1 fun xs H2=>Q (x :: xs) H2
section
variable {X:Cx}{e:Expr}{es:List Expr}{te:TE}{t:TA}{pos:Pos}
theorem zaqo:PA X [] tNil:=fun _ _ _ _ H Q I h=>Calls.spliced_nil ⟨[],H,I,.nil,h⟩
theorem zaoj (ha:PE X e te) (hr:PA X es t) (hs:starEach (e :: es) X.env=(false,eval e X.env) :: starEach es X.env:=by rfl):PA X (e :: es) (tCons te t):=by
 intro pos pins s σ H Q I h
 rw [hs]
 show wpAny _ _ (spliced ((false,eval e X.env) :: backTo pos (starEach es X.env))) _ _ s
 refine Calls.spliced_cons (thn (ha pins s σ H _ I h) fun u s1 ⟨x,H1,I1,r1,q1⟩=>?_)
 exact thn (hr pos pins s1 σ H1 _ I1 q1) fun us s2 ⟨xs,H2,I2,r2,q2⟩=>⟨x :: xs,H2,I2,.cons r1 r2,q2⟩
def tTup (t:TA):TE:=fun σ H Q=>t σ H fun xs H1=>xs.length≤sizeLine∧∀ p,H1 p=none→Q (.ref p) (upd H1 p (.tup xs))
def tLst (t:TA):TE:=fun σ H Q=>t σ H fun xs H1=>xs.length≤sizeLine∧∀ p,H1 p=none→Q (.ref p) (upd H1 p (.lst xs))
theorem zaqp {x1} (h:PA X es t):PE X (.Tuple es x1 pos) (tTup t):=by
 intro pins s σ H Q I hq
 refine wpAny_Tuple_spliced (thn (h pos pins s σ H _ I hq) fun us s1 ⟨xs,H1,I1,r,z,q⟩=>⟨by rw [← r.length]; exact z,?_⟩)
 have hf:H1 s1.heap.objs.size=none:=I1.hok.fresh (Nat.le_refl _)
 refine ⟨.ref s1.heap.objs.size,upd H1 s1.heap.objs.size (.tup xs),I1.laid (t':=s1.toks) (fun b u e=>Heap.get?_push_of_some _ e) (Nat.le_refl _) ?_,rfl,q _ hf⟩
 exact ⟨z,us,r,⟨_,Heap.get?_push_size _ rfl,rfl,_,rfl⟩⟩
theorem zaqq (h:PA X es t):PE X (.List es pos) (tLst t):=by
 intro pins s σ H Q I hq
 refine wpAny_List_spliced (thn (h pos pins s σ H _ I hq) fun us s1 ⟨xs,H1,I1,r,z,q⟩=>⟨by rw [← r.length]; exact z,?_⟩)
 have hf:H1 s1.heap.objs.size=none:=I1.hok.fresh (Nat.le_refl _)
 refine ⟨.ref s1.heap.objs.size,upd H1 s1.heap.objs.size (.lst xs),I1.laid (t':=s1.toks) (fun b u e=>Heap.get?_push_of_some _ e) (Nat.le_refl _) ?_,rfl,q _ hf⟩
 exact ⟨z,us,0,r,Heap.get?_push_size _ rfl⟩
end
abbrev Sp:=List V→Hp→VK→XK→Prop
abbrev CXT:=List Env→Hp→Shared→XK→Value→Shared→Prop
structure Env0 (P:Program) (w:World) (K:PySem.W.Frag) (mg:Str→Option Value) (base:Heap) (A:Around) (outer:List Env) (s:Shared) (H:Hp):Prop where
 frames:A.frames=some outer
 mod:Mod K mg base
 bs:∀ b o,base.get? b=some o→s.heap.get? b=some o∧H b=none
 bsz:base.objs.size≤s.heap.objs.size
 funs:s.heap.FunFrames base outer
 frf:∀ b∈frs outer,H b=none
 hok:HOk P w H s.heap
 bare:AllBare s.gens
def CE (outer:List Env) (P:Program) (w:World) (H:Hp) (s:Shared) (Q:VK) (u:Value) (s':Shared):Prop :=
 ∃ v H',s'.os=s.os∧AllBare s'.gens∧Un (frs outer) [] H H' s.heap s'.heap∧HOk P w H' s'.heap∧RelV v u∧Q v H'
def CR (CX:CXT) (outer:List Env) (P:Program) (w:World) (H:Hp) (s:Shared) (Q:VK) (E:XK) (r:Result) (s':Shared):Prop :=
 match r with
 | .ok (.ret u)=>CE outer P w H s Q u s'
 | .ok _=>False
 | .error e=>CX outer H s E e s'
structure FnOk (P:Program) (w:World) (K:PySem.W.Frag) (mg:Str→Option Value) (base:Heap) (CX:CXT) (k:Nat) (f:Addr) (fd:FuncData) (ps:List Str) (sp:Sp):Prop where
 len:∀ vs H Q E,sp vs H Q E→vs.length=ps.length
 run:∀ (A:Around) (outer:List Env) (s:Shared) (H:Hp) (args:Args) (us:List Value) (vs:List V) (Q:VK) (E:XK),Room k A→Env0 P w K mg base A outer s H→BindsTo s fd args (ps.zip us)→Vals vs us→sp vs H Q E →
  codeAny (model P w) A (.call (.ref f) args) (CR CX outer P w H s Q E) s
theorem FnOk.mono {P:Program}{w:World}{K:PySem.W.Frag}{mg:Str→Option Value}{base:Heap}{CX:CXT}{j k:Nat}{f:Addr}{fd:FuncData}{ps:List Str}{sp:Sp} (F:FnOk P w K mg base CX j f fd ps sp) (h:j≤k) :
  FnOk P w K mg base CX k f fd ps sp:=⟨F.len,fun A outer s H args us vs Q E hr=>F.run A outer s H args us vs Q E (hr.mono h)⟩
theorem Env0.make {P:Program}{w:World}{K:PySem.W.Frag}{mg:Str→Option Value}{base:Heap}{A:Around}{outer:List Env}{s:Shared}{H:Hp} (e:Env0 P w K mg base A outer s H) (C:Addr) (us:List Value) (kw:List (Str × Value)) :
  Env0 P w K mg base (A.under (.builtin "type.__call__" ⟨.ref C :: us,kw⟩)) outer s H:=⟨by first | exact e.frames | (simpa [Around.under,Code.envs,Code.isFrame,pushEnvs] using e.frames),e.mod,e.bs,e.bsz,e.funs,e.frf,e.hok,e.bare⟩
section
variable {X:Cx}{pins:List (Addr × Obj)}{σ:St}{H:Hp}{s s':Shared}
theorem Inv.env0 (I:Inv X pins σ H s):Env0 X.prog X.w X.K X.mg X.base X.A X.stack s H :=
 ⟨I.ok.frames,I.ok.mod,I.bs,Nat.le_trans I.ok.bsz I.sz,I.stack,I.stkFree,I.hok,I.bare⟩
theorem Inv.after {Q:VK}{u:Value} (I:Inv X pins σ H s) (h:CE X.stack X.prog X.w H s Q u s'):EP X pins σ Q u s':=by
 obtain ⟨v,H',os,bare,un,hok,r,q⟩:=h
 obtain ⟨hh,g,d,t,os'⟩:=s'
 obtain rfl:os'=s.os:=os
 exact ⟨v,H',I.call (h':=hh) (g':=g) (d':=d) (t':=t) (ch:=[]) un hok bare (fun b z=>absurd z (by simp)),r,q⟩
end
def tCall (sp:Sp) (dvs:List V) (E:XK) (t:TA):TE:=fun σ H Q=>t σ H fun vs H1=>sp (vs++dvs) H1 Q E
def tMeth (C:Addr) (m:Str) (sp:Sp) (dvs:List V) (E:XK) (ta:TE) (t:TA):TE:=fun σ H Q=>ta σ H fun x H1=>∃ a dx fs,x=.ref a∧H1 a=some (.ins C dx fs)∧fs.lookup m=none ∧
 t σ H1 fun vs H2=>sp (x :: (vs++dvs)) H2 Q E
def tMake (C:Addr) (sp:Sp) (dvs:List V) (E:XK) (t:TA):TE:=fun σ H Q=>t σ H fun vs H1=>∀ x dx,H1 x=none→H1 dx=none→dx≠x →
 sp (.ref x :: (vs++dvs)) (upd (upd H1 dx (.own x)) x (.ins C dx [])) (fun v H2=>v=.non∧Q (.ref x) H2) E
def Binds (K:PySem.W.Frag) (fd:FuncData) (ps:List Str) (ds:List Value):Prop :=
 ∀ (s:Shared) (us:List Value),K.In s.heap→(us++ds).length=ps.length→BindsTo s fd ⟨us,[]⟩ (ps.zip (us++ds))
theorem Binds.all {K:PySem.W.Frag}{fd:FuncData}{ps:List Str} (h:∀ us:List Value,us.length=ps.length→bindArgs fd ⟨us,[]⟩=pure (ps.zip us)):Binds K fd ps []:=fun s us _ hl=>by
 rw [List.append_nil] at hl ⊢
 exact .of_eq (h us hl)
def Passes (CX:CXT) (X:Cx) (E:XK):Prop:=∀ (pins:List (Addr × Obj)) (σ:St) (H:Hp) (s:Shared) (e:Value) (s':Shared),Inv X pins σ H s→CX X.stack H s E e s'→X.xe e s'
section
variable {X:Cx}{CX:CXT}{k:Nat}{f C:Addr}{fd:FuncData}{ps:List Str}{sp:Sp}{dvs:List V}{ds:List Value}{E:XK}{x m:Str}{p pos apos:Pos}{e o:Expr}{es:List Expr}{ta:TE}{t:TA}
theorem zaip {pins:List (Addr × Obj)}{σ:St}{H:Hp}{s:Shared}{Q:VK}{us:List Value}{vs:List V} (F:FnOk X.prog X.w X.K X.mg X.base CX k f fd ps sp) (hr:Room k X.A) (hb:Binds X.K fd ps ds) (hd:Vals dvs ds) (hx:Passes CX X E)
  (I:Inv X pins σ H s) (r:Vals vs us) (h:sp (vs++dvs) H Q E):wpAny (model X.prog X.w) X.A (call (.ref f) us) (EP X pins σ Q) X.xe s:=by
 have r2:Vals (vs++dvs) (us++ds):=r.append hd
 have hl:(us++ds).length=ps.length:=by rw [← r2.length]; exact F.len _ _ _ _ h
 refine wpAny_call (codeAny_mono (F.run X.A X.stack s H ⟨us,[]⟩ (us++ds) (vs++dvs) Q E hr I.env0 (hb s us I.kIn hl) r2 h) fun r s' hq=>?_)
 cases r with
 | error e=>exact hx pins σ H s e s' I hq
 | ok fl =>
  cases fl with
  | ret u=>exact I.after hq
  | next=>exact False.elim hq
  | brk=>exact False.elim hq
  | cont=>exact False.elim hq
theorem zaok (F:FnOk X.prog X.w X.K X.mg X.base CX k f fd ps sp) (hr:Room k X.A) (hg:Gl X x) (hm:X.mg x=some (.ref f)) (hk:PySem.W.keepIn X.K (.ref f)=true) (hb:Binds X.K fd ps ds) (hd:Vals dvs ds) (hx:Passes CX X E)
  (ha:PA X (e :: es) t) (hdb:(x == ("__debug__" : Str))=false:=by decide) (he:starEach (e :: es) X.env=(false,eval e X.env) :: starEach es X.env:=by rfl) (hpl:(backTo pos (starEach es X.env)).any (·.1)=false:=by rfl) :
  PE X (.Call (.Name x p) (e :: es) [] pos) (tCall sp dvs E t):=by
 intro pins s σ H Q I h
 refine wpAny_Call_Name_kw (zagc I hg hm ?_ hdb)
 refine PySem.W.callWith_K (h₀:=X.base) I.ok.mod.kin hk (thn (ha pos pins s σ H _ I h) fun us s1 ⟨vs,H1,I1,r,q⟩=>⟨I1.kIn,?_⟩) he hpl
 exact zaip F hr hb hd hx I1 r q
theorem zaol {pl:Sem Bool} (he:PE X o ta) (c:Cls X.K C) (hm:Meth X.K C m f) (F:FnOk X.prog X.w X.K X.mg X.base CX k f fd ps sp) (hr:Room k X.A) (hb:Binds X.K fd ps ds) (hd:Vals dvs ds) (hx:Passes CX X E) (ha:PA X (e :: es) t)
  (hst:starEach (e :: es) X.env=(false,eval e X.env) :: starEach es X.env:=by rfl) (hpl:(backTo pos (starEach es X.env)).any (·.1)=false:=by rfl)
  (ht:eval (.Call (.Attribute o m apos) (e :: es) [] pos) X.env=(do
   let ov ← eval o X.env
   standAt apos.atName
   let (f,first) ← holding [ov] (getMethod ov m pl)
   callWith pos f first (backTo pos (starEach (e :: es) X.env)) (backToKw pos (keywordEach [] X.env))):=by rfl) :
  PE X (.Call (.Attribute o m apos) (e :: es) [] pos) (tMeth C m sp dvs E ta t):=by
 intro pins s σ H Q I h
 refine PySem.W.methodCall_KW (pl:=pl) (thn (he pins s σ H _ I h) fun u s1 ⟨x,H1,I1,rx,a,dx,fs,ex,ea,l,q⟩=>?_) ht
 subst ex
 obtain rfl:u=Value.ref a:=rx
 refine zafv I1 ea c hm l ?_
 refine PySem.W.callWith_K (first:=[.ref a]) (h₀:=X.base) I.ok.mod.kin hm.kp (thn (ha pos pins s1 σ H1 _ I1 q) fun us s2 ⟨vs,H2,I2,r,q2⟩=>⟨I2.kIn,?_⟩) hst hpl
 exact zaip (us:=.ref a :: us) (vs:=.ref a :: vs) F hr hb hd hx I2 (.cons rfl r) q2
theorem zaml {pl:Sem Bool} (he:PE X o ta) (c:Cls X.K C) (hm:Meth X.K C m f) (F:FnOk X.prog X.w X.K X.mg X.base CX k f fd ps sp) (hr:Room k X.A) (hb:Binds X.K fd ps ds) (hd:Vals dvs ds) (hx:Passes CX X E)
  (ht:eval (.Call (.Attribute o m apos) [] [] pos) X.env=(do
   let ov ← eval o X.env
   standAt apos.atName
   let (f,first) ← holding [ov] (getMethod ov m pl)
   callWith pos f first (backTo pos (starEach [] X.env)) (backToKw pos (keywordEach [] X.env))):=by rfl) :
  PE X (.Call (.Attribute o m apos) [] [] pos) (tMeth C m sp dvs E ta tNil):=by
 intro pins s σ H Q I h
 refine PySem.W.methodCall_KW (pl:=pl) (thn (he pins s σ H _ I h) fun u s1 ⟨x,H1,I1,rx,a,dx,fs,ex,ea,l,q⟩=>?_) ht
 subst ex
 obtain rfl:u=Value.ref a:=rx
 refine zafv I1 ea c hm l ?_
 exact PySem.W.callWith_K0 (first:=[.ref a]) I1.kIn hm.kp (zaip (us:=[.ref a]) (vs:=[.ref a]) F hr hb hd hx I1 (.cons rfl .nil) q)
structure Mk (K:PySem.W.Frag) (C f:Addr):Prop where
 makes:PySem.W.makesIn K C=true
 init:PySem.W.findIn K (.ref C) "__init__" = some (some (.ref f))
 fn:PySem.W.isFn K (.ref f)=true
 kp:PySem.W.keepIn K (.ref C)=true
theorem zamm {pins:List (Addr × Obj)}{σ:St}{H:Hp}{s:Shared}{Q:VK}{us:List Value}{vs:List V} (M:Mk X.K C f) (F:FnOk X.prog X.w X.K X.mg X.base CX k f fd ps sp) (hr:Room (k + 1) X.A) (hb:Binds X.K fd ps ds) (hd:Vals dvs ds)
  (hx:Passes CX X E) (I:Inv X pins σ H s) (r:Vals vs us)
  (h:∀ x dx,H x=none→H dx=none→dx≠x→sp (.ref x :: (vs++dvs)) (upd (upd H dx (.own x)) x (.ins C dx [])) (fun v H2=>v=.non∧Q (.ref x) H2) E) :
  wpAny (model X.prog X.w) X.A (call (.ref C) us) (EP X pins σ Q) X.xe s:=by
 have hq:=h (s.heap.objs.size + 1) s.heap.objs.size (I.hok.fresh (Nat.le_succ _)) (I.hok.fresh (Nat.le_refl _)) (Nat.ne_of_lt (Nat.lt_succ_self _))
 have I2:=Inv.made (C:=C) I
 have r2:Vals (V.ref (s.heap.objs.size + 1) :: (vs++dvs)) (Value.ref (s.heap.objs.size + 1) :: (us++ds)):=.cons rfl (r.append hd)
 have hl:(Value.ref (s.heap.objs.size + 1) :: us++ds).length=ps.length:=by
  have e:=r2.length
  rw [F.len _ _ _ _ hq] at e
  exact e.symm
 refine wpAny_call (zamk (f:=f) I.kIn M.makes M.init (beq_iff_eq.mp M.fn) (codeAny_mono (F.run _ X.stack _ _ ⟨Value.ref (s.heap.objs.size + 1) :: us,[]⟩ (Value.ref (s.heap.objs.size + 1) :: (us++ds)) _ _ E (hr.make C us [])
  (I2.env0.make C us []) (hb _ (Value.ref (s.heap.objs.size + 1) :: us) I2.kIn hl) r2 hq) fun r s' hq'=>?_))
 cases r with
 | error e=>exact hx pins σ _ _ e s' I2 hq'
 | ok fl =>
  cases fl with
  | ret u =>
   obtain ⟨v,H',I3,rv,ev,q3⟩:=I2.after hq'
   subst ev
   exact ⟨rv,⟨V.ref (s.heap.objs.size + 1),H',I3,rfl,q3⟩⟩
  | next=>exact False.elim hq'
  | brk=>exact False.elim hq'
  | cont=>exact False.elim hq'
theorem zaom (M:Mk X.K C f) (F:FnOk X.prog X.w X.K X.mg X.base CX k f fd ps sp) (hr:Room (k + 1) X.A) (hg:Gl X x) (hm:X.mg x=some (.ref C)) (hb:Binds X.K fd ps ds) (hd:Vals dvs ds) (hx:Passes CX X E)
  (ha:PA X (e :: es) t) (hdb:(x == ("__debug__" : Str))=false:=by decide) (he:starEach (e :: es) X.env=(false,eval e X.env) :: starEach es X.env:=by rfl) (hpl:(backTo pos (starEach es X.env)).any (·.1)=false:=by rfl) :
  PE X (.Call (.Name x p) (e :: es) [] pos) (tMake C sp dvs E t):=by
 intro pins s σ H Q I h
 refine wpAny_Call_Name_kw (zagc I hg hm ?_ hdb)
 refine PySem.W.callWith_K (h₀:=X.base) I.ok.mod.kin M.kp (thn (ha pos pins s σ H _ I h) fun us s1 ⟨vs,H1,I1,r,q⟩=>⟨I1.kIn,?_⟩) he hpl
 exact zamm M F hr hb hd hx I1 r q
end
structure FnScope (N P:List Str) (sc:Scope):Prop where
 kind:sc.kind=.function
 co:sc.isCoroutine=false
 gen:sc.isGenerator=false
 nd:N.Nodup
 pre:N.take P.length=P
 par:∀ x∈P,sc.names.lookup x=some .local∨sc.names.lookup x=some .cell
 nofree:∀ y∈sc.names,y.2≠.free
theorem zag3 {kindOf:Str→Option NameKind}{x:Str}:∀ {binds:List (Str × Value)}{m:Str→Option Value},(∀ v,(x,v) ∉ binds)→bindL kindOf binds m x=m x
 | [],_,_=>rfl
 | (n,v) :: r,m,h=>by
  unfold bindL
  rw [zag3 fun w hw=>h w (List.mem_cons_of_mem _ hw)]
  split
  ·have:x≠n:=by rintro rfl; exact h v List.mem_cons_self
   simp [this]
  ·rfl
theorem zag4 {kindOf:Str→Option NameKind}{x:Str}:∀ {binds:List (Str × Value)}{m:Str→Option Value},(∀ v,(x,v) ∉ binds)→bindC kindOf binds m x=m x
 | [],_,_=>rfl
 | (n,v) :: r,m,h=>by
  unfold bindC
  rw [zag4 fun w hw=>h w (List.mem_cons_of_mem _ hw)]
  split
  ·rfl
  ·have:x≠n:=by rintro rfl; exact h v List.mem_cons_self
   simp [this]
theorem zag5 {kindOf:Str→Option NameKind}{x:Str}{v:Value}:∀ {P:List Str}{vs:List Value}{i:Nat}{m:Str→Option Value},P.Nodup→P[i]?=some x→vs[i]?=some v→kindOf x=some .local →
  bindL kindOf (P.zip vs) m x=some v
 | [],_,_,_,_,h,_,_=>by simp at h
 | _ :: _,[],_,_,_,_,h,_=>by simp at h
 | p :: P,w :: vs,0,m,nd,h1,h2,hk=>by
  simp at h1 h2; subst h1; subst h2
  show bindL kindOf ((p,w) :: P.zip vs) m p=_
  unfold bindL
  rw [zag3 fun v hv=>(List.nodup_cons.mp nd).1 (List.of_mem_zip hv).1,if_pos hk]
  simp
 | p :: P,w :: vs,i + 1,m,nd,h1,h2,hk=>by
  show bindL kindOf ((p,w) :: P.zip vs) m x=_
  unfold bindL
  exact zag5 (i:=i) (List.nodup_cons.mp nd).2 (by simpa using h1) (by simpa using h2) hk
theorem zag6 {kindOf:Str→Option NameKind}{x:Str}{v:Value}:∀ {P:List Str}{vs:List Value}{i:Nat}{m:Str→Option Value},P.Nodup→P[i]?=some x→vs[i]?=some v→kindOf x≠some .local →
  bindC kindOf (P.zip vs) m x=some v
 | [],_,_,_,_,h,_,_=>by simp at h
 | _ :: _,[],_,_,_,_,h,_=>by simp at h
 | p :: P,w :: vs,0,m,nd,h1,h2,hk=>by
  simp at h1 h2; subst h1; subst h2
  show bindC kindOf ((p,w) :: P.zip vs) m p=_
  unfold bindC
  rw [zag4 fun v hv=>(List.nodup_cons.mp nd).1 (List.of_mem_zip hv).1,if_neg hk]
  simp
 | p :: P,w :: vs,i + 1,m,nd,h1,h2,hk=>by
  show bindC kindOf ((p,w) :: P.zip vs) m x=_
  unfold bindC
  exact zag6 (i:=i) (List.nodup_cons.mp nd).2 (by simpa using h1) (by simpa using h2) hk
def start (N:List Str) (vs:List V):St:=vs.map some++List.replicate (N.length - vs.length) none
def cxOf (CX:CXT) (P:Program) (w:World) (K:PySem.W.Frag) (mg:Str→Option Value) (base:Heap) (N:List Str) (qual:Str) (scope:Scope) (f:Addr) (cd:Value) (A:Around) (outer:List Env) (s:Shared) (H:Hp) (E:XK):Cx where
 prog:=P
 w:=w
 K:=K
 mg:=mg
 base:=base
 A:=A.deeper (envOfC qual scope s.heap.objs.size f cd)
 N:=N
 s₀:=s
 H₀:=H
 env:=envOfC qual scope s.heap.objs.size f cd
 outer:=outer
 stack:=envOfC qual scope s.heap.objs.size f cd :: outer
 ex:=[]
 calm:=true
 fn:=fun _=>true
 pn:=[]
 xe:=fun e s'=>wpAny (model P w) (A.deeper (envOfC qual scope s.heap.objs.size f cd)) (leaving (envOfC qual scope s.heap.objs.size f cd) e) (fun _ s''=>CX outer H s E e s'') (fun e' s''=>CX outer H s E e' s'') s'
theorem zaiq {sc:Scope}{n:Nat}{x:Str} (h:sc.names.lookup x=some .cell):∃ c,(cellsFrom n sc.names []).lookup x=some c:=by
 have q:=PySem.W.cellsFrom_some sc.names n [] (.inl h)
 exact Option.isSome_iff_exists.mp q
theorem zake {CX:CXT}{P:Program}{w:World}{K:PySem.W.Frag}{mg:Str→Option Value}{base:Heap}{N ps:List Str}{qual:Str}{scope:Scope}{f:Addr}{cd:Value}{A:Around}{outer:List Env}{s s1:Shared}{H:Hp}{E:XK}{us:List Value}{vs:List V}
  (S:FnScope N ps scope) (hd:A.handled=none) (e0:Env0 P w K mg base A outer s H) (hl:vs.length=ps.length) (r:Vals vs us)
  (x:InCallC s s.heap.objs.size (bindL (envOfC qual scope s.heap.objs.size f cd).kindOf (ps.zip us) fun _=>none) (cellsFrom (s.heap.objs.size + 1) scope.names []) (bindC (envOfC qual scope s.heap.objs.size f cd).kindOf (ps.zip us) fun _=>none) s1) :
  Inv (cxOf CX P w K mg base N qual scope f cd A outer s H E) [] (start N vs) H s1:=by
 have hpl:ps.length≤N.length:=by have:=congrArg List.length S.pre; rw [List.length_take] at this; omega
 obtain ⟨h1,tk,rfl,hk⟩:=x.done
 have noA:∀ b:Addr,b ∉ (cxOf CX P w K mg base N qual scope f cd A outer s H E).ex:=fun b z=>absurd (show b∈([]:List Addr) from z) (by simp)
 refine ⟨⟨e0.mod,S.kind,rfl,rfl,Nat.le_refl _,fun y z c h1 h2=>?_,fun y hy=>?_,fun y c _ h=>?_,fun _=>hd,Around.frames_deeper e0.frames,.inr ⟨rfl,rfl⟩,fun b z=>absurd z (noA b),e0.bs,e0.bsz,fun b _ _=>noA b,fun b z=>absurd z (noA b),e0.funs,e0.frf⟩,
  rfl,e0.bare,Un.kept hk,⟨_,x.toInCall.ns,fun i y v h1 h2 h3=>?_⟩,fun y c h=>⟨_,x.cell y c h⟩,e0.hok.fresh (Nat.le_refl _),fun y c h=>?_,fun p hp=>absurd (show p∈([]:List (Addr × Obj)) from hp) (by simp),e0.hok.kept hk,?_⟩
 ·exact name_of_addr x.apart (PySem.mem_of_lookup h1) (PySem.mem_of_lookup h2)
 ·have hy:scope.names.lookup y=some .cell∨scope.names.lookup y=some .free:=hy
  rcases hy with hy | hy
  ·exact zaiq hy
  ·exact absurd rfl (S.nofree _ (PySem.mem_of_lookup hy))
 ·exact Nat.le_of_lt (x.above y c (PySem.mem_of_lookup h))
 ·have hi:i < vs.length:=by
   unfold start at h2
   by_cases hi:i < vs.length
   ·exact hi
   ·rw [List.getElem?_append_right (by simpa using hi)] at h2
    rw [List.getElem?_replicate] at h2
    split at h2 <;> cases h2
  have ha:vs[i]?=some v:=by
   unfold start at h2
   rw [List.getElem?_append_left (by simpa using hi),List.getElem?_map] at h2
   cases e:vs[i]? with
   | none=>rw [e] at h2; cases h2
   | some a=>rw [e] at h2; cases h2; rfl
  obtain ⟨u,hu,rv⟩:=r.get ha
  have hp:ps[i]?=some y:=by
   rw [← S.pre,List.getElem?_take_of_lt (by omega)]; exact h1
  have ndP:ps.Nodup:=by rw [← S.pre]; exact S.nd.sublist (List.take_sublist _ _)
  refine ⟨u,rv,?_⟩
  rcases S.par y (List.mem_of_getElem? hp) with k | k
  ·exact .inl ⟨k,zag5 ndP hp hu k⟩
  ·obtain ⟨c,e⟩:=zaiq (n:=s.heap.objs.size + 1) k
   refine .inr ⟨.inl k,c,e,?_⟩
   have q:=x.cell y c e
   rw [zag6 ndP hp hu (by show scope.names.lookup y≠_; rw [k]; decide)] at q
   exact q
 ·exact e0.hok.fresh (Nat.le_of_lt (x.above y c (PySem.mem_of_lookup h)))
 ·unfold start
  show _=N.length
  rw [List.length_append,List.length_map,List.length_replicate]
  omega
theorem zaqr {CX:CXT}{P:Program}{w:World}{K:PySem.W.Frag}{mg:Str→Option Value}{base:Heap}{k:Nat}{f:Addr}{name qual:Str}{params:Arguments}{body:List Stmt}{scope:Scope}{dV kV doc pm cdv ct oc:Value}{an od:Option Addr}
  {osl:Array (Option Value)}{N ps:List Str}{sp:Sp} (lk:K.lookup f=some ⟨oc,od,.func (PySem.W.fnOf name qual params body scope dV kV doc pm an cdv ct),osl⟩) (hcd:PySem.W.codeIn K cdv qual=true) (S:FnScope N ps scope)
  (len:∀ vs H Q E,sp vs H Q E→vs.length=ps.length)
  (hbody:∀ (A:Around) (outer:List Env) (s:Shared) (H:Hp) (vs:List V) (Q:VK) (E:XK),Room k (A.deeper (envOfC qual scope s.heap.objs.size f cdv))→sp vs H Q E →
   ∃ t,PSs (cxOf CX P w K mg base N qual scope f cdv A outer s H E) body t∧t { nx:=fun _ H'=>Q .non H',rt:=Q } (start N vs) H) :
  FnOk P w K mg base CX (k + 1) f (PySem.W.fnOf name qual params body scope dV kV doc pm an cdv ct) ps sp:=by
 refine ⟨len,fun A outer s H args us vs Q E hr e0 hb r hsp=>?_⟩
 have hl:=len _ _ _ _ hsp
 have KX:K.In s.heap:=e0.mod.kin.keeps fun b o e=>(e0.bs b o e).1
 have lim:s.heap.NoLimit:=e0.mod.nolimit.keeps fun b o e=>(e0.bs b o e).1
 have hkind:∀ y∈ps.zip us,scope.names.lookup y.1=some .local∨(scope.names.lookup y.1=some .cell∧((cellsFrom (s.heap.objs.size + 1) scope.names []).lookup y.1).isSome=true):=fun ⟨n,v⟩ hy=>by
  rcases S.par n (List.of_mem_zip hy).1 with q | q
  ·exact .inl q
  ·exact .inr ⟨q,PySem.W.cellsFrom_some _ _ _ (.inl q)⟩
 refine codeAny_call_function hr.depth (KX _ _ lk) rfl S.co S.gen rfl (PySem.W.codeRec_of KX hcd) (hb _ _ _ _ ?_)
 refine wpAny_newFunctionEnv_cells S.kind hkind fun env he s1 x=>?_
 subst he
 refine ⟨lim.keeps x.toInCall.keep,codeAny_func ?_⟩
 obtain ⟨t,ht,hq⟩:=hbody A outer s H vs Q E (hr.deeper _) hsp
 have I:Inv (cxOf CX P w K mg base N qual scope f cdv A outer s H E) [] (start N vs) H s1:=zake S hr.hd e0 hl r x
 refine wpAny_mono (ht [] s1 (start N vs) H _ I hq) (fun fl s' hs=>?_) fun e s' hs=>hs
 have fin:∀ {σ':St}{H':Hp}{v:V}{u:Value},Inv (cxOf CX P w K mg base N qual scope f cdv A outer s H E) [] σ' H' s'→RelV v u→Q v H'→CE outer P w H s Q u s' :=
  fun {σ' H' v u} J rv q=>⟨v,H',J.os,J.bare,J.base,J.hok,rv,q⟩
 cases fl with
 | ret u =>
  obtain ⟨v,σ',H',J,rv,q⟩:=hs
  exact fin J rv q
 | next =>
  obtain ⟨σ',H',J,q⟩:=hs
  exact fin (v:=V.non) (u:=Value.none) J rfl q
 | brk =>
  obtain ⟨_,_,_,q⟩:=hs
  exact False.elim q
 | cont =>
  obtain ⟨_,_,_,q⟩:=hs
  exact False.elim q
section
variable {X:Cx}{x:Str}{p pos:Pos}{e:Expr}{es:List Expr}{t:TA}{id T:String}{r:List V→Hp→VK→Prop}
def tCB (r:List V→Hp→VK→Prop) (t:TA):TE:=fun σ H Q=>t σ H fun vs H1=>r vs H1 Q
theorem zamn (hc:CallR X (.builtin id) r) (hg:Gl X x) (hm:X.mg x=none) (hv:bootBuiltins x=some (.builtin id)) (ha:PA X (e :: es) t) (hn:x ≠ "__name__" := by decide) (hdb:(x == ("__debug__" : Str))=false:=by decide)
  (he:starEach (e :: es) X.env=(false,eval e X.env) :: starEach es X.env:=by rfl) (hpl:(backTo pos (starEach es X.env)).any (·.1)=false:=by rfl):PE X (.Call (.Name x p) (e :: es) [] pos) (tCB r t):=by
 intro pins s σ H Q I h
 refine wpAny_Call_Name_kw (zaft I hg hm hv ?_ hn hdb)
 exact PyProof.Rows.callWith_builtin1 (thn (ha pos pins s σ H _ I h) fun us s1 ⟨vs,H1,I1,r1,q1⟩=>hc pins s1 σ H1 vs us Q I1 r1 q1) he hpl
theorem zakf (hc:CallR X (.type T) r) (hg:Gl X x) (hm:X.mg x=none) (hv:bootBuiltins x=some (.type T)) (ha:PA X (e :: es) t) (hn:x ≠ "__name__" := by decide) (hdb:(x == ("__debug__" : Str))=false:=by decide)
  (he:starEach (e :: es) X.env=(false,eval e X.env) :: starEach es X.env:=by rfl) (hpl:(backTo pos (starEach es X.env)).any (·.1)=false:=by rfl):PE X (.Call (.Name x p) (e :: es) [] pos) (tCB r t):=by
 intro pins s σ H Q I h
 refine wpAny_Call_Name_kw (zaft I hg hm hv ?_ hn hdb)
 exact PyProof.Rows.callWith_type1 (thn (ha pos pins s σ H _ I h) fun us s1 ⟨vs,H1,I1,r1,q1⟩=>hc pins s1 σ H1 vs us Q I1 r1 q1) he hpl
end
end L2
namespace HT
open PySem PyProof.Rows
section
variable {prog:Program}{w:World}{A:Around}{E:Value→Shared→Prop}{s:Shared}
theorem cat_tup {t b:Addr}{vs ws:List Value}{Q:Value→Shared→Prop} (ht:IsTup s.heap t vs.toArray) (hb:IsTup s.heap b ws.toArray) (hv:vs≠[])
  (h1:ws=[]→Q (.ref t) s) (h2:ws≠[]→Q (.ref s.heap.objs.size) { s with heap:=s.heap.push { cls:=.type "tuple",data:=.seq (vs++ws).toArray } })
  (hsz:vs.length + ws.length≤sizeLine):wpAny (model prog w) A (binaryOp .Add (.ref t) (.ref b)) Q E s:=by
 obtain ⟨⟨cls,dd,data,sl⟩,ho,hc,n,hd⟩:=id ht
 obtain ⟨⟨cls2,dd2,data2,sl2⟩,ho2,hc2,n2,hd2⟩:=id hb
 simp only at hc hd hc2 hd2
 subst hc hd hc2 hd2
 have e:vs.toArray++ws.toArray=(vs++ws).toArray:=by simp
 by_cases hw:ws=[]
 ·exact concat_meets ⟨_,ho,rfl⟩ ⟨_,ho2,rfl⟩ noFill_tuple_add seq_tuple_add PySem.F.slot_tuple_add PySem.F.entry_tuple_add (PySem.F.args_tuple_add_2 _ _)
   (tuple_addW1 t b vs.toArray ws.toArray n n2 dd dd2 sl sl2 (by simpa using hv) (by simp [hw])) ⟨ho,ho2,h1 hw⟩
 ·refine concat_meets ⟨_,ho,rfl⟩ ⟨_,ho2,rfl⟩ noFill_tuple_add seq_tuple_add PySem.F.slot_tuple_add PySem.F.entry_tuple_add (PySem.F.args_tuple_add_2 _ _)
   (tuple_addW2 t b vs.toArray ws.toArray n n2 dd dd2 sl sl2 (by simpa using hv) (by simpa using hw) (by rw [List.size_toArray,List.size_toArray]; exact hsz)) ⟨ho,ho2,?_⟩
  rw [e]
  exact h2 hw
def sIx (n d:Nat):Option Int→Nat
 | none=>d
 | some v=>if v < 0 then (v + (n:Int)).toNat else min v.toNat n
theorem sIx_nat (n d k:Nat):sIx n d (some (k:Int))=min k n:=by
 show (if (k:Int) < 0 then ((k:Int) + (n:Int)).toNat else min (k:Int).toNat n)=min k n
 rw [if_neg (by omega),Int.toNat_natCast]
theorem zaqs (n d:Nat) (hd:d≤n) (o:Option Int):sIx n d o≤n:=by
 cases o with
 | none=>exact hd
 | some v =>
  show (if v < 0 then (v + (n:Int)).toNat else min v.toNat n)≤n
  by_cases hv:v < 0
  ·rw [if_pos hv]; omega
  ·rw [if_neg hv]; exact Nat.min_le_right _ _
theorem zakg (v:Int) (n d:Nat):(if v < 0 then max (v + (n:Int)) 0 else min v (n:Int))=((sIx n d (some v):Nat):Int):=by
 show (if v < 0 then max (v + (n:Int)) 0 else min v (n:Int))=(((if v < 0 then (v + (n:Int)).toNat else min v.toNat n):Nat):Int)
 by_cases hv:v < 0
 ·simp only [if_pos hv]; omega
 ·simp only [if_neg hv]; omega
theorem zajk (lo hi:Option Int) (n:Nat):Builtin.Slice.sliceAdjust lo hi 1 (n:Int)=(((sIx n 0 lo:Nat):Int),((sIx n n hi:Nat):Int)):=by
 have h1:¬ ((1:Int) < 0):=by omega
 unfold Builtin.Slice.sliceAdjust
 simp only [h1,if_false]
 refine Prod.ext ?_ ?_
 ·cases lo with
  | none=>rfl
  | some v=>exact zakg v n 0
 ·cases hi with
  | none=>rfl
  | some v=>exact zakg v n n
theorem zajl (i j:Nat):Builtin.Slice.slicePlaces (i:Int) (j:Int) 1=j - i:=by
 unfold Builtin.Slice.slicePlaces
 have h1:(1:Int) > 0:=by omega
 simp only [h1,if_true,Int.ediv_one]
 split <;> omega
theorem zafw {v:Value}{o:Option Int}{Q:Option Int→Shared→Prop} (p:IsPart v o) (h:Q o s):wpAny (model prog w) A (Builtin.Slice.slicePartIndex v) Q E s:=by
 cases p with
 | none=>exact slicePart_none h
 | int i t=>exact slicePart_int h
theorem zaei {sl:Addr}{vl vu:Value}{lo hi:Option Int}{n:Nat}{Q:Int × Int × Nat→Shared→Prop} (hs:s.heap.IsSliceOf sl vl vu .none) (pl:IsPart vl lo) (pu:IsPart vu hi)
  (h:Q (((sIx n 0 lo:Nat):Int),1,sIx n n hi - sIx n 0 lo) s):wpAny (model prog w) A (Builtin.Slice.sliceApplied (.ref sl) (pure (n:Int))) Q E s:=by
 obtain ⟨os,hos,hcs,hds⟩:=id hs
 unfold Builtin.Slice.sliceApplied Builtin.Slice.sliceFields
 refine wpAny_bind (wpAny_bind (wpAny_field hos hds (x:=vl) rfl (wpAny_bind (wpAny_field hos hds (x:=vu) rfl (wpAny_bind (wpAny_field hos hds (x:=.none) rfl (wpAny_pure ?_)))))))
 refine wpAny_bind (slicePart_none ?_)
 show wpAny _ _ (if ((1:Int) == 0)=true then _ else _) _ _ s
 rw [if_neg (by decide)]
 refine wpAny_bind (zafw pl (wpAny_bind (zafw pu (wpAny_bind (wpAny_pure ?_)))))
 show wpAny _ _ (match Builtin.Slice.sliceAdjust lo hi 1 (n:Int) with | (lo,hi)=>pure (lo,(1:Int),Builtin.Slice.slicePlaces lo hi 1)) _ _ s
 rw [zajk lo hi n]
 show wpAny _ _ (pure (((sIx n 0 lo:Nat):Int),(1:Int),Builtin.Slice.slicePlaces ((sIx n 0 lo:Nat):Int) ((sIx n n hi:Nat):Int) 1)) _ _ s
 rw [zajl]
 exact wpAny_pure h
theorem zamo (xs:Array Value) (i k:Nat):((List.range k).filterMap fun (m:Nat)=>xs[((i:Int) + (m:Int) * 1).toNat]?).toArray=((xs.toList.drop i).take k).toArray:=by
 have e:(fun (m:Nat)=>xs[((i:Int) + (m:Int) * 1).toNat]?)=fun m=>xs[i + m]?:=by
  funext m
  have:((i:Int) + (m:Int) * 1).toNat=i + m:=by omega
  rw [this]
 rw [e]
 have:=pick_run xs i k
 rw [List.filterMap_map] at this
 have e2:((fun x=>xs[x]?) ∘ fun x=>i + x)=fun m=>xs[i + m]?:=rfl
 rw [e2] at this
 rw [this]
theorem getItem_tuple_cut {t sl:Addr}{items:Array Value}{vl vu:Value}{lo hi:Option Int}{Q:Value→Shared→Prop} (ht:IsTup s.heap t items) (hs:s.heap.IsSliceOf sl vl vu .none) (pl:IsPart vl lo) (pu:IsPart vu hi)
  (hw:¬ (sIx items.size 0 lo=0∧sIx items.size items.size hi=items.size))
  (h:Q (.ref s.heap.objs.size) { s with heap:=s.heap.push { cls:=.type "tuple",data:=.seq ((items.toList.drop (sIx items.size 0 lo)).take (sIx items.size items.size hi - sIx items.size 0 lo)).toArray } })
  (hsz:items.size≤sizeLine):wpAny (model prog w) A (getItem (.ref t) (.ref sl)) Q E s:=by
 have htake:sizeOk (.seq ((items.toList.drop (sIx items.size 0 lo)).take (sIx items.size items.size hi - sIx items.size 0 lo)).toArray):=by
  show ((items.toList.drop (sIx items.size 0 lo)).take (sIx items.size items.size hi - sIx items.size 0 lo)).toArray.size≤sizeLine
  rw [List.size_toArray,List.length_take,List.length_drop,Array.length_toList]
  omega
 have hj:sIx items.size items.size hi≤items.size:=zaqs _ _ (Nat.le_refl _) hi
 obtain ⟨os,hos,hcs,hds⟩:=id hs
 have hTs:s.TypeIs (.ref sl) "slice" := ⟨os,hos,hcs⟩
 unfold getItem
 try with_reducible refine wpAny_holding ?_
 first | refine wpAny_bind (wpAny_pure ?_) | skip
 refine wpAny_bind (wpAny_sequenceKey ht.typeIs (by decide) ?_)
 refine wpAny_bind (wpAny_callSpecial?_slot (name:=Str.ofString "__getitem__") ht.typeIs PyProof.Rows.slot_tuple_getitem
  (wpAny_call_entry PyProof.Rows.slot_tuple_getitem ht.typeIs entry_tuple_getitem ?_ (args_tuple_getitem _ _)))
 show wpAny _ _ (Builtin.Tuple.tupleItemsOf (.ref t) >>= _) _ _ s
 refine wpAny_bind (tupleItemsOf_ ht ?_)
 refine wpAny_bind (wpAny_typeOf hTs ?_)
 rw [if_pos (by decide)]
 refine wpAny_bind (zaei hs pl pu ?_)
 have hno:¬ ((((sIx items.size 0 lo:Nat):Int) == 0 && (1:Int) == 1 && (sIx items.size items.size hi - sIx items.size 0 lo) == items.size)=true):=by
  intro q
  rw [Bool.and_eq_true,Bool.and_eq_true] at q
  have q1:((sIx items.size 0 lo:Nat):Int)=0:=eq_of_beq q.1.1
  have q2:sIx items.size items.size hi - sIx items.size 0 lo=items.size:=eq_of_beq q.2
  exact hw ⟨by omega,by omega⟩
 show wpAny _ _ (if (((sIx items.size 0 lo:Nat):Int) == 0 && (1:Int) == 1 && (sIx items.size items.size hi - sIx items.size 0 lo) == items.size)=true then _ else _) _ _ s
 rw [if_neg hno,zamo]
 first
  | exact wpAny_bind (m:=Builtin.Tuple.tupleExact _) (wpAny_newObj_type (wpAny_pure ⟨_,rfl,wpAny_pure h⟩) htake)
  | exact wpAny_bind (m:=Builtin.Tuple.tupleExact _) (wpAny_newObj_type (wpAny_bind (wpAny_pure (wpAny_pure ⟨_,rfl,wpAny_pure h⟩))) htake)
  | exact wpAny_bind (wpAny_bind (m:=Builtin.Tuple.tupleExact _) (wpAny_newObj_type (wpAny_pure (wpAny_pure ⟨_,rfl,wpAny_pure h⟩)) htake))
  | exact wpAny_bind (wpAny_bind (m:=Builtin.Tuple.tupleExact _) (wpAny_newObj_type (wpAny_pure ⟨_,rfl,wpAny_pure h⟩) htake))
end
end HT
namespace L2
open PySem PySem.Spec PyProof.Rows
abbrev TO:=St→Hp→(Option Int→Hp→Prop)→Prop
def PO (X:Cx) (e:Option Expr) (t:TO):Prop :=
 ∀ (pins:List (Addr × Obj)) (s:Shared) (σ:St) (H:Hp) (Q:Option Int→Hp→Prop),Inv X pins σ H s→t σ H Q →
  wpAny (model X.prog X.w) X.A (evalPart e X.env) (fun u s'=>∃ o H',Inv X pins σ H' s'∧IsPart u o∧Q o H') X.xe s
def tNoPart:TO:=fun _ H Q=>Q none H
def tPart (t:TE):TO:=fun σ H Q=>t σ H fun x H1=>∃ i,x=.int i∧Q (some i) H1
section
variable {X:Cx}{e:Expr}{te:TE}{lo hi:Option Expr}{tl th:TO}{pos p2:Pos}
theorem zaon:PO X none tNoPart:=by
 intro pins s σ H Q I h
 rw [evalPart_none]
 exact wpAny_pure ⟨none,H,I,.none,h⟩
theorem zaoo (h:PE X e te):PO X (some e) (tPart te):=by
 intro pins s σ H Q I hw
 rw [evalPart_some]
 refine thn (h pins s σ H _ I hw) fun u s1 ⟨x,H1,I1,r1,q1⟩=>?_
 obtain ⟨i,rfl,q⟩:=q1
 obtain ⟨t,rfl⟩:=r1
 exact ⟨some i,H1,I1,.int i t,q⟩
def SlR (X:Cx) (r:V→Option Int→Option Int→Hp→VK→Prop):Prop :=
 ∀ (pins:List (Addr × Obj)) (s:Shared) (σ:St) (H:Hp) (x:V) (v vl vu:Value) (lo hi:Option Int) (sl:Addr) (Q:VK),Inv X pins σ H s→RelV x v→s.heap.IsSliceOf sl vl vu .none→IsPart vl lo→IsPart vu hi→r x lo hi H Q →
  ∃ T id,typeLookup (.type T) "__getitem__" = pure (some (.builtin id))∧s.TypeIs v T∧wpAny (model X.prog X.w) X.A (getItem v (.ref sl)) (EP X pins σ Q) X.xe s
def tSl (r:V→Option Int→Option Int→Hp→VK→Prop) (te:TE) (tl th:TO):TE:=fun σ H Q=>te σ H fun x H1=>tl σ H1 fun l H2=>th σ H2 fun u H3=>r x l u H3 Q
theorem zamp {r:V→Option Int→Option Int→Hp→VK→Prop} (hr:SlR X r) (he:PE X e te) (hl:PO X lo tl) (hu:PO X hi th):PE X (.Subscript e (.Slice lo hi none p2) pos) (tSl r te tl th):=by
 intro pins s σ H Q I h
 refine Subscript_ (thn (he pins s σ H _ I h) fun v s1 ⟨x,H1,I1,r1,q1⟩=>?_)
 refine wpAny_Slice (thn (hl pins s1 σ H1 _ I1 q1) fun vl s2 ⟨l,H2,I2,pl,q2⟩=>thn (hu pins s2 σ H2 _ I2 q2) fun vu s3 ⟨u,H3,I3,pu,q3⟩=>?_)
 rw [evalPart_none]
 refine wpAny_pure ?_
 have I4:Inv X pins σ H3 { s3 with heap:=s3.heap.push { cls:=.type "slice",data:=.fields #[vl,vu,.none] } }:=I3.kept (t':=s3.toks) fun b ob q=>Heap.get?_push_of_some _ q
 obtain ⟨T,id,hT,ht,hg⟩:=hr pins { s3 with heap:=s3.heap.push { cls:=.type "slice",data:=.fields #[vl,vu,.none] } } σ H3 x v vl vu l u s3.heap.objs.size Q I4 r1 (Heap.IsSliceOf.new ..) pl pu q3
 show wpAny (model X.prog X.w) X.A (subscriptTail e (.Slice lo hi none p2) v (.ref s3.heap.objs.size)) (EP X pins σ Q) X.xe { s3 with heap:=s3.heap.push { cls:=.type "slice",data:=.fields #[vl,vu,.none] } }
 exact tail_any (ops:=[.ref s3.heap.objs.size,v]) ht hT hg (by with_unfolding_all rfl)
def cutV (xs:List V) (lo hi:Option Int):List V:=(xs.drop (HT.sIx xs.length 0 lo)).take (HT.sIx xs.length xs.length hi - HT.sIx xs.length 0 lo)
theorem zaew (xs:List V) (lo hi:Option Int):(cutV xs lo hi).length≤xs.length:=by
 unfold cutV
 rw [List.length_take,List.length_drop]
 omega
def rSlT (K:PySem.W.Frag):V→Option Int→Option Int→Hp→VK→Prop:=fun x lo hi H Q=>∃ a xs,x=.ref a∧SqT K H a xs ∧
 ¬ (HT.sIx xs.length 0 lo=0∧HT.sIx xs.length xs.length hi=xs.length)∧∀ p,H p=none→Q (.ref p) (upd H p (.tup (cutV xs lo hi)))
theorem zans:SlR X (rSlT X.K):=by
 intro pins s σ H x v vl vu lo hi sl Q I rx hs pl pu h
 obtain ⟨a,xs,rfl,hx,hw,q⟩:=h
 cases rx
 obtain ⟨its,r,ht,hz⟩:=I.tuple hx
 have hlen:its.toArray.size=xs.length:=by rw [List.size_toArray]; exact r.length.symm
 refine ⟨"tuple",_,PyProof.Rows.slot_tuple_getitem.lookup,ht.typeIs,?_⟩
 refine HT.getItem_tuple_cut ht hs pl pu (by rw [hlen]; exact hw) ?_ (by rw [hlen]; exact hz)
 rw [hlen]
 refine ⟨.ref s.heap.objs.size,_,I.laid (t':=s.toks) (o:=.tup (cutV xs lo hi)) (fun b ob q=>Heap.get?_push_of_some _ q) (Nat.le_refl _) ?_,rfl,q _ (I.hok.fresh (Nat.le_refl _))⟩
 exact ⟨Nat.le_trans (zaew xs lo hi) hz,_,(r.drop (HT.sIx xs.length 0 lo)).take (HT.sIx xs.length xs.length hi - HT.sIx xs.length 0 lo),IsTup.new _ _⟩
def rCatT (K:PySem.W.Frag):R2:=fun x y H Q=>∃ a b xs ys,x=.ref a∧y=.ref b∧SqT K H a xs∧SqT K H b ys∧xs≠[]∧xs.length + ys.length≤sizeLine ∧
 (ys=[]→Q (.ref a) H)∧(ys≠[]→∀ p,H p=none→Q (.ref p) (upd H p (.tup (xs++ys))))
theorem Vals.nil_iff {xs:List V}{us:List Value} (r:Vals xs us):us=[]↔xs=[]:=by
 cases r with
 | nil=>simp
 | cons _ _=>simp
theorem zaop:OpR X (binaryOp .Add) (rCatT X.K):=by
 intro pins s σ H x y v u Q I rx ry h
 obtain ⟨a,b,xs,ys,rfl,rfl,ha,hb,hx,hz,q1,q2⟩:=h
 cases rx
 cases ry
 obtain ⟨its,r1,p1,_⟩:=I.tuple ha
 obtain ⟨its2,r2,p2,_⟩:=I.tuple hb
 refine HT.cat_tup p1 p2 (fun z=>hx (r1.nil_iff.mp z)) (fun z=>⟨.ref a,H,I,rfl,q1 (r2.nil_iff.mp z)⟩) (fun z=>?_) (by rw [← r1.length,← r2.length]; exact hz)
 refine ⟨.ref s.heap.objs.size,_,I.laid (t':=s.toks) (o:=.tup (xs++ys)) (fun b ob q=>Heap.get?_push_of_some _ q) (Nat.le_refl _) ?_,rfl,q2 (fun w=>z (r2.nil_iff.mpr w)) _ (I.hok.fresh (Nat.le_refl _))⟩
 exact ⟨by rw [List.length_append]; exact hz,_,r1.append r2,IsTup.new _ _⟩
end
def ixN (n:Nat) (i:Int):Option Nat:=if 0≤i then (if i < n then some i.toNat else none) else if -(n:Int)≤i then some (i + n).toNat else none
def atI {α:Type} (xs:List α) (i:Int):Option α:=(ixN xs.length i).bind fun j=>xs[j]?
theorem zakh {n:Nat}{i:Int}{j:Nat} (h:ixN n i=some j):seqIndex? i n=some j∧j < n∧-(n:Int)≤i∧i < n:=by
 unfold ixN at h
 by_cases h0:0≤i
 ·rw [if_pos h0] at h
  by_cases h1:i < n
  ·rw [if_pos h1] at h
   have e:i.toNat=j:=Option.some.inj h
   exact ⟨by rw [seqIndex_of h0 h1,e],by omega,by omega,h1⟩
  ·rw [if_neg h1] at h; cases h
 ·rw [if_neg h0] at h
  by_cases h1:-(n:Int)≤i
  ·rw [if_pos h1] at h
   have e:(i + n).toNat=j:=Option.some.inj h
   exact ⟨by rw [seqIndex_neg (by omega) h1,e],by omega,h1,by omega⟩
  ·rw [if_neg h1] at h; cases h
theorem zahu {α:Type}{xs:List α}{i:Int}{v:α} (h:atI xs i=some v):∃ j,seqIndex? i xs.length=some j∧xs[j]?=some v∧j < xs.length∧-(xs.length:Int)≤i∧i < xs.length:=by
 unfold atI at h
 cases e:ixN xs.length i with
 | none=>rw [e] at h; cases h
 | some j =>
  rw [e] at h
  obtain ⟨h1,h2,h3,h4⟩:=zakh e
  exact ⟨j,h1,h,h2,h3,h4⟩
theorem zaex {α:Type}{xs:List α}{j:Nat}{v:α} (h:xs[j]?=some v):atI xs (j:Int)=some v:=by
 have hj:j < xs.length:=(List.getElem?_eq_some_iff.mp h).1
 have e:ixN xs.length (j:Int)=some j:=by
  unfold ixN
  rw [if_pos (by omega),if_pos (by omega)]; simp
 unfold atI; rw [e]; exact h
def PlainIx (b:Expr):Prop:=∀ o i,subscripted b false o i=operate [o,i] (getItem o i)
def IxR (X:Cx) (r:R2):Prop :=
 ∀ (value slice:Expr) (pins:List (Addr × Obj)) (s:Shared) (σ:St) (H:Hp) (x y:V) (v u:Value) (Q:VK),Inv X pins σ H s→RelV x v→RelV y u→r x y H Q →
  subscripted slice false v u=operate [v,u] (getItem v u)→wpAny (model X.prog X.w) X.A (subscriptTail value slice v u) (EP X pins σ Q) X.xe s
def MtR (X:Cx) (id:String) (r:V→List V→Hp→VK→Prop):Prop :=
 ∀ (pins:List (Addr × Obj)) (s:Shared) (σ:St) (H:Hp) (x:V) (xs:List V) (v:Value) (us:List Value) (Q:VK),Inv X pins σ H s→RelV x v→Vals xs us→r x xs H Q →
  wpAny (model X.prog X.w) X.A (call (.builtin id) (v :: us)) (EP X pins σ Q) X.xe s
section
variable {X:Cx}{a b:Expr}{ta tb:TE}{pos:Pos}
theorem zask {r:R2} (hr:IxR X r) (ha:PE X a ta) (hb:PE X b tb) (hs:PlainIx b):PE X (.Subscript a b pos) (tOp r ta tb):=by
 intro pins s σ H Q I h
 exact Subscript_ (binT ha hb I h fun v u s2 x y H2 I2 rx ry q=>hr a b pins s2 σ H2 x y v u Q I2 rx ry q (hs _ _))
def rIxL (K:PySem.W.Frag):R2:=fun x y H Q=>∃ p xs i v,x=.ref p∧y=.int i∧SqL K H p xs∧atI xs i=some v∧Q v H
def rIxT (K:PySem.W.Frag):R2:=fun x y H Q=>∃ p xs i v,x=.ref p∧y=.int i∧SqT K H p xs∧atI xs i=some v∧Q v H
def rIxS:R2:=fun x y H Q=>∃ z i c,x=.str z∧y=.int i∧z.length≤sizeLine∧atI z.cps.toList i=some c∧Q (.str ⟨#[c]⟩) H
theorem zaoq:IxR X (rIxL X.K):=by
 intro value slice pins s σ H x y v u Q I rx ry h hs
 obtain ⟨p,xs,i,z,rfl,rfl,hq,he,q⟩:=h
 cases rx
 obtain ⟨t,rfl⟩:=ry
 obtain ⟨its,r,pl,hz⟩:=I.list hq
 obtain ⟨j,h1,h2,h3,h4,h5⟩:=zahu he
 obtain ⟨w,ew,rw'⟩:=r.get h2
 have hl:=r.length
 have hn:=line63
 have fin:EP X pins σ Q w s:=⟨z,H,I,rw',q⟩
 by_cases h0:0≤i
 ·have hj:i.toNat=j:=by
   rw [seqIndex_of h0 h5] at h1
   exact Option.some.inj h1
  exact item_listR pl.isList h0 (by omega) (by rw [hj]; simpa using ew) fin hs
 ·have hj:(i + (its.toArray.size:Int)).toNat=j:=by
   rw [seqIndex_neg (by omega) h4] at h1
   rw [List.size_toArray,← hl]
   exact Option.some.inj h1
  exact subscriptTail_builtinR (x:=w) pl.isList.typeIs slot_list_getitem.lookup
   (wpAny_getItem_list_neg (Q:=fun r s'=>r=w∧EP X pins σ Q r s') pl.isList (by omega) (by rw [List.size_toArray] <;> omega) (by omega) (by rw [hj]; simpa using ew) ⟨rfl,fin⟩) hs
theorem zaqt:IxR X (rIxT X.K):=by
 intro value slice pins s σ H x y v u Q I rx ry h hs
 obtain ⟨p,xs,i,z,rfl,rfl,hq,he,q⟩:=h
 cases rx
 obtain ⟨t,rfl⟩:=ry
 obtain ⟨its,r,pl,hz⟩:=I.tuple hq
 obtain ⟨j,h1,h2,h3,h4,h5⟩:=zahu he
 obtain ⟨w,ew,rw'⟩:=r.get h2
 have hl:=r.length
 have hn:=line63
 have fin:EP X pins σ Q w s:=⟨z,H,I,rw',q⟩
 exact subscriptTail_builtinR (x:=w) pl.typeIs slot_tuple_getitem.lookup
  (getItem_tuple (j:=j) (Q:=fun r s'=>r=w∧EP X pins σ Q r s') pl (by omega) (by omega) (by rw [List.size_toArray,← hl]; exact h1) (by simpa using ew) ⟨rfl,fin⟩) hs
theorem zaqu:IxR X rIxS:=by
 intro value slice pins s σ H x y v u Q I rx ry h hs
 obtain ⟨z,i,c,rfl,rfl,hz,he,q⟩:=h
 obtain ⟨t,rfl⟩:=rx
 obtain ⟨t',rfl⟩:=ry
 obtain ⟨j,h1,h2,h3,h4,h5⟩:=zahu he
 have hl:z.cps.toList.length=z.length:=by simp [Str.length]
 rw [hl] at h1 h4 h5
 have hn:=line63
 exact tail_any (typeIs_str s z t) slot_str_getitem.lookup (getItem_str (c:=c) (by
  have e1:decide (i < -(2 ^ 63:Int))=false:=decide_eq_false (by omega)
  have e2:decide (i ≥ 2 ^ 63)=false:=decide_eq_false (by omega)
  rw [e1,e2,Bool.or_false]) (by rw [h1]; simpa using h2) ⟨.str ⟨#[c]⟩,H,I.tok _,⟨_,rfl⟩,q⟩) hs
theorem zajm (its:List Value) (n j:Nat) (u:Value):Obj.mapSeq (·.setIfInBounds j u) { cls:=.type "list",data:=.seq its.toArray n }={ cls:=.type "list",data:=.seq (its.set j u).toArray n }:=by
 simp [Obj.mapSeq]
theorem Inv.lst {pins:List (Addr × Obj)}{σ:St}{H:Hp}{s:Shared}{p:Addr}{xs:List V} (I:Inv X pins σ H s) (h:H p=some (.lst xs)) :
  ∃ (its:List Value) (n:Nat),Vals xs its∧s.heap.get? p=some { cls:=.type "list",data:=.seq its.toArray n }∧xs.length≤sizeLine:=by
 obtain ⟨z,its,n,r,e⟩:=I.hok p _ h
 exact ⟨its,n,r,e,z⟩
theorem Inv.lstUpd {pins:List (Addr × Obj)}{σ:St}{H:Hp}{s:Shared}{p:Addr}{xs ys:List V}{its its':List Value}{n n':Nat}{f:Obj→Obj} (I:Inv X pins σ H s) (h:H p=some (.lst xs))
  (ho:s.heap.get? p=some { cls:=.type "list",data:=.seq its.toArray n }) (hf:f { cls:=.type "list",data:=.seq its.toArray n }={ cls:=.type "list",data:=.seq its'.toArray n' }) (r:Vals ys its') (hz:ys.length≤sizeLine) (t:Nat) :
  Inv X pins σ (upd H p (.lst ys)) { s with heap:=s.heap.update p f,toks:=t }:=by
 have e:(s.heap.update p f).get? p=some { cls:=.type "list",data:=.seq its'.toArray n' }:=by
  rw [Heap.get?_update_self f ho (by rw [hf] <;> rfl),hf]
 refine I.write (x:=p) (e:=p) (by rw [h]; trivial) (.inl rfl) (fun b u hb q=>(Heap.get?_update_other _ _ (Ne.symm hb)).trans q) ⟨_,e⟩ ?_
 exact ⟨hz,its',n',r,e⟩
def rSetL:V→V→V→Hp→(Hp→Prop)→Prop:=fun o i v H Q=>∃ p xs k j,o=.ref p∧i=.int k∧H p=some (.lst xs)∧ixN xs.length k=some j∧Q (upd H p (.lst (xs.set j v)))
theorem zair:PSet X rSetL:=by
 intro pins s σ H o i v ov iv u Q I ro ri rv h
 obtain ⟨p,xs,k,j,rfl,rfl,hp,hj,q⟩:=h
 cases ro
 obtain ⟨t,rfl⟩:=ri
 obtain ⟨its,n,r,ho,hz⟩:=I.lst hp
 obtain ⟨h1,h2,h3,h4⟩:=zakh hj
 have hl:=r.length
 have hn:=line63
 have I':Inv X pins σ (upd H p (.lst (xs.set j v))) { s with heap:=s.heap.update p (Obj.mapSeq (·.setIfInBounds j u)) } :=
  I.lstUpd hp ho (zajm its n j u) (r.set rv j) (by rw [List.length_set]; exact hz) s.toks
 by_cases h0:0≤k
 ·have hk:k.toNat=j:=by
   rw [seqIndex_of h0 h4] at h1
   exact Option.some.inj h1
  exact PySem.W.ki_setAt ho h0 (by omega) (by rw [List.size_toArray,← hl]; exact h4) (by rw [hk]; exact ⟨_,I',q⟩)
 ·have hk:(k + (its.toArray.size:Int)).toNat=j:=by
   rw [seqIndex_neg (by omega) h3] at h1
   rw [List.size_toArray,← hl]
   exact Option.some.inj h1
  exact PySem.W.ki_setBack ho (by omega) (by rw [List.size_toArray,← hl]; exact h3) (by omega) (by rw [hk]; exact ⟨_,I',q⟩)
theorem zag7 (lo hi:Option Int) (n:Nat):(sliceBounds lo hi none n).1=((HT.sIx n 0 lo:Nat):Int)∧(sliceBounds lo hi none n).2.1=((HT.sIx n n hi:Nat):Int)∧(sliceBounds lo hi none n).2.2=1:=by
 refine ⟨?_,?_,rfl⟩
 ·cases lo with
  | none=>simp [sliceBounds,HT.sIx]
  | some i =>
   simp only [sliceBounds,HT.sIx,Option.getD_none,show (1:Int) > 0 by decide,if_true]
   by_cases h:i < 0
   ·simp only [h,if_true] <;> omega
   ·simp only [h,if_false] <;> omega
 ·cases hi with
  | none=>simp [sliceBounds,HT.sIx]
  | some i =>
   simp only [sliceBounds,HT.sIx,Option.getD_none,show (1:Int) > 0 by decide,if_true]
   by_cases h:i < 0
   ·simp only [h,if_true] <;> omega
   ·simp only [h,if_false] <;> omega
theorem zage (its:List Value) (lo hi:Option Int):slicePick its.toArray lo hi none=((its.drop (HT.sIx its.length 0 lo)).take (HT.sIx its.length its.length hi - HT.sIx its.length 0 lo)).toArray:=by
 obtain ⟨h1,h2,h3⟩:=zag7 lo hi its.toArray.size
 unfold slicePick
 rw [h1,h2,h3]
 simp only [sliceRange_one,pick_run,List.size_toArray] <;> rfl
def rSlL (K:PySem.W.Frag):V→Option Int→Option Int→Hp→VK→Prop:=fun x lo hi H Q=>∃ a xs,x=.ref a∧SqL K H a xs∧∀ p,H p=none→Q (.ref p) (upd H p (.lst (cutV xs lo hi)))
theorem zaey:SlR X (rSlL X.K):=by
 intro pins s σ H x v vl vu lo hi sl Q I rx hs pl pu h
 obtain ⟨a,xs,rfl,hx,q⟩:=h
 cases rx
 obtain ⟨its,r,ht,hz⟩:=I.list hx
 have hlen:=r.length
 refine ⟨"list",_,slot_list_getitem.lookup,ht.isList.typeIs,?_⟩
 refine wpAny_getItem_list_slice ht.isList hs pl pu .none (by simp) ?_ (by rw [List.size_toArray] <;> omega)
 rw [zage,← hlen]
 refine ⟨.ref s.heap.objs.size,_,I.laid (t':=s.toks) (o:=.lst (cutV xs lo hi)) (fun b ob q=>Heap.get?_push_of_some _ q) (Nat.le_refl _) ?_,rfl,q _ (I.hok.fresh (Nat.le_refl _))⟩
 exact ⟨Nat.le_trans (zaew xs lo hi) hz,_,0,(r.drop (HT.sIx xs.length 0 lo)).take (HT.sIx xs.length xs.length hi - HT.sIx xs.length 0 lo),Heap.get?_push_size _ rfl⟩
def flatV:V→Bool
 | .non=>true
 | .bl _=>true
 | .int _=>true
 | .str _=>true
 | _=>false
def eqV:V→V→Bool
 | .non,.non=>true
 | .bl a,.bl b=>a == b
 | .bl a,.int b=>(if a then 1 else 0) == b
 | .int a,.bl b=>a == (if b then 1 else 0)
 | .int a,.int b=>a == b
 | .str a,.str b=>a == b
 | _,_=>false
theorem zaqv {A:Around}{s:Shared}{y x:V}{u v:Value} (ry:RelV y u) (rx:RelV x v) (fy:flatV y=true) (fx:flatV x=true):SeqAt.EqAt A s u v (eqV y x):=by
 cases y with
 | non =>
  cases ry
  cases x with
  | non=>cases rx; exact SeqAt.EqAt.same _
  | bl b=>cases rx; exact SeqAt.EqAt.none_bool b
  | int b=>obtain ⟨t,rfl⟩:=rx; exact SeqAt.EqAt.none_int b t
  | str b=>obtain ⟨t,rfl⟩:=rx; exact SeqAt.EqAt.none_str b t
  | _=>exact absurd (show false=true from fx) Bool.false_ne_true
 | bl a =>
  cases ry
  cases x with
  | non=>cases rx; exact SeqAt.EqAt.bool_none a
  | bl b=>cases rx; exact SeqAt.EqAt.bool_bool a b
  | int b=>obtain ⟨t,rfl⟩:=rx; exact SeqAt.EqAt.bool_int a b t
  | str b=>obtain ⟨t,rfl⟩:=rx; exact SeqAt.EqAt.bool_str a b t
  | _=>exact absurd (show false=true from fx) Bool.false_ne_true
 | int a =>
  obtain ⟨t',rfl⟩:=ry
  cases x with
  | non=>cases rx; exact SeqAt.EqAt.int_none a t'
  | bl b=>cases rx; exact SeqAt.EqAt.int_bool a t' b
  | int b=>obtain ⟨t,rfl⟩:=rx; exact SeqAt.EqAt.int_int a t' b t
  | str b=>obtain ⟨t,rfl⟩:=rx; exact SeqAt.EqAt.int_str a t' b t
  | _=>exact absurd (show false=true from fx) Bool.false_ne_true
 | str a =>
  obtain ⟨t',rfl⟩:=ry
  cases x with
  | non=>cases rx; exact SeqAt.EqAt.str_none a t'
  | bl b=>cases rx; exact SeqAt.EqAt.str_bool a t' b
  | int b=>obtain ⟨t,rfl⟩:=rx; exact SeqAt.EqAt.str_int a t' b t
  | str b=>obtain ⟨t,rfl⟩:=rx; exact SeqAt.EqAt.str_str a t' b t
  | _=>exact absurd (show false=true from fx) Bool.false_ne_true
 | _=>exact absurd (show false=true from fy) Bool.false_ne_true
def eqU (x:V) (u:Value):Bool:=match u with
 | .none=>eqV .non x
 | .bool b=>eqV (.bl b) x
 | .int i _=>eqV (.int i) x
 | .str z _=>eqV (.str z) x
 | _=>false
theorem zant {x y:V}{u:Value} (r:RelV y u) (f:flatV y=true):eqU x u=eqV y x:=by
 cases y with
 | non=>cases r; rfl
 | bl b=>cases r; rfl
 | int i=>obtain ⟨t,rfl⟩:=r; rfl
 | str z=>obtain ⟨t,rfl⟩:=r; rfl
 | _=>exact absurd (show false=true from f) Bool.false_ne_true
theorem zaez {x:V}:∀ {xs:List V}{us:List Value},Vals xs us→xs.all flatV=true→us.any (eqU x)=xs.any fun y=>eqV y x
 | _,_,.nil,_=>rfl
 | y :: xs,u :: us,.cons r t,f=>by
  rw [List.all_cons,Bool.and_eq_true] at f
  rw [List.any_cons,List.any_cons,zant r f.1,zaez t f.2]
theorem zadv {A:Around}{s:Shared}{x:V}{v:Value} (rx:RelV x v) (fx:flatV x=true):∀ {xs:List V}{us:List Value},Vals xs us→xs.all flatV=true→∀ u∈us,SeqAt.EqAt A s u v (eqU x u)
 | _,_,.nil,_=>fun u hu=>by cases hu
 | y :: xs,u :: us,.cons r t,f=>fun u' hu=>by
  rw [List.all_cons,Bool.and_eq_true] at f
  rcases List.mem_cons.mp hu with rfl | hu
  ·rw [zant r f.1]; exact zaqv r rx f.1 fx
  ·exact zadv rx fx t f.2 u' hu
def inV (x:V) (xs:List V):Bool:=xs.any fun y=>eqV y x
def rIn (K:PySem.W.Frag) (neg:Bool):R2:=fun x y H Q=>∃ p xs,y=.ref p∧(SqL K H p xs∨SqT K H p xs)∧flatV x=true∧xs.all flatV=true∧Q (.bl (if neg then !inV x xs else inV x xs)) H
theorem zae0:OpR X (compareOp .In) (rIn X.K false):=by
 intro pins s σ H x y v u Q I rx ry h
 obtain ⟨p,xs,rfl,hq,fx,fs,q⟩:=h
 cases ry
 rcases hq with hq | hq
 ·obtain ⟨its,r,pl,hz⟩:=I.list hq
  refine SeqAt.in_listAt (eqU x) pl.isList (fun w hw=>zadv rx fx r fs w (by simpa using hw)) ⟨.bl _,H,I,rfl,?_⟩
  rw [show its.toArray.any (eqU x)=its.any (eqU x) by simp,zaez r fs]
  exact q
 ·obtain ⟨its,r,pl,hz⟩:=I.tuple hq
  refine SeqAt.in_tupleAt (eqU x) pl (fun w hw=>zadv rx fx r fs w (by simpa using hw)) ⟨.bl _,H,I,rfl,?_⟩
  rw [show its.toArray.any (eqU x)=its.any (eqU x) by simp,zaez r fs]
  exact q
theorem zag8:OpR X (compareOp .NotIn) (rIn X.K true):=by
 intro pins s σ H x y v u Q I rx ry h
 obtain ⟨p,xs,rfl,hq,fx,fs,q⟩:=h
 cases ry
 rcases hq with hq | hq
 ·obtain ⟨its,r,pl,hz⟩:=I.list hq
  refine SeqAt.notIn_listAt (eqU x) pl.isList (fun w hw=>zadv rx fx r fs w (by simpa using hw)) ⟨.bl _,H,I,rfl,?_⟩
  rw [show its.toArray.any (eqU x)=its.any (eqU x) by simp,zaez r fs]
  exact q
 ·obtain ⟨its,r,pl,hz⟩:=I.tuple hq
  refine SeqAt.notIn_tupleAt (eqU x) pl (fun w hw=>zadv rx fx r fs w (by simpa using hw)) ⟨.bl _,H,I,rfl,?_⟩
  rw [show its.toArray.any (eqU x)=its.any (eqU x) by simp,zaez r fs]
  exact q
theorem zaa5:CallR X (.builtin "len") (fun xs H Q=>∃ p ys,xs=[.ref p]∧(SqL X.K H p ys∨SqT X.K H p ys)∧Q (.int ys.length) H):=by
 intro pins s σ H xs us Q I r h
 obtain ⟨p,ys,rfl,hq,q⟩:=h
 obtain ⟨u,rfl,rx⟩:=vals1 r
 cases rx
 have hn:=line63
 rcases hq with hq | hq
 ·obtain ⟨its,r',pl,hz⟩:=I.list hq
  have hlen:=r'.length
  exact Calls.call_len_list pl.isList (by simp only [List.size_toArray] <;> omega) ⟨.int ys.length,H,I.tok _,⟨s.toks + 1,by rw [List.size_toArray,hlen]⟩,q⟩
 ·obtain ⟨its,r',pl,hz⟩:=I.tuple hq
  have hlen:=r'.length
  exact len_tuple pl (by simp only [List.size_toArray] <;> omega) ⟨.int ys.length,H,I.tok _,⟨s.toks + 1,by rw [List.size_toArray,hlen]⟩,q⟩
theorem zaef:CallR X (.type "list") (fun xs H Q=>∃ p ys,xs=[.ref p]∧(SqL X.K H p ys∨SqT X.K H p ys)∧∀ l,H l=none→Q (.ref l) (upd H l (.lst ys))):=by
 intro pins s σ H xs us Q I r h
 obtain ⟨p,ys,rfl,hq,q⟩:=h
 obtain ⟨u,rfl,rx⟩:=vals1 r
 cases rx
 have fin:∀ (its:List Value),Vals ys its→ys.length≤sizeLine→∀ (h':Heap) (c':Nat),(∀ b o',s.heap.get? b=some o'→h'.get? b=some o') →
   h'.get? s.heap.objs.size=some { cls:=.type "list",dict:=none,data:=.seq its.toArray c',slots:=#[] }→EP X pins σ Q (.ref s.heap.objs.size) { s with heap:=h' }:=fun its r' hz h' c' kp e =>
  ⟨.ref s.heap.objs.size,_,I.laid (t':=s.toks) kp (Nat.le_refl _) (show ObjOk X.prog X.w _ h' _ (.lst ys) from ⟨hz,its,c',r',e⟩),rfl,q _ (I.hok.fresh (Nat.le_refl _))⟩
 rcases hq with hq | hq
 ·obtain ⟨its,r',pl,hz⟩:=I.list hq
  have hlen:=r'.length
  obtain ⟨o,ho,hc,n,hd⟩:=pl.isList
  exact call_list_seq p (.inl rfl) ho hc hd (fun h' c' kp e=>fin its r' hz h' c' kp e) (by simp only [List.size_toArray] <;> omega)
 ·obtain ⟨its,r',pl,hz⟩:=I.tuple hq
  have hlen:=r'.length
  obtain ⟨o,ho,hc,n,hd⟩:=pl
  exact call_list_seq p (.inr rfl) ho hc hd (fun h' c' kp e=>fin its r' hz h' c' kp e) (by simp only [List.size_toArray] <;> omega)
theorem zadw:CallR X (.type "tuple") (fun xs H Q=>∃ p ys,xs=[.ref p]∧((SqL X.K H p ys∧∀ l,H l=none→Q (.ref l) (upd H l (.tup ys)))∨(SqT X.K H p ys∧Q (.ref p) H))):=by
 intro pins s σ H xs us Q I r h
 obtain ⟨p,ys,rfl,h⟩:=h
 obtain ⟨u,rfl,rx⟩:=vals1 r
 cases rx
 rcases h with ⟨hq,q⟩ | ⟨hq,q⟩
 ·obtain ⟨its,r',pl,hz⟩:=I.list hq
  have hlen:=r'.length
  refine call_tuple_list pl.isList (fun h' kp=>?_) (by simp only [List.size_toArray] <;> omega)
  have I1:Inv X pins σ H { s with heap:=h' }:=I.kept (t':=s.toks) kp
  have I2:Inv X pins σ (upd H h'.objs.size (.tup ys)) { s with heap:=h'.push { cls:=.type "tuple",data:=.seq its.toArray } } :=
   I1.laid (t':=s.toks) (fun b o e=>Heap.get?_push_of_some _ e) (Nat.le_refl _) (show ObjOk X.prog X.w _ _ _ (.tup ys) from ⟨hz,its,r',IsTup.new _ _⟩)
  exact ⟨.ref h'.objs.size,_,I2,rfl,q _ (I1.hok.fresh (Nat.le_refl _))⟩
 ·obtain ⟨its,r',pl,hz⟩:=I.tuple hq
  exact call_tuple_same pl ⟨.ref p,H,I,rfl,q⟩
def tyV (K:PySem.W.Frag) (T:String) (x:V) (H:Hp):Prop:=match x with
 | .str _=>T = "str"
 | .int _=>T = "int"
 | .ref p=>(T = "list" ∧ ∃ xs,SqL K H p xs)∨(T = "tuple" ∧ ∃ o,K.lookup p=some o∧o.cls=.type "tuple" ∧ o.dict=none) ∨
   (T = "dict" ∧ ((∃ kvs,H p=some (.dK kvs))∨∃ kvs,H p=some (.dT kvs)))∨(T = "set" ∧ ∃ S n,H p=some (.set S n))
 | _=>False
theorem zanu {pins:List (Addr × Obj)}{σ:St}{H:Hp}{s:Shared}{T:String}{x:V}{v:Value} (I:Inv X pins σ H s) (r:RelV x v) (ty:tyV X.K T x H) :
  s.TypeIs v T∧∀ a,v=.ref a→∃ ob,s.heap.get? a=some ob∧ob.dict=none:=by
 cases x with
 | str z =>
  obtain ⟨t,rfl⟩:=r
  cases (show T = "str" from ty)
  exact ⟨typeIs_str s z t,fun _ e=>nomatch e⟩
 | int i =>
  obtain ⟨t,rfl⟩:=r
  cases (show T = "int" from ty)
  exact ⟨typeIs_int s i t,fun _ e=>nomatch e⟩
 | ref p =>
  cases r
  rcases ty with ⟨rfl,xs,hq⟩ | ⟨rfl,o,hk,hc,hd⟩ | ⟨rfl,hk⟩ | ⟨rfl,S,n,hk⟩
  ·obtain ⟨its,_,pl,_⟩:=I.list hq
   refine ⟨pl.isList.typeIs,fun a e=>?_⟩
   cases e
   obtain ⟨o,n,e,c,hd,_⟩:=pl
   exact ⟨o,e,hd⟩
  ·refine ⟨⟨o,I.kIn p o hk,hc⟩,fun a e=>?_⟩
   cases e
   exact ⟨o,I.kIn _ o hk,hd⟩
  ·have z:∃ o,s.heap.get? p=some o∧o.ExactDict:=by
    rcases hk with ⟨kvs,hk⟩ | ⟨kvs,hk⟩
    ·obtain ⟨_,_,_,_,o,_,_,e,ex,_⟩:=I.hok p _ hk
     exact ⟨o,e,ex⟩
    ·obtain ⟨_,_,_,_,o,_,_,e,ex,_⟩:=I.hok p _ hk
     exact ⟨o,e,ex⟩
   obtain ⟨o,e,ex⟩:=z
   refine ⟨⟨o,e,ex.1⟩,fun a e2=>?_⟩
   cases e2
   exact ⟨o,e,ex.2.1⟩
  ·obtain ⟨o,_,_,_,e,ex,_⟩:=I.hok p _ hk
   refine ⟨⟨o,e,ex.1⟩,fun a e2=>?_⟩
   cases e2
   exact ⟨o,e,ex.2.1⟩
 | _=>exact False.elim ty
def tBM0 (K:PySem.W.Frag) (T:String) (r:V→List V→Hp→VK→Prop) (to:TE):TE:=fun σ H Q=>to σ H fun x H1=>tyV K T x H1∧r x [] H1 Q
def tBM (K:PySem.W.Frag) (T:String) (r:V→List V→Hp→VK→Prop) (to:TE) (t:TA):TE:=fun σ H Q=>to σ H fun x H1=>tyV K T x H1∧t σ H1 fun xs H2=>r x xs H2 Q
variable {o e:Expr}{es:List Expr}{to:TE}{t:TA}{name:Str}{apos cpos:Pos}{T id:String}{r:V→List V→Hp→VK→Prop}
theorem zanv (pa:PlainAttrs T) (slot:Slot T name id) (hty:typeOf (.builtin id)=pure (.type "method_descriptor")) (hm:MtR X id r) (ho:PE X o to)
  (hbase:attributeBase o name X.env (eval o X.env)=eval o X.env:=by rfl) (hline:(apos.endLine == cpos.line)=true:=by rfl):PE X (.Call (.Attribute o name apos) [] [] cpos) (tBM0 X.K T r to):=by
 intro pins s σ H Q I h
 refine wpAny_Call_method0_late hbase hline (thn (ho pins s σ H _ I h) fun v s1 ⟨x,H1,I1,r1,ty,q1⟩=>?_)
 obtain ⟨h1,h2⟩:=zanu I1 r1 ty
 exact ⟨T,id,pa,slot,hty,h1,h2,Calls.callWith_builtin rfl (PySem.evalArgs_none (hm pins s1 σ H1 x [] v [] Q I1 r1 .nil q1))⟩
theorem zasl (pa:PlainAttrs T) (slot:Slot T name id) (hty:typeOf (.builtin id)=pure (.type "method_descriptor")) (hm:MtR X id r) (ho:PE X o to) (ha:PA X (e :: es) t)
  (hbase:attributeBase o name X.env (eval o X.env)=eval o X.env:=by rfl)
  (hfew:((backTo cpos (starEach (e :: es) X.env)).all (fun x=>!x.1) && (backToKw cpos (keywordEach [] X.env)).all (fun x=>x.1.isSome)
   && decide ((e :: es).length + ([]:List Keyword).length + (if ([]:List Keyword).isEmpty then 0 else 1) < 30))=true:=by rfl)
  (hline:(apos.endLine == cpos.line)=true:=by rfl) (hs:starEach (e :: es) X.env=(false,eval e X.env) :: starEach es X.env:=by rfl) (hplain:(backTo cpos (starEach es X.env)).any (·.1)=false:=by rfl) :
  PE X (.Call (.Attribute o name apos) (e :: es) [] cpos) (tBM X.K T r to t):=by
 intro pins s σ H Q I h
 refine wpAny_Call_method_late hbase hfew hline rfl (thn (ho pins s σ H _ I h) fun v s1 ⟨x,H1,I1,r1,ty,q1⟩=>?_)
 obtain ⟨h1,h2⟩:=zanu I1 r1 ty
 refine ⟨T,id,pa,slot,hty,h1,h2,?_⟩
 have hA:=ha cpos pins s1 σ H1 _ I1 q1
 rw [hs] at hA ⊢
 refine Calls.callWith_builtin (by show (false || (backTo cpos (starEach es X.env)).any (·.1))=false; rw [hplain] <;> rfl) (Calls.evalArgs_plain ?_)
 exact thn hA fun us s2 ⟨vs,H2,I2,r2,q2⟩=>hm pins s2 σ H2 x vs v us Q I2 r1 r2 q2
end
def MtM (X:Cx) (id:String) (r:V→List V→Hp→VK→Prop):Prop :=
 ∀ (pins:List (Addr × Obj)) (s:Shared) (σ:St) (H:Hp) (x:V) (xs:List V) (v:Value) (us:List Value) (Q:VK),Inv X pins σ H s→RelV x v→Vals xs us→r x xs H Q →
  wpAny (model X.prog X.w) X.A (call (.builtin id) (v :: us)) (EP X pins σ Q) X.xe s
theorem Vals.one:∀ {x:V}{us:List Value},Vals [x] us→∃ u,us=[u]∧RelV x u
 | _,_,.cons r .nil=>⟨_,rfl,r⟩
theorem Vals.eraseIdx:∀ {xs:List V}{us:List Value} (i:Nat),Vals xs us→Vals (xs.eraseIdx i) (us.eraseIdx i)
 | _,_,_,.nil=>.nil
 | _,_,0,.cons _ t=>t
 | _,_,i + 1,.cons r t=>.cons r (Vals.eraseIdx i t)
theorem zag9 {α:Type}:∀ (l:List α) (i:Nat),(l.eraseIdx i).length≤l.length
 | [],_=>Nat.le_refl _
 | _ :: _,0=>Nat.le_succ _
 | _ :: r,i + 1=>Nat.succ_le_succ (zag9 r i)
section
variable {X:Cx}{pins:List (Addr × Obj)}{σ:St}{H:Hp}{s:Shared}{l b:Addr}{xs ys zs:List V}
theorem Inv.lset {its its':List Value}{n:Nat}{f:Array Value→Array Value}{t':Nat} (I:Inv X pins σ H s) (hH:H l=some (.lst xs))
  (e:s.heap.get? l=some { cls:=.type "list",data:=.seq its.toArray n }) (hf:f its.toArray=its'.toArray) (hv:Vals ys its') (hz:ys.length≤sizeLine) :
  Inv X pins σ (upd H l (.lst ys)) { s with heap:=s.heap.update l (Obj.mapSeq f),toks:=t' }:=by
 have q:=PySem.IsL.update e f
 rw [hf] at q
 refine I.write (x:=l) (e:=l) (by rw [hH]; exact trivial) (.inl rfl) (fun b' u hb hu=>(Heap.get?_update_other s.heap (Obj.mapSeq f) (Ne.symm hb)).trans hu) ⟨_,q⟩ ?_
 exact ⟨hz,its',_,hv,q⟩
theorem Inv.lnew {its:List Value}{t':Nat} (I:Inv X pins σ H s) (hv:Vals ys its) (hz:ys.length≤sizeLine) :
  Inv X pins σ (upd H s.heap.objs.size (.lst ys)) { s with heap:=s.heap.push { cls:=.type "list",data:=.seq its.toArray },toks:=t' } :=
 I.laid (fun _ _ q=>Heap.get?_push_of_some _ q) (Nat.le_refl _) ⟨hz,its,0,hv,Heap.get?_push_size _ rfl⟩
theorem Inv.fresh (I:Inv X pins σ H s):H s.heap.objs.size=none:=I.hok.fresh (Nat.le_refl _)
theorem Inv.lstM (I:Inv X pins σ H s) (hH:H l=some (.lst xs)):xs.length≤sizeLine∧∃ (its:List Value) (n:Nat),Vals xs its∧xs.length=its.length∧s.heap.get? l=some { cls:=.type "list",data:=.seq its.toArray n }:=by
 obtain ⟨z,its,n,r,e⟩:=I.hok l _ hH
 exact ⟨z,its,n,r,r.length,e⟩
theorem notLongL {n:Nat} (h:n≤sizeLine):Builtin.List.listTooLong n=false:=by
 unfold Builtin.List.listTooLong
 exact decide_eq_false (by omega)
end
section
variable {X:Cx}
def rAppend:V→List V→Hp→VK→Prop:=fun x vs H Q=>∃ l xs y,x=.ref l∧vs=[y]∧H l=some (.lst xs)∧xs.length < sizeLine∧Q .non (upd H l (.lst (xs++[y])))
theorem zae1:MtM X "list.append" rAppend:=by
 intro pins s σ H x vs v us Q I rx rv h
 obtain ⟨l,xs,y,rfl,rfl,hH,hz,q⟩:=h
 cases rx
 obtain ⟨u,rfl,ru⟩:=rv.one
 obtain ⟨z,its,n,r,hl,e⟩:=I.lstM hH
 refine call_meets F.slot_list_append ⟨_,e,rfl⟩ F.entry_list_append (F.args_list_append_2 _ _) (PySem.list_append l its.toArray n u (by rw [List.size_toArray]; omega)) ⟨e,?_⟩
 refine ⟨.non,_,I.lset (its':=its++[u]) hH e (by simp) (r.append (.cons ru .nil)) ?_,rfl,q⟩
 rw [List.length_append,List.length_singleton]
 omega
def rExtend:V→List V→Hp→VK→Prop:=fun x vs H Q=>∃ l b xs zs,x=.ref l∧vs=[.ref b]∧H l=some (.lst xs)∧H b=some (.lst zs)∧xs.length + zs.length≤sizeLine∧Q .non (upd H l (.lst (xs++zs)))
theorem zaki:MtM X "list.extend" rExtend:=by
 intro pins s σ H x vs v us Q I rx rv h
 obtain ⟨l,b,xs,zs,rfl,rfl,hH,hB,hz,q⟩:=h
 cases rx
 obtain ⟨u,rfl,ru⟩:=rv.one
 cases ru
 obtain ⟨z,its,n,r,hl,e⟩:=I.lstM hH
 obtain ⟨z2,its2,n2,r2,hl2,e2⟩:=I.lstM hB
 have hsz:its.toArray.size + its2.toArray.size≤sizeLine:=by rw [List.size_toArray,List.size_toArray]; omega
 have hlong:¬ (!its.toArray.isEmpty && Builtin.List.listTooLong (its.toArray.size + its2.toArray.size))=true:=by
  rw [notLongL hsz,Bool.and_false]
  exact Bool.false_ne_true
 refine call_meets F.slot_list_extend ⟨_,e,rfl⟩ F.entry_list_extend (F.args_list_extend_2 _ _)
  (AutoSeq1.list_extend_list_list_0 l its.toArray n b its2.toArray n2 hlong (by rw [List.size_toArray]; omega) (by omega)) ⟨e,e2,?_⟩
 refine ⟨.non,_,I.lset (its':=its++its2) hH e (by simp) (r.append r2) ?_,rfl,q⟩
 rw [List.length_append]
 omega
def rPopAt:V→List V→Hp→VK→Prop:=fun x vs H Q=>∃ l xs i k y,x=.ref l∧vs=[.int i]∧H l=some (.lst xs)∧-(2 ^ 63)≤i∧i < 2 ^ 63∧seqIndex? i xs.length=some k∧xs[k]?=some y∧Q y (upd H l (.lst (xs.eraseIdx k)))
theorem zamq:MtM X "list.pop" rPopAt:=by
 intro pins s σ H x vs v us Q I rx rv h
 obtain ⟨l,xs,i,k,y,rfl,rfl,hH,h1,h2,hk,hy,q⟩:=h
 cases rx
 obtain ⟨u,rfl,ru⟩:=rv.one
 obtain ⟨t,rfl⟩:=ru
 obtain ⟨z,its,n,r,hl,e⟩:=I.lstM hH
 obtain ⟨w,hw,rw'⟩:=r.get hy
 refine call_meets F.slot_list_pop ⟨_,e,rfl⟩ F.entry_list_pop (F.args_list_pop_2 _ _)
  (MeetsSeq.list_pop_at l its.toArray n i t k w (fitsIndex_both h1 h2) (by rw [List.size_toArray,← hl]; exact hk) (by rw [← Array.getElem?_toList]; exact hw) (by rw [List.size_toArray]; omega)) ⟨e,?_⟩
 refine ⟨y,_,I.lset (its':=its.eraseIdx k) hH e ?_ (r.eraseIdx k) ?_,rw',q⟩
 ·show its.toArray.eraseIdxIfInBounds k=(its.eraseIdx k).toArray
  rw [List.eraseIdxIfInBounds_toArray]
 ·have:=zag9 xs k
  omega
def rCat:R2:=fun x y H Q=>∃ l b xs zs,x=.ref l∧y=.ref b∧H l=some (.lst xs)∧H b=some (.lst zs)∧xs.length + zs.length≤sizeLine∧∀ p,H p=none→Q (.ref p) (upd H p (.lst (xs++zs)))
theorem zadm:OpR X (binaryOp .Add) rCat:=by
 intro pins s σ H x y v u Q I rx ry h
 obtain ⟨l,b,xs,zs,rfl,rfl,hH,hB,hz,q⟩:=h
 cases rx
 cases ry
 obtain ⟨z,its,n,r,hl,e⟩:=I.lstM hH
 obtain ⟨z2,its2,n2,r2,hl2,e2⟩:=I.lstM hB
 refine PySem.P.add_list e e2 ?_ (by rw [List.size_toArray,List.size_toArray]; omega)
 have ea:its.toArray++its2.toArray=(its++its2).toArray:=by simp
 rw [ea]
 exact ⟨.ref _,_,I.lnew (t':=s.toks) (r.append r2) (by rw [List.length_append]; omega),rfl,q _ I.fresh⟩
end
end L2
namespace Att
open PySem PySem.W PySem.Calls PyProof.Rows
theorem zae2 {P:Params}{h:Heap}:∀ (ns:List Int) (vs:List Value),WellAll P h vs (ns.map WData.int)→IntsAre vs ns:=by
 intro ns
 induction ns with
 | nil =>
  intro vs w
  rw [List.map_nil] at w
  cases w
  exact .nil
 | cons n ns ih =>
  intro vs w
  rw [List.map_cons] at w
  cases w with
  | cons a b =>
   cases a
   exact .cons _ _ (ih _ b)
theorem zakj {l:OpenLaw}{n:Nat} (hn:l.most=some n) {P:Params}{h:Heap}{args:List WData}{vals:List Value}
  (hpre:l.row.toRowW.claim.pre args=true) (hwl:WellAll P h vals args) :
  ∃ a vs ns,vals=[Value.ref a]∧args=[WData.list (ns.map WData.int)]∧h.get? a=some { cls:=.type "list",data:=.seq vs.toArray }∧IntsAre vs ns∧ns.length≤n:=by
 have hsh:WShape.hasAll [] args [.list .int]=true:=(pre_splitW hpre).1
 have hc:l.pre.holds [] { args:=args }=true:=(pre_splitW hpre).2
 obtain ⟨d,r,rfl,h1,h2⟩:=hasAllW_cons hsh
 obtain rfl:=hasAllW_nil h2
 obtain ⟨xs,rfl,h3⟩:=hasW_list h1
 obtain ⟨ns,rfl⟩:=items_int h3
 have hlen:ns.length≤n:=by
  unfold OpenLaw.pre at hc
  have h4:(WTm.not (.lt (.lit (.int (n:Int))) (.len (.arg 0)))).holds [] { args:=[.list (ns.map .int)] }=true:=by
   have h4:=(holds_andW hc).1
   rw [hn] at h4
   exact h4
  have h5:=condW_of h4 (w_not (w_lt w_lit (w_len_list (w_arg rfl))))
  rw [List.length_map] at h5
  refine Nat.le_of_not_lt fun q=>?_
  have q':(n:Int) < ((ns.length:Nat):Int):=by omega
  first
   | (rw [decide_eq_true q'] at h5; exact absurd h5 (by decide))
   | (simp at h5; omega)
 cases hwl with
 | cons w1 w2 =>
  cases w2
  cases w1 with
  | list ho hall=>exact ⟨_,_,ns,rfl,rfl,ho,zae2 ns _ hall,hlen⟩
theorem zakk (l:OpenLaw) (args:List WData):l.row.toRowW.claim.post args (.bool true) args=true :=
 postW_of (r:=l.row.toRowW) (X:=(true == true))
  (show WShape.has [] (.bool true) .bool=true by first | rfl | decide | simp [WShape.has,WShape.arms,WShape.armsAll])
  (show (WTm.eq .res (.lit (.bool true))).value [] { args:=args,res:=some (.bool true),after:=args }=some (.bool (true == true)) from w_eq_bool (w_res rfl) w_lit) rfl
theorem attach_call {l:OpenLaw}{n:Nat}{q:Program}{loose:List Str}{XP:(Str→Option Value)→Heap→Prop}{YP:World→Heap→Prop}{d:DefRec}
  (hn:l.most=some n) (hdf:d.params.defaults=[])
  (call:∀ (w:World) (s₀ s₁:Shared) (mg mb:Str→Option Value) (fa:Addr) (o:Obj) (pm cd doc:Value) (a:Addr) (vs:List Value) (ns:List Int),
   Ground q loose [] XP w s₀ mg mb s₁.heap→YP w s₁.heap →
   s₁.heap.get? fa=some o→o.data=.func (docDef d.name d.params d.body d.scope pm cd doc)→s₁.heap.CodeRec cd d.name→mg d.name=some (.ref fa) →
   s₁.heap.get? a=some { cls:=.type "list",data:=.seq vs.toArray }→IntsAre vs ns→ns.length≤n→s₁.gens=#[] →
   codeAny (model l.prog w) callerA (.call (.ref fa) ⟨[.ref a],[]⟩) (fun r s'=>r=.ok (.ret (.bool true))∧OldK s₁.heap s'.heap∧s'.os=s₁.os∧AllBare s'.gens) s₁) :
  WalkO q loose XP YP l.row.toRowW d [] (fun f vs=>PySem.call f vs):=by
 intro w s₀ s₁ mg mb G Y fa o pm cd doc dV kV ho hd hcd hD hmg hg args vals as hpre hlay hrd hwl hlo
 obtain rfl:dV=.none:=Dflts.none hD hdf
 obtain rfl:kV=.none:=Dflts.noKw hD
 obtain ⟨a,vs,ns,rfl,rfl,hobj,hints,hlen⟩:=zakj hn hpre hwl
 refine enter_call (codeAny_mono (call w s₀ s₁ mg mb fa o pm cd doc a vs ns G Y ho (fd_plain hd) hcd hmg hobj hints hlen hg) fun r s' hq=>?_)
 obtain ⟨rfl,h2,h3,h4⟩:=hq
 exact ⟨.inl ⟨.bool true,.bool true,[],rfl,fun _=>rfl,.bool true,zakk l _,fun _=>⟨List.Pairwise.nil,fun _ hm=>(nomatch hm)⟩⟩,h2,h3,h4⟩
end Att
namespace L2
open PySem PySem.Spec PyProof.Rows
theorem zaha:∀ {vs:List Value}{ns:List Int},IntsAre vs ns→Vals (ns.map V.int) vs
 | _,_,.nil=>.nil
 | _,_,.cons n t h=>.cons ⟨t,rfl⟩ (zaha h)
def Only (H:Hp):Prop:=∀ b,H b=none∨∃ o xs,H b=some (.frz o (.lst xs))
theorem zamr {P:Program}{w:World}{K:PySem.W.Frag}{mg mb:Str→Option Value}{CX:CXT}{k:Nat}{fa a:Addr}{fd:FuncData}{x:Str}{sp:Sp}{s₁:Shared}{vs:List Value}{ns:List Int}
  (KX:K.In s₁.heap) (hns:s₁.heap.Ns mainGlobals mg) (hb:s₁.heap.Ns builtinsNs mb) (hbb:∀ x:Str,x ≠ "__name__" → mb x=bootBuiltins x) (hlim:s₁.heap.NoLimit) (hg:s₁.gens=#[])
  (ha:s₁.heap.get? a=some { cls:=.type "list",data:=.seq vs.toArray }) (hi:IntsAre vs ns) (hl:ns.length≤sizeLine) (hr:Room k callerA)
  (F:∀ base:Heap,K.In base→base.Ns mainGlobals mg→FnOk P w K mg base CX k fa fd [x] sp) (hbind:∀ (s:Shared) (u:Value),BindsTo s fd ⟨[u],[]⟩ [(x,u)])
  (hsp:∀ H:Hp,Only H→SqL K H a (ns.map V.int)→sp [.ref a] H (fun v _=>v=.bl true) fun _ _ _=>False)
  (hCX:∀ H e s',CX [] H s₁ (fun _ _ _=>False) e s'→False) :
  codeAny (model P w) callerA (.call (.ref fa) ⟨[.ref a],[]⟩) (fun r s'=>r=.ok (.ret (.bool true))∧OldK s₁.heap s'.heap∧s'.os=s₁.os∧AllBare s'.gens) s₁:=by
 have rv:=zaha hi
 have lenV:=hi.length
 have core:∀ H:Hp,Only H→SqL K H a (ns.map V.int)→HOk P w H s₁.heap→(∀ b,H b≠none→b=a)→(H a≠none→K.lookup a=none) →
   codeAny (model P w) callerA (.call (.ref fa) ⟨[.ref a],[]⟩) (fun r s'=>r=.ok (.ret (.bool true))∧OldK s₁.heap s'.heap∧s'.os=s₁.os∧AllBare s'.gens) s₁:=by
  intro H hO hS hok hA hK
  have base_of:∀ {b:Addr}{o:Obj},s₁.heap.get? b=some o→H b=none→(hidT s₁.heap H).get? b=some o:=fun e n=>zama e n
  have noA:∀ {b:Addr}{o:Obj}{es:Array DictEntry}{ep:Nat},s₁.heap.get? b=some o→o.data=.dict es ep→H b=none:=fun {b o es ep} e d=>by
   cases q:H b with
   | none=>rfl
   | some u =>
    have e':b=a:=hA b (by rw [q]; simp)
    subst e'
    rw [ha] at e; cases e
    have d':Data.seq vs.toArray _=Data.dict es ep:=d
    cases d'
  have nsK:∀ {b:Addr}{m:Str→Option Value},s₁.heap.Ns b m→(hidT s₁.heap H).Ns b m:=fun {b m} ⟨o,es,ep,e,d,r⟩=>⟨o,es,ep,base_of e (noA e d),d,r⟩
  have hKb:K.In (hidT s₁.heap H):=fun b o e=>base_of (KX b o e) (by
   cases q:H b with
   | none=>rfl
   | some u =>
    have e':b=a:=hA b (by rw [q]; simp)
    subst e'
    rw [hK (by rw [q]; simp)] at e; cases e)
  have hM:Mod K mg (hidT s₁.heap H):=⟨hKb,nsK hns,⟨mb,nsK hb,hbb⟩,let ⟨mc,h1,h2⟩:=hlim; ⟨mc,nsK h1,h2⟩⟩
  have e0:Env0 P w K mg (hidT s₁.heap H) callerA [] s₁ H:=⟨rfl,hM,fun b o e=>zan5 e,Nat.le_of_eq (zajz _ _),trivial,fun b hb=>absurd (show b∈([]:List Addr) from hb) (by simp),hok,.of_eq hg⟩
  refine codeAny_mono ((F _ hKb (nsK hns)).run callerA [] s₁ H ⟨[.ref a],[]⟩ [.ref a] [.ref a] _ _ hr e0 (hbind s₁ (.ref a)) (.cons rfl .nil) (hsp H hO hS)) fun r s' h=>?_
  cases r with
  | error e=>exact (hCX H e s' h).elim
  | ok fl =>
   cases fl with
   | next=>exact False.elim h
   | brk=>exact False.elim h
   | cont=>exact False.elim h
   | ret u =>
    obtain ⟨v,H',os,bare,un,hok',r',q⟩:=h
    have q':v=.bl true:=q
    subst q'
    obtain rfl:u=Value.bool true:=r'
    refine ⟨rfl,OldK.of_keep fun b o e=>?_,os,bare⟩
    cases q:H b with
    | none=>exact un.keep b o e q (by intro z; exact absurd (show b∈([]:List Addr) from z) (by simp)) (by simp)
    | some u =>
     rcases hO b with z | ⟨ob,xs,z⟩
     ·rw [q] at z; cases z
     ·have z2:=un.frzs b ob _ z
      obtain ⟨e1,_⟩:=hok b _ z
      obtain ⟨e2,_⟩:=hok' b _ z2
      rw [e] at e1; cases e1
      exact e2
 cases hk:K.lookup a with
 | some o =>
  have e:=KX a o hk
  rw [ha] at e
  cases e
  refine core (fun _=>none) (fun _=>.inl rfl) (.inr ⟨_,vs.toArray,_,hk,rfl,rfl,rfl,by rw [List.size_toArray,lenV]; exact hl,by simpa using rv⟩) (fun b u z=>by have z':(none:Option HO)=some u:=z; cases z') (fun b z=>absurd rfl z) fun z=>absurd rfl z
 | none =>
  refine core (fun b=>if b=a then some (.frz { cls:=.type "list",data:=.seq vs.toArray } (.lst (ns.map V.int))) else none) (fun b=>?_) (.inl (.inr ⟨{ cls:=.type "list",data:=.seq vs.toArray },if_pos rfl⟩)) (fun b u z=>?_) (fun b z=>?_) fun _=>hk
  ·by_cases hb:b=a
   ·exact .inr ⟨_,_,if_pos hb⟩
   ·exact .inl (if_neg hb)
  ·by_cases hb:b=a
   ·have z':=(if_pos hb).symm.trans z
    cases z'
    subst hb
    exact ⟨ha,by rw [List.length_map]; exact hl,vs,_,rv,ha⟩
   ·have z':=(if_neg hb).symm.trans z
    cases z'
  ·by_cases hb:b=a
   ·exact hb
   ·exact absurd (if_neg hb) z
theorem zaor {l:PySem.W.OpenLaw}{n k:Nat}{q:Program}{loose:List Str}{XP:(Str→Option Value)→Heap→Prop}{YP:World→Heap→Prop}{d:DefRec}{K:Params→PySem.W.Frag}{CX:World→CXT}{sp:World→Sp}{x:Str}
  (hn:l.most=some n) (hn2:n≤sizeLine) (hdf:d.params.defaults=[]) (hr:Room k callerA)
  (hY:∀ (w:World) (h:Heap),YP w h→(K w.params).In h)
  (F:∀ (w:World) (mg:Str→Option Value) (fa:Addr) (h:Heap),(K w.params).In h→h.Ns mainGlobals mg→mg d.name=some (.ref fa) →
   ∃ fd:FuncData,(∀ (s:Shared) (u:Value),BindsTo s fd ⟨[u],[]⟩ [(x,u)]) ∧
    ∀ base:Heap,(K w.params).In base→base.Ns mainGlobals mg→FnOk l.prog w (K w.params) mg base (CX w) k fa fd [x] (sp w))
  (hsp:∀ (w:World) (H:Hp) (a:Addr) (ns:List Int),ns.length≤n→Only H→SqL (K w.params) H a (ns.map V.int)→sp w [.ref a] H (fun v _=>v=.bl true) fun _ _ _=>False)
  (hCX:∀ (w:World) (H:Hp) (s:Shared) (e:Value) (s':Shared),CX w [] H s (fun _ _ _=>False) e s'→False) :
  PySem.W.WalkO q loose XP YP l.row.toRowW d [] (fun f vs=>PySem.call f vs):=by
 refine Att.attach_call hn hdf fun w s₀ s₁ mg mb fa o pm cd doc a vs ns G Y ho hd hcd hmg hobj hints hlen hg=>?_
 have KX:=hY w _ Y
 obtain ⟨fd,hb,hF⟩:=F w mg fa _ KX G.T.g hmg
 exact zamr KX G.T.g G.T.b G.T.builtins G.T.nolimit hg hobj hints (Nat.le_trans hlen hn2) hr hF hb (fun H hO hS=>hsp w H a ns hlen hO hS) fun H e s'=>hCX w H s₁ e s'
theorem zams {l:PySem.W.OpenLaw}{n k:Nat}{q:Program}{loose:List Str}{XP:(Str→Option Value)→Heap→Prop}{YP:World→Heap→Prop}{d:DefRec}{K:Params→PySem.W.Frag}{CX:CXT}{sp:PySem.W.Frag→Sp}{x:Str}
  (hn:l.most=some n) (hn2:n≤sizeLine) (hdf:d.params.defaults=[]) (hr:Room k callerA)
  (hY:∀ (w:World) (h:Heap),YP w h→(K w.params).In h)
  (F:∀ (w:World) (mg:Str→Option Value) (fa:Addr) (h:Heap),(K w.params).In h→h.Ns mainGlobals mg→mg d.name=some (.ref fa) →
   ∃ fd:FuncData,(∀ (s:Shared) (u:Value),BindsTo s fd ⟨[u],[]⟩ [(x,u)]) ∧
    ∀ base:Heap,(K w.params).In base→base.Ns mainGlobals mg→FnOk l.prog w (K w.params) mg base CX k fa fd [x] (sp (K w.params)))
  (hsp:∀ (K:PySem.W.Frag) (H:Hp) (a:Addr) (ns:List Int),ns.length≤n→Only H→SqL K H a (ns.map V.int)→sp K [.ref a] H (fun v _=>v=.bl true) fun _ _ _=>False)
  (hCX:∀ (H:Hp) (s:Shared) (e:Value) (s':Shared),CX [] H s (fun _ _ _=>False) e s'→False) :
  PySem.W.WalkO q loose XP YP l.row.toRowW d [] (fun f vs=>PySem.call f vs) :=
 zaor (K:=K) (CX:=fun _=>CX) (sp:=fun w=>sp (K w.params)) hn hn2 hdf hr hY F (fun w H a ns h1 h2 h3=>hsp (K w.params) H a ns h1 h2 h3) fun _ H s e s'=>hCX H s e s'
def inClass (s:Stmt) (j:Nat):Stmt:=match s with
 | .ClassDef _ _ _ body _ _ _ _ _ _ _=>body.getD j (.Pass ⟨0,0,0,0⟩)
 | _=>.Pass ⟨0,0,0,0⟩
def defArgs (s:Stmt):Arguments:=match s with
 | .FunctionDef _ a _ _ _ _ _ _ _ _=>a
 | _=>{ posonlyargs:=[],args:=[],vararg:=none,kwonlyargs:=[],kw_defaults:=[],kwarg:=none,defaults:=[] }
def defBody (s:Stmt):List Stmt:=match s with
 | .FunctionDef _ _ b _ _ _ _ _ _ _=>b
 | _=>[]
def defScope (s:Stmt):Scope:=match s with
 | .FunctionDef _ _ _ _ _ _ sc _ _ _=>sc
 | _=>{ kind:=.function,names:=[],isGenerator:=false,isCoroutine:=false }
abbrev CX0:CXT:=fun _ _ _ _ _ _=>False
abbrev E0:XK:=fun _ _ _=>False
theorem pass0 {X:Cx}:Passes CX0 X E0:=fun _ _ _ _ _ _ _ h=>h.elim
structure Fun (K:PySem.W.Frag) (x qual:Str) (st:Stmt) (f:Addr) (fd:FuncData):Prop where
 ex:∃ (oc:Value) (od:Option Addr) (kV doc pm:Value) (an:Option Addr) (cdv ct:Value) (osl:Array (Option Value)),
  fd=PySem.W.fnOf x qual (defArgs st) (defBody st) (defScope st) .none kV doc pm an cdv ct∧K.lookup f=some ⟨oc,od,.func fd,osl⟩∧PySem.W.codeIn K cdv qual=true
 kp:PySem.W.keepIn K (.ref f)=true
section
variable {P:Program}{w:World}{K:PySem.W.Frag}{mg:Str→Option Value}{base:Heap}
theorem Fun.ok {x qual:Str}{st:Stmt}{f:Addr}{fd:FuncData}{N ps:List Str}{k:Nat}{sp:Sp} (F:Fun K x qual st f fd) (S:FnScope N ps (defScope st)) (len:∀ vs H Q E,sp vs H Q E→vs.length=ps.length)
  (hbody:∀ (cdv:Value) (A:Around) (outer:List Env) (s:Shared) (H:Hp) (vs:List V) (Q:VK) (E:XK),Room k (A.deeper (envOfC qual (defScope st) s.heap.objs.size f cdv))→sp vs H Q E →
   ∃ t,PSs (cxOf CX0 P w K mg base N qual (defScope st) f cdv A outer s H E).nox (defBody st) t∧t { nx:=fun _ H'=>Q .non H',rt:=Q } (start N vs) H):FnOk P w K mg base CX0 (k + 1) f fd ps sp:=by
 obtain ⟨oc,od,kV,doc,pm,an,cdv,ct,osl,rfl,lk,hcd⟩:=F.ex
 refine zaqr lk hcd S len fun A outer s H vs Q E hr hsp=>?_
 obtain ⟨t,h,q⟩:=hbody cdv A outer s H vs Q E hr hsp
 exact ⟨t,h.nox,q⟩
theorem Fun.binds {x qual:Str}{st:Stmt}{f:Addr}{fd:FuncData}{ps:List Str} (F:Fun K x qual st f fd)
  (h:∀ (kV doc pm:Value) (an:Option Addr) (cdv ct:Value) (us:List Value),us.length=ps.length→bindArgs (PySem.W.fnOf x qual (defArgs st) (defBody st) (defScope st) .none kV doc pm an cdv ct) ⟨us,[]⟩=pure (ps.zip us)):Binds K fd ps []:=by
 obtain ⟨oc,od,kV,doc,pm,an,cdv,ct,osl,rfl,lk,hcd⟩:=F.ex
 exact .all (h kV doc pm an cdv ct)
theorem zaa6 {x qual:Str}{st:Stmt}{f:Addr}{oc:Value}{od an:Option Addr}{osl:Array (Option Value)}{kV doc pm cdv ct:Value} (l:K.lookup f=some ⟨oc,od,.func (PySem.W.fnOf x qual (defArgs st) (defBody st) (defScope st) .none kV doc pm an cdv ct),osl⟩)
  (c:PySem.W.codeIn K cdv qual=true) (k:PySem.W.keepIn K (.ref f)=true):Fun K x qual st f (PySem.W.fnOf x qual (defArgs st) (defBody st) (defScope st) .none kV doc pm an cdv ct):=⟨⟨oc,od,kV,doc,pm,an,cdv,ct,osl,rfl,l,c⟩,k⟩
end
theorem zacx {A:Around}{k:Nat} (hr:Room k A):A.units + 1 < cLine:=Nat.lt_of_le_of_lt (Nat.add_le_add_left (by decide:1≤64) _) hr.units
theorem iteF {A B:Prop} (h:B):if false=true then A else B:=by
 rw [if_neg Bool.false_ne_true]
 exact h
theorem iteT {A B:Prop} (h:A):if true=true then A else B:=by
 rw [if_pos rfl]
 exact h
theorem ite2 {c A B:Prop} [Decidable c] (h1:c→A) (h2:¬ c→B):if c then A else B:=by
 by_cases h:c
 ·rw [if_pos h]
  exact h1 h
 ·rw [if_neg h]
  exact h2 h
end L2

namespace L2
open PySem PySem.Spec PyProof.Rows
section
variable {κ:Type} [DecidableEq κ]
def valV (kvs:List (κ × V)) (k:κ):Option V:=(kvs.find? fun kv=>decide (kv.1=k)).map (·.2)
def putK (kvs:List (κ × V)) (k:κ) (v:V):List (κ × V) :=
 if (kvs.any fun kv=>decide (kv.1=k))=true then kvs.map (fun kv=>if kv.1=k then (kv.1,v) else kv) else kvs++[(k,v)]
theorem zac0 {p:κ × V}{r:List (κ × V)}{k:κ} (e:p.1=k):valV (p :: r) k=some p.2:=by simp [valV,List.find?_cons,e]
theorem zacs {p:κ × V}{r:List (κ × V)}{k:κ} (e:¬ p.1=k):valV (p :: r) k=valV r k:=by simp [valV,List.find?_cons,e]
theorem zagf (k:κ):∀ kvs:List (κ × V),(kvs.any fun kv=>decide (kv.1=k))=(valV kvs k).isSome
 | []=>rfl
 | p :: r=>by
  rw [List.any_cons]
  by_cases e:p.1=k
  ·simp only [zac0 e,decide_eq_true e,Bool.true_or,Option.isSome_some]
  ·rw [zacs e,decide_eq_false e,Bool.false_or]; exact zagf k r
theorem zacv (kvs:List (κ × V)) (k:κ) (v:V):(putK kvs k v).length≤kvs.length + 1:=by
 unfold putK
 split
 ·rw [List.length_map]; omega
 ·rw [List.length_append,List.length_cons,List.length_nil]; omega
theorem zaem {kvs:List (κ × V)}{k:κ} (v:V) (h:valV kvs k=none):putK kvs k v=kvs++[(k,v)]:=by
 unfold putK
 rw [zagf,h]
 exact if_neg (by decide)
theorem RelO.isSome_eq {o:Option V}{u:Option Value} (r:RelO o u):o.isSome=u.isSome:=by
 cases o with
 | none=>cases u with
  | none=>rfl
  | some _=>exact (show False from r).elim
 | some _=>cases u with
  | none=>exact (show False from r).elim
  | some _=>rfl
theorem RelO.getD {o:Option V}{u:Option Value}{d:V}{d':Value} (r:RelO o u) (rd:RelV d d'):RelV (o.getD d) (u.getD d'):=by
 cases o with
 | none=>cases u with
  | none=>exact rd
  | some _=>exact (show False from r).elim
 | some _=>cases u with
  | none=>exact (show False from r).elim
  | some _=>exact r
theorem KV.val {kvs:List (κ × V)}{vs:List (κ × Value)} (r:KV kvs vs) (k:κ):RelO (valV kvs k) (valueAt vs k):=by
 unfold KV at r
 induction r with
 | nil=>exact True.intro
 | @cons p q ps qs h t ih =>
  obtain ⟨h1,h2⟩:=h
  by_cases e:p.1=k
  ·have e':q.1=k:=h1.symm.trans e
   have b:valueAt (q :: qs) k=some q.2:=by simp [valueAt,List.find?_cons,e']
   rw [zac0 e,b]; exact h2
  ·have e':¬ q.1=k:=fun z=>e (h1.trans z)
   have b:valueAt (q :: qs) k=valueAt qs k:=by simp [valueAt,List.find?_cons,e']
   rw [zacs e,b]; exact ih
theorem KV.any {kvs:List (κ × V)}{vs:List (κ × Value)} (r:KV kvs vs) (k:κ):(kvs.any fun kv=>decide (kv.1=k))=vs.any fun kv=>decide (kv.1=k):=by
 unfold KV at r
 induction r with
 | nil=>rfl
 | cons h t ih=>rw [List.any_cons,List.any_cons,ih,h.1]
theorem KV.repl {kvs:List (κ × V)}{vs:List (κ × Value)} (r:KV kvs vs) (k:κ) {y:V}{u:Value} (ry:RelV y u) :
  KV (kvs.map fun kv=>if kv.1=k then (kv.1,y) else kv) (vs.map fun kv=>if kv.1=k then (kv.1,u) else kv):=by
 unfold KV at r ⊢
 induction r with
 | nil=>exact .nil
 | @cons p q ps qs h t ih =>
  rw [List.map_cons,List.map_cons]
  refine .cons ?_ ih
  obtain ⟨h1,h2⟩:=h
  by_cases e:p.1=k
  ·rw [if_pos e,if_pos (h1.symm.trans e)]; exact ⟨h1,ry⟩
  ·rw [if_neg e,if_neg (fun z=>e (h1.trans z))]; exact ⟨h1,h2⟩
theorem KV.put {kvs:List (κ × V)}{vs:List (κ × Value)} (r:KV kvs vs) (k:κ) {y:V}{u:Value} (ry:RelV y u):KV (putK kvs k y) (stored vs k u):=by
 unfold putK stored
 rw [r.any k]
 by_cases e:(vs.any fun kv=>decide (kv.1=k))=true
 ·rw [if_pos e,if_pos e]; exact r.repl k ry
 ·rw [if_neg e,if_neg e]; exact Paired.snoc r ⟨rfl,ry⟩
theorem KV.length {kvs:List (κ × V)}{vs:List (κ × Value)} (r:KV kvs vs):kvs.length=vs.length:=Paired.length r
end
theorem zahv {P:Program}{w:World}{k:Key}{u:Value} (r:RelV (kV k) u):(mixKind P w).is k u=true:=by
 cases k with
 | inl i=>obtain ⟨t,e⟩:=(show ∃ t,u=Value.int i t from r); subst e; exact zahr P w i t
 | inr x=>obtain ⟨t,e⟩:=(show ∃ t,u=Value.str x t from r); subst e; exact zahs P w x t
theorem zahb {P:Program}{w:World}:∀ {ks:List Key}{us:List Value},Vals (ks.map kV) us→ItemsAre (mixKind P w) ks us
 | [],_,r=>by rw [List.map_nil] at r; cases r; exact .nil
 | k :: ks,_,r=>by
  rw [List.map_cons] at r
  cases r with
  | cons h t=>exact .cons (zahv h) (zahb t)
abbrev KT (H:Hp):List (List Key × V)→List (List Key × Addr × Value)→Prop:=Paired fun p q=>p.1=q.1∧H q.2.1=some (.tup (p.1.map kV))∧RelV p.2 q.2.2
theorem KT.val {H:Hp}{kvs:List (List Key × V)}{xs:List (List Key × Addr × Value)} (r:KT H kvs xs) (k:List Key):RelO (valV kvs k) ((atKey xs k).map (·.2)):=by
 induction r with
 | nil=>exact True.intro
 | @cons p q ps qs h t ih =>
  obtain ⟨h1,_,h2⟩:=h
  by_cases e:p.1=k
  ·have e':q.1=k:=h1.symm.trans e
   have b:atKey (q :: qs) k=some q.2:=by simp [atKey,List.find?_cons,e']
   rw [zac0 e,b]; exact h2
  ·have e':¬ q.1=k:=fun z=>e (h1.trans z)
   have b:atKey (q :: qs) k=atKey qs k:=by simp [atKey,List.find?_cons,e']
   rw [zacs e,b]; exact ih
theorem KT.repl {H:Hp}{kvs:List (List Key × V)}{xs:List (List Key × Addr × Value)} (r:KT H kvs xs) (k:List Key) {y:V}{u:Value} (ry:RelV y u) :
  KT H (kvs.map fun kv=>if kv.1=k then (kv.1,y) else kv) (xs.map (putAt k u)):=by
 induction r with
 | nil=>exact .nil
 | @cons p q ps qs h t ih =>
  rw [List.map_cons,List.map_cons]
  refine .cons ?_ ih
  obtain ⟨h1,h2,h3⟩:=h
  unfold putAt
  by_cases e:p.1=k
  ·rw [if_pos e,if_pos (h1.symm.trans e)]; exact ⟨h1,h2,ry⟩
  ·rw [if_neg e,if_neg (fun z=>e (h1.trans z))]; exact ⟨h1,h2,h3⟩
theorem KT.put {H:Hp}{kvs:List (List Key × V)}{xs:List (List Key × Addr × Value)} (r:KT H kvs xs) (k:List Key) {b:Addr}{y:V}{u:Value} (hb:H b=some (.tup (k.map kV))) (ry:RelV y u) :
  KT H (putK kvs k y) (storedH xs k b u):=by
 have e:(kvs.any fun kv=>decide (kv.1=k))=(atKey xs k).isSome:=by
  rw [zagf,(r.val k).isSome_eq,Option.isSome_map]
 unfold putK storedH
 rw [e]
 by_cases q:(atKey xs k).isSome=true
 ·rw [if_pos q,if_pos q]; exact r.repl k ry
 ·rw [if_neg q,if_neg q]; exact Paired.snoc r ⟨rfl,hb,ry⟩
theorem KT.keeps {H H':Hp}{kvs:List (List Key × V)}{xs:List (List Key × Addr × Value)} (r:KT H kvs xs) (ht:∀ b ys,H b=some (.tup ys)→H' b=some (.tup ys)):KT H' kvs xs :=
 Paired.mapP r fun _ _ z=>⟨z.1,ht _ _ z.2.1,z.2.2⟩
section
variable {P:Program}{w:World}{H:Hp}{h:Heap}{a:Addr}
theorem zaqw {u:HO} (ok:HOk P w H h) (e:Rd H a u):ObjOk P w H h a u:=e.ok ok
theorem zagg {kvs:List (Key × V)} (ok:HOk P w H h) (e:Rd H a (.dK kvs)):kvs.length≤sizeLine∧(a == sysModules)=false∧∃ vs,KV kvs vs∧h.DictOf (mixKind P w) a vs :=
 show ObjOk P w H h a (.dK kvs) from zaqw ok e
theorem zaos {kvs:List (Key × V)} (ok:HOk P w H h) (e:H a=some (.dK kvs)):kvs.length≤sizeLine∧(a == sysModules)=false∧∃ vs,KV kvs vs∧h.DictOf (mixKind P w) a vs:=zagg ok (.inl e)
theorem zafx {ks:List Key} (ok:HOk P w H h) (e:H a=some (.tup (ks.map kV))):(tupleKind (mixKind P w)).is h ks a:=by
 obtain ⟨_,its,r,o,h1,h2,n,h3⟩:=(show ObjOk P w H h a (.tup (ks.map kV)) from ok a _ e)
 exact ⟨o,its.toArray,n,h1,h2,h3,by simpa using zahb r⟩
theorem zahw {kvs:List (List Key × V)} (ok:HOk P w H h) (e:Rd H a (.dT kvs)):kvs.length≤sizeLine∧(a == sysModules)=false ∧
  ∃ xs,KT H kvs xs∧h.DictOfH (tupleKind (mixKind P w)) a xs:=by
 obtain ⟨z,y,xs,r,o,es,ep,h1,h2,h3,h4,h5⟩:=(show ObjOk P w H h a (.dT kvs) from zaqw ok e)
 refine ⟨z,y,xs,r,o,es,ep,h1,h2,h3,h4,fun x hx=>?_,h5⟩
 have all:∀ {l:List (List Key × V)}{m:List (List Key × Addr × Value)},KT H l m→∀ x∈m,(tupleKind (mixKind P w)).is h x.1 x.2.1:=by
  intro l m q
  induction q with
  | nil=>intro x hx; exact nomatch hx
  | @cons p q ps qs hq t ih =>
   intro x hx
   rcases List.mem_cons.mp hx with e | hx
   ·subst e
    exact zafx ok (by rw [← hq.1]; exact hq.2.1)
   ·exact ih x hx
 exact all r x hx
theorem zasm {kvs:List (List Key × V)} (ok:HOk P w H h) (e:H a=some (.dT kvs)):kvs.length≤sizeLine∧(a == sysModules)=false ∧
  ∃ xs,KT H kvs xs∧h.DictOfH (tupleKind (mixKind P w)) a xs:=zahw ok (.inl e)
end
def DGet (H:Hp) (a:Addr) (y:V) (r:Option V):Prop :=
 (∃ kvs k,Rd H a (.dK kvs)∧y=kV k∧r=valV kvs k)∨∃ kvs k b,Rd H a (.dT kvs)∧y=.ref b∧H b=some (.tup (k.map kV))∧r=valV kvs k
def DPut (H:Hp) (a:Addr) (y v:V) (H':Hp):Prop :=
 (∃ kvs k,H a=some (.dK kvs)∧y=kV k∧kvs.length < sizeLine∧H'=upd H a (.dK (putK kvs k v))) ∨
 ∃ kvs k b,H a=some (.dT kvs)∧y=.ref b∧H b=some (.tup (k.map kV))∧kvs.length < sizeLine∧H'=upd H a (.dT (putK kvs k v))
theorem DGet.k {H:Hp}{a:Addr}{kvs:List (Key × V)}{k:Key} (e:H a=some (.dK kvs)):DGet H a (kV k) (valV kvs k):=.inl ⟨kvs,k,.inl e,rfl,rfl⟩
theorem DPut.k {H:Hp}{a:Addr}{kvs:List (Key × V)}{k:Key}{v:V} (e:H a=some (.dK kvs)) (hl:kvs.length < sizeLine):DPut H a (kV k) v (upd H a (.dK (putK kvs k v))):=.inl ⟨kvs,k,e,rfl,hl,rfl⟩
section
variable {X:Cx}{pins:List (Addr × Obj)}{σ:St}{H:Hp}{s:Shared}{a:Addr}{y v:V}{u r:Value}{o:Option V}{A:Around}{E:Value→Shared→Prop}
theorem Inv.big (I:Inv X pins σ H s):sysModules < s.heap.objs.size:=by
 have h:mainGlobals < s.heap.objs.size:=(I.mod.glob.keeps I.bk).lt
 exact Nat.lt_trans (by decide) h
theorem zakl {Q:Value→Shared→Prop} (hu:A.units + 1 < cLine) (I:Inv X pins σ H s) (g:DGet H a y (some v)) (ry:RelV y u) (h:∀ w' s',Inv X pins σ H s'→RelV v w'→Q w' s') :
  wpAny (model X.prog X.w) A (getItem (.ref a) u) Q E s:=by
 rcases g with ⟨kvs,k,e,ey,l⟩ | ⟨kvs,k,b,e,ey,eb,l⟩
 ·subst ey
  obtain ⟨z,hd,vs,rel,dd⟩:=zagg I.hok e
  obtain ⟨w',hw,rw'⟩:=RelO.some_of (v:=v) (o:=valueAt vs k) (by rw [l]; exact rel.val k)
  exact wpAny_getItem_of (zahv ry) dd.mapOf hw (h w' _ (I.tok _) rw')
 ·subst ey
  cases (show u=Value.ref b from ry)
  obtain ⟨z,hd,xs,rel,dd⟩:=zahw I.hok e
  obtain ⟨w',hw,rw'⟩:=RelO.some_of (v:=v) (o:=(atKey xs k).map (·.2)) (by rw [l]; exact rel.val k)
  obtain ⟨p,hp,hp2⟩:=Option.map_eq_some_iff.mp hw
  refine wpAny_getItem_heap (tupleKind_room_in1 hu) (zafx I.hok eb) dd hp ?_
  rw [hp2]
  exact h w' _ (I.tok _) rw'
theorem d_in {Q:Value→Shared→Prop} (hu:A.units + 1 < cLine) (I:Inv X pins σ H s) (g:DGet H a y o) (ry:RelV y u) (h:∀ s',Inv X pins σ H s'→Q (.bool o.isSome) s') :
  wpAny (model X.prog X.w) A (compareOp .In u (.ref a)) Q E s:=by
 rcases g with ⟨kvs,k,e,ey,l⟩ | ⟨kvs,k,b,e,ey,eb,l⟩
 ·subst ey
  obtain ⟨z,hd,vs,rel,dd⟩:=zagg I.hok e
  refine wpAny_in_of (zahv ry) hd dd.mapOf ?_
  rw [← (rel.val k).isSome_eq,← l]
  exact h _ (I.tok _)
 ·subst ey
  cases (show u=Value.ref b from ry)
  obtain ⟨z,hd,xs,rel,dd⟩:=zahw I.hok e
  refine wpAny_in_heap (tupleKind_room_in1 hu) (zafx I.hok eb) hd dd ?_
  have q:=(rel.val k).isSome_eq
  rw [Option.isSome_map] at q
  rw [← q,← l]
  exact h _ (I.tok _)
theorem zaot {Q:Value→Shared→Prop} (hu:A.units + 1 < cLine) (I:Inv X pins σ H s) (g:DGet H a y o) (ry:RelV y u) (h:∀ s',Inv X pins σ H s'→Q (.bool (!o.isSome)) s') :
  wpAny (model X.prog X.w) A (compareOp .NotIn u (.ref a)) Q E s:=by
 rcases g with ⟨kvs,k,e,ey,l⟩ | ⟨kvs,k,b,e,ey,eb,l⟩
 ·subst ey
  obtain ⟨z,hd,vs,rel,dd⟩:=zagg I.hok e
  refine wpAny_notIn_of (zahv ry) hd dd.mapOf ?_
  rw [← (rel.val k).isSome_eq,← l]
  exact h _ (I.tok _)
 ·subst ey
  cases (show u=Value.ref b from ry)
  obtain ⟨z,hd,xs,rel,dd⟩:=zahw I.hok e
  refine wpAny_notIn_heap (tupleKind_room_in1 hu) (zafx I.hok eb) hd dd ?_
  have q:=(rel.val k).isSome_eq
  rw [Option.isSome_map] at q
  rw [← q,← l]
  exact h _ (I.tok _)
theorem zahx {h':Heap}{t':Nat}{ob:HO} (I:Inv X pins σ H s) (mu:Mut (H a)) (hs:Heap.SameBut a s.heap h') (he:∃ q,h'.get? a=some q) (new:ObjOk X.prog X.w (upd H a ob) h' a ob) :
  Inv X pins σ (upd H a ob) { s with heap:=h',toks:=t' } :=
 I.write (x:=a) (e:=a) mu (.inl rfl) (fun b q hb z=>(hs.2 b hb).trans z) he new
theorem zanw {P:Program}{w:World}{H':Hp}{h':Heap}{kvs:List (Key × V)}{vs:List (Key × Value)} (z:kvs.length≤sizeLine) (hd:(a == sysModules)=false) (rel:KV kvs vs) (dd:h'.DictOf (mixKind P w) a vs) :
  ObjOk P w H' h' a (.dK kvs):=⟨z,hd,vs,rel,dd⟩
theorem zakm {H':Hp}{Q:Unit→Shared→Prop} (hu:A.units + 1 < cLine) (I:Inv X pins σ H s) (g:DPut H a y v H') (ry:RelV y u) (rv:RelV v r) (h:∀ s',Inv X pins σ H' s'→Q () s') :
  wpAny (model X.prog X.w) A (setItem (.ref a) u r) Q E s:=by
 rcases g with ⟨kvs,k,e,ey,l,eH⟩ | ⟨kvs,k,b,e,ey,eb,l,eH⟩
 ·subst ey eH
  obtain ⟨z,hd,vs,rel,dd⟩:=zaos I.hok e
  have hz:vs.length≤sizeLine:=by rw [← rel.length]; exact z
  have hl:(putK kvs k v).length≤sizeLine:=by have:=zacv kvs k v; omega
  refine wpAny_setItem_pairs (hsz:=hz) (zahv ry) dd fun h' dd' hs=>h _ ?_
  have he:∃ q,h'.get? a=some q:=let ⟨q,_,_,hq,_⟩:=dd'; ⟨q,hq⟩
  exact zahx I (by rw [e]; exact True.intro) hs he (zanw hl hd (rel.put k rv) dd')
 ·subst ey eH
  cases (show u=Value.ref b from ry)
  obtain ⟨z,hd,xs,rel,dd⟩:=zasm I.hok e
  have hz:xs.length≤sizeLine:=by rw [← Paired.length rel]; exact z
  have hl:(putK kvs k v).length≤sizeLine:=by have:=zacv kvs k v; omega
  refine wpAny_setItem_heap (hsz:=hz) (tupleKind_room_in1 hu) (zafx I.hok eb) dd fun h' dd' hs=>h _ ?_
  obtain ⟨q,es,ep,hq,h2,h3,h4,_,h5⟩:=dd'
  refine zahx I (by rw [e]; exact True.intro) hs ⟨q,hq⟩ ⟨hl,hd,_,(rel.put k eb rv).keeps fun c ys ec=>?_,q,es,ep,hq,h2,h3,h4,h5⟩
  rw [zaak (zab9 ec e (fun z=>nomatch z))]
  exact ec
end
section
variable {X:Cx}{pins:List (Addr × Obj)}{σ:St}{H:Hp}{s:Shared}{a:Addr}{kvs:List (Key × V)}{k:Key}{u:Value}{A:Around}{E:Value→Shared→Prop}
theorem zasn {Q:Value→Shared→Prop} (I:Inv X pins σ H s) (e:Rd H a (.dK kvs)) (h:∀ t s',Inv X pins σ H s'→Q (.int kvs.length t) s'):wpAny (model X.prog X.w) A (call (.builtin "len") [.ref a]) Q E s:=by
 obtain ⟨z,hd,vs,rel,dd⟩:=zagg I.hok e
 refine call_len_dict hd dd (by rw [← rel.length]; rw [sizeLine_eq] at z; omega) ?_
 rw [← rel.length]
 exact h _ _ (I.tok _)
end
def NoSl (i:Expr):Prop:=∀ ov iv,subscripted i false ov iv=operate [ov,iv] (getItem ov iv)
theorem zakn {prog:Program}{w:World}{A:Around}{E:Value→Shared→Prop}{s:Shared}{env:Env}{value slice:Expr}{pos:Pos}{T id:String}{Q:Value→Shared→Prop}
  (hl:typeLookup (.type T) "__getitem__" = pure (some (.builtin id))) (hs:NoSl slice)
  (h:wpAny (model prog w) A (eval value env) (fun o s₁=>wpAny (model prog w) A (eval slice env) (fun i s₂=>s₂.TypeIs o T∧wpAny (model prog w) A (getItem o i) Q E s₂) E s₁) E s) :
  wpAny (model prog w) A (eval (.Subscript value slice pos) env) Q E s:=by
 refine Subscript_ (wpAny_mono h (fun o s₁ h₁=>wpAny_mono h₁ (fun i s₂ h₂=>?_) fun _ _ x=>x) fun _ _ x=>x)
 obtain ⟨hT,h₂⟩:=h₂
 unfold subscriptTail
 refine wpAny_bind ?_
 rw [getitemInPython_of_ne hT.not_modules]
 refine wpAny_bind (wpAny_specialOf hT hl ?_)
 have fin:wpAny (model prog w) A (subscripted slice false o i) (fun r s₃=>wpAny (model prog w) A (letTemporaryGo value o r >>= fun _=>pure r) Q E s₃) E s₂:=by
  rw [hs o i]
  exact wpAny_operating (wpAny_mono h₂ (fun r s₃ h₃=>wpAny_bind (wpAny_letTemporaryGo (wpAny_pure h₃))) fun _ _ x=>x)
 first
  | exact wpAny_pure (wpAny_bind fin)
  | exact wpAny_bind (wpAny_pure (wpAny_bind fin))
  | exact wpAny_bind fin
theorem zahy {X:Cx}{pins:List (Addr × Obj)}{σ:St}{H:Hp}{s:Shared}{a:Addr}{y:V}{o:Option V} (I:Inv X pins σ H s) (g:DGet H a y o):s.TypeIs (.ref a) "dict" := by
 rcases g with ⟨kvs,k,e,_,_⟩ | ⟨kvs,k,b,e,_,_,_⟩
 ·obtain ⟨_,_,vs,_,dd⟩:=zagg I.hok e
  exact dd.typeIs
 ·obtain ⟨_,_,xs,_,dd⟩:=zahw I.hok e
  exact dd.typeIs
def tDGet (td ty:TE):TE:=fun σ H Q=>td σ H fun x H1=>ty σ H1 fun y H2=>∃ a v,x=.ref a∧DGet H2 a y (some v)∧Q v H2
def tDIn (ty td:TE):TE:=fun σ H Q=>ty σ H fun y H1=>td σ H1 fun x H2=>∃ a o,x=.ref a∧DGet H2 a y o∧Q (.bl o.isSome) H2
def tDNotIn (ty td:TE):TE:=fun σ H Q=>ty σ H fun y H1=>td σ H1 fun x H2=>∃ a o,x=.ref a∧DGet H2 a y o∧Q (.bl (!o.isSome)) H2
def sDPut (td ty tv:TE):TS:=fun D σ H=>tv σ H fun v H1=>td σ H1 fun x H2=>ty σ H2 fun y H3=>∃ a H4,x=.ref a∧DPut H3 a y v H4∧D.nx σ H4
section
variable {X:Cx}{o i e value:Expr}{pos pos' tpos:Pos}{td ty tv:TE}
theorem zaou (hu:X.A.units + 1 < cLine) (ho:PE X o td) (hi:PE X i ty) (hs:NoSl i):PE X (.Subscript o i pos) (tDGet td ty):=by
 intro pins s σ H Q I h
 refine zakn PySem.F.slot_dict_getitem.lookup hs (thn (ho pins s σ H _ I h) fun u s1 ⟨x,H1,I1,rx,q1⟩=>thn (hi pins s1 σ H1 _ I1 q1) fun iv s2 ⟨y,H2,I2,ry,a,v,ex,g,q2⟩=>?_)
 subst ex
 obtain rfl:u=Value.ref a:=rx
 exact ⟨zahy I2 g,zakl hu I2 g ry fun w' s3 I3 rw'=>⟨v,H2,I3,rw',q2⟩⟩
theorem zaqx (hu:X.A.units + 1 < cLine) (hi:PE X i ty) (ho:PE X o td):PC X .In i o (tDIn ty td):=by
 intro pins s σ H Q I h
 refine thn (hi pins s σ H _ I h) fun iv s1 ⟨y,H1,I1,ry,q1⟩=>thn (ho pins s1 σ H1 _ I1 q1) fun u s2 ⟨x,H2,I2,rx,a,ov,ex,g,q2⟩=>?_
 subst ex
 obtain rfl:u=Value.ref a:=rx
 exact d_in hu I2 g ry fun s3 I3=>⟨.bl ov.isSome,H2,I3,rfl,q2⟩
theorem zahc (hu:X.A.units + 1 < cLine) (hi:PE X i ty) (ho:PE X o td):PC X .NotIn i o (tDNotIn ty td):=by
 intro pins s σ H Q I h
 refine thn (hi pins s σ H _ I h) fun iv s1 ⟨y,H1,I1,ry,q1⟩=>thn (ho pins s1 σ H1 _ I1 q1) fun u s2 ⟨x,H2,I2,rx,a,ov,ex,g,q2⟩=>?_
 subst ex
 obtain rfl:u=Value.ref a:=rx
 exact zaot hu I2 g ry fun s3 I3=>⟨.bl (!ov.isSome),H2,I3,rfl,q2⟩
theorem zaov (hu:X.A.units + 1 < cLine) (ho:PE X o td) (hi:PE X i ty) (hv:PE X value tv) (hs:swapsWith value (some (.Subscript o i pos')) pos.line X.env=pure false) :
  PS X (.Assign [.Subscript o i pos'] value pos) (sDPut td ty tv):=by
 intro pins s σ H D I h
 refine wpAny_Assign_Subscript (thn (hv pins s σ H _ I h) fun r s1 ⟨v,H1,I1,rv,q1⟩=>thn (ho pins s1 σ H1 _ I1 q1) fun u s2 ⟨x,H2,I2,rx,q2⟩=>thn (hi pins s2 σ H2 _ I2 q2) fun iv s3 ⟨y,H3,I3,ry,a,H4,ex,g,q3⟩=>?_) hs
 subst ex
 obtain rfl:u=Value.ref a:=rx
 exact zakm hu I3 g ry rv fun s4 I4=>⟨σ,H4,I4,q3⟩
end
theorem zamt {P:Program}{w:World}{H:Hp} (h:Heap) (hb:sysModules < h.objs.size):ObjOk P w H (h.push { cls:=.type "dict",data:=.dict #[] }) h.objs.size (.dK []) :=
 ⟨Nat.zero_le _,beq_eq_false_iff_ne.mpr (Ne.symm (Nat.ne_of_lt hb)),[],.nil,Heap.DictOf.new h⟩
def tDNewK:TE:=fun _ H Q=>∀ p,H p=none→Q (.ref p) (upd H p (.dK []))
section
variable {X:Cx}{pos:Pos}
theorem zamu:PE X (.Dict [] [] pos) tDNewK:=fun pins s σ H Q I h =>
 wpAny_Dict_empty ⟨.ref s.heap.objs.size,_,I.laid (a:=s.heap.objs.size) (o:=.dK []) (t':=s.toks) (fun _ _ q=>Heap.get?_push_of_some _ q) (Nat.le_refl _) (zamt s.heap I.big),rfl,h _ (I.hok.fresh (Nat.le_refl _))⟩
end
structure M2 (X:Cx) (o:Expr) (m:Str) (apos:Pos) (e f:Expr) (cpos:Pos):Prop where
 base:attributeBase o m X.env (eval o X.env)=eval o X.env
 few:((backTo cpos (starEach [e,f] X.env)).all (fun x=>!x.1) && (backToKw cpos (keywordEach [] X.env)).all (fun x=>x.1.isSome)
  && decide (([e,f]:List Expr).length + ([]:List Keyword).length + (if ([]:List Keyword).isEmpty then 0 else 1) < 30))=true
 line:(apos.endLine == cpos.line)=true
 trees:backTo cpos (starEach [e,f] X.env)=[(false,eval e X.env),(false,eval f X.env)]
def IsD (H:Hp) (a:Addr):Prop:=(∃ kvs,Rd H a (.dK kvs))∨∃ kvs,Rd H a (.dT kvs)
theorem zaqy {X:Cx}{pins:List (Addr × Obj)}{σ:St}{H:Hp}{s:Shared}{a:Addr} (I:Inv X pins σ H s) (d:IsD H a) :
  s.TypeIs (.ref a) "dict" ∧ (∀ b,Value.ref a=.ref b→∃ ob,s.heap.get? b=some ob∧ob.dict=none)∧(a == sysModules)=false:=by
 rcases d with ⟨kvs,e⟩ | ⟨kvs,e⟩
 ·obtain ⟨_,hd,vs,_,dd⟩:=zagg I.hok e
  refine ⟨dd.typeIs,fun b q=>?_,hd⟩
  cases q
  obtain ⟨ob,_,_,h1,h2,_⟩:=dd
  exact ⟨ob,h1,h2.2.1⟩
 ·obtain ⟨_,hd,xs,_,dd⟩:=zahw I.hok e
  refine ⟨dd.typeIs,fun b q=>?_,hd⟩
  cases q
  obtain ⟨ob,_,_,h1,h2,_⟩:=dd
  exact ⟨ob,h1,h2.2.1⟩
section
variable {X:Cx}{pins:List (Addr × Obj)}{σ:St}{H:Hp}{s:Shared}{a:Addr}{y d:V}{u r:Value}{o:Option V}{A:Around}{E:Value→Shared→Prop}
theorem zaqz {Q:Value→Shared→Prop} (hu:A.units + 1 < cLine) (I:Inv X pins σ H s) (g:DGet H a y o) (ry:RelV y u) (rd:RelV d r) (h:∀ w' s',Inv X pins σ H s'→RelV (o.getD d) w'→Q w' s') :
  wpAny (model X.prog X.w) A (call (.builtin "dict.get") [.ref a,u,r]) Q E s:=by
 rcases g with ⟨kvs,k,e,ey,l⟩ | ⟨kvs,k,b,e,ey,eb,l⟩
 ·subst ey
  obtain ⟨z,hd,vs,rel,dd⟩:=zagg I.hok e
  refine call_meetsIn PySem.F.slot_dict_get dd.typeIs PySem.F.entry_dict_get (PySem.F.args_dict_get_3 _ _ _) (meets_dict_get_default (mixKind X.prog X.w) a (zahv ry) hd r) ⟨_,dd.mapOf,h _ _ (I.tok _) ?_⟩
  rw [l]
  exact (rel.val k).getD rd
 ·subst ey
  cases (show u=Value.ref b from ry)
  obtain ⟨z,hd,xs,rel,dd⟩:=zahw I.hok e
  refine call_meetsIn PySem.F.slot_dict_get dd.typeIs PySem.F.entry_dict_get (PySem.F.args_dict_get_3 _ _ _) (meetsH_dict_get_default (tupleKind (mixKind X.prog X.w)) a b hd r) ⟨tupleKind_room_in1 hu,k,xs,zafx I.hok eb,dd,h _ _ (I.tok _) ?_⟩
  rw [l]
  exact (rel.val k).getD rd
end
def tDGet2 (td ty tx:TE):TE:=fun σ H Q=>td σ H fun x H1=>∃ a,x=.ref a∧IsD H1 a∧ty σ H1 fun y H2=>tx σ H2 fun z H3=>∃ o,DGet H3 a y o∧Q (o.getD z) H3
section
variable {X:Cx}{o e f:Expr}{apos cpos:Pos}{td ty tx:TE}
theorem zamv (hu:X.A.units + 1 < cLine) (ho:PE X o td) (he:PE X e ty) (hf:PE X f tx) (m:M2 X o "get" apos e f cpos):PE X (.Call (.Attribute o "get" apos) [e,f] [] cpos) (tDGet2 td ty tx):=by
 intro pins s σ H Q I h
 refine wpAny_Call_method m.base m.few m.line PySem.F.plainAttrs_dict PySem.F.slot_dict_get PySem.F.type_dict_get (thn (ho pins s σ H _ I h) fun u s1 ⟨x,H1,I1,rx,a,ex,d,q1⟩=>?_)
 subst ex
 obtain rfl:u=Value.ref a:=rx
 obtain ⟨t1,t2,_⟩:=zaqy I1 d
 refine ⟨t1,t2,?_⟩
 rw [m.trees]
 refine Calls.callWith_builtin rfl (Calls.evalArgs_plain (Calls.spliced_cons (thn (he pins s1 σ H1 _ I1 q1) fun iv s2 ⟨y,H2,I2,ry,q2⟩ =>
  Calls.spliced_cons (thn (hf pins s2 σ H2 _ I2 q2) fun fv s3 ⟨z,H3,I3,rz,ov,g,q3⟩=>Calls.spliced_nil ?_))))
 exact zaqz hu I3 g ry rz fun w' s4 I4 rw'=>⟨_,H3,I4,rw',q3⟩
end
section
variable {X:Cx}
theorem zae3:CallR X (.builtin "len") (fun xs H Q=>∃ a kvs,xs=[V.ref a]∧H a=some (.dK kvs)∧Q (.int kvs.length) H):=by
 intro pins s σ H xs us Q I r h
 obtain ⟨a,kvs,rfl,ha,q⟩:=h
 obtain ⟨u,rfl,ru⟩:=vals1 r
 cases ru
 exact zasn I (.inl ha) fun t s' I'=>⟨.int kvs.length,H,I',⟨t,rfl⟩,q⟩
end
end L2

namespace L2
open PySem PySem.Spec PyProof.Rows
structure DefOk (P:Program) (w:World) (K:PySem.W.Frag) (mg:Str→Option Value) (base:Heap) (CX:CXT) (k:Nat) (x:Str) (ps:List Str) (sp:Sp):Prop where
 ex:∃ (f:Addr) (fd:FuncData),FnOk P w K mg base CX k f fd ps sp∧Binds K fd ps []∧PySem.W.keepIn K (.ref f)=true∧mg x=some (.ref f)
theorem DefOk.mono {P:Program}{w:World}{K:PySem.W.Frag}{mg:Str→Option Value}{base:Heap}{CX:CXT}{j k:Nat}{x:Str}{ps:List Str}{sp:Sp} (D:DefOk P w K mg base CX j x ps sp) (h:j≤k):DefOk P w K mg base CX k x ps sp:=by
 obtain ⟨f,fd,F,b⟩:=D.ex
 exact ⟨f,fd,F.mono h,b⟩
section
variable {X:Cx}{CX:CXT}{k:Nat}{ps:List Str}{sp:Sp}{E:XK}{x:Str}{p pos:Pos}{e:Expr}{es:List Expr}{t:TA}
theorem zamw (D:DefOk X.prog X.w X.K X.mg X.base CX k x ps sp) (hr:Room k X.A) (hg:Gl X x) (hx:Passes CX X E) (ha:PA X (e :: es) t) (hdb:(x == ("__debug__" : Str))=false:=by decide)
  (he:starEach (e :: es) X.env=(false,eval e X.env) :: starEach es X.env:=by rfl) (hpl:(backTo pos (starEach es X.env)).any (·.1)=false:=by rfl) :
  PE X (.Call (.Name x p) (e :: es) [] pos) (tCall sp [] E t):=by
 obtain ⟨f,fd,F,b,kp,m⟩:=D.ex
 exact zaok F hr hg m kp b .nil hx ha hdb he hpl
end
def CDivW (_ j:Int):Prop:=0 < j∧j < 2 ^ 64
theorem zabv {X:Cx}:OpR X (binaryOp .FloorDiv) (rI CDivW fun i j=>.int (i / j)):=opI fun i j _ _ _ _ _ hc q=>by
 have h1:(0:Int) < j:=hc.1
 have h2:j < 2 ^ 64:=hc.2
 have h3:j.natAbs.log2 < 64:=(Nat.log2_lt (by omega)).mpr (by omega)
 exact floordiv_int (by omega) (by rw [Int.fdiv_eq_ediv_of_nonneg i (by omega)]; exact q) (.inl (PyProof.noPylong_of_log2 (by omega)))
def Ch (W:List Addr) (H H':Hp):Prop:=∀ b o,H b=some o→b ∉ W→H' b=some o
theorem Ch.refl (W:List Addr) (H:Hp):Ch W H H:=fun _ _ h _=>h
theorem Ch.trans {W:List Addr}{H H1 H2:Hp} (a:Ch W H H1) (b:Ch W H1 H2):Ch W H H2:=fun c o h n=>b c o (a c o h n) n
theorem Ch.get {W:List Addr}{H H':Hp}{b:Addr}{o:HO} (c:Ch W H H') (h:H b=some o) (n:b ∉ W):H' b=some o:=c b o h n
theorem Ch.mono {W W':List Addr}{H H':Hp} (c:Ch W H H') (h:∀ b∈W,b∈W'):Ch W' H H':=fun b o q n=>c b o q fun z=>n (h b z)
theorem Ch.wk {W:List Addr}{H H':Hp} (c:Ch [] H H'):Ch W H H':=c.mono fun b h=>nomatch h
theorem Ch.new {W:List Addr}{H:Hp}{p:Addr} (h:H p=none) (o:HO):Ch W H (upd H p o):=fun b u q _=>by rw [zaak (zaa8 q h)]; exact q
theorem Ch.put {H:Hp}{p:Addr}{o:HO}:Ch [p] H (upd H p o):=fun b u q n=>by rw [zaak (fun z=>n (by simp [z]))]; exact q
def Scr (K:PySem.W.Frag) (H:Hp) (a:Addr) (ns:List Int):Prop :=
 ns.length≤63∧((∃ o,H a=some (.frz o (.lst (ns.map V.int)))) ∨
  ∃ (o:Obj) (its:Array Value) (n:Nat),K.lookup a=some o∧o.cls=.type "list" ∧ o.dict=none∧o.data=.seq its n∧its.size≤sizeLine∧Vals (ns.map V.int) its.toList)
theorem Scr.sq {K:PySem.W.Frag}{H:Hp}{a:Addr}{ns:List Int} (S:Scr K H a ns):SqL K H a (ns.map V.int):=by
 rcases S.2 with ⟨o,h⟩ | h
 ·exact .inl (.inr ⟨o,h⟩)
 ·exact .inr h
theorem Scr.ch {K:PySem.W.Frag}{H H':Hp}{a b:Addr}{ns:List Int}{xs:List V} (S:Scr K H a ns) (hb:H b=some (.lst xs)) (c:Ch [b] H H'):Scr K H' a ns:=by
 refine ⟨S.1,?_⟩
 rcases S.2 with ⟨o,h⟩ | h
 ·exact .inl ⟨o,c.get h (by
   intro z
   have e:a=b:=by simpa using z
   subst e
   rw [h] at hb
   cases hb)⟩
 ·exact .inr h
theorem Scr.same {K:PySem.W.Frag}{H H':Hp}{a:Addr}{ns:List Int} (S:Scr K H a ns) (c:Ch [] H H'):Scr K H' a ns:=by
 refine ⟨S.1,?_⟩
 rcases S.2 with ⟨o,h⟩ | h
 ·exact .inl ⟨o,c.get h (by simp)⟩
 ·exact .inr h
theorem Scr.of {K:PySem.W.Frag}{H:Hp}{a:Addr}{ns:List Int} (h:SqL K H a (ns.map V.int)) (hl:ns.length≤63) (hO:Only H):Scr K H a ns:=by
 refine ⟨hl,?_⟩
 rcases h with (h | ⟨o,h⟩) | h
 ·rcases hO a with z | ⟨o,xs,z⟩
  ·rw [h] at z; cases z
  ·rw [h] at z; cases z
 ·exact .inl ⟨o,h⟩
 ·exact .inr h
theorem zacy {H:Hp}{p q:Addr}{o u:HO} (hq:H q=none) (h:H p=some o):upd H q u p=some o:=by rw [zaak (zaa8 h hq)]; exact h
theorem zabc {H:Hp}{p q:Addr}{o u:HO} (n:p≠q) (h:H p=some o):upd H q u p=some o:=by rw [zaak n]; exact h
structure Loop (J:It) (g:TG) (tb:TS) (D:Ends) (σ:St) (H:Hp):Prop where
 ex:∃ W:Nat→Nat→St→Hp→Prop,(∃ m,W 0 m σ H)∧∀ i m σ H,W i m σ H →
  (J.stop i H∧D.nx σ H)∨(J.go i H∧∃ N:St→Hp→Prop,(∀ σ' H',N σ' H'→∃ m',m' < m∧W (i + 1) m' σ' H')∧∀ x H',J.yld i H x H'→g x σ H' fun σ2 H2=>tb { D with nx:=N,ct:=N,bk:=D.nx } σ2 H2)
def tLoop (wi:TI) (g:TG) (tb:TS):TS:=fun D σ H=>wi σ H fun J H1=>Loop J g tb D σ H1
theorem zaow {X:Cx}{tg iter:Expr}{body:List Stmt}{wi:TI}{g:TG}{tb:TS}{pos:Pos} (hp:PassesOwn (model X.prog X.w) X.A X.env X.xe) (hc:X.calm=true) (hi:PI X tg iter wi) (hg:PG X tg g) (hb:PSs X body tb)
  (hs:∀ x,foldedSetIterable iter X.env x=pure x:=by intro _; rfl):PS X (.For tg iter body [] pos) (tLoop wi g tb):=by
 have hi':PI X tg iter (fun σ H R=>∃ R0:It→Hp→Prop,wi σ H R0∧∀ J H1,R0 J H1→R J H1):=by
  intro pins s σ H R I ⟨R0,h,m⟩
  refine thn (hi pins s σ H _ I h) fun v s1 h1=>thn h1 fun itv s2 h2=>?_
  obtain ⟨it,fp,tn,J,H2,e,I2,T,st2,f2,r⟩:=h2
  exact ⟨it,fp,tn,J,H2,e,I2,T,st2,f2,m _ _ r⟩
 intro pins s σ H D I h
 exact zaqj hp hc hi' hg hb hs pins s σ H D I ⟨_,h,fun J H1 l=>l.ex⟩
theorem zahd {K:PySem.W.Frag}{a:Addr}{xs:List V}{g:TG}{tb:TS}{D:Ends}{σ:St}{H:Hp} (Pv:Nat→St→Hp→Prop) (h0:Pv 0 σ H) (hl:∀ i σ H,i≤xs.length→Pv i σ H→SqL K H a xs)
  (hs:∀ i x σ H,xs[i]?=some x→Pv i σ H→g x σ H fun σ2 H2=>tb { D with nx:=Pv (i + 1),ct:=Pv (i + 1),bk:=D.nx } σ2 H2) (hd:∀ σ H,Pv xs.length σ H→D.nx σ H):Loop (Itl K a) g tb D σ H:=⟨zamg Pv h0 hl hs hd⟩
theorem zais {K:PySem.W.Frag}{a:Addr}{xs:List V}{g:TG}{tb:TS}{D:Ends}{σ:St}{H:Hp} (Pv:Nat→St→Hp→Prop) (h0:Pv 0 σ H) (hl:∀ i σ H,i≤xs.length→Pv i σ H→SqT K H a xs)
  (hs:∀ i x σ H,xs[i]?=some x→Pv i σ H→g x σ H fun σ2 H2=>tb { D with nx:=Pv (i + 1),ct:=Pv (i + 1),bk:=D.nx } σ2 H2) (hd:∀ σ H,Pv xs.length σ H→D.nx σ H):Loop (Itt K a) g tb D σ H:=⟨zaod Pv h0 hl hs hd⟩
theorem zadg {lo:Int}{n:Nat}{g:TG}{tb:TS}{D:Ends}{σ:St}{H:Hp} (Pv:Nat→St→Hp→Prop) (h0:Pv 0 σ H)
  (hs:∀ i σ H,i < n→Pv i σ H→g (.int (lo + i)) σ H fun σ2 H2=>tb { D with nx:=Pv (i + 1),ct:=Pv (i + 1),bk:=D.nx } σ2 H2) (hd:∀ σ H,Pv n σ H→D.nx σ H):Loop (Itr lo n) g tb D σ H:=⟨zaj4 Pv h0 hs hd⟩
structure Cut (t u:TS) (D:Ends) (σ:St) (H:Hp):Prop where
 ex:∃ P:St→Hp→Prop,t { D with nx:=P } σ H∧∀ σ' H',P σ' H'→u D σ' H'
def tCut (t u:TS):TS:=fun D σ H=>Cut t u D σ H
theorem zaox {X:Cx}{st:Stmt}{rest:List Stmt}{t u:TS} (h1:PS X st t) (h2:PSs X rest u):PSs X (st :: rest) (tCut t u):=by
 intro pins s σ H D I h
 obtain ⟨P,a,b⟩:=h.ex
 have h1':PS X st (fun D' σ' H'=>∃ P:St→Hp→Prop,t { D' with nx:=P } σ' H'∧∀ σ2 H2,P σ2 H2→D'.nx σ2 H2):=by
  intro pins s σ H D I ⟨P,a,b⟩
  refine thn (h1 pins s σ H _ I a) fun f s' q=>?_
  cases f with
  | next=>obtain ⟨σ7,H7,I7,n7⟩:=q; exact ⟨σ7,H7,I7,b _ _ n7⟩
  | cont=>exact q
  | brk=>exact q
  | ret v=>exact q
 exact zaio h1' h2 pins s σ H D I ⟨P,a,b⟩
theorem zabq {t u:TS}{D:Ends}{σ:St}{H:Hp} (P:St→Hp→Prop) (h1:t { D with nx:=P } σ H) (h2:∀ σ' H',P σ' H'→u D σ' H'):Cut t u D σ H:=⟨P,h1,h2⟩
theorem zait {ns:List Int}{i:Int} (h0:0≤i) (h1:i < (ns.length:Int)):∃ n:Int,atI (ns.map V.int) i=some (.int n):=by
 have hk:i.toNat < ns.length:=by omega
 have ek:i=((i.toNat:Nat):Int):=by omega
 have q:atI (ns.map V.int) ((i.toNat:Nat):Int)=some (.int ns[i.toNat]):=zaex (by rw [List.getElem?_map,List.getElem?_eq_getElem hk]; rfl)
 rw [← ek] at q
 exact ⟨_,q⟩
end L2

namespace L2
open PySem PySem.Spec PyProof.Rows
structure Atx {α:Type} (xs:List α) (i:Int) (R:α→Prop):Prop where
 ex:∃ v,atI xs i=some v∧R v
theorem Atx.of {α:Type}{xs:List α}{i:Int}{v:α}{R:α→Prop} (h:atI xs i=some v) (r:R v):Atx xs i R:=⟨v,h,r⟩
theorem zamx {α:Type}{xs:List α}{i:Int} (h0:0≤i) (h1:i < (xs.length:Int)):∃ h:i.toNat < xs.length,atI xs i=some xs[i.toNat]:=by
 have hk:i.toNat < xs.length:=by omega
 have ek:i=((i.toNat:Nat):Int):=by omega
 have q:atI xs ((i.toNat:Nat):Int)=some xs[i.toNat]:=zaex (List.getElem?_eq_getElem hk)
 rw [← ek] at q
 exact ⟨hk,q⟩
theorem Atx.any {α:Type}{xs:List α}{i:Int}{R:α→Prop} (h0:0≤i) (h1:i < (xs.length:Int)) (h:∀ v,v∈xs→atI xs i=some v→R v):Atx xs i R:=by
 obtain ⟨hk,q⟩:=zamx h0 h1
 exact ⟨_,q,h _ (List.getElem_mem hk) q⟩
section
variable {X:Cx}
theorem IxR.imp {r r':R2} (h:IxR X r) (f:∀ x y H Q,r' x y H Q→r x y H Q):IxR X r':=fun value slice pins s σ H x y v u Q I rx ry q hs=>h value slice pins s σ H x y v u Q I rx ry (f _ _ _ _ q) hs
def aIxL (K:PySem.W.Frag):R2:=fun x y H Q=>∃ p xs i,x=.ref p∧y=.int i∧SqL K H p xs∧Atx xs i fun v=>Q v H
def aIxT (K:PySem.W.Frag):R2:=fun x y H Q=>∃ p xs i,x=.ref p∧y=.int i∧SqT K H p xs∧Atx xs i fun v=>Q v H
def aIxS:R2:=fun x y H Q=>∃ z i,x=.str z∧y=.int i∧z.length≤sizeLine∧Atx z.cps.toList i fun c=>Q (.str ⟨#[c]⟩) H
theorem zaav:IxR X (aIxL X.K):=zaoq.imp fun x y H Q ⟨p,xs,i,e1,e2,h,a⟩=>let ⟨v,hv,q⟩:=a.ex; ⟨p,xs,i,v,e1,e2,h,hv,q⟩
theorem zaaj:IxR X (aIxT X.K):=zaqt.imp fun x y H Q ⟨p,xs,i,e1,e2,h,a⟩=>let ⟨v,hv,q⟩:=a.ex; ⟨p,xs,i,v,e1,e2,h,hv,q⟩
theorem zaoy:IxR X aIxS:=zaqu.imp fun x y H Q ⟨z,i,e1,e2,h,a⟩=>let ⟨v,hv,q⟩:=a.ex; ⟨z,i,v,e1,e2,h,hv,q⟩
end
end L2
namespace L2
open PySem
section
variable {es:List Expr}{env:Env}
theorem zaae {x pos}:starEach (.Name x pos :: es) env=(false,eval (.Name x pos) env) :: starEach es env:=rfl
theorem zaah {c k pos}:starEach (.Constant c k pos :: es) env=(false,eval (.Constant c k pos) env) :: starEach es env:=rfl
theorem zaa2 {a o b pos}:starEach (.BinOp a o b pos :: es) env=(false,eval (.BinOp a o b pos) env) :: starEach es env:=rfl
theorem zafy {a o pos}:starEach (.UnaryOp o a pos :: es) env=(false,eval (.UnaryOp o a pos) env) :: starEach es env:=rfl
theorem zabt {a o b pos}:starEach (.Call a o b pos :: es) env=(false,eval (.Call a o b pos) env) :: starEach es env:=rfl
theorem zaa9 {a k pos}:starEach (.Tuple a k pos :: es) env=(false,eval (.Tuple a k pos) env) :: starEach es env:=rfl
theorem zako {a pos}:starEach (.List a pos :: es) env=(false,eval (.List a pos) env) :: starEach es env:=rfl
theorem zaal {a b pos}:starEach (.Subscript a b pos :: es) env=(false,eval (.Subscript a b pos) env) :: starEach es env:=rfl
theorem zach {a b c pos}:starEach (.Compare a b c pos :: es) env=(false,eval (.Compare a b c pos) env) :: starEach es env:=rfl
theorem zaen {a b c pos}:starEach (.IfExp a b c pos :: es) env=(false,eval (.IfExp a b c pos) env) :: starEach es env:=rfl
theorem zabd {a b pos}:starEach (.Attribute a b pos :: es) env=(false,eval (.Attribute a b pos) env) :: starEach es env:=rfl
theorem zab3 {a b c pos}:starEach (.ListComp a b c pos :: es) env=(false,eval (.ListComp a b c pos) env) :: starEach es env:=rfl
end
end L2
namespace L2
open PySem
theorem Ch.own {W:List Addr}{H H':Hp}{p:Addr}{o:HO} (n:H p=none) (c:Ch W H H'):Ch W H (upd H' p o):=fun b u h k=>by
 rw [zaak (zaa8 h n)]
 exact c b u h k
theorem zamy (x:V) (ys:List V):¬ (HT.sIx (x :: ys).length 0 (some 1)=0∧HT.sIx (x :: ys).length (x :: ys).length none=(x :: ys).length):=by
 intro h
 have e:HT.sIx (x :: ys).length 0 (some 1)=1:=by
  have z:=HT.sIx_nat (x :: ys).length 0 1
  rw [List.length_cons] at z ⊢
  refine z.trans ?_
  omega
 rw [e] at h
 exact absurd h.1 (by decide)
end L2
namespace L2
open PySem
theorem Atx.head {α:Type}{x:α}{xs:List α}{R:α→Prop} (r:R x):Atx (x :: xs) 0 R:=⟨x,zaex (j:=0) rfl,r⟩
end L2

namespace L2
open PySem PySem.Spec PyProof.Rows
inductive SK where
 | list | tuple
def SIt (k:SK) (h:Heap) (it l:Addr) (i:Nat):Prop:=match k with
 | .list=>h.IsListIter it l i
 | .tuple=>h.IsTupleIter it l i
def SIs (k:SK) (h:Heap) (l:Addr) (items:Array Value):Prop:=match k with
 | .list=>h.IsList l items
 | .tuple=>h.IsTuple l items
def Sq (k:SK) (K:PySem.W.Frag) (H:Hp) (a:Addr) (xs:List V):Prop:=match k with
 | .list=>SqL K H a xs
 | .tuple=>SqT K H a xs
theorem SIt.at {k:SK}{h h':Heap}{a l i} (x:SIt k h a l i) (e:∀ o,h.get? a=some o→h'.get? a=some o):SIt k h' a l i:=by
 cases k with
 | list=>exact Heap.IsListIter.at x e
 | tuple=>exact Heap.IsTupleIter.at x e
theorem SIt.obj {k:SK}{h:Heap}{a l i} (x:SIt k h a l i):∃ o,h.get? a=some o∧∀ v,o.data≠.cell v:=by
 cases k with
 | list=>obtain ⟨o,e,c,d⟩:=(show h.IsListIter a l i from x); exact ⟨o,e,fun v z=>by rw [d] at z; cases z⟩
 | tuple=>obtain ⟨o,e,c,d⟩:=(show h.IsTupleIter a l i from x); exact ⟨o,e,fun v z=>by rw [d] at z; cases z⟩
theorem SIs.at {k:SK}{h h':Heap}{a items} (x:SIs k h a items) (e:∀ o,h.get? a=some o→h'.get? a=some o):SIs k h' a items:=by
 cases k with
 | list=>exact Heap.IsList.at x e
 | tuple=>obtain ⟨o,ho,r⟩:=(show h.IsTuple a items from x); exact ⟨o,e _ ho,r⟩
theorem SIs.lt {k:SK}{h:Heap}{a items} (x:SIs k h a items):a < h.objs.size:=by
 cases k with
 | list=>obtain ⟨_,e,_⟩:=(show h.IsList a items from x); exact Heap.lt_size e
 | tuple=>obtain ⟨_,e,_⟩:=(show h.IsTuple a items from x); exact Heap.lt_size e
section
variable {prog:Program}{w:World}{A:Around}{E:Value→Shared→Prop}{s:Shared}
theorem zad3 {it l:Addr}{i:Nat}{items}{x:Value}{Q:Value→Shared→Prop} (hit:s.heap.IsTupleIter it l i)
  (hl:s.heap.IsTuple l items) (hx:items[i]?=some x)
  (hQ:∀ h',h'.IsTupleIter it l (i + 1)→Heap.SameBut it s.heap h'→Q x { s with heap:=h' }) :
  wpAny (model prog w) A (Builtin.SmallTypes.nextOf (.ref it)) Q E s:=by
 obtain ⟨o,ho,hc,hd⟩:=id hit
 obtain ⟨ol,hol,_,nl,hdl⟩:=hl
 unfold Builtin.SmallTypes.nextOf
 refine wpAny_bind (wpAny_callSpecial?_slot (name:=Str.ofString "__next__") hit.typeIs F.slot_tuple_iterator_next
  (wpAny_call_entry F.slot_tuple_iterator_next hit.typeIs F.entry_tuple_iterator_next ?_ (F.args_tuple_iterator_next_1 _)))
 show wpAny _ _ (field (.ref it) 0 >>= _) _ _ s
 refine wpAny_bind (wpAny_field ho hd (x:=.ref l) rfl ?_)
 show wpAny _ _ (if (Value.ref l == Value.none)=true then _ else _) _ _ s
 rw [if_neg (show ¬ ((Value.ref l == Value.none)=true) from Bool.false_ne_true)]
 show wpAny _ _ (field (.ref it) 1 >>= _) _ _ s
 refine wpAny_bind (wpAny_field ho hd (x:=.int i 0) rfl ?_)
 show wpAny _ _ (seqItems? (.ref l) >>= _) _ _ s
 refine wpAny_bind (wpAny_seqItems hol hdl ?_)
 simp only [Int.toNat_natCast,hx]
 refine wpAny_bind (wpAny_setField ho hd (by simp) (wpAny_pure ⟨x,rfl,wpAny_pure (hQ _ ?_ (Heap.SameBut.update ..))⟩))
 exact ⟨_,Heap.get?_update_self _ ho (Obj.isFreed_of_fields (Obj.data_mapFields hd _)),(Obj.cls_mapFields ..).trans hc,by
  rw [Obj.data_mapFields hd]; simp [rawInt]⟩
theorem zaej {it l:Addr}{i:Nat}{items}{Q:Value→Shared→Prop} (hh:A.handled=none)
  (hit:s.heap.IsTupleIter it l i) (hl:s.heap.IsTuple l items) (hx:items[i]?=none)
  (hE:∀ h' e,Heap.ExtBut it s.heap h'→(∃ o,h'.get? e=some o∧o.cls=.type "StopIteration")→E (.ref e) { s with heap:=h' }) :
  wpAny (model prog w) A (Builtin.SmallTypes.nextOf (.ref it)) Q E s:=by
 obtain ⟨o,ho,hc,hd⟩:=id hit
 obtain ⟨ol,hol,_,nl,hdl⟩:=hl
 unfold Builtin.SmallTypes.nextOf
 refine wpAny_bind (wpAny_callSpecial?_slot (name:=Str.ofString "__next__") hit.typeIs F.slot_tuple_iterator_next
  (wpAny_call_entry F.slot_tuple_iterator_next hit.typeIs F.entry_tuple_iterator_next ?_ (F.args_tuple_iterator_next_1 _)))
 show wpAny _ _ (field (.ref it) 0 >>= _) _ _ s
 refine wpAny_bind (wpAny_field ho hd (x:=.ref l) rfl ?_)
 show wpAny _ _ (if (Value.ref l == Value.none)=true then _ else _) _ _ s
 rw [if_neg (show ¬ ((Value.ref l == Value.none)=true) from Bool.false_ne_true)]
 show wpAny _ _ (field (.ref it) 1 >>= _) _ _ s
 refine wpAny_bind (wpAny_field ho hd (x:=.int i 0) rfl ?_)
 show wpAny _ _ (seqItems? (.ref l) >>= _) _ _ s
 refine wpAny_bind (wpAny_seqItems hol hdl ?_)
 simp only [Int.toNat_natCast,hx]
 refine wpAny_bind (wpAny_rule (wpAny_bind (wpAny_setField ho hd (by simp) ?_)))
 show wpAny _ _ (newExc (.type "StopIteration") [] >>= _) _ _ _
 refine wpAny_bind ?_
 simp only [newExc,newTuple]
 refine wpAny_bind (wpAny_newObj_type ?_ (by size_fits))
 refine wpAny_bind (m:=firstArgMember _ _) (wpAny_of_eq (a:=Value.none) (by first | rfl | (simp only [firstArgMember]; rfl)) ?_)
 refine wpAny_newObj_type ?_ (by size_fits)
 simp only [raiseNew]
 refine wpAny_bind (wpAny_handled ?_)
 first | rw [show A.in1.handled=none from hh] | rw [hh]
 refine wpAny_bind (wpAny_pure (wpAny_throw ?_))
 exact hE _ _ (((Heap.SameBut.update ..).extBut.push _).push _) ⟨_,Heap.get?_push_size _ rfl,rfl⟩
theorem zac3 {k:SK}{it l:Addr}{i:Nat}{items}{x:Value}{Q:Value→Shared→Prop} (hit:SIt k s.heap it l i) (hl:SIs k s.heap l items) (hx:items[i]?=some x)
  (hQ:∀ h',SIt k h' it l (i + 1)→Heap.SameBut it s.heap h'→Q x { s with heap:=h' }):wpAny (model prog w) A (Builtin.SmallTypes.nextOf (.ref it)) Q E s:=by
 cases k with
 | list=>exact wpAny_nextOf_list_item hit hl hx hQ
 | tuple=>exact zad3 hit hl hx hQ
theorem zad4 {k:SK}{it l:Addr}{i:Nat}{items}{Q:Value→Shared→Prop} (hh:A.handled=none) (hit:SIt k s.heap it l i) (hl:SIs k s.heap l items) (hx:items[i]?=none)
  (hE:∀ h' e,Heap.ExtBut it s.heap h'→(∃ o,h'.get? e=some o∧o.cls=.type "StopIteration")→E (.ref e) { s with heap:=h' }) :
  wpAny (model prog w) A (Builtin.SmallTypes.nextOf (.ref it)) Q E s:=by
 cases k with
 | list=>exact wpAny_nextOf_list_end hh hit hl hx hE
 | tuple=>exact zaej hh hit hl hx hE
theorem SIt.ext {k:SK}{h h':Heap}{a b l i} (x:SIt k h a l i) (hs:Heap.ExtBut b h h') (hab:a≠b):SIt k h' a l i:=x.at fun o e=>hs _ _ hab e
theorem SIs.ext {k:SK}{h h':Heap}{a b items} (x:SIs k h a items) (hs:Heap.ExtBut b h h') (hab:a≠b):SIs k h' a items:=x.at fun o e=>hs _ _ hab e
theorem zakp {k1 k2:SK}{z TI TO i1 i2 l1 l2:Addr}{n1 n2:Nat}{xs ys:Array Value}{x y a b:Value}{Q:Value→Shared→Prop} (D:ZipApart z TI TO i1 i2 l1 l2)
  (hz:IsZip s.heap z TI TO .none) (hTI:IsPair s.heap TI (.ref i1) (.ref i2)) (hTO:IsPair s.heap TO a b)
  (h1:SIt k1 s.heap i1 l1 n1) (h2:SIt k2 s.heap i2 l2 n2) (hl1:SIs k1 s.heap l1 xs) (hl2:SIs k2 s.heap l2 ys) (hx:xs[n1]?=some x) (hy:ys[n2]?=some y)
  (hQ:∀ h',IsZip h' z TI TO (rawInt s.heap.objs.size)→IsPair h' TO x y→SIt k1 h' i1 l1 (n1 + 1)→SIt k2 h' i2 l2 (n2 + 1)→IsPair h' s.heap.objs.size x y→h'.objs.size=s.heap.objs.size + 1 →
   (∀ c o,c≠z→c≠TO→c≠i1→c≠i2→s.heap.get? c=some o→h'.get? c=some o)→Q (.ref s.heap.objs.size) { s with heap:=h' }) :
  wpAny (model prog w) A (Builtin.«zip.__next__» ⟨[.ref z],[]⟩) (fun fin s'=>∃ v,fin=.done (.ret v)∧Q v s') E s:=by
 show wpAny _ _ (field (.ref z) 2 >>= _) _ _ _
 refine wpAny_bind (wpAny_field hz rfl (x:=.bool false) rfl ?_)
 show wpAny _ _ (field (.ref z) 3 >>= _) _ _ _
 refine wpAny_bind (wpAny_field hz rfl (x:=.ref TI) rfl ?_)
 refine wpAny_bind (wpAny_seqItems hTI rfl ?_)
 show wpAny _ _ (Builtin.SmallTypes.ownedTupleIsFree (.ref z) >>= _) _ _ _
 refine wpAny_bind ?_
 unfold Builtin.SmallTypes.ownedTupleIsFree
 refine wpAny_bind (wpAny_field hz rfl (x:=.none) rfl (wpAny_pure ?_))
 simp only [if_true]
 refine wpAny_bind (wpAny_rule ?_)
 refine wpAny_bind (wpAny_field hz rfl (x:=.ref TO) rfl ?_)
 refine wpAny_bind (wpAny_setField_rec hz (by simp) fun h₁ hz₁ hs₁=>?_)
 replace hz₁:IsZip h₁ z TI TO .ellipsis:=hz₁
 refine wpAny_bind ?_
 simp only [List.zipIdx_cons,List.zipIdx_nil,List.forIn_cons,List.forIn_nil]
 refine wpAny_bind (wpAny_bind (wpAny_onRaise ?_))
 show wpAny _ _ (Builtin.SmallTypes.nextOf (.ref i1) >>= _) _ _ _
 refine wpAny_bind (zac3 (h1.ext hs₁.extBut D.i1z) (hl1.ext hs₁.extBut D.l1z) hx fun h₂ h1₂ hs₂=>wpAny_pure ?_)
 have hTO₂:IsPair h₂ TO a b:=hs₂.extBut _ _ D.TOi1 (hs₁.extBut _ _ D.TOz hTO)
 refine wpAny_bind (wpAny_seqItems hTO₂ rfl ?_)
 refine wpAny_bind (wpAny_updateSeq_pair hTO₂ fun h₃ hTO₃ hs₃=>?_)
 replace hTO₃:IsPair h₃ TO x b:=hTO₃
 refine wpAny_bind (wpAny_letGo (wpAny_pure ?_))
 refine wpAny_bind (wpAny_bind (wpAny_onRaise ?_))
 show wpAny _ _ (Builtin.SmallTypes.nextOf (.ref i2) >>= _) _ _ _
 refine wpAny_bind (zac3 (((h2.ext hs₁.extBut D.i2z).ext hs₂.extBut D.i12.symm).ext hs₃.extBut D.TOi2.symm)
  (((hl2.ext hs₁.extBut D.l2z).ext hs₂.extBut D.l2i1).ext hs₃.extBut D.l2TO) hy fun h₄ h2₄ hs₄=>wpAny_pure ?_)
 have hTO₄:IsPair h₄ TO x b:=hs₄.extBut _ _ D.TOi2 hTO₃
 refine wpAny_bind (wpAny_seqItems hTO₄ rfl ?_)
 refine wpAny_bind (wpAny_updateSeq_pair hTO₄ fun h₅ hTO₅ hs₅=>?_)
 replace hTO₅:IsPair h₅ TO x y:=hTO₅
 refine wpAny_bind (wpAny_letGo (wpAny_pure (wpAny_pure ?_)))
 refine wpAny_bind (wpAny_seqItems hTO₅ rfl ?_)
 refine wpAny_bind (wpAny_newTuple ?_)
 have hsz:h₅.objs.size=s.heap.objs.size:=by rw [hs₅.1,hs₄.1,hs₃.1,hs₂.1,hs₁.1]
 have hz₅:IsZip h₅ z TI TO .ellipsis:=hs₅.extBut _ _ D.TOz.symm (hs₄.extBut _ _ D.i2z.symm (hs₃.extBut _ _ D.TOz.symm (hs₂.extBut _ _ D.i1z.symm hz₁)))
 have hk₅:∀ c o,c≠z→c≠TO→c≠i1→c≠i2→s.heap.get? c=some o→h₅.get? c=some o:=fun c o c1 c2 c3 c4 e =>
  hs₅.extBut _ _ c2 (hs₄.extBut _ _ c4 (hs₃.extBut _ _ c2 (hs₂.extBut _ _ c3 (hs₁.extBut _ _ c1 e))))
 have h1₅:SIt k1 h₅ i1 l1 (n1 + 1):=((h1₂.ext hs₃.extBut D.TOi1.symm).ext hs₄.extBut D.i12).ext hs₅.extBut D.TOi1.symm
 have h2₅:SIt k2 h₅ i2 l2 (n2 + 1):=h2₄.ext hs₅.extBut D.TOi2.symm
 have hzlt:z < h₅.objs.size:=Heap.lt_size hz₅
 show wpAny _ _ (Builtin.SmallTypes.ownedTupleHandOut (.ref z) (.ref h₅.objs.size) >>= _) _ _ _
 refine wpAny_bind ?_
 unfold Builtin.SmallTypes.ownedTupleHandOut
 have hz₆:IsZip (h₅.push { cls:=.type "tuple",data:=.seq #[x,y] }) z TI TO .ellipsis:=Heap.get?_push_of_some _ hz₅
 refine wpAny_bind (wpAny_setField_rec hz₆ (by simp) fun h₇ hz₇ hs₇=>?_)
 replace hz₇:IsZip h₇ z TI TO (rawInt h₅.objs.size):=hz₇
 refine wpAny_setField_rec hz₇ (by simp) fun h₈ hz₈ hs₈=>?_
 replace hz₈:IsZip h₈ z TI TO (rawInt h₅.objs.size):=hz₈
 have up:∀ c o,c≠z→h₅.get? c=some o→h₈.get? c=some o:=fun c o c1 e=>hs₈.extBut _ _ c1 (hs₇.extBut _ _ c1 (Heap.get?_push_of_some _ e))
 have hT₈:IsPair h₈ h₅.objs.size x y:=hs₈.extBut _ _ (Nat.ne_of_gt hzlt) (hs₇.extBut _ _ (Nat.ne_of_gt hzlt) (Heap.get?_push_size _ rfl))
 have hz8:h₈.objs.size=h₅.objs.size + 1:=by rw [hs₈.1,hs₇.1,Heap.size_push]
 rw [hsz] at hz₈ hT₈ hz8
 refine wpAny_pure ⟨_,rfl,?_⟩
 show Q (.ref h₅.objs.size) _
 rw [hsz]
 exact hQ h₈ hz₈ (up _ _ D.TOz hTO₅) (h1₅.at fun o e=>up _ o D.i1z e) (h2₅.at fun o e=>up _ o D.i2z e) hT₈ hz8 fun c o c1 c2 c3 c4 e=>up c o c1 (hk₅ c o c1 c2 c3 c4 e)
theorem zamz {k1 k2:SK}{z TI TO i1 i2 l1 l2:Addr}{n1 n2:Nat}{xs ys:Array Value}{a b:Value}{Q:Fin→Shared→Prop} (hh:A.handled=none) (D:ZipApart z TI TO i1 i2 l1 l2)
  (hz:IsZip s.heap z TI TO .none) (hTI:IsPair s.heap TI (.ref i1) (.ref i2)) (hTO:IsPair s.heap TO a b)
  (h1:SIt k1 s.heap i1 l1 n1) (h2:SIt k2 s.heap i2 l2 n2) (hl1:SIs k1 s.heap l1 xs) (hl2:SIs k2 s.heap l2 ys) (hend:xs[n1]?=none∨ys[n2]?=none)
  (hE:∀ h' e,(∀ c o,c≠z→c≠TO→c≠i1→c≠i2→s.heap.get? c=some o→h'.get? c=some o)→(∃ o,h'.get? e=some o∧o.cls=.type "StopIteration")→E (.ref e) { s with heap:=h' }) :
  wpAny (model prog w) A (Builtin.«zip.__next__» ⟨[.ref z],[]⟩) Q E s:=by
 show wpAny _ _ (field (.ref z) 2 >>= _) _ _ _
 refine wpAny_bind (wpAny_field hz rfl (x:=.bool false) rfl ?_)
 show wpAny _ _ (field (.ref z) 3 >>= _) _ _ _
 refine wpAny_bind (wpAny_field hz rfl (x:=.ref TI) rfl ?_)
 refine wpAny_bind (wpAny_seqItems hTI rfl ?_)
 show wpAny _ _ (Builtin.SmallTypes.ownedTupleIsFree (.ref z) >>= _) _ _ _
 refine wpAny_bind ?_
 unfold Builtin.SmallTypes.ownedTupleIsFree
 refine wpAny_bind (wpAny_field hz rfl (x:=.none) rfl (wpAny_pure ?_))
 simp only [if_true]
 refine wpAny_bind (wpAny_rule ?_)
 refine wpAny_bind (wpAny_field hz rfl (x:=.ref TO) rfl ?_)
 refine wpAny_bind (wpAny_setField_rec hz (by simp) fun h₁ hz₁ hs₁=>?_)
 replace hz₁:IsZip h₁ z TI TO .ellipsis:=hz₁
 refine wpAny_bind ?_
 simp only [List.zipIdx_cons,List.zipIdx_nil,List.forIn_cons,List.forIn_nil]
 refine wpAny_bind (wpAny_bind (wpAny_onRaise ?_))
 show wpAny _ _ (Builtin.SmallTypes.nextOf (.ref i1) >>= _) _ _ _
 cases hx:xs[n1]? with
 | none =>
  refine wpAny_bind (zad4 hh (h1.ext hs₁.extBut D.i1z) (hl1.ext hs₁.extBut D.l1z) hx fun h₂ e hs₂ he=>?_)
  obtain ⟨oe,hoe,hce⟩:=he
  have hz₂:IsZip h₂ z TI TO .ellipsis:=hs₂ _ _ D.i1z.symm hz₁
  have hez:e≠z:=fun x=>by subst x; rw [hz₂] at hoe; cases hoe; simp at hce
  refine wpAny_setField_rec hz₂ (by simp) fun h₃ _ hs₃=>hE h₃ e (fun c o c1 _ c3 _ x=>hs₃.extBut _ _ c1 (hs₂ _ _ c3 (hs₁.extBut _ _ c1 x))) ⟨oe,hs₃.extBut _ _ hez hoe,hce⟩
 | some x =>
  have hy:ys[n2]?=none:=by rcases hend with h | h; rw [hx] at h; cases h; exact h
  refine wpAny_bind (zac3 (h1.ext hs₁.extBut D.i1z) (hl1.ext hs₁.extBut D.l1z) hx fun h₂ h1₂ hs₂=>wpAny_pure ?_)
  have hTO₂:IsPair h₂ TO a b:=hs₂.extBut _ _ D.TOi1 (hs₁.extBut _ _ D.TOz hTO)
  refine wpAny_bind (wpAny_seqItems hTO₂ rfl ?_)
  refine wpAny_bind (wpAny_updateSeq_pair hTO₂ fun h₃ hTO₃ hs₃=>?_)
  refine wpAny_bind (wpAny_letGo (wpAny_pure ?_))
  refine wpAny_bind (wpAny_bind (wpAny_onRaise ?_))
  show wpAny _ _ (Builtin.SmallTypes.nextOf (.ref i2) >>= _) _ _ _
  refine wpAny_bind (zad4 hh (((h2.ext hs₁.extBut D.i2z).ext hs₂.extBut D.i12.symm).ext hs₃.extBut D.TOi2.symm)
   (((hl2.ext hs₁.extBut D.l2z).ext hs₂.extBut D.l2i1).ext hs₃.extBut D.l2TO) hy fun h₄ e hs₄ he=>?_)
  obtain ⟨oe,hoe,hce⟩:=he
  have hz₄:IsZip h₄ z TI TO .ellipsis:=hs₄ _ _ D.i2z.symm (hs₃.extBut _ _ D.TOz.symm (hs₂.extBut _ _ D.i1z.symm hz₁))
  have hez:e≠z:=fun x=>by subst x; rw [hz₄] at hoe; cases hoe; simp at hce
  refine wpAny_setField_rec hz₄ (by simp) fun h₅ _ hs₅=>hE h₅ e (fun c o c1 c2 c3 c4 x=>hs₅.extBut _ _ c1 (hs₄ _ _ c4 (hs₃.extBut _ _ c2 (hs₂.extBut _ _ c3 (hs₁.extBut _ _ c1 x))))) ⟨oe,hs₅.extBut _ _ hez hoe,hce⟩
end
section
variable {X:Cx}{pins:List (Addr × Obj)}{σ:List (Option V)}{H H':Hp}{s:Shared}{h':Heap}
theorem Inv.turnedL {t':Nat}{its:List Addr} (I:Inv X pins σ H s) (k:∀ b o,b ∉ its→s.heap.get? b=some o→h'.get? b=some o) (hf:∀ b∈its,FpOk X pins H b):Inv X pins σ H { s with heap:=h',toks:=t' }:=by
 have nit:∀ b u,H b=some u→b ∉ its:=fun b u e z=>by rw [(hf b z).1] at e; cases e
 refine I.step (g':=s.gens) (d':=s.drawn) (ch:=its) (fun b hb=>?_) (fun b o _ _ hc e _=>k b o hc e) (fun b o _ _ hc e _=>⟨o.slots,k b o hc e⟩) (fun _ _ _ _ n=>n)
  (fun b o hc e=>⟨o,k b o hc e⟩) (fun _ _ e=>e) (fun _ _ _ e=>e) (fun b ps e=>⟨#[],by rw [e]; simp⟩) (fun m hm=>?_) (fun b u e=>?_) I.bare
 ·obtain ⟨f0,f1,f2,f3,f4,f5⟩:=hf b hb
  exact ⟨f3,f1,f4,f5⟩
 ·obtain ⟨o,es,ep,ho,r⟩:=hm
  exact ⟨o,es,ep,k _ o (fun z=>(hf _ z).2.1 rfl) ho,r⟩
 ·refine (I.hok b u e).stay (fun c v hc q=>k c v ?_ q) (fun _ q=>q) fun _ _ q=>q
  rcases hc with z | z
  ·rw [z]; exact nit b u e
  ·exact nit c _ z
theorem Inv.turnedNew {t':Nat}{its:List Addr}{T:Addr}{o:HO} (I:Inv X pins σ H s) (k:∀ b ob,b ∉ its→s.heap.get? b=some ob→h'.get? b=some ob) (hf:∀ b∈its,FpOk X pins H b)
  (hT:s.heap.objs.size≤T) (new:ObjOk X.prog X.w (upd H T o) h' T o):Inv X pins σ (upd H T o) { s with heap:=h',toks:=t' }:=by
 have nit:∀ b u,H b=some u→b ∉ its:=fun b u e z=>by rw [(hf b z).1] at e; cases e
 have hn:H T=none:=I.hok.fresh hT
 have neT:∀ b ob,s.heap.get? b=some ob→b≠T:=fun b ob e=>Nat.ne_of_lt (Nat.lt_of_lt_of_le (Heap.lt_size e) hT)
 have up:∀ b u,H b=some u→upd H T o b=some u:=fun b u e=>by rw [zaak (zaa8 e hn)]; exact e
 refine I.step (g':=s.gens) (d':=s.drawn) (ch:=its) (fun b hb=>?_) (fun b ob _ _ hc e _=>k b ob hc e) (fun b ob _ _ hc e _=>⟨ob.slots,k b ob hc e⟩) (fun b ob _ e n=>by rw [zaak (neT b ob e)]; exact n)
  (fun b ob hc e=>⟨ob,k b ob hc e⟩) (fun b _ e=>up b _ e) (fun b _ _ e=>up b _ e) (fun b ps e=>⟨#[],by rw [up b _ e]; simp⟩) (fun m hm=>?_) (fun b u e=>?_) I.bare
 ·obtain ⟨f0,f1,f2,f3,f4,f5⟩:=hf b hb
  exact ⟨f3,f1,f4,f5⟩
 ·obtain ⟨ob,es,ep,ho,r⟩:=hm
  exact ⟨ob,es,ep,k _ ob (fun z=>(hf _ z).2.1 rfl) ho,r⟩
 ·by_cases hb:b=T
  ·subst hb; rw [zaag] at e; cases e; exact new
  ·rw [zaak hb] at e
   refine (I.hok b u e).stay (fun c v hc q=>k c v ?_ q) (fun c q=>up c _ q) fun c xs q=>up c _ q
   rcases hc with z | z
   ·rw [z]; exact nit b u e
   ·exact nit c _ z
end
theorem Inv.sis {X:Cx}{pins:List (Addr × Obj)}{σ:St}{H:Hp}{s:Shared}{k:SK}{a:Addr}{xs:List V} (I:Inv X pins σ H s) (h:Sq k X.K H a xs):∃ its:List Value,Vals xs its∧SIs k s.heap a its.toArray:=by
 cases k with
 | list=>obtain ⟨its,r,p,_⟩:=I.list h; exact ⟨its,r,p.isList⟩
 | tuple=>obtain ⟨its,r,p,_⟩:=I.tuple h; exact ⟨its,r,(show s.heap.IsTuple a its.toArray from p)⟩
theorem Inv.sq_inj {X:Cx}{pins:List (Addr × Obj)}{σ:St}{H:Hp}{s:Shared}{k:SK}{a:Addr}{xs ys:List V} (I:Inv X pins σ H s) (h:Sq k X.K H a xs) (h':Sq k X.K H a ys):xs=ys:=by
 cases k with
 | list=>exact I.list_inj h h'
 | tuple=>exact I.tuple_inj h h'
def Itz (K:PySem.W.Frag) (k1 k2:SK) (a b:Addr):It :=
 ⟨fun i H=>∃ xs ys x y,Sq k1 K H a xs∧Sq k2 K H b ys∧xs[i]?=some x∧ys[i]?=some y,
  fun i H v H'=>∃ T,H T=none∧v=.ref T∧∀ xs ys,Sq k1 K H a xs→Sq k2 K H b ys→∃ x y,xs[i]?=some x∧ys[i]?=some y∧H'=upd H T (.tup [x,y]),
  fun i H=>∃ xs ys,Sq k1 K H a xs∧Sq k2 K H b ys∧(xs.length≤i∨ys.length≤i)⟩
theorem zam0 {P:Program}{w:World}{K:PySem.W.Frag}{elts:List Expr}{kk:Nat}{tpos:Pos}{k1 k2:SK}{z TI TO i1 i2 a b:Addr} (D:ZipApart z TI TO i1 i2 a b) :
  Turn P w K (.Tuple elts kk tpos) (Itz K k1 k2 a b) [z,TI,TO,i1,i2] z (fun i h=>IsZip h z TI TO .none∧IsPair h TI (.ref i1) (.ref i2)∧(∃ c d,IsPair h TO c d)∧SIt k1 h i1 a i∧SIt k2 h i2 b i) where
 mem:=by simp
 obj:=fun i h st b hb=>by
  obtain ⟨hz,hTI,⟨c,d,hTO⟩,h1,h2⟩:=st
  simp only [List.mem_cons,List.not_mem_nil,or_false] at hb
  rcases hb with rfl | rfl | rfl | rfl | rfl
  ·exact ⟨_,hz,fun v q=>nomatch q⟩
  ·exact ⟨_,hTI,fun v q=>nomatch q⟩
  ·exact ⟨_,hTO,fun v q=>nomatch q⟩
  ·exact h1.obj
  ·exact h2.obj
 keep:=fun i h h' st k=>by
  obtain ⟨hz,hTI,⟨c,d,hTO⟩,h1,h2⟩:=st
  exact ⟨k _ (by simp) _ hz,k _ (by simp) _ hTI,⟨c,d,k _ (by simp) _ hTO⟩,h1.at fun o e=>k _ (by simp) o e,h2.at fun o e=>k _ (by simp) o e⟩
 item:=by
  intro X hP hw hK hc i pins s σ H E I hf st hg
  subst hP hw hK
  obtain ⟨hz,hTI,⟨c,d,hTO⟩,h1,h2⟩:=st
  obtain ⟨xs,ys,x,y,q1,q2,hx,hy⟩:=hg
  obtain ⟨ix,rx,px⟩:=I.sis q1
  obtain ⟨iy,ry,py⟩:=I.sis q2
  obtain ⟨u,hu,ru⟩:=rx.get hx
  obtain ⟨v,hv,rv⟩:=ry.get hy
  have hT:s.TypeIs (.ref z) "zip" := ⟨_,hz,rfl⟩
  unfold pyNext
  refine wpAny_bind (wpAny_attempt (wpAny_callSpecial?_slot (name:=Str.ofString "__next__") hT F.slot_zip_next
   (wpAny_call_entry F.slot_zip_next hT F.entry_zip_next
    (zakp D hz hTI hTO h1 h2 px py (x:=u) (y:=v) (by simpa using hu) (by simpa using hv) fun h' a1 a2 a3 a4 a5 a6 a7=>wpAny_pure ?_) (F.args_zip_next_1 _))))
  refine ⟨_,rfl,wpAny_letOwnedTupleGo_zip (s:={ s with heap:=h' }) a1 fun h'' b1 b2=>?_⟩
  have zlt:z < s.heap.objs.size:=Heap.lt_size hz
  have k2:∀ c o,c ∉ [z,TI,TO,i1,i2]→s.heap.get? c=some o→h''.get? c=some o:=fun c o hc e=>by
   simp only [List.mem_cons,List.not_mem_nil,or_false,not_or] at hc
   exact b2.extBut _ _ hc.1 (a7 c o hc.1 hc.2.2.1 hc.2.2.2.1 hc.2.2.2.2 e)
  have hT2:IsPair h'' s.heap.objs.size u v:=b2.extBut _ _ (Nat.ne_of_gt zlt) a5
  refine ⟨.ref s.heap.objs.size,upd H s.heap.objs.size (.tup [x,y]),I.turnedNew (t':=s.toks) (o:=.tup [x,y]) k2 hf (Nat.le_refl _) ⟨by show 2≤sizeLine; decide,[u,v],.cons ru (.cons rv .nil),⟨_,hT2,rfl,_,rfl⟩⟩,rfl,
   ⟨_,I.hok.fresh (Nat.le_refl _),rfl,fun xs' ys' e1 e2=>?_⟩,⟨b1,?_,⟨_,_,b2.extBut _ _ D.TOz a2⟩,a3.at fun o e=>b2.extBut _ _ D.i1z e,a4.at fun o e=>b2.extBut _ _ D.i2z e⟩,fun b hb=>?_⟩
  ·rw [I.sq_inj e1 q1,I.sq_inj e2 q2]
   exact ⟨x,y,hx,hy,rfl⟩
  ·exact b2.extBut _ _ D.TIz (a7 _ _ D.TIz D.TITO D.TIi1 D.TIi2 hTI)
  ·have blt:b < s.heap.objs.size:=by
    simp only [List.mem_cons,List.not_mem_nil,or_false] at hb
    rcases hb with rfl | rfl | rfl | rfl | rfl
    ·exact zlt
    ·exact Heap.lt_size hTI
    ·exact Heap.lt_size hTO
    ·obtain ⟨o,e,_⟩:=h1.obj; exact Heap.lt_size e
    ·obtain ⟨o,e,_⟩:=h2.obj; exact Heap.lt_size e
   rw [zaak (Nat.ne_of_lt blt)]
   exact (hf b hb).1
 done:=by
  intro X hP hw hK hc i pins s σ H E I hf st hg
  subst hP hw hK
  obtain ⟨hz,hTI,⟨c,d,hTO⟩,h1,h2⟩:=st
  obtain ⟨xs,ys,q1,q2,hl⟩:=hg
  obtain ⟨ix,rx,px⟩:=I.sis q1
  obtain ⟨iy,ry,py⟩:=I.sis q2
  have l1:=rx.length
  have l2:=ry.length
  have hend:ix.toArray[i]?=none∨iy.toArray[i]?=none:=by
   rcases hl with h | h
   ·exact .inl (by simp; omega)
   ·exact .inr (by simp; omega)
  have hT:s.TypeIs (.ref z) "zip" := ⟨_,hz,rfl⟩
  unfold pyNext
  refine wpAny_bind (wpAny_attempt (wpAny_callSpecial?_slot (name:=Str.ofString "__next__") hT F.slot_zip_next
   (wpAny_call_entry F.slot_zip_next hT F.entry_zip_next (zamz (I.ok.hd hc) D hz hTI hTO h1 h2 px py hend fun h' e hk he=>?_) (F.args_zip_next_1 _))))
  obtain ⟨o,ho,hc'⟩:=he
  refine wpAny_bind (wpAny_isInstance (T := "StopIteration") (b:=true) ⟨o,ho,hc'⟩ isSubtype_stop ?_)
  refine wpAny_pure ⟨rfl,I.turnedL (t':=s.toks) (its:=[z,TI,TO,i1,i2]) (fun b o hb e=>?_) hf⟩
  simp only [List.mem_cons,List.not_mem_nil,or_false,not_or] at hb
  exact hk b o hb.1 hb.2.2.1 hb.2.2.2.1 hb.2.2.2.2 e
 self:=fun _ _ _ _ _ st h=>wpAny_pyIter_zip st.1 h
def itObj (k:SK) (l:Addr):Obj:=match k with
 | .list=>{ cls:=.type "list_iterator",data:=.fields #[.ref l,.int 0 0] }
 | .tuple=>{ cls:=.type "tuple_iterator",data:=.fields #[.ref l,.int 0 0] }
theorem zagh {k:SK}{l it:Addr}{h:Heap} (e:h.get? it=some (itObj k l)):SIt k h it l 0:=by
 cases k with
 | list=>exact ⟨_,e,rfl,rfl⟩
 | tuple=>exact ⟨_,e,rfl,rfl⟩
abbrev zS1 (h:Heap) (k1:SK) (l1:Addr):Heap:=h.push (itObj k1 l1)
abbrev zS2 (h:Heap) (k1 k2:SK) (l1 l2:Addr):Heap:=(zS1 h k1 l1).push (itObj k2 l2)
abbrev zS3 (h:Heap) (k1 k2:SK) (l1 l2:Addr):Heap:=(zS2 h k1 k2 l1 l2).push { cls:=.type "tuple",data:=.seq #[.ref h.objs.size,.ref (zS1 h k1 l1).objs.size] }
abbrev zS4 (h:Heap) (k1 k2:SK) (l1 l2:Addr):Heap:=(zS3 h k1 k2 l1 l2).push { cls:=.type "tuple",data:=.seq #[.none,.none] }
abbrev zS5 (h:Heap) (k1 k2:SK) (l1 l2:Addr):Heap:=(zS4 h k1 k2 l1 l2).push { cls:=.type "zip",data:=.fields #[.none,.bool false,.bool false,.ref (zS2 h k1 k2 l1 l2).objs.size,.ref (zS3 h k1 k2 l1 l2).objs.size] }
set_option maxHeartbeats 4000000 in
theorem zafr (k1 k2:SK) (l1 l2:Addr) (xs ys:Array Value) :
  Meets (Builtin.«zip.__new__» ⟨[.type "zip",.ref l1,.ref l2],[]⟩) (fun _ R s=>SIs k1 s.heap l1 xs∧SIs k2 s.heap l2 ys ∧
   R (.ok (.ret (.ref (zS4 s.heap k1 k2 l1 l2).objs.size))) { s with heap:=zS5 s.heap k1 k2 l1 l2 }):=by
 cases k1 with
 | list =>
  cases k2 with
  | list =>
   exact .of_wp fun prog w A R s h=>by
    obtain ⟨hp,g,d,tk,os⟩:=s; obtain ⟨hl1,hl2,h⟩:=h
    have hsub:=sub_zip
    have hL1:Heap.IsList (Shared.heap ⟨hp,g,d,tk,os⟩) l1 xs:=hl1
    have hL2:Heap.IsList (Shared.heap ⟨hp.push { cls:=.type "list_iterator",data:=.fields #[.ref l1,.int 0 0] },g,d,tk,os⟩) l2 ys:=Heap.IsList.push hl2 _
    wp_walk using wpAny_pyIter_list hL1,wpAny_pyIter_list hL2
    exact ⟨_,rfl,h⟩
  | tuple =>
   exact .of_wp fun prog w A R s h=>by
    obtain ⟨hp,g,d,tk,os⟩:=s; obtain ⟨hl1,hl2,h⟩:=h
    have hsub:=sub_zip
    have hL1:Heap.IsList (Shared.heap ⟨hp,g,d,tk,os⟩) l1 xs:=hl1
    have hL2:Heap.IsTuple (Shared.heap ⟨hp.push { cls:=.type "list_iterator",data:=.fields #[.ref l1,.int 0 0] },g,d,tk,os⟩) l2 ys:=SIs.at (k:=.tuple) hl2 fun o e=>Heap.get?_push_of_some _ e
    wp_walk using wpAny_pyIter_list hL1,wpAny_pyIter_tuple hL2
    exact ⟨_,rfl,h⟩
 | tuple =>
  cases k2 with
  | list =>
   exact .of_wp fun prog w A R s h=>by
    obtain ⟨hp,g,d,tk,os⟩:=s; obtain ⟨hl1,hl2,h⟩:=h
    have hsub:=sub_zip
    have hL1:Heap.IsTuple (Shared.heap ⟨hp,g,d,tk,os⟩) l1 xs:=hl1
    have hL2:Heap.IsList (Shared.heap ⟨hp.push { cls:=.type "tuple_iterator",data:=.fields #[.ref l1,.int 0 0] },g,d,tk,os⟩) l2 ys:=SIs.at (k:=.list) hl2 fun o e=>Heap.get?_push_of_some _ e
    wp_walk using wpAny_pyIter_tuple hL1,wpAny_pyIter_list hL2
    exact ⟨_,rfl,h⟩
  | tuple =>
   exact .of_wp fun prog w A R s h=>by
    obtain ⟨hp,g,d,tk,os⟩:=s; obtain ⟨hl1,hl2,h⟩:=h
    have hsub:=sub_zip
    have hL1:Heap.IsTuple (Shared.heap ⟨hp,g,d,tk,os⟩) l1 xs:=hl1
    have hL2:Heap.IsTuple (Shared.heap ⟨hp.push { cls:=.type "tuple_iterator",data:=.fields #[.ref l1,.int 0 0] },g,d,tk,os⟩) l2 ys:=SIs.at (k:=.tuple) hl2 fun o e=>Heap.get?_push_of_some _ e
    wp_walk using wpAny_pyIter_tuple hL1,wpAny_pyIter_tuple hL2
    exact ⟨_,rfl,h⟩
section
variable {prog:Program}{w:World}{A:Around}{E:Value→Shared→Prop}{s:Shared}
theorem zakq {k1 k2:SK}{l1 l2:Addr}{xs ys:Array Value}{Q:Value→Shared→Prop} (hl1:SIs k1 s.heap l1 xs) (hl2:SIs k2 s.heap l2 ys)
  (h:∀ h',IsZip h' (s.heap.objs.size + 4) (s.heap.objs.size + 2) (s.heap.objs.size + 3) .none→IsPair h' (s.heap.objs.size + 2) (.ref s.heap.objs.size) (.ref (s.heap.objs.size + 1)) →
   IsPair h' (s.heap.objs.size + 3) .none .none→SIt k1 h' s.heap.objs.size l1 0→SIt k2 h' (s.heap.objs.size + 1) l2 0 →
   (∀ c o,s.heap.get? c=some o→h'.get? c=some o)→Q (.ref (s.heap.objs.size + 4)) { s with heap:=h' }) :
  wpAny (model prog w) A (call (.type "zip") [.ref l1,.ref l2]) Q E s:=by
 refine callType_new F.called_zip (by decide) (F.typeCall_zip_2 _ _) (F.newCall_zip_2 _ _) (fun obj=>F.args_object_init_3 obj _ _) F.entry_zip_new
  (zafr k1 k2 l1 l2 xs ys) ⟨hl1,hl2,?_⟩
 have z1:(zS1 s.heap k1 l1).objs.size=s.heap.objs.size + 1:=Heap.size_push ..
 have z2:(zS2 s.heap k1 k2 l1 l2).objs.size=s.heap.objs.size + 2:=by rw [Heap.size_push,z1]
 have z3:(zS3 s.heap k1 k2 l1 l2).objs.size=s.heap.objs.size + 3:=by rw [Heap.size_push,z2]
 have z4:(zS4 s.heap k1 k2 l1 l2).objs.size=s.heap.objs.size + 4:=by rw [Heap.size_push,z3]
 have r1:(itObj k1 l1).isFreed=false:=by cases k1 <;> rfl
 have r2:(itObj k2 l2).isFreed=false:=by cases k2 <;> rfl
 have g5:(zS5 s.heap k1 k2 l1 l2).get? (zS4 s.heap k1 k2 l1 l2).objs.size=some _:=Heap.get?_push_size _ rfl
 have g4:(zS5 s.heap k1 k2 l1 l2).get? (zS3 s.heap k1 k2 l1 l2).objs.size=some _:=Heap.get?_push_of_some _ (Heap.get?_push_size _ rfl)
 have g3:(zS5 s.heap k1 k2 l1 l2).get? (zS2 s.heap k1 k2 l1 l2).objs.size=some _:=Heap.get?_push_of_some _ (Heap.get?_push_of_some _ (Heap.get?_push_size _ rfl))
 have g2:(zS5 s.heap k1 k2 l1 l2).get? (zS1 s.heap k1 l1).objs.size=some _:=Heap.get?_push_of_some _ (Heap.get?_push_of_some _ (Heap.get?_push_of_some _ (Heap.get?_push_size _ r2)))
 have g1:(zS5 s.heap k1 k2 l1 l2).get? s.heap.objs.size=some _:=Heap.get?_push_of_some _ (Heap.get?_push_of_some _ (Heap.get?_push_of_some _ (Heap.get?_push_of_some _ (Heap.get?_push_size _ r1))))
 show _∧_
 rw [z2,z3,z4] at g5
 rw [z1,z2] at g3
 rw [z3] at g4
 rw [z1] at g2
 rw [z4]
 exact ⟨⟨_,g5,rfl⟩,h _ g5 g3 g4 (zagh g1) (zagh g2) fun c o x =>
  Heap.get?_push_of_some _ (Heap.get?_push_of_some _ (Heap.get?_push_of_some _ (Heap.get?_push_of_some _ (Heap.get?_push_of_some _ x))))⟩
end
section
variable {X:Cx}{elts:List Expr}{kk:Nat}{tpos:Pos}
def iZip (K:PySem.W.Frag) (k1 k2:SK) (ta:TA):TI:=fun σ H R=>ta σ H fun vs H1=>∃ a b,vs=[.ref a,.ref b]∧(∃ xs,Sq k1 K H1 a xs)∧(∃ ys,Sq k2 K H1 b ys)∧R (Itz K k1 k2 a b) H1
theorem zaq0 (k1 k2:SK) {a b:Expr}{ta:TA}{p pos:Pos} (hg:Gl X "zip") (hm:X.mg "zip" = none) (ha:PA X [a,b] ta) (hs:starEach [a,b] X.env=[(false,eval a X.env),(false,eval b X.env)]:=by rfl) (hs2:starEach [b] X.env=[(false,eval b X.env)]:=by rfl) :
  PI X (.Tuple elts kk tpos) (.Call (.Name "zip" p) [a,b] [] pos) (iZip X.K k1 k2 ta):=by
 intro pins s σ H R I h
 refine Call_ (zaft I hg hm boot_zip (PyProof.Rows.callWith_type1 (thn (ha pos pins s σ H _ I h) fun us s1 ⟨vs,H1,I1,r1,q1⟩=>?_) (by rw [hs,hs2]) (by rw [hs2]; rfl)))
 obtain ⟨a',b',e,⟨xs,qx⟩,⟨ys,qy⟩,q⟩:=q1
 subst e
 obtain ⟨u,v,rfl,ru,rv⟩:=vals2 r1
 cases ru
 cases rv
 obtain ⟨ix,rx,px⟩:=I1.sis qx
 obtain ⟨iy,ry,py⟩:=I1.sis qy
 refine zakq px py fun h' b1 b2 b3 b4 b5 b6=>wpAny_pyIter_zip (s:={ s1 with heap:=h' }) b1 ?_
 have nn:∀ b,s1.heap.objs.size≤b→FpOk X pins H1 b:=fun b hb=>I1.fpOk hb (I1.hok.fresh hb)
 refine ⟨_,[s1.heap.objs.size + 4,s1.heap.objs.size + 2,s1.heap.objs.size + 3,s1.heap.objs.size,s1.heap.objs.size + 1],_,_,H1,rfl,I1.kept (t':=s1.toks) b6,zam0 (k1:=k1) (k2:=k2) (zipApart_new px.lt py.lt),⟨b1,b2,⟨_,_,b3⟩,b4,b5⟩,fun b hb=>?_,q⟩
 simp only [List.mem_cons,List.not_mem_nil,or_false] at hb
 rcases hb with rfl | rfl | rfl | rfl | rfl
 ·exact nn _ (Nat.le_add_right _ _)
 ·exact nn _ (Nat.le_add_right _ _)
 ·exact nn _ (Nat.le_add_right _ _)
 ·exact nn _ (Nat.le_refl _)
 ·exact nn _ (Nat.le_add_right _ _)
theorem zam1 {K:PySem.W.Frag}{k1 k2:SK}{a b:Addr}{xs ys:List V}{g:TG}{tb:TS}{D:Ends}{σ:St}{H:Hp} (Pv:Nat→St→Hp→Prop) (h0:Pv 0 σ H)
  (hl:∀ i σ H,i≤min xs.length ys.length→Pv i σ H→Sq k1 K H a xs∧Sq k2 K H b ys)
  (hs:∀ i x y σ H T,xs[i]?=some x→ys[i]?=some y→Pv i σ H→H T=none→g (.ref T) σ (upd H T (.tup [x,y])) fun σ2 H2=>tb { D with nx:=Pv (i + 1),ct:=Pv (i + 1),bk:=D.nx } σ2 H2)
  (hd:∀ σ H,Pv (min xs.length ys.length) σ H→D.nx σ H):Loop (Itz K k1 k2 a b) g tb D σ H:=by
 refine ⟨fun i m σ H=>m=min xs.length ys.length - i∧i≤min xs.length ys.length∧Pv i σ H,⟨min xs.length ys.length,by simp,Nat.zero_le _,h0⟩,?_⟩
 rintro i m σ H ⟨rfl,hi,p⟩
 obtain ⟨q1,q2⟩:=hl i σ H hi p
 by_cases hlt:i < min xs.length ys.length
 ·have l1:i < xs.length:=by omega
  have l2:i < ys.length:=by omega
  refine .inr ⟨⟨xs,ys,xs[i],ys[i],q1,q2,by simp [l1],by simp [l2]⟩,Pv (i + 1),fun σ' H' p'=>⟨min xs.length ys.length - (i + 1),by omega,rfl,hlt,p'⟩,fun x H' y=>?_⟩
  obtain ⟨T,hT,rfl,y⟩:=y
  obtain ⟨u,v,e1,e2,rfl⟩:=y xs ys q1 q2
  exact hs i u v σ H T e1 e2 p hT
 ·have e:i=min xs.length ys.length:=by omega
  refine .inl ⟨⟨xs,ys,q1,q2,by omega⟩,?_⟩
  subst e
  exact hd σ H p
end
end L2

namespace L2
open PySem PySem.Spec PyProof.Rows PySem.Builtin PySem.Builtin.Str
section
variable {X:Cx}
def rIsT (K:PySem.W.Frag):List V→Hp→VK→Prop:=fun xs H Q=>∃ x T t b,xs=[x,.ty T]∧TyOf K H x t∧PySem.W.kitOne K t (.type T)=some b∧Q (.bl b) H
theorem zaba:CallR X (.builtin "isinstance") (rIsT X.K):=by
 intro pins s σ H xs us Q I r h
 obtain ⟨x,T,t,b,rfl,ty,e,q⟩:=h
 obtain ⟨u,v,rfl,ru,rv⟩:=vals2 r
 cases rv
 exact zakd I ru ty e fun tk=>⟨.bl b,H,I.tok _,rfl,q⟩
example (K:PySem.W.Frag):PySem.W.kitOne K (.type "int") (.type "int")=some true:=rfl
example (K:PySem.W.Frag):PySem.W.kitOne K (.type "str") (.type "int")=some false:=rfl
example (K:PySem.W.Frag):PySem.W.kitOne K (.type "tuple") (.type "int")=some false:=rfl
example (K:PySem.W.Frag):PySem.W.kitOne K (.type "bool") (.type "int")=some true:=rfl
end
def ent (w:World) (x:Str × Tok × Value):DictEntry:=⟨hashStr w x.1,.str x.1 x.2.1,x.2.2⟩
structure KD (P:Program) (w:World) (K:PySem.W.Frag) (a:Addr) (kvs:List (Key × V)):Prop where
 ex:∃ (o:Obj) (es:Array DictEntry) (ep:Nat) (vs:List (Key × Value)),K.lookup a=some o∧o.ExactDict∧o.data=.dict es ep∧KeysOf (mixKind P w) es∧Pairs (mixKind P w) es.toList vs∧(vs.map (·.1)).Nodup∧KV kvs vs
 ns:(a == sysModules)=false
def DK (P:Program) (w:World) (K:PySem.W.Frag) (H:Hp) (a:Addr) (kvs:List (Key × V)):Prop:=Rd H a (.dK kvs)∨KD P w K a kvs
theorem Inv.dict {X:Cx}{pins:List (Addr × Obj)}{σ:St}{H:Hp}{s:Shared}{a:Addr}{kvs:List (Key × V)} (I:Inv X pins σ H s) (h:DK X.prog X.w X.K H a kvs) :
  (a == sysModules)=false∧∃ vs,KV kvs vs∧s.heap.DictOf (mixKind X.prog X.w) a vs:=by
 rcases h with h | h
 ·obtain ⟨_,b,c⟩:=zagg I.hok h
  exact ⟨b,c⟩
 ·obtain ⟨o,es,ep,vs,h1,h2,h3,h4,h5,h6,h7⟩:=h.ex
  exact ⟨h.ns,vs,h7,o,es,ep,I.kIn a o h1,h2,h3,h4,h5,h6⟩
theorem zahz {P:Program}{w:World}{s:Shared}{a:Addr}{vs:List (Key × Value)} (d:s.heap.DictOf (mixKind P w) a vs):s.TypeIs (.ref a) "dict" := by
 obtain ⟨o,es,ep,h1,h2,_⟩:=d
 exact ⟨o,h1,h2.1⟩
section
variable {X:Cx}
def rIxD (X:Cx):R2:=fun x y H Q=>∃ a kvs k v,x=.ref a∧y=kV k∧DK X.prog X.w X.K H a kvs∧valV kvs k=some v∧Q v H
theorem zaq1 {o i:Expr}{td ty:TE}{pos:Pos} (ho:PE X o td) (hi:PE X i ty) (hs:NoSl i):PE X (.Subscript o i pos) (tOp (rIxD X) td ty):=by
 intro pins s σ H Q I h
 refine zakn PySem.F.slot_dict_getitem.lookup hs (thn (ho pins s σ H _ I h) fun u s1 ⟨x,H1,I1,rx,q1⟩=>thn (hi pins s1 σ H1 _ I1 q1) fun iv s2 ⟨y,H2,I2,ry,q2⟩=>?_)
 obtain ⟨a,kvs,k,v,rfl,rfl,dk,hv,q⟩:=q2
 obtain rfl:u=Value.ref a:=rx
 obtain ⟨_,vs,rel,dd⟩:=I2.dict dk
 obtain ⟨w',hw,rw'⟩:=RelO.some_of (v:=v) (o:=valueAt vs k) (by rw [← hv]; exact rel.val k)
 exact ⟨zahz dd,wpAny_getItem_of (zahv ry) dd.mapOf hw ⟨v,H2,I2.tok _,rw',q⟩⟩
end
theorem zaq2 {P:Program}{w:World}{K:PySem.W.Frag}{a:Addr}{od:Option Addr}{ep:Nat}{sl:Array (Option Value)}{es:Array DictEntry} (xs:List (Str × Tok × Value)) (vs:List V)
  (l:K.lookup a=some ⟨.type "dict",od,.dict es ep,sl⟩) (he:es.toList=xs.map (ent w)) (hx:(⟨.type "dict",od,.dict es ep,sl⟩:Obj).ExactDict) (ns:(a == sysModules)=false)
  (nd:(xs.map (·.1)).Nodup) (hv:Vals vs (xs.map (·.2.2))):KD P w K a ((xs.map fun x=>(Sum.inr x.1:Key)).zip vs):=by
 refine ⟨⟨_,es,ep,xs.map fun x=>(Sum.inr x.1,x.2.2),l,hx,rfl,?_,?_,?_,?_⟩,ns⟩
 ·intro e h
  rw [← Array.mem_toList_iff,he] at h
  obtain ⟨x,hx,rfl⟩:=List.mem_map.mp h
  exact ⟨Sum.inr x.1,zaer x.1 x.2.1,rfl⟩
 ·rw [he]
  clear he nd hv l hx
  induction xs with
  | nil=>exact .nil
  | cons x xs ih=>exact .cons (zaer x.1 x.2.1) rfl ih
 ·rw [List.map_map]
  have e:(xs.map (fun x=>(Sum.inr x.1:Key)))=(xs.map (·.1)).map Sum.inr:=by rw [List.map_map]; rfl
  show (xs.map (fun x=>(Sum.inr x.1:Key))).Nodup
  rw [e]
  exact List.Pairwise.map _ (fun a b h z=>h (Sum.inr.inj z)) nd
 ·clear he nd l hx
  induction xs generalizing vs with
  | nil=>cases hv; exact .nil
  | cons x xs ih =>
   cases hv with
   | cons r rr=>exact .cons ⟨rfl,r⟩ (ih _ rr)
end L2

namespace L2
open PySem PySem.Spec PyProof.Rows
structure Pr (p:Prop):Prop where
 h:p
section
variable {X:Cx}
theorem zakr {i:Nat}{x:Str}{pos:Pos} (hN:X.N[i]?=some x) (hv:Vis X.env.scope x) (hd:(x == ("__debug__" : Str))=false:=by decide) (hcd:(x == ("__classdict__" : Str))=false:=by decide):Pr (PE X (.Name x pos) (tVar i)):=⟨zap1 hN hv hd hcd⟩
theorem zaab {i j pos}:Pr (PE X (.Constant (.int i) j pos) (tC (.int i))):=⟨zap2⟩
theorem zabr {b j pos}:Pr (PE X (.Constant (.bool b) j pos) (tC (.bl b))):=⟨zasf⟩
theorem zad5 {j pos}:Pr (PE X (.Constant .none j pos) (tC .non)):=⟨zap3⟩
theorem zaaw {x j pos}:Pr (PE X (.Constant (.str x) j pos) (tC (.str x))):=⟨zap4⟩
theorem zagi {x:Str}{v:V}{u:Value}{pos:Pos} (hg:Gl X x) (hm:X.mg x=some u) (r:RelV v u) (hd:(x == ("__debug__" : Str))=false:=by decide):Pr (PE X (.Name x pos) (tC v)):=⟨zaj0 hg hm r hd⟩
theorem zaa4 {x:Str}{v:V}{u:Value}{pos:Pos} (hg:Gl X x) (hm:X.mg x=none) (hv:bootBuiltins x=some u) (r:RelV v u) (hn:x ≠ "__name__" := by decide) (hd:(x == ("__debug__" : Str))=false:=by decide):Pr (PE X (.Name x pos) (tC v)):=⟨zan6 hg hm hv r hn hd⟩
end
section
variable {X:Cx}{a b c:Expr}{ta tb tc:TE}{pos:Pos}
theorem zaam {op:Operator}{r:R2} (ho:OpR X (binaryOp op) r) (ha:Pr (PE X a ta)) (hb:Pr (PE X b tb)):Pr (PE X (.BinOp a op b pos) (tOp r ta tb)):=⟨zasi ho ha.h hb.h⟩
theorem zaks {op:UnaryOp}{r:V→Hp→VK→Prop} (ho:UnR X (unaryOp op) r) (ha:Pr (PE X a ta)):Pr (PE X (.UnaryOp op a pos) (tUn r ta)):=⟨zasj ho ha.h⟩
theorem zabo {op:CmpOp}{r:R2} (ho:OpR X (compareOp op) r) (ha:Pr (PE X a ta)) (hb:Pr (PE X b tb)) (hm:behindInMarks op b=false):Pr (PE X (.Compare a [op] [b] pos) (tOp r ta tb)):=⟨zaoe ho ha.h hb.h hm⟩
theorem zae4 {op op':CmpOp}{r r':R2} (ho:OpR X (compareOp op) r) (ho':OpR X (compareOp op') r') (ha:Pr (PE X a ta)) (hb:Pr (PE X b tb)) (hc:Pr (PE X c tc)) (hm:lastMarks [op,op'] [b,c]=false:=by with_unfolding_all rfl):Pr (PE X (.Compare a [op,op'] [b,c] pos) (tChain r r' ta tb tc)):=⟨zami ho ho' ha.h hb.h hc.h hm⟩
end
section
variable {X:Cx}
variable {a b:Expr}{ta tb:TE}{pos:Pos}
variable {tA tB':TT}{rest:List Expr}
theorem zacn (ha:Pr (PE X a ta)) (hb:Pr (PE X (.BoolOp .And (b :: rest) pos) tb)):Pr (PE X (.BoolOp .And (a :: b :: rest) pos) (tAndV ta tb)):=⟨zaqb ha.h hb.h⟩
end
section
variable {X:Cx}
variable {a b:Expr}{ta tb:TE}{pos:Pos}
variable {tA tB':TT}{rest:List Expr}
theorem zac2 {op}{t:TE} (h:Pr (PE X a t)):Pr (PE X (.BoolOp op [a] pos) t):=⟨zaqa h.h⟩
end
section
variable {X:Cx}
variable {a b:Expr}{ta tb:TE}{pos:Pos}
variable {tA tB':TT}{rest:List Expr}
theorem zah0 (ha:Pr (PE X a ta)):Pr (PE X (.UnaryOp .Not a pos) (tNotV ta)):=⟨zaqc ha.h⟩
end
section
variable {X:Cx}
variable {a b:Expr}{ta tb:TE}{pos:Pos}
variable {tA tB':TT}{rest:List Expr}
theorem zaca {c:Expr} (hc:Pr (PT X c tA)) (ha:Pr (PE X a ta)) (hb:Pr (PE X b tb)):Pr (PE X (.IfExp c a b pos) (tIf tA ta tb)):=⟨zamb hc.h ha.h hb.h⟩
end
section
variable {X:Cx}{e:Expr}{es:List Expr}{te:TE}{t:TA}{pos:Pos}
theorem zaay {x1} (h:Pr (PA X es t)):Pr (PE X (.Tuple es x1 pos) (tTup t)):=⟨zaqp h.h⟩
theorem zabi (h:Pr (PA X es t)):Pr (PE X (.List es pos) (tLst t)):=⟨zaqq h.h⟩
end
section
variable {X:Cx}{e:Expr}{te:TE}{lo hi:Option Expr}{tl th:TO}{pos p2:Pos}
theorem zacw {r:V→Option Int→Option Int→Hp→VK→Prop} (hr:SlR X r) (he:Pr (PE X e te)) (hl:Pr (PO X lo tl)) (hu:Pr (PO X hi th)):Pr (PE X (.Subscript e (.Slice lo hi none p2) pos) (tSl r te tl th)):=⟨zamp hr he.h hl.h hu.h⟩
end
section
variable {X:Cx}{a b:Expr}{ta tb:TE}{pos:Pos}
theorem zaai {r:R2} (hr:IxR X r) (ha:Pr (PE X a ta)) (hb:Pr (PE X b tb)) (hs:PlainIx b):Pr (PE X (.Subscript a b pos) (tOp r ta tb)):=⟨zask hr ha.h hb.h hs⟩
end
section
variable {X:Cx}
theorem zakt {o i:Expr}{td ty:TE}{pos:Pos} (ho:Pr (PE X o td)) (hi:Pr (PE X i ty)) (hs:NoSl i):Pr (PE X (.Subscript o i pos) (tOp (rIxD X) td ty)):=⟨zaq1 ho.h hi.h hs⟩
end
section
variable {X:Cx}{o e value:Expr}{f:Str}{pos pos' tpos:Pos}{ta tv:TE}
theorem zaa1 (he:Pr (PE X e ta)) (hb:attributeBase e f X.env (eval e X.env)=eval e X.env):Pr (PE X (.Attribute e f pos) (tFld X.K ta f)):=⟨zaqm he.h hb⟩
end
section
variable {X:Cx}{CX:CXT}{k:Nat}{ps:List Str}{sp:Sp}{E:XK}{x:Str}{p pos:Pos}{e:Expr}{es:List Expr}{t:TA}
theorem zaao (D:DefOk X.prog X.w X.K X.mg X.base CX k x ps sp) (hr:Room k X.A) (hg:Gl X x) (hx:Passes CX X E) (ha:Pr (PA X (e :: es) t)) (hdb:(x == ("__debug__" : Str))=false:=by decide) (he:starEach (e :: es) X.env=(false,eval e X.env) :: starEach es X.env:=by rfl) (hpl:(backTo pos (starEach es X.env)).any (·.1)=false:=by rfl):Pr (PE X (.Call (.Name x p) (e :: es) [] pos) (tCall sp [] E t)):=⟨zamw D hr hg hx ha.h hdb he hpl⟩
end
section
variable {X:Cx}{x:Str}{p pos:Pos}{e:Expr}{es:List Expr}{t:TA}{id T:String}{r:List V→Hp→VK→Prop}
theorem zaap (hc:CallR X (.builtin id) r) (hg:Gl X x) (hm:X.mg x=none) (hv:bootBuiltins x=some (.builtin id)) (ha:Pr (PA X (e :: es) t)) (hn:x ≠ "__name__" := by decide) (hdb:(x == ("__debug__" : Str))=false:=by decide) (he:starEach (e :: es) X.env=(false,eval e X.env) :: starEach es X.env:=by rfl) (hpl:(backTo pos (starEach es X.env)).any (·.1)=false:=by rfl):Pr (PE X (.Call (.Name x p) (e :: es) [] pos) (tCB r t)):=⟨zamn hc hg hm hv ha.h hn hdb he hpl⟩
theorem zabf (hc:CallR X (.type T) r) (hg:Gl X x) (hm:X.mg x=none) (hv:bootBuiltins x=some (.type T)) (ha:Pr (PA X (e :: es) t)) (hn:x ≠ "__name__" := by decide) (hdb:(x == ("__debug__" : Str))=false:=by decide) (he:starEach (e :: es) X.env=(false,eval e X.env) :: starEach es X.env:=by rfl) (hpl:(backTo pos (starEach es X.env)).any (·.1)=false:=by rfl):Pr (PE X (.Call (.Name x p) (e :: es) [] pos) (tCB r t)):=⟨zakf hc hg hm hv ha.h hn hdb he hpl⟩
end
section
variable {X:Cx}{a b:Expr}{ta tb:TE}{pos:Pos}
variable {o e:Expr}{es:List Expr}{to:TE}{t:TA}{name:Str}{apos cpos:Pos}{T id:String}{r:V→List V→Hp→VK→Prop}
theorem zafz (pa:PlainAttrs T) (slot:Slot T name id) (hty:typeOf (.builtin id)=pure (.type "method_descriptor")) (hm:MtR X id r) (ho:Pr (PE X o to)) (ha:Pr (PA X (e :: es) t)) (hbase:attributeBase o name X.env (eval o X.env)=eval o X.env:=by rfl) (hfew:((backTo cpos (starEach (e :: es) X.env)).all (fun x=>!x.1) && (backToKw cpos (keywordEach [] X.env)).all (fun x=>x.1.isSome)
   && decide ((e :: es).length + ([]:List Keyword).length + (if ([]:List Keyword).isEmpty then 0 else 1) < 30))=true:=by rfl) (hline:(apos.endLine == cpos.line)=true:=by rfl) (hs:starEach (e :: es) X.env=(false,eval e X.env) :: starEach es X.env:=by rfl) (hplain:(backTo cpos (starEach es X.env)).any (·.1)=false:=by rfl):Pr (PE X (.Call (.Attribute o name apos) (e :: es) [] cpos) (tBM X.K T r to t)):=⟨zasl pa slot hty hm ho.h ha.h hbase hfew hline hs hplain⟩
end
section
variable {X:Cx}{a b c:Expr}{ta tb tc:TE}{pos:Pos}
theorem zaat {op:CmpOp}{r:R2} (ho:OpR X (compareOp op) r) (ha:Pr (PE X a ta)) (hb:Pr (PE X b tb)) (hm:behindInMarks op b=false):Pr (PT X (.Compare a [op] [b] pos) (tTest (tOp r ta tb))):=⟨zaof ho ha.h hb.h hm⟩
end
section
variable {X:Cx}
variable {a b:Expr}{ta tb:TE}{pos:Pos}
variable {tA tB':TT}{rest:List Expr}
theorem zaci (ha:Pr (PT X a tA)):Pr (PT X (.UnaryOp .Not a pos) (tNot tA)):=⟨zap9 ha.h⟩
end
section
variable {X:Cx}
variable {a b:Expr}{ta tb:TE}{pos:Pos}
theorem zabe {e:Expr}{t:TE} (h:Pr (PE X e t)) (he:∀ whole,isTrue e X.env whole=(do let v ← whole; standAt e.pos; holding [v] (truthy v)):=by intro _; rfl):Pr (PT X e (tB t)):=⟨zap6 h.h he⟩
end
section
theorem zacg {X:Cx}{e:Expr}{t:TT} (h:Pr (PW X e t)):Pr (PT X e t):=⟨PW.pt h.h⟩
end
section
variable {X:Cx}
variable {a b:Expr}{ta tb:TE}{pos:Pos}
variable {tA tB':TT}{rest:List Expr}
theorem zaku (ha:Pr (PT X a tA)) (hb:Pr (PW X (.BoolOp .And (b :: rest) pos) tB')):Pr (PW X (.BoolOp .And (a :: b :: rest) pos) (tAnd tA tB')):=⟨zap8 ha.h hb.h⟩
end
section
variable {X:Cx}
variable {a b:Expr}{ta tb:TE}{pos:Pos}
variable {tA tB':TT}{rest:List Expr}
theorem zaiu (ha:Pr (PT X a tA)):Pr (PW X (.BoolOp .And [a] pos) tA):=⟨zan7 ha.h⟩
end
section
variable {X:Cx}
variable {a b:Expr}{ta tb:TE}{pos:Pos}
variable {tA tB':TT}{rest:List Expr}
theorem zacl (ha:Pr (PT X a tA)) (hb:Pr (PW X (.BoolOp .Or (b :: rest) pos) tB')):Pr (PW X (.BoolOp .Or (a :: b :: rest) pos) (tOr tA tB')):=⟨zasg ha.h hb.h⟩
end
section
variable {X:Cx}
variable {a b:Expr}{ta tb:TE}{pos:Pos}
variable {tA tB':TT}{rest:List Expr}
theorem zab2 (ha:Pr (PT X a tA)):Pr (PW X (.BoolOp .Or [a] pos) tA):=⟨zap7 ha.h⟩
end
section
variable {X:Cx}{e:Expr}{es:List Expr}{te:TE}{t:TA}{pos:Pos}
theorem zaac  : Pr (PA X [] tNil):=⟨zaqo⟩
theorem zaaa (ha:Pr (PE X e te)) (hr:Pr (PA X es t)) (hs:starEach (e :: es) X.env=(false,eval e X.env) :: starEach es X.env:=by rfl):Pr (PA X (e :: es) (tCons te t)):=⟨zaoj ha.h hr.h hs⟩
end
section
variable {X:Cx}{e:Expr}{te:TE}{lo hi:Option Expr}{tl th:TO}{pos p2:Pos}
theorem zac4  : Pr (PO X none tNoPart):=⟨zaon⟩
theorem zac5 (h:Pr (PE X e te)):Pr (PO X (some e) (tPart te)):=⟨zaoo h.h⟩
end
section
variable {X:Cx}{tg:Expr}
theorem zac6 {l:Expr}{tl:TE} (hl:Pr (PE X l tl)):Pr (PI X tg l (iList X.K tl)):=⟨zaj2 hl.h⟩
theorem zad6 {l:Expr}{tl:TE} (hl:Pr (PE X l tl)):Pr (PI X tg l (iTup X.K tl)):=⟨zanp hl.h⟩
theorem zadh {a:Expr}{ta:TA}{p pos:Pos} (hg:Gl X "range") (hm:X.mg "range" = none) (ha:Pr (PA X [a] ta)) (hs:starEach [a] X.env=[(false,eval a X.env)]:=by rfl):Pr (PI X tg (.Call (.Name "range" p) [a] [] pos) (iRng1 ta)):=⟨zaj3 hg hm ha.h hs⟩
end
section
variable {X:Cx}{elts:List Expr}{kk:Nat}{tpos:Pos}
theorem zah1 (k1 k2:SK) {a b:Expr}{ta:TA}{p pos:Pos} (hg:Gl X "zip") (hm:X.mg "zip" = none) (ha:Pr (PA X [a,b] ta)) (hs:starEach [a,b] X.env=[(false,eval a X.env),(false,eval b X.env)]:=by rfl) (hs2:starEach [b] X.env=[(false,eval b X.env)]:=by rfl):Pr (PI X (.Tuple elts kk tpos) (.Call (.Name "zip" p) [a,b] [] pos) (iZip X.K k1 k2 ta)):=⟨zaq0 k1 k2 hg hm ha.h hs hs2⟩
end
section
variable {X:Cx}{pos:Pos}
theorem zaa0 {i:Nat}{x:Str} (hN:X.N.Nodup) (hi:X.N[i]?=some x) (hx:Loc X.env.scope x) (hf:X.fn x=true∨X.env.scope.names.lookup x=some .local:=by first | exact .inl rfl | exact .inr rfl | assumption):Pr (PG X (.Name x pos) (gName i)):=⟨zaob hN hi hx hf⟩
theorem zacb  : Pr (PGs X [] gNil):=⟨zaoc⟩
theorem zaa7 {e:Expr}{es:List Expr}{t:TG}{u:TGs} (h1:Pr (PG X e t)) (h2:Pr (PGs X es u)) (hs:(assignEach (e :: es) X.env).map (·.2)=assign e X.env :: (assignEach es X.env).map (·.2):=by rfl):Pr (PGs X (e :: es) (gCons t u)):=⟨zamd h1.h h2.h hs⟩
theorem zagj {es:List Expr}{k:Nat}{t:TGs}{n:Nat} (hc:X.calm=true) (h:Pr (PGs X es t)) (hn:(assignEach es X.env).length=n:=by rfl) (hst:(assignEach es X.env).findIdx? (·.1)=none:=by rfl):Pr (PG X (.Tuple es k pos) (gTup X.K n t)):=⟨zano hc h.h hn hst⟩
theorem zakv {o i:Expr}{to ti:TE}{t:TSet} (ho:Pr (PE X o to)) (hi:Pr (PE X i ti)) (hs:PSet X t) (ha:∀ v,assign (.Subscript o i pos) X.env v=(do
   let ov ← holding [v] (eval o X.env)
   let iv ← holding [v,ov] (eval i X.env)
   standAt pos
   holding [v,ov,iv] (setItem ov iv v)
   release [v,ov,iv] []):=by intro _; rfl):Pr (PG X (.Subscript o i pos) (gSub to ti t)):=⟨zaqe ho.h hi.h hs ha⟩
end
section
variable {X:Cx}{st:Stmt}{rest:List Stmt}{t u:TS}{e:Expr}{te:TE}{pos:Pos}
theorem zaan (he:Pr (PE X e te)):Pr (PS X (.Return (some e) pos) (tRet te)):=⟨zaqd he.h⟩
end
section
variable {X:Cx}{pos:Pos}
theorem zaaz {i:Nat}{x:Str}{e:Expr}{te:TE}{pos':Pos} (hN:X.N.Nodup) (hi:X.N[i]?=some x) (hx:Loc X.env.scope x) (he:Pr (PE X e te)) (hs:swapsWith e (some (.Name x pos')) pos.line X.env=pure false:=by rfl) (hf:X.fn x=true∨X.env.scope.names.lookup x=some .local:=by first | exact .inl rfl | exact .inr rfl | assumption):Pr (PS X (.Assign [.Name x pos'] e pos) (tAsg te (gName i))):=⟨zaqg hN hi hx he.h hs hf⟩
theorem zah2 {tg e:Expr}{te:TE}{g:TG} (he:Pr (PE X e te)) (hg:Pr (PG X tg g)) (hs:swapsWithSole [tg] e pos.line X.env=pure false:=by rfl) (hw:swappedStores [tg] e X.env=pure none:=by rfl) (h1:(assignEach [tg] X.env).map (·.2)=[assign tg X.env]:=by rfl):Pr (PS X (.Assign [tg] e pos) (tAsg te g)):=⟨zaqf he.h hg.h hs hw h1⟩
theorem zaoz {i:Nat}{x:Str}{e:Expr}{te:TE}{op:Operator}{ti:TIp}{pos':Pos} (hN:X.N.Nodup) (hi:X.N[i]?=some x) (hx:Loc X.env.scope x) (he:Pr (PE X e te)) (ho:PIp X op ti) (hf:X.fn x=true∨X.env.scope.names.lookup x=some .local:=by first | exact .inl rfl | exact .inr rfl | assumption):Pr (PS X (.AugAssign (.Name x pos') op e pos) (tAug i te ti)):=⟨zaqh hN hi hx he.h ho hf⟩
end
section
variable {X:Cx}{st:Stmt}{rest:List Stmt}{t u:TS}{e:Expr}{te:TE}{pos:Pos}
theorem zaa3 {c:Expr}{a b:List Stmt}{tc:TT} (hc:Pr (PT X c tc)) (ha:Pr (PSs X a t)) (hb:Pr (PSs X b u)):Pr (PS X (.If c a b pos) (tIfS tc t u)):=⟨zash hc.h ha.h hb.h⟩
end
section
theorem zaby {X:Cx}{tg iter:Expr}{body:List Stmt}{wi:TI}{g:TG}{tb:TS}{pos:Pos} (hp:PassesOwn (model X.prog X.w) X.A X.env X.xe) (hc:X.calm=true) (hi:Pr (PI X tg iter wi)) (hg:Pr (PG X tg g)) (hb:Pr (PSs X body tb)) (hs:∀ x,foldedSetIterable iter X.env x=pure x:=by intro _; rfl):Pr (PS X (.For tg iter body [] pos) (tLoop wi g tb)):=⟨zaow hp hc hi.h hg.h hb.h hs⟩
end
section
variable {X:Cx}{st:Stmt}{rest:List Stmt}{t u:TS}{e:Expr}{te:TE}{pos:Pos}
theorem zack (he:Pr (PE X e te)) (hs:swapsWith e none pos.line X.env=pure false:=by rfl):Pr (PS X (.Expr e pos) (tDrop te)):=⟨zaoa he.h hs⟩
theorem zaau  : Pr (PSs X [] tNext):=⟨zan8⟩
theorem zaaf (h1:Pr (PS X st t)):Pr (PSs X [st] t):=⟨zan9 h1.h⟩
theorem zaad (h1:Pr (PS X st t)) (h2:Pr (PSs X rest u)):Pr (PSs X (st :: rest) (tSeq t u)):=⟨zaio h1.h h2.h⟩
end
section
theorem zabb {X:Cx}{st:Stmt}{rest:List Stmt}{t u:TS} (h1:Pr (PS X st t)) (h2:Pr (PSs X rest u)):Pr (PSs X (st :: rest) (tCut t u)):=⟨zaox h1.h h2.h⟩
end
section
variable {X:Cx}{o e value:Expr}{f:Str}{pos pos' tpos:Pos}{ta tv:TE}
theorem zab4 (ha:Pr (PE X o ta)) (hv:Pr (PE X value tv)) (hs:swapsWith value (some (.Attribute o f pos')) pos.line X.env=pure false):Pr (PS X (.Assign [.Attribute o f pos'] value pos) (sFld X.K ta tv f)):=⟨zaqn ha.h hv.h hs⟩
end
end L2

namespace L2
open PySem PySem.Spec PyProof.Rows
def relab (sc outer:Scope):Scope :=
 { sc with names:=sc.names.map fun (n,k)=>if (k == .free && outer.kind == .function && outer.names.lookup n == some .cell) then (n,.cell) else (n,k) }
structure CompOk (sc outer:Scope) (own:List Str) (N:List Str) (fr:List Nat) (N':List Str):Prop where
 kind:sc.kind=.function
 nocell:∀ y∈sc.names,y.2≠.cell
 loc:∀ y∈sc.names,y.2=.local→sc.names.lookup y.1=some .local
 fre:∀ y∈sc.names,y.2=.free→outer.names.lookup y.1=some .cell∨outer.names.lookup y.1=some .free
 nd:N'.Nodup
 all:N'.map some=own.map some++fr.map fun j=>N[j]?
 frk:∀ j∈fr,∀ x,N[j]?=some x→sc.names.lookup x=some .free∧(outer.names.lookup x=some .cell∨outer.names.lookup x=some .free)
def cst (n:Nat) (fr:List Nat) (σ:St):St:=List.replicate n none++fr.map fun j=>(σ[j]?).join
theorem zae5 {env:Env}{sc:Scope} (h:∀ y∈sc.names,y.2=.free→∃ c,env.cells.lookup y.1=some c) :
  ∃ cl,closureFor sc env=pure cl∧(∀ x c,cl.lookup x=some c→env.cells.lookup x=some c)∧∀ y∈sc.names,y.2=.free→∃ c,cl.lookup y.1=some c:=by
 have key:∀ (l:List (Str × NameKind)) (cs:List (Str × Addr)),(∀ y∈l,y.2=.free→∃ c,env.cells.lookup y.1=some c)→(∀ x c,cs.lookup x=some c→env.cells.lookup x=some c) →
   ∃ cl,(forIn l cs fun x r=>if (x.2 == NameKind.free)=true then do let a ← cellOf env x.1; pure (ForInStep.yield ((x.1,a) :: r)) else pure (ForInStep.yield r))=(pure cl:Sem _)∧(∀ x c,cl.lookup x=some c→env.cells.lookup x=some c) ∧
    (∀ x,(∃ c,cs.lookup x=some c)→∃ c,cl.lookup x=some c)∧∀ y∈l,y.2=.free→∃ c,cl.lookup y.1=some c:=by
  intro l
  induction l with
  | nil=>intro cs _ h2; exact ⟨cs,rfl,h2,fun _ z=>z,fun y hy=>nomatch hy⟩
  | cons y l ih =>
   intro cs h1 h2
   obtain ⟨n,k⟩:=y
   by_cases hk:k=.free
   ·subst hk
    obtain ⟨c,hc⟩:=h1 (n,.free) List.mem_cons_self rfl
    obtain ⟨cl,e,a,b,d⟩:=ih ((n,c) :: cs) (fun y hy=>h1 y (List.mem_cons_of_mem _ hy)) (fun x c' hx=>by
     rw [List.lookup_cons] at hx
     split at hx
     ·rename_i q
      have:x=n:=by simpa using q
      cases hx; subst this; exact hc
     ·exact h2 x c' hx)
    refine ⟨cl,?_,a,fun x ⟨c',hx⟩=>b x ?_,fun y hy hf=>?_⟩
    ·rw [List.forIn_cons]
     have e1:cellOf env n=pure c:=by unfold cellOf; rw [hc]
     simp only [beq_self_eq_true,if_true,e1,pure_bind]
     exact e
    ·rw [List.lookup_cons]
     split
     ·exact ⟨_,rfl⟩
     ·exact ⟨c',hx⟩
    ·rcases List.mem_cons.mp hy with rfl | hy
     ·exact b n ⟨c,by simp [List.lookup_cons]⟩
     ·exact d y hy hf
   ·obtain ⟨cl,e,a,b,d⟩:=ih cs (fun y hy=>h1 y (List.mem_cons_of_mem _ hy)) h2
    refine ⟨cl,?_,a,b,fun y hy hf=>?_⟩
    ·rw [List.forIn_cons]
     have hb:(k == NameKind.free)=false:=by simpa using hk
     simp only [hb,Bool.false_eq_true,if_false,pure_bind]
     exact e
    ·rcases List.mem_cons.mp hy with rfl | hy
     ·exact absurd hf hk
     ·exact d y hy hf
 obtain ⟨cl,e,a,_,d⟩:=key sc.names [] h (fun x c hx=>by simp at hx)
 refine ⟨cl,?_,a,d⟩
 unfold closureFor
 simp only [e,pure_bind]
def cxC (X:Cx) (sc:Scope) (cl:List (Str × Addr)) (N':List Str) (C:Addr) (s:Shared) (H:Hp) (fp:List Addr):Cx :=
 { X with N:=N',s₀:=s,H₀:=H,env:=compEnvC sc cl C X.env,outer:=X.stack,stack:=X.stack,ex:=fp,fn:=fun _=>false,pn:=[],xe:=fun _ _=>False }
theorem zac1 {outer:Scope}:∀ {names:List (Str × NameKind)}{x:Str}{k:NameKind},
  (names.map fun (n,k)=>if (k == NameKind.free && outer.kind == .function && outer.names.lookup n == some .cell) then (n,NameKind.cell) else (n,k)).lookup x=some k →
   names.lookup x=some k∨(names.lookup x=some .free∧k=.cell)
 | [],x,k,h=>by simp at h
 | (n,k') :: r,x,k,h=>by
  rw [List.map_cons] at h
  by_cases hc:(k' == NameKind.free && outer.kind == .function && outer.names.lookup n == some .cell)=true
  ·simp only [hc,if_true] at h
   rw [List.lookup_cons] at h ⊢
   cases hx:x == n with
   | true =>
    rw [hx] at h
    simp only [Option.some.injEq] at h
    have hf:k'=.free:=by
     have:=(Bool.and_eq_true_iff.mp (Bool.and_eq_true_iff.mp hc).1).1
     simpa using this
    exact .inr ⟨by simp [hf],h.symm⟩
   | false=>rw [hx] at h; exact zac1 h
  ·simp only [hc,Bool.false_eq_true,if_false] at h
   rw [List.lookup_cons] at h ⊢
   cases hx:x == n with
   | true=>rw [hx] at h; exact .inl (by simpa using h)
   | false=>rw [hx] at h; exact zac1 h
theorem zad7 {outer:Scope}:∀ {names:List (Str × NameKind)}{x:Str},names.lookup x=some .free →
  (names.map fun (n,k)=>if (k == NameKind.free && outer.kind == .function && outer.names.lookup n == some .cell) then (n,NameKind.cell) else (n,k)).lookup x=some .cell ∨
  (names.map fun (n,k)=>if (k == NameKind.free && outer.kind == .function && outer.names.lookup n == some .cell) then (n,NameKind.cell) else (n,k)).lookup x=some .free
 | [],x,h=>by simp at h
 | (n,k') :: r,x,h=>by
  rw [List.lookup_cons] at h
  rw [List.map_cons]
  by_cases hc:(k' == NameKind.free && outer.kind == .function && outer.names.lookup n == some .cell)=true
  ·simp only [hc,if_true]
   rw [List.lookup_cons]
   cases hx:x == n with
   | true=>exact .inl rfl
   | false=>rw [hx] at h; exact zad7 h
  ·simp only [hc,Bool.false_eq_true,if_false]
   rw [List.lookup_cons]
   cases hx:x == n with
   | true=>rw [hx] at h; exact .inr h
   | false=>rw [hx] at h; exact zad7 h
theorem zac7 {α:Type}:∀ {l:List (Str × α)}{x:Str}{k:α},l.lookup x=some k→(x,k)∈l
 | [],_,_,h=>by simp at h
 | (n,k') :: r,x,k,h=>by
  rw [List.lookup_cons] at h
  cases hx:x == n with
  | true =>
   rw [hx] at h
   have e:x=n:=by simpa using hx
   have e2:k'=k:=by simpa using h
   rw [e,e2]; exact List.mem_cons_self
  | false=>rw [hx] at h; exact List.mem_cons_of_mem _ (zac7 h)
section
variable {X:Cx}{pins:List (Addr × Obj)}{σ:St}{H:Hp}{s:Shared}{sc:Scope}{own:List Str}{fr:List Nat}{N':List Str}{cl:List (Str × Addr)}
theorem zah3 (I:Inv X pins σ H s) (cs:CompOk sc X.env.scope own X.N fr N') (h1:∀ x c,cl.lookup x=some c→X.env.cells.lookup x=some c) (h2:∀ y∈sc.names,y.2=.free→∃ c,cl.lookup y.1=some c)
  {fp:List Addr} (hf:∀ b∈fp,FpOk X pins H b∧∃ o,s.heap.get? b=some o) {h':Heap}{t':Nat}{C D:Addr}{o:Obj} (hC:s.heap.objs.size≤C) (hD:s.heap.objs.size≤D) (hDC:D≠C)
  (k:∀ b u,s.heap.get? b=some u→h'.get? b=some u) (hn:h'.Ns C fun _=>none) (hDo:h'.get? D=some o) (hd:∀ v,o.data≠.cell v) :
  Inv (cxC X sc cl N' C s H fp) [(D,o)] (cst own.length fr σ) H { s with heap:=h',toks:=t' }:=by
 have lt:∀ b u,s.heap.get? b=some u→b < s.heap.objs.size:=fun b u e=>Heap.lt_size e
 have fpC:∀ b∈fp,b≠C:=fun b hb z=>by
  obtain ⟨_,o,e⟩:=hf b hb
  have:=lt b o e
  rw [z] at this
  exact absurd (Nat.lt_of_lt_of_le this hC) (Nat.lt_irrefl _)
 have lenN:N'.length=own.length + fr.length:=by
  have:=congrArg List.length cs.all
  simpa using this
 refine ⟨⟨I.ok.mod,cs.kind,I.ok.glob,I.ok.blt,hC,fun x y c e1 e2=>I.ok.inj x y c (h1 x c e1) (h1 y c e2),fun x hx=>?_,fun x c z=>absurd z Bool.false_ne_true,I.ok.hd,I.ok.frames,.inl rfl,fun b hb=>⟨fpC b hb,fun x c e=>(hf b hb).1.2.2.2.2.1 x c (h1 x c e)⟩,
   I.bs,Nat.le_trans I.ok.bsz I.sz,fun b o' e hb=>?_,fun b hb z=>?_,I.stack,I.stkFree⟩,
  rfl,I.bare,Un.kept k,⟨_,hn,fun i x v e1 e2 e3=>?_⟩,fun x c e=>?_,I.hok.fresh hC,fun x c e=>I.freeC x c (h1 x c e),fun p hp=>?_,I.hok.kept k,?_⟩
 ·have hx':(relab sc X.env.scope).names.lookup x=some .cell∨(relab sc X.env.scope).names.lookup x=some .free:=hx
  have hfree:sc.names.lookup x=some .free:=by
   rcases hx' with z | z
   ·rcases zac1 z with q | q
    ·exact absurd rfl (cs.nocell _ (zac7 q))
    ·exact q.1
   ·rcases zac1 z with q | q
    ·exact q
    ·exact q.1
  exact h2 (x,.free) (zac7 hfree) rfl
 ·have q:=(hf b hb).1.2.2.2.1
  rcases q with q | q
  ·exact I.ok.noex b o' e q
  ·exact absurd (Nat.lt_of_lt_of_le (Heap.lt_size (I.ok.bs b o' e).1) q) (Nat.lt_irrefl _)
 ·have z':b∈frs X.stack:=z
  rcases List.mem_cons.mp (I.stkSub b z') with q | q
  ·exact (hf b hb).1.2.1 q
  ·exact (hf b hb).1.2.2.1 q
 ·-- a name of the block at its entry is one of the def's
  have hi:own.length≤i:=by
   by_cases hi:i < own.length
   ·have e2':(cst own.length fr σ)[i]?=some none:=by
     unfold cst
     rw [List.getElem?_append_left (by simpa using hi),List.getElem?_replicate,if_pos hi]
    rw [e2'] at e2; cases e2
   ·omega
  have e2':(fr.map fun j=>(σ[j]?).join)[i - own.length]?=some (some v):=by
   unfold cst at e2
   rwa [List.getElem?_append_right (by simpa using hi),List.length_replicate] at e2
  rw [List.getElem?_map] at e2'
  have e1a:(N'.map some)[i]?=some (some x):=by
   have e1:N'[i]?=some x:=e1
   rw [List.getElem?_map,e1]; rfl
  rw [cs.all,List.getElem?_append_right (by simpa using hi),List.length_map,List.getElem?_map] at e1a
  cases ej:fr[i - own.length]? with
  | none=>rw [ej] at e2'; cases e2'
  | some j =>
   rw [ej] at e2' e1a
   have hj:j∈fr:=List.mem_of_getElem? ej
   have nj:X.N[j]?=some x:=by simpa using e1a
   have sj:σ[j]?=some (some v):=by
    have:(σ[j]?).join=some v:=by simpa using e2'
    cases q:σ[j]? with
    | none=>rw [q] at this; cases this
    | some y=>rw [q] at this; simp at this; rw [this]
   obtain ⟨kf,ko⟩:=cs.frk j hj x nj
   obtain ⟨m,hm,hl⟩:=I.loc
   obtain ⟨u,r,l⟩:=hl j x v nj sj (.inr ko)
   refine ⟨u,r,.inr ?_⟩
   have lk:X.env.kindOf x=some .cell∨X.env.kindOf x=some .free:=ko
   rcases l with ⟨z,_⟩ | ⟨_,c,ec,ic⟩
   ·rcases lk with q | q <;> rw [z] at q <;> cases q
   ·obtain ⟨c',hc'⟩:=h2 (x,.free) (zac7 kf) rfl
    have:c'=c:=by
     have:=h1 x c' hc'
     rw [ec] at this; exact (Option.some.inj this).symm
    subst this
    refine ⟨zad7 kf,c',hc',?_⟩
    obtain ⟨oc,hoc,hcd⟩:=ic
    exact ⟨oc,k c' oc hoc,hcd⟩
 ·obtain ⟨v,oc,hoc,hcd⟩:=I.cell x c (h1 x c e)
  exact ⟨v,oc,k c oc hoc,hcd⟩
 ·have hp':p∈[(D,o)]:=hp
  have e:p=(D,o):=by simpa using hp'
  subst e
  refine ⟨hDo,I.hok.fresh hD,hDC,fun z=>?_,hd⟩
  have z':D∈frs X.stack:=z
  obtain ⟨_,o2,ho2,_⟩:=I.stack.mem z'
  exact absurd (Nat.lt_of_lt_of_le (Heap.lt_size ho2) hD) (Nat.lt_irrefl _)
 ·show (cst own.length fr σ).length=N'.length
  unfold cst
  rw [List.length_append,List.length_replicate,List.length_map,lenN]
theorem zakw (I:Inv X pins σ H s) {fp:List Addr} (hf:∀ b∈fp,FpOk X pins H b∧∃ o,s.heap.get? b=some o) {C D:Addr}{its:List Value}{ys:List V}{n:Nat}{σ':St}{H':Hp}{s':Shared}
  (hD:s.heap.objs.size≤D) (J:Inv (cxC X sc cl N' C s H fp) [(D,{ cls:=.type "list",data:=.seq its.toArray n })] σ' H' s') (r:Vals ys its) (hz:ys.length≤sizeLine):Inv X pins σ (upd H' D (.lst ys)) s':=by
 obtain ⟨hDo,hDn,hDC,hDf,hDc⟩:=J.pin (D,{ cls:=.type "list",data:=.seq its.toArray n }) (List.mem_append_right _ List.mem_cons_self)
 have u:Un (frs X.stack) fp H H' s.heap s'.heap:=J.base
 have os:s'.os=s.os:=J.os
 have lt:∀ b ob,s.heap.get? b=some ob→b≠D:=fun b ob e z=>by
  have:=Heap.lt_size e
  rw [z] at this
  exact absurd (Nat.lt_of_lt_of_le this hD) (Nat.lt_irrefl _)
 refine I.call' (ch:=fp) os ⟨u.keep,u.slot,fun b ob e n hx=>?_,u.there,fun b xs e=>?_,fun b ob x e=>?_,fun b ps e=>?_⟩ ?_ J.bare (fun b hb=>?_)
 ·rw [zaak (lt b ob e)]; exact u.free b ob e n hx
 ·have:=u.tups b xs e
  rw [zaak (zaa8 this hDn)]; exact this
 ·have:=u.frzs b ob x e
  rw [zaak (zaa8 this hDn)]; exact this
 ·obtain ⟨m,q⟩:=u.tbls b ps e
  exact ⟨m,by rw [zaak (zaa8 q hDn)]; exact q⟩
 ·intro b ob e
  by_cases hb:b=D
  ·subst hb
   rw [zaag] at e; cases e
   exact ⟨hz,its,n,r,hDo⟩
  ·rw [zaak hb] at e
   exact (J.hok b ob e).stay (fun c v _ q=>q) (fun c q=>by rw [zaak (zaa8 q hDn)]; exact q) fun c xs q=>by rw [zaak (zaa8 q hDn)]; exact q
 ·obtain ⟨_,f1,_,f3,f4,f5⟩:=(hf b hb).1
  exact ⟨f3,f1,f4,f5⟩
end
def PIf (X:Cx) (ifs:List Expr) (t:TT):Prop :=
 ∀ (pins:List (Addr × Obj)) (s:Shared) (σ:St) (H:Hp) (Q:Bool→Hp→Prop),Inv X pins σ H s→t σ H Q →
  wpAny (model X.prog X.w) X.A (forIn ifs true fun c r=>if r=true then do let ok ← isTrue c X.env (eval c X.env); pure (ForInStep.yield ok) else pure (ForInStep.yield r)) (TP X pins σ Q) X.xe s
def tYes:TT:=fun _ H Q=>Q true H
theorem zao0 {X:Cx}:PIf X [] tYes:=fun _ _ _ H _ I h=>wpAny_tests_nil ⟨H,I,h⟩
structure Comp (J:It) (g:TG) (tt:TT) (te:TE) (Q:List V→Hp→Prop) (σ:St) (H:Hp):Prop where
 ex:∃ W:Nat→Nat→List V→St→Hp→Prop,(∃ m,W 0 m [] σ H)∧∀ i m ys σ H,W i m ys σ H→ys.length < sizeLine ∧
  ((J.stop i H∧Q ys H)∨(J.go i H∧∃ N:List V→St→Hp→Prop,(∀ ys' σ' H',N ys' σ' H'→∃ m',m' < m∧W (i + 1) m' ys' σ' H') ∧
    ∀ x H',J.yld i H x H'→g x σ H' fun σ2 H2=>tt σ2 H2 fun b H3=>if b=true then te σ2 H3 fun y H4=>N (ys++[y]) σ2 H4 else N ys σ2 H3))
section
variable {prog:Program}{w:World}{A:Around}{R:Result→Shared→Prop}{s:Shared}
theorem zahe {elt target iter:Expr}{ifs:List Expr}{scope:Scope}{pos:Pos}{it acc:Value}{env:Env} (I:Nat→Shared→Prop)
  (turn:∀ n s,I n s→wpAny (model prog w) A (pyNext it) (fun r s₁=>match r with
   | none=>R (.ok .next) s₁
   | some v=>wpAny (model prog w) A (letOwnedTupleGo target it v) (fun _ s₁=>wpAny (model prog w) A (assign target env v) (fun _ s₂ =>
     wpAny (model prog w) A (forIn ifs true fun c r=>if r=true then do let ok ← isTrue c env (eval c env); pure (ForInStep.yield ok) else pure (ForInStep.yield r)) (fun ok s₃ =>
      if ok=true then wpAny (model prog w) A (eval elt env) (fun x s₄ =>
       wpAny (model prog w) A (call (.builtin "list.append") [acc,x]) (fun _ s₅=>∃ m,m < n∧I m s₅) (fun _ _=>False) s₄) (fun _ _=>False) s₃
      else ∃ m,m < n∧I m s₃) (fun _ _=>False) s₂) (fun _ _=>False) s₁) (fun _ _=>False) s₁) (fun _ _=>False) s)
  (n:Nat) (h:I n s):codeAny (model prog w) A (.compLoop (.ListComp elt [⟨target,iter,ifs,0⟩] scope pos) 0 it acc env) R s:=by
 refine codeAny_loop rfl I (fun n s hI=>?_) n h
 show wpAny _ A ((compTurn (.ListComp elt [⟨target,iter,ifs,0⟩] scope pos) 0 it acc env).onRaise (fun x=>do noteFrame x env; theTreesLotGoes x)) _ _ s
 refine wpAny_noted (wpAny_noRaise ?_)
 rw [compTurn_list]
 refine wpAny_bind (wpAny_standAt (wpAny_bind (wpAny_mono (turn n s hI) (fun r s₁ h₁=>?_) fun _ _ h'=>h')))
 cases r with
 | none=>exact wpAny_pure h₁
 | some v =>
  refine wpAny_bind (wpAny_mono h₁ (fun _ s₁ h₁=>?_) fun _ _ h'=>h')
  refine wpAny_bind (wpAny_mono h₁ (fun _ s₂ h₂=>wpAny_bind (wpAny_mono h₂ (fun ok s₃ h₃=>?_) fun _ _ h'=>h')) fun _ _ h'=>h')
  cases ok with
  | false=>exact wpAny_pure ⟨rfl,h₃⟩
  | true =>
   exact wpAny_bind (wpAny_bind (wpAny_mono h₃ (fun x s₄ h₄=>wpAny_bind (wpAny_mono h₄ (fun _ s₅ h₅=>wpAny_pure (wpAny_pure ⟨rfl,h₅⟩)) fun _ _ h'=>h')) fun _ _ h'=>h'))
end
end L2

namespace L2
open PySem PySem.Spec PyProof.Rows
structure TurnX (G:Cx→Prop) (P:Program) (w:World) (K:PySem.W.Frag) (tg:Expr) (J:It) (fp:List Addr) (it:Addr) (tn:Nat→Heap→Prop):Prop where
 obj:∀ i h,tn i h→∀ b∈fp,∃ o,h.get? b=some o∧∀ v,o.data≠.cell v
 keep:∀ i h h',tn i h→(∀ b∈fp,∀ o,h.get? b=some o→h'.get? b=some o)→tn i h'
 item:∀ (X:Cx),X.prog=P→X.w=w→X.K=K→G X→∀ (i:Nat) (pins:List (Addr × Obj)) (s:Shared) (σ:St) (H:Hp) (E:Value→Shared→Prop),Inv X pins σ H s→(∀ b∈fp,FpOk X pins H b)→tn i s.heap→J.go i H →
  wpAny (model P w) X.A (pyNext (.ref it)) (fun r s1=>∃ u,r=some u ∧
   wpAny (model P w) X.A (letOwnedTupleGo tg (.ref it) u) (fun _ s2=>∃ x H',Inv X pins σ H' s2∧RelV x u∧J.yld i H x H'∧tn (i + 1) s2.heap∧∀ b∈fp,H' b=none) E s1) E s
 done:∀ (X:Cx),X.prog=P→X.w=w→X.K=K→G X→∀ (i:Nat) (pins:List (Addr × Obj)) (s:Shared) (σ:St) (H:Hp) (E:Value→Shared→Prop),Inv X pins σ H s→(∀ b∈fp,FpOk X pins H b)→tn i s.heap→J.stop i H →
  wpAny (model P w) X.A (pyNext (.ref it)) (fun r s1=>r=none∧Inv X pins σ H s1) E s
 self:∀ (A:Around) (i:Nat) (s:Shared) (Q:Value→Shared→Prop) (E:Value→Shared→Prop),tn i s.heap→Q (.ref it) s→wpAny (model P w) A (pyIter (.ref it)) Q E s
theorem Turn.x {P:Program}{w:World}{K:PySem.W.Frag}{tg:Expr}{J:It}{fp:List Addr}{it:Addr}{tn:Nat→Heap→Prop} (T:Turn P w K tg J fp it tn):TurnX (fun X=>X.calm=true) P w K tg J fp it tn:=⟨T.obj,T.keep,T.item,T.done,T.self⟩
section
variable {X:Cx}{sc:Scope}{own:List Str}{fr:List Nat}{N':List Str}{tg elt iter:Expr}{ifs:List Expr}{g:TG}{tt:TT}{te:TE}{wi:TI}{pos:Pos}
theorem zaf0 {G:Cx→Prop}{pins:List (Addr × Obj)}{σ:St}{H:Hp}{s2:Shared}{it:Addr}{fp:List Addr}{tn:Nat→Heap→Prop}{J:It}{QQ:List V→Hp→Prop}{cl:List (Str × Addr)}{RR:Value→Addr→Result→Shared→Prop}{E:Value→Shared→Prop}
  (I2:Inv X pins σ H s2) (hc:∀ cl C s H fp,G (cxC X sc cl N' C s H fp)) (T:TurnX G X.prog X.w X.K tg J fp it tn) (st:tn 0 s2.heap) (f2:∀ b∈fp,FpOk X pins H b) (cs:CompOk sc X.env.scope own X.N fr N')
  (h1:∀ x c,cl.lookup x=some c→X.env.cells.lookup x=some c) (h2:∀ y∈sc.names,y.2=.free→∃ c,cl.lookup y.1=some c)
  (hg:∀ cl C s H fp,PG (cxC X sc cl N' C s H fp) tg g) (hif:∀ cl C s H fp,PIf (cxC X sc cl N' C s H fp) ifs tt) (he:∀ cl C s H fp,PE (cxC X sc cl N' C s H fp) elt te)
  (KK:Comp J g tt te QQ (cst own.length fr σ) H)
  (hRR:∀ D C m H' ys s',s2.heap.objs.size≤C→s'.heap.Ns C m→H' D=none→(upd H' D (.lst ys)) C=none→QQ ys H'→Inv X pins σ (upd H' D (.lst ys)) s'→RR (.ref D) C (.ok .next) s') :
  wpAny (model X.prog X.w) X.A (newList []) (fun acc s₃=>wpAny (model X.prog X.w) X.A (newFunctionEnv sc X.env.globals cl [] X.env.qual none .none (some X.env)) (fun cenv s₄ =>
   codeAny (model X.prog X.w) X.A (.compStart (.ListComp elt [⟨tg,iter,ifs,0⟩] sc pos) 0 (.ref it) acc { cenv with scope:=relabel sc X.env }) (RR acc cenv.locals) s₄) E s₃) E s2:=by
 refine wpAny_newObj_type (wpAny_newFunctionEnv cs.nocell (by intro y hy; simp at hy) (fun h₁ hns₁ hsb₁=>?_) cs.kind)
 dsimp only at hns₁ hsb₁ ⊢
 generalize hH2:s2.heap.push { cls:=.type "list",dict:=none,data:=.seq ([]:List Value).toArray }=H2 at hns₁ hsb₁ ⊢
 have hC:H2.objs.size=s2.heap.objs.size + 1:=by rw [← hH2,Heap.size_push]
 have hDC:s2.heap.objs.size≠H2.objs.size:=by rw [hC]; exact Nat.ne_of_lt (Nat.lt_succ_self _)
 have hCle:s2.heap.objs.size≤H2.objs.size:=by rw [hC]; exact Nat.le_succ _
 have below:∀ b,b < s2.heap.objs.size→b≠H2.objs.size∧b≠s2.heap.objs.size:=fun b hb=>⟨by rw [hC]; exact Nat.ne_of_lt (Nat.lt_succ_of_lt hb),Nat.ne_of_lt hb⟩
 have old:∀ b o,s2.heap.get? b=some o→h₁.get? b=some o:=fun b o e=>hsb₁.extBut b o (below b (Heap.lt_size e)).1 (Heap.get?_push_of_some _ (hH2 ▸ Heap.get?_push_of_some _ e))
 have hacc:h₁.get? s2.heap.objs.size=some { cls:=.type "list",data:=.seq ([]:List Value).toArray 0 }:=hsb₁.extBut _ _ hDC (Heap.get?_push_of_some _ (hH2 ▸ Heap.get?_push_size _ rfl))
 have fpo:∀ b∈fp,FpOk X pins H b∧∃ o,s2.heap.get? b=some o:=fun b hb=>⟨f2 b hb,let ⟨o,e,_⟩:=T.obj 0 _ st b hb; ⟨o,e⟩⟩
 have st1:tn 0 h₁:=T.keep _ _ _ st fun b hb o e=>old b o e
 have hns:h₁.Ns H2.objs.size fun _=>none:=by simpa using hns₁
 obtain ⟨W,⟨m0,w0⟩,turn⟩:=KK.ex
 have loop:∀ s₃:Shared,s₃={ s2 with heap:=h₁,toks:=s2.toks + ([]:List (Str × Value)).length } →
   codeAny (model X.prog X.w) X.A (.compLoop (.ListComp elt [⟨tg,iter,ifs,0⟩] sc pos) 0 (.ref it) (.ref s2.heap.objs.size) (compEnvC sc cl H2.objs.size X.env)) (RR (.ref s2.heap.objs.size) H2.objs.size) s₃:=by
  rintro s₃ rfl
  have J0:Inv (cxC X sc cl N' H2.objs.size s2 H fp) [(s2.heap.objs.size,{ cls:=.type "list",data:=.seq ([]:List Value).toArray 0 })] (cst own.length fr σ) H { s2 with heap:=h₁,toks:=s2.toks + ([]:List (Str × Value)).length } :=
   zah3 I2 cs h1 h2 fpo hCle (Nat.le_refl _) hDC old hns hacc (fun v z=>by cases z)
  have stat:∀ {pl:List (Addr × Obj)}{H':Hp},(∀ p∈pl,p.1=s2.heap.objs.size)→(∀ b∈fp,H' b=none)→∀ b∈fp,FpOk (cxC X sc cl N' H2.objs.size s2 H fp) pl H' b:=fun {pl H'} hpl hn b hb=>by
   obtain ⟨f,ob,e⟩:=fpo b hb
   refine ⟨hn b hb,(below b (Heap.lt_size e)).1,fun z=>?_,.inl hb,fun x c ec=>f.2.2.2.2.1 x c (h1 x c ec),fun p hp=>?_⟩
   ·have z':b∈frs X.stack:=z
    rcases List.mem_cons.mp (I2.stkSub b z') with q | q
    ·exact f.2.1 q
    ·exact f.2.2.1 q
   ·have hp':p∈pl:=hp
    rw [hpl p hp']
    exact Ne.symm (below b (Heap.lt_size e)).2
  have one:∀ (o:Obj),∀ p∈[(s2.heap.objs.size,o)],p.1=s2.heap.objs.size:=fun o p hp=>by
   have:p=(s2.heap.objs.size,o):=by simpa using hp
   rw [this]
  refine zahe (env:=compEnvC sc cl H2.objs.size X.env) (fun n s'=>∃ i ys its k σ' H',Inv (cxC X sc cl N' H2.objs.size s2 H fp) [(s2.heap.objs.size,{ cls:=.type "list",data:=.seq (its:List Value).toArray k })] σ' H' s'∧tn i s'.heap∧(∀ b∈fp,H' b=none)∧Vals ys its∧W i n ys σ' H')
   ?_ m0 ⟨0,[],[],0,_,H,J0,st1,fun b hb=>(f2 b hb).1,.nil,w0⟩
  rintro n s3 ⟨i,ys,its,k,σ3,H3,I3,st3,fr3,rv,w3⟩
  obtain ⟨hlen,alt⟩:=turn i n ys σ3 H3 w3
  rcases alt with ⟨stop,qn⟩ | ⟨go,N,hN,step⟩
  ·refine wpAny_mono (T.done (cxC X sc cl N' H2.objs.size s2 H fp) rfl rfl rfl (hc _ _ _ _ _) i _ s3 σ3 H3 (fun _ _=>False) I3 (stat (one _) fr3) st3 stop) (fun r s4 ⟨hr,I4⟩=>?_) fun _ _ z=>z
   subst hr
   obtain ⟨m,hm,_⟩:=I4.loc
   have hDn:H3 s2.heap.objs.size=none:=(I4.pin (s2.heap.objs.size,{ cls:=.type "list",data:=.seq its.toArray k }) (List.mem_append_right _ List.mem_cons_self)).2.1
   exact hRR _ _ m H3 ys s4 hCle hm hDn (by rw [zaak (Ne.symm hDC)]; exact I4.free) qn (zakw I2 fpo (Nat.le_refl _) I4 rv (Nat.le_of_lt hlen))
  ·refine wpAny_mono (T.item (cxC X sc cl N' H2.objs.size s2 H fp) rfl rfl rfl (hc _ _ _ _ _) i _ s3 σ3 H3 (fun _ _=>False) I3 (stat (one _) fr3) st3 go) (fun r s4 ⟨u,hr,h4⟩=>?_) fun _ _ z=>z
   subst hr
   refine wpAny_mono h4 (fun _ s5 ⟨x,H5,I5,r5,y5,st5,fr5⟩=>?_) fun _ _ z=>z
   have I5':=I5.pinned (stat (one _) fr5) (T.obj _ _ st5)
   refine wpAny_mono (hg cl H2.objs.size s2 H fp _ s5 σ3 H5 x u _ I5' r5 (step x H5 y5)) (fun _ s6 ⟨σ6,H6,I6,q6⟩=>?_) fun _ _ z=>z
   refine wpAny_mono (hif cl H2.objs.size s2 H fp _ s6 σ6 H6 _ I6 q6) (fun b s7 ⟨H7,I7,q7⟩=>?_) fun _ _ z=>z
   have fps:∀ {σ8:St}{H8:Hp}{s8:Shared},Inv (cxC X sc cl N' H2.objs.size s2 H fp) ([(s2.heap.objs.size,{ cls:=.type "list",data:=.seq its.toArray k })]++pinsAt fp s5.heap) σ8 H8 s8 →
     tn (i + 1) s8.heap∧∀ b∈fp,H8 b=none:=fun {σ8 H8 s8} I8=>by
    refine ⟨T.keep _ _ _ st5 fun b hb o e=>(I8.pin (b,o) (List.mem_append_right _ (List.mem_append_right _ (zadf hb e)))).1,fun b hb=>?_⟩
    obtain ⟨o,e,d⟩:=T.obj _ _ st5 b hb
    exact (I8.pin (b,o) (List.mem_append_right _ (List.mem_append_right _ (zadf hb e)))).2.1
   cases b with
   | false =>
    obtain ⟨m',hm,w7⟩:=hN ys σ6 H7 q7
    exact ⟨m',hm,i + 1,ys,its,k,σ6,H7,I7.unpinned,(fps I7).1,(fps I7).2,rv,w7⟩
   | true =>
    have q7':te σ6 H7 fun y H4=>N (ys++[y]) σ6 H4:=q7
    refine wpAny_mono (he cl H2.objs.size s2 H fp _ s7 σ6 H7 _ I7 q7') (fun uy s8 ⟨y,H8,I8,r8,n8⟩=>?_) fun _ _ z=>z
    obtain ⟨m',hm,w8⟩:=hN _ _ _ n8
    obtain ⟨hDo,hDn,hDL,hDf,_⟩:=I8.pin (s2.heap.objs.size,{ cls:=.type "list",data:=.seq its.toArray k }) (List.mem_append_right _ (List.mem_append_left _ List.mem_cons_self))
    have hys:its.toArray.size≤sizeLine:=by rw [List.size_toArray,← rv.length]; exact Nat.le_of_lt hlen
    refine wpAny_list_append_plain (hsz:=hys) (⟨k,hDo⟩:s8.heap.PlainList s2.heap.objs.size its.toArray) fun h9 ⟨k',hl9⟩ hs9=>?_
    have hDp:∀ p∈(cxC X sc cl N' H2.objs.size s2 H fp).pn++pinsAt fp s5.heap,p.1≠s2.heap.objs.size:=fun p hp=>by
     have hp':p∈pinsAt fp s5.heap:=by
      have hp2:p∈([]:List (Addr × Obj))++pinsAt fp s5.heap:=hp
      simpa using hp2
     obtain ⟨hb,_⟩:=zag1 hp'
     obtain ⟨_,ob,e⟩:=fpo p.1 hb
     exact (below p.1 (Heap.lt_size e)).2
    have I8':Inv (cxC X sc cl N' H2.objs.size s2 H fp) (pinsAt fp s5.heap) σ6 H8 s8:=I8.pins_of fun p hp=>I8.pin p (List.mem_append_right _ (List.mem_append_right _ hp))
    have I9:Inv (cxC X sc cl N' H2.objs.size s2 H fp) (pinsAt fp s5.heap) σ6 H8 { s8 with heap:=h9 }:=I8'.turned (t':=s8.toks) (it:=s2.heap.objs.size) (fun b o hb e=>(hs9.2 b hb).trans e) hDn hDL (.inr (Nat.le_refl _))
     (fun x c e z=>by
      obtain ⟨v,q⟩:=I2.cell x c (h1 x c e)
      have:=q.lt
      rw [z] at this
      exact absurd this (Nat.lt_irrefl _)) hDp
    have key:=fps I8
    refine ⟨m',hm,i + 1,ys++[y],its++[uy],k',σ6,H8,I9.pins_of fun p hp=>?_,T.keep _ _ _ key.1 fun b hb o e=>?_,key.2,rv.append (.cons r8 .nil),w8⟩
    ·have e:p=(s2.heap.objs.size,{ cls:=.type "list",data:=.seq (its++[uy]).toArray k' }):=by simpa using hp
     subst e
     refine ⟨?_,hDn,hDL,hDf,fun v z=>by cases z⟩
     have:(its++[uy]).toArray=its.toArray.push uy:=by simp
     rw [this]; exact hl9
    ·obtain ⟨_,ob,e2⟩:=fpo b hb
     exact (hs9.2 b (below b (Heap.lt_size e2)).2).trans e
 exact codeAny_compStart_list (loop _ rfl) (wpAny_mono (T.self X.A 0 _ (fun it' s'=>it'=.ref it∧s'={ s2 with heap:=h₁,toks:=s2.toks + ([]:List (Str × Value)).length }) _ st1 ⟨rfl,rfl⟩) (fun it' s' ⟨e1,e2⟩=>by subst e1 e2; exact loop _ rfl) fun _ _ z=>z)
def tComp (n:Nat) (fr:List Nat) (wi:TI) (g:TG) (tt:TT) (te:TE):TE:=fun σ H Q=>wi σ H fun J H1=>Comp J g tt te (fun ys H2=>∀ D,H2 D=none→Q (.ref D) (upd H2 D (.lst ys))) (cst n fr σ) H1
theorem zao1 (hc:X.calm=true) (cs:CompOk sc X.env.scope own X.N fr N') (hi:PI X tg iter wi) (hg:∀ cl C s H fp,PG (cxC X sc cl N' C s H fp) tg g) (hif:∀ cl C s H fp,PIf (cxC X sc cl N' C s H fp) ifs tt)
  (he:∀ cl C s H fp,PE (cxC X sc cl N' C s H fp) elt te) (hs:∀ x,foldedSetIterable iter X.env x=pure x:=by intro _; rfl):PE X (.ListComp elt [⟨tg,iter,ifs,0⟩] sc pos) (tComp own.length fr wi g tt te):=by
 intro pins s σ H Q I h
 obtain ⟨cl,ecl,h1,h2⟩:=zae5 (env:=X.env) (sc:=sc) fun y hy hf=>I.ok.has y.1 (cs.fre y hy hf)
 rw [eval_ListComp]
 refine wpAny_comprehension_free (use:=none) rfl hs ecl cs.kind cs.loc (thn (hi pins s σ H _ I h) fun v s1 q1=>thn q1 fun itv s2 q2=>?_)
 obtain ⟨it,fp,tn,J,H2,rfl,I2,T,st,f2,KK⟩:=q2
 refine zaf0 (RR:=fun acc C=>compPost (model X.prog X.w) X.A X.xe none (EP X pins σ Q) acc C) I2 (fun _ _ _ _ _=>hc) T.x st f2 cs h1 h2 hg hif he KK fun D C m H' ys s' hC hn hD hCn hq I'=>?_
 refine ⟨m,hn,fun h' hs'=>⟨.ref D,upd H' D (.lst ys),?_,rfl,hq D hD⟩⟩
 obtain ⟨f0,f1,f2,f3,f4,f5⟩:=I2.fpOk hC hCn
 exact I'.turned (t':=s'.toks) (it:=C) (fun b o hb e=>(hs'.2 b hb).trans e) f0 (Ne.symm (Ne.symm f1)) f3 f4 f5
def tSetC (i n:Nat) (fr:List Nat) (wi:TI) (g:TG) (tt:TT) (te:TE):TS:=fun D σ H=>wi σ H fun J H1=>Comp J g tt te (fun ys H2=>∀ p,H2 p=none→D.nx (σ.set i (some (.ref p))) (upd H2 p (.lst ys))) (cst n fr σ) H1
theorem zao2 {i:Nat}{y:Str}{py spos:Pos} (hN:X.N.Nodup) (hy:X.N[i]?=some y) (hx:Loc X.env.scope y) (hc:X.calm=true) (cs:CompOk sc X.env.scope own X.N fr N') (hi:PI X tg iter wi)
  (hg:∀ cl C s H fp,PG (cxC X sc cl N' C s H fp) tg g) (hif:∀ cl C s H fp,PIf (cxC X sc cl N' C s H fp) ifs tt) (he:∀ cl C s H fp,PE (cxC X sc cl N' C s H fp) elt te)
  (hsw:swapsWith (.ListComp elt [⟨tg,iter,ifs,0⟩] sc pos) (some (.Name y py)) spos.line X.env=pure true) (hfn:X.fn y=true∨X.env.scope.names.lookup y=some .local:=by first | exact .inl rfl | exact .inr rfl | assumption) (hs:∀ x,foldedSetIterable iter X.env x=pure x:=by intro _; rfl) :
  PS X (.Assign [.Name y py] (.ListComp elt [⟨tg,iter,ifs,0⟩] sc pos) spos) (tSetC i own.length fr wi g tt te):=by
 intro pins s σ H D I h
 obtain ⟨cl,ecl,h1,h2⟩:=zae5 (env:=X.env) (sc:=sc) fun y hy hf=>I.ok.has y.1 (cs.fre y hy hf)
 rw [exec_Assign_Name_used _ _ _ _ hsw]
 refine wpAny_bind (wpAny_standAt (wpAny_bind ?_))
 show wpAny _ X.A (do let _ ← comprehension (.ListComp elt [⟨tg,iter,ifs,0⟩] sc pos) sc X.env _ (newList []) false (eval iter X.env) (some (assign (.Name y py) X.env))) _ _ s
 refine wpAny_bind (wpAny_mono (wpAny_comprehension_free (use:=some (assign (.Name y py) X.env)) (Q:=fun _ s'=>∃ σ' H',Inv X pins σ' H' s'∧D.nx σ' H') rfl hs ecl cs.kind cs.loc (thn (hi pins s σ H _ I h) fun v s1 q1=>thn q1 fun itv s2 q2=>?_))
  (fun _ s' hq=>wpAny_pure (wpAny_pure hq)) fun _ _ e=>e)
 obtain ⟨it,fp,tn,J,H2,rfl,I2,T,st,f2,KK⟩:=q2
 refine zaf0 (RR:=fun acc C=>compPost (model X.prog X.w) X.A X.xe (some (assign (.Name y py) X.env)) (fun _ s'=>∃ σ' H',Inv X pins σ' H' s'∧D.nx σ' H') acc C) I2 (fun _ _ _ _ _=>hc) T.x st f2 cs h1 h2 hg hif he KK fun p C m H' ys s' hC hn hD hCn hq I'=>?_
 obtain ⟨f0,f1,f2,f3,f4,f5⟩:=I2.fpOk hC hCn
 show wpAny _ X.A (assign (.Name y py) X.env (.ref p)) _ _ _
 refine wpAny_assign_Name (zag0 (v:=.ref p) I' hN hy hx rfl (fun s'' I'' ⟨a,hsa,ha⟩=>?_) hfn)
 have hCa:C≠a:=by
  rcases ha with z | z
  ·rw [z]; exact f1
  ·exact Ne.symm (f4 y a z)
 refine ⟨m,hn.sameBut hsa hCa,fun h' hs'=>⟨_,_,?_,hq p hD⟩⟩
 exact I''.turned (t':=s''.toks) (it:=C) (fun b o hb e=>(hs'.2 b hb).trans e) f0 f1 f3 f4 f5
end
theorem zae6 {J:It}{g:TG}{tt:TT}{te:TE}{Q:List V→Hp→Prop}{σ:St}{H:Hp} (n:Nat) (Pv:Nat→List V→St→Hp→Prop) (h0:Pv 0 [] σ H) (hl:∀ i ys σ H,i≤n→Pv i ys σ H→ys.length < sizeLine)
  (go:∀ i ys σ H,i < n→Pv i ys σ H→J.go i H) (stop:∀ ys σ H,Pv n ys σ H→J.stop n H)
  (turn:∀ i ys σ H,i < n→Pv i ys σ H→∀ x H',J.yld i H x H'→g x σ H' fun σ2 H2=>tt σ2 H2 fun b H3=>if b=true then te σ2 H3 fun y H4=>Pv (i + 1) (ys++[y]) σ2 H4 else Pv (i + 1) ys σ2 H3)
  (after:∀ ys σ H,Pv n ys σ H→Q ys H):Comp J g tt te Q σ H:=by
 refine ⟨fun i m ys σ H=>i≤n∧m=n - i∧Pv i ys σ H,⟨n,Nat.zero_le _,rfl,h0⟩,fun i m ys σ H ⟨hi,hm,p⟩=>⟨hl i ys σ H hi p,?_⟩⟩
 rcases Nat.lt_or_ge i n with h | h
 ·exact .inr ⟨go i ys σ H h p,Pv (i + 1),fun ys' σ' H' q=>⟨n - (i + 1),by omega,h,rfl,q⟩,turn i ys σ H h p⟩
 ·have e:i=n:=Nat.le_antisymm hi h
  subst e
  exact .inl ⟨stop ys σ H p,after ys σ H p⟩
theorem zae7 {K:PySem.W.Frag}{a:Addr} (xs:List V) {g:TG}{tt:TT}{te:TE}{Q:List V→Hp→Prop}{σ:St}{H:Hp} (Pv:Nat→List V→St→Hp→Prop) (hn:xs.length < sizeLine) (h0:Pv 0 [] σ H) (hl:∀ i ys σ H,i≤xs.length→Pv i ys σ H→ys.length≤i∧SqL K H a xs)
  (turn:∀ i ys σ H x,xs[i]?=some x→Pv i ys σ H→g x σ H fun σ2 H2=>tt σ2 H2 fun b H3=>if b=true then te σ2 H3 fun y H4=>Pv (i + 1) (ys++[y]) σ2 H4 else Pv (i + 1) ys σ2 H3)
  (after:∀ ys σ H,Pv xs.length ys σ H→Q ys H):Comp (Itl K a) g tt te Q σ H :=
 zae6 xs.length Pv h0 (fun i ys σ H hi p=>Nat.lt_of_le_of_lt (Nat.le_trans (hl i ys σ H hi p).1 hi) hn) (fun i ys σ H hi p=>⟨xs,xs[i],(hl i ys σ H (Nat.le_of_lt hi) p).2,List.getElem?_eq_getElem hi⟩)
  (fun ys σ H p=>⟨xs,(hl _ ys σ H (Nat.le_refl _) p).2,Nat.le_refl _⟩) (fun i ys σ H hi p x H' y=>by obtain ⟨rfl,y⟩:=y; exact turn i ys σ _ x (y xs (hl i ys σ _ (Nat.le_of_lt hi) p).2) p) after
theorem zaeo {K:PySem.W.Frag}{a:Addr} (xs:List V) {g:TG}{tt:TT}{te:TE}{Q:List V→Hp→Prop}{σ:St}{H:Hp} (Pv:Nat→List V→St→Hp→Prop) (hn:xs.length < sizeLine) (h0:Pv 0 [] σ H) (hl:∀ i ys σ H,i≤xs.length→Pv i ys σ H→ys.length≤i∧SqT K H a xs)
  (turn:∀ i ys σ H x,xs[i]?=some x→Pv i ys σ H→g x σ H fun σ2 H2=>tt σ2 H2 fun b H3=>if b=true then te σ2 H3 fun y H4=>Pv (i + 1) (ys++[y]) σ2 H4 else Pv (i + 1) ys σ2 H3)
  (after:∀ ys σ H,Pv xs.length ys σ H→Q ys H):Comp (Itt K a) g tt te Q σ H :=
 zae6 xs.length Pv h0 (fun i ys σ H hi p=>Nat.lt_of_le_of_lt (Nat.le_trans (hl i ys σ H hi p).1 hi) hn) (fun i ys σ H hi p=>⟨xs,xs[i],(hl i ys σ H (Nat.le_of_lt hi) p).2,List.getElem?_eq_getElem hi⟩)
  (fun ys σ H p=>⟨xs,(hl _ ys σ H (Nat.le_refl _) p).2,Nat.le_refl _⟩) (fun i ys σ H hi p x H' y=>by obtain ⟨rfl,y⟩:=y; exact turn i ys σ _ x (y xs (hl i ys σ _ (Nat.le_of_lt hi) p).2) p) after
end L2

namespace L2
open PySem PySem.Spec PyProof.Rows
open AutoSeq1 (wpAny_loadPart') in
set_option maxHeartbeats 4000000 in
theorem zae8 (k:SK) (l:Addr) (xs:Array Value) :
  Meets (Builtin.«enumerate.__new__» ⟨[.type "enumerate",.ref l],[]⟩) (fun _ R s=>SIs k s.heap l xs ∧
   R (.ok (.ret (.ref (s.heap.push (itObj k l)).objs.size))) { s with heap:=(s.heap.push (itObj k l)).push { cls:=.type "enumerate",data:=.fields #[.none,.bool false,.ref s.heap.objs.size,rawInt 0,.none,.none] } }):=by
 cases k with
 | list =>
  exact .of_wp fun prog w A R s h=>by
   obtain ⟨hp,g,d,tk,os⟩:=s; obtain ⟨hL,h⟩:=h
   have hsub:=sub_enumerate
   have hL:Heap.IsList (Shared.heap ⟨hp,g,d,tk,os⟩) l xs:=hL
   obtain ⟨ol,hl,hlc,nl,hld⟩:=id hL
   wp_walk using wpAny_loadPart' hl
   refine wpAny_stack_any fun st=>wpAny_pure ?_
   split
   ·rename_i c _ _ _ _ _
    cases (c == Value.type "enumerate")
    ·wp_walk using wpAny_loadPart' hl,wpAny_pyIter_list hL
     exact ⟨_,rfl,h⟩
    ·wp_walk using wpAny_loadPart' hl,wpAny_pyIter_list hL
     exact ⟨_,rfl,h⟩
   ·wp_walk using wpAny_loadPart' hl,wpAny_pyIter_list hL
    exact ⟨_,rfl,h⟩
 | tuple =>
  exact .of_wp fun prog w A R s h=>by
   obtain ⟨hp,g,d,tk,os⟩:=s; obtain ⟨hL,h⟩:=h
   have hsub:=sub_enumerate
   have hL:Heap.IsTuple (Shared.heap ⟨hp,g,d,tk,os⟩) l xs:=hL
   obtain ⟨ol,hl,hlc,nl,hld⟩:=id hL
   wp_walk using wpAny_loadPart' hl
   refine wpAny_stack_any fun st=>wpAny_pure ?_
   split
   ·rename_i c _ _ _ _ _
    cases (c == Value.type "enumerate")
    ·wp_walk using wpAny_loadPart' hl,wpAny_pyIter_tuple hL
     exact ⟨_,rfl,h⟩
    ·wp_walk using wpAny_loadPart' hl,wpAny_pyIter_tuple hL
     exact ⟨_,rfl,h⟩
   ·wp_walk using wpAny_loadPart' hl,wpAny_pyIter_tuple hL
    exact ⟨_,rfl,h⟩
section
variable {prog:Program}{w:World}{A:Around}{E:Value→Shared→Prop}{s:Shared}
theorem zajn {k:SK}{l:Addr}{xs:Array Value}{Q:Value→Shared→Prop} (hL:SIs k s.heap l xs)
  (h:∀ h',IsEnum h' (s.heap.objs.size + 1) s.heap.objs.size 0 .none→SIt k h' s.heap.objs.size l 0→(∀ b o,s.heap.get? b=some o→h'.get? b=some o)→Q (.ref (s.heap.objs.size + 1)) { s with heap:=h' }) :
  wpAny (model prog w) A (call (.type "enumerate") [.ref l]) Q E s:=by
 refine callType_new F.called_enumerate (by decide) (F.typeCall_enumerate_1 _) (F.newCall_enumerate_1 _) (fun obj=>F.args_object_init_2 obj _) F.entry_enumerate_new (zae8 k l xs) ⟨hL,?_⟩
 have hz:(s.heap.push (itObj k l)).objs.size=s.heap.objs.size + 1:=Heap.size_push ..
 have r1:(itObj k l).isFreed=false:=by cases k <;> rfl
 have he:=Heap.get?_push_size (s.heap.push (itObj k l)) (o:={ cls:=.type "enumerate",data:=.fields #[.none,.bool false,.ref s.heap.objs.size,rawInt 0,.none,.none] }) rfl
 rw [hz] at he
 show _∧_
 rw [hz]
 exact ⟨⟨_,he,rfl⟩,h _ he (zagh (Heap.get?_push_of_some _ (Heap.get?_push_size _ r1))) fun b o x=>Heap.get?_push_of_some _ (Heap.get?_push_of_some _ x)⟩
theorem zajo {k:SK}{e it l:Addr}{i:Nat}{items:Array Value}{x old:Value}{Q:Value→Shared→Prop}
  (he:IsEnum s.heap e it i old) (hit:SIt k s.heap it l i) (hl:SIs k s.heap l items) (hx:items[i]?=some x) (hne:e≠it)
  (hQ:∀ h',IsEnumOut h' e it ((i:Int) + 1) x s.heap.objs.size→SIt k h' it l (i + 1) →
   h'.get? s.heap.objs.size=some { cls:=.type "tuple",data:=.seq #[.int i s.toks,x] }→h'.objs.size=s.heap.objs.size + 1 →
   (∀ b o,b≠e→b≠it→s.heap.get? b=some o→h'.get? b=some o)→Q (.ref s.heap.objs.size) { s with heap:=h',toks:=s.toks + 1 }) :
  wpAny (model prog w) A (Builtin.«enumerate.__next__» ⟨[.ref e],[]⟩) (fun fin s'=>∃ v,fin=.done (.ret v)∧Q v s') E s:=by
 obtain ⟨hp,g,d,tk,os⟩:=s
 show wpAny _ _ (field (.ref e) 2 >>= _) _ _ _
 refine wpAny_bind (wpAny_field he rfl (x:=.ref it) rfl ?_)
 refine wpAny_bind (zac3 hit hl hx fun h₁ hit₁ hs₁=>?_)
 replace hs₁:Heap.SameBut it hp h₁:=hs₁
 have he₁:IsEnum h₁ e it i old:=(hs₁.2 e hne).trans he
 show wpAny _ _ (field (.ref e) 3 >>= _) _ _ ⟨h₁,g,d,tk,os⟩
 refine wpAny_bind (wpAny_field he₁ rfl (x:=rawInt i) rfl ?_)
 show wpAny _ _ (field (.ref e) 4 >>= _) _ _ ⟨h₁,g,d,tk,os⟩
 refine wpAny_bind (wpAny_field he₁ rfl (x:=.none) rfl ?_)
 show wpAny _ _ (mkInt i >>= _) _ _ ⟨h₁,g,d,tk,os⟩
 refine wpAny_bind (wpAny_mkInt ?_)
 show wpAny _ _ (setField (.ref e) 3 (rawInt ((i:Int) + 1)) >>= _) _ _ ⟨h₁,g,d,tk + 1,os⟩
 refine wpAny_bind (wpAny_setField_rec he₁ (by simp) fun h₂ he₂ hs₂=>?_)
 replace hs₂:Heap.SameBut e h₁ h₂:=hs₂
 replace he₂:IsEnum h₂ e it ((i:Int) + 1) old:=he₂
 show wpAny _ _ (setField (.ref e) 4 .none >>= _) _ _ ⟨h₂,g,d,tk + 1,os⟩
 refine wpAny_bind (wpAny_setField_rec he₂ (by simp) fun h₃ he₃ hs₃=>?_)
 replace hs₃:Heap.SameBut e h₂ h₃:=hs₃
 replace he₃:IsEnum h₃ e it ((i:Int) + 1) old:=he₃
 show wpAny _ _ (newTuple [.int i tk,x] >>= _) _ _ ⟨h₃,g,d,tk + 1,os⟩
 refine wpAny_bind (wpAny_newTuple ?_)
 have he₄:IsEnum (h₃.push { cls:=.type "tuple",data:=.seq #[.int i tk,x] }) e it ((i:Int) + 1) old:=Heap.get?_push_of_some _ he₃
 generalize hh₄:h₃.push { cls:=.type "tuple",data:=.seq #[.int i tk,x] }=h₄ at he₄
 have hsz:h₃.objs.size=hp.objs.size:=by rw [hs₃.1,hs₂.1,hs₁.1]
 have hel:e < hp.objs.size:=Heap.lt_size he
 have ht₄:h₄.get? hp.objs.size=some { cls:=.type "tuple",data:=.seq #[.int i tk,x] }:=by rw [← hh₄,← hsz]; exact Heap.get?_push_size _ rfl
 have hz₄:h₄.objs.size=hp.objs.size + 1:=by rw [← hh₄,Heap.size_push,hsz]
 have hk₄:∀ b o,b≠e→b≠it→hp.get? b=some o→h₄.get? b=some o:=fun b o hbe hbi hb=>by
  rw [← hh₄]; exact Heap.get?_push_of_some _ (hs₃.extBut b o hbe (hs₂.extBut b o hbe (hs₁.extBut b o hbi hb)))
 have hit₄:SIt k h₄ it l (i + 1):=by
  rw [← hh₄]; exact ((hit₁.ext hs₂.extBut (Ne.symm hne)).ext hs₃.extBut (Ne.symm hne)).at fun o ho=>Heap.get?_push_of_some _ ho
 show wpAny _ _ (Builtin.SmallTypes.ownedTupleIsFree (.ref e) >>= _) _ _ ⟨h₄,g,d,tk + 1,os⟩
 rw [hsz]
 clear hh₄ he₃ hs₃ he₂ hs₂ he₁ hs₁ hit₁ hsz h₃ h₂ h₁
 refine wpAny_bind ?_
 ·unfold Builtin.SmallTypes.ownedTupleIsFree
  refine wpAny_bind (wpAny_field he₄ rfl (x:=.none) rfl (wpAny_pure ?_))
  simp only [if_true]
  refine wpAny_bind (wpAny_rule ?_)
  refine wpAny_bind (wpAny_field he₄ rfl (x:=old) rfl ?_)
  refine wpAny_bind (wpAny_setField_rec he₄ (by simp) fun h₅ he₅ hs₅=>?_)
  replace hs₅:Heap.SameBut e h₄ h₅:=hs₅
  replace he₅:IsEnum h₅ e it ((i:Int) + 1) x:=he₅
  show wpAny _ _ (Builtin.SmallTypes.ownedTupleHandOut (.ref e) (.ref hp.objs.size) >>= _) _ _ ⟨h₅,g,d,tk + 1,os⟩
  refine wpAny_bind ?_
  ·unfold Builtin.SmallTypes.ownedTupleHandOut
   refine wpAny_bind (wpAny_setField_rec he₅ (by simp) fun h₆ he₆ hs₆=>?_)
   replace hs₆:Heap.SameBut e h₅ h₆:=hs₆
   replace he₆:IsEnumOut h₆ e it ((i:Int) + 1) x hp.objs.size:=he₆
   refine wpAny_setField_rec he₆ (by simp) fun h₇ he₇ hs₇=>?_
   replace hs₇:Heap.SameBut e h₆ h₇:=hs₇
   replace he₇:IsEnumOut h₇ e it ((i:Int) + 1) x hp.objs.size:=he₇
   refine wpAny_bind (wpAny_letGo (wpAny_pure ⟨_,rfl,hQ h₇ he₇ ?_ ?_ ?_ ?_⟩))
   ·exact ((hit₄.ext hs₅.extBut (Ne.symm hne)).ext hs₆.extBut (Ne.symm hne)).ext hs₇.extBut (Ne.symm hne)
   ·exact hs₇.extBut _ _ (Nat.ne_of_gt hel) (hs₆.extBut _ _ (Nat.ne_of_gt hel) (hs₅.extBut _ _ (Nat.ne_of_gt hel) ht₄))
   ·rw [hs₇.1,hs₆.1,hs₅.1,hz₄]
   ·exact fun b o hbe hbi hb=>hs₇.extBut b o hbe (hs₆.extBut b o hbe (hs₅.extBut b o hbe (hk₄ b o hbe hbi hb)))
theorem zad8 {k:SK}{e it l:Addr}{i:Nat}{items:Array Value}{x old:Value}{Q:Option Value→Shared→Prop}
  (he:IsEnum s.heap e it i old) (hit:SIt k s.heap it l i) (hl:SIs k s.heap l items) (hx:items[i]?=some x) (hne:e≠it)
  (hQ:∀ h',IsEnumOut h' e it ((i:Int) + 1) x s.heap.objs.size→SIt k h' it l (i + 1) →
   h'.get? s.heap.objs.size=some { cls:=.type "tuple",data:=.seq #[.int i s.toks,x] }→h'.objs.size=s.heap.objs.size + 1 →
   (∀ b o,b≠e→b≠it→s.heap.get? b=some o→h'.get? b=some o)→Q (some (.ref s.heap.objs.size)) { s with heap:=h',toks:=s.toks + 1 }) :
  wpAny (model prog w) A (pyNext (.ref e)) Q E s:=by
 have hT:s.TypeIs (.ref e) "enumerate" := ⟨_,he,rfl⟩
 unfold pyNext
 exact wpAny_bind (wpAny_attempt (wpAny_callSpecial?_slot (name:=Str.ofString "__next__") hT F.slot_enumerate_next
  (wpAny_call_entry F.slot_enumerate_next hT F.entry_enumerate_next
   (zajo he hit hl hx hne fun h' a b c d k=>wpAny_pure (hQ h' a b c d k)) (F.args_enumerate_next_1 _))))
theorem zaek {k:SK}{e it l:Addr}{i:Nat}{items:Array Value}{old:Value}{Q:Option Value→Shared→Prop} (hh:A.handled=none)
  (he:IsEnum s.heap e it i old) (hit:SIt k s.heap it l i) (hl:SIs k s.heap l items) (hx:items[i]?=none)
  (hQ:∀ h',Heap.ExtBut it s.heap h'→Q none { s with heap:=h' }):wpAny (model prog w) A (pyNext (.ref e)) Q E s:=by
 have hT:s.TypeIs (.ref e) "enumerate" := ⟨_,he,rfl⟩
 unfold pyNext
 refine wpAny_bind (wpAny_attempt (wpAny_callSpecial?_slot (name:=Str.ofString "__next__") hT F.slot_enumerate_next
  (wpAny_call_entry F.slot_enumerate_next hT F.entry_enumerate_next ?_ (F.args_enumerate_next_1 _))))
 show wpAny _ _ (field (.ref e) 2 >>= _) _ _ _
 refine wpAny_bind (wpAny_field he rfl (x:=.ref it) rfl ?_)
 refine wpAny_bind (zad4 hh hit hl hx fun h' x he' hx'=>?_)
 obtain ⟨o,ho,hc⟩:=hx'
 refine wpAny_bind (wpAny_isInstance (T := "StopIteration") (b:=true) ⟨o,ho,hc⟩ isSubtype_stop ?_)
 exact wpAny_pure (hQ _ he')
end
def Itn (K:PySem.W.Frag) (k:SK) (a:Addr):It :=
 ⟨fun i H=>∃ xs x,Sq k K H a xs∧xs[i]?=some x,
  fun i H v H'=>∃ T,H T=none∧v=.ref T∧∀ xs,Sq k K H a xs→∃ x,xs[i]?=some x∧H'=upd H T (.tup [.int i,x]),
  fun i H=>∃ xs,Sq k K H a xs∧xs.length≤i⟩
theorem zakx {P:Program}{w:World}{K:PySem.W.Frag}{elts:List Expr}{kk:Nat}{tpos:Pos}{k:SK}{e it a:Addr} (hne:e≠it) :
  Turn P w K (.Tuple elts kk tpos) (Itn K k a) [e,it] e (fun i h=>(∃ old,IsEnum h e it i old)∧SIt k h it a i) where
 mem:=by simp
 obj:=fun i h st b hb=>by
  obtain ⟨⟨old,he⟩,h1⟩:=st
  simp only [List.mem_cons,List.not_mem_nil,or_false] at hb
  rcases hb with rfl | rfl
  ·exact ⟨_,he,fun v q=>nomatch q⟩
  ·exact h1.obj
 keep:=fun i h h' st k=>by
  obtain ⟨⟨old,he⟩,h1⟩:=st
  exact ⟨⟨old,k _ (by simp) _ he⟩,h1.at fun o e=>k _ (by simp) o e⟩
 item:=by
  intro X hP hw hK hc i pins s σ H E I hf st hg
  subst hP hw hK
  obtain ⟨⟨old,he⟩,h1⟩:=st
  obtain ⟨xs,x,q1,hx⟩:=hg
  obtain ⟨ix,rx,px⟩:=I.sis q1
  obtain ⟨u,hu,ru⟩:=rx.get hx
  refine zad8 he h1 px (x:=u) (by simpa using hu) hne fun h' a1 a2 a3 a4 a5=>?_
  refine ⟨_,rfl,wpAny_letOwnedTupleGo_enum (s:={ s with heap:=h',toks:=s.toks + 1 }) a1 fun h'' b1 b2=>?_⟩
  have elt:e < s.heap.objs.size:=Heap.lt_size he
  have ilt:it < s.heap.objs.size:=by obtain ⟨o,ho,_⟩:=h1.obj; exact Heap.lt_size ho
  have k2:∀ c o,c ∉ [e,it]→s.heap.get? c=some o→h''.get? c=some o:=fun c o hc ec=>by
   simp only [List.mem_cons,List.not_mem_nil,or_false,not_or] at hc
   exact b2.extBut _ _ hc.1 (a5 c o hc.1 hc.2 ec)
  have hT2:h''.get? s.heap.objs.size=some { cls:=.type "tuple",data:=.seq #[.int i s.toks,u] }:=b2.extBut _ _ (Nat.ne_of_gt elt) a3
  refine ⟨.ref s.heap.objs.size,upd H s.heap.objs.size (.tup [.int i,x]),I.turnedNew (t':=s.toks + 1) (o:=.tup [.int i,x]) k2 hf (Nat.le_refl _)
   ⟨by show 2≤sizeLine; decide,[.int i s.toks,u],.cons ⟨_,rfl⟩ (.cons ru .nil),⟨_,hT2,rfl,_,rfl⟩⟩,rfl,
   ⟨_,I.hok.fresh (Nat.le_refl _),rfl,fun xs' e1=>?_⟩,⟨⟨u,by simpa using b1⟩,a2.at fun o eo=>b2.extBut _ _ (Ne.symm hne) eo⟩,fun b hb=>?_⟩
  ·rw [I.sq_inj e1 q1]
   exact ⟨x,hx,rfl⟩
  ·have blt:b < s.heap.objs.size:=by
    simp only [List.mem_cons,List.not_mem_nil,or_false] at hb
    rcases hb with rfl | rfl
    ·exact elt
    ·exact ilt
   rw [zaak (Nat.ne_of_lt blt)]
   exact (hf b hb).1
 done:=by
  intro X hP hw hK hc i pins s σ H E I hf st hg
  subst hP hw hK
  obtain ⟨⟨old,he⟩,h1⟩:=st
  obtain ⟨xs,q1,hl⟩:=hg
  obtain ⟨ix,rx,px⟩:=I.sis q1
  have l1:=rx.length
  refine zaek (I.ok.hd hc) he h1 px (by simp; omega) fun h' hk=>⟨rfl,I.turnedL (t':=s.toks) (its:=[e,it]) (fun b o hb eb=>?_) hf⟩
  simp only [List.mem_cons,List.not_mem_nil,or_false,not_or] at hb
  exact hk b o hb.2 eb
 self:=fun _ _ _ _ _ st h=>by
  obtain ⟨⟨old,he⟩,_⟩:=st
  exact wpAny_pyIter_enum he h
section
variable {X:Cx}{elts:List Expr}{kk:Nat}{tpos:Pos}
def iEnum (K:PySem.W.Frag) (k:SK) (ta:TA):TI:=fun σ H R=>ta σ H fun vs H1=>∃ a,vs=[.ref a]∧(∃ xs,Sq k K H1 a xs)∧R (Itn K k a) H1
theorem zao3 (k:SK) {a:Expr}{ta:TA}{p pos:Pos} (hg:Gl X "enumerate") (hm:X.mg "enumerate" = none) (ha:PA X [a] ta) (hs:starEach [a] X.env=[(false,eval a X.env)]:=by rfl) :
  PI X (.Tuple elts kk tpos) (.Call (.Name "enumerate" p) [a] [] pos) (iEnum X.K k ta):=by
 intro pins s σ H R I h
 refine Call_ (zaft I hg hm PyProof.Rows.Boot.«enumerate» (PyProof.Rows.callWith_type1 (thn (ha pos pins s σ H _ I h) fun us s1 ⟨vs,H1,I1,r1,q1⟩=>?_) hs rfl))
 obtain ⟨a',e,⟨xs,qx⟩,q⟩:=q1
 subst e
 cases r1 with
 | cons r rr =>
  cases rr
  cases r
  obtain ⟨ix,rx,px⟩:=I1.sis qx
  refine zajn px fun h' b1 b2 b3=>wpAny_pyIter_enum (s:={ s1 with heap:=h' }) b1 ?_
  have nn:∀ b,s1.heap.objs.size≤b→FpOk X pins H1 b:=fun b hb=>I1.fpOk hb (I1.hok.fresh hb)
  refine ⟨_,[s1.heap.objs.size + 1,s1.heap.objs.size],_,_,H1,rfl,I1.kept (t':=s1.toks) b3,zakx (k:=k) (Nat.ne_of_gt (Nat.lt_succ_self _)),⟨⟨_,b1⟩,b2⟩,fun b hb=>?_,q⟩
  simp only [List.mem_cons,List.not_mem_nil,or_false] at hb
  rcases hb with rfl | rfl
  ·exact nn _ (Nat.le_succ _)
  ·exact nn _ (Nat.le_refl _)
end
theorem zahf {K:PySem.W.Frag}{k:SK}{a:Addr}{xs:List V}{g:TG}{tb:TS}{D:Ends}{σ:St}{H:Hp} (Pv:Nat→St→Hp→Prop) (h0:Pv 0 σ H)
  (hl:∀ i σ H,i≤xs.length→Pv i σ H→Sq k K H a xs)
  (hs:∀ i x σ H T,xs[i]?=some x→Pv i σ H→H T=none→g (.ref T) σ (upd H T (.tup [.int i,x])) fun σ2 H2=>tb { D with nx:=Pv (i + 1),ct:=Pv (i + 1),bk:=D.nx } σ2 H2)
  (hd:∀ σ H,Pv xs.length σ H→D.nx σ H):Loop (Itn K k a) g tb D σ H:=by
 refine ⟨fun i m σ H=>m=xs.length - i∧i≤xs.length∧Pv i σ H,⟨xs.length,by simp,Nat.zero_le _,h0⟩,?_⟩
 rintro i m σ H ⟨rfl,hi,p⟩
 have q1:=hl i σ H hi p
 by_cases hlt:i < xs.length
 ·refine .inr ⟨⟨xs,xs[i],q1,by simp [hlt]⟩,Pv (i + 1),fun σ' H' p'=>⟨xs.length - (i + 1),by omega,rfl,hlt,p'⟩,fun x H' y=>?_⟩
  obtain ⟨T,hT,rfl,y⟩:=y
  obtain ⟨u,e1,rfl⟩:=y xs q1
  exact hs i u σ H T e1 p hT
 ·have e:i=xs.length:=by omega
  refine .inl ⟨⟨xs,q1,by omega⟩,?_⟩
  subst e
  exact hd σ H p
theorem zam2 {K:PySem.W.Frag}{k1 k2:SK}{a b:Addr} (xs zs:List V) {g:TG}{tt:TT}{te:TE}{Q:List V→Hp→Prop}{σ:St}{H:Hp} (Pv:Nat→List V→St→Hp→Prop) (hn:xs.length < sizeLine) (hz:xs.length=zs.length) (h0:Pv 0 [] σ H) (hl:∀ i ys σ H,i≤xs.length→Pv i ys σ H→ys.length≤i∧Sq k1 K H a xs∧Sq k2 K H b zs)
  (turn:∀ i ys σ H x z T,xs[i]?=some x→zs[i]?=some z→Pv i ys σ H→H T=none→g (.ref T) σ (upd H T (.tup [x,z])) fun σ2 H2=>tt σ2 H2 fun b H3=>if b=true then te σ2 H3 fun y H4=>Pv (i + 1) (ys++[y]) σ2 H4 else Pv (i + 1) ys σ2 H3)
  (after:∀ ys σ H,Pv xs.length ys σ H→Q ys H):Comp (Itz K k1 k2 a b) g tt te Q σ H :=
 zae6 xs.length Pv h0 (fun i ys σ H hi p=>Nat.lt_of_le_of_lt (Nat.le_trans (hl i ys σ H hi p).1 hi) hn)
  (fun i ys σ H hi p=>⟨xs,zs,xs[i],zs[i]'(hz ▸ hi),(hl i ys σ H (Nat.le_of_lt hi) p).2.1,(hl i ys σ H (Nat.le_of_lt hi) p).2.2,List.getElem?_eq_getElem hi,List.getElem?_eq_getElem (hz ▸ hi)⟩)
  (fun ys σ H p=>⟨xs,zs,(hl _ ys σ H (Nat.le_refl _) p).2.1,(hl _ ys σ H (Nat.le_refl _) p).2.2,.inl (Nat.le_refl _)⟩) (fun i ys σ H hi p x H' y=>by
   obtain ⟨T,hT,rfl,y⟩:=y
   obtain ⟨u,v,e1,e2,rfl⟩:=y xs zs (hl i ys σ _ (Nat.le_of_lt hi) p).2.1 (hl i ys σ _ (Nat.le_of_lt hi) p).2.2
   exact turn i ys σ _ u v T e1 e2 p hT) after
end L2

namespace L2
open PySem PySem.Spec PyProof.Rows
theorem ObjOk.has {P:Program}{w:World}{H:Hp}{h:Heap}{a:Addr}:∀ {o:HO},ObjOk P w H h a o→∃ ob,h.get? a=some ob
 | .lst _,⟨_,_,_,_,e⟩=>⟨_,e⟩
 | .tup _,⟨_,_,_,o,e,_⟩=>⟨o,e⟩
 | .dK _,⟨_,_,_,_,o,_,_,e,_⟩=>⟨o,e⟩
 | .dT _,⟨_,_,_,_,o,_,_,e,_⟩=>⟨o,e⟩
 | .set _ _,⟨o,_,_,_,e,_⟩=>⟨o,e⟩
 | .ins _ _ _,⟨_,_,_,e,_⟩=>⟨_,e⟩
 | .own _,x=>x
 | .xd _,⟨_,⟨o,_,_,e,_⟩,_⟩=>⟨o,e⟩
 | .rng _ _,⟨_,_,_,e⟩=>⟨_,e⟩
 | .frz _ _,⟨e,_⟩=>⟨_,e⟩
 | .tbl _,e=>⟨_,e⟩
 | .met _ _,e=>⟨_,e⟩
 | .ext _,⟨_,e,_⟩=>e
theorem HOk.has {P:Program}{w:World}{H:Hp}{h:Heap}{a:Addr}{o:HO} (x:HOk P w H h) (e:H a=some o):∃ ob,h.get? a=some ob:=(x a o e).has
section
variable {X:Cx}
theorem zah4 {prog:Program}{w:World}{A:Around}{bs:List Bool}:TruthOf prog w A (fun i v=>(bs.map fun b=>Value.bool b).toArray[i]?=some v) (fun i=>bs.getD i false):=by
 intro i v s Q E hP hQ
 have hP':(bs.map fun b=>Value.bool b)[i]?=some v:=by simpa using hP
 rw [List.getElem?_map] at hP'
 cases e:bs[i]? with
 | none=>rw [e] at hP'; cases hP'
 | some b =>
  rw [e] at hP'
  cases hP'
  have:bs.getD i false=b:=by rw [List.getD_eq_getElem?_getD,e]; rfl
  have hQ:Q (bs.getD i false) s:=hQ
  rw [this] at hQ
  exact wpAny_pure hQ
theorem zaky (bs:List Bool):((List.range bs.length).all fun i=>bs.getD i false)=bs.all id:=by
 rw [Bool.eq_iff_iff,List.all_eq_true,List.all_eq_true]
 constructor
 ·intro h b hb
  obtain ⟨i,hi,rfl⟩:=List.mem_iff_getElem.mp hb
  have:=h i (List.mem_range.mpr hi)
  rw [List.getD_eq_getElem?_getD,List.getElem?_eq_getElem hi] at this
  exact this
 ·intro h i hi
  have hi:=List.mem_range.mp hi
  rw [List.getD_eq_getElem?_getD,List.getElem?_eq_getElem hi]
  exact h _ (List.getElem_mem hi)
theorem zaf1:∀ {bs:List Bool}{its:List Value},Vals (bs.map V.bl) its→its=bs.map fun b=>Value.bool b
 | [],_,.nil=>rfl
 | b :: bs,_,.cons r t=>by rw [List.map_cons,zaf1 t]; cases r; rfl
theorem zaep (hc:X.calm=true):CallR X (.builtin "all") (fun xs H Q=>∃ (p:Addr) (bs:List Bool),xs=[.ref p]∧H p=some (.lst (bs.map V.bl))∧Q (.bl (bs.all id)) H):=by
 intro pins s σ H xs us Q I r h
 obtain ⟨p,bs,rfl,hp,q⟩:=h
 obtain ⟨u,rfl,ru⟩:=vals1 r
 cases ru
 obtain ⟨z,its,n,rv,e⟩:=I.hok p _ hp
 have ei:=zaf1 rv
 subst ei
 have hl:s.heap.IsList p (bs.map fun b=>Value.bool b).toArray:=⟨_,e,rfl,n,rfl⟩
 refine call_all_walk (wpAny_pyIter_list hl ?_)
 have hne:p≠s.heap.objs.size:=Nat.ne_of_lt (Heap.lt_size e)
 refine ⟨s.heap.objs.size,_,_,_,_,_,_,rfl,Walks.list (by first | exact I.ok.hd hc | (show X.A.in1.handled=none; exact I.ok.hd hc)) s.heap.objs.size p hne (bs.map fun b=>Value.bool b).toArray,
  ⟨⟨_,Heap.get?_push_size _ rfl,rfl,rfl⟩,⟨_,Heap.get?_push_of_some _ e,rfl,n,rfl⟩⟩,zah4,fun h' tk hk=>?_⟩
 have sz:(bs.map fun b=>Value.bool b).toArray.size=bs.length:=by simp
 rw [sz,zaky]
 exact ⟨.bl (bs.all id),H,I.kept (t':=tk) fun b o eb=>hk b o (by simp; exact Nat.ne_of_lt (Heap.lt_size eb)) (Heap.get?_push_of_some _ eb),rfl,q⟩
end
end L2

namespace L2
open PySem PySem.Spec PyProof.Rows
section
variable {X:Cx}{pins:List (Addr × Obj)}{σ:St}{H:Hp}{s:Shared}{A:Around}{E:Value→Shared→Prop}{Q:Value→Shared→Prop}{b:Bool}
theorem zajp {x:V}{u t:Value}{tp:Addr}{its:List Value}{o:Obj}{n:Nat} (I:Inv X pins σ H s) (rx:RelV x u) (ty:TyOf X.K H x t) (ho:s.heap.get? tp=some o) (hoc:o.cls=.type "tuple") (hod:o.data=.seq its.toArray n)
  (e:PySem.W.kitAny X.K t its=some b) (h:∀ tk,Q (.bool b) { s with toks:=tk }) :
  wpAny (model X.prog X.w) A (call (.builtin "isinstance") [u,.ref tp]) Q E s:=by
 obtain ⟨c0,d0,t0,l0⟩:=o
 replace hoc:c0=.type "tuple" := hoc
 replace hod:t0=.seq its.toArray n:=hod
 subst hoc hod
 cases ty with
 | non=>cases (show u=Value.none from rx); exact PySem.W.kia_tup PySem.W.kitx_none I.kIn True.intro ho e (fun z=>nomatch z) h
 | bl y=>cases (show u=Value.bool y from rx); exact PySem.W.kia_tup PySem.W.kitx_bool I.kIn True.intro ho e (fun z=>nomatch z) h
 | int i=>obtain ⟨t,q⟩:=(show ∃ t,u=Value.int i t from rx); cases q; exact PySem.W.kia_tup PySem.W.kitx_int I.kIn True.intro ho e (fun z=>nomatch z) h
 | str y=>obtain ⟨t,q⟩:=(show ∃ t,u=Value.str y t from rx); cases q; exact PySem.W.kia_tup PySem.W.kitx_str I.kIn True.intro ho e (fun z=>nomatch z) h
 | flt y=>obtain ⟨t,q⟩:=(show ∃ t,u=Value.float y t from rx); cases q; exact PySem.W.kia_tup PySem.W.kitx_float I.kIn True.intro ho e (fun z=>nomatch z) h
 | @lst a xs ea =>
  cases (show u=Value.ref a from rx)
  obtain ⟨_,_,n,_,h1⟩:=(show ObjOk X.prog X.w H s.heap a (.lst xs) from I.hok a _ ea)
  exact PySem.W.kia_tup PySem.W.kitx_list I.kIn ⟨_,h1,rfl⟩ ho e (fun z=>nomatch z) h
 | @frz a ob xs ea =>
  cases (show u=Value.ref a from rx)
  obtain ⟨_,_,_,n,_,h1⟩:=(show ObjOk X.prog X.w H s.heap a (.frz ob (.lst xs)) from I.hok a _ ea)
  exact PySem.W.kia_tup PySem.W.kitx_list I.kIn ⟨_,h1,rfl⟩ ho e (fun z=>nomatch z) h
 | @tup a xs ea =>
  cases (show u=Value.ref a from rx)
  obtain ⟨_,_,_,p⟩:=(show ObjOk X.prog X.w H s.heap a (.tup xs) from I.hok a _ ea)
  obtain ⟨o,h1,h2,_⟩:=p
  exact PySem.W.kia_tup PySem.W.kitx_tuple I.kIn ⟨o,h1,h2⟩ ho e (fun z=>nomatch z) h
 | @dK a kvs ea =>
  cases (show u=Value.ref a from rx)
  obtain ⟨_,_,vs,_,p⟩:=(show ObjOk X.prog X.w H s.heap a (.dK kvs) from I.hok a _ ea)
  obtain ⟨o,es,ep,h1,h2,_⟩:=p
  exact PySem.W.kia_tup PySem.W.kitx_dict I.kIn ⟨o,h1,h2.1⟩ ho e (fun z=>nomatch z) h
 | @dT a kvs ea =>
  cases (show u=Value.ref a from rx)
  obtain ⟨_,_,xs,_,o,es,ep,h1,h2,_⟩:=(show ObjOk X.prog X.w H s.heap a (.dT kvs) from I.hok a _ ea)
  exact PySem.W.kia_tup PySem.W.kitx_dict I.kIn ⟨o,h1,h2.1⟩ ho e (fun z=>nomatch z) h
 | @ins a C dx fs ea cl ha hn htk hm =>
  cases (show u=Value.ref a from rx)
  obtain ⟨mA,O,_⟩:=zaev I.hok ea
  obtain ⟨od,J,_⟩:=O.look
  exact PySem.W.kia_tup (PySem.W.kitx_own (cl.get _) cl.hd ha hn htk hm) I.kIn J ho e (fun z=>nomatch z) h
end
def rIsTs (K:PySem.W.Frag):List V→Hp→VK→Prop:=fun xs H Q=>∃ (x:V) (p:Addr) (Ts:List String) (t:Value) (b:Bool),xs=[x,.ref p]∧H p=some (.tup (Ts.map V.ty))∧TyOf K H x t∧PySem.W.kitAny K t (Ts.map Value.type)=some b∧Q (.bl b) H
theorem zaiv:∀ {Ts:List String}{us:List Value},Vals (Ts.map V.ty) us→us=Ts.map Value.type
 | [],_,.nil=>rfl
 | T :: Ts,_,.cons r t=>by rw [List.map_cons,zaiv t]; cases r; rfl
theorem zakz {X:Cx}:CallR X (.builtin "isinstance") (rIsTs X.K):=by
 intro pins s σ H xs us Q I r h
 obtain ⟨x,p,Ts,t,b,rfl,hp,ty,e,q⟩:=h
 obtain ⟨u,v,rfl,ru,rv⟩:=vals2 r
 cases rv
 obtain ⟨_,its,rt,o,ho,hoc,n,hod⟩:=I.hok p _ hp
 have:=zaiv rt
 subst this
 exact zajp I ru ty ho hoc hod e fun tk=>⟨.bl b,H,I.tok _,rfl,q⟩
example (K:PySem.W.Frag):PySem.W.kitAny K (.type "list") [.type "list",.type "tuple"]=some true:=rfl
example (K:PySem.W.Frag):PySem.W.kitAny K (.type "tuple") [.type "list",.type "tuple"]=some true:=rfl
example (K:PySem.W.Frag):PySem.W.kitAny K (.type "int") [.type "list",.type "tuple"]=some false:=rfl
end L2

namespace L2
open PySem PySem.Spec PyProof.Rows
structure MethOk (P:Program) (w:World) (K:PySem.W.Frag) (mg:Str→Option Value) (base:Heap) (CX:CXT) (k:Nat) (C:Addr) (m:Str) (ps:List Str) (sp:Sp):Prop where
 cl:Cls K C
 ex:∃ (f:Addr) (fd:FuncData),FnOk P w K mg base CX k f fd ps sp∧Binds K fd ps []∧Meth K C m f
theorem MethOk.mono {P:Program}{w:World}{K:PySem.W.Frag}{mg:Str→Option Value}{base:Heap}{CX:CXT}{j k:Nat}{C:Addr}{m:Str}{ps:List Str}{sp:Sp} (D:MethOk P w K mg base CX j C m ps sp) (h:j≤k):MethOk P w K mg base CX k C m ps sp:=by
 obtain ⟨f,fd,F,b⟩:=D.ex
 exact ⟨D.cl,f,fd,F.mono h,b⟩
structure MakeOk (P:Program) (w:World) (K:PySem.W.Frag) (mg:Str→Option Value) (base:Heap) (CX:CXT) (k:Nat) (C:Addr) (x:Str) (ps:List Str) (sp:Sp):Prop where
 ex:∃ (f:Addr) (fd:FuncData),FnOk P w K mg base CX k f fd ps sp∧Binds K fd ps []∧Mk K C f∧mg x=some (.ref C)
theorem MakeOk.mono {P:Program}{w:World}{K:PySem.W.Frag}{mg:Str→Option Value}{base:Heap}{CX:CXT}{j k:Nat}{C:Addr}{x:Str}{ps:List Str}{sp:Sp} (D:MakeOk P w K mg base CX j C x ps sp) (h:j≤k):MakeOk P w K mg base CX k C x ps sp:=by
 obtain ⟨f,fd,F,b⟩:=D.ex
 exact ⟨f,fd,F.mono h,b⟩
section
variable {X:Cx}{CX:CXT}{k:Nat}{C:Addr}{ps:List Str}{sp:Sp}{E:XK}{x m:Str}{p pos apos:Pos}{e o:Expr}{es:List Expr}{ta:TE}{t:TA}
theorem zada {pl:Sem Bool} (he:Pr (PE X o ta)) (D:MethOk X.prog X.w X.K X.mg X.base CX k C m ps sp) (hr:Room k X.A) (hx:Passes CX X E) (ha:Pr (PA X (e :: es) t))
  (hst:starEach (e :: es) X.env=(false,eval e X.env) :: starEach es X.env:=by rfl) (hpl:(backTo pos (starEach es X.env)).any (·.1)=false:=by rfl)
  (ht:eval (.Call (.Attribute o m apos) (e :: es) [] pos) X.env=(do
   let ov ← eval o X.env
   standAt apos.atName
   let (f,first) ← holding [ov] (getMethod ov m pl)
   callWith pos f first (backTo pos (starEach (e :: es) X.env)) (backToKw pos (keywordEach [] X.env))):=by rfl) :
  Pr (PE X (.Call (.Attribute o m apos) (e :: es) [] pos) (tMeth C m sp [] E ta t)):=by
 obtain ⟨f,fd,F,b,hm⟩:=D.ex
 exact ⟨zaol he.h D.cl hm F hr b .nil hx ha.h hst hpl ht⟩
theorem zad9 {pl:Sem Bool} (he:Pr (PE X o ta)) (D:MethOk X.prog X.w X.K X.mg X.base CX k C m ps sp) (hr:Room k X.A) (hx:Passes CX X E)
  (ht:eval (.Call (.Attribute o m apos) [] [] pos) X.env=(do
   let ov ← eval o X.env
   standAt apos.atName
   let (f,first) ← holding [ov] (getMethod ov m pl)
   callWith pos f first (backTo pos (starEach [] X.env)) (backToKw pos (keywordEach [] X.env))):=by rfl) :
  Pr (PE X (.Call (.Attribute o m apos) [] [] pos) (tMeth C m sp [] E ta tNil)):=by
 obtain ⟨f,fd,F,b,hm⟩:=D.ex
 exact ⟨zaml he.h D.cl hm F hr b .nil hx ht⟩
theorem zadb (D:MakeOk X.prog X.w X.K X.mg X.base CX k C x ps sp) (hr:Room (k + 1) X.A) (hg:Gl X x) (hx:Passes CX X E)
  (ha:Pr (PA X (e :: es) t)) (hdb:(x == ("__debug__" : Str))=false:=by decide) (he:starEach (e :: es) X.env=(false,eval e X.env) :: starEach es X.env:=by rfl) (hpl:(backTo pos (starEach es X.env)).any (·.1)=false:=by rfl) :
  Pr (PE X (.Call (.Name x p) (e :: es) [] pos) (tMake C sp [] E t)):=by
 obtain ⟨f,fd,F,b,M,hm⟩:=D.ex
 exact ⟨zaom M F hr hg hm b .nil hx ha.h hdb he hpl⟩
end
section
variable {X:Cx}{sc:Scope}{own:List Str}{fr:List Nat}{N':List Str}{tg elt iter:Expr}{ifs:List Expr}{g:TG}{tt:TT}{te:TE}{wi:TI}{pos:Pos}
theorem zabw:Pr (PIf X [] tYes):=⟨zao0⟩
theorem zacc (hc:X.calm=true) (cs:CompOk sc X.env.scope own X.N fr N') (hi:Pr (PI X tg iter wi)) (hg:∀ cl C s H fp,Pr (PG (cxC X sc cl N' C s H fp) tg g)) (hif:∀ cl C s H fp,Pr (PIf (cxC X sc cl N' C s H fp) ifs tt))
  (he:∀ cl C s H fp,Pr (PE (cxC X sc cl N' C s H fp) elt te)) (hs:∀ x,foldedSetIterable iter X.env x=pure x:=by intro _; rfl):Pr (PE X (.ListComp elt [⟨tg,iter,ifs,0⟩] sc pos) (tComp own.length fr wi g tt te)) :=
 ⟨zao1 hc cs hi.h (fun a b c d e=>(hg a b c d e).h) (fun a b c d e=>(hif a b c d e).h) (fun a b c d e=>(he a b c d e).h) hs⟩
theorem zagk {i:Nat}{y:Str}{py spos:Pos} (hN:X.N.Nodup) (hy:X.N[i]?=some y) (hx:Loc X.env.scope y) (hc:X.calm=true) (cs:CompOk sc X.env.scope own X.N fr N') (hi:Pr (PI X tg iter wi))
  (hg:∀ cl C s H fp,Pr (PG (cxC X sc cl N' C s H fp) tg g)) (hif:∀ cl C s H fp,Pr (PIf (cxC X sc cl N' C s H fp) ifs tt)) (he:∀ cl C s H fp,Pr (PE (cxC X sc cl N' C s H fp) elt te))
  (hsw:swapsWith (.ListComp elt [⟨tg,iter,ifs,0⟩] sc pos) (some (.Name y py)) spos.line X.env=pure true) (hfn:X.fn y=true∨X.env.scope.names.lookup y=some .local:=by first | exact .inl rfl | exact .inr rfl | assumption) (hs:∀ x,foldedSetIterable iter X.env x=pure x:=by intro _; rfl) :
  Pr (PS X (.Assign [.Name y py] (.ListComp elt [⟨tg,iter,ifs,0⟩] sc pos) spos) (tSetC i own.length fr wi g tt te)) :=
 ⟨zao2 hN hy hx hc cs hi.h (fun a b c d e=>(hg a b c d e).h) (fun a b c d e=>(hif a b c d e).h) (fun a b c d e=>(he a b c d e).h) hsw hfn hs⟩
theorem zaiw (k:SK) {elts:List Expr}{kk:Nat}{tpos:Pos}{a:Expr}{ta:TA}{p pos:Pos} (hg:Gl X "enumerate") (hm:X.mg "enumerate" = none) (ha:Pr (PA X [a] ta)) (hs:starEach [a] X.env=[(false,eval a X.env)]:=by rfl) :
  Pr (PI X (.Tuple elts kk tpos) (.Call (.Name "enumerate" p) [a] [] pos) (iEnum X.K k ta)):=⟨zao3 k hg hm ha.h hs⟩
theorem zabs:Pr (PE X (.Dict [] [] pos) tDNewK):=⟨zamu⟩
theorem zahg {o e f:Expr}{td ty tx:TE}{apos cpos:Pos} (hu:X.A.units + 1 < cLine) (ho:Pr (PE X o td)) (he:Pr (PE X e ty)) (hf:Pr (PE X f tx)) (m:M2 X o "get" apos e f cpos):Pr (PE X (.Call (.Attribute o "get" apos) [e,f] [] cpos) (tDGet2 td ty tx)):=⟨zamv hu ho.h he.h hf.h m⟩
theorem zahh {st:Stmt}:Pr (PS X st tNever):=⟨zamc⟩
theorem compOk {sc outer:Scope}{own N:List Str}{fr:List Nat}{N':List Str} (h1:sc.kind=.function) (h2:∀ y∈sc.names,y.2≠.cell) (h3:∀ y∈sc.names,y.2=.local→sc.names.lookup y.1=some .local)
  (h4:∀ y∈sc.names,y.2=.free→outer.names.lookup y.1=some .cell∨outer.names.lookup y.1=some .free) (h5:N'.Nodup) (h6:N'.map some=own.map some++fr.map fun j=>N[j]?)
  (h7:∀ x∈fr.filterMap (fun j=>N[j]?),sc.names.lookup x=some .free∧(outer.names.lookup x=some .cell∨outer.names.lookup x=some .free)):CompOk sc outer own N fr N' :=
 ⟨h1,h2,h3,h4,h5,h6,fun j hj x hx=>h7 x (List.mem_filterMap.mpr ⟨j,hj,hx⟩)⟩
end
def rIsT2 (K:PySem.W.Frag):List V→Hp→VK→Prop:=fun xs H Q=>∃ (x:V) (p:Addr) (T1 T2:String) (t:Value) (b:Bool),xs=[x,.ref p]∧H p=some (.tup [.ty T1,.ty T2])∧TyOf K H x t∧PySem.W.kitAny K t [.type T1,.type T2]=some b∧Q (.bl b) H
theorem zae9 {X:Cx}:CallR X (.builtin "isinstance") (rIsT2 X.K):=fun pins s σ H xs us Q I r h=>by
 obtain ⟨x,p,T1,T2,t,b,e,hp,ty,k,q⟩:=h
 exact zakz pins s σ H xs us Q I r ⟨x,p,[T1,T2],t,b,e,hp,ty,k,q⟩
theorem iteD {c:Prop} [Decidable c] {A B:Prop} (hc:c) (h:A):if decide c=true then A else B:=by rw [if_pos (decide_eq_true hc)]; exact h
theorem iteNn {c:Prop} [Decidable c] {A B:Prop} (hc:c) (h:B):if (!decide c)=true then A else B:=by rw [if_neg (by simp [hc])]; exact h
def Tu (H H':Hp):Prop:=∀ b xs,H b=some (.tup xs)→H' b=some (.tup xs)
theorem Tu.refl (H:Hp):Tu H H:=fun _ _ h=>h
theorem Tu.trans {H H1 H2:Hp} (a:Tu H H1) (b:Tu H1 H2):Tu H H2:=fun c xs h=>b c xs (a c xs h)
theorem Tu.same {H H':Hp} (c:Ch [] H H'):Tu H H':=fun b xs h=>c b _ h (by simp)
theorem Tu.ch {H H':Hp}{b:Addr}{o:HO} (c:Ch [b] H H') (hb:H b=some o) (ho:∀ xs,o≠.tup xs):Tu H H':=fun d xs h=>c d _ h (by
 intro z
 have e:d=b:=by simpa using z
 subst e
 rw [hb] at h
 exact ho xs (Option.some.inj h))
theorem Tu.lst {H H':Hp}{b:Addr}{ys:List V} (c:Ch [b] H H') (hb:H b=some (.lst ys)):Tu H H':=Tu.ch c hb (fun xs z=>by cases z)
theorem Tu.new {H:Hp}{p:Addr} (o:HO) (h:H p=none):Tu H (upd H p o):=Tu.same (Ch.new h o)
end L2

namespace L2
open PySem PySem.Spec PyProof.Rows
section
variable {X:Cx}{a b o e value:Expr}{es:List Expr}{f:Str}{ta tb te:TE}{pos:Pos}{tg l:Expr}
theorem zadx (K:PySem.W.Frag) (hK:X.K=K):IxR X (aIxL K):=hK ▸ zaav
theorem zaix (K:PySem.W.Frag) (hK:X.K=K):IxR X (aIxT K):=hK ▸ zaaj
theorem zaf2 (K:PySem.W.Frag) (hK:X.K=K):OpR X (compareOp .In) (rIn K false):=hK ▸ zae0
theorem zak0 (K:PySem.W.Frag) (hK:X.K=K) {tl:TE} (hl:Pr (PE X l tl)):Pr (PI X tg l (iList K tl)):=hK ▸ ⟨zaj2 hl.h⟩
theorem zam3 (K:PySem.W.Frag) (hK:X.K=K) {tl:TE} (hl:Pr (PE X l tl)):Pr (PI X tg l (iTup K tl)):=hK ▸ ⟨zanp hl.h⟩
theorem zadi (K:PySem.W.Frag) (n:Nat) (hK:X.K=K) {k:Nat}{t:TGs} (hc:X.calm=true) (h:Pr (PGs X es t)) (hn:(assignEach es X.env).length=n:=by rfl) (hst:(assignEach es X.env).findIdx? (·.1)=none:=by rfl) :
  Pr (PG X (.Tuple es k pos) (gTup K n t)):=hK ▸ ⟨zano hc h.h hn hst⟩
end
end L2

namespace L2
open PySem PySem.Spec PyProof.Rows
theorem zak1 (f:Array Value→Array Value) (o:Obj):(o.mapFields f).dict=o.dict:=by
 obtain ⟨_,_,d,_⟩:=o
 cases d <;> rfl
structure Fl (h:Heap) (e C:Addr) (dx:Option Addr) (T:Addr) (fl:Value):Prop where
 ob:∃ oe vs,h.get? e=some oe∧(oe.cls=.ref C∧oe.dict=dx)∧oe.data=.fields vs∧vs[1]?=some (.ref T)∧vs[2]?=some .none
 tb:∃ oT ts,h.get? T=some oT∧oT.data=.fields ts∧ts[3]?=some fl
 ne:T≠e
def KB (ex fs:List Addr) (h h':Heap):Prop:=∀ b o,h.get? b=some o→b ∉ ex→(b ∉ fs→h'.get? b=some o)∧∃ sl,h'.get? b=some { o with slots:=sl }
theorem KB.trans {ex ex' fs:List Addr}{h h1 h2:Heap} (a:KB ex fs h h1) (b:KB ex' fs h1 h2):KB (ex++ex') fs h h2:=fun c o e n=>by
 simp only [List.mem_append,not_or] at n
 obtain ⟨k1,sl,k2⟩:=a c o e n.1
 refine ⟨fun hf=>(b c o (k1 hf) n.2).1 hf,?_⟩
 obtain ⟨_,sl',k3⟩:=b c _ k2 n.2
 exact ⟨sl',k3⟩
section
variable {M:Model}{A:Around}{E:Value→Shared→Prop}{s:Shared}{base:Heap}{env:Env}{outer:List Env}{L e C T:Addr}{dx:Option Addr}{Q:Unit→Shared→Prop}
theorem zaiy {oe:Obj}{vs:Array Value}{head:Value}{hn:Bool} (hfr:A.frames=some (env :: outer)) (hl:s.heap.FunFrames base (env :: outer)) (hf:env.frame=some L)
  (ge:s.heap.get? e=some oe) (gc:oe.cls=.ref C∧oe.dict=dx) (gd:oe.data=.fields vs) (g1:1 < vs.size) (g2:vs[2]?=some .none)
  (k:∀ h' T,KB [e] (frs (env :: outer)) s.heap h'→Fl h' e C dx T (rawInt L)→s.heap.get? T=none→Q () { s with heap:=h' }) :
  wpAny M A (do
   let fo ← frameOf env
   let pl ← entryPlaceOf L hn
   let en ← EntryCells.newEntry head fo .none (rawInt L) .none pl
   setField (.ref e) 1 en) Q E s:=by
 have nf:e ∉ frs (env :: outer):=fun z=>by
  obtain ⟨_,o,ho,no⟩:=hl.mem z
  rw [ge] at ho
  cases ho
  exact no vs gd
 refine wpAny_bind (wpAny_frameOf_fun hfr hl hf fun ha so=>?_)
 refine wpAny_bind (wpAny_entryPlaceOf fun pl ip=>?_)
 unfold EntryCells.newEntry newFields
 refine wpAny_bind (wpAny_newObj_type ?_ (ip.sizeOk5 _ _ _ _ _))
 have ea:ha.get? e=some oe:=by rw [so.2.1 e nf]; exact ge
 have neT:ha.objs.size≠e:=Nat.ne_of_gt (Heap.lt_size ea)
 refine wpAny_setField (Heap.get?_push_of_some _ ea) gd g1 (k _ ha.objs.size (fun b o hb hbe=>?_) ⟨⟨_,_,Heap.get?_update_self _ (Heap.get?_push_of_some _ ea) (Obj.isFreed_of_fields (Obj.data_mapFields gd _)),?_,Obj.data_mapFields gd _,?_,?_⟩,?_,neT⟩ ?_)
 ·have n1:e≠b:=fun z=>hbe (by simp [z])
  obtain ⟨sl,q⟩:=so.2.2 b o hb
  refine ⟨fun nb=>?_,sl,?_⟩
  ·rw [Heap.get?_update_other _ _ n1]
   refine Heap.get?_push_of_some _ ?_
   rw [so.2.1 b nb]
   exact hb
  ·rw [Heap.get?_update_other _ _ n1]
   exact Heap.get?_push_of_some _ q
 ·rw [Obj.cls_mapFields,zak1]; exact gc
 ·simp [g1]
 ·rw [Array.getElem?_setIfInBounds_ne (by decide)]; exact g2
 ·have q:=(Heap.get?_update_other (ha.push { cls:=.type "traceback",dict:=none,data:=.fields ([head,.ref L,.none,rawInt L,.none]++(if pl.isEmpty then List.replicate 6 Value.none else pl)).toArray }) (Obj.mapFields (·.setIfInBounds 1 (Value.ref ha.objs.size))) (Ne.symm neT)).trans (Heap.get?_push_size ha rfl)
  refine ⟨_,_,q,rfl,?_⟩
  rcases ip with rfl | ⟨_,_,_,_,_,_,_,rfl⟩ <;> simp
 ·exact Heap.get?_none_of_le (by rw [so.1]; exact Nat.le_refl _)
theorem zak2 {fl:Value} (f:Fl s.heap e C dx T fl) (k:∀ h',KB [T] [] s.heap h'→Fl h' e C dx T .none→Q () { s with heap:=h' }):wpAny M A (setFlight (.ref e) none) Q E s:=by
 obtain ⟨⟨oe,vs,a1,a2,a3,a4,a5⟩,⟨oT,ts,b1,b2,b3⟩,nT⟩:=f
 have sz:3 < ts.size:=(Array.getElem?_eq_some_iff.mp b3).1
 unfold setFlight
 refine wpAny_bind (wpAny_field a1 a3 a4 ?_)
 rw [if_pos (by simp:(Value.ref T != Value.none)=true)]
 refine wpAny_setField b1 b2 sz (k _ (fun b o hb nb=>?_) ⟨⟨oe,vs,?_,a2,a3,a4,a5⟩,⟨_,_,Heap.get?_update_self _ b1 (Obj.isFreed_of_fields (Obj.data_mapFields b2 _)),Obj.data_mapFields b2 _,?_⟩,nT⟩)
 ·have n1:T≠b:=fun z=>nb (by simp [z])
  rw [Heap.get?_update_other _ _ n1]
  exact ⟨fun _=>hb,o.slots,hb⟩
 ·rw [Heap.get?_update_other _ _ nT]
  exact a1
 ·simp [sz]
theorem zam4 {oe:Obj}{vs:Array Value} (hfr:A.frames=some (env :: outer)) (hl:s.heap.FunFrames base (env :: outer)) (hf:env.frame=some L)
  (ge:s.heap.get? e=some oe) (gc:oe.cls=.ref C∧oe.dict=dx) (gd:oe.data=.fields vs) (g1:vs[1]?=some .none) (g2:vs[2]?=some .none)
  (k:∀ h' T,KB [e] (frs (env :: outer)) s.heap h'→Fl h' e C dx T (rawInt L)→s.heap.get? T=none→Q () { s with heap:=h' }):wpAny M A (noteFrame (.ref e) env) Q E s:=by
 unfold noteFrame
 simp only [hf]
 refine wpAny_bind (wpAny_field ge gd g1 ?_)
 rw [if_neg (by decide)]
 exact zaiy hfr hl hf ge gc gd (Array.getElem?_eq_some_iff.mp g1).1 g2 k
theorem zao4 {T0:Addr} (hfr:A.frames=some (env :: outer)) (hl:s.heap.FunFrames base (env :: outer)) (hf:env.frame=some L) (f:Fl s.heap e C dx T0 .none)
  (k:∀ h' T,KB [T0,e] (frs (env :: outer)) s.heap h'→Fl h' e C dx T (rawInt L)→s.heap.get? T=none→Q () { s with heap:=h' }):wpAny M A (noteFrame (.ref e) env) Q E s:=by
 obtain ⟨⟨oe,vs,a1,a2,a3,a4,a5⟩,⟨oT,ts,b1,b2,b3⟩,nT⟩:=f
 unfold noteFrame
 simp only [hf]
 refine wpAny_bind (wpAny_field a1 a3 a4 ?_)
 rw [if_pos (by simp:(Value.ref T0 != Value.none)=true)]
 refine wpAny_bind (wpAny_field b1 b2 b3 ?_)
 rw [if_neg (by simp [rawInt]:¬ ((Value.none == rawInt L)=true))]
 refine wpAny_bind (wpAny_setField b1 b2 (Array.getElem?_eq_some_iff.mp b3).1 ?_)
 have nfT:∀ b o,s.heap.get? b=some o→(∀ ws,o.data≠.fields ws)→T0≠b:=fun b o hb hn z=>by
  rw [← z,b1] at hb
  cases hb
  exact hn ts b2
 have same:∀ b,T0≠b→(s.heap.update T0 (Obj.mapFields (·.setIfInBounds 3 Value.none))).get? b=s.heap.get? b:=fun b n=>Heap.get?_update_other _ _ n
 have kb:KB [T0] (frs (env :: outer)) s.heap (s.heap.update T0 (Obj.mapFields (·.setIfInBounds 3 Value.none))):=fun b o hb nb=>by
  have n1:T0≠b:=fun z=>nb (by simp [z])
  rw [same b n1]
  exact ⟨fun _=>hb,o.slots,hb⟩
 refine zaiy hfr (hl.of_keeps fun b o hb hn=>⟨o,by rw [same b (nfT b o hb hn)]; exact hb,rfl⟩) hf (by rw [same e nT]; exact a1) a2 a3 (Array.getElem?_eq_some_iff.mp a4).1 a5 fun h' T kb' f' n'=>k h' T (kb.trans kb') f' ?_
 cases q:s.heap.get? T with
 | none=>rfl
 | some o =>
  by_cases z:T0=T
  ·have:=Heap.get?_update_self (Obj.mapFields (·.setIfInBounds 3 Value.none)) b1 (Obj.isFreed_of_fields (Obj.data_mapFields b2 _))
   rw [z] at this
   rw [← z] at n'
   rw [z] at n'
   rw [this] at n'
   cases n'
  ·rw [same T z] at n'
   rw [n'] at q
   cases q
end
end L2

namespace L2
open PySem PySem.Spec PyProof.Rows
def CXE (P:Program) (w:World):CXT:=fun outer H s E e s'=>∃ (ea C T:Addr) (dx:Option Addr) (H':Hp),e=.ref ea∧s'.os=s.os∧AllBare s'.gens∧Un (frs outer) [] H H' s.heap s'.heap∧HOk P w H' s'.heap∧Fl s'.heap ea C dx T .none ∧
 s.heap.get? ea=none∧s.heap.get? T=none∧H' ea=none∧H' T=none∧E (.ref C) dx H'
theorem KB.fs {ex fs:List Addr}{h h':Heap} (a:KB ex [] h h'):KB ex fs h h':=fun b o e n=>⟨fun _=>(a b o e n).1 (by simp),(a b o e n).2⟩
theorem Un.fly {fs ex xs gs:List Addr}{H H1:Hp}{h h1 h2:Heap} (u:Un fs ex H H1 h h1) (kb:KB xs gs h1 h2) (hx:∀ b∈xs,h.get? b=none) (hg:∀ b∈gs,(∃ o,h.get? b=some o)→b∈fs):Un fs ex H H1 h h2 where
 keep:=fun b o e n hf hx'=>(kb b o (u.keep b o e n hf hx') fun z=>by rw [hx b z] at e; cases e).1 fun z=>hf (hg b z ⟨o,e⟩)
 slot:=fun b o e n hf hx'=>by
  obtain ⟨sl,q⟩:=u.slot b o e n hf hx'
  obtain ⟨_,sl',q'⟩:=kb b _ q fun z=>by rw [hx b z] at e; cases e
  exact ⟨sl',q'⟩
 free:=u.free
 there:=fun b o e hx'=>by
  obtain ⟨o',q⟩:=u.there b o e hx'
  obtain ⟨_,sl',q'⟩:=kb b _ q fun z=>by rw [hx b z] at e; cases e
  exact ⟨_,q'⟩
 tups:=u.tups
 frzs:=u.frzs
 tbls:=u.tbls
theorem HOk.fly {P:Program}{w:World}{H:Hp}{h h':Heap}{xs gs:List Addr} (x:HOk P w H h) (kb:KB xs gs h h') (hx:∀ b∈xs,H b=none) (hg:∀ b∈gs,H b=none):HOk P w H h':=fun a o e =>
 (x a o e).stay (fun b u hb q=>by
  have t:H b≠none:=by
   rcases hb with rfl | hb
   ·rw [e]; intro z; cases z
   ·rw [hb]; intro z; cases z
  exact (kb b u q fun z=>t (hx b z)).1 fun z=>t (hg b z)) (fun _ q=>q) fun _ _ q=>q
section
variable {X:Cx}{pins:List (Addr × Obj)}{σ:St}{H H':Hp}{s s':Shared}
theorem Inv.fly {h':Heap}{ex:List Addr} (I:Inv X pins σ H s) (kb:KB ex (frs X.stack) s.heap h')
  (hx:∀ b∈ex,X.s₀.heap.get? b=none∧H b=none∧b≠X.env.locals∧(∀ x c,X.env.cells.lookup x=some c→c≠b)∧∀ p∈X.pn++pins,p.1≠b):Inv X pins σ H { s with heap:=h' }:=by
 have cellK:∀ x c v,X.env.cells.lookup x=some c→s.heap.IsCell c v→h'.IsCell c v:=fun x c v e ⟨o,ho,hd⟩=>by
  obtain ⟨_,sl,q⟩:=kb c o ho fun z=>(hx c z).2.2.2.1 x c e rfl
  exact ⟨_,q,hd⟩
 refine ⟨I.ok,I.os,I.bare,I.base.fly kb (fun b z=>(hx b z).1) (fun b z ⟨o,e⟩=>?_),?_,fun x c e=>?_,I.free,I.freeC,fun p hp=>?_,I.hok.fly kb (fun b z=>(hx b z).2.1) I.stkFree,I.len⟩
 ·rcases List.mem_cons.mp (I.stkSub b z) with y | y
  ·rw [y] at e
   exact absurd (Heap.lt_size e) (Nat.not_lt.mpr I.ok.above)
  ·exact y
 ·obtain ⟨m,⟨o,es,ep,ho,r⟩,l⟩:=I.loc
  obtain ⟨_,sl,q⟩:=kb _ o ho fun z=>(hx _ z).2.2.1 rfl
  refine ⟨m,⟨_,es,ep,q,r⟩,fun i x v h1 h2 h3=>?_⟩
  obtain ⟨u,ru,lk⟩:=l i x v h1 h2 h3
  refine ⟨u,ru,?_⟩
  rcases lk with a | ⟨a,c,b1,b2⟩
  ·exact .inl a
  ·exact .inr ⟨a,c,b1,cellK x c _ b1 b2⟩
 ·obtain ⟨v,q⟩:=I.cell x c e
  exact ⟨v,cellK x c v e q⟩
 ·obtain ⟨a,b,c,d,e⟩:=I.pin p hp
  exact ⟨(kb _ _ a fun z=>(hx _ z).2.2.2.2 p hp rfl).1 fun z=>(List.mem_cons.mp (I.stkSub _ z)).elim c d,b,c,d,e⟩
theorem Inv.alien (I:Inv X pins σ H s) {b:Addr} (n:s.heap.get? b=none):b≠X.env.locals∧(∀ x c,X.env.cells.lookup x=some c→c≠b)∧∀ p∈X.pn++pins,p.1≠b:=by
 refine ⟨fun z=>?_,fun x c e z=>?_,fun p hp z=>?_⟩
 ·obtain ⟨m,⟨o,es,ep,ho,r⟩,l⟩:=I.loc
  rw [← z,n] at ho
  cases ho
 ·obtain ⟨v,o,ho,_⟩:=I.cell x c e
  rw [z,n] at ho
  cases ho
 ·have:=(I.pin p hp).1
  rw [z,n] at this
  cases this
theorem Inv.alien0 (I:Inv X pins σ H s) (hex:X.ex=[]) {b:Addr} (n:s.heap.get? b=none):X.s₀.heap.get? b=none:=by
 cases q:X.s₀.heap.get? b with
 | none=>rfl
 | some o =>
  obtain ⟨o',z⟩:=I.base.there b o q (by rw [hex]; simp)
  rw [n] at z
  cases z
theorem HOk.alien {P:Program}{w:World}{H:Hp}{h:Heap}{b:Addr} (x:HOk P w H h) (n:h.get? b=none):H b=none:=by
 cases q:H b with
 | none=>rfl
 | some o =>
  obtain ⟨o',z⟩:=x.has q
  rw [n] at z
  cases z
end
section
variable {P:Program}{w:World}{K:PySem.W.Frag}{mg:Str→Option Value}{base:Heap}{N:List Str}{qual:Str}{scope:Scope}{f:Addr}{cd:Value}{A:Around}{outer:List Env}{s₀:Shared}{H₀:Hp}{E:XK}
abbrev cxE (P:Program) (w:World) (K:PySem.W.Frag) (mg:Str→Option Value) (base:Heap) (N:List Str) (qual:Str) (scope:Scope) (f:Addr) (cd:Value) (A:Around) (outer:List Env) (s₀:Shared) (H₀:Hp) (E:XK):Cx :=
 cxOf (CXE P w) P w K mg base N qual scope f cd A outer s₀ H₀ E
theorem zanx {X:Cx}{pins:List (Addr × Obj)}{σ:St}{H:Hp}{s:Shared} (I:Inv X pins σ H s):∀ b∈frs X.stack,(∃ o,X.s₀.heap.get? b=some o)→b∈X.fs:=fun b z ⟨o,e⟩=>by
 rcases List.mem_cons.mp (I.stkSub b z) with y | y
 ·rw [y] at e
  exact absurd (Heap.lt_size e) (Nat.not_lt.mpr I.ok.above)
 ·exact y
theorem passE:Passes (CXE P w) (cxE P w K mg base N qual scope f cd A outer s₀ H₀ E) E:=by
 rintro pins σ H s e s' I ⟨ea,C,T,dx,H',rfl,os,bare,un,hok,fl,n1,n2,t1,t2,q⟩
 have J:Inv (cxE P w K mg base N qual scope f cd A outer s₀ H₀ E) pins σ H' s':=I.call' (ch:=[]) os un hok bare (fun b z=>absurd z (by simp))
 show wpAny (model P w) _ (leaving _ (.ref ea)) _ _ _
 unfold leaving
 refine wpAny_bind (zao4 J.ok.frames J.stack rfl fl fun h2 T1 kb fl2 nT=>zak2 fl2 fun h3 kb3 fl3=>?_)
 have k3:KB [T,ea,T1] (frs (envOfC qual scope s₀.heap.objs.size f cd :: outer)) s'.heap h3:=kb.trans kb3.fs
 have n0:∀ b∈[T,ea,T1],s₀.heap.get? b=none:=fun b hb=>by
  simp only [List.mem_cons,List.not_mem_nil,or_false] at hb
  rcases hb with rfl | rfl | rfl
  ·exact I.alien0 rfl n2
  ·exact I.alien0 rfl n1
  ·exact J.alien0 rfl nT
 have nH:∀ b∈[T,ea,T1],H' b=none:=fun b hb=>by
  simp only [List.mem_cons,List.not_mem_nil,or_false] at hb
  rcases hb with rfl | rfl | rfl
  ·exact t2
  ·exact t1
  ·exact J.hok.alien nT
 exact ⟨ea,C,T1,dx,H',rfl,J.os,J.bare,J.base.fly k3 n0 (zanx J),J.hok.fly k3 nH J.stkFree,fl3,n0 ea (by simp),n0 T1 (by simp),nH ea (by simp),nH T1 (by simp),q⟩
end
end L2

namespace L2
open PySem PySem.Spec PyProof.Rows
abbrev bmV:List Value:=[.type "ValueError",.type "Exception",.type "BaseException",.type "object"]
def XC (K:PySem.W.Frag) (C:Addr):Prop:=PySem.W.excIn K C bmV "ValueError.__new__" = true
theorem XC.obj {K:PySem.W.Frag}{h:Heap}{C:Addr} (q:XC K C) (X:K.In h):∃ bm N nm qn bs hdct sn sub ab col dd k0 k1 k2 k3 k5 mN,
  h.get? C=some (excClassObj nm qn C N bs bm hdct sn sub ab col dd k0 k1 k2 k3 k5 "ValueError.__new__")∧h.Ns N mN∧mN "__init__" = none∧OwnTail h bmV bm:=by
 have q:PySem.W.excIn K C bmV "ValueError.__new__" = true:=q
 unfold PySem.W.excIn at q
 split at q
 case h_2=>cases q
 case h_1 dd cd sl ho =>
  split at q
  case h_2=>cases q
  case h_1 C' bm k0 k1 k2 k3 n k5 hm hs =>
   simp only [Bool.and_eq_true,beq_iff_eq,Bool.not_eq_true'] at q
   obtain ⟨⟨⟨⟨⟨rfl,rfl⟩,dl⟩,ht⟩,ok⟩,ni⟩:=q
   obtain ⟨nm,bs,mro,ns,qn,hd,sn,sub,ab,col,del⟩:=cd
   dsimp only at hm dl ok ni
   subst hm dl
   obtain ⟨l⟩:=sl
   simp only at hs
   subst hs
   exact ⟨bm,ns,nm,qn,bs,hd,sn,sub,ab,col,dd,k0,k1,k2,k3,k5,_,X _ _ ho,.of_isNs (PySem.W.isNs_of_in X ok),PySem.W.nsMap_none_of_in X ok ni,PySem.W.tail_of_in X ht⟩
def XB (K:PySem.W.Frag) (C:Addr):Prop:=(match K.lookup C with
 | some ⟨.type "type",_,.cls cd,sl⟩=>(match cd.mro,sl.toList with
  | .ref C' :: bm,[_,_,_,_,some (.builtin n),_]=>C' == C && n == "ValueError.__new__" && !cd.hasDel && PySem.W.tailIn K bmV bm && PySem.W.nsOkIn K cd.ns
  | _,_=>false)
 | _=>false)=true
theorem XB.obj {K:PySem.W.Frag}{h:Heap}{C:Addr} (q:XB K C) (X:K.In h):∃ bm N nm qn bs hdct sn sub ab col dd k0 k1 k2 k3 k5 mN,
  h.get? C=some (excClassObj nm qn C N bs bm hdct sn sub ab col dd k0 k1 k2 k3 k5 "ValueError.__new__")∧h.Ns N mN∧OwnTail h bmV bm:=by
 unfold XB at q
 split at q
 case h_2=>cases q
 case h_1 dd cd sl ho =>
  split at q
  case h_2=>cases q
  case h_1 C' bm k0 k1 k2 k3 n k5 hm hs =>
   simp only [Bool.and_eq_true,beq_iff_eq,Bool.not_eq_true'] at q
   obtain ⟨⟨⟨⟨rfl,rfl⟩,dl⟩,ht⟩,ok⟩:=q
   obtain ⟨nm,bs,mro,ns,qn,hd,sn,sub,ab,col,del⟩:=cd
   dsimp only at hm dl ok
   subst hm dl
   obtain ⟨l⟩:=sl
   simp only at hs
   subst hs
   exact ⟨bm,ns,nm,qn,bs,hd,sn,sub,ab,col,dd,k0,k1,k2,k3,k5,_,X _ _ ho,.of_isNs (PySem.W.isNs_of_in X ok),PySem.W.tail_of_in X ht⟩
theorem XC.b {K:PySem.W.Frag}{C:Addr} (q:XC K C):XB K C:=by
 have q:PySem.W.excIn K C bmV "ValueError.__new__" = true:=q
 unfold PySem.W.excIn at q
 unfold XB
 split at q
 case h_2=>cases q
 case h_1 dd cd sl ho =>
  split at q
  case h_2=>cases q
  case h_1 C' bm k0 k1 k2 k3 n k5 hm hs =>
   rw [Bool.and_eq_true] at q
   rw [ho]
   show (match cd.mro,sl.toList with
    | .ref C' :: bm,[_,_,_,_,some (.builtin n),_]=>C' == C && n == "ValueError.__new__" && !cd.hasDel && PySem.W.tailIn K bmV bm && PySem.W.nsOkIn K cd.ns
    | _,_=>false)=true
   rw [hm,hs]
   exact q.1
section
variable {P:Program}{w:World}{K:PySem.W.Frag}{mg:Str→Option Value}{base:Heap}{N:List Str}{qual:Str}{scope:Scope}{f:Addr}{cd:Value}{A:Around}{outer:List Env}{s₀:Shared}{H₀:Hp}{E:XK}
theorem powE:PassesOwn (model P w) (cxE P w K mg base N qual scope f cd A outer s₀ H₀ E).A (cxE P w K mg base N qual scope f cd A outer s₀ H₀ E).env (cxE P w K mg base N qual scope f cd A outer s₀ H₀ E).xe:=PassesOwn.leaving
end
section
variable {P:Program}{w:World}{K:PySem.W.Frag}{mg:Str→Option Value}{base:Heap}
theorem Fun.okE {x qual:Str}{st:Stmt}{f:Addr}{fd:FuncData}{N ps:List Str}{k:Nat}{sp:Sp} (F:Fun K x qual st f fd) (S:FnScope N ps (defScope st)) (len:∀ vs H Q E,sp vs H Q E→vs.length=ps.length)
  (hbody:∀ (cdv:Value) (A:Around) (outer:List Env) (s:Shared) (H:Hp) (vs:List V) (Q:VK) (E:XK),Room k (A.deeper (envOfC qual (defScope st) s.heap.objs.size f cdv))→sp vs H Q E →
   ∃ t,PSs (cxE P w K mg base N qual (defScope st) f cdv A outer s H E) (defBody st) t∧t { nx:=fun _ H'=>Q .non H',rt:=Q } (start N vs) H):FnOk P w K mg base (CXE P w) (k + 1) f fd ps sp:=by
 obtain ⟨oc,od,kV,doc,pm,an,cdv,ct,osl,rfl,lk,hcd⟩:=F.ex
 exact zaqr lk hcd S len fun A outer s H vs Q E hr hsp=>hbody cdv A outer s H vs Q E hr hsp
theorem FnOk.calm {k:Nat}{f:Addr}{fd:FuncData}{ps:List Str}{sp sp':Sp} (F:FnOk P w K mg base (CXE P w) k f fd ps sp) (h:∀ vs H Q E,sp' vs H Q E→sp vs H Q E0):FnOk P w K mg base CX0 k f fd ps sp' :=
 ⟨fun vs H Q E q=>F.len vs H Q E0 (h _ _ _ _ q),fun A outer s H args us vs Q E hr he hb hv hs=>codeAny_mono (F.run A outer s H args us vs Q E0 hr he hb hv (h _ _ _ _ hs)) fun r s' hq=>by
  cases r with
  | ok fl=>cases fl <;> exact hq
  | error e =>
   obtain ⟨ea,C,T,dx,H',_,_,_,_,_,_,_,_,_,_,z⟩:=(show CXE P w outer H s E0 e s' from hq)
   exact z.elim⟩
end
end L2

namespace L2
open PySem PySem.Spec PyProof.Rows
section
variable {X:Cx}{pins:List (Addr × Obj)}{σ:St}{H H':Hp}{s s':Shared}{v:Value}
theorem Inv.track {a:Addr}{o:HO} (I:Inv X pins σ H s) (hn:H a=none) (n0:X.s₀.heap.get? a=none) (nl:a≠X.env.locals) (nc:∀ x c,X.env.cells.lookup x=some c→c≠a) (np:∀ p∈X.pn++pins,p.1≠a)
  (new:ObjOk X.prog X.w (upd H a o) s.heap a o):Inv X pins σ (upd H a o) s:=by
 have ne:∀ b u,H b=some u→b≠a:=fun b u e z=>by rw [z,hn] at e; cases e
 refine ⟨I.ok,I.os,I.bare,⟨I.base.keep,I.base.slot,fun b o' e n hx=>?_,I.base.there,fun b xs e=>?_,fun b o' u e=>?_,fun b ps e=>?_⟩,I.loc,I.cell,?_,fun x c e=>?_,fun p hp=>?_,fun b u e=>?_,I.len⟩
 ·rw [zaak (fun z=>by rw [z,n0] at e; cases e)]
  exact I.base.free b o' e n hx
 ·have q:=I.base.tups b xs e
  rw [zaak (ne b _ q)]
  exact q
 ·have q:=I.base.frzs b o' u e
  rw [zaak (ne b _ q)]
  exact q
 ·obtain ⟨more,q⟩:=I.base.tbls b ps e
  exact ⟨more,by rw [zaak (ne b _ q)]; exact q⟩
 ·rw [zaak (Ne.symm nl)]
  exact I.free
 ·rw [zaak (nc x c e)]
  exact I.freeC x c e
 ·obtain ⟨q1,q2,q3⟩:=I.pin p hp
  exact ⟨q1,by rw [zaak (np p hp)]; exact q2,q3⟩
 ·by_cases hb:b=a
  ·subst hb
   rw [zaag] at e
   cases e
   exact new
  ·rw [zaak hb] at e
   exact (I.hok b u e).stay (fun _ _ _ q=>q) (fun c q=>by rw [zaak (ne c _ q)]; exact q) fun c xs q=>by rw [zaak (ne c _ q)]; exact q
end
def XSub (K:PySem.W.Frag) (C CF:Addr):Prop:=(match K.lookup C with
 | some ⟨_,_,.cls cd,_⟩=>cd.mro.contains (.ref CF)
 | _=>false)=true
end L2

namespace L2
open PySem PySem.Spec PyProof.Rows PySem.W
structure XA (K:PySem.W.Frag) (C:Addr):Prop where
 xc:XB K C
 ga:findIn K (.ref C) "__getattribute__" = some (some (.builtin "BaseException.__getattribute__"))
 gt:findIn K (.ref C) "__getattr__" = some none
 cl:findIn K (.ref C) "__class__" = some (some (.builtin "object.__class__"))
 sg:specialIn K (.builtin "object.__class__") "__get__" = some (some (.builtin "getset_descriptor.__get__"))
 tk:takesIn K (.builtin "object.__class__")=some true
 mo:mroIn K C (.type "object")=some true
 cs:(clsIn K C).isSome=true
end L2

namespace L2
open PySem PySem.Spec PyProof.Rows PySem.SeqAt
theorem zaf3:∀ {ns:List Int}{its:List Value},Vals (ns.map V.int) its→∃ ps:List (Int × Tok),its=ps.map (fun p=>Value.int p.1 p.2)∧ps.map (·.1)=ns
 | [],_,.nil=>⟨[],rfl,rfl⟩
 | n :: ns,_,.cons r t=>by
  obtain ⟨ps,e,f⟩:=zaf3 t
  obtain ⟨k,rfl⟩:=r
  exact ⟨(n,k) :: ps,by rw [e]; rfl,by rw [← f]; rfl⟩
section
variable {X:Cx}
theorem zaiz (hc:X.calm=true):CallR X (.builtin "sum") (fun xs H Q=>∃ (p:Addr) (ns:List Int),xs=[.ref p]∧H p=some (.lst (ns.map V.int))∧Q (.int ns.sum) H):=by
 intro pins s σ H xs us Q I r h
 obtain ⟨p,ns,rfl,hp,q⟩:=h
 obtain ⟨u,rfl,ru⟩:=vals1 r
 cases ru
 obtain ⟨z,its,n,rv,e⟩:=I.hok p _ hp
 obtain ⟨ps,rfl,f⟩:=zaf3 rv
 have ea:(ps.map fun p=>Value.int p.1 p.2).toArray=intItems ps.toArray:=by simp [intItems]
 have hl:s.heap.IsList p (intItems ps.toArray):=⟨_,e,rfl,n,by rw [← ea]⟩
 refine sum_intListG (by first | exact I.ok.hd hc | (show X.A.in1.handled=none; exact I.ok.hd hc)) hl fun h' tk t' hk=>?_
 refine ⟨.int ns.sum,H,I.kept (t':=tk) hk,⟨t',?_⟩,q⟩
 rw [preSum_eq,List.take_of_length_le (by simp)]
 show Value.int (ps.map (·.1)).sum t'=_
 rw [f]
end
end L2

namespace L2
open PySem PySem.Spec PyProof.Rows PySem.SeqAt
def Sca (x:V):Prop:=(∃ i,x=.int i)∨∃ t,x=.str t
structure ScaL (xs:List V):Prop where
 h:∀ z∈xs,Sca z
theorem zao5 {α:Type} [BEq α] [LawfulBEq α] [DecidableEq α] (a b:α):(a == b)=decide (a=b):=by
 by_cases h:a=b
 ·subst h; simp
 ·rw [decide_eq_false h]; exact beq_eq_false_iff_ne.mpr h
theorem zaq3 {A:Around}{s:Shared}{x y:V}{u v:Value} (hx:Sca x) (hy:Sca y) (ru:RelV x u) (rv:RelV y v):EqAt A s u v (decide (x=y)):=by
 rcases hx with ⟨i,rfl⟩ | ⟨i,rfl⟩ <;> rcases hy with ⟨j,rfl⟩ | ⟨j,rfl⟩ <;> obtain ⟨t,rfl⟩:=ru <;> obtain ⟨t',rfl⟩:=rv
 ·have:=EqAt.int_int (A:=A) (s:=s) i t j t'
  rw [zao5] at this
  rwa [show decide (V.int i=V.int j)=decide (i=j) from by by_cases h:i=j <;> simp [h]]
 ·rw [show decide (V.int i=V.str j)=false from by simp]
  exact EqAt.int_str i t j t'
 ·rw [show decide (V.str i=V.int j)=false from by simp]
  exact EqAt.str_int i t j t'
 ·have:=EqAt.str_str (A:=A) (s:=s) i t j t'
  rw [show decide (V.str i=V.str j)=(i == j) from by
   by_cases h:i=j
   ·subst h; simp
   ·rw [decide_eq_false (fun z=>h (V.str.inj z))]; exact (beq_eq_false_iff_ne.mpr h).symm]
  exact this
theorem zaq4 {xs ys:List V}:((List.range (min xs.length ys.length)).all (fun j=>decide (xs[j]?=ys[j]?)) && xs.length == ys.length)=decide (xs=ys):=by
 by_cases h:xs=ys
 ·subst h
  simp
 ·rw [decide_eq_false h]
  by_cases hl:xs.length=ys.length
  ·rw [Bool.and_eq_false_iff]
   refine .inl ?_
   rw [List.all_eq_false]
   refine Classical.byContradiction fun z=>h (List.ext_getElem? fun j=>?_)
   by_cases hj:j < xs.length
   ·refine Classical.byContradiction fun y=>z ⟨j,List.mem_range.mpr (by omega),by simpa using y⟩
   ·rw [List.getElem?_eq_none (by omega),List.getElem?_eq_none (by omega)]
  ·rw [Bool.and_eq_false_iff]
   exact .inr (beq_eq_false_iff_ne.mpr hl)
theorem zam5 {A:Around}{s:Shared}{xs ys:List V}{us vs:List Value} (hx:ScaL xs) (hy:ScaL ys) (ru:Vals xs us) (rv:Vals ys vs) (j:Nat) (h1:j < us.toArray.size) (h2:j < vs.toArray.size) :
  EqAt A s us.toArray[j] vs.toArray[j] (decide (xs[j]?=ys[j]?)):=by
 have l1:=ru.length
 have l2:=rv.length
 have h1':j < us.length:=by simpa using h1
 have h2':j < vs.length:=by simpa using h2
 have gx:xs[j]?=some (xs[j]'(by omega)):=List.getElem?_eq_getElem (by omega)
 have gy:ys[j]?=some (ys[j]'(by omega)):=List.getElem?_eq_getElem (by omega)
 obtain ⟨w1,hw1,r1⟩:=ru.get gx
 obtain ⟨w2,hw2,r2⟩:=rv.get gy
 have k1:us.toArray[j]=w1:=by
  have:=List.getElem?_eq_getElem h1'
  rw [hw1] at this
  simpa using (Option.some.inj this).symm
 have k2:vs.toArray[j]=w2:=by
  have:=List.getElem?_eq_getElem h2'
  rw [hw2] at this
  simpa using (Option.some.inj this).symm
 rw [k1,k2,gx,gy]
 have e:decide (some (xs[j]'(by omega))=some (ys[j]'(by omega)))=decide (xs[j]'(by omega)=ys[j]'(by omega)):=by
  by_cases h:(xs[j]'(by omega))=(ys[j]'(by omega)) <;> simp [h]
 rw [e]
 exact zaq3 (hx.h _ (List.getElem_mem _)) (hy.h _ (List.getElem_mem _)) r1 r2
section
variable {X:Cx}
def rNeS:R2:=fun x y H Q=>∃ (a b:Addr) (xs ys:List V),x=.ref a∧y=.ref b∧H a=some (.lst xs)∧H b=some (.lst ys)∧ScaL xs∧ScaL ys∧Q (.bl (!decide (xs=ys))) H
theorem zaq5 (hu:X.A.units + 64 < cLine):OpR X (compareOp .NotEq) rNeS:=by
 intro pins s σ H x y v u Q I rx ry h
 obtain ⟨a,b,xs,ys,rfl,rfl,ha,hb,hx,hy,q⟩:=h
 cases rx
 cases ry
 obtain ⟨z,its,n,rv,e⟩:=I.hok a _ ha
 obtain ⟨z2,its2,n2,rv2,e2⟩:=I.hok b _ hb
 have i1:s.heap.IsList a its.toArray:=⟨_,e,rfl,n,rfl⟩
 have i2:s.heap.IsList b its2.toArray:=⟨_,e2,rfl,n2,rfl⟩
 by_cases hl:xs.length=ys.length
 ·have key:=RcNeAt.lists (A:=X.A) (s:=s) i1 i2 (by simp [← rv.length,← rv2.length,hl]) (by omega) (zam5 hx hy rv rv2)
  have ea:((List.range its.toArray.size).all (fun j=>decide (xs[j]?=ys[j]?)))=decide (xs=ys):=by
   rw [← zaq4,List.size_toArray,← rv.length,← hl,Nat.min_self]; simp
  rw [ea] at key
  exact key X.prog X.w X.xe _ ⟨.bl _,H,I,rfl,q⟩
 ·have key:=RcNeAt.lists_lengths (A:=X.A) (s:=s) i1 i2 (by simp [← rv.length,← rv2.length,hl]) (by omega)
  have ea:decide (xs=ys)=false:=decide_eq_false fun z=>hl (by rw [z])
  rw [ea] at q
  exact key X.prog X.w X.xe _ ⟨.bl _,H,I,rfl,q⟩
end
end L2


namespace L2
open PySem PySem.W PyProof.Rows
section
variable {X:Cx}{o e f:Expr}{apos cpos:Pos}{td ty tx:TE}
theorem zah5 {i:Expr}{pos:Pos} (hu:X.A.units + 1 < cLine) (hi:Pr (PE X i ty)) (ho:Pr (PE X o td)) (h1:behindInMarks .In o=false:=by rfl):Pr (PT X (.Compare i [.In] [o] pos) (tB (tDIn ty td))):=⟨zann (zaqx hu hi.h ho.h) h1⟩
theorem zaea {i:Expr}{pos:Pos} (hu:X.A.units + 1 < cLine) (hi:Pr (PE X i ty)) (ho:Pr (PE X o td)) (h1:behindInMarks .NotIn o=false:=by rfl):Pr (PT X (.Compare i [.NotIn] [o] pos) (tB (tDNotIn ty td))):=⟨zann (zahc hu hi.h ho.h) h1⟩
theorem zacm {i:Expr}{pos:Pos} (hu:X.A.units + 1 < cLine) (ho:Pr (PE X o td)) (hi:Pr (PE X i ty)) (hs:NoSl i):Pr (PE X (.Subscript o i pos) (tDGet td ty)):=⟨zaou hu ho.h hi.h hs⟩
theorem zabm {i value:Expr}{tv:TE}{pos pos':Pos} (hu:X.A.units + 1 < cLine) (ho:Pr (PE X o td)) (hi:Pr (PE X i ty)) (hv:Pr (PE X value tv)) (hs:swapsWith value (some (.Subscript o i pos')) pos.line X.env=pure false) :
  Pr (PS X (.Assign [.Subscript o i pos'] value pos) (sDPut td ty tv)):=⟨zaov hu ho.h hi.h hv.h hs⟩
end
end L2

namespace L2
open PySem PySem.W PyProof.Rows
def sqO (k:SK) (xs:List V):HO:=match k with
 | .list=>.lst xs
 | .tuple=>.tup xs
def ItK (K:PySem.W.Frag) (k:SK) (a:Addr):It:=match k with
 | .list=>Itl K a
 | .tuple=>Itt K a
def iSq (K:PySem.W.Frag) (k:SK) (tl:TE):TI:=fun σ H R=>tl σ H fun x H1=>∃ a,x=.ref a∧(∃ xs,Sq k K H1 a xs)∧R (ItK K k a) H1
section
variable {X:Cx}{tg l:Expr}
theorem zao6 (K:PySem.W.Frag) (hK:X.K=K) (k:SK) {tl:TE} (hl:Pr (PE X l tl)):Pr (PI X tg l (iSq K k tl)):=by
 cases k with
 | list=>exact zak0 K hK hl
 | tuple=>exact zam3 K hK hl
end
end L2

namespace L2
open PySem PySem.Spec PyProof.Rows PySem.SeqAt
section
variable {X:Cx}
theorem zabx {α β:Type}{R:α→β→Prop}:∀ {xs:List α}{ys:List β},Paired R xs ys→∀ (j:Nat) (h1:j < xs.length) (h2:j < ys.length),R xs[j] ys[j]
 | _,_,.nil,j,h1,_=>absurd h1 (Nat.not_lt_zero _)
 | _,_,.cons a t,0,_,_=>a
 | _,_,.cons a t,j + 1,h1,h2=>by
  have:=zabx t j (by simpa using h1) (by simpa using h2)
  simpa using this
end
end L2

namespace L2
open PySem PySem.Spec PyProof.Rows PySem.SeqAt
theorem zabj {H:Hp}{a:Addr}{kvs:List (Key × V)}{x:Str}{v:V} (e:H a=some (.dK kvs)) (h:valV kvs (.inr x)=some v):DGet H a (.str x) (some v):=h ▸ DGet.k (k:=.inr x) e
end L2

namespace L2
open PySem
structure AF (sc:Scope) (N:List Str):Prop where
 h:∀ x∈N,(sc.names.lookup x=some .local∨sc.names.lookup x=some .cell)∧(x == ("__debug__" : Str))=false∧(x == ("__classdict__" : Str))=false
structure AV (sc:Scope) (N:List Str):Prop where
 h:∀ x∈N,(sc.names.lookup x=some .local∨sc.names.lookup x=some .cell∨sc.names.lookup x=some .free)∧(x == ("__debug__" : Str))=false∧(x == ("__classdict__" : Str))=false
structure AK (sc:Scope) (N:List Str):Prop where
 h:∀ x∈N,sc.names.lookup x=some .local
structure AG (sc:Scope) (N:List Str):Prop where
 h:∀ x∈N,sc.names.lookup x=some .globalImplicit
theorem AF.l {sc:Scope}{N:List Str} (A:AF sc N) (i:Nat) {x:Str} (e:N[i]?=some x):sc.names.lookup x=some .local∨sc.names.lookup x=some .cell:=(A.h x (List.mem_of_getElem? e)).1
theorem AK.k {sc:Scope}{N:List Str} (A:AK sc N) (i:Nat) {x:Str} (e:N[i]?=some x):sc.names.lookup x=some .local:=A.h x (List.mem_of_getElem? e)
theorem AG.g {sc:Scope}{N:List Str} (A:AG sc N) (i:Nat) {x:Str} (e:N[i]?=some x):sc.names.lookup x=some .globalImplicit:=A.h x (List.mem_of_getElem? e)
theorem qv {X:Cx}{x:Str}{pos:Pos} (A:AF X.env.scope X.N) (i:Nat) (e:X.N[i]?=some x):Pr (PE X (.Name x pos) (tVar i)) :=
 have a:=A.h x (List.mem_of_getElem? e)
 zakr e (a.1.elim .inl fun h=>.inr (.inl h)) a.2.1 a.2.2
theorem qw {X:Cx}{x:Str}{pos:Pos} (A:AV X.env.scope X.N) (i:Nat) (e:X.N[i]?=some x):Pr (PE X (.Name x pos) (tVar i)) :=
 have a:=A.h x (List.mem_of_getElem? e)
 zakr e a.1 a.2.1 a.2.2
end L2

namespace L2
open PySem PySem.Spec PyProof.Rows
section
variable {X:Cx}{pins:List (Addr × Obj)}{σ:St}{H:Hp}{s:Shared}{d:Addr}
theorem Inv.swap (I:Inv X pins σ H s) {o o':HO} (e:H d=some o) (nt:∀ xs,o≠.tup xs) (no:∀ x,o≠.own x) (nb:∀ ps,o≠.tbl ps) (nf:(∀ b u,o≠.frz b u)∨∀ b u,X.H₀ d≠some (.frz b u)) (new:ObjOk X.prog X.w (upd H d o') s.heap d o'):Inv X pins σ (upd H d o') s:=by
 have ne:∀ b,H b=none→b≠d:=fun b h z=>by rw [z,e] at h; cases h
 refine ⟨I.ok,I.os,I.bare,⟨I.base.keep,I.base.slot,fun b u q n hx=>?_,I.base.there,fun b xs q=>?_,fun b u v q=>?_,fun b ps q=>?_⟩,I.loc,I.cell,?_,fun x c q=>?_,fun p hp=>?_,fun b u q=>?_,I.len⟩
 ·have z:=I.base.free b u q n hx
  rw [zaak (ne b z)]; exact z
 ·have z:=I.base.tups b xs q
  have nd:b≠d:=fun w=>by rw [w,e] at z; exact nt xs (Option.some.inj z)
  rw [zaak nd]; exact z
 ·have z:=I.base.frzs b u v q
  have nd:b≠d:=fun w=>by
   rcases nf with nf | nf
   ·rw [w,e] at z; exact nf u v (Option.some.inj z)
   ·rw [w] at q; exact nf u v q
  rw [zaak nd]; exact z
 ·obtain ⟨more,z⟩:=I.base.tbls b ps q
  have nd:b≠d:=fun w=>by rw [w,e] at z; exact nb _ (Option.some.inj z)
  exact ⟨more,by rw [zaak nd]; exact z⟩
 ·rw [zaak (ne _ I.free)]; exact I.free
 ·rw [zaak (ne _ (I.freeC x c q))]; exact I.freeC x c q
 ·obtain ⟨q1,q2,q3⟩:=I.pin p hp
  exact ⟨q1,by rw [zaak (ne _ q2)]; exact q2,q3⟩
 ·by_cases hb:b=d
  ·subst hb; rw [zaag] at q; cases q; exact new
  ·rw [zaak hb] at q
   exact (I.hok b u q).stay (fun _ _ _ z=>z) (fun c z=>by rw [zaak (fun w=>by rw [w,e] at z; exact no _ (Option.some.inj z))]; exact z) fun c xs z=>by rw [zaak (fun w=>by rw [w,e] at z; exact nt xs (Option.some.inj z))]; exact z
theorem Inv.freeze (I:Inv X pins σ H s) {kvs:List (Key × V)}{ob:Obj} (e:H d=some (.dK kvs)) (ho:s.heap.get? d=some ob):Inv X pins σ (upd H d (.frz ob (.dK kvs))) s :=
 I.swap e (fun _ z=>by cases z) (fun _ z=>by cases z) (fun _ z=>by cases z) (.inl fun _ _ z=>by cases z) ⟨ho,(I.hok d _ e:ObjOk X.prog X.w H s.heap d (.dK kvs))⟩
theorem Inv.thaw (I:Inv X pins σ H s) {kvs:List (Key × V)}{ob:Obj} (e:H d=some (.frz ob (.dK kvs))) (nf:∀ b u,X.H₀ d≠some (.frz b u)):Inv X pins σ (upd H d (.dK kvs)) s :=
 I.swap e (fun _ z=>by cases z) (fun _ z=>by cases z) (fun _ z=>by cases z) (.inr nf) ((I.hok d _ e:ObjOk X.prog X.w H s.heap d (.frz ob (.dK kvs))).2:ObjOk X.prog X.w H s.heap d (.dK kvs))
end
def Thaw (H0:Hp) (q:Hp→Prop) (H:Hp):Prop:=∃ d ob kvs,H d=some (.frz ob (.dK kvs))∧(∀ b u,H0 d≠some (.frz b u))∧q (upd H d (.dK kvs))
def tThaw (H0:Hp) (t:TS):TS:=fun D σ H=>t { nx:=fun σ' H'=>Thaw H0 (D.nx σ') H',rt:=fun v H'=>Thaw H0 (D.rt v) H',bk:=fun σ' H'=>Thaw H0 (D.bk σ') H',ct:=fun σ' H'=>Thaw H0 (D.ct σ') H' } σ H
def eThaw (H0:Hp) (t:TE):TE:=fun σ H Q=>t σ H fun v H'=>Thaw H0 (Q v) H'
theorem zagl {X:Cx}{st:Stmt}{t:TS} (h:Pr (PS X st t)):Pr (PS X st (tThaw X.H₀ t)):=by
 refine ⟨?_⟩
 intro pins s σ H D I q
 refine thn (h.h pins s σ H _ I q) fun f s1 q1=>?_
 cases f with
 | next=>obtain ⟨σ1,H1,I1,d,ob,kvs,e,nf,z⟩:=q1; exact ⟨σ1,_,I1.thaw e nf,z⟩
 | brk=>obtain ⟨σ1,H1,I1,d,ob,kvs,e,nf,z⟩:=q1; exact ⟨σ1,_,I1.thaw e nf,z⟩
 | cont=>obtain ⟨σ1,H1,I1,d,ob,kvs,e,nf,z⟩:=q1; exact ⟨σ1,_,I1.thaw e nf,z⟩
 | ret v=>obtain ⟨x,σ1,H1,I1,r,d,ob,kvs,e,nf,z⟩:=q1; exact ⟨x,σ1,_,I1.thaw e nf,r,z⟩
theorem zam6 {X:Cx}{ex:Expr}{t:TE} (h:Pr (PE X ex t)):Pr (PE X ex (eThaw X.H₀ t)):=by
 refine ⟨?_⟩
 intro pins s σ H Q I q
 refine thn (h.h pins s σ H _ I q) fun v s1 q1=>?_
 obtain ⟨x,H1,I1,r,d,ob,kvs,e,nf,z⟩:=q1
 exact ⟨x,_,I1.thaw e nf,r,z⟩
end L2

namespace L2
open PySem PySem.Spec PyProof.Rows
def rDictC:List V→Hp→VK→Prop:=fun xs H Q=>∃ (a:Addr) (kvs:List (Key × V)),xs=[.ref a]∧H a=some (.dK kvs)∧∀ d,H d=none→Q (.ref d) (upd H d (.dK kvs))
theorem zajq {X:Cx}:CallR X (.type "dict") rDictC:=by
 intro pins s σ H xs us Q I r h
 obtain ⟨a,kvs,rfl,ha,q⟩:=h
 obtain ⟨u,rfl,ru⟩:=vals1 r
 cases ru
 obtain ⟨hz,nS,vs,kv,hd⟩:=(I.hok a _ ha:ObjOk X.prog X.w H s.heap a (.dK kvs))
 have lv:vs.length=kvs.length:=(Paired.length kv).symm
 refine kt_call_dict nS hd (by omega) fun h' hd' sb=>?_
 have kp:∀ b o,s.heap.get? b=some o→h'.get? b=some o:=fun b o e=>(sb.2 b (Nat.ne_of_lt (Heap.lt_size e))).trans (Heap.get?_push_of_some _ e)
 have nS2:(s.heap.objs.size == sysModules)=false:=beq_eq_false_iff_ne.mpr (Ne.symm (Nat.ne_of_lt I.big))
 exact ⟨.ref s.heap.objs.size,_,I.laid (t':=s.toks) kp (Nat.le_refl _) (show ObjOk X.prog X.w _ h' _ (.dK kvs) from ⟨hz,nS2,vs,kv,hd'⟩),rfl,q _ (I.hok.fresh (Nat.le_refl _))⟩
def ViewO (v d:Addr):HO:=.ext fun h=>h.IsValuesView v d
def rValues:V→List V→Hp→VK→Prop:=fun x vs H Q=>∃ (a:Addr) (kvs:List (Key × V)),x=.ref a∧vs=[]∧H a=some (.dK kvs)∧∀ v,H v=none→Q (.ref v) (upd H v (ViewO v a))
theorem zak3 {X:Cx}:MtR X "dict.values" rValues:=by
 intro pins s σ H x vs v us Q I rx rv h
 obtain ⟨a,kvs,rfl,rfl,ha,q⟩:=h
 cases rx
 cases rv
 obtain ⟨hz,nS,vs,kv,hd⟩:=(I.hok a _ ha:ObjOk X.prog X.w H s.heap a (.dK kvs))
 have e:=Heap.get?_push_size s.heap (o:={ cls:=.type "dict_values",data:=.fields #[.ref a] }) rfl
 refine call_meetsIn PySem.F.slot_dict_values hd.typeIs PySem.F.entry_dict_values (PySem.F.args_dict_values_1 _) (meets_dict_values (mixKind X.prog X.w) a nS) ⟨⟨vs,hd⟩,?_⟩
 refine ⟨.ref s.heap.objs.size,_,I.laid (t':=s.toks) (fun b o q=>Heap.get?_push_of_some _ q) (Nat.le_refl _) (show ObjOk X.prog X.w _ _ _ (ViewO _ a) from ⟨⟨_,e,rfl,rfl⟩,⟨_,e⟩,fun h1 h2 ⟨o,e1,e2⟩ k=>⟨o,k o e1,e2⟩⟩),rfl,q _ (I.hok.fresh (Nat.le_refl _))⟩
theorem zaf4 {X:Cx}{o:Expr}{td:TE}{apos cpos:Pos} (ho:Pr (PE X o td)) (hbase:attributeBase o "values" X.env (eval o X.env)=eval o X.env:=by rfl) (hline:(apos.endLine == cpos.line)=true:=by rfl):Pr (PE X (.Call (.Attribute o "values" apos) [] [] cpos) (tBM0 X.K "dict" rValues td)) :=
 ⟨zanv PySem.F.plainAttrs_dict PySem.F.slot_dict_values PySem.F.type_dict_values zak3 ho.h hbase hline⟩
end L2

namespace L2
open PySem PySem.W PyProof.Rows PySem.Calls
theorem zaeg {α β:Type}{R:α→β→Prop}:∀ {xs:List α}{ys:List β},xs.length=ys.length→(∀ (j:Nat) x y,xs[j]?=some x→ys[j]?=some y→R x y)→Paired R xs ys
 | [],[],_,_=>.nil
 | x :: xs,y :: ys,e,h=>.cons (h 0 x y rfl rfl) (zaeg (by simpa using e) fun j a b h1 h2=>h (j + 1) a b (by simpa using h1) (by simpa using h2))
structure TabOk (P:Program) (w:World) (K:PySem.W.Frag) (mg:Str→Option Value) (base:Heap) (CX:CXT) (k:Nat) (ps:List Str) (sp:Addr→Sp) (A:Addr→Prop):Prop where
 at_:∀ f,A f→∃ fd:FuncData,FnOk P w K mg base CX k f fd ps (sp f)∧Binds K fd ps []∧PySem.W.keepIn K (.ref f)=true
def tCallV (sp:Addr→Sp) (A:Addr→Prop) (E:XK) (tf:TE) (t:TA):TE:=fun σ H Q=>tf σ H fun x H1=>∃ f,x=.ref f∧A f∧t σ H1 fun vs H2=>sp f vs H2 Q E
section
variable {X:Cx}
theorem zahi {CX:CXT}{k:Nat}{ps:List Str}{sp:Addr→Sp}{A:Addr→Prop}{E:XK}{o i e:Expr}{es:List Expr}{p pos:Pos}{tf:TE}{t:TA} (T:TabOk X.prog X.w X.K X.mg X.base CX k ps sp A) (hr:Room k X.A) (hx:Passes CX X E) (hf:Pr (PE X (.Subscript o i p) tf)) (ha:Pr (PA X (e :: es) t))
  (ht:eval (.Call (.Subscript o i p) (e :: es) [] pos) X.env=(eval (.Subscript o i p) X.env >>= fun f=>callWith pos f [] (backTo pos (starEach (e :: es) X.env)) (backToKw pos (keywordEach [] X.env))):=by rfl)
  (he:starEach (e :: es) X.env=(false,eval e X.env) :: starEach es X.env:=by rfl) (hpl:(backTo pos (starEach es X.env)).any (·.1)=false:=by rfl) :
  Pr (PE X (.Call (.Subscript o i p) (e :: es) [] pos) (tCallV sp A E tf t)):=by
 refine ⟨fun pins s σ H Q I h=>?_⟩
 rw [ht]
 refine wpAny_bind (thn (hf.h pins s σ H _ I h) fun u s1 ⟨x,H1,I1,rx,f,ex,af,q⟩=>?_)
 subst ex
 obtain rfl:u=Value.ref f:=rx
 obtain ⟨fd,F,b,kp⟩:=T.at_ f af
 refine PySem.W.callWith_K (h₀:=X.base) I.ok.mod.kin kp (thn (ha.h pos pins s1 σ H1 _ I1 q) fun us s2 ⟨vs,H2,I2,r,q2⟩=>⟨I2.kIn,?_⟩) he hpl
 exact zaip F hr b .nil hx I2 r (by rw [List.append_nil]; exact q2)
def ItemO (v d:Addr):HO:=.ext fun h=>h.IsItemsView v d
def rItems:V→List V→Hp→VK→Prop:=fun x vs H Q=>∃ (a:Addr) (kvs:List (Key × V)),x=.ref a∧vs=[]∧H a=some (.dK kvs)∧∀ v,H v=none→Q (.ref v) (upd H v (ItemO v a))
theorem zam7:MtR X "dict.items" rItems:=by
 intro pins s σ H x vs v us Q I rx rv h
 obtain ⟨a,kvs,rfl,rfl,ha,q⟩:=h
 cases rx
 cases rv
 obtain ⟨hz,nS,vs,kv,hd⟩:=(I.hok a _ ha:ObjOk X.prog X.w H s.heap a (.dK kvs))
 have e:=Heap.get?_push_size s.heap (o:={ cls:=.type "dict_items",data:=.fields #[.ref a] }) rfl
 refine call_meetsIn PySem.F.slot_dict_items hd.typeIs PySem.F.entry_dict_items (PySem.F.args_dict_items_1 _) (meets_dict_items (mixKind X.prog X.w) a nS) ⟨⟨vs,hd⟩,?_⟩
 refine ⟨.ref s.heap.objs.size,_,I.laid (t':=s.toks) (fun b o q=>Heap.get?_push_of_some _ q) (Nat.le_refl _) (show ObjOk X.prog X.w _ _ _ (ItemO _ a) from ⟨⟨_,e,rfl,rfl⟩,⟨_,e⟩,fun h1 h2 ⟨o,e1,e2⟩ k=>⟨o,k o e1,e2⟩⟩),rfl,q _ (I.hok.fresh (Nat.le_refl _))⟩
theorem zafa {o:Expr}{td:TE}{apos cpos:Pos} (ho:Pr (PE X o td)) (hbase:attributeBase o "items" X.env (eval o X.env)=eval o X.env:=by rfl) (hline:(apos.endLine == cpos.line)=true:=by rfl):Pr (PE X (.Call (.Attribute o "items" apos) [] [] cpos) (tBM0 X.K "dict" rItems td)) :=
 ⟨zanv PySem.F.plainAttrs_dict PySem.F.slot_dict_items PySem.F.type_dict_items zam7 ho.h hbase hline⟩
theorem zahj {pins:List (Addr × Obj)}{σ:St}{H0:Hp}{s s':Shared} (hex:X.ex=[]) (I:Inv X pins σ H0 s):∀ {kvs:List (Key × V)}{as:List Addr}{H1:Hp},Inv X pins σ H1 s'→as.Pairwise (· < ·)→(∀ a∈as,s.heap.get? a=none∧H1 a=none) →
  Paired (fun kv a=>∃ u x,RelV (kV kv.1) u∧RelV kv.2 x∧s'.heap.get? a=some { cls:=.type "tuple",data:=.seq #[u,x] }) kvs as →
  ∃ H2,Inv X pins σ H2 s'∧Ch [] H1 H2∧Paired (fun kv a=>H2 a=some (.tup [kV kv.1,kv.2])) kvs as
 | _,_,H1,J,_,_,.nil=>⟨H1,J,Ch.refl _ _,.nil⟩
 | kv :: kvs,a :: as,H1,J,up,fr,.cons ⟨u,x,r1,r2,e⟩ t=>by
  obtain ⟨n1,n2⟩:=fr a (by simp)
  have J2:=J.track (o:=.tup [kV kv.1,kv.2]) n2 (I.alien0 hex n1) (I.alien n1).1 (I.alien n1).2.1 (I.alien n1).2.2 (show ObjOk X.prog X.w _ s'.heap a (.tup [kV kv.1,kv.2]) from ⟨by rw [sizeLine_eq]; show 2≤16777216; decide,[u,x],.cons r1 (.cons r2 .nil),⟨_,e,rfl,_,rfl⟩⟩)
  obtain ⟨ha,up'⟩:=List.pairwise_cons.mp up
  obtain ⟨H2,J3,c,pr⟩:=zahj hex I J2 up' (fun b hb=>⟨(fr b (by simp [hb])).1,by rw [zaak (Nat.ne_of_gt (ha b hb))]; exact (fr b (by simp [hb])).2⟩) t
  exact ⟨H2,J3,(Ch.new n2 _).trans c,.cons (c.get zaag (by simp)) pr⟩
def rListI:List V→Hp→VK→Prop:=fun xs H Q=>∃ (v a:Addr) (kvs:List (Key × V)),xs=[.ref v]∧H v=some (ItemO v a)∧H a=some (.dK kvs)∧∀ l (as:List Addr) H',Ch [] H H'→H l=none→H' l=some (.lst (as.map V.ref))→Paired (fun kv p=>H' p=some (.tup [kV kv.1,kv.2])) kvs as→Q (.ref l) H'
theorem zai0:∀ as:List Addr,Vals (as.map V.ref) (as.map Value.ref)
 | []=>.nil
 | a :: as=>.cons rfl (zai0 as)
theorem zak4 {P:Program}{w:World}{k:Key}{u:Value} (h:(mixKind P w).is k u=true):RelV (kV k) u:=by
 rcases zabl h with ⟨i,t,rfl,rfl⟩ | ⟨x,t,rfl,rfl⟩ <;> exact ⟨_,rfl⟩
theorem zajr (hc:X.calm=true) (hex:X.ex=[]):CallR X (.type "list") rListI:=by
 intro pins s σ H xs us Q I r h
 obtain ⟨v,a,kvs,rfl,hv,ha,q⟩:=h
 obtain ⟨u,rfl,ru⟩:=vals1 r
 cases ru
 obtain ⟨hz,nS,vs,kv,hd⟩:=(I.hok a _ ha:ObjOk X.prog X.w H s.heap a (.dK kvs))
 have hvw:=(I.hok v _ hv:ObjOk X.prog X.w H s.heap v (ItemO v a)).1
 have lv:vs.length=kvs.length:=(Paired.length kv).symm
 obtain ⟨ep,hat⟩:=hd.dictAt
 refine PySem.W.kdx_call (I.ok.hd hc) hvw hat (by omega) fun h' tk acc c as kp e el hG ea=>?_
 have e3:acc=(as.map Value.ref).toArray:=by rw [← ea]
 rw [e3] at e
 have J:=I.laid (t':=tk) kp (Nat.le_refl _) (show ObjOk X.prog X.w (upd H s.heap.objs.size (.lst (as.map V.ref))) h' _ (.lst (as.map V.ref)) from ⟨by rw [List.length_map]; omega,_,_,zai0 as,e⟩)
 have fr:∀ b∈as,s.heap.get? b=none∧upd H s.heap.objs.size (.lst (as.map V.ref)) b=none:=fun b hb=>by
  have gt:=hG.above b hb
  have n1:s.heap.get? b=none:=by
   cases z:s.heap.get? b with
   | none=>rfl
   | some o=>exact absurd (Nat.lt_trans gt (Heap.lt_size z)) (Nat.lt_irrefl _)
  exact ⟨n1,by rw [zaak (Nat.ne_of_gt gt)]; exact I.hok.fresh (Nat.le_of_lt gt)⟩
 have pr:Paired (fun kv a=>∃ u x,RelV (kV kv.1) u∧RelV kv.2 x∧h'.get? a=some { cls:=.type "tuple",data:=.seq #[u,x] }) kvs as:=by
  refine zaeg (by rw [el]; exact lv.symm) fun j kw b hk hj=>?_
  obtain ⟨key,k,x,e1,e2,e3⟩:=hG.pairs j b hj
  obtain ⟨j1,ek⟩:=List.getElem?_eq_some_iff.mp hk
  obtain ⟨j2,ev⟩:=List.getElem?_eq_some_iff.mp e1
  have rr:=zabx kv j j1 j2
  rw [ek,ev] at rr
  exact ⟨key,x,by rw [rr.1]; exact zak4 e2,rr.2,e3⟩
 obtain ⟨H2,J2,cc,pr2⟩:=zahj hex I J hG.rise fr pr
 exact ⟨.ref s.heap.objs.size,H2,J2,rfl,q _ as H2 ((Ch.new (I.hok.fresh (Nat.le_refl _)) _).trans cc) (I.hok.fresh (Nat.le_refl _)) (cc.get zaag (by simp)) pr2⟩
theorem zaf5 {i o:Expr}{ty td:TE}{pos:Pos} (hu:X.A.units + 1 < cLine) (hi:Pr (PE X i ty)) (ho:Pr (PE X o td)) (h1:behindInMarks .NotIn o=false:=by rfl):Pr (PE X (.Compare i [.NotIn] [o] pos) (tDNotIn ty td)):=⟨zap5 (zahc hu hi.h ho.h) h1⟩
theorem dputS {H:Hp}{a:Addr}{kvs:List (Key × V)}{x:Str}{v:V} (e:H a=some (.dK kvs)) (hl:kvs.length < sizeLine):DPut H a (.str x) v (upd H a (.dK (putK kvs (.inr x) v))):=DPut.k (k:=.inr x) e hl
end
end L2

namespace L2
open PySem PySem.Spec PyProof.Rows
theorem zaq6 {kvs:List (Key × V)}{vs:List (Key × Value)} (h:KV kvs vs):∀ {i:Nat}{kv:Key × V},kvs[i]?=some kv→∃ v,vs[i]?=some (kv.1,v)∧RelV kv.2 v:=by
 induction h with
 | nil=>intro i kv z; simp at z
 | cons a t ih =>
  intro i kv z
  cases i with
  | zero =>
   rename_i x y xs ys
   have z:x=kv:=by simpa using z
   subst z
   exact ⟨y.2,by show some y=_; rw [show y=(y.1,y.2) from rfl,← a.1],a.2⟩
  | succ i=>exact ih (by simpa using z)
theorem Inv.frzv {X:Cx}{pins:List (Addr × Obj)}{σ:St}{H:Hp}{s:Shared}{d:Addr}{kvs:List (Key × V)}{ob:Obj}{es:Array DictEntry}{ep:Nat} (I:Inv X pins σ H s) (e:H d=some (.frz ob (.dK kvs))) (hd:ob.data=.dict es ep):∃ vs,s.heap.DictAt (mixKind X.prog X.w) d vs ep∧KV kvs vs∧vs.length=kvs.length:=by
 obtain ⟨g1,_,_,vs,kv,o,es',ep',g2,g3,g4,g6⟩:=(I.hok d _ e:ObjOk X.prog X.w H s.heap d (.frz ob (.dK kvs)))
 rw [g1] at g2
 cases g2
 have g4':=g4
 rw [hd] at g4
 cases g4
 exact ⟨vs,⟨_,_,g1,g3,g4',g6⟩,kv,(Paired.length kv).symm⟩
def Itw (d:Addr) (ob:Obj) (kvs:List (Key × V)):It:=⟨fun i H=>H d=some (.frz ob (.dK kvs))∧i < kvs.length,fun i H x H'=>H'=H∧∃ kv:Key × V,kvs[i]?=some kv∧x=kv.2,fun i H=>H d=some (.frz ob (.dK kvs))∧kvs.length≤i⟩
theorem zak5 {P:Program}{w:World}{K:PySem.W.Frag}{tg:Expr} (d it:Addr) {ob:Obj}{kvs:List (Key × V)}{es:Array DictEntry}{ep:Nat} (hd:ob.data=.dict es ep):Turn P w K tg (Itw d ob kvs) [it] it (fun i h=>h.IsValIter it d i kvs.length ep∧i≤kvs.length) where
 mem:=by simp
 obj:=fun i h st b hb=>by
  have e:b=it:=by simpa using hb
  subst e
  obtain ⟨⟨o,ho,_,hdd⟩,_⟩:=st
  exact ⟨o,ho,fun v z=>by rw [hdd] at z; cases z⟩
 keep:=fun i h h' st k=>⟨st.1.at fun o e=>k it (by simp) o e,st.2⟩
 item:=by
  intro X hP hw hK hc i pins s σ H E I hf st hg
  subst hP hw hK
  obtain ⟨hq,hi⟩:=hg
  obtain ⟨vs,hm,kv,lv⟩:=I.frzv hq hd
  obtain ⟨f0,f1,f2,f3,f4,f5⟩:=hf it (by simp)
  obtain ⟨v,hx,rv⟩:=zaq6 kv (List.getElem?_eq_getElem hi)
  have hit:=st.1
  rw [← lv] at hit
  refine wpAny_pyNext_values_item hit hm hx fun h' hit' sb=>?_
  have I1:Inv X pins σ H { s with heap:=h' }:=I.turned (t':=s.toks) (fun b o hb e=>(sb.2 b hb).trans e) f0 f1 f3 f4 f5
  rw [lv] at hit'
  obtain ⟨o,ho,hc',hdd⟩:=id hit'
  exact ⟨_,rfl,zame (s:={ s with heap:=h' }) ho hc' hdd (by decide) ⟨kvs[i].2,H,I1,rv,⟨rfl,_,List.getElem?_eq_getElem hi,rfl⟩,⟨hit',by omega⟩,fun b hb=>(hf b hb).1⟩⟩
 done:=by
  intro X hP hw hK hc i pins s σ H E I hf st hg
  subst hP hw hK
  obtain ⟨hq,hi⟩:=hg
  obtain ⟨vs,hm,kv,lv⟩:=I.frzv hq hd
  obtain ⟨f0,f1,f2,f3,f4,f5⟩:=hf it (by simp)
  have hit:=st.1
  rw [← lv] at hit
  exact wpAny_pyNext_values_end (I.ok.hd hc) hit hm (List.getElem?_eq_none (by omega)) fun h' eb=>⟨rfl,I.turned (t':=s.toks) (fun b o hb e=>eb b o hb e) f0 f1 f3 f4 f5⟩
 self:=fun _ _ _ _ _ st h=>wpAny_pyIter_valiter st.1 h
def iVals (tl:TE):TI:=fun σ H R=>tl σ H fun x H1=>∃ v d kvs,x=.ref v∧H1 v=some (ViewO v d)∧H1 d=some (.dK kvs)∧∀ ob,R (Itw d ob kvs) (upd H1 d (.frz ob (.dK kvs)))
theorem zai1 {X:Cx}{tg:Expr}{l:Expr}{tl:TE} (hl:Pr (PE X l tl)):Pr (PI X tg l (iVals tl)):=by
 refine ⟨?_⟩
 intro pins s σ H R I h
 refine thn (hl.h pins s σ H _ I h) fun v s1 ⟨x,H1,I1,r1,q1⟩=>?_
 obtain ⟨va,d,kvs,e,hv,hq,q⟩:=q1
 subst e
 cases r1
 have hvw:=(I1.hok va _ hv:ObjOk X.prog X.w H1 s1.heap va (ViewO va d)).1
 obtain ⟨_,nS,vs,kv,o,es,ep,g2,g3,g4,g5⟩:=(I1.hok d _ hq:ObjOk X.prog X.w H1 s1.heap d (.dK kvs))
 have lv:vs.length=kvs.length:=(Paired.length kv).symm
 have I2:=I1.freeze hq g2
 refine wpAny_pyIter_values (knd:=mixKind X.prog X.w) (kvs:=vs) (ep:=ep) hvw ⟨o,es,g2,g3,g4,g5⟩ ?_
 refine ⟨s1.heap.objs.size,[s1.heap.objs.size],_,_,_,rfl,I2.kept (t':=s1.toks) fun b o e=>Heap.get?_push_of_some _ e,zak5 d _ g4,⟨⟨_,Heap.get?_push_size _ rfl,rfl,by rw [lv]; rfl⟩,Nat.zero_le _⟩,fun b hb=>?_,q o⟩
 have e:b=s1.heap.objs.size:=by simpa using hb
 subst e
 exact I2.fpOk (Nat.le_refl _) (I2.hok.fresh (Nat.le_refl _))
theorem zak6 {d:Addr}{ob:Obj}{kvs:List (Key × V)}{g:TG}{tb:TS}{D:Ends}{σ:St}{H:Hp} (Pv:Nat→St→Hp→Prop) (h0:Pv 0 σ H) (hl:∀ i σ H,i≤kvs.length→Pv i σ H→H d=some (.frz ob (.dK kvs)))
  (hs:∀ i kv σ H,kvs[i]?=some kv→Pv i σ H→g kv.2 σ H fun σ2 H2=>tb { D with nx:=Pv (i + 1),ct:=Pv (i + 1),bk:=D.nx } σ2 H2) (hd:∀ σ H,Pv kvs.length σ H→D.nx σ H):Loop (Itw d ob kvs) g tb D σ H:=by
 refine ⟨fun i m σ H=>i + m=kvs.length∧Pv i σ H,⟨kvs.length,by omega,h0⟩,fun i m σ H ⟨e,p⟩=>?_⟩
 by_cases hi:i < kvs.length
 ·refine .inr ⟨⟨hl i σ H (by omega) p,hi⟩,Pv (i + 1),fun σ' H' p'=>⟨m - 1,by omega,by omega,p'⟩,fun x H' ⟨e1,kv,e2,e3⟩=>?_⟩
  subst e1
  subst e3
  exact hs i kv σ H' e2 p
 ·have e':i=kvs.length:=by omega
  subst e'
  exact .inl ⟨⟨hl _ σ H (Nat.le_refl _) p,Nat.le_refl _⟩,hd σ H p⟩
theorem zak7 {d:Addr}{ob:Obj} (kvs:List (Key × V)) {g:TG}{tt:TT}{te:TE}{Q:List V→Hp→Prop}{σ:St}{H:Hp} (Pv:Nat→List V→St→Hp→Prop) (hn:kvs.length < sizeLine) (h0:Pv 0 [] σ H) (hl:∀ i ys σ H,i≤kvs.length→Pv i ys σ H→ys.length≤i∧H d=some (.frz ob (.dK kvs)))
  (turn:∀ i ys σ H kv,kvs[i]?=some kv→Pv i ys σ H→g kv.2 σ H fun σ2 H2=>tt σ2 H2 fun b H3=>if b=true then te σ2 H3 fun y H4=>Pv (i + 1) (ys++[y]) σ2 H4 else Pv (i + 1) ys σ2 H3)
  (after:∀ ys σ H,Pv kvs.length ys σ H→Q ys H):Comp (Itw d ob kvs) g tt te Q σ H :=
 zae6 kvs.length Pv h0 (fun i ys σ H hi p=>Nat.lt_of_le_of_lt (Nat.le_trans (hl i ys σ H hi p).1 hi) hn) (fun i ys σ H hi p=>⟨(hl i ys σ H (Nat.le_of_lt hi) p).2,hi⟩)
  (fun ys σ H p=>⟨(hl _ ys σ H (Nat.le_refl _) p).2,Nat.le_refl _⟩) (fun i ys σ H hi p x H' y=>by obtain ⟨rfl,kv,e,rfl⟩:=y; exact turn i ys σ _ kv e p) after
theorem zads:entryFor table "dict_itemiterator.__iter__" = some Builtin.«dict_keyiterator.__iter__» :=
 entryFor_alias (id' := "dict_keyiterator.__iter__") (by kernel_rfl) rfl (by decide +kernel) (by kernel_rfl)
def Itm (d:Addr) (ob:Obj) (kvs:List (Key × V)):It:=⟨fun i H=>H d=some (.frz ob (.dK kvs))∧i < kvs.length,fun i H x H'=>∃ (kv:Key × V) (T:Addr),kvs[i]?=some kv∧x=.ref T∧H T=none∧H'=upd H T (.tup [kV kv.1,kv.2]),fun i H=>H d=some (.frz ob (.dK kvs))∧kvs.length≤i⟩
theorem zajs {P:Program}{w:World}{K:PySem.W.Frag}{elts:List Expr}{kk:Nat}{tpos:Pos} (d it:Addr) {ob:Obj}{kvs:List (Key × V)}{es:Array DictEntry}{ep:Nat} (hd:ob.data=.dict es ep):Turn P w K (.Tuple elts kk tpos) (Itm d ob kvs) [it] it (fun i h=>(∃ ok ov,IsItemIter h it d i kvs.length ep ok ov)∧i≤kvs.length) where
 mem:=by simp
 obj:=fun i h st b hb=>by
  have e:b=it:=by simpa using hb
  subst e
  obtain ⟨⟨ok,ov,ho⟩,_⟩:=st
  exact ⟨_,ho,fun v z=>nomatch z⟩
 keep:=fun i h h' st k=>by
  obtain ⟨⟨ok,ov,ho⟩,l⟩:=st
  exact ⟨⟨ok,ov,k it (by simp) _ ho⟩,l⟩
 item:=by
  intro X hP hw hK hc i pins s σ H E I hf st hg
  subst hP hw hK
  obtain ⟨hq,hi⟩:=hg
  obtain ⟨vs,hm,kv,lv⟩:=I.frzv hq hd
  obtain ⟨v,hx,rv⟩:=zaq6 kv (List.getElem?_eq_getElem hi)
  obtain ⟨⟨ok,ov,hit⟩,_⟩:=st
  have ilt:it < s.heap.objs.size:=Heap.lt_size hit
  rw [← lv] at hit
  refine wpAny_pyNext_items_item hit hm hx fun key h' hk a1 a3 a4 a5=>?_
  refine ⟨_,rfl,wpAny_letOwnedTupleGo_items (s:={ s with heap:=h' }) a1 fun h'' b1 b2=>?_⟩
  have k2:∀ c o,c ∉ [it]→s.heap.get? c=some o→h''.get? c=some o:=fun c o hc ec=>by
   have hc:c≠it:=by simpa using hc
   exact b2.extBut _ _ hc (a5 c o hc ec)
  have hT2:h''.get? s.heap.objs.size=some { cls:=.type "tuple",data:=.seq #[key,v] }:=b2.extBut _ _ (Nat.ne_of_gt ilt) a3
  rw [lv] at b1
  refine ⟨.ref s.heap.objs.size,upd H s.heap.objs.size (.tup [kV kvs[i].1,kvs[i].2]),I.turnedNew (t':=s.toks) (o:=.tup [kV kvs[i].1,kvs[i].2]) k2 hf (Nat.le_refl _)
   ⟨by show 2≤sizeLine; decide,[key,v],.cons (zak4 hk) (.cons rv .nil),⟨_,hT2,rfl,_,rfl⟩⟩,rfl,
   ⟨_,_,List.getElem?_eq_getElem hi,rfl,I.hok.fresh (Nat.le_refl _),rfl⟩,⟨⟨_,_,b1⟩,by omega⟩,fun b hb=>?_⟩
  have e:b=it:=by simpa using hb
  subst e
  rw [zaak (Nat.ne_of_lt ilt)]
  exact (hf b (by simp)).1
 done:=by
  intro X hP hw hK hc i pins s σ H E I hf st hg
  subst hP hw hK
  obtain ⟨hq,hi⟩:=hg
  obtain ⟨vs,hm,kv,lv⟩:=I.frzv hq hd
  obtain ⟨f0,f1,f2,f3,f4,f5⟩:=hf it (by simp)
  obtain ⟨⟨ok,ov,hit⟩,_⟩:=st
  rw [← lv] at hit
  exact wpAny_pyNext_items_end (I.ok.hd hc) hit hm (List.getElem?_eq_none (by omega)) fun h' eb=>⟨rfl,I.turned (t':=s.toks) (fun b o hb e=>eb b o hb e) f0 f1 f3 f4 f5⟩
 self:=fun A i s Q E st h=>by
  obtain ⟨⟨ok,ov,hit⟩,_⟩:=st
  have T:s.TypeIs (.ref it) "dict_itemiterator" := ⟨_,hit,rfl⟩
  refine wpAny_pyIter_slot T F.slot_dict_itemiterator_iter (wpAny_call_entry F.slot_dict_itemiterator_iter T zads ?_ (F.args_dict_itemiterator_iter_1 _))
  show wpAny _ _ (ret (.ref it)) _ _ s
  exact wpAny_pure ⟨_,rfl, "dict_itemiterator",_,T,F.slot_dict_itemiterator_next.lookup,h⟩
def iItems (tl:TE):TI:=fun σ H R=>tl σ H fun x H1=>∃ v d kvs,x=.ref v∧H1 v=some (ItemO v d)∧H1 d=some (.dK kvs)∧∀ ob,R (Itm d ob kvs) (upd H1 d (.frz ob (.dK kvs)))
theorem zahk {X:Cx}{elts:List Expr}{kk:Nat}{tpos:Pos}{l:Expr}{tl:TE} (hl:Pr (PE X l tl)):Pr (PI X (.Tuple elts kk tpos) l (iItems tl)):=by
 refine ⟨?_⟩
 intro pins s σ H R I h
 refine thn (hl.h pins s σ H _ I h) fun v s1 ⟨x,H1,I1,r1,q1⟩=>?_
 obtain ⟨va,d,kvs,e,hv,hq,q⟩:=q1
 subst e
 cases r1
 have hvw:=(I1.hok va _ hv:ObjOk X.prog X.w H1 s1.heap va (ItemO va d)).1
 obtain ⟨_,nS,vs,kv,o,es,ep,g2,g3,g4,g5⟩:=(I1.hok d _ hq:ObjOk X.prog X.w H1 s1.heap d (.dK kvs))
 have lv:vs.length=kvs.length:=(Paired.length kv).symm
 have I2:=I1.freeze hq g2
 refine wpAny_pyIter_items (knd:=mixKind X.prog X.w) (kvs:=vs) (ep:=ep) hvw ⟨o,es,g2,g3,g4,g5⟩ ?_
 refine ⟨s1.heap.objs.size,[s1.heap.objs.size],_,_,_,rfl,I2.kept (t':=s1.toks) fun b o e=>Heap.get?_push_of_some _ e,zajs d _ g4,⟨⟨_,_,by rw [lv]; exact Heap.get?_push_size _ rfl⟩,Nat.zero_le _⟩,fun b hb=>?_,q o⟩
 have e:b=s1.heap.objs.size:=by simpa using hb
 subst e
 exact I2.fpOk (Nat.le_refl _) (I2.hok.fresh (Nat.le_refl _))
theorem zajt {d:Addr}{ob:Obj}{kvs:List (Key × V)}{g:TG}{tb:TS}{D:Ends}{σ:St}{H:Hp} (Pv:Nat→St→Hp→Prop) (h0:Pv 0 σ H) (hl:∀ i σ H,i≤kvs.length→Pv i σ H→H d=some (.frz ob (.dK kvs)))
  (hs:∀ i kv σ H T,kvs[i]?=some kv→Pv i σ H→H T=none→g (.ref T) σ (upd H T (.tup [kV kv.1,kv.2])) fun σ2 H2=>tb { D with nx:=Pv (i + 1),ct:=Pv (i + 1),bk:=D.nx } σ2 H2) (hd:∀ σ H,Pv kvs.length σ H→D.nx σ H):Loop (Itm d ob kvs) g tb D σ H:=by
 refine ⟨fun i m σ H=>i + m=kvs.length∧Pv i σ H,⟨kvs.length,by omega,h0⟩,fun i m σ H ⟨e,p⟩=>?_⟩
 by_cases hi:i < kvs.length
 ·refine .inr ⟨⟨hl i σ H (by omega) p,hi⟩,Pv (i + 1),fun σ' H' p'=>⟨m - 1,by omega,by omega,p'⟩,fun x H' ⟨kv,T,e2,e3,hT,e1⟩=>?_⟩
  subst e1
  subst e3
  exact hs i kv σ H T e2 p hT
 ·have e':i=kvs.length:=by omega
  subst e'
  exact .inl ⟨⟨hl _ σ H (Nat.le_refl _) p,Nat.le_refl _⟩,hd σ H p⟩
theorem zaju {d:Addr}{ob:Obj} (kvs:List (Key × V)) {g:TG}{tt:TT}{te:TE}{Q:List V→Hp→Prop}{σ:St}{H:Hp} (Pv:Nat→List V→St→Hp→Prop) (hn:kvs.length < sizeLine) (h0:Pv 0 [] σ H) (hl:∀ i ys σ H,i≤kvs.length→Pv i ys σ H→ys.length≤i∧H d=some (.frz ob (.dK kvs)))
  (turn:∀ i ys σ H kv T,kvs[i]?=some kv→Pv i ys σ H→H T=none→g (.ref T) σ (upd H T (.tup [kV kv.1,kv.2])) fun σ2 H2=>tt σ2 H2 fun b H3=>if b=true then te σ2 H3 fun y H4=>Pv (i + 1) (ys++[y]) σ2 H4 else Pv (i + 1) ys σ2 H3)
  (after:∀ ys σ H,Pv kvs.length ys σ H→Q ys H):Comp (Itm d ob kvs) g tt te Q σ H :=
 zae6 kvs.length Pv h0 (fun i ys σ H hi p=>Nat.lt_of_le_of_lt (Nat.le_trans (hl i ys σ H hi p).1 hi) hn) (fun i ys σ H hi p=>⟨(hl i ys σ H (Nat.le_of_lt hi) p).2,hi⟩)
  (fun ys σ H p=>⟨(hl _ ys σ H (Nat.le_refl _) p).2,Nat.le_refl _⟩) (fun i ys σ H hi p x H' y=>by obtain ⟨kv,T,e,rfl,hT,rfl⟩:=y; exact turn i ys σ H kv T e p hT) after
end L2

namespace L2
open PySem PySem.Spec PyProof.Rows
def upK:List (Key × V)→List (Key × V)→List (Key × V):=fun acc l=>l.foldl (fun a kv=>putK a kv.1 kv.2) acc
theorem zaq7:∀ {kvs:List (Key × V)}{ps:List (Key × Value)}{acc:List (Key × V)}{ac:List (Key × Value)},KV kvs ps→KV acc ac→KV (upK acc kvs) (merged ac ps)
 | _,_,_,_,.nil,h=>h
 | x :: l,y :: ps,acc,ac,.cons a t,h=>by
  have e:KV (putK acc x.1 x.2) (stored ac y.1 y.2):=by rw [← a.1]; exact h.put x.1 a.2
  exact zaq7 (kvs:=l) (ps:=ps) t e
theorem zak8:∀ (l acc:List (Key × V)),(upK acc l).length≤acc.length + l.length
 | [],acc=>by simp [upK]
 | kv :: l,acc=>by
  have:=zak8 l (putK acc kv.1 kv.2)
  have:=zacv acc kv.1 kv.2
  show (upK (putK acc kv.1 kv.2) l).length≤_
  simp only [List.length_cons]
  omega
def rUpd:V→List V→Hp→VK→Prop:=fun x vs H Q=>∃ (a b:Addr) (kvs more:List (Key × V)),x=.ref a∧vs=[.ref b]∧H a=some (.dK kvs)∧H b=some (.dK more)∧a≠b∧kvs.length + more.length≤sizeLine∧Q .non (upd H a (.dK (upK kvs more)))
theorem zaq8 {X:Cx}:MtR X "dict.update" rUpd:=by
 intro pins s σ H x vs v us Q I rx rv h
 obtain ⟨a,b,kvs,more,rfl,rfl,ha,hb,ne,hz,q⟩:=h
 cases rx
 obtain ⟨u,rfl,ru⟩:=vals1 rv
 cases ru
 obtain ⟨z,hd,xs,rel,dd⟩:=zaos I.hok ha
 obtain ⟨z2,hd2,xs2,rel2,dd2⟩:=zaos I.hok hb
 have l1:=rel.length
 have l2:=rel2.length
 have hl:(upK kvs more).length≤sizeLine:=by have:=zak8 more kvs; omega
 refine call_meetsIn PySem.F.slot_dict_update dd.typeIs PySem.F.entry_dict_update (PySem.F.args_dict_update_2 _ _) (meets_dict_update (mixKind X.prog X.w) a b ne hd2) ⟨xs,xs2,dd,dd2,by omega,fun h' dd' _ hs=>?_⟩
 have he:∃ q,h'.get? a=some q:=let ⟨q,_,_,hq,_⟩:=dd'; ⟨q,hq⟩
 exact ⟨.non,_,zahx I (by rw [ha]; exact True.intro) hs he (zanw hl hd (zaq7 rel2 rel) dd'),rfl,q⟩
end L2

namespace L2
open PySem PySem.Spec PyProof.Rows PySem.SeqAt
section
variable {X:Cx}
def rCatU (K:PySem.W.Frag):R2:=fun x y H Q=>∃ a b xs ys,x=.ref a∧y=.ref b∧SqT K H a xs∧H b=some (.tup ys)∧ys≠[]∧xs.length + ys.length≤sizeLine∧∀ t H',Ch [] H H'→H' t=some (.tup (xs++ys))→Q (.ref t) H'
theorem zak9:OpR X (binaryOp .Add) (rCatU X.K):=by
 intro pins s σ H x y v u Q I rx ry h
 obtain ⟨a,b,xs,ys,rfl,rfl,ha,gb,hy,hz,q⟩:=h
 have hb:SqT X.K H b ys:=.of gb
 by_cases hx:xs=[]
 ·cases rx
  cases ry
  obtain ⟨its,r1,p1,_⟩:=I.tuple ha
  obtain ⟨its2,r2,p2,_⟩:=I.tuple hb
  obtain ⟨⟨cls,dd,data,sl⟩,ho,hc,n,hd⟩:=id p1
  obtain ⟨⟨cls2,dd2,data2,sl2⟩,ho2,hc2,n2,hd2⟩:=id p2
  simp only at hc hd hc2 hd2
  subst hc hd hc2 hd2
  have e0:its=[]:=r1.nil_iff.mpr hx
  exact concat_meets ⟨_,ho,rfl⟩ ⟨_,ho2,rfl⟩ noFill_tuple_add seq_tuple_add PySem.F.slot_tuple_add PySem.F.entry_tuple_add (PySem.F.args_tuple_add_2 _ _)
   (tuple_addW0 a b its.toArray its2.toArray n n2 dd dd2 sl sl2 (by simp [e0])) ⟨ho,ho2,⟨.ref b,H,I,rfl,q b H (Ch.refl _ _) (by rw [hx]; exact gb)⟩⟩
 ·exact zaop pins s σ H _ _ v u Q I rx ry ⟨a,b,xs,ys,rfl,rfl,ha,hb,hx,hz,fun e=>absurd e hy,fun _ p hp=>q p _ (Ch.new hp _) zaag⟩
end
theorem zam8 {X:Cx} (K:PySem.W.Frag) (e:X.K=K):OpR X (binaryOp .Add) (rCatU K):=by subst e; exact zak9
end L2

namespace L2
open PySem PySem.W PyProof.Rows
section
variable {pg:Program}{wo:World}{Ar:Around}{Ex:Value→Shared→Prop}
theorem zahl {j l:Addr}{vs:Array Value} (ne:l≠j):∀ (m k:Nat) (s:Shared) (Z:List Value→Shared→Prop),s.heap.IsListIter j l k→s.heap.IsList l vs→k + m≤vs.size →
  (∀ g,g.IsListIter j l (k + m)→Heap.SameBut j s.heap g→Z ((vs.toList.drop k).take m) { s with heap:=g })→wpAny (model pg wo) Ar (draw (.ref j) m) Z Ex s
 | 0,k,s,Z,ij,_,_,z=>wpAny_pure (by simpa using z s.heap ij (Heap.SameBut.refl ..))
 | m + 1,k,s,Z,ij,il,le,z=>by
  have lt:k < vs.size:=by omega
  refine wpAny_bind (wpAny_pyNext_list_item ij il (x:=vs[k]) (by simp [lt]) fun g1 i1 s1=>?_)
  refine wpAny_bind (wpAny_holding (zahl ne m (k + 1) _ _ i1 (il.extBut s1.extBut ne) (by omega) fun g2 i2 s2=>wpAny_pure ?_))
  have e:vs.toList.drop k=vs[k] :: vs.toList.drop (k + 1):=by simp [List.drop_eq_getElem_cons,lt]
  have r:=z g2 (by rw [← Nat.add_assoc,Nat.add_right_comm] ; exact i2) (s1.trans s2)
  rw [e] at r
  exact r
theorem zah6 {s:Shared}{l:Addr}{vs:Array Value}{Z:List Value→Shared→Prop} (nh:Ar.handled=none) (il:s.heap.IsList l vs) (z:∀ g,Heap.ExtBut s.heap.objs.size s.heap g→Z vs.toList { s with heap:=g }) :
  wpAny (model pg wo) Ar (unpackItems (.ref l) vs.size none) Z Ex s:=by
 have ne:l≠s.heap.objs.size:=let ⟨o,ho,_⟩:=il; Nat.ne_of_lt (Heap.lt_size ho)
 unfold unpackItems
 refine wpAny_bind ?_
 unfold notIterableAtAll
 refine wpAny_bind (wpAny_specialOf il.typeIs slot_list_iter.lookup (wpAny_pure ?_))
 rw [if_neg Bool.false_ne_true]
 refine wpAny_bind (wpAny_holding (wpAny_pyIter_list il ?_))
 refine wpAny_bind (wpAny_holding (zahl ne vs.size 0 _ _ ⟨_,Heap.get?_push_size _ rfl,rfl,rfl⟩ (il.push _) (by omega) fun g1 i1 s1=>?_))
 have al:(vs.toList.drop 0).take vs.size=vs.toList:=List.take_of_length_le (by simp)
 rw [al,if_neg (by simp)]
 refine wpAny_bind (wpAny_holding (wpAny_pyNext_list_end nh i1 ((il.push _).extBut s1.extBut ne) (by simp) fun g2 e2=>?_))
 exact wpAny_pure (z g2 fun b o nb e=>e2 b o nb (s1.extBut b o nb (Heap.get?_push_of_some _ e)))
end
section
variable {X:Cx}
def gLst (K:PySem.W.Frag) (n:Nat) (t:TGs):TG:=fun v σ H Q=>∃ a xs,v=.ref a∧SqL K H a xs∧xs.length=n∧t xs σ H Q
theorem zao7 {es:List Expr}{k n:Nat}{pos:Pos}{t:TGs} (hc:X.calm=true) (h:Pr (PGs X es t)) (hn:(assignEach es X.env).length=n:=by rfl) (hst:(assignEach es X.env).findIdx? (·.1)=none:=by rfl):Pr (PG X (.Tuple es k pos) (gLst X.K n t)):=⟨by
 intro pins s σ H v u Q I r hw
 obtain ⟨a,xs,rfl,hq,hl,hw⟩:=hw
 cases r
 obtain ⟨its,rv,⟨o,m,eo,ec,_,ed⟩,hz⟩:=I.list hq
 have lt:(assignEach es X.env).length=its.toArray.size:=by rw [hn,← hl,rv.length]; simp
 rw [arm_assign_Tuple]
 refine wpAny_bind (wpAny_standAt ?_)
 unfold unpack
 rw [lt,hst]
 refine wpAny_bind (wpAny_holding (zah6 (I.ok.hd hc) ⟨o,eo,ec,m,ed⟩ fun g x=>?_))
 have I1:Inv X pins σ H { s with heap:=g }:=I.kept (t':=s.toks) fun b o e=>x b o (Nat.ne_of_lt (Heap.lt_size e)) e
 exact h.h pins _ σ H xs _ Q I1 (by simpa using rv) hw⟩
end
end L2

namespace L2
open PySem PySem.Spec PyProof.Rows
def exN (a C:Addr):HO:=.ext fun h=>∃ t:Addr,h.get? a=some { cls:=.ref C,data:=.fields #[.ref t,.none,.none,.none,.bool false,.none] }
theorem zany {P:Program}{w:World}{H:Hp}{h:Heap}{a C t:Addr} (g:h.get? a=some { cls:=.ref C,data:=.fields #[.ref t,.none,.none,.none,.bool false,.none] }):ObjOk P w H h a (exN a C) :=
 ⟨⟨t,g⟩,⟨_,g⟩,fun g1 g2 ⟨ws,q1⟩ k=>⟨ws,k _ q1⟩⟩
structure XI (K:PySem.W.Frag) (C f:Addr):Prop where
 xb:XB K C
 kp:PySem.W.keepIn K (.ref C)=true
 ini:PySem.W.findIn K (.ref C) "__init__" = some (some (.ref f))
 fn:PySem.W.typeIn K (.ref f)=some (.type "function")
 hd:PySem.W.hasDictIn K C=true
 mo:PySem.W.mroIn K C (.type "object")=some true
 sa:PySem.W.findIn K (.ref C) "__setattr__" = some (some (.builtin "object.__setattr__"))
section
variable {prog:Program}{w:World}{A:Around}{E:Value→Shared→Prop}{h:Heap}{g:Array GenState}{d:Drawn}{t:Nat}{os:OsState}{K:PySem.W.Frag}
variable {nm qn:Str}{C N f:Addr}{bs bm bmB:List Value}{hdct:Bool}{sn:List Str}{sub:List Value}{ab:Bool}{col:Option Bool}{dd:Option Addr}{k0 k1 k2 k3 k5:Option Value}{B nw ini:String}
theorem zao8 (F:ExcBaseFacts B nw ini bmB) (T:OwnTail h bmB bm) {us:List Value}{Q:Fin→Shared→Prop} (X:K.In h)
  (hC:h.get? C=some (excClassObj nm qn C N bs bm hdct sn sub ab col dd k0 k1 k2 k3 k5 nw)) (hi:PySem.W.findIn K (.ref C) "__init__" = some (some (.ref f))) (hf:PySem.W.typeIn K (.ref f)=some (.type "function"))
  (k:∀ h' e,Heap.MadeExcOf h h' e (.ref C) us→wpAny (model prog w) A (call (.ref f) (.ref e :: us)) (fun r s'=>r=.none∧Q (.done (.ret (.ref e))) s') E ⟨h',g,d,t,os⟩) (sz:us.length≤sizeLine) :
  wpAny (model prog w) A (Builtin.«type.__call__» ⟨.ref C :: us,[]⟩) Q E ⟨h,g,d,t,os⟩:=by
 repeat (first | with_reducible refine wpAny_madeBy_exc hC ?_ | with_reducible refine wpAny_loadPart_at hC ?_ | wp_step)
 refine codeAny_call_builtin_code (Code.quiet_builtin _ F.quiet) (wpAny_check_new_subT F T hC (codeAny_exc_new_subT F T hC ?_ sz))
 let ht:=h.push { cls:=.type "tuple",data:=.seq us.toArray }
 let oe:Obj:={ cls:=.ref C,data:=.fields #[.ref h.objs.size,.none,.none,.none,.bool false,.none] }
 have kp:∀ b o,h.get? b=some o→(ht.push oe).get? b=some o:=fun b o q=>Heap.get?_push_of_some _ (Heap.get?_push_of_some _ q)
 have X1:K.In (ht.push oe):=X.keeps kp
 have ge:(ht.push oe).get? (h.objs.size + 1)=some oe:=by
  have:=Heap.get?_push_size ht (o:=oe) rfl
  rwa [show ht.objs.size=h.objs.size + 1 from Heap.size_push _ _] at this
 have cc:(Value.ref C :: bm).contains (.ref C)=true:=by simp
 have hC1:=kp _ _ hC
 show wpAny (model prog w) _ _ _ _ ⟨ht.push oe,g,d,t,os⟩
 unfold isInstance
 repeat (first | with_reducible refine wpAny_loadPart_at ge ?_ | (with_reducible refine wpAny_isSubtype_exc hC1 ?_; rw [cc]) | wp_step)
 show wpAny _ _ (typeLookup (.ref C) _) _ _ _
 refine (PySem.W.looks_findIn X1 hi).here ?_
 refine wpAny_holding (wpAny_bind ((PySem.W.bind_fn X1 (.ref (h.objs.size + 1)) hf).here ?_))
 refine wpAny_bind (wpAny_mono (k _ (h.objs.size + 1) ⟨kp,Heap.get?_none_of_le (Nat.le_succ _),h.objs.size,ge,Heap.get?_none_of_le (Nat.le_refl _),?_⟩) (fun r s' ⟨e1,q1⟩=>?_) fun _ _ x=>x)
 ·exact Heap.get?_push_of_some _ (Heap.get?_push_size h rfl)
 ·subst e1
  wp_walk
  exact q1
theorem zala (F:ExcBaseFacts B nw ini bmB) (T:OwnTail h bmB bm) {us:List Value}{Q:Value→Shared→Prop} (X:K.In h)
  (hC:h.get? C=some (excClassObj nm qn C N bs bm hdct sn sub ab col dd k0 k1 k2 k3 k5 nw)) (hi:PySem.W.findIn K (.ref C) "__init__" = some (some (.ref f))) (hf:PySem.W.typeIn K (.ref f)=some (.type "function"))
  (k:∀ h' e,Heap.MadeExcOf h h' e (.ref C) us→wpAny (model prog w) (A.under (.builtin "type.__call__" ⟨.ref C :: us,[]⟩)) (call (.ref f) (.ref e :: us)) (fun r s'=>r=.none∧Q (.ref e) s') E ⟨h',g,d,t,os⟩) (sz:us.length≤sizeLine) :
  wpAny (model prog w) A (call (.ref C) us) Q E ⟨h,g,d,t,os⟩:=by
 have l1:=tc_lookup
 have l2:=tc_bind (.ref C)
 have ty:(⟨h,g,d,t,os⟩:Shared).TypeIs (.ref C) "type" := ⟨_,hC,rfl⟩
 refine wpAny_call (codeAny_of_tree ?_)
 show wpAny _ _ (callAny (.ref C) _) _ _ _
 repeat (any_goals (first | assumption | with_reducible refine wpAny_loadPart_at hC ?_ | wp_step))
 exact ⟨rfl,codeAny_call_builtin_at (Code.quiet_builtin _ (by decide +kernel)) entry_typeCall (wpAny_check_type_call_sub hC (zao8 F T X hC hi hf (fun h' e m=>k h' e m) sz))⟩
theorem zajv {env:Env}{s:Shared}{x:Sem Value}{Q:Flow→Shared→Prop} (hb:bm.contains (.type "BaseException")=true) (hh:A.handled=none)
  (k:wpAny (model prog w) A x (fun v s₁=>∃ (e:Addr) (dx:Option Addr) (vs:Array Value) (sl:Array (Option Value)),v=.ref e∧s₁.heap.get? C=some (excClassObj nm qn C N bs bm hdct sn sub ab col dd k0 k1 k2 k3 k5 nw)∧s₁.heap.get? e=some ⟨.ref C,dx,.fields vs,sl⟩∧vs[1]?=some .none∧E (.ref e) s₁) E s) :
  wpAny (model prog w) A (raiseStmt env (some x) none) Q E s:=by
 have cB:(Value.ref C :: bm).contains (.type "BaseException")=true:=by rw [List.contains_cons,hb,Bool.or_true]
 unfold raiseStmt
 refine wpAny_bind (wpAny_mono k (fun v s₁ ⟨e,dx,vs,sl,e1,hC,he,hv,hE⟩=>?_) fun _ _ x=>x)
 subst e1
 obtain ⟨hp,g,d,tk,os⟩:=s₁
 repeat (first | with_reducible refine wpAny_loadPart_at he ?_ | with_reducible refine wpAny_loadPart_at hC ?_ | (with_reducible refine wpAny_isSubtype_exc hC ?_; rw [cB]) | with_reducible refine wpAny_field he rfl hv ?_ | wp_step)
 exact wpAny_raiseNew_none hh hE
end
end L2

namespace L2
open PySem PySem.Spec PyProof.Rows
open Builtin Builtin.ObjectAttr
def exM (a C dx:Addr):HO:=.ext fun h=>∃ (vs:Array Value) (sl:Array (Option Value)),h.get? a=some ⟨.ref C,some dx,.fields vs,sl⟩∧vs[1]?=some .none∧vs[2]?=some .none
theorem zaq9 {H:Hp}{a:Addr}{o:HO} (h:H a=some o):upd H a o=H:=by
 funext b; unfold upd; split
 ·rename_i e; rw [e,h]
 ·rfl
theorem zajw {h:Heap}{bmB bm:List Value} (T:OwnTail h bmB bm) (self:Value) (what:Str):refuseLoop self what bm=refuseLoop self what bmB:=by
 induction T with
 | base=>rfl
 | own _ _ _ _ ih=>rw [refuseLoop_ref,ih]
section
variable {X:Cx}{pins:List (Addr × Obj)}{σ:St}{H:Hp}{s:Shared}{ea C f:Addr}
theorem zalb {P:Program}{w:World}{h:Heap} (ok:HOk P w H h) (e:H ea=some (exN ea C)):∃ t:Addr,h.get? ea=some { cls:=.ref C,data:=.fields #[.ref t,.none,.none,.none,.bool false,.none] }:=(ok ea _ e).1
theorem zam9 {A:Around}{E:Value→Shared→Prop}{u:Value}{Q:Value→Shared→Prop} (I:Inv X pins σ H s) (he:H ea=some (exN ea C)) (xb:XB X.K C) (q:∀ s',Inv X pins σ H s'→Q .none s') :
  wpAny (model X.prog X.w) A (call (.builtin "ValueError.__init__") [.ref ea,u]) Q E s:=by
 have F:=PySem.F.excBase_ValueError
 obtain ⟨t0,g1⟩:=zalb I.hok he
 obtain ⟨bm,N,nm,qn,bs,hdct,sn,sub,ab,col,dd,k0,k1,k2,k3,k5,mN,hC,hN,T⟩:=xb.obj I.kIn
 obtain ⟨h,g,d,t,os⟩:=s
 refine wpAny_call (codeAny_call_builtin F.init.plain F.initEntry (wpAny_check_init_subT F T hC g1 rfl ?_))
 wp_walk
 let hq:=(h.push { cls:=.type "tuple",data:=.seq #[u] }).update ea (Obj.mapFields fun x=>x.setIfInBounds 0 (Value.ref h.objs.size))
 have gn:hq.get? ea=some { cls:=.ref C,data:=.fields #[.ref h.objs.size,.none,.none,.none,.bool false,.none] }:=Heap.get?_update_self _ (Heap.get?_push_of_some _ g1) rfl
 have I':=I.write (x:=ea) (e:=ea) (o:=exN ea C) (t':=t) (h':=hq) (by rw [he]; trivial) (.inl rfl) (fun b o n q=>(Heap.get?_update_other _ _ (Ne.symm n)).trans (Heap.get?_push_of_some _ q)) ⟨_,gn⟩ (zany gn)
 rw [zaq9 he] at I'
 exact q _ I'
theorem zao9 {A:Around}{E:Value→Shared→Prop}{fl:Str}{y:V}{u:Value}{Q:Unit→Shared→Prop} (hex:X.ex=[]) (I:Inv X pins σ H s) (he:H ea=some (exN ea C)) (xi:XI X.K C f) (na:NoAttr X.K C fl) (ry:RelV y u)
  (q:∀ dx s',H dx=none→dx≠ea→Inv X pins σ (upd (upd H ea (exM ea C dx)) dx (.xd [(fl,y)])) s'→Q () s'):wpAny (model X.prog X.w) A (setAttr (.ref ea) fl u) Q E s:=by
 obtain ⟨t0,g1⟩:=zalb I.hok he
 obtain ⟨bm,N,nm,qn,bs,hdct,sn,sub,ab,col,dd,k0,k1,k2,k3,k5,mN,hC,hN,T⟩:=xi.xb.obj I.kIn
 have hdt:hdct=true:=by
  obtain ⟨cd,hc,hd⟩:=PySem.W.any_some xi.hd
  unfold PySem.W.clsIn at hc
  split at hc
  case h_1 ho =>
   cases hc
   have z:=(I.kIn _ _ ho).symm.trans hC
   cases z
   exact hd
  case h_2=>cases hc
 subst hdt
 have J:PySem.W.InstAt s.heap ea _ C none:=⟨g1,rfl,rfl,trivial⟩
 have SF:=PySem.F.store_ValueError
 refine PySem.W.set_plain I.kIn J xi.sa ?_
 have hm:=PySem.W.looks_mroIn (M:=model X.prog X.w) I.kIn xi.mo
 refine codeAny_call_builtin SF.slot.plain SF.entry (@PySem.W.check_slot (model X.prog X.w) _ _ _ "object.__setattr__" "object" "__setattr__" (.ref ea) [.str fl s.toks,u] [] _ SF.kind SF.split (J.type.andThen hm) (SF.args (.ref ea) (.str fl s.toks) u) ?_)
 have L1:=PySem.W.looks_findIn (M:=model X.prog X.w) I.kIn na
 have hp:=SF.passes (.ref ea)
 unfold Builtin.«object.__setattr__»
 clear J
 obtain ⟨ox,eox⟩:∃ ox:Obj,ox={ cls:=.ref C,data:=.fields #[.ref t0,.none,.none,.none,.bool false,.none] }:=⟨_,rfl⟩
 rw [← eox] at g1
 have hc:ox.cls=.ref C:=by rw [eox]
 have hdn:ox.dict=none:=by rw [eox]
 obtain ⟨h,g,d,t,os⟩:=s
 repeat (first | rw [refuse_eq] | (rw [refuseLoop_ref,zajw T,hp]) | (with_reducible refine wpAny_loadPart_at g1 ?_; rw [hc]) | with_reducible refine wpAny_mroOf_exc hC ?_ | with_reducible refine L1.at ?_ | wp_step)
 have hdt:ox.data=.fields #[.ref t0,.none,.none,.none,.bool false,.none]:=by rw [eox]
 rw [hdn,hdt]
 dsimp only
 rw [if_neg (by simp [typeHasDict])]
 let h1:=h.push { cls:=.type "dict",data:=.dict #[] }
 let h2:=h1.update ea fun o=>{ cls:=o.cls,dict:=some h.objs.size,data:=o.data,slots:=o.slots }
 have nx:ea≠h.objs.size:=Nat.ne_of_lt (Heap.lt_size g1)
 have g2:h1.get? ea=some ox:=Heap.get?_push_of_some _ g1
 refine wpAny_bind (wpAny_alloc' (wpAny_bind (wpAny_update' g2 (wpAny_pure ?_))))
 have g3:h2.get? ea=some { cls:=.ref C,dict:=some h.objs.size,data:=.fields #[.ref t0,.none,.none,.none,.bool false,.none] }:=by
  rw [show h2.get? ea=_ from Heap.get?_update_self _ g2 (by rw [eox]; rfl),eox]
 have g4:h2.get? h.objs.size=some { cls:=.type "dict",data:=.dict #[] }:=(Heap.get?_update_other _ _ nx).trans (Heap.get?_push_at rfl rfl)
 have n2:h2.Ns h.objs.size (fun _=>none):=⟨_,#[],_,g4,rfl,fun e he=>absurd he (by simp),fun _=>rfl⟩
 show wpAny _ _ (storeInDict h.objs.size _ fl u) _ _ ⟨h2,g,d,t + 1,os⟩
 unfold storeInDict newKeyGuard
 refine wpAny_bind (wpAny_pure (wpAny_bind (wpAny_nsSet1 (Heap.Ns1.of_empty n2) fun h' n' sb=>?_)))
 obtain ⟨oD,esD,epD,hoD,hdD,hcD⟩:=n'.count (Within.cons fl u Within.nil)
 refine wpAny_bind (wpAny_lookBehind hoD (by rw [hdD]; exact pastItsLine_dict (Nat.le_trans hcD (by rw [List.length_cons,List.length_nil,sizeLine_eq]; omega))) ?_)
 wp_walk
 have I1:Inv X pins σ H ⟨h1,g,d,t,os⟩:=I.kept (t':=t) fun b o q=>Heap.get?_push_of_some _ q
 have I2:=I1.write (x:=ea) (e:=ea) (o:=exM ea C h.objs.size) (t':=t) (h':=h2) (by rw [he]; trivial) (.inl rfl) (fun b o n q=>(Heap.get?_update_other _ _ (Ne.symm n)).trans q) ⟨_,g3⟩ ⟨⟨_,_,g3,rfl,rfl⟩,⟨_,g3⟩,fun a1 a2 ⟨ws,sl,q1,q2⟩ k=>⟨ws,sl,k _ q1,q2⟩⟩
 have fr:H h.objs.size=none:=I.hok.fresh (Nat.le_refl _)
 have fr2:(upd H ea (exM ea C h.objs.size)) h.objs.size=none:=by rw [zaak (Ne.symm nx)]; exact fr
 obtain ⟨f0,f1,f2,f3,f4,f5⟩:=I.fpOk (H':=upd H ea (exM ea C h.objs.size)) (b:=h.objs.size) (Nat.le_refl _) fr2
 have I3:=I2.turned (it:=h.objs.size) (h':=h') (t':=t + 1 + 1) (fun b o hb e=>(sb.2 b hb).trans e) f0 f1 f3 f4 f5
 have I4:=I3.track (a:=h.objs.size) (o:=.xd [(fl,y)]) f0 (I.alien0 hex (Heap.get?_none_of_le (Nat.le_refl _))) f1 f4 f5 ⟨_,n',fun z=>by
  show RelO (List.lookup z [(fl,y)]) (if z=fl then some u else none)
  by_cases e:z=fl
  ·subst e; simp only [List.lookup,beq_self_eq_true,if_true]; exact ry
  ·have e':(z == fl)=false:=beq_eq_false_iff_ne.mpr e
   simp only [List.lookup,e',if_neg e]; trivial⟩
 exact q _ _ fr (Ne.symm nx) I4
end
end L2

namespace L2
open PySem PySem.Spec PyProof.Rows
structure ClsIni (K:PySem.W.Frag) (C:Addr):Prop where
 hg:PySem.W.specialIn K (.ref C) "__getattribute__" = some (some (.builtin "type.__getattribute__"))
 rd:PySem.W.readsIn K C (.type "type")=true
 fd:PySem.W.findCls K (.ref C) (.type "type") "__init__" = some (.val (.builtin "ValueError.__init__"))
def tBinit (K:PySem.W.Frag) (t:TA):TE:=fun σ H Q=>t σ H fun vs H1=>∃ ea C v,vs=[.ref ea,v]∧H1 ea=some (exN ea C)∧XB K C∧Q .non H1
def sFldX (K:PySem.W.Frag) (ta tv:TE) (fl:Str):TS:=fun D σ H=>tv σ H fun y H1=>ta σ H1 fun x H2=>∃ ea C f,x=.ref ea∧H2 ea=some (exN ea C)∧XI K C f∧NoAttr K C fl ∧
 ∀ dx,H2 dx=none→dx≠ea→D.nx σ (upd (upd H2 ea (exM ea C dx)) dx (.xd [(fl,y)]))
section
variable {X:Cx}{x:Str}{p pos apos pos':Pos}{e o value:Expr}{es:List Expr}{t:TA}{ta tv:TE}{fl:Str}
theorem zalc {CB:Addr}{pl:Sem Bool} (hm:X.mg x=some (.ref CB)) (ci:ClsIni X.K CB) (hg:Gl X x) (ha:Pr (PA X (e :: es) t)) (hdb:(x == ("__debug__" : Str))=false:=by decide)
  (hst:starEach (e :: es) X.env=(false,eval e X.env) :: starEach es X.env:=by rfl) (hpl:(backTo pos (starEach es X.env)).any (·.1)=false:=by rfl)
  (ht:eval (.Call (.Attribute (.Name x p) "__init__" apos) (e :: es) [] pos) X.env=(do
   let ov ← eval (.Name x p) X.env
   standAt apos.atName
   let (f,first) ← holding [ov] (getMethod ov "__init__" pl)
   callWith pos f first (backTo pos (starEach (e :: es) X.env)) (backToKw pos (keywordEach [] X.env))):=by rfl) :
  Pr (PE X (.Call (.Attribute (.Name x p) "__init__" apos) (e :: es) [] pos) (tBinit X.K t)):=by
 refine ⟨?_⟩
 intro pins s σ H Q I h
 have hn:PE X (.Name x p) (fun σ H Q=>Q (.ref CB) H):=zaj0 (v:=.ref CB) hg hm rfl hdb
 refine PySem.W.methodCall_KW (pl:=pl) (thn (hn pins s σ H (fun v H'=>v=.ref CB∧H'=H) I ⟨rfl,rfl⟩) fun u s1 ⟨v,H1,I1,rx,e1,e2⟩=>?_) ht
 subst e1
 subst e2
 obtain rfl:u=Value.ref CB:=rx
 refine PySem.W.method_cls I1.kIn ci.hg (PySem.W.cls_value I1.kIn ci.rd ci.fd rfl ?_)
 refine PyProof.Rows.callWith_builtin1 (thn (ha.h pos pins _ σ H1 _ (I1.tok _) h) fun us s2 ⟨vs,H2,I2,r,ea,C,v,e2,he,xb,q2⟩=>?_) hst hpl
 subst e2
 obtain ⟨u1,u2,rfl,r1,r2⟩:=vals2 r
 obtain rfl:u1=Value.ref ea:=r1
 exact zam9 I2 he xb fun s' I'=>⟨.non,H2,I',rfl,q2⟩
theorem zana (hex:X.ex=[]) (ha:Pr (PE X o ta)) (hv:Pr (PE X value tv)) (hs:swapsWith value (some (.Attribute o fl pos')) pos.line X.env=pure false:=by rfl):Pr (PS X (.Assign [.Attribute o fl pos'] value pos) (sFldX X.K ta tv fl)):=by
 refine ⟨?_⟩
 intro pins s σ H D I h
 refine plainObj_wpAny_Assign_Attribute (thn (hv.h pins s σ H _ I h) fun u s1 ⟨y,H1,I1,ry,q⟩=>thn (ha.h pins s1 σ H1 _ I1 q) fun ov s2 ⟨x,H2,I2,rx,ea,C,f,ex,he,xi,na,q2⟩=>?_) hs
 subst ex
 obtain rfl:ov=Value.ref ea:=rx
 exact zao9 hex I2 he xi na ry fun dx s' n1 n2 I'=>⟨σ,_,I',q2 dx n1 n2⟩
end
def rmv (H:Hp) (a:Addr):Hp:=fun b=>if b=a then none else H b
theorem zafb {H:Hp}{a b:Addr} (h:b≠a):rmv H a b=H b:=by unfold rmv; rw [if_neg h]
section
variable {X:Cx}{pins:List (Addr × Obj)}{σ:St}{H:Hp}{s:Shared}
theorem Inv.untrack {a:Addr}{φ:Heap→Prop} (I:Inv X pins σ H s) (ha:H a=some (.ext φ)) (n0:X.s₀.heap.get? a=none):Inv X pins σ (rmv H a) s:=by
 have nt:∀ b xs,H b=some (.tup xs)→b≠a:=fun b xs e z=>by rw [z,ha] at e; cases e
 have no:∀ b y,H b=some (.own y)→b≠a:=fun b xs e z=>by rw [z,ha] at e; cases e
 refine ⟨I.ok,I.os,I.bare,⟨I.base.keep,I.base.slot,fun b o' e n hx=>?_,I.base.there,fun b xs e=>?_,fun b o' u e=>?_,fun b ps e=>?_⟩,I.loc,I.cell,?_,fun x c e=>?_,fun p hp=>?_,fun b u e=>?_,I.len⟩
 ·unfold rmv; split
  ·rfl
  ·exact I.base.free b o' e n hx
 ·have q:=I.base.tups b xs e
  rw [zafb (nt b xs q)]; exact q
 ·have q:=I.base.frzs b o' u e
  rw [zafb (fun z=>by rw [z,ha] at q; cases q)]; exact q
 ·obtain ⟨more,q⟩:=I.base.tbls b ps e
  exact ⟨more,by rw [zafb (fun z=>by rw [z,ha] at q; cases q)]; exact q⟩
 ·unfold rmv; split
  ·rfl
  ·exact I.free
 ·unfold rmv; split
  ·rfl
  ·exact I.freeC x c e
 ·obtain ⟨q1,q2,q3⟩:=I.pin p hp
  refine ⟨q1,?_,q3⟩
  unfold rmv; split
  ·rfl
  ·exact q2
 ·have hb:b≠a:=fun z=>by rw [z] at e; unfold rmv at e; rw [if_pos rfl] at e; cases e
  rw [zafb hb] at e
  exact (I.hok b u e).stay (fun _ _ _ q=>q) (fun c q=>by rw [zafb (no c _ q)]; exact q) fun c xs q=>by rw [zafb (nt c _ q)]; exact q
end
section
variable {P:Program}{w:World}{K:PySem.W.Frag}{mg:Str→Option Value}{base:Heap}{N:List Str}{qual:Str}{scope:Scope}{f:Addr}{cd:Value}{A:Around}{outer:List Env}{s₀:Shared}{H₀:Hp}{E:XK}
theorem zaso {pins:List (Addr × Obj)}{σ:St}{H:Hp}{s:Shared}{e C:Addr}{dx:Option Addr}{vs:Array Value}{sl:Array (Option Value)} (I:Inv (cxE P w K mg base N qual scope f cd A outer s₀ H₀ E) pins σ H s) (ge:s.heap.get? e=some ⟨.ref C,dx,.fields vs,sl⟩) (v1:vs[1]?=some .none) (v2:vs[2]?=some .none)
  (n0:s₀.heap.get? e=none) (nH:H e=none) (q:E (.ref C) dx H):(cxE P w K mg base N qual scope f cd A outer s₀ H₀ E).xe (.ref e) s:=by
 show wpAny (model P w) _ (leaving _ (.ref e)) _ _ _
 unfold leaving
 refine wpAny_bind (zam4 I.ok.frames I.stack rfl ge ⟨rfl,rfl⟩ rfl v1 v2 fun h2 T kb fl nT=>zak2 fl fun h3 kb3 fl3=>?_)
 have k3:KB [e,T] (frs (envOfC qual scope s₀.heap.objs.size f cd :: outer)) s.heap h3:=kb.trans kb3.fs
 have m0:∀ b∈[e,T],s₀.heap.get? b=none:=fun b hb=>by
  simp only [List.mem_cons,List.not_mem_nil,or_false] at hb
  rcases hb with rfl | rfl
  ·exact n0
  ·exact I.alien0 rfl nT
 have mH:∀ b∈[e,T],H b=none:=fun b hb=>by
  simp only [List.mem_cons,List.not_mem_nil,or_false] at hb
  rcases hb with rfl | rfl
  ·exact nH
  ·exact I.hok.alien nT
 exact ⟨e,C,T,dx,H,rfl,I.os,I.bare,I.base.fly k3 m0 (zanx I),I.hok.fly k3 mH I.stkFree,fl3,n0,m0 T (by simp),nH,mH T (by simp),q⟩
end
def spXI (C:Addr) (fl:Str):Sp:=fun vs H Q _=>∃ ea v,vs=[.ref ea,v]∧H ea=some (exN ea C)∧∀ dx,H dx=none→dx≠ea→Q .non (upd (upd H ea (exM ea C dx)) dx (.xd [(fl,v)]))
structure RaiseOk (P:Program) (w:World) (K:PySem.W.Frag) (mg:Str→Option Value) (base:Heap) (k:Nat) (x:Str) (C:Addr) (fl:Str):Prop where
 ex:∃ (f:Addr) (fd:FuncData) (ps:List Str),FnOk P w K mg base CX0 k f fd ps (spXI C fl)∧Binds K fd ps []∧XI K C f∧mg x=some (.ref C)
theorem RaiseOk.mono {P:Program}{w:World}{K:PySem.W.Frag}{mg:Str→Option Value}{base:Heap}{j k:Nat}{x:Str}{C:Addr}{fl:Str} (D:RaiseOk P w K mg base j x C fl) (h:j≤k):RaiseOk P w K mg base k x C fl:=by
 obtain ⟨f,fd,ps,F,b⟩:=D.ex
 exact ⟨f,fd,ps,F.mono h,b⟩
def tRaiseI (C:Addr) (fl:Str) (E:XK) (t:TA):TS:=fun _ σ H=>t σ H fun vs H1=>∃ v,vs=[v]∧∀ dx,H1 dx=none→E (.ref C) (some dx) (upd H1 dx (.xd [(fl,v)]))
section
variable {P:Program}{w:World}{K:PySem.W.Frag}{mg:Str→Option Value}{base:Heap}{N:List Str}{qual:Str}{scope:Scope}{f:Addr}{cd:Value}{A:Around}{outer:List Env}{s₀:Shared}{H₀:Hp}{E:XK}
theorem zadj {x fl:Str}{C:Addr}{k:Nat}{np cpos pos:Pos}{e₀:Expr}{ta:TA} (D:RaiseOk P w K mg base k x C fl) (hr:Room (k + 1) (cxE P w K mg base N qual scope f cd A outer s₀ H₀ E).A) (hg:Gl (cxE P w K mg base N qual scope f cd A outer s₀ H₀ E) x)
  (ha:Pr (PA (cxE P w K mg base N qual scope f cd A outer s₀ H₀ E) [e₀] ta)) (hdb:(x == ("__debug__" : Str))=false:=by decide)
  (he:starEach [e₀] (cxE P w K mg base N qual scope f cd A outer s₀ H₀ E).env=[(false,eval e₀ (cxE P w K mg base N qual scope f cd A outer s₀ H₀ E).env)]:=by rfl) :
  Pr (PS (cxE P w K mg base N qual scope f cd A outer s₀ H₀ E) (.Raise (some (.Call (.Name x np) [e₀] [] cpos)) none pos) (tRaiseI C fl E ta)):=by
 refine ⟨?_⟩
 intro pins s σ H D' I h
 obtain ⟨fi,fd,ps,Fi,hb,xi,hm⟩:=D.ex
 have F:=PySem.F.excBase_ValueError
 obtain ⟨bm,Nc,nm,qn,bs,hdct,sn,sub,ab,col,dd,k0,k1,k2,k3,k5,mN,hC,hN,T⟩:=xi.xb.obj I.mod.kin
 rw [arm_exec_Raise]
 refine wpAny_bind (wpAny_standAt (zajv (C:=C) (nm:=nm) (qn:=qn) (N:=Nc) (bs:=bs) (bm:=bm) (hdct:=hdct) (sn:=sn) (sub:=sub) (ab:=ab) (col:=col) (dd:=dd) (k0:=k0) (k1:=k1) (k2:=k2) (k3:=k3) (k5:=k5) (nw := "ValueError.__new__") (T.hasType F.hasBase) (I.ok.hd rfl) ?_))
 refine wpAny_bind (wpAny_mono (wpAny_Call_ofName (zagc I hg hm ?_ hdb)) (fun v s₃ h₃=>wpAny_bind (wpAny_standAt (wpAny_pure h₃))) fun _ _ x=>x)
 refine PySem.W.callWith_K (h₀:=base) I.mod.kin xi.kp (thn (ha.h cpos pins s σ H _ I h) fun us s1 ⟨vs,H1,I1,r,v,e1,q1⟩=>⟨I1.kIn,?_⟩) he rfl
 subst e1
 obtain ⟨u,rfl,ru⟩:=vals1 r
 obtain ⟨hp,g,d,tk,os⟩:=s1
 refine zala F (T.keeps I1.bk) I1.kIn (I1.bk _ _ hC) xi.ini xi.fn (fun h' e m=>?_) (by show 1≤sizeLine; rw [sizeLine_eq]; decide)
 have I2:Inv (cxE P w K mg base N qual scope f cd A outer s₀ H₀ E) pins σ H1 ⟨h',g,d,tk,os⟩:=I1.kept (t':=tk) m.keeps
 have n1:H1 e=none:=I1.hok.alien m.new
 have n0:s₀.heap.get? e=none:=I1.alien0 rfl m.new
 obtain ⟨a1,a2,a3⟩:=I1.alien m.new
 obtain ⟨t,ge,_,_⟩:=m.there
 have I3:=I2.track (a:=e) (o:=exN e C) n1 n0 a1 a2 a3 (zany ge)
 have hq:spXI C fl [.ref e,v] (upd H1 e (exN e C)) (fun y H2=>y=.non∧∃ dx,H1 dx=none∧dx≠e∧H2=upd (upd (upd H1 e (exN e C)) e (exM e C dx)) dx (.xd [(fl,v)])) E0 :=
  ⟨e,v,rfl,zaag,fun dx n ne=>⟨rfl,dx,by rwa [zaak ne] at n,ne,rfl⟩⟩
 have r2:Vals [V.ref e,v] [Value.ref e,u]:=.cons rfl (.cons ru .nil)
 have hl:([Value.ref e,u]++[]).length=ps.length:=Fi.len _ _ _ _ hq
 have bt:=hb _ [Value.ref e,u] I3.kIn hl
 rw [List.append_nil] at bt
 refine wpAny_call (codeAny_mono (Fi.run _ (cxE P w K mg base N qual scope f cd A outer s₀ H₀ E).stack _ _ ⟨[Value.ref e,u],[]⟩ [Value.ref e,u] _ _ _ (hr.make C [u] []) (I3.env0.make C [u] []) bt r2 hq) fun r s' hq'=>?_)
 cases r with
 | error z=>exact False.elim hq'
 | ok z =>
  cases z with
  | ret u' =>
   obtain ⟨y,H',I4,ry,ey,dx,nd,ne,eH⟩:=I3.after hq'
   subst ey
   obtain rfl:u'=Value.none:=ry
   have hE:H' e=some (exM e C dx):=by rw [eH,zaak (Ne.symm ne),zaag]
   obtain ⟨vs',sl,ge',v1,v2⟩:=(I4.hok e _ hE).1
   have I5:=I4.untrack hE n0
   have e5:rmv H' e=upd H1 dx (.xd [(fl,v)]):=by
    funext b
    by_cases hb:b=e
    ·subst hb
     unfold rmv
     rw [if_pos rfl,zaak (Ne.symm ne),n1]
    ·rw [zafb hb,eH]
     by_cases hd:b=dx
     ·subst hd; rw [zaag,zaag]
     ·rw [zaak hd,zaak hd,zaak hb,zaak hb]
   rw [e5] at I5
   exact ⟨rfl,⟨e,some dx,vs',sl,rfl,I4.bk _ _ hC,ge',v1,zaso I5 ge' v1 v2 n0 (by rw [zaak (Ne.symm ne)]; exact n1) (q1 dx nd)⟩⟩
  | next=>exact False.elim hq'
  | brk=>exact False.elim hq'
  | cont=>exact False.elim hq'
end
end L2

set_option maxHeartbeats 4000000
namespace B17
open PySem L2
abbrev Vs (sc:Scope) (x:Str):Prop:=sc.names.lookup x=some NameKind.local∨sc.names.lookup x=some NameKind.cell∨sc.names.lookup x=some NameKind.free
abbrev Lc (sc:Scope) (x:Str):Prop:=sc.names.lookup x=some NameKind.local∨sc.names.lookup x=some NameKind.cell
abbrev Gi (sc:Scope) (x:Str):Prop:=sc.names.lookup x=some NameKind.globalImplicit
abbrev Nd (x:Str):Prop:=(x == ("__debug__" : Str))=false
abbrev Nc (x:Str):Prop:=(x == ("__classdict__" : Str))=false
local macro_rules | `(tactic| walk_at "few")=>`(tactic| (with_reducible show (List.length (α:=Str × V) _) < 1000); first | exact (by decide:0 < 1000) | exact (by decide:1 < 1000) | exact (by decide:2 < 1000) | exact (by decide:3 < 1000) | exact (by decide:4 < 1000) | exact (by decide:5 < 1000) | exact (by decide:6 < 1000))
local macro_rules | `(tactic| walk_at "get")=>`(tactic| first
 | with_reducible assumption
 | exact zaag
 | (apply zacy; (focus with_reducible assumption); (focus walk_at "get"))
 | (apply zabc; (focus walk_at "ne"); (focus walk_at "get"))
 | (apply Ch.get; (focus with_reducible assumption); (focus walk_at "get"); (focus walk_at "notin")))
local macro_rules | `(tactic| walk_at "ne")=>`(tactic| first | with_reducible assumption | (apply Ne.symm; with_reducible assumption) | (apply zab9; (focus with_reducible assumption); (focus with_reducible assumption); (focus (intro z; cases z))))
local macro_rules | `(tactic| walk_at "notin")=>`(tactic| first | exact List.not_mem_nil | (simp only [List.mem_cons,List.not_mem_nil,or_false,not_or,not_false_eq_true]; first | walk_at "ne" | trivial))
local macro_rules | `(tactic| walk_at "scr")=>`(tactic| first
 | with_reducible assumption
 | (apply Scr.ch; (focus with_reducible assumption); (focus with_reducible assumption); (focus walk_at "ch"))
 | (apply Scr.same; (focus with_reducible assumption); (focus walk_at "ch")))
local macro_rules | `(tactic| walk_at "ch")=>`(tactic| first
 | with_reducible assumption
 | exact Ch.refl _ _
 | exact Ch.put
 | (apply Ch.new; with_reducible assumption)
 | (apply Ch.wk; with_reducible assumption)
 | (apply Ch.own; (focus with_reducible assumption); (focus walk_at "ch"))
 | (apply Ch.trans; (rotate_left; focus with_reducible assumption); (focus walk_at "ch"))
 | (apply Ch.trans; (rotate_left; focus (apply Ch.wk; with_reducible assumption)); (focus walk_at "ch"))
 | (apply Ch.trans; (rotate_left; focus exact Ch.put); (focus walk_at "ch"))
 | (apply Ch.trans; (rotate_left; focus (apply Ch.new; with_reducible assumption)); (focus walk_at "ch")))
local macro_rules | `(tactic| walk_at "sq")=>`(tactic| first
 | (apply Scr.sq; walk_at "scr")
 | (apply Exists.intro; walk_at "sq")
 | (refine (‹∀ H:Hp,SqT _ H _ _›) _)
 | (apply SqL.of; walk_at "get")
 | (apply SqT.of; walk_at "get")
 | (apply Or.inl; apply Scr.sq; walk_at "scr")
 | (apply Or.inl; apply SqL.of; walk_at "get")
 | (apply Or.inr; apply SqT.of; walk_at "get"))
local macro_rules | `(tactic| walk_at "arith")=>`(tactic| first
 | omega
 | (simp only [List.length_map,List.length_cons,List.length_nil,List.length_append,List.length_singleton,List.length_replicate]; done)
 | ((try dsimp only); (try simp only [List.length_map,List.length_cons,List.length_nil,List.length_append,List.length_singleton,List.length_replicate,sizeLine_eq]); omega)
 | ((try dsimp only); (try simp only [List.length_map,List.length_cons,List.length_nil,List.length_append,List.length_singleton,List.length_replicate,sizeLine_eq] at *); omega))
local macro_rules | `(tactic| walk_at "cond")=>`(tactic| first
 | (refine Or.inl (And.intro ?_ ?_) <;> walk_at "arith")
 | (refine Or.inr (And.intro ?_ ?_) <;> walk_at "arith")
 | (refine And.intro ?_ (And.intro ?_ ?_) <;> walk_at "arith")
 | (refine And.intro ?_ ?_ <;> walk_at "arith"))
local macro_rules | `(tactic| walk_at "len")=>`(tactic| first
 | with_reducible assumption
 | exact len_one
 | (apply len_slice; walk_at "len")
 | (apply len_app; (focus walk_at "len"); (focus walk_at "len"))
 | exact Nat.le_refl _)
local macro_rules | `(tactic| walk_at "lens")=>`(tactic| first
 | (apply len_sum; (focus walk_at "len"); (focus walk_at "len"); (focus first | decide +kernel | walk_at "arith"))
 | (apply len_top; (focus walk_at "len"); (focus first | decide +kernel | walk_at "arith")))
local macro_rules | `(tactic| walk_at "side")=>`(tactic| first
 | with_reducible rfl | with_reducible assumption | walk_at "sq" | walk_at "get" | walk_at "scr" | walk_at "ch" | walk_at "ty" | exact TyOf.int _ | exact TyOf.str _ | (apply TyOf.tup; walk_at "get") | (apply TyOf.lst; walk_at "get") | exact TyOf.bl _ | exact TyOf.non | walk_at "few" | decide | omega | walk_at "arith" | walk_at "cond" | ((try simp only [List.length_map]); with_reducible assumption) | walk_at "lens" | (apply Or.inr; with_reducible assumption) | walk_at "user" | exact rfl | assumption)
local macro_rules | `(tactic| walk_at "ty")=>`(tactic| (refine Or.inl (And.intro rfl ?_); apply Exists.intro; walk_at "sq"))
local macro_rules | `(tactic| walk_at "user")=>`(tactic| fail)
local macro_rules | `(tactic| walk_at "rd1")=>`(tactic| first
 | apply Exists.intro
 | (refine And.intro rfl ?_)
 | (refine And.intro (show V.str _=L2.kV (Sum.inr _) from rfl) ?_)
 | (refine And.intro (show V.int _=L2.kV (Sum.inl _) from rfl) ?_)
 | (refine And.intro (L2.zamy _ _) ?_)
 | (apply And.intro; (focus (walk_at "side"; done)))
 | apply Atx.head
 | (apply Atx.of; (focus first | exact rfl | with_reducible assumption | ((try simp only [List.length_map]); with_reducible assumption)))
 | (apply Or.inl; apply Exists.intro; (refine And.intro rfl ?_))
 | (apply Or.inr; apply Exists.intro; (refine And.intro rfl ?_))
 | (apply Or.inl; apply And.intro; (focus walk_at "sq"))
 | (apply Or.inr; apply And.intro; (focus walk_at "sq"))
 | (intro _)
 | walk_at "fin")
local macro_rules | `(tactic| walk_at "fin")=>`(tactic| first | exact rfl | (walk_at "get"; done))
local macro_rules | `(tactic| walk_at "rd")=>`(tactic| repeat walk_at "rd1")
section
theorem zabk {H:Hp}{a:Addr}{kvs:List (Key × V)}{x:Str} (e:H a=some (.dK kvs)) (h:valV kvs (.inr x)=none):DGet H a (.str x) none:=h ▸ DGet.k (k:=.inr x) e
theorem zael {H:Hp}{a:Addr}{kvs:List (Key × V)} (e:H a=some (.dK kvs)):IsD H a:=.inl ⟨kvs,.inl e⟩
local macro_rules | `(tactic| walk_at "user")=>`(tactic| first
 | (apply zael; walk_at "get")
 | (apply zabj; (focus walk_at "get"); (focus with_reducible assumption))
 | (apply zabk; (focus walk_at "get"); (focus with_reducible assumption)))
def top (i:Nat):Stmt:=PySem.Challenge.pw_bitfloor_k11_values.main.body.getD i (.Pass ⟨0,0,0,0⟩)
theorem chFree {H H':Hp} (c:Ch [] H H') {r:Addr} (h:H' r=none):H r=none:=by
 cases e:H r with
 | none=>rfl
 | some o=>rw [c r o e (by simp)] at h; cases h
theorem zaax {α β:Type}{R S:α→β→Prop} (h:∀ x y,R x y→S x y):∀ {xs:List α}{ys:List β},Paired R xs ys→Paired S xs ys
 | _,_,.nil=>.nil
 | _,_,.cons a t=>.cons (h _ _ a) (zaax h t)
inductive Lf
 | nm (n:Str)
 | of (a b:Str)
 | val (v w:Int)
inductive Ex9
 | lf (l:Lf)
 | un (a:Ex9)
 | bi (w:Str) (a b:Ex9)
 | pick (a b c:Ex9)
 | pt (a:Ex9) (lw wi:Int)
def LfAt (H:Hp) (p:Addr):Lf→Prop
 | .nm n=>H p=some (.tup [.str "name",.str n])
 | .of a b=>H p=some (.tup [.str "of",.str a,.str b])
 | .val v w=>H p=some (.tup [.str "value",.int v,.int w])
def Other (w:Str):Prop:=w ≠ "name" ∧ w ≠ "of" ∧ w ≠ "value" ∧ w ≠ "part"
def Arity (w:Str) (n:Nat):Prop:=(w = "not" ∧ n=1)∨(w = "pick" ∧ n=3)∨(w ≠ "not" ∧ w ≠ "pick" ∧ n=2)
structure ArS (w:Str) (n:Nat):Prop where
 h:Arity w n
def BIW:List Str:=["and", "or", "xor", "plus", "less", "same", "join"]
def ExAt (H:Hp) (p:Addr):Ex9→Prop
 | .lf l=>LfAt H p l
 | .un a=>∃ q,H p=some (.tup [.str "not",.ref q])∧ExAt H q a
 | .bi w a b=>∃ q r,H p=some (.tup [.str w,.ref q,.ref r])∧ExAt H q a∧ExAt H r b∧w∈BIW
 | .pick a b c=>∃ q r s,H p=some (.tup [.str "pick",.ref q,.ref r,.ref s])∧ExAt H q a∧ExAt H r b∧ExAt H s c
 | .pt a lw wi=>∃ q,H p=some (.tup [.str "part",.ref q,.int lw,.int wi])∧ExAt H q a
def Ex9.deep:Ex9→Nat
 | .lf _=>0
 | .un a=>a.deep + 1
 | .bi _ a b=>max a.deep b.deep + 1
 | .pick a b c=>max a.deep (max b.deep c.deep) + 1
 | .pt a _ _=>a.deep + 1
theorem LfAt.tu {H H':Hp} (k:Tu H H') {p:Addr}{l:Lf} (h:LfAt H p l):LfAt H' p l:=by
 cases l with
 | nm n=>exact k _ _ h
 | of a b=>exact k _ _ h
 | val v w=>exact k _ _ h
theorem ExAt.tu {H H':Hp} (k:Tu H H'):∀ {e:Ex9}{p:Addr},ExAt H p e→ExAt H' p e
 | .lf l,p,h=>LfAt.tu k h
 | .un a,p,h=>let ⟨q,x,y⟩:=h; ⟨q,k _ _ x,ExAt.tu k y⟩
 | .bi w a b,p,h=>let ⟨q,r,x,y,z,o⟩:=h; ⟨q,r,k _ _ x,ExAt.tu k y,ExAt.tu k z,o⟩
 | .pick a b c,p,h=>let ⟨q,r,s,x,y,z,u⟩:=h; ⟨q,r,s,k _ _ x,ExAt.tu k y,ExAt.tu k z,ExAt.tu k u⟩
 | .pt a lw wi,p,h=>let ⟨q,x,y⟩:=h; ⟨q,k _ _ x,ExAt.tu k y⟩
structure S9 where
 wd:List (Str × Int)
 us:List (Str × Int)
 kp:List Str
 nx:List Str
 ot:List (Str × Int)
 ic:List (Str × Int)
def kI (l:List (Str × Int)):List (Key × V):=l.map fun a=>(.inr a.1,.int a.2)
def kB (l:List Str):List (Key × V):=l.map fun n=>(.inr n,.bl true)
def fldsS (ab il wd us kp nx ot:Addr):List (Str × V):=[("above",.ref ab),("ins",.ref il),("wides",.ref wd),("uses",.ref us),("keepers",.ref kp),("nexts",.ref nx),("outs",.ref ot)]
structure Hlp (CS:Addr) (H:Hp) (u:Addr) (k:Int):Prop where
 ex:∃ dx ab il wd us kp nx ot:Addr,H u=some (.ins CS dx (fldsS ab il wd us kp nx ot))∧H il=some (.lst [])∧H ot=some (.dK (kI [("big",k)]))
theorem Hlp.ch {CS:Addr}{H H':Hp}{u:Addr}{k:Int} (h:Hlp CS H u k) (c:Ch [] H H'):Hlp CS H' u k:=by
 obtain ⟨dx,ab,il,wd,us,kp,nx,ot,a,b,d⟩:=h.ex
 exact ⟨dx,ab,il,wd,us,kp,nx,ot,c.get a (by simp),c.get b (by simp),c.get d (by simp)⟩
def UsAt (CS:Addr) (H:Hp):List (Str × Int)→List (Key × V)→Prop:=Paired fun a kv=>kv.1=.inr a.1∧∃ u,kv.2=.ref u∧Hlp CS H u a.2
def YcAt (H:Hp):List (Str × Int)→List V→Prop:=Paired fun a v=>∃ p,v=.ref p∧H p=some (.tup [.str a.1,.int a.2])
theorem YcAt.tu {H H':Hp} (k:Tu H H') {l:List (Str × Int)}{ys:List V} (h:YcAt H l ys):YcAt H' l ys:=zaax (fun _ _ ⟨p,a,b⟩=>⟨p,a,k _ _ b⟩) h
structure SnF (m:Nat) (CS:Addr) (H0 H:Hp) (x:Addr) (hs:List (Str × Int)) (S:S9) (dx ab il wd us kp nx ot:Addr) (ys:List V) (uk ak:List (Key × V)):Prop where
 c:Ch [] H0 H
 o:H x=some (.ins CS dx (fldsS ab il wd us kp nx ot))
 i:H il=some (.lst ys)
 w:H wd=some (.dK (kI S.wd))
 u:H us=some (.dK uk)
 k:H kp=some (.dK (kB S.kp))
 n:H nx=some (.dK (kB S.nx))
 t:H ot=some (.dK (kI S.ot))
 ua:UsAt CS H0 S.us uk
 a0:H0 ab=some (.dK ak)
 aa:UsAt CS H0 hs ak
 fr:H0 il=none∧H0 wd=none∧H0 us=none∧H0 kp=none∧H0 nx=none∧H0 ot=none
 nd:wd≠us∧wd≠kp∧wd≠nx∧wd≠ot∧us≠kp∧us≠nx∧us≠ot∧kp≠nx∧kp≠ot∧nx≠ot
 sub:∀ n∈S.kp,(S.wd.lookup n).isSome=true
 z:S.wd.length≤m∧S.us.length≤m∧S.kp.length≤m∧S.nx.length≤m∧S.ot.length≤m∧ys.length≤m
 zm:m≤1000
 yc:YcAt H S.ic ys
structure SnAt (m:Nat) (CS:Addr) (H0 H:Hp) (x:Addr) (hs:List (Str × Int)) (S:S9):Prop where
 ex:∃ (dx ab il wd us kp nx ot:Addr) (ys:List V) (uk ak:List (Key × V)),SnF m CS H0 H x hs S dx ab il wd us kp nx ot ys uk ak
theorem SnAt.ch {m:Nat}{CS:Addr}{H0 H H':Hp}{x:Addr}{hs:List (Str × Int)}{S:S9} (h:SnAt m CS H0 H x hs S) (c:Ch [] H H'):SnAt m CS H0 H' x hs S:=by
 obtain ⟨dx,ab,il,wd,us,kp,nx,ot,ys,uk,ak,f⟩:=h.ex
 exact ⟨dx,ab,il,wd,us,kp,nx,ot,ys,uk,ak,f.c.trans c,c.get f.o (by simp),c.get f.i (by simp),c.get f.w (by simp),c.get f.u (by simp),c.get f.k (by simp),c.get f.n (by simp),c.get f.t (by simp),f.ua,f.a0,f.aa,f.fr,f.nd,f.sub,f.z,f.zm,f.yc.tu (Tu.same c)⟩
theorem zaf6 (l:List (Str × Int)) (n:Str):valV (kI l) (.inr n)=(l.lookup n).map V.int:=by
 induction l with
 | nil=>rfl
 | cons x l ih =>
  obtain ⟨u,k⟩:=x
  show valV ((.inr u,.int k) :: kI l) (.inr n)=_
  by_cases h:u=n
  ·subst h
   rw [zac0 (κ:=Key) rfl,List.lookup_cons,beq_self_eq_true]
   rfl
  ·rw [zacs (fun e=>h (Sum.inr.inj e)),ih,List.lookup_cons,beq_eq_false_iff_ne.mpr (fun e=>h e.symm)]
theorem zald (l:List Str) (n:Str):valV (kB l) (.inr n)=if n∈l then some (.bl true) else none:=by
 induction l with
 | nil=>rfl
 | cons u l ih =>
  show valV ((.inr u,.bl true) :: kB l) (.inr n)=_
  by_cases h:u=n
  ·subst h
   rw [zac0 (κ:=Key) rfl,if_pos (by simp)]
  ·rw [zacs (fun e=>h (Sum.inr.inj e)),ih]
   have:n∈u :: l↔n∈l:=⟨fun z=>(List.mem_cons.mp z).elim (fun e=>absurd e.symm h) id,List.mem_cons_of_mem _⟩
   simp only [this]
theorem zaf7 {CS:Addr}{H:Hp}:∀ {l:List (Str × Int)}{k:List (Key × V)},UsAt CS H l k→∀ n:Str,(l.lookup n=none∧valV k (.inr n)=none)∨∃ (w:Int) (u:Addr),l.lookup n=some w∧valV k (.inr n)=some (.ref u)∧Hlp CS H u w
 | _,_,.nil,n=>.inl ⟨rfl,rfl⟩
 | (a,w) :: l,(kk,v) :: k,.cons ⟨e1,u,e2,h⟩ t,n=>by
  have e1:kk=.inr a:=e1
  have e2:v=.ref u:=e2
  subst e1 e2
  by_cases hn:a=n
  ·subst hn
   exact .inr ⟨w,u,by simp [List.lookup_cons],zac0 (κ:=Key) rfl,h⟩
  ·have b1:(n == a)=false:=beq_eq_false_iff_ne.mpr (fun e=>hn e.symm)
   rcases zaf7 t n with ⟨c,d⟩ | ⟨w',u',c,d,h'⟩
   ·exact .inl ⟨by rw [List.lookup_cons,b1]; exact c,by rw [zacs (fun e=>hn (Sum.inr.inj e))]; exact d⟩
   ·exact .inr ⟨w',u',by rw [List.lookup_cons,b1]; exact c,by rw [zacs (fun e=>hn (Sum.inr.inj e))]; exact d,h'⟩
def isW (w:Int):Bool:=decide (1≤w) && decide (w≤16)
def ofW (v w:Int):Bool:=isW w && (decide (0≤v) && decide (v < 2 ^ w.toNat))
def wL (S:S9):Lf→Int
 | .nm n=>(S.wd.lookup n).getD 0
 | .of a b=>match S.us.lookup a with
  | none=>0
  | some k=>if b = "big" then k else 0
 | .val v w=>if ofW v w then w else 0
def partW (whole lw wi:Int):Int:=if wi < 1∨lw < 0∨whole < lw + wi then 0 else wi
def wW (w:Str) (ws:List Int):Int :=
 if w = "not" then ws.getD 0 0
 else if w = "join" then (if isW ws.sum then ws.sum else 0)
 else if w = "pick" then (if ws.getD 0 0=1∧ws.getD 1 0=ws.getD 2 0 then ws.getD 1 0 else 0)
 else if ws.getD 0 0≠ws.getD 1 0 then 0
 else if w = "less" ∨ w = "same" then 1 else ws.getD 0 0
def wZ (w:Str) (ws:List Int):Int:=if 0∈ws then 0 else wW w ws
def wE (S:S9):Ex9→Int
 | .lf l=>wL S l
 | .un a=>wZ "not" [wE S a]
 | .bi w a b=>wZ w [wE S a,wE S b]
 | .pick a b c=>wZ "pick" [wE S a,wE S b,wE S c]
 | .pt a lw wi=>partW (wE S a) lw wi
section
variable {P:Program}{w:World}{K:PySem.W.Frag}{mg:Str→Option Value}{base:Heap}{f:Addr}{fd:FuncData}{k:Nat}
theorem zale:Nd "WIDEST" := by decide +kernel
theorem zaeb:Nd "is_wide" := by decide +kernel
theorem zanz:bootBuiltins "sum" = some (.builtin "sum"):=by decide +kernel
theorem zan0:("sum" : Str) ≠ "__name__" := by decide +kernel
theorem zan1:Nd "sum" := by decide +kernel
theorem av13:AF (defScope (top 13)) ["wide"]:=⟨by decide +kernel⟩
theorem gl13:AG (defScope (top 13)) ["WIDEST"]:=⟨by decide +kernel⟩
def spIsW:Sp:=fun vs H Q _=>∃ i:Int,vs=[.int i]∧Q (.bl (isW i)) H
theorem scIsW:FnScope ["wide"] ["wide"] (defScope (top 13)):=⟨rfl,rfl,rfl,by decide +kernel,rfl,by decide +kernel,by decide +kernel⟩
theorem zara (F:Fun K "is_wide" "is_wide" (top 13) f fd) (m_WIDEST:∃ t,mg "WIDEST" = some (.int 16 t)):FnOk P w K mg base CX0 (k + 1) f fd ["wide"] spIsW:=by
 have nd:=scIsW.nd
 obtain ⟨tw,m_WIDEST⟩:=m_WIDEST
 refine F.ok scIsW (fun vs H Q E h=>by obtain ⟨i,rfl,_⟩:=h; rfl) (fun cdv A outer s H vs Q E hr h=>?_)
 obtain ⟨i,rfl,q⟩:=h
 refine ⟨_,(Pr.h (zaaf (zaan (zae4 zamh zamh zaab (qv av13 0 rfl) (zagi (v:=.int 16) (gl13.g 0 rfl) m_WIDEST ⟨_,rfl⟩ zale))))),?_⟩
 (try dsimp only [cxOf])
 walk_at "rd"
 refine ite2 (fun h0=>?_) (fun h0=>?_)
 ·walk_at "rd"
  have e:isW i=decide (i≤16):=by unfold isW; rw [h0,Bool.true_and]
  rw [e] at q
  exact q
 ·have h0:decide (1≤i)=false:=by simpa using h0
  have e:isW i=false:=by unfold isW; rw [h0,Bool.false_and]
  rw [e] at q
  walk_at "rd"
  all_goals first | exact q | (rw [h0]; exact q)
theorem av14:AF (defScope (top 14)) ["value", "wide"]:=⟨by decide +kernel⟩
theorem gl14:AG (defScope (top 14)) ["is_wide"]:=⟨by decide +kernel⟩
def spOfW:Sp:=fun vs H Q _=>∃ v i:Int,vs=[.int v,.int i]∧i≤10000∧Q (.bl (ofW v i)) H
theorem scOfW:FnScope ["value", "wide"] ["value", "wide"] (defScope (top 14)):=⟨rfl,rfl,rfl,by decide +kernel,rfl,by decide +kernel,by decide +kernel⟩
theorem zarb (F:Fun K "is_of_width" "is_of_width" (top 14) f fd) (Dis_wide:DefOk P w K mg base CX0 k "is_wide" ["wide"] spIsW):FnOk P w K mg base CX0 (k + 1) f fd ["value", "wide"] spOfW:=by
 have nd:=scOfW.nd
 refine F.ok scOfW (fun vs H Q E h=>by obtain ⟨v,i,rfl,_⟩:=h; rfl) (fun cdv A outer s H vs Q E hr h=>?_)
 obtain ⟨v,i,rfl,i1,q⟩:=h
 refine ⟨_,(Pr.h (zaaf (zaan (zacn (zaao Dis_wide hr (gl14.g 0 rfl) pass0 (zaaa (qv av14 1 rfl) zaac zaae) zaeb) (zac2 (zae4 zamh zagd zaab (qv av14 0 rfl) (zaam zafu zaab (qv av14 1 rfl)))))))),?_⟩
 (try dsimp only [cxOf])
 walk_at "rd"
 cases h1:isW i with
 | false =>
  have e:ofW v i=false:=by unfold ofW; rw [h1,Bool.false_and]
  rw [e] at q
  walk_at "rd"
  exact q
 | true =>
  have e:ofW v i=(decide (0≤v) && decide (v < 1 * 2 ^ i.toNat)):=by unfold ofW; rw [h1,Bool.true_and,Int.one_mul]
  rw [e] at q
  have hi:1≤i∧i≤16:=by simpa [isW] using h1
  walk_at "rd"
  refine ite2 (fun h0=>?_) (fun h0=>?_)
  ·rw [h0,Bool.true_and] at q
   walk_at "rd"
  ·have h0:decide (0≤v)=false:=by simpa using h0
   rw [h0,Bool.false_and] at q
   exact q
theorem fS_w (ab il wd us kp nx ot:Addr):List.lookup (Str.ofString "wides") (fldsS ab il wd us kp nx ot)=some (.ref wd):=rfl
theorem fS_u (ab il wd us kp nx ot:Addr):List.lookup (Str.ofString "uses") (fldsS ab il wd us kp nx ot)=some (.ref us):=rfl
theorem fS_a (ab il wd us kp nx ot:Addr):List.lookup (Str.ofString "above") (fldsS ab il wd us kp nx ot)=some (.ref ab):=rfl
theorem fS_i (ab il wd us kp nx ot:Addr):List.lookup (Str.ofString "ins") (fldsS ab il wd us kp nx ot)=some (.ref il):=rfl
theorem fS_k (ab il wd us kp nx ot:Addr):List.lookup (Str.ofString "keepers") (fldsS ab il wd us kp nx ot)=some (.ref kp):=rfl
theorem fS_n (ab il wd us kp nx ot:Addr):List.lookup (Str.ofString "nexts") (fldsS ab il wd us kp nx ot)=some (.ref nx):=rfl
theorem fS_o (ab il wd us kp nx ot:Addr):List.lookup (Str.ofString "outs") (fldsS ab il wd us kp nx ot)=some (.ref ot):=rfl
theorem av17:AF (defScope (top 17)) ["whole", "low", "wide"]:=⟨by decide +kernel⟩
def spPart:Sp:=fun vs H Q _=>∃ a b c:Int,vs=[.int a,.int b,.int c]∧Q (.int (partW a b c)) H
theorem scPart:FnScope ["whole", "low", "wide"] ["whole", "low", "wide"] (defScope (top 17)):=⟨rfl,rfl,rfl,by decide +kernel,rfl,by decide +kernel,by decide +kernel⟩
theorem zapa (F:Fun K "wide_of_part" "wide_of_part" (top 17) f fd):FnOk P w K mg base CX0 (k + 1) f fd ["whole", "low", "wide"] spPart:=by
 have nd:=scPart.nd
 refine F.ok scPart (fun vs H Q E h=>by obtain ⟨a,b,c,rfl,_⟩:=h; rfl) (fun cdv A outer s H vs Q E hr h=>?_)
 obtain ⟨a,b,c,rfl,q⟩:=h
 refine ⟨_,(Pr.h (zaad (zaa3 (zacg (zacl (zaat zagd (qv av17 2 rfl) zaab (nomark _)) (zacl (zaat zagd (qv av17 1 rfl) zaab (nomark _)) (zab2 (zaat zaht (zaam zabu (qv av17 1 rfl) (qv av17 2 rfl)) (qv av17 0 rfl) (nomark _)))))) (zaaf (zaan zaab)) zaau) (zaaf (zaan (qv av17 2 rfl))))),?_⟩
 (try dsimp only [cxOf])
 unfold partW at q
 walk_at "rd"
 cases h1:decide (c < 1) with
 | true=>rw [if_pos (.inl (of_decide_eq_true h1))] at q; walk_at "rd"; exact q
 | false =>
  walk_at "rd"
  cases h2:decide (b < 0) with
  | true=>rw [if_pos (.inr (.inl (of_decide_eq_true h2)))] at q; walk_at "rd"; exact q
  | false =>
   walk_at "rd"
   cases h3:decide (a < b + c) with
   | true=>rw [if_pos (.inr (.inr (of_decide_eq_true h3)))] at q; walk_at "rd"; exact q
   | false=>rw [if_neg (by have:=of_decide_eq_false h1; have:=of_decide_eq_false h2; have:=of_decide_eq_false h3; omega)] at q; walk_at "rd"
theorem av18:AF (defScope (top 18)) ["word", "wides"]:=⟨by decide +kernel⟩
theorem gl18:AG (defScope (top 18)) ["is_wide", "sum"]:=⟨by decide +kernel⟩
def spWord:Sp:=fun vs H Q _=>∃ (wo:Str) (p:Addr) (ws:List Int),vs=[.str wo,.ref p]∧H p=some (.lst (ws.map V.int))∧ArS wo ws.length∧∀ H',Ch [] H H'→Q (.int (wW wo ws)) H'
theorem scWord:FnScope ["word", "wides"] ["word", "wides"] (defScope (top 18)):=⟨rfl,rfl,rfl,by decide +kernel,rfl,by decide +kernel,by decide +kernel⟩
theorem zaec {ws:List Int}{i:Nat} (h:i < ws.length):atI (ws.map V.int) (i:Int)=some (.int (ws.getD i 0)):=zaex (by simp [h])
theorem zapb (F:Fun K "wide_of_word" "wide_of_word" (top 18) f fd) (Dis_wide:DefOk P w K mg base CX0 k "is_wide" ["wide"] spIsW) (z_sum:mg "sum" = none):FnOk P w K mg base CX0 (k + 1) f fd ["word", "wides"] spWord:=by
 have nd:=scWord.nd
 refine F.ok scWord (fun vs H Q E h=>by obtain ⟨wo,p,ws,rfl,_⟩:=h; rfl) (fun cdv A outer s H vs Q E hr h=>?_)
 obtain ⟨wo,p,ws,rfl,hp,⟨ar⟩,q⟩:=h
 refine ⟨_,(Pr.h (zaad (zaa3 (zaat zab1 (qv av18 0 rfl) zaaw (nomark _)) (zaaf (zaan (zaai zaav (qv av18 1 rfl) zaab (fun _ _=>rfl)))) zaau) (zaad (zaa3 (zaat zab1 (qv av18 0 rfl) zaaw (nomark _)) (zaaf (zaan (zaca (zabe (zaao Dis_wide hr (gl18.g 0 rfl) pass0 (zaaa (zaap (zaiz rfl) (gl18.g 1 rfl) z_sum zanz (zaaa (qv av18 1 rfl) zaac zaae) zan0 zan1) zaac zabt) zaeb)) (zaap (zaiz rfl) (gl18.g 1 rfl) z_sum zanz (zaaa (qv av18 1 rfl) zaac zaae) zan0 zan1) zaab))) zaau) (zaad (zaa3 (zaat zab1 (qv av18 0 rfl) zaaw (nomark _)) (zaaf (zaan (zaca (zacg (zaku (zaat zab1 (zaai zaav (qv av18 1 rfl) zaab (fun _ _=>rfl)) zaab (nomark _)) (zaiu (zaat zab1 (zaai zaav (qv av18 1 rfl) zaab (fun _ _=>rfl)) (zaai zaav (qv av18 1 rfl) zaab (fun _ _=>rfl)) (nomark _))))) (zaai zaav (qv av18 1 rfl) zaab (fun _ _=>rfl)) zaab))) zaau) (zaad (zaa3 (zaat zaeh (zaai zaav (qv av18 1 rfl) zaab (fun _ _=>rfl)) (zaai zaav (qv av18 1 rfl) zaab (fun _ _=>rfl)) (nomark _)) (zaaf (zaan zaab)) zaau) (zaaf (zaan (zaca (zaat zae0 (qv av18 0 rfl) (zaay (zaaa zaaw (zaaa zaaw zaac zaah) zaah)) rfl) zaab (zaai zaav (qv av18 1 rfl) zaab (fun _ _=>rfl)))))))))),?_⟩
 (try dsimp only [cxOf])
 unfold wW at q
 walk_at "rd"
 refine ite2 (fun h1=>?_) (fun h1=>?_)
 ·have h1:wo = "not" := by simpa using h1
  rw [if_pos h1] at q
  have a0:atI (ws.map V.int) 0=some (.int (ws.getD 0 0)):=zaec (i:=0) (by rcases ar with h | h | h <;> omega)
  walk_at "rd"
  exact q _ (Ch.refl _ _)
 ·have h1:¬ wo = "not" := by simpa using h1
  rw [if_neg h1] at q
  walk_at "rd"
  refine ite2 (fun h2=>?_) (fun h2=>?_)
  ·have h2:wo = "join" := by simpa using h2
   rw [if_pos h2] at q
   walk_at "rd"
   cases hw:isW ws.sum with
   | true =>
    rw [hw] at q
    walk_at "rd"
    exact q _ (Ch.refl _ _)
   | false =>
    rw [hw] at q
    walk_at "rd"
    exact q _ (Ch.refl _ _)
  ·have h2:¬ wo = "join" := by simpa using h2
   rw [if_neg h2] at q
   walk_at "rd"
   refine ite2 (fun h3=>?_) (fun h3=>?_)
   ·have h3:wo = "pick" := by simpa using h3
    rw [if_pos h3] at q
    have l3:ws.length=3:=by
     rcases ar with h | h | h
     ·exact absurd h.1 h1
     ·exact h.2
     ·exact absurd h3 h.2.1
    have a0:atI (ws.map V.int) 0=some (.int (ws.getD 0 0)):=zaec (i:=0) (by omega)
    have a1:atI (ws.map V.int) 1=some (.int (ws.getD 1 0)):=zaec (i:=1) (by omega)
    have a2:atI (ws.map V.int) 2=some (.int (ws.getD 2 0)):=zaec (i:=2) (by omega)
    walk_at "rd"
    refine ite2 (fun h4=>?_) (fun h4=>?_)
    ·have h4:ws.getD 0 0=1:=by simpa using h4
     walk_at "rd"
     refine ite2 (fun h5=>?_) (fun h5=>?_)
     ·have h5:ws.getD 1 0=ws.getD 2 0:=by simpa using h5
      rw [if_pos ⟨h4,h5⟩] at q
      walk_at "rd"
      exact q _ (Ch.refl _ _)
     ·have h5:¬ ws.getD 1 0=ws.getD 2 0:=by simpa using h5
      rw [if_neg (fun z=>h5 z.2)] at q
      walk_at "rd"
      exact q _ (Ch.refl _ _)
    ·have h4:¬ ws.getD 0 0=1:=by simpa using h4
     rw [if_neg (fun z=>h4 z.1)] at q
     walk_at "rd"
     exact q _ (Ch.refl _ _)
   ·have h3:¬ wo = "pick" := by simpa using h3
    rw [if_neg h3] at q
    have l2:ws.length=2:=by
     rcases ar with h | h | h
     ·exact absurd h.1 h1
     ·exact absurd h.1 h3
     ·exact h.2.2
    have a0:atI (ws.map V.int) 0=some (.int (ws.getD 0 0)):=zaec (i:=0) (by omega)
    have a1:atI (ws.map V.int) 1=some (.int (ws.getD 1 0)):=zaec (i:=1) (by omega)
    walk_at "rd"
    refine ite2 (fun h4=>?_) (fun h4=>?_)
    ·have h4:¬ ws.getD 0 0=ws.getD 1 0:=by simpa using h4
     rw [if_pos h4] at q
     walk_at "rd"
     exact q _ (Ch.refl _ _)
    ·have h4:ws.getD 0 0=ws.getD 1 0:=by simpa using h4
     rw [if_neg (fun z=>z h4)] at q
     walk_at "rd"
     rename_i T hT
     by_cases h5:wo = "less" ∨ wo = "same"
     ·have e:inV (V.str wo) [V.str (Str.ofString "less"),V.str (Str.ofString "same")]=true:=by rcases h5 with rfl | rfl <;> decide +kernel
      rw [if_pos h5] at q
      rw [if_neg (by decide),e]
      walk_at "rd"
      exact q _ (Ch.new hT _)
     ·have e:inV (V.str wo) [V.str (Str.ofString "less"),V.str (Str.ofString "same")]=false:=by
       have n1:¬ wo = "less" := fun z=>h5 (.inl z)
       have n2:¬ wo = "same" := fun z=>h5 (.inr z)
       simp [inV,eqV]
       exact ⟨fun z=>n1 z.symm,fun z=>n2 z.symm⟩
      rw [if_neg h5] at q
      rw [if_neg (by decide),e]
      walk_at "rd"
      exact q _ (Ch.new hT _)
theorem av16:AF (defScope (top 16)) ["sense", "use", "out"]:=⟨by decide +kernel⟩
def spOut (CS:Addr):Sp:=fun vs H Q _=>∃ (m:Nat) (H0:Hp) (x:Addr) (hs:List (Str × Int)) (S:S9) (a b:Str),vs=[.ref x,.str a,.str b]∧SnAt m CS H0 H x hs S∧Q (.int (wL S (.of a b))) H
theorem scOut:FnScope ["sense", "use", "out"] ["sense", "use", "out"] (defScope (top 16)):=⟨rfl,rfl,rfl,by decide +kernel,rfl,by decide +kernel,by decide +kernel⟩
theorem zarc {CS:Addr} (F:Fun K "wide_of_out" "wide_of_out" (top 16) f fd) (cl:Cls K CS) (nU:NoAttr K CS "uses") (nO:NoAttr K CS "outs"):FnOk P w K mg base CX0 (k + 1) f fd ["sense", "use", "out"] (spOut CS):=by
 have nd:=scOut.nd
 refine F.ok scOut (fun vs H Q E h=>by obtain ⟨m,H0,x,hs,S,a,b,rfl,_⟩:=h; rfl) (fun cdv A outer s H vs Q E hr h=>?_)
 obtain ⟨m,H0,x,hs,S,a,b,rfl,sn,q⟩:=h
 have hu:=zacx hr
 refine ⟨_,(Pr.h (zaad (zaa3 (zaea hu (qv av16 1 rfl) (zaa1 (qv av16 0 rfl) rfl)) (zaaf (zaan zaab)) zaau) (zaaf (zaan (zahg hu (zaa1 (zacm hu (zaa1 (qv av16 0 rfl) rfl) (qv av16 1 rfl) (fun _ _=>rfl)) rfl) (qv av16 2 rfl) zaab ⟨rfl,rfl,rfl,rfl⟩))))),?_⟩
 (try dsimp only [cxOf])
 obtain ⟨dx,ab,il,wd,us,kp,nx,ot,ys,uk,ak,sf⟩:=sn.ex
 have so:=sf.o
 have su:=sf.u
 have fu:=fS_u ab il wd us kp nx ot
 rcases zaf7 sf.ua a with ⟨e1,e2⟩ | ⟨wi,u,e1,e2,hl⟩
 ·have e:wL S (.of a b)=0:=by show (match S.us.lookup a with | none=>(0:Int) | some k=>if b = "big" then k else 0)=_; rw [e1]
  rw [e] at q
  walk_at "rd"
  exact q
 ·have e:wL S (.of a b)=if b = "big" then wi else 0:=by show (match S.us.lookup a with | none=>(0:Int) | some k=>if b = "big" then k else 0)=_; rw [e1]
  rw [e] at q
  obtain ⟨dx',ab',il',wd',us',kp',nx',ot',o1,o2,o3⟩:=(hl.ch sf.c).ex
  have fo:=fS_o ab' il' wd' us' kp' nx' ot'
  have ev:valV (kI [("big",wi)]) (.inr b)=if b = "big" then some (.int wi) else none:=by
   rw [zaf6]
   by_cases hb:b = "big"
   ·subst hb; rfl
   ·rw [if_neg hb,List.lookup_cons,beq_eq_false_iff_ne.mpr hb]; rfl
  by_cases hb:b = "big"
  ·rw [if_pos hb] at q ev
   walk_at "rd"
   exact q
  ·rw [if_neg hb] at q ev
   walk_at "rd"
   exact q
end
end

section
local macro_rules | `(tactic| walk_at "user")=>`(tactic| first
 | (apply zael; walk_at "get")
 | (apply zabj; (focus walk_at "get"); (focus with_reducible assumption))
 | (apply zabk; (focus walk_at "get"); (focus with_reducible assumption)))
def VOk:Lf→Prop
 | .val _ w=>w≤10000
 | _=>True
def XOk:Ex9→Prop
 | .lf l=>VOk l
 | .un a=>XOk a
 | .bi _ a b=>XOk a∧XOk b
 | .pick a b c=>XOk a∧XOk b∧XOk c
 | .pt a _ _=>XOk a
structure ExN (N:Nat) (H:Hp) (p:Addr) (e:Ex9):Prop where
 h:ExAt H p e
 v:XOk e
 d:e.deep < N
abbrev ExS:=ExN 4
theorem ExN.tu {N:Nat}{H H':Hp} (k:Tu H H') {p:Addr}{e:Ex9} (h:ExN N H p e):ExN N H' p e:=⟨h.h.tu k,h.v,h.d⟩
theorem zah7:∀ w∈BIW,Other w∧Arity w 2:=by
 have key:∀ w∈BIW,(w ≠ "name" ∧ w ≠ "of" ∧ w ≠ "value" ∧ w ≠ "part")∧w ≠ "not" ∧ w ≠ "pick" := by decide +kernel
 exact fun w h=>⟨(key w h).1,.inr (.inr ⟨(key w h).2.1,(key w h).2.2,rfl⟩)⟩
structure BrE (N:Nat) (H:Hp) (p:Addr) (S:S9) (e:Ex9) (w:Str) (es:List Ex9) (ps:List Addr):Prop where
 h:H p=some (.tup (.str w :: ps.map V.ref))
 k:Paired (fun a q=>ExN N H q a) es ps
 o:Other w
 a:Arity w es.length
 w:wE S e=wZ w (es.map (wE S))
theorem zasp {N:Nat}{H:Hp}{p:Addr}{S:S9}{a:Ex9} (h:ExN (N + 1) H p (.un a)):∃ w es ps,BrE N H p S (.un a) w es ps:=by
 obtain ⟨⟨q,x,y⟩,v,d⟩:=h
 exact ⟨"not",[a],[q],x,.cons ⟨y,v,Nat.lt_of_succ_lt_succ d⟩ .nil,by unfold Other; decide +kernel,.inl ⟨rfl,rfl⟩,rfl⟩
theorem zasq {N:Nat}{H:Hp}{p:Addr}{S:S9}{w:Str}{a b:Ex9} (h:ExN (N + 1) H p (.bi w a b)):∃ w' es ps,BrE N H p S (.bi w a b) w' es ps:=by
 obtain ⟨⟨q,r,x,y,z,o⟩,⟨v1,v2⟩,d⟩:=h
 have d:max a.deep b.deep + 1 < N + 1:=d
 exact ⟨w,[a,b],[q,r],x,.cons ⟨y,v1,by omega⟩ (.cons ⟨z,v2,by omega⟩ .nil),(zah7 w o).1,(zah7 w o).2,rfl⟩
theorem zapc {N:Nat}{H:Hp}{p:Addr}{S:S9}{a b c:Ex9} (h:ExN (N + 1) H p (.pick a b c)):∃ w' es ps,BrE N H p S (.pick a b c) w' es ps:=by
 obtain ⟨⟨q,r,s,x,y,z,u⟩,⟨v1,v2,v3⟩,d⟩:=h
 have d:max a.deep (max b.deep c.deep) + 1 < N + 1:=d
 exact ⟨"pick",[a,b,c],[q,r,s],x,.cons ⟨y,v1,by omega⟩ (.cons ⟨z,v2,by omega⟩ (.cons ⟨u,v3,by omega⟩ .nil)),by unfold Other; decide +kernel,.inr (.inl ⟨rfl,rfl⟩),rfl⟩
theorem zapd {xs:List V}{v:Int} (h0:0≤v) (h1:v≤(xs.length:Int)):cutV xs (some v) none=xs.drop v.toNat:=by
 have e:HT.sIx xs.length 0 (some v)=v.toNat:=by
  show (if v < 0 then (v + (xs.length:Int)).toNat else min v.toNat xs.length)=_
  rw [if_neg (by omega)]
  omega
 show (xs.drop (HT.sIx xs.length 0 (some v))).take (xs.length - HT.sIx xs.length 0 (some v))=_
 rw [e]
 exact List.take_of_length_le (by rw [List.length_drop]; exact Nat.le_refl _)
theorem zalf (x:V) (xs:List V):cutV (x :: xs) (some 1) none=xs:=by
 rw [zapd (by decide) (by simp; omega)]
 rfl
theorem zape (ws:List Int):inV (V.int 0) (ws.map V.int)=decide (0∈ws):=by
 induction ws with
 | nil=>rfl
 | cons a ws ih =>
  have e:inV (V.int 0) ((a :: ws).map V.int)=(eqV (V.int a) (V.int 0) || inV (V.int 0) (ws.map V.int)):=by simp [inV]
  rw [e,ih]
  by_cases h:a=0
  ·subst h; simp [eqV]
  ·have:(0:Int)∈a :: ws↔0∈ws:=⟨fun z=>(List.mem_cons.mp z).elim (fun e=>absurd e.symm h) id,List.mem_cons_of_mem _⟩
   simp [eqV,this,h]
section
variable {P:Program}{w:World}{K:PySem.W.Frag}{mg:Str→Option Value}{base:Heap}{f:Addr}{fd:FuncData}{k:Nat}
theorem zafs:Nd "wide_of_out" := by decide +kernel
theorem zadn:Nd "is_of_width" := by decide +kernel
theorem zact:Nd "wide_of" := by decide +kernel
theorem zafc:Nd "wide_of_part" := by decide +kernel
theorem zafd:Nd "wide_of_word" := by decide +kernel
theorem av15:AF (defScope (top 15)) ["sense", "expr", "word", "wides"]:=⟨by decide +kernel⟩
theorem gl15:AG (defScope (top 15)) ["wide_of_out", "is_of_width", "wide_of_part", "wide_of", "wide_of_word"]:=⟨by decide +kernel⟩
def zagm:Scope:={ kind:=PySem.ScopeKind.function,names:=[ (PySem.Str.ofString ".0",PySem.NameKind.local),(PySem.Str.ofString "inner",PySem.NameKind.local),(PySem.Str.ofString "wide_of",PySem.NameKind.globalImplicit),(PySem.Str.ofString "sense",PySem.NameKind.free)],isGenerator:=false,isCoroutine:=false,more:=[]:PySem.Scope }
theorem zalg:CompOk zagm (defScope (top 15)) (["inner"]:List Str) (["sense", "expr", "word", "wides"]:List Str) [0] (["inner", "sense"]:List Str):=compOk rfl (by decide +kernel) (by decide +kernel) (by decide +kernel) (by decide +kernel) rfl (by decide +kernel)
theorem zalh:AK (relab zagm (defScope (top 15))) ["inner"]:=⟨by decide +kernel⟩
theorem zapf:AG (relab zagm (defScope (top 15))) ["wide_of"]:=⟨by decide +kernel⟩
theorem zali:AV (relab zagm (defScope (top 15))) ["inner", "sense"]:=⟨by decide +kernel⟩
theorem scWO:FnScope ["sense", "expr", "word", "wides"] ["sense", "expr"] (defScope (top 15)):=⟨rfl,rfl,rfl,by decide +kernel,rfl,by decide +kernel,by decide +kernel⟩
def spWN (CS:Addr) (N:Nat):Sp:=fun vs H Q _=>∃ (m:Nat) (H0:Hp) (x p:Addr) (hs:List (Str × Int)) (S:S9) (e:Ex9),vs=[.ref x,.ref p]∧SnAt m CS H0 H x hs S∧ExN N H p e∧∀ H',Ch [] H H'→Q (.int (wE S e)) H'
abbrev spWE (CS:Addr):Sp:=spWN CS 4
theorem zasr {CS:Addr}{N:Nat} (F:Fun K "wide_of" "wide_of" (top 15) f fd) (cl:Cls K CS) (nW:NoAttr K CS "wides") (Dwide_of:DefOk P w K mg base CX0 k "wide_of" ["sense", "expr"] (spWN CS N)) (Dwide_of_out:DefOk P w K mg base CX0 k "wide_of_out" ["sense", "use", "out"] (spOut CS)) (Dis_of_width:DefOk P w K mg base CX0 k "is_of_width" ["value", "wide"] spOfW) (Dwide_of_part:DefOk P w K mg base CX0 k "wide_of_part" ["whole", "low", "wide"] spPart) (Dwide_of_word:DefOk P w K mg base CX0 k "wide_of_word" ["word", "wides"] spWord):FnOk P w K mg base CX0 (k + 1) f fd ["sense", "expr"] (spWN CS (N + 1)):=by
 have nd:=scWO.nd
 refine F.ok scWO (fun vs H Q E h=>by obtain ⟨m,H0,x,p,hs,S,l,rfl,_⟩:=h; rfl) (fun cdv A outer s H vs Q E hr h=>?_)
 obtain ⟨m,H0,x,p,hs,S,e,rfl,sn,xn,q⟩:=h
 have hu:=zacx hr
 refine ⟨_,(Pr.h (zaad (zaaz (i:=2) nd rfl (av15.l 2 rfl) (zaai zaaj (qv av15 1 rfl) zaab (fun _ _=>rfl))) (zaad (zaa3 (zaat zab1 (qv av15 2 rfl) zaaw (nomark _)) (zaaf (zaan (zahg hu (zaa1 (qv av15 0 rfl) rfl) (zaai zaaj (qv av15 1 rfl) zaab (fun _ _=>rfl)) zaab ⟨rfl,rfl,rfl,rfl⟩))) zaau) (zaad (zaa3 (zaat zab1 (qv av15 2 rfl) zaaw (nomark _)) (zaaf (zaan (zaao Dwide_of_out hr (gl15.g 0 rfl) pass0 (zaaa (qv av15 0 rfl) (zaaa (zaai zaaj (qv av15 1 rfl) zaab (fun _ _=>rfl)) (zaaa (zaai zaaj (qv av15 1 rfl) zaab (fun _ _=>rfl)) zaac zaal) zaal) zaae) zafs))) zaau) (zaad (zaa3 (zaat zab1 (qv av15 2 rfl) zaaw (nomark _)) (zaaf (zaan (zaca (zabe (zaao Dis_of_width hr (gl15.g 1 rfl) pass0 (zaaa (zaai zaaj (qv av15 1 rfl) zaab (fun _ _=>rfl)) (zaaa (zaai zaaj (qv av15 1 rfl) zaab (fun _ _=>rfl)) zaac zaal) zaal) zadn)) (zaai zaaj (qv av15 1 rfl) zaab (fun _ _=>rfl)) zaab))) zaau) (zaad (zaa3 (zaat zab1 (qv av15 2 rfl) zaaw (nomark _)) (zaaf (zaan (zaao Dwide_of_part hr (gl15.g 2 rfl) pass0 (zaaa (zaao Dwide_of hr (gl15.g 3 rfl) pass0 (zaaa (qv av15 0 rfl) (zaaa (zaai zaaj (qv av15 1 rfl) zaab (fun _ _=>rfl)) zaac zaal) zaae) zact) (zaaa (zaai zaaj (qv av15 1 rfl) zaab (fun _ _=>rfl)) (zaaa (zaai zaaj (qv av15 1 rfl) zaab (fun _ _=>rfl)) zaac zaal) zaal) zabt) zafc))) zaau) (zaad (zagk (i:=3) nd rfl (av15.l 3 rfl) rfl zalg (zad6 (zacw zans (qv av15 1 rfl) (zac5 zaab) zac4)) (fun _ _ _ _ _=>(zaa0 (i:=0) zalg.nd rfl (Or.inl (zalh.k 0 rfl)) (Or.inr (zalh.k 0 rfl)))) (fun _ _ _ _ _=>zabw) (fun _ _ _ _ _=>(zaao Dwide_of hr (zapf.g 0 rfl) pass0 (zaaa (qw zali 1 rfl) (zaaa (qw zali 0 rfl) zaac zaae) zaae) zact)) rfl) (zaad (zaa3 (zaat zae0 zaab (qv av15 3 rfl) rfl) (zaaf (zaan zaab)) zaau) (zaaf (zaan (zaao Dwide_of_word hr (gl15.g 4 rfl) pass0 (zaaa (qv av15 2 rfl) (zaaa (qv av15 3 rfl) zaac zaae) zaae) zafd))))))))))),?_⟩
 (try dsimp only [cxOf])
 by_cases hb:∃ w es ps,BrE N H p S e w es ps
 ·obtain ⟨wo,ls,ps,⟨la,lb,⟨o1,o2,o3,o4⟩,ar,ew⟩⟩:=hb
  rw [ew] at q
  have ll:=Paired.length lb
  walk_at "rd"
  refine ite2 (fun h=>absurd (by simpa using h) o1) (fun _=>?_)
  walk_at "rd"
  refine ite2 (fun h=>absurd (by simpa using h) o2) (fun _=>?_)
  walk_at "rd"
  refine ite2 (fun h=>absurd (by simpa using h) o3) (fun _=>?_)
  walk_at "rd"
  refine ite2 (fun h=>absurd (by simpa using h) o4) (fun _=>?_)
  walk_at "rd"
  rename_i T hT
  rw [zalf]
  obtain ⟨H1,e1⟩:∃ H1,upd H T (.tup (ps.map V.ref))=H1:=⟨_,rfl⟩
  have c1:Ch [] H H1:=by rw [← e1]; exact Ch.new hT _
  have g1:H1 T=some (.tup (ps.map V.ref)):=by rw [← e1]; exact zaag
  have lb1:Paired (fun l q=>ExN N H1 q l) ls ps:=zaax (fun _ _=>ExN.tu (Tu.same c1)) lb
  have sn1:=sn.ch c1
  rw [e1]
  clear e1 hT sn xn la lb
  have l3:ls.length≤3:=by rcases ar with h | h | h <;> omega
  refine zaeo (ps.map V.ref) (fun i ys σ H'=>Ch [] H1 H'∧ys=((ls.take i).map (wE S)).map V.int∧∃ u,σ=[u,some (.ref x)]) (by rw [sizeLine_eq,List.length_map]; omega) ⟨Ch.refl _ _,rfl,_,rfl⟩ ?_ ?_ ?_
  ·rintro i ys σ H' hi ⟨c,rfl,_⟩
   exact ⟨by simp; omega,SqT.of (c.get g1 (by simp))⟩
  ·rintro i ys σ H' z hz ⟨c,rfl,u,rfl⟩
   rw [List.getElem?_map] at hz
   obtain ⟨pq,hq,rfl⟩:=Option.map_eq_some_iff.mp hz
   have hi:i < ls.length:=by rw [ll]; exact (List.getElem?_eq_some_iff.mp hq).1
   have hl:ls[i]?=some ls[i]:=List.getElem?_eq_getElem hi
   have lf:ExN N H' pq ls[i]:=ExN.tu (Tu.same c) (by
    have:=zabx lb1 i hi (by omega)
    rw [← (List.getElem?_eq_some_iff.mp hq).2]
    exact this)
   have sn2:=sn1.ch c
   clear sn1 lb1
   walk_at "rd"
   refine ⟨?_,_,rfl⟩
   rw [List.take_add_one,hl]
   simp only [List.map_append,Option.toList_some,List.map_cons,List.map_nil]
  ·rintro ys σ H' ⟨c,rfl,_⟩
   rw [List.length_map,← ll,List.take_length]
   intro D hD
   have g2:upd H' D (.lst ((ls.map (wE S)).map V.int)) D=some (.lst ((ls.map (wE S)).map V.int)):=zaag
   have c2:=(c1.trans c).trans (Ch.new hD (.lst ((ls.map (wE S)).map V.int)))
   have ar2:Arity wo (ls.map (wE S)).length:=by rw [List.length_map]; exact ar
   have q:∀ H',Ch [] H H'→Q (.int (if 0∈ls.map (wE S) then 0 else wW wo (ls.map (wE S)))) H':=q
   generalize ls.map (wE S)=ws at g2 c2 ar2 q ⊢
   obtain ⟨H2,e2⟩:∃ H2,upd H' D (.lst (ws.map V.int))=H2:=⟨_,rfl⟩
   rw [e2] at g2 c2 ⊢
   clear e2 hD
   have bq:ArS wo ws.length:=⟨ar2⟩
   have fl:(ws.map V.int).all flatV=true:=by simp [flatV]
   walk_at "rd"
   rw [if_neg (by decide),zape]
   by_cases h0:(0:Int)∈ws
   ·rw [decide_eq_true h0]
    rw [if_pos h0] at q
    walk_at "rd"
    exact q _ c2
   ·rw [decide_eq_false h0]
    rw [if_neg h0] at q
    walk_at "rd"
    rename_i H3 c3
    exact q _ (c2.trans c3)
 cases e with
 | un a=>exact absurd (zasp xn) hb
 | bi w a b=>exact absurd (zasq xn) hb
 | pick a b c=>exact absurd (zapc xn) hb
 | lf l =>
  obtain ⟨xa,xo,_⟩:=xn
  cases l with
  | nm n =>
   have la:H p=some (.tup [.str "name",.str n]):=xa
   obtain ⟨dx,ab,il,wd,us,kp,nx,ot,ys,uk,ak,sf⟩:=sn.ex
   have so:=sf.o
   have sw:=sf.w
   have fw:=fS_w ab il wd us kp nx ot
   have ev:=zaf6 S.wd n
   have q:Q (.int ((S.wd.lookup n).getD 0)) H:=q H (Ch.refl _ _)
   cases el:S.wd.lookup n with
   | none=>rw [el] at q ev; have ev:valV (kI S.wd) (.inr n)=none:=ev; walk_at "rd"; exact q
   | some v=>rw [el] at q ev; have ev:valV (kI S.wd) (.inr n)=some (.int v):=ev; walk_at "rd"; exact q
  | of a b =>
   have la:H p=some (.tup [.str "of",.str a,.str b]):=xa
   walk_at "rd"
   exact q _ (Ch.refl _ _)
  | val v wi =>
   have la:H p=some (.tup [.str "value",.int v,.int wi]):=xa
   have vo:wi≤10000:=xo
   have q:Q (.int (if ofW v wi=true then wi else 0)) H:=q H (Ch.refl _ _)
   walk_at "rd"
   cases ho:ofW v wi with
   | true=>rw [ho] at q; walk_at "rd"; exact q
   | false=>rw [ho] at q; walk_at "rd"; exact q
 | pt l lw wi =>
  obtain ⟨⟨q1,la,lb⟩,xo,d⟩:=xn
  have lb:ExN N H q1 l:=⟨lb,xo,Nat.lt_of_succ_lt_succ d⟩
  walk_at "rd"
  rename_i H1 c1
  exact q _ c1
end
end

section
local macro_rules | `(tactic| walk_at "user")=>`(tactic| first
 | (apply zael; walk_at "get")
 | (apply zabj; (focus walk_at "get"); (focus with_reducible assumption))
 | (apply zabk; (focus walk_at "get"); (focus with_reducible assumption))
 | (apply dputS; (focus walk_at "get"); (focus with_reducible assumption)))
inductive Rw9
 | inn (n:Str) (w:Int)
 | keep (n:Str) (w f:Int)
 | lt (n:Str) (e:Ex9)
 | use (n m:Str)
 | nxt (n:Str) (e:Ex9)
 | out (n:Str) (e:Ex9)
def RwAt (H:Hp) (p:Addr):Rw9→Prop
 | .inn n w=>H p=some (.tup [.str "in",.str n,.int w])
 | .keep n w f=>H p=some (.tup [.str "keep",.str n,.int w,.int f])∧w≤10000
 | .lt n e=>∃ q,H p=some (.tup [.str "let",.str n,.ref q])∧ExS H q e
 | .use n m=>∃ q,H p=some (.tup [.str "use",.str n,.str m,.ref q])∧H q=some (.tup [])
 | .nxt n e=>∃ q,H p=some (.tup [.str "next",.str n,.ref q])∧ExS H q e
 | .out n e=>∃ q,H p=some (.tup [.str "out",.str n,.ref q])∧ExS H q e
theorem RwAt.tu {H H':Hp} (k:Tu H H') {p:Addr}{r:Rw9} (h:RwAt H p r):RwAt H' p r:=by
 cases r with
 | inn n w=>exact k _ _ h
 | keep n w f=>exact ⟨k _ _ h.1,h.2⟩
 | lt n e=>obtain ⟨q,a,b⟩:=h; exact ⟨q,k _ _ a,b.tu k⟩
 | use n m=>obtain ⟨q,a,b⟩:=h; exact ⟨q,k _ _ a,k _ _ b⟩
 | nxt n e=>obtain ⟨q,a,b⟩:=h; exact ⟨q,k _ _ a,b.tu k⟩
 | out n e=>obtain ⟨q,a,b⟩:=h; exact ⟨q,k _ _ a,b.tu k⟩
structure RwS (H:Hp) (p:Addr) (r:Rw9):Prop where
 h:RwAt H p r
def rwW:Rw9→Str
 | .inn _ _ => "in"
 | .keep _ _ _ => "keep"
 | .lt _ _ => "let"
 | .use _ _ => "use"
 | .nxt _ _ => "next"
 | .out _ _ => "out"
def free (S:S9) (n:Str):Bool:=(S.wd.lookup n).isNone && (S.us.lookup n).isNone
def take (hs:List (Str × Int)) (S:S9):Rw9→Option S9
 | .inn n w=>if free S n && isW w then some { S with wd:=S.wd++[(n,w)],ic:=S.ic++[(n,w)] } else none
 | .keep n w f=>if free S n && ofW f w then some { S with wd:=S.wd++[(n,w)],kp:=S.kp++[n] } else none
 | .lt n e=>if free S n && decide (wE S e≠0) then some { S with wd:=S.wd++[(n,wE S e)] } else none
 | .use n m=>match hs.lookup m with
  | none=>none
  | some k=>if free S n then some { S with us:=S.us++[(n,k)] } else none
 | .nxt n e=>if n∈S.kp∧n ∉ S.nx∧wE S e=(S.wd.lookup n).getD 0 then some { S with nx:=S.nx++[n] } else none
 | .out n e=>if (S.ot.lookup n).isNone && decide (wE S e≠0) then some { S with ot:=S.ot++[(n,wE S e)] } else none
structure TkR (m:Nat) (CS:Addr) (H0 H:Hp) (x:Addr) (hs:List (Str × Int)) (S:S9) (r:Rw9) (b:Bool) (H':Hp):Prop where
 tu:Tu H H'
 y:b=true→∃ S',take hs S r=some S'∧SnAt (m + 1) CS H0 H' x hs S'
 n:b=false→take hs S r=none∧SnAt m CS H0 H' x hs S
theorem zabp {α β:Type}{R:α→β→Prop}{x:α}{y:β} (h:R x y):∀ {xs:List α}{ys:List β},Paired R xs ys→Paired R (xs++[x]) (ys++[y])
 | _,_,.nil=>.cons h .nil
 | _,_,.cons a t=>.cons a (zabp h t)
theorem zai2 {l:List (Str × Int)}{n:Str} (h:l.lookup n=none) (v:Int):putK (kI l) (.inr n) (.int v)=kI (l++[(n,v)]):=by
 rw [zaem _ (by rw [zaf6,h]; rfl)]
 simp [kI]
theorem zan2 {l:List Str}{n:Str} (h:n ∉ l):putK (kB l) (.inr n) (.bl true)=kB (l++[n]):=by
 rw [zaem _ (by rw [zald,if_neg h])]
 simp [kB]
theorem zanb {l:List (Str × Int)}{n a:Str}{v:Int} (h:(l.lookup n).isSome=true):((l++[(a,v)]).lookup n).isSome=true:=by
 rw [List.lookup_append]
 cases e:l.lookup n with
 | none=>rw [e] at h; cases h
 | some x=>rfl
theorem zaf8 {H:Hp}{a:Addr}{xs:List V}{o:HO} (h:H a=some (.lst xs)):Tu H (upd H a o):=Tu.lst Ch.put h
theorem zadc {H:Hp}{a:Addr}{kvs:List (Key × V)}{o:HO} (h:H a=some (.dK kvs)):Tu H (upd H a o):=Tu.ch Ch.put h (fun xs z=>by cases z)
theorem SnF.up {m m':Nat}{CS:Addr}{H0 H:Hp}{x:Addr}{hs:List (Str × Int)}{S:S9}{dx ab il wd us kp nx ot:Addr}{ys:List V}{uk ak:List (Key × V)} (f:SnF m CS H0 H x hs S dx ab il wd us kp nx ot ys uk ak) (h:m≤m') (h':m'≤1000):SnF m' CS H0 H x hs S dx ab il wd us kp nx ot ys uk ak :=
 ⟨f.c,f.o,f.i,f.w,f.u,f.k,f.n,f.t,f.ua,f.a0,f.aa,f.fr,f.nd,f.sub,by have:=f.z; omega,h',f.yc⟩
theorem SnF.ch {m:Nat}{CS:Addr}{H0 H H':Hp}{x:Addr}{hs:List (Str × Int)}{S:S9}{dx ab il wd us kp nx ot:Addr}{ys:List V}{uk ak:List (Key × V)} (f:SnF m CS H0 H x hs S dx ab il wd us kp nx ot ys uk ak) (c:Ch [] H H'):SnF m CS H0 H' x hs S dx ab il wd us kp nx ot ys uk ak :=
 ⟨f.c.trans c,c.get f.o (by simp),c.get f.i (by simp),c.get f.w (by simp),c.get f.u (by simp),c.get f.k (by simp),c.get f.n (by simp),c.get f.t (by simp),f.ua,f.a0,f.aa,f.fr,f.nd,f.sub,f.z,f.zm,f.yc.tu (Tu.same c)⟩
theorem SnF.setI {m:Nat}{CS:Addr}{H0 H:Hp}{x:Addr}{hs:List (Str × Int)}{S:S9}{dx ab il wd us kp nx ot:Addr}{ys:List V}{uk ak:List (Key × V)} (f:SnF m CS H0 H x hs S dx ab il wd us kp nx ot ys uk ak) (n:Str) (wi:Int) (T:Addr) (hT:H T=some (.tup [.str n,.int wi])) (hl:ys.length + 1≤m) :
  SnF m CS H0 (upd H il (.lst (ys++[.ref T]))) x hs { S with ic:=S.ic++[(n,wi)] } dx ab il wd us kp nx ot (ys++[.ref T]) uk ak:=⟨Ch.own f.fr.1 f.c,zabc (zab9 f.o f.i (by intro z; cases z)) f.o,zaag,zabc (zab9 f.w f.i (by intro z; cases z)) f.w,zabc (zab9 f.u f.i (by intro z; cases z)) f.u,zabc (zab9 f.k f.i (by intro z; cases z)) f.k,zabc (zab9 f.n f.i (by intro z; cases z)) f.n,zabc (zab9 f.t f.i (by intro z; cases z)) f.t,f.ua,f.a0,f.aa,f.fr,f.nd,f.sub,by have:=f.z; simp only [List.length_append,List.length_singleton]; omega,f.zm,zabp ⟨T,rfl,(zaf8 f.i) _ _ hT⟩ (f.yc.tu (zaf8 f.i))⟩
theorem SnF.setW {m:Nat}{CS:Addr}{H0 H:Hp}{x:Addr}{hs:List (Str × Int)}{S:S9}{dx ab il wd us kp nx ot:Addr}{ys:List V}{uk ak:List (Key × V)} (f:SnF m CS H0 H x hs S dx ab il wd us kp nx ot ys uk ak) (n:Str) (v:Int) (hl:S.wd.length + 1≤m) :
  SnF m CS H0 (upd H wd (.dK (kI (S.wd++[(n,v)])))) x hs { S with wd:=S.wd++[(n,v)] } dx ab il wd us kp nx ot ys uk ak:=⟨Ch.own f.fr.2.1 f.c,zabc (zab9 f.o f.w (by intro z; cases z)) f.o,zabc (zab9 f.i f.w (by intro z; cases z)) f.i,zaag,zabc (f.nd.1).symm f.u,zabc (f.nd.2.1).symm f.k,zabc (f.nd.2.2.1).symm f.n,zabc (f.nd.2.2.2.1).symm f.t,f.ua,f.a0,f.aa,f.fr,f.nd,fun a ha=>zanb (f.sub a ha),by have:=f.z; simp only [List.length_append,List.length_singleton]; omega,f.zm,f.yc.tu (zadc f.w)⟩
theorem SnF.setU {m:Nat}{CS:Addr}{H0 H:Hp}{x:Addr}{hs:List (Str × Int)}{S:S9}{dx ab il wd us kp nx ot:Addr}{ys:List V}{uk ak:List (Key × V)} (f:SnF m CS H0 H x hs S dx ab il wd us kp nx ot ys uk ak) (n:Str) (v:Int) (q:Addr) (hq:Hlp CS H0 q v) (hl:S.us.length + 1≤m) :
  SnF m CS H0 (upd H us (.dK (uk++[(.inr n,.ref q)]))) x hs { S with us:=S.us++[(n,v)] } dx ab il wd us kp nx ot ys (uk++[(.inr n,.ref q)]) ak:=⟨Ch.own f.fr.2.2.1 f.c,zabc (zab9 f.o f.u (by intro z; cases z)) f.o,zabc (zab9 f.i f.u (by intro z; cases z)) f.i,zabc f.nd.1 f.w,zaag,zabc (f.nd.2.2.2.2.1).symm f.k,zabc (f.nd.2.2.2.2.2.1).symm f.n,zabc (f.nd.2.2.2.2.2.2.1).symm f.t,zabp ⟨rfl,q,rfl,hq⟩ f.ua,f.a0,f.aa,f.fr,f.nd,f.sub,by have:=f.z; simp only [List.length_append,List.length_singleton]; omega,f.zm,f.yc.tu (zadc f.u)⟩
theorem SnF.setK {m:Nat}{CS:Addr}{H0 H:Hp}{x:Addr}{hs:List (Str × Int)}{S:S9}{dx ab il wd us kp nx ot:Addr}{ys:List V}{uk ak:List (Key × V)} (f:SnF m CS H0 H x hs S dx ab il wd us kp nx ot ys uk ak) (n:Str) (hn:(S.wd.lookup n).isSome=true) (hl:S.kp.length + 1≤m) :
  SnF m CS H0 (upd H kp (.dK (kB (S.kp++[n])))) x hs { S with kp:=S.kp++[n] } dx ab il wd us kp nx ot ys uk ak:=⟨Ch.own f.fr.2.2.2.1 f.c,zabc (zab9 f.o f.k (by intro z; cases z)) f.o,zabc (zab9 f.i f.k (by intro z; cases z)) f.i,zabc f.nd.2.1 f.w,zabc f.nd.2.2.2.2.1 f.u,zaag,zabc (f.nd.2.2.2.2.2.2.2.1).symm f.n,zabc (f.nd.2.2.2.2.2.2.2.2.1).symm f.t,f.ua,f.a0,f.aa,f.fr,f.nd,fun a ha=>(List.mem_append.mp ha).elim (f.sub a) (fun h=>by rw [List.mem_singleton.mp h]; exact hn),by have:=f.z; simp only [List.length_append,List.length_singleton]; omega,f.zm,f.yc.tu (zadc f.k)⟩
theorem SnF.setN {m:Nat}{CS:Addr}{H0 H:Hp}{x:Addr}{hs:List (Str × Int)}{S:S9}{dx ab il wd us kp nx ot:Addr}{ys:List V}{uk ak:List (Key × V)} (f:SnF m CS H0 H x hs S dx ab il wd us kp nx ot ys uk ak) (n:Str) (hl:S.nx.length + 1≤m) :
  SnF m CS H0 (upd H nx (.dK (kB (S.nx++[n])))) x hs { S with nx:=S.nx++[n] } dx ab il wd us kp nx ot ys uk ak:=⟨Ch.own f.fr.2.2.2.2.1 f.c,zabc (zab9 f.o f.n (by intro z; cases z)) f.o,zabc (zab9 f.i f.n (by intro z; cases z)) f.i,zabc f.nd.2.2.1 f.w,zabc f.nd.2.2.2.2.2.1 f.u,zabc f.nd.2.2.2.2.2.2.2.1 f.k,zaag,zabc (f.nd.2.2.2.2.2.2.2.2.2).symm f.t,f.ua,f.a0,f.aa,f.fr,f.nd,f.sub,by have:=f.z; simp only [List.length_append,List.length_singleton]; omega,f.zm,f.yc.tu (zadc f.n)⟩
theorem SnF.setT {m:Nat}{CS:Addr}{H0 H:Hp}{x:Addr}{hs:List (Str × Int)}{S:S9}{dx ab il wd us kp nx ot:Addr}{ys:List V}{uk ak:List (Key × V)} (f:SnF m CS H0 H x hs S dx ab il wd us kp nx ot ys uk ak) (n:Str) (v:Int) (hl:S.ot.length + 1≤m) :
  SnF m CS H0 (upd H ot (.dK (kI (S.ot++[(n,v)])))) x hs { S with ot:=S.ot++[(n,v)] } dx ab il wd us kp nx ot ys uk ak:=⟨Ch.own f.fr.2.2.2.2.2 f.c,zabc (zab9 f.o f.t (by intro z; cases z)) f.o,zabc (zab9 f.i f.t (by intro z; cases z)) f.i,zabc f.nd.2.2.2.1 f.w,zabc f.nd.2.2.2.2.2.2.1 f.u,zabc f.nd.2.2.2.2.2.2.2.2.1 f.k,zabc f.nd.2.2.2.2.2.2.2.2.2 f.n,zaag,f.ua,f.a0,f.aa,f.fr,f.nd,f.sub,by have:=f.z; simp only [List.length_append,List.length_singleton]; omega,f.zm,f.yc.tu (zadc f.t)⟩
theorem zai3 {S:S9}{n:Str} (h:free S n=true):S.wd.lookup n=none∧S.us.lookup n=none:=by
 simp [free] at h
 exact ⟨by simpa using h.1,by simpa using h.2⟩
section
variable {P:Program}{w:World}{K:PySem.W.Frag}{mg:Str→Option Value}{base:Heap}{f:Addr}{fd:FuncData}{k:Nat}
theorem zadk:Nd "is_free" := by decide +kernel
theorem av19:AF (defScope (top 19)) ["sense", "name"]:=⟨by decide +kernel⟩
def spFree (CS:Addr):Sp:=fun vs H Q _=>∃ (m:Nat) (H0:Hp) (x:Addr) (hs:List (Str × Int)) (S:S9) (n:Str),vs=[.ref x,.str n]∧SnAt m CS H0 H x hs S∧Q (.bl (free S n)) H
theorem scFree:FnScope ["sense", "name"] ["sense", "name"] (defScope (top 19)):=⟨rfl,rfl,rfl,by decide +kernel,rfl,by decide +kernel,by decide +kernel⟩
theorem zapg {CS:Addr} (F:Fun K "is_free" "is_free" (top 19) f fd) (cl:Cls K CS) (nW:NoAttr K CS "wides") (nU:NoAttr K CS "uses"):FnOk P w K mg base CX0 (k + 1) f fd ["sense", "name"] (spFree CS):=by
 have nd:=scFree.nd
 refine F.ok scFree (fun vs H Q E h=>by obtain ⟨m,H0,x,hs,S,n,rfl,_⟩:=h; rfl) (fun cdv A outer s H vs Q E hr h=>?_)
 obtain ⟨m,H0,x,hs,S,n,rfl,sn,q⟩:=h
 have hu:=zacx hr
 refine ⟨_,(Pr.h (zaaf (zaan (zacn (zaf5 hu (qv av19 1 rfl) (zaa1 (qv av19 0 rfl) rfl)) (zac2 (zaf5 hu (qv av19 1 rfl) (zaa1 (qv av19 0 rfl) rfl))))))),?_⟩
 (try dsimp only [cxOf])
 obtain ⟨dx,ab,il,wd,us,kp,nx,ot,ys,uk,ak,sf⟩:=sn.ex
 have so:=sf.o
 have su:=sf.u
 have sw:=sf.w
 have fu:=fS_u ab il wd us kp nx ot
 have fw:=fS_w ab il wd us kp nx ot
 have ev:=zaf6 S.wd n
 have q:Q (.bl ((S.wd.lookup n).isNone && (S.us.lookup n).isNone)) H:=q
 cases el:S.wd.lookup n with
 | some v=>rw [el] at q ev; have ev:valV (kI S.wd) (.inr n)=some (.int v):=ev; walk_at "rd"; exact q
 | none =>
  rw [el] at q ev
  have ev:valV (kI S.wd) (.inr n)=none:=ev
  rcases zaf7 sf.ua n with ⟨e1,e2⟩ | ⟨wi,u,e1,e2,hl⟩
  ·rw [e1] at q; walk_at "rd"; exact q
  ·rw [e1] at q; walk_at "rd"; exact q
theorem gl20:AG (defScope (top 20)) ["is_wide", "is_free"]:=⟨by decide +kernel⟩
theorem av20:AF (defScope (top 20)) ["sense", "row"]:=⟨by decide +kernel⟩
def spT (wo:Str) (CS:Addr):Sp:=fun vs H Q _=>∃ (m:Nat) (H0:Hp) (x p:Addr) (hs:List (Str × Int)) (S:S9) (r:Rw9),vs=[.ref x,.ref p]∧SnAt m CS H0 H x hs S∧m < 1000∧RwS H p r∧rwW r=wo∧∀ b H',TkR m CS H0 H x hs S r b H'→Q (.bl b) H'
theorem scTin:FnScope ["sense", "row"] ["sense", "row"] (defScope (top 20)):=⟨rfl,rfl,rfl,by decide +kernel,rfl,by decide +kernel,by decide +kernel⟩
theorem zard {CS:Addr} (F:Fun K "take_in" "take_in" (top 20) f fd) (cl:Cls K CS) (nW:NoAttr K CS "wides") (nI:NoAttr K CS "ins") (Dis_free:DefOk P w K mg base CX0 k "is_free" ["sense", "name"] (spFree CS)) (Dis_wide:DefOk P w K mg base CX0 k "is_wide" ["wide"] spIsW):FnOk P w K mg base CX0 (k + 1) f fd ["sense", "row"] (spT "in" CS):=by
 have nd:=scTin.nd
 refine F.ok scTin (fun vs H Q E h=>by obtain ⟨m,H0,x,p,hs,S,r,rfl,_⟩:=h; rfl) (fun cdv A outer s H vs Q E hr h=>?_)
 obtain ⟨m,H0,x,p,hs,S,r,rfl,sn,m1,⟨ra⟩,ew,q⟩:=h
 have hu:=zacx hr
 refine ⟨_,(Pr.h (zaad (zaa3 (zacg (zacl (zaci (zabe (zaao Dis_free hr (gl20.g 1 rfl) pass0 (zaaa (qv av20 0 rfl) (zaaa (zaai zaaj (qv av20 1 rfl) zaab (fun _ _=>rfl)) zaac zaal) zaae) zadk))) (zab2 (zaci (zabe (zaao Dis_wide hr (gl20.g 0 rfl) pass0 (zaaa (zaai zaaj (qv av20 1 rfl) zaab (fun _ _=>rfl)) zaac zaal) zaeb)))))) (zaaf (zaan zabr)) zaau) (zaad (zack (zafz PySem.F.plainAttrs_list PySem.F.slot_list_append PySem.F.type_list_append zae1 (zaa1 (qv av20 0 rfl) rfl) (zaaa (zaay (zaaa (zaai zaaj (qv av20 1 rfl) zaab (fun _ _=>rfl)) (zaaa (zaai zaaj (qv av20 1 rfl) zaab (fun _ _=>rfl)) zaac zaal) zaal)) zaac zaa9))) (zaad (zabm hu (zaa1 (qv av20 0 rfl) rfl) (zaai zaaj (qv av20 1 rfl) zaab (fun _ _=>rfl)) (zaai zaaj (qv av20 1 rfl) zaab (fun _ _=>rfl)) rfl) (zaaf (zaan zabr)))))),?_⟩
 (try dsimp only [cxOf])
 cases r with
 | inn n wi =>
  have ra:H p=some (.tup [.str "in",.str n,.int wi]):=ra
  walk_at "rd"
  cases hf:free S n with
  | false =>
   have no:take hs S (.inn n wi)=none:=by simp [take,hf]
   walk_at "rd"
   exact q false _ ⟨Tu.refl _,fun z=>(by cases z),fun _=>⟨no,sn⟩⟩
  | true =>
   walk_at "rd"
   cases hw:isW wi with
   | false =>
    have no:take hs S (.inn n wi)=none:=by simp [take,hf,hw]
    walk_at "rd"
    exact q false _ ⟨Tu.refl _,fun z=>(by cases z),fun _=>⟨no,sn⟩⟩
   | true =>
    have yes:take hs S (.inn n wi)=some { S with wd:=S.wd++[(n,wi)],ic:=S.ic++[(n,wi)] }:=by simp [take,hf,hw]
    obtain ⟨f1,f2⟩:=zai3 hf
    obtain ⟨dx,ab,il,wd,us,kp,nx,ot,ys,uk,ak,sf⟩:=sn.ex
    have so:=sf.o
    have si:=sf.i
    have sw:=sf.w
    have fi:=fS_i ab il wd us kp nx ot
    have fw:=fS_w ab il wd us kp nx ot
    have z:=sf.z
    have zm:=sf.zm
    have lk:(kI S.wd).length < sizeLine:=by rw [sizeLine_eq]; simp [kI]; omega
    have ly:ys.length < sizeLine:=by rw [sizeLine_eq]; omega
    walk_at "rd"
    rename_i T hT
    rw [zai2 f1]
    have f3:=((sf.up (Nat.le_succ m) m1).ch (Ch.new hT (.tup [.str n,.int wi]))).setI n wi T zaag (by omega)
    refine q true _ ⟨((Tu.new _ hT).trans (zaf8 (zacy hT si))).trans (zadc f3.w),fun _=>⟨_,yes,dx,ab,il,wd,us,kp,nx,ot,_,uk,ak,f3.setW n wi (by show S.wd.length + 1≤m + 1; omega)⟩,fun z=>(by cases z)⟩
 | keep n w f=>cases ew
 | lt n e=>cases ew
 | use n m=>cases ew
 | nxt n e=>cases ew
 | out n e=>cases ew
end
end

section
local macro_rules | `(tactic| walk_at "user")=>`(tactic| first
 | (apply zael; walk_at "get")
 | (apply zabj; (focus walk_at "get"); (focus with_reducible assumption))
 | (apply zabk; (focus walk_at "get"); (focus with_reducible assumption))
 | (apply dputS; (focus walk_at "get"); (focus with_reducible assumption)))
section
variable {P:Program}{w:World}{K:PySem.W.Frag}{mg:Str→Option Value}{base:Heap}{f:Addr}{fd:FuncData}{k:Nat}
theorem gl21:AG (defScope (top 21)) ["is_of_width", "is_free"]:=⟨by decide +kernel⟩
theorem av21:AF (defScope (top 21)) ["sense", "row"]:=⟨by decide +kernel⟩
theorem scTke:FnScope ["sense", "row"] ["sense", "row"] (defScope (top 21)):=⟨rfl,rfl,rfl,by decide +kernel,rfl,by decide +kernel,by decide +kernel⟩
theorem zare {CS:Addr} (F:Fun K "take_keep" "take_keep" (top 21) f fd) (cl:Cls K CS) (nW:NoAttr K CS "wides") (nK:NoAttr K CS "keepers") (Dis_free:DefOk P w K mg base CX0 k "is_free" ["sense", "name"] (spFree CS)) (Dis_of_width:DefOk P w K mg base CX0 k "is_of_width" ["value", "wide"] spOfW):FnOk P w K mg base CX0 (k + 1) f fd ["sense", "row"] (spT "keep" CS):=by
 have nd:=scTke.nd
 refine F.ok scTke (fun vs H Q E h=>by obtain ⟨m,H0,x,p,hs,S,r,rfl,_⟩:=h; rfl) (fun cdv A outer s H vs Q E hr h=>?_)
 obtain ⟨m,H0,x,p,hs,S,r,rfl,sn,m1,⟨ra⟩,ew,q⟩:=h
 have hu:=zacx hr
 refine ⟨_,(Pr.h (zaad (zaa3 (zacg (zacl (zaci (zabe (zaao Dis_free hr (gl21.g 1 rfl) pass0 (zaaa (qv av21 0 rfl) (zaaa (zaai zaaj (qv av21 1 rfl) zaab (fun _ _=>rfl)) zaac zaal) zaae) zadk))) (zab2 (zaci (zabe (zaao Dis_of_width hr (gl21.g 0 rfl) pass0 (zaaa (zaai zaaj (qv av21 1 rfl) zaab (fun _ _=>rfl)) (zaaa (zaai zaaj (qv av21 1 rfl) zaab (fun _ _=>rfl)) zaac zaal) zaal) zadn)))))) (zaaf (zaan zabr)) zaau) (zaad (zabm hu (zaa1 (qv av21 0 rfl) rfl) (zaai zaaj (qv av21 1 rfl) zaab (fun _ _=>rfl)) zabr rfl) (zaad (zabm hu (zaa1 (qv av21 0 rfl) rfl) (zaai zaaj (qv av21 1 rfl) zaab (fun _ _=>rfl)) (zaai zaaj (qv av21 1 rfl) zaab (fun _ _=>rfl)) rfl) (zaaf (zaan zabr)))))),?_⟩
 (try dsimp only [cxOf])
 cases r with
 | keep n wi fi =>
  obtain ⟨ra,w1⟩:=ra
  walk_at "rd"
  cases hf:free S n with
  | false =>
   have no:take hs S (.keep n wi fi)=none:=by simp [take,hf]
   walk_at "rd"
   exact q false _ ⟨Tu.refl _,fun z=>(by cases z),fun _=>⟨no,sn⟩⟩
  | true =>
   walk_at "rd"
   cases hw:ofW fi wi with
   | false =>
    have no:take hs S (.keep n wi fi)=none:=by simp [take,hf,hw]
    walk_at "rd"
    exact q false _ ⟨Tu.refl _,fun z=>(by cases z),fun _=>⟨no,sn⟩⟩
   | true =>
    have yes:take hs S (.keep n wi fi)=some { S with wd:=S.wd++[(n,wi)],kp:=S.kp++[n] }:=by simp [take,hf,hw]
    obtain ⟨f1,f2⟩:=zai3 hf
    obtain ⟨dx,ab,il,wd,us,kp,nx,ot,ys,uk,ak,sf⟩:=sn.ex
    have so:=sf.o
    have sk:=sf.k
    have sw:=sf.w
    have fk:=fS_k ab il wd us kp nx ot
    have fw:=fS_w ab il wd us kp nx ot
    have z:=sf.z
    have zm:=sf.zm
    have lk:(kI S.wd).length < sizeLine:=by rw [sizeLine_eq]; simp [kI]; omega
    have lb:(kB S.kp).length < sizeLine:=by rw [sizeLine_eq]; simp [kB]; omega
    have nn:n ∉ S.kp:=fun hn=>by have:=sf.sub n hn; rw [f1] at this; cases this
    have ne:=sf.nd.2.1
    walk_at "rd"
    rw [zai2 f1,zan2 nn]
    have fa:=(sf.up (Nat.le_succ m) m1).setW n wi (by omega)
    have hn:((S.wd++[(n,wi)]).lookup n).isSome=true:=by rw [List.lookup_append,f1]; simp [List.lookup_cons]
    have fb:=fa.setK n hn (by show S.kp.length + 1≤m + 1; omega)
    have eq:upd (upd H wd (.dK (kI (S.wd++[(n,wi)])))) kp (.dK (kB (S.kp++[n])))=upd (upd H kp (.dK (kB (S.kp++[n])))) wd (.dK (kI (S.wd++[(n,wi)]))):=by
     funext a
     by_cases a1:a=wd
     ·subst a1; rw [zaag,zaak ne,zaag]
     ·by_cases a2:a=kp
      ·subst a2; rw [zaag,zaak a1,zaag]
      ·rw [zaak a1,zaak a2,zaak a2,zaak a1]
    have fb:SnF (m + 1) CS H0 (upd (upd H kp (.dK (kB (S.kp++[n])))) wd (.dK (kI (S.wd++[(n,wi)])))) x hs { S with wd:=S.wd++[(n,wi)],kp:=S.kp++[n] } dx ab il wd us kp nx ot ys uk ak:=eq ▸ fb
    exact q true _ ⟨(zadc sk).trans (zadc (zabc ne sw)),fun _=>⟨_,yes,dx,ab,il,wd,us,kp,nx,ot,_,uk,ak,fb⟩,fun z=>(by cases z)⟩
 | inn n w=>cases ew
 | lt n e=>cases ew
 | use n m=>cases ew
 | nxt n e=>cases ew
 | out n e=>cases ew
theorem av22:AF (defScope (top 22)) ["sense", "row", "wide"]:=⟨by decide +kernel⟩
theorem gl22:AG (defScope (top 22)) ["wide_of", "is_free"]:=⟨by decide +kernel⟩
theorem scTle:FnScope ["sense", "row", "wide"] ["sense", "row"] (defScope (top 22)):=⟨rfl,rfl,rfl,by decide +kernel,rfl,by decide +kernel,by decide +kernel⟩
theorem zarf {CS:Addr} (F:Fun K "take_let" "take_let" (top 22) f fd) (cl:Cls K CS) (nW:NoAttr K CS "wides") (Dis_free:DefOk P w K mg base CX0 k "is_free" ["sense", "name"] (spFree CS)) (Dwide_of:DefOk P w K mg base CX0 k "wide_of" ["sense", "expr"] (spWE CS)):FnOk P w K mg base CX0 (k + 1) f fd ["sense", "row"] (spT "let" CS):=by
 have nd:=scTle.nd
 refine F.ok scTle (fun vs H Q E h=>by obtain ⟨m,H0,x,p,hs,S,r,rfl,_⟩:=h; rfl) (fun cdv A outer s H vs Q E hr h=>?_)
 obtain ⟨m,H0,x,p,hs,S,r,rfl,sn,m1,⟨ra⟩,ew,q⟩:=h
 have hu:=zacx hr
 refine ⟨_,(Pr.h (zaad (zaaz (i:=2) nd rfl (av22.l 2 rfl) (zaao Dwide_of hr (gl22.g 0 rfl) pass0 (zaaa (qv av22 0 rfl) (zaaa (zaai zaaj (qv av22 1 rfl) zaab (fun _ _=>rfl)) zaac zaal) zaae) zact)) (zaad (zaa3 (zacg (zacl (zaci (zabe (zaao Dis_free hr (gl22.g 1 rfl) pass0 (zaaa (qv av22 0 rfl) (zaaa (zaai zaaj (qv av22 1 rfl) zaab (fun _ _=>rfl)) zaac zaal) zaae) zadk))) (zab2 (zaat zab1 (qv av22 2 rfl) zaab (nomark _))))) (zaaf (zaan zabr)) zaau) (zaad (zabm hu (zaa1 (qv av22 0 rfl) rfl) (zaai zaaj (qv av22 1 rfl) zaab (fun _ _=>rfl)) (qv av22 2 rfl) rfl) (zaaf (zaan zabr)))))),?_⟩
 (try dsimp only [cxOf])
 cases r with
 | lt n e =>
  obtain ⟨pe,ra,xa⟩:=ra
  walk_at "rd"
  rename_i H1 c1
  have sn1:=sn.ch c1
  have ra1:=c1.get ra (by simp)
  walk_at "rd"
  cases hf:free S n with
  | false =>
   have no:take hs S (.lt n e)=none:=by simp [take,hf]
   walk_at "rd"
   exact q false _ ⟨Tu.same c1,fun z=>(by cases z),fun _=>⟨no,sn1⟩⟩
  | true =>
   walk_at "rd"
   refine ite2 (fun h0=>?_) (fun h0=>?_)
   ·have h0:wE S e=0:=by simpa using h0
    have no:take hs S (.lt n e)=none:=by simp [take,h0]
    walk_at "rd"
    exact q false _ ⟨Tu.same c1,fun z=>(by cases z),fun _=>⟨no,sn1⟩⟩
   ·have h0:wE S e≠0:=by simpa using h0
    have yes:take hs S (.lt n e)=some { S with wd:=S.wd++[(n,wE S e)] }:=by simp [take,hf,h0]
    obtain ⟨f1,f2⟩:=zai3 hf
    obtain ⟨dx,ab,il,wd,us,kp,nx,ot,ys,uk,ak,sf⟩:=sn1.ex
    have so:=sf.o
    have sw:=sf.w
    have fw:=fS_w ab il wd us kp nx ot
    have z:=sf.z
    have zm:=sf.zm
    have lk:(kI S.wd).length < sizeLine:=by rw [sizeLine_eq]; simp [kI]; omega
    walk_at "rd"
    rw [zai2 f1]
    exact q true _ ⟨(Tu.same c1).trans (zadc sw),fun _=>⟨_,yes,dx,ab,il,wd,us,kp,nx,ot,_,uk,ak,(sf.up (Nat.le_succ m) m1).setW n _ (by omega)⟩,fun z=>(by cases z)⟩
 | inn n w=>cases ew
 | keep n w f=>cases ew
 | use n m=>cases ew
 | nxt n e=>cases ew
 | out n e=>cases ew
theorem av25:AF (defScope (top 25)) ["sense", "row", "wide"]:=⟨by decide +kernel⟩
theorem gl25:AG (defScope (top 25)) ["wide_of"]:=⟨by decide +kernel⟩
theorem scTou:FnScope ["sense", "row", "wide"] ["sense", "row"] (defScope (top 25)):=⟨rfl,rfl,rfl,by decide +kernel,rfl,by decide +kernel,by decide +kernel⟩
theorem zarg {CS:Addr} (F:Fun K "take_out" "take_out" (top 25) f fd) (cl:Cls K CS) (nO:NoAttr K CS "outs") (Dwide_of:DefOk P w K mg base CX0 k "wide_of" ["sense", "expr"] (spWE CS)):FnOk P w K mg base CX0 (k + 1) f fd ["sense", "row"] (spT "out" CS):=by
 have nd:=scTou.nd
 refine F.ok scTou (fun vs H Q E h=>by obtain ⟨m,H0,x,p,hs,S,r,rfl,_⟩:=h; rfl) (fun cdv A outer s H vs Q E hr h=>?_)
 obtain ⟨m,H0,x,p,hs,S,r,rfl,sn,m1,⟨ra⟩,ew,q⟩:=h
 have hu:=zacx hr
 refine ⟨_,(Pr.h (zaad (zaaz (i:=2) nd rfl (av25.l 2 rfl) (zaao Dwide_of hr (gl25.g 0 rfl) pass0 (zaaa (qv av25 0 rfl) (zaaa (zaai zaaj (qv av25 1 rfl) zaab (fun _ _=>rfl)) zaac zaal) zaae) zact)) (zaad (zaa3 (zacg (zacl (zah5 hu (zaai zaaj (qv av25 1 rfl) zaab (fun _ _=>rfl)) (zaa1 (qv av25 0 rfl) rfl)) (zab2 (zaat zab1 (qv av25 2 rfl) zaab (nomark _))))) (zaaf (zaan zabr)) zaau) (zaad (zabm hu (zaa1 (qv av25 0 rfl) rfl) (zaai zaaj (qv av25 1 rfl) zaab (fun _ _=>rfl)) (qv av25 2 rfl) rfl) (zaaf (zaan zabr)))))),?_⟩
 (try dsimp only [cxOf])
 cases r with
 | out n e =>
  obtain ⟨pe,ra,xa⟩:=ra
  have sn0:=sn
  obtain ⟨dx,ab,il,wd,us,kp,nx,ot,ys,uk,ak,sf⟩:=sn.ex
  have so:=sf.o
  have st:=sf.t
  have fo:=fS_o ab il wd us kp nx ot
  have z:=sf.z
  have zm:=sf.zm
  have lk:(kI S.ot).length < sizeLine:=by rw [sizeLine_eq]; simp [kI]; omega
  have ev:=zaf6 S.ot n
  cases el:S.ot.lookup n with
  | some v =>
   rw [el] at ev
   have ev:valV (kI S.ot) (.inr n)=some (.int v):=ev
   have no:take hs S (.out n e)=none:=by simp [take,el]
   walk_at "rd"
   rename_i H1 c1
   exact q false _ ⟨Tu.same c1,fun z=>(by cases z),fun _=>⟨no,sn0.ch c1⟩⟩
  | none =>
   rw [el] at ev
   have ev:valV (kI S.ot) (.inr n)=none:=ev
   walk_at "rd"
   rename_i H1 c1
   have sf1:=sf.ch c1
   refine ite2 (fun h0=>?_) (fun h0=>?_)
   ·have h0:wE S e=0:=by simpa using h0
    have no:take hs S (.out n e)=none:=by simp [take,h0]
    walk_at "rd"
    exact q false _ ⟨Tu.same c1,fun z=>(by cases z),fun _=>⟨no,sn0.ch c1⟩⟩
   ·have h0:wE S e≠0:=by simpa using h0
    have yes:take hs S (.out n e)=some { S with ot:=S.ot++[(n,wE S e)] }:=by simp [take,el,h0]
    walk_at "rd"
    rw [zai2 el]
    exact q true _ ⟨(Tu.same c1).trans (zadc sf1.t),fun _=>⟨_,yes,dx,ab,il,wd,us,kp,nx,ot,_,uk,ak,(sf1.up (Nat.le_succ m) m1).setT n _ (by omega)⟩,fun z=>(by cases z)⟩
 | inn n w=>cases ew
 | keep n w f=>cases ew
 | lt n e=>cases ew
 | use n m=>cases ew
 | nxt n e=>cases ew
theorem av24:AF (defScope (top 24)) ["sense", "row"]:=⟨by decide +kernel⟩
theorem gl24:AG (defScope (top 24)) ["wide_of"]:=⟨by decide +kernel⟩
theorem scTne:FnScope ["sense", "row"] ["sense", "row"] (defScope (top 24)):=⟨rfl,rfl,rfl,by decide +kernel,rfl,by decide +kernel,by decide +kernel⟩
theorem zarh {CS:Addr} (F:Fun K "take_next" "take_next" (top 24) f fd) (cl:Cls K CS) (nW:NoAttr K CS "wides") (nK:NoAttr K CS "keepers") (nN:NoAttr K CS "nexts") (Dwide_of:DefOk P w K mg base CX0 k "wide_of" ["sense", "expr"] (spWE CS)):FnOk P w K mg base CX0 (k + 1) f fd ["sense", "row"] (spT "next" CS):=by
 have nd:=scTne.nd
 refine F.ok scTne (fun vs H Q E h=>by obtain ⟨m,H0,x,p,hs,S,r,rfl,_⟩:=h; rfl) (fun cdv A outer s H vs Q E hr h=>?_)
 obtain ⟨m,H0,x,p,hs,S,r,rfl,sn,m1,⟨ra⟩,ew,q⟩:=h
 have hu:=zacx hr
 refine ⟨_,(Pr.h (zaad (zaa3 (zacg (zacl (zaea hu (zaai zaaj (qv av24 1 rfl) zaab (fun _ _=>rfl)) (zaa1 (qv av24 0 rfl) rfl)) (zab2 (zah5 hu (zaai zaaj (qv av24 1 rfl) zaab (fun _ _=>rfl)) (zaa1 (qv av24 0 rfl) rfl))))) (zaaf (zaan zabr)) zaau) (zaad (zaa3 (zaat zaeh (zaao Dwide_of hr (gl24.g 0 rfl) pass0 (zaaa (qv av24 0 rfl) (zaaa (zaai zaaj (qv av24 1 rfl) zaab (fun _ _=>rfl)) zaac zaal) zaae) zact) (zacm hu (zaa1 (qv av24 0 rfl) rfl) (zaai zaaj (qv av24 1 rfl) zaab (fun _ _=>rfl)) (fun _ _=>rfl)) (nomark _)) (zaaf (zaan zabr)) zaau) (zaad (zabm hu (zaa1 (qv av24 0 rfl) rfl) (zaai zaaj (qv av24 1 rfl) zaab (fun _ _=>rfl)) zabr rfl) (zaaf (zaan zabr)))))),?_⟩
 (try dsimp only [cxOf])
 cases r with
 | nxt n e =>
  obtain ⟨pe,ra,xa⟩:=ra
  have sn0:=sn
  obtain ⟨dx,ab,il,wd,us,kp,nx,ot,ys,uk,ak,sf⟩:=sn.ex
  have so:=sf.o
  have sk:=sf.k
  have sN:=sf.n
  have sw:=sf.w
  have fk:=fS_k ab il wd us kp nx ot
  have fn:=fS_n ab il wd us kp nx ot
  have fw:=fS_w ab il wd us kp nx ot
  have z:=sf.z
  have zm:=sf.zm
  have lb:(kB S.nx).length < sizeLine:=by rw [sizeLine_eq]; simp [kB]; omega
  have ek:=zald S.kp n
  have en:=zald S.nx n
  by_cases hk:n∈S.kp
  ·rw [if_pos hk] at ek
   by_cases hn:n∈S.nx
   ·rw [if_pos hn] at en
    have no:take hs S (.nxt n e)=none:=by simp [take,hn]
    walk_at "rd"
    exact q false _ ⟨Tu.refl _,fun z=>(by cases z),fun _=>⟨no,sn0⟩⟩
   ·rw [if_neg hn] at en
    have hw:=sf.sub n hk
    obtain ⟨v,el⟩:=Option.isSome_iff_exists.mp hw
    have ev:valV (kI S.wd) (.inr n)=some (.int v):=by rw [zaf6,el]; rfl
    walk_at "rd"
    rename_i H1 c1
    have sn1:=sn0.ch c1
    have sf1:=sf.ch c1
    refine ite2 (fun h0=>?_) (fun h0=>?_)
    ·have h0:¬ wE S e=v:=by simpa using h0
     have no:take hs S (.nxt n e)=none:=by simp [take,el,h0]
     walk_at "rd"
     exact q false _ ⟨Tu.same c1,fun z=>(by cases z),fun _=>⟨no,sn1⟩⟩
    ·have h0:wE S e=v:=by simpa using h0
     have yes:take hs S (.nxt n e)=some { S with nx:=S.nx++[n] }:=by simp [take,el,h0,hk,hn]
     walk_at "rd"
     rw [zan2 hn]
     exact q true _ ⟨(Tu.same c1).trans (zadc sf1.n),fun _=>⟨_,yes,dx,ab,il,wd,us,kp,nx,ot,_,uk,ak,(sf1.up (Nat.le_succ m) m1).setN n (by omega)⟩,fun z=>(by cases z)⟩
  ·rw [if_neg hk] at ek
   have no:take hs S (.nxt n e)=none:=by simp [take,hk]
   walk_at "rd"
   exact q false _ ⟨Tu.refl _,fun z=>(by cases z),fun _=>⟨no,sn0⟩⟩
 | inn n w=>cases ew
 | keep n w f=>cases ew
 | lt n e=>cases ew
 | use n m=>cases ew
 | out n e=>cases ew
end
end

section
local macro_rules | `(tactic| walk_at "user")=>`(tactic| first
 | (apply zael; walk_at "get")
 | (apply zabj; (focus walk_at "get"); (focus with_reducible assumption))
 | (apply zabk; (focus walk_at "get"); (focus with_reducible assumption))
 | (apply dputS; (focus walk_at "get"); (focus with_reducible assumption)))
section
variable {P:Program}{w:World}{K:PySem.W.Frag}{mg:Str→Option Value}{base:Heap}{f:Addr}{fd:FuncData}{k:Nat}
theorem av23:AF (defScope (top 23)) ["sense", "row", "used"]:=⟨by decide +kernel⟩
theorem gl23:AG (defScope (top 23)) ["is_free"]:=⟨by decide +kernel⟩
def zagn:Scope:={ kind:=PySem.ScopeKind.function,names:=[ (PySem.Str.ofString ".0",PySem.NameKind.local),(PySem.Str.ofString "expr",PySem.NameKind.local),(PySem.Str.ofString "wide_of",PySem.NameKind.globalImplicit),(PySem.Str.ofString "sense",PySem.NameKind.free)],isGenerator:=false,isCoroutine:=false,more:=[]:PySem.Scope }
theorem zalj:CompOk zagn (defScope (top 23)) (["expr"]:List Str) (["sense", "row", "used"]:List Str) [0] (["expr", "sense"]:List Str):=compOk rfl (by decide +kernel) (by decide +kernel) (by decide +kernel) (by decide +kernel) rfl (by decide +kernel)
theorem zalk:AK (relab zagn (defScope (top 23))) ["expr"]:=⟨by decide +kernel⟩
theorem zaph:AG (relab zagn (defScope (top 23))) ["wide_of"]:=⟨by decide +kernel⟩
theorem zall:AV (relab zagn (defScope (top 23))) ["expr", "sense"]:=⟨by decide +kernel⟩
def zah8:Scope:={ kind:=PySem.ScopeKind.function,names:=[ (PySem.Str.ofString ".0",PySem.NameKind.local),(PySem.Str.ofString "name",PySem.NameKind.local),(PySem.Str.ofString "wide",PySem.NameKind.local)],isGenerator:=false,isCoroutine:=false,more:=[]:PySem.Scope }
theorem zah9:CompOk zah8 (defScope (top 23)) (["name", "wide"]:List Str) (["sense", "row", "used"]:List Str) [] (["name", "wide"]:List Str):=compOk rfl (by decide +kernel) (by decide +kernel) (by decide +kernel) (by decide +kernel) rfl (by decide +kernel)
theorem zago:AK (relab zah8 (defScope (top 23))) ["name", "wide"]:=⟨by decide +kernel⟩
theorem zapi:AV (relab zah8 (defScope (top 23))) ["name", "wide"]:=⟨by decide +kernel⟩
theorem scTus:FnScope ["sense", "row", "used"] ["sense", "row"] (defScope (top 23)):=⟨rfl,rfl,rfl,by decide +kernel,rfl,by decide +kernel,by decide +kernel⟩
theorem zari {CS:Addr} (F:Fun K "take_use" "take_use" (top 23) f fd) (cl:Cls K CS) (nU:NoAttr K CS "uses") (nA:NoAttr K CS "above") (nI:NoAttr K CS "ins") (Dis_free:DefOk P w K mg base CX0 k "is_free" ["sense", "name"] (spFree CS)) (Dwide_of:DefOk P w K mg base CX0 k "wide_of" ["sense", "expr"] (spWE CS)):FnOk P w K mg base CX0 (k + 1) f fd ["sense", "row"] (spT "use" CS):=by
 have nd:=scTus.nd
 refine F.ok scTus (fun vs H Q E h=>by obtain ⟨m,H0,x,p,hs,S,r,rfl,_⟩:=h; rfl) (fun cdv A outer s H vs Q E hr h=>?_)
 obtain ⟨m,H0,x,p,hs,S,r,rfl,sn,m1,⟨ra⟩,ew,q⟩:=h
 have hu:=zacx hr
 refine ⟨_,(Pr.h (zaad (zaa3 (zacg (zacl (zaci (zabe (zaao Dis_free hr (gl23.g 0 rfl) pass0 (zaaa (qv av23 0 rfl) (zaaa (zaai zaaj (qv av23 1 rfl) zaab (fun _ _=>rfl)) zaac zaal) zaae) zadk))) (zab2 (zaea hu (zaai zaaj (qv av23 1 rfl) zaab (fun _ _=>rfl)) (zaa1 (qv av23 0 rfl) rfl))))) (zaaf (zaan zabr)) zaau) (zaad (zaaz (i:=2) nd rfl (av23.l 2 rfl) (zacm hu (zaa1 (qv av23 0 rfl) rfl) (zaai zaaj (qv av23 1 rfl) zaab (fun _ _=>rfl)) (fun _ _=>rfl))) (zaad (zaa3 (zaat (zaq5 hr.units) (zacc rfl zalj (zad6 (zaai zaaj (qv av23 1 rfl) zaab (fun _ _=>rfl))) (fun _ _ _ _ _=>(zaa0 (i:=0) zalj.nd rfl (Or.inl (zalk.k 0 rfl)) (Or.inr (zalk.k 0 rfl)))) (fun _ _ _ _ _=>zabw) (fun _ _ _ _ _=>(zaao Dwide_of hr (zaph.g 0 rfl) pass0 (zaaa (qw zall 1 rfl) (zaaa (qw zall 0 rfl) zaac zaae) zaae) zact))) (zacc rfl zah9 (zac6 (zaa1 (qv av23 2 rfl) rfl)) (fun _ _ _ _ _=>(zadi K 2 rfl rfl (zaa7 (zaa0 (i:=0) zah9.nd rfl (Or.inl (zago.k 0 rfl)) (Or.inr (zago.k 0 rfl))) (zaa7 (zaa0 (i:=1) zah9.nd rfl (Or.inl (zago.k 1 rfl)) (Or.inr (zago.k 1 rfl))) zacb)))) (fun _ _ _ _ _=>zabw) (fun _ _ _ _ _=>(qw zapi 1 rfl))) (nomark _)) (zaaf (zaan zabr)) zaau) (zaad (zabm hu (zaa1 (qv av23 0 rfl) rfl) (zaai zaaj (qv av23 1 rfl) zaab (fun _ _=>rfl)) (qv av23 2 rfl) rfl) (zaaf (zaan zabr))))))),?_⟩
 (try dsimp only [cxOf])
 cases r with
 | use n mo =>
  obtain ⟨pe,ra,rb⟩:=ra
  have sn0:=sn
  obtain ⟨dx,ab,il,wd,us,kp,nx,ot,ys,uk,ak,sf⟩:=sn.ex
  have so:=sf.o
  have su:=sf.u
  have fu:=fS_u ab il wd us kp nx ot
  have fa:=fS_a ab il wd us kp nx ot
  have sa:=sf.c.get sf.a0 (by simp)
  have z:=sf.z
  have zm:=sf.zm
  have lu:=Paired.length sf.ua
  have lk:uk.length < sizeLine:=by rw [sizeLine_eq]; omega
  walk_at "rd"
  cases hf:free S n with
  | false =>
   have no:take hs S (.use n mo)=none:=by
    simp only [take,hf]
    cases hs.lookup mo <;> rfl
   walk_at "rd"
   exact q false _ ⟨Tu.refl _,fun z=>(by cases z),fun _=>⟨no,sn0⟩⟩
  | true =>
   obtain ⟨f1,f2⟩:=zai3 hf
   have nu:valV uk (.inr n)=none:=by
    rcases zaf7 sf.ua n with ⟨_,e⟩ | ⟨_,_,e,_⟩
    ·exact e
    ·rw [f2] at e; cases e
   rcases zaf7 sf.aa mo with ⟨e1,e2⟩ | ⟨wi,u,e1,e2,hl⟩
   ·have no:take hs S (.use n mo)=none:=by simp [take,e1]
    walk_at "rd"
    exact q false _ ⟨Tu.refl _,fun z=>(by cases z),fun _=>⟨no,sn0⟩⟩
   ·have yes:take hs S (.use n mo)=some { S with us:=S.us++[(n,wi)] }:=by simp [take,e1,hf]
    obtain ⟨dx',ab',il',wd',us',kp',nx',ot',o1,o2,o3⟩:=(hl.ch sf.c).ex
    have fi:=fS_i ab' il' wd' us' kp' nx' ot'
    walk_at "rd"
    refine zaeo [] (fun i ys σ H'=>H'=H∧ys=[]∧∃ u,σ=[u,some (.ref x)]) (by rw [sizeLine_eq]; show 0 < 16777216; decide) ⟨rfl,rfl,_,rfl⟩ ?_ ?_ ?_
    ·rintro i ys σ H' hi ⟨rfl,rfl,_⟩
     exact ⟨by simp,SqT.of rb⟩
    ·rintro i ys σ H' z hz
     simp at hz
    rintro ys2 σ H' ⟨rfl,rfl,_⟩
    intro D1 hD1
    have o2':upd H' D1 (.lst []) il'=some (.lst []):=zacy hD1 o2
    have sc:ScaL []:=⟨by simp⟩
    have g1:upd H' D1 (.lst []) D1=some (.lst []):=zaag
    walk_at "rd"
    refine zae7 [] (fun i ys σ H2=>H2=upd H' D1 (.lst [])∧ys=[]∧∃ u v,σ=[u,v]) (by rw [sizeLine_eq]; show 0 < 16777216; decide) ⟨rfl,rfl,_,_,rfl⟩ ?_ ?_ ?_
    ·rintro i ys σ H2 hi ⟨rfl,rfl,_⟩
     exact ⟨by simp,SqL.of o2'⟩
    ·rintro i ys σ H2 z hz
     simp at hz
    rintro ys3 σ H2 ⟨rfl,rfl,_⟩
    intro D2 hD2
    have g2:upd (upd H' D1 (.lst [])) D2 (.lst []) D2=some (.lst []):=zaag
    have c2:Ch [] H' (upd (upd H' D1 (.lst [])) D2 (.lst [])):=(Ch.new hD1 _).trans (Ch.new hD2 _)
    have g1:=zacy hD2 g1 (u:=.lst [])
    have sf2:=sf.ch c2
    obtain ⟨H3,e3⟩:∃ H3,upd (upd H' D1 (.lst [])) D2 (.lst [])=H3:=⟨_,rfl⟩
    rw [e3] at g2 c2 g1 sf2 ⊢
    clear e3 hD2 hD1 o2'
    walk_at "rd"
    rw [zaem _ nu]
    exact q true _ ⟨(Tu.same c2).trans (zadc sf2.u),fun _=>⟨_,yes,dx,ab,il,wd,us,kp,nx,ot,_,_,ak,(sf2.up (Nat.le_succ m) m1).setU n wi u hl (by omega)⟩,fun z=>(by cases z)⟩
 | inn n w=>cases ew
 | keep n w f=>cases ew
 | lt n e=>cases ew
 | nxt n e=>cases ew
 | out n e=>cases ew
theorem gl3m0:AG (defScope (inClass (top 3) 0)) ["FloorError"]:=⟨by decide +kernel⟩
theorem av3m0:AF (defScope (inClass (top 3) 0)) ["self", "line"]:=⟨by decide +kernel⟩
theorem scNo:FnScope ["self", "line"] ["self", "line"] (defScope (inClass (top 3) 0)):=⟨rfl,rfl,rfl,by decide +kernel,rfl,by decide +kernel,by decide +kernel⟩
theorem zass {CT CF:Addr}{fi:Addr} (F:Fun K "__init__" "NoSense.__init__" (inClass (top 3) 0) f fd) (xi:XI K CT fi) (nL:NoAttr K CT "line") (m_FloorError:mg "FloorError" = some (.ref CF)) (ci_FloorError:ClsIni K CF):FnOk P w K mg base CX0 (k + 1) f fd ["self", "line"] (spXI CT "line"):=by
 have nd:=scNo.nd
 refine F.ok scNo (fun vs H Q E h=>by obtain ⟨ea,v,rfl,_⟩:=h; rfl) (fun cdv A outer s H vs Q E hr h=>?_)
 obtain ⟨ea,v,rfl,he,q⟩:=h
 refine ⟨_,(Pr.h (zaad (zack (zalc m_FloorError ci_FloorError (gl3m0.g 0 rfl) (zaaa (qv av3m0 0 rfl) (zaaa zaaw zaac zaah) zaae))) (zaaf (zana rfl (qv av3m0 0 rfl) (qv av3m0 1 rfl))))),?_⟩
 (try dsimp only [cxOf])
 have xb:=xi.xb
 walk_at "rd"
 rename_i d n1 n2
 exact q d n1 n2
theorem av12m0:AF (defScope (inClass (top 12) 0)) ["self", "above"]:=⟨by decide +kernel⟩
theorem freeU {H:Hp}{x p:Addr}{o:HO} (h:upd H x o p=none):p≠x∧H p=none:=by
 have n:p≠x:=fun z=>by rw [z,zaag] at h; cases h
 exact ⟨n,by rw [zaak n] at h; exact h⟩
def S0:S9:=⟨[],[],[],[],[],[]⟩
def spSn (CS:Addr):Sp:=fun vs H Q _=>∃ (x dx ab:Addr),vs=[.ref x,.ref ab]∧H x=some (.ins CS dx [])∧∀ il wd us kp nx ot H',Ch [x] H H'→H' x=some (.ins CS dx (fldsS ab il wd us kp nx ot))→(H il=none∧H wd=none∧H us=none∧H kp=none∧H nx=none∧H ot=none) →
 H' il=some (.lst [])→H' wd=some (.dK [])→H' us=some (.dK [])→H' kp=some (.dK [])→H' nx=some (.dK [])→H' ot=some (.dK [])→(wd≠us∧wd≠kp∧wd≠nx∧wd≠ot∧us≠kp∧us≠nx∧us≠ot∧kp≠nx∧kp≠ot∧nx≠ot)→Q .non H'
theorem scSn:FnScope ["self", "above"] ["self", "above"] (defScope (inClass (top 12) 0)):=⟨rfl,rfl,rfl,by decide +kernel,rfl,by decide +kernel,by decide +kernel⟩
theorem zast {CS:Addr} (F:Fun K "__init__" "Sense.__init__" (inClass (top 12) 0) f fd) (cl:Cls K CS) (n1:NoAttr K CS "above") (n2:NoAttr K CS "ins") (n3:NoAttr K CS "wides") (n4:NoAttr K CS "uses") (n5:NoAttr K CS "keepers") (n6:NoAttr K CS "nexts") (n7:NoAttr K CS "outs"):FnOk P w K mg base CX0 (k + 1) f fd ["self", "above"] (spSn CS):=by
 have nd:=scSn.nd
 refine F.ok scSn (fun vs H Q E h=>by obtain ⟨x,dx,ab,rfl,_⟩:=h; rfl) (fun cdv A outer s H vs Q E hr h=>?_)
 obtain ⟨x,dx,ab,rfl,hx,q⟩:=h
 refine ⟨_,(Pr.h (zaad (zab4 (qv av12m0 0 rfl) (qv av12m0 1 rfl) rfl) (zaad (zab4 (qv av12m0 0 rfl) (zabi zaac) rfl) (zaad (zab4 (qv av12m0 0 rfl) zabs rfl) (zaad (zab4 (qv av12m0 0 rfl) zabs rfl) (zaad (zab4 (qv av12m0 0 rfl) zabs rfl) (zaad (zab4 (qv av12m0 0 rfl) zabs rfl) (zaaf (zab4 (qv av12m0 0 rfl) zabs rfl))))))))),?_⟩
 (try dsimp only [cxOf])
 walk_at "rd"
 rename_i il hil wd hwd us hus kp hkp nx hnx ot hot
 obtain ⟨n0_il_x,hil_0⟩:=freeU hil
 have f_il:H il=none:=hil_0
 obtain ⟨n0_wd_x,hwd_0⟩:=freeU hwd
 obtain ⟨n1_wd_il,hwd_1⟩:=freeU hwd_0
 obtain ⟨n2_wd_x,hwd_2⟩:=freeU hwd_1
 have f_wd:H wd=none:=hwd_2
 obtain ⟨n0_us_x,hus_0⟩:=freeU hus
 obtain ⟨n1_us_wd,hus_1⟩:=freeU hus_0
 obtain ⟨n2_us_x,hus_2⟩:=freeU hus_1
 obtain ⟨n3_us_il,hus_3⟩:=freeU hus_2
 obtain ⟨n4_us_x,hus_4⟩:=freeU hus_3
 have f_us:H us=none:=hus_4
 obtain ⟨n0_kp_x,hkp_0⟩:=freeU hkp
 obtain ⟨n1_kp_us,hkp_1⟩:=freeU hkp_0
 obtain ⟨n2_kp_x,hkp_2⟩:=freeU hkp_1
 obtain ⟨n3_kp_wd,hkp_3⟩:=freeU hkp_2
 obtain ⟨n4_kp_x,hkp_4⟩:=freeU hkp_3
 obtain ⟨n5_kp_il,hkp_5⟩:=freeU hkp_4
 obtain ⟨n6_kp_x,hkp_6⟩:=freeU hkp_5
 have f_kp:H kp=none:=hkp_6
 obtain ⟨n0_nx_x,hnx_0⟩:=freeU hnx
 obtain ⟨n1_nx_kp,hnx_1⟩:=freeU hnx_0
 obtain ⟨n2_nx_x,hnx_2⟩:=freeU hnx_1
 obtain ⟨n3_nx_us,hnx_3⟩:=freeU hnx_2
 obtain ⟨n4_nx_x,hnx_4⟩:=freeU hnx_3
 obtain ⟨n5_nx_wd,hnx_5⟩:=freeU hnx_4
 obtain ⟨n6_nx_x,hnx_6⟩:=freeU hnx_5
 obtain ⟨n7_nx_il,hnx_7⟩:=freeU hnx_6
 obtain ⟨n8_nx_x,hnx_8⟩:=freeU hnx_7
 have f_nx:H nx=none:=hnx_8
 obtain ⟨n0_ot_x,hot_0⟩:=freeU hot
 obtain ⟨n1_ot_nx,hot_1⟩:=freeU hot_0
 obtain ⟨n2_ot_x,hot_2⟩:=freeU hot_1
 obtain ⟨n3_ot_kp,hot_3⟩:=freeU hot_2
 obtain ⟨n4_ot_x,hot_4⟩:=freeU hot_3
 obtain ⟨n5_ot_us,hot_5⟩:=freeU hot_4
 obtain ⟨n6_ot_x,hot_6⟩:=freeU hot_5
 obtain ⟨n7_ot_wd,hot_7⟩:=freeU hot_6
 obtain ⟨n8_ot_x,hot_8⟩:=freeU hot_7
 obtain ⟨n9_ot_il,hot_9⟩:=freeU hot_8
 obtain ⟨n10_ot_x,hot_10⟩:=freeU hot_9
 have f_ot:H ot=none:=hot_10
 have nds:wd≠us∧wd≠kp∧wd≠nx∧wd≠ot∧us≠kp∧us≠nx∧us≠ot∧kp≠nx∧kp≠ot∧nx≠ot:=⟨n1_us_wd.symm,n3_kp_wd.symm,n5_nx_wd.symm,n7_ot_wd.symm,n1_kp_us.symm,n3_nx_us.symm,n5_ot_us.symm,n1_nx_kp.symm,n3_ot_kp.symm,n1_ot_nx.symm⟩
 clear hil hwd hus hkp hnx hot
 refine q il wd us kp nx ot _ ?_ ?_ ⟨f_il,f_wd,f_us,f_kp,f_nx,f_ot⟩ ?_ ?_ ?_ ?_ ?_ ?_ nds
 ·intro b o hb hn
  have hbx:b≠x:=fun z=>hn (by simp [z])
  have e_il:b≠il:=fun z=>by rw [z,f_il] at hb; cases hb
  have e_wd:b≠wd:=fun z=>by rw [z,f_wd] at hb; cases hb
  have e_us:b≠us:=fun z=>by rw [z,f_us] at hb; cases hb
  have e_kp:b≠kp:=fun z=>by rw [z,f_kp] at hb; cases hb
  have e_nx:b≠nx:=fun z=>by rw [z,f_nx] at hb; cases hb
  have e_ot:b≠ot:=fun z=>by rw [z,f_ot] at hb; cases hb
  simp only [zaak hbx,zaak e_il,zaak e_wd,zaak e_us,zaak e_kp,zaak e_nx,zaak e_ot]
  exact hb
 ·rw [zaag]; rfl
 ·simp only [zaak n0_il_x,zaak (Ne.symm n1_wd_il),zaak (Ne.symm n3_us_il),zaak (Ne.symm n5_kp_il),zaak (Ne.symm n7_nx_il),zaak (Ne.symm n9_ot_il),zaag]
 ·simp only [zaak n0_wd_x,zaak (Ne.symm n1_us_wd),zaak (Ne.symm n3_kp_wd),zaak (Ne.symm n5_nx_wd),zaak (Ne.symm n7_ot_wd),zaag]
 ·simp only [zaak n0_us_x,zaak (Ne.symm n1_kp_us),zaak (Ne.symm n3_nx_us),zaak (Ne.symm n5_ot_us),zaag]
 ·simp only [zaak n0_kp_x,zaak (Ne.symm n1_nx_kp),zaak (Ne.symm n3_ot_kp),zaag]
 ·simp only [zaak n0_nx_x,zaak (Ne.symm n1_ot_nx),zaag]
 ·simp only [zaak n0_ot_x,zaag]
end
end

section
def SqX (k:SK) (H:Hp) (a:Addr) (xs:List V):Prop:=match k with
 | .list=>H a=some (.lst xs)
 | .tuple=>H a=some (.tup xs)
theorem SqX.ch {kd:SK}{H H':Hp}{a:Addr}{xs:List V} (h:SqX kd H a xs) (c:Ch [] H H'):SqX kd H' a xs:=by
 cases kd with
 | list=>exact c.get h (by simp)
 | tuple=>exact c.get h (by simp)
theorem SqX.or {kd:SK}{K:PySem.W.Frag}{H:Hp}{a:Addr}{xs:List V} (h:SqX kd H a xs):SqL K H a xs∨SqT K H a xs:=by
 cases kd with
 | list=>exact .inl (SqL.of h)
 | tuple=>exact .inr (SqT.of h)
inductive Dt
 | sc (k:Key)
 | seq (l:List Dt)
def DAt (tp:Bool):Nat→Hp→Dt→V→Prop
 | 0,_,_,_=>False
 | n + 1,H,d,v=>(∃ k:Key,d=.sc k∧v=kV k)∨∃ (ds:List Dt) (p:Addr) (xs:List V) (kd:SK),d=.seq ds∧v=.ref p∧(tp=true→kd=.tuple)∧SqX kd H p xs∧Paired (DAt tp n H) ds xs∧xs.length≤300
theorem DAt.ch {tp:Bool}{H H':Hp} (c:Ch [] H H'):∀ {n:Nat}{d:Dt}{v:V},DAt tp n H d v→DAt tp n H' d v
 | 0,_,_,h=>h
 | n + 1,d,v,h=>by
  rcases h with h | ⟨ds,p,xs,kd,e1,e2,t,s,pr,l⟩
  ·exact .inl h
  ·exact .inr ⟨ds,p,xs,kd,e1,e2,t,s.ch c,zaax (fun _ _=>DAt.ch c) pr,l⟩
section
variable {P:Program}{w:World}{K:PySem.W.Frag}{mg:Str→Option Value}{base:Heap}{f:Addr}{fd:FuncData}{k:Nat}
theorem zacd:bootBuiltins "tuple" = some (.type "tuple"):=by decide +kernel
theorem zace:("tuple" : Str) ≠ "__name__" := by decide +kernel
theorem zacf:Nd "tuple" := by decide +kernel
theorem zaco:bootBuiltins "list" = some (.type "list"):=by decide +kernel
theorem zacp:("list" : Str) ≠ "__name__" := by decide +kernel
theorem zacq:Nd "list" := by decide +kernel
theorem zaaq:bootBuiltins "isinstance" = some (.builtin "isinstance"):=by decide +kernel
theorem zaar:("isinstance" : Str) ≠ "__name__" := by decide +kernel
theorem zaas:Nd "isinstance" := by decide +kernel
theorem zafe:Nd "frozen" := by decide +kernel
theorem gl45:AG (defScope (top 45)) ["tuple", "list", "isinstance"]:=⟨by decide +kernel⟩
theorem av45:AF (defScope (top 45)) ["thing"]:=⟨by decide +kernel⟩
def zagp:Scope:={ kind:=PySem.ScopeKind.function,names:=[ (PySem.Str.ofString ".0",PySem.NameKind.local),(PySem.Str.ofString "inner",PySem.NameKind.local),(PySem.Str.ofString "frozen",PySem.NameKind.globalImplicit)],isGenerator:=false,isCoroutine:=false,more:=[]:PySem.Scope }
theorem zagq:CompOk zagp (defScope (top 45)) (["inner"]:List Str) (["thing"]:List Str) [] (["inner"]:List Str):=compOk rfl (by decide +kernel) (by decide +kernel) (by decide +kernel) (by decide +kernel) rfl (by decide +kernel)
theorem zagr:AK (relab zagp (defScope (top 45))) ["inner"]:=⟨by decide +kernel⟩
theorem zalm:AG (relab zagp (defScope (top 45))) ["frozen"]:=⟨by decide +kernel⟩
theorem zaln:AV (relab zagp (defScope (top 45))) ["inner"]:=⟨by decide +kernel⟩
theorem zadt {α β:Type}{R:α→β→Prop}:∀ {xs:List α}{ys:List β},Paired R xs ys→∀ {i:Nat}{y:β},ys[i]?=some y→∃ x,xs[i]?=some x∧R x y
 | _,_,.nil,i,y,h=>by simp at h
 | a :: xs,b :: ys,.cons e r,0,y,h=>by simp at h; subst h; exact ⟨a,rfl,e⟩
 | a :: xs,b :: ys,.cons e r,i + 1,y,h=>by
  obtain ⟨x,e1,e2⟩:=zadt r (i:=i) (by simpa using h)
  exact ⟨x,by simpa using e1,e2⟩
theorem DAt.kp {tp:Bool}{H H':Hp} (h:∀ p xs kd,SqX kd H p xs→SqX kd H' p xs):∀ {n:Nat}{d:Dt}{v:V},DAt tp n H d v→DAt tp n H' d v
 | 0,_,_,z=>z
 | n + 1,d,v,z=>by
  rcases z with z | ⟨ds,p,xs,kd,e1,e2,t,s,pr,l⟩
  ·exact .inl z
  ·exact .inr ⟨ds,p,xs,kd,e1,e2,t,h _ _ _ s,zaax (fun _ _=>DAt.kp h) pr,l⟩
theorem SqX.ins {H H':Hp}{x C dx:Addr}{fs:List (Str × V)} (c:Ch [x] H H') (hx:H x=some (.ins C dx fs)):∀ p xs kd,SqX kd H p xs→SqX kd H' p xs:=fun p xs kd h=>by
 cases kd with
 | list =>
  have h:H p=some (.lst xs):=h
  exact c.get h (by have:=zab9 h hx (by intro z; cases z); simpa using this)
 | tuple =>
  have h:H p=some (.tup xs):=h
  exact c.get h (by have:=zab9 h hx (by intro z; cases z); simpa using this)
structure FD (n:Nat) (H:Hp) (d:Dt) (v:V):Prop where
 h:DAt false n H d v
def spFz (n:Nat):Sp:=fun vs H Q _=>∃ (v:V) (d:Dt),vs=[v]∧FD n H d v∧∀ v' H',Ch [] H H'→DAt true n H' d v'→Q v' H'
theorem scFz:FnScope ["thing"] ["thing"] (defScope (top 45)):=⟨rfl,rfl,rfl,by decide +kernel,rfl,by decide +kernel,by decide +kernel⟩
theorem zarj (F:Fun K "frozen" "frozen" (top 45) f fd):FnOk P w K mg base CX0 (k + 1) f fd ["thing"] (spFz 0) :=
 F.ok scFz (fun vs H Q E h=>by obtain ⟨x,y,rfl,_⟩:=h; rfl) (fun cdv A outer s H vs Q E hr h=>by obtain ⟨_,_,_,e,_⟩:=h; exact e.h.elim)
theorem zasu (n:Nat) (F:Fun K "frozen" "frozen" (top 45) f fd) (Dfrozen:DefOk P w K mg base CX0 k "frozen" ["thing"] (spFz n)) (z_isinstance:mg "isinstance" = none) (z_list:mg "list" = none) (z_tuple:mg "tuple" = none):FnOk P w K mg base CX0 (k + 1) f fd ["thing"] (spFz (n + 1)):=by
 have nd:=scFz.nd
 refine F.ok scFz (fun vs H Q E h=>by obtain ⟨x,y,rfl,_⟩:=h; rfl) (fun cdv A outer s H vs Q E hr h=>?_)
 obtain ⟨v,d,rfl,⟨e⟩,q⟩:=h
 rcases e with ⟨kk,rfl,rfl⟩ | ⟨ds,p,xs,kd,rfl,rfl,_,sx,pr,l⟩
 ·refine ⟨_,(Pr.h (zaad (zaa3 (zabe (zaap zae9 (gl45.g 2 rfl) z_isinstance zaaq (zaaa (qv av45 0 rfl) (zaaa (zaay (zaaa (zaa4 (v:=.ty "list") (gl45.g 1 rfl) z_list zaco rfl zacp zacq) (zaaa (zaa4 (v:=.ty "tuple") (gl45.g 0 rfl) z_tuple zacd rfl zace zacf) zaac zaae) zaae)) zaac)) zaar zaas)) (zaaf (zaan (zabf zadw (gl45.g 0 rfl) z_tuple zacd (zaaa (zacc rfl zagq (zac6 (qv av45 0 rfl)) (fun _ _ _ _ _=>(zaa0 (i:=0) zagq.nd rfl (Or.inl (zagr.k 0 rfl)) (Or.inr (zagr.k 0 rfl)))) (fun _ _ _ _ _=>zabw) (fun _ _ _ _ _=>(zaao Dfrozen hr (zalm.g 0 rfl) pass0 (zaaa (qw zaln 0 rfl) zaac zaae) zafe))) zaac zab3) zace zacf))) zaau) (zaaf (zaan (qv av45 0 rfl))))),?_⟩
  (try dsimp only [cxOf])
  cases kk with
  | inl b =>
   dsimp only [kV]
   walk_at "rd"
   exact q _ _ (Ch.new (by assumption) _) (.inl ⟨.inl b,rfl,rfl⟩)
  | inr b =>
   dsimp only [kV]
   walk_at "rd"
   exact q _ _ (Ch.new (by assumption) _) (.inl ⟨.inr b,rfl,rfl⟩)
 ·have el:=Paired.length pr
  refine ⟨_,(Pr.h (zaad (zaa3 (zabe (zaap zae9 (gl45.g 2 rfl) z_isinstance zaaq (zaaa (qv av45 0 rfl) (zaaa (zaay (zaaa (zaa4 (v:=.ty "list") (gl45.g 1 rfl) z_list zaco rfl zacp zacq) (zaaa (zaa4 (v:=.ty "tuple") (gl45.g 0 rfl) z_tuple zacd rfl zace zacf) zaac zaae) zaae)) zaac)) zaar zaas)) (zaaf (zaan (zabf zadw (gl45.g 0 rfl) z_tuple zacd (zaaa (zacc rfl zagq (zao6 K rfl kd (qv av45 0 rfl)) (fun _ _ _ _ _=>(zaa0 (i:=0) zagq.nd rfl (Or.inl (zagr.k 0 rfl)) (Or.inr (zagr.k 0 rfl)))) (fun _ _ _ _ _=>zabw) (fun _ _ _ _ _=>(zaao Dfrozen hr (zalm.g 0 rfl) pass0 (zaaa (qw zaln 0 rfl) zaac zaae) zafe))) zaac zab3) zace zacf))) zaau) (zaaf (zaan (qv av45 0 rfl))))),?_⟩
  (try dsimp only [cxOf])
  have sxo:=sx.or (K:=K)
  cases kd with
  | list =>
   have sx:H p=some (.lst xs):=sx
   walk_at "rd"
   rename_i T hT
   have c0:Ch [] H (upd H T (.tup [.ty "list",.ty "tuple"])):=Ch.new hT _
   generalize upd H T (.tup [.ty "list",.ty "tuple"])=H1 at c0 ⊢
   refine zae7 xs (fun i ys σ H'=>Ch [] H1 H'∧Paired (DAt true n H') (ds.take i) ys∧∃ u,σ=[u]) (by rw [sizeLine_eq]; omega) ⟨Ch.refl _ _,.nil,_,rfl⟩ ?_ ?_ ?_
   ·rintro i ys σ H' hi ⟨c,w,_⟩
    refine ⟨?_,SqL.of ((c0.trans c).get sx (by simp))⟩
    have:=Paired.length w
    rw [List.length_take] at this
    omega
   ·rintro i ys σ H' x hx ⟨c,w,u,rfl⟩
    obtain ⟨d,ed,dx⟩:=zadt pr hx
    have fd:FD n H' d x:=⟨DAt.ch (c0.trans c) dx⟩
    walk_at "rd"
    rename_i v' H2 c2 dv
    refine ⟨?_,_,rfl⟩
    rw [List.take_add_one,ed]
    exact zabp (R:=DAt true n H2) dv (zaax (fun _ _=>DAt.ch c2) w)
   ·rintro ys σ H2 ⟨c,w,_⟩
    rw [← el,List.take_length] at w
    have lw:=Paired.length w
    intro D hD
    walk_at "rd"
    rename_i T2 hT2
    have cT:Ch [] H2 (upd (upd H2 D (.lst ys)) T2 (.tup ys)):=(Ch.new hD _).trans (Ch.new hT2 _)
    exact q _ _ ((c0.trans c).trans cT) (.inr ⟨ds,T2,ys,.tuple,rfl,rfl,fun _=>rfl,zaag,zaax (fun _ _=>DAt.ch cT) w,by omega⟩)
  | tuple =>
   have sx:H p=some (.tup xs):=sx
   walk_at "rd"
   rename_i T hT
   have c0:Ch [] H (upd H T (.tup [.ty "list",.ty "tuple"])):=Ch.new hT _
   generalize upd H T (.tup [.ty "list",.ty "tuple"])=H1 at c0 ⊢
   refine zaeo xs (fun i ys σ H'=>Ch [] H1 H'∧Paired (DAt true n H') (ds.take i) ys∧∃ u,σ=[u]) (by rw [sizeLine_eq]; omega) ⟨Ch.refl _ _,.nil,_,rfl⟩ ?_ ?_ ?_
   ·rintro i ys σ H' hi ⟨c,w,_⟩
    refine ⟨?_,SqT.of ((c0.trans c).get sx (by simp))⟩
    have:=Paired.length w
    rw [List.length_take] at this
    omega
   ·rintro i ys σ H' x hx ⟨c,w,u,rfl⟩
    obtain ⟨d,ed,dx⟩:=zadt pr hx
    have fd:FD n H' d x:=⟨DAt.ch (c0.trans c) dx⟩
    walk_at "rd"
    rename_i v' H2 c2 dv
    refine ⟨?_,_,rfl⟩
    rw [List.take_add_one,ed]
    exact zabp (R:=DAt true n H2) dv (zaax (fun _ _=>DAt.ch c2) w)
   ·rintro ys σ H2 ⟨c,w,_⟩
    rw [← el,List.take_length] at w
    have lw:=Paired.length w
    intro D hD
    walk_at "rd"
    rename_i T2 hT2
    have cT:Ch [] H2 (upd (upd H2 D (.lst ys)) T2 (.tup ys)):=(Ch.new hD _).trans (Ch.new hT2 _)
    exact q _ _ ((c0.trans c).trans cT) (.inr ⟨ds,T2,ys,.tuple,rfl,rfl,fun _=>rfl,zaag,zaax (fun _ _=>DAt.ch cT) w,by omega⟩)
theorem av46m0:AF (defScope (inClass (top 46) 0)) ["self", "name", "rows"]:=⟨by decide +kernel⟩
theorem gl46m0:AG (defScope (inClass (top 46) 0)) ["frozen"]:=⟨by decide +kernel⟩
def fldsM (nm:Str) (rp:V):List (Str × V):=[("name",.str nm),("rows",rp)]
def spMo (C:Addr) (n:Nat):Sp:=fun vs H Q _=>∃ (x dx:Addr) (nm:Str) (v:V) (d:Dt),vs=[.ref x,.str nm,v]∧H x=some (.ins C dx [])∧FD n H d v∧∀ rp H',Ch [x] H H'→H' x=some (.ins C dx (fldsM nm rp))→DAt true n H' d rp→Q .non H'
theorem scMo:FnScope ["self", "name", "rows"] ["self", "name", "rows"] (defScope (inClass (top 46) 0)):=⟨rfl,rfl,rfl,by decide +kernel,rfl,by decide +kernel,by decide +kernel⟩
theorem zasv {C:Addr}{n:Nat} (F:Fun K "__init__" "Module.__init__" (inClass (top 46) 0) f fd) (cl:Cls K C) (nN:NoAttr K C "name") (nR:NoAttr K C "rows") (Dfrozen:DefOk P w K mg base CX0 k "frozen" ["thing"] (spFz n)):FnOk P w K mg base CX0 (k + 1) f fd ["self", "name", "rows"] (spMo C n):=by
 have nd:=scMo.nd
 refine F.ok scMo (fun vs H Q E h=>by obtain ⟨x,dx,nm,v,d,rfl,_⟩:=h; rfl) (fun cdv A outer s H vs Q E hr h=>?_)
 obtain ⟨x,dx,nm,v,d,rfl,hx,fd,q⟩:=h
 refine ⟨_,(Pr.h (zaad (zab4 (qv av46m0 0 rfl) (qv av46m0 1 rfl) rfl) (zaaf (zab4 (qv av46m0 0 rfl) (zaao Dfrozen hr (gl46m0.g 0 rfl) pass0 (zaaa (qv av46m0 2 rfl) zaac zaae) zafe) rfl)))),?_⟩
 (try dsimp only [cxOf])
 obtain ⟨H1,e1⟩:∃ H1,upd H x (.ins C dx (putF "name" (.str nm) []))=H1:=⟨_,rfl⟩
 have c1:Ch [x] H H1:=by rw [← e1]; exact Ch.put
 have x1:H1 x=some (.ins C dx (putF "name" (.str nm) [])):=by rw [← e1]; exact zaag
 have fd1:FD n H1 d v:=⟨DAt.kp (SqX.ins c1 hx) fd.h⟩
 walk_at "rd"
 rw [e1]
 refine ⟨fd1,fun v' H2 c2 dv=>?_⟩
 have x2:=c2.get x1 (by simp)
 walk_at "rd"
 exact q v' _ ((c1.trans c2.wk).trans Ch.put) zaag (DAt.kp (SqX.ins Ch.put x2) dv)
end
end

section
local macro_rules | `(tactic| walk_at "user")=>`(tactic| first
 | (apply zael; walk_at "get")
 | (apply zabj; (focus walk_at "get"); (focus with_reducible assumption))
 | (apply zabk; (focus walk_at "get"); (focus with_reducible assumption))
 | (apply dputS; (focus walk_at "get"); (focus with_reducible assumption)))
def run (hs:List (Str × Int)):List Rw9→S9→Nat→Nat ⊕ S9
 | [],S,_=>.inr S
 | r :: rs,S,i=>match take hs S r with
  | none=>.inl i
  | some S'=>run hs rs S' (i + 1)
def fine (S:S9):Prop:=S.nx.length=S.kp.length∧S.ot≠[]
structure MoAt (CM:Addr) (H:Hp) (mp:Addr) (nm:Str) (rows:List Rw9):Prop where
 ex:∃ (dm rp:Addr) (ps:List Addr),H mp=some (.ins CM dm (fldsM nm (.ref rp)))∧H rp=some (.tup (ps.map V.ref))∧Paired (fun r p=>RwAt H p r) rows ps∧rows.length≤60
theorem MoAt.ch {CM:Addr}{H H':Hp}{mp:Addr}{nm:Str}{rows:List Rw9} (h:MoAt CM H mp nm rows) (c:Ch [] H H'):MoAt CM H' mp nm rows:=by
 obtain ⟨dm,rp,ps,a,b,d,e⟩:=h.ex
 exact ⟨dm,rp,ps,c.get a (by simp),c.get b (by simp),zaax (fun _ _=>RwAt.tu (Tu.same c)) d,e⟩
structure Box (Pd:Prop):Prop where
 h:Pd
theorem Ch.forget {W:List Addr}{H H':Hp} (c:Ch W H H') (h:∀ w∈W,H w=none):Ch [] H H':=fun a o e _=>c a o e fun z=>by rw [h a z] at e; cases e
theorem Ch.made {H H':Hp}{x dx C:Addr} (hx:H x=none) (hd:H dx=none) (n:dx≠x) (c:Ch [x] (upd (upd H dx (.own x)) x (.ins C dx [])) H'):Ch [] H H' :=
 Ch.forget ((((Ch.new hd _).trans (Ch.new (by rw [zaak n.symm]; exact hx) _)).wk).trans c) (fun w hw=>by rw [List.mem_singleton.mp hw]; exact hx)
structure AbAt (CS:Addr) (H:Hp) (ab:Addr) (hs:List (Str × Int)):Prop where
 ex:∃ ak,H ab=some (.dK ak)∧UsAt CS H hs ak
theorem fM_n (nm:Str) (v:V):List.lookup (Str.ofString "name") (fldsM nm v)=some (.str nm):=rfl
theorem fM_r (nm:Str) (v:V):List.lookup (Str.ofString "rows") (fldsM nm v)=some v:=rfl
section
variable {P:Program}{w:World}{K:PySem.W.Frag}{mg:Str→Option Value}{base:Heap}{f:Addr}{fd:FuncData}{k:Nat}
theorem zanc:Nd "Sense" := by decide +kernel
theorem zalo:Nd "TAKERS" := by decide +kernel
theorem zab6:("len" : Str) ≠ "__name__" := by decide +kernel
theorem zab7:Nd "len" := by decide +kernel
theorem av27:AF (defScope (top 27)) ["module", "above", "line", "sense", "count", "row"]:=⟨by decide +kernel⟩
theorem glx27:AG (defScope (top 27)) ["NoSense", "Sense", "enumerate", "TAKERS", "len"]:=⟨by decide +kernel⟩
structure RunS (hs:List (Str × Int)) (rows:List Rw9):Prop where
 ok:∀ S,run hs rows S0 0=.inr S→fine S
def spSM (CS CM CT:Addr):Sp:=fun vs H Q E=>∃ (mp ab:Addr) (line:Int) (nm:Str) (rows:List Rw9) (hs:List (Str × Int)),vs=[.ref mp,.ref ab,.int line]∧MoAt CM H mp nm rows∧AbAt CS H ab hs∧hs.lookup nm=none∧RunS hs rows ∧
 (∀ S,run hs rows S0 0=.inr S→∀ x H',Ch [] H H'→SnAt rows.length CS H H' x hs S→Q (.ref x) H')∧(∀ i:Nat,run hs rows S0 0=.inl i→∀ d H',Ch [] H H'→H' d=some (.xd [("line",.int (line + 1 + (i:Int)))])→E (.ref CT) (some d) H')
theorem scSM:FnScope ["module", "above", "line", "sense", "count", "row"] ["module", "above", "line"] (defScope (top 27)):=⟨rfl,rfl,rfl,by decide +kernel,rfl,by decide +kernel,by decide +kernel⟩
theorem zasw {CS CM CT tk:Addr}{tkv:List (Key × V)}{spt:Addr→Sp}{At:Addr→Prop} (F:Fun K "sense_of_module" "sense_of_module" (top 27) f fd) (cl:Cls K CM) (nN:NoAttr K CM "name") (nR:NoAttr K CM "rows") (cs:Cls K CS) (nO:NoAttr K CS "outs") (nX:NoAttr K CS "nexts") (nK:NoAttr K CS "keepers")
  (MkSense:MakeOk P w K mg base CX0 k CS "Sense" ["self", "above"] (spSn CS)) (R_NoSense:RaiseOk P w K mg base k "NoSense" CT "line") (T_TAKERS:TabOk P w K mg base CX0 (k + 1) ["sense", "row"] spt At) (m_TAKERS:mg "TAKERS" = some (.ref tk)) (hKD:KD P w K tk tkv) (hT:∀ r:Rw9,∃ f,valV tkv (.inr (rwW r))=some (.ref f)∧At f∧spt f=spT (rwW r) CS)
  (z_enumerate:mg "enumerate" = none) (z_len:mg "len" = none):FnOk P w K mg base (CXE P w) (k + 2) f fd ["module", "above", "line"] (spSM CS CM CT):=by
 have nd:=scSM.nd
 refine F.okE scSM (fun vs H Q E h=>by obtain ⟨mp,ab,line,nm,rows,hs,rfl,_⟩:=h; rfl) (fun cdv A outer s H vs Q E hr h=>?_)
 obtain ⟨mp,ab,line,nm,rows,hs,rfl,mo,⟨ak,ha,aa⟩,hn,⟨fin⟩,q1,q2⟩:=h
 have hrm:=hr
 have hu:=zacx hr
 refine ⟨_,(Pr.h (zaad (zaa3 (zah5 hu (zaa1 (qv av27 0 rfl) rfl) (qv av27 1 rfl)) (zaaf (zadj R_NoSense hrm (glx27.g 0 rfl) (zaaa (qv av27 2 rfl) zaac zaae))) zaau) (zabb (zaaz (i:=3) nd rfl (av27.l 3 rfl) (zadb MkSense hrm (glx27.g 1 rfl) pass0 (zaaa (qv av27 1 rfl) zaac zaae) zanc)) (zaad (zaby powE rfl (zaiw .tuple (glx27.g 2 rfl) z_enumerate (zaaa (zaa1 (qv av27 0 rfl) rfl) zaac zabd)) (zagj rfl (zaa7 (zaa0 (i:=4) nd rfl (av27.l 4 rfl)) (zaa7 (zaa0 (i:=5) nd rfl (av27.l 5 rfl)) zacb))) (zaaf (zaa3 (zaci (zabe (zahi T_TAKERS hr pass0 (zakt (zagi (v:=.ref _) (glx27.g 3 rfl) m_TAKERS rfl zalo) (zaai zaaj (qv av27 5 rfl) zaab (fun _ _=>rfl)) (fun _ _=>rfl)) (zaaa (qv av27 3 rfl) (zaaa (qv av27 5 rfl) zaac zaae) zaae)))) (zaaf (zadj R_NoSense hrm (glx27.g 0 rfl) (zaaa (zaam zabu (zaam zabu (qv av27 2 rfl) zaab) (qv av27 4 rfl)) zaac zaa2))) zaau))) (zaad (zaa3 (zacg (zacl (zaat zaeh (zaap zae3 (glx27.g 4 rfl) z_len PySem.boot_len (zaaa (zaa1 (qv av27 3 rfl) rfl) zaac zabd) zab6 zab7) (zaap zae3 (glx27.g 4 rfl) z_len PySem.boot_len (zaaa (zaa1 (qv av27 3 rfl) rfl) zaac zabd) zab6 zab7) (nomark _)) (zab2 (zaat zab1 (zaap zae3 (glx27.g 4 rfl) z_len PySem.boot_len (zaaa (zaa1 (qv av27 3 rfl) rfl) zaac zabd) zab6 zab7) zaab (nomark _))))) (zaaf (zadj R_NoSense hrm (glx27.g 0 rfl) (zaaa (zaam zabu (zaam zabu (qv av27 2 rfl) zaab) (zaap zaa5 (glx27.g 4 rfl) z_len PySem.boot_len (zaaa (zaa1 (qv av27 0 rfl) rfl) zaac zabd) zab6 zab7)) zaac zaa2))) zaau) (zaaf (zaan (qv av27 3 rfl)))))))),?_⟩
 (try dsimp only [cxOf])
 obtain ⟨dm,rp,ps,hm,hp,pr,rl⟩:=mo.ex
 have fn:=fM_n nm (.ref rp)
 have fr:=fM_r nm (.ref rp)
 have pl:=Paired.length pr
 have en:valV ak (.inr nm)=none:=by
  rcases zaf7 aa nm with ⟨_,e⟩ | ⟨_,_,e,_⟩
  ·exact e
  ·rw [hn] at e; cases e
 walk_at "rd"
 refine zabq (fun σ H'=>Box (∃ x,σ=[some (.ref mp),some (.ref ab),some (.int line),some (.ref x),none,none]∧Ch [] H H'∧SnAt 0 CS H H' x hs S0)) ?_ ?_
 ·walk_at "rd"
  rename_i x dx hx hdx nx il wd us kp nxx ot H1 c1 g1 fr1 gi gw gu gk gn gt nds
  have cc:=Ch.made hx hdx nx c1
  have fz:∀ {a:Addr},upd (upd H dx (.own x)) x (.ins CS dx []) a=none→H a=none:=fun h=>(freeU (freeU h).2).2
  exact ⟨x,rfl,cc,dx,ab,il,wd,us,kp,nxx,ot,[],[],ak,cc,g1,gi,gw,gu,gk,gn,gt,.nil,ha,aa,⟨fz fr1.1,fz fr1.2.1,fz fr1.2.2.1,fz fr1.2.2.2.1,fz fr1.2.2.2.2.1,fz fr1.2.2.2.2.2⟩,nds,by simp [S0],by simp [S0],by decide,.nil⟩
 rintro σ H1 ⟨x,rfl,c1,sn0⟩
 have hm1:=c1.get hm (by simp)
 have hp1:=c1.get hp (by simp)
 walk_at "rd"
 refine zahf (xs:=ps.map V.ref) (fun i σ H'=>∃ S u v,σ=[some (.ref mp),some (.ref ab),some (.int line),some (.ref x),u,v]∧Ch [] H H'∧SnAt i CS H H' x hs S∧run hs (rows.drop i) S i=run hs rows S0 0) ⟨S0,_,_,rfl,c1,sn0,rfl⟩ ?_ ?_ ?_
 ·rintro i σ H' hi ⟨S,u,v,rfl,c,_⟩
  exact SqT.of (c.get hp (by simp))
 ·rintro i z σ H2 T hz ⟨S,u,v,rfl,c2,sn,er⟩ hT2
  rw [List.getElem?_map] at hz
  obtain ⟨p,hq,rfl⟩:=Option.map_eq_some_iff.mp hz
  have hi:i < rows.length:=by rw [pl]; exact (List.getElem?_eq_some_iff.mp hq).1
  have cT:Ch [] H2 (upd H2 T (.tup [.int (i:Int),.ref p])):=Ch.new hT2 _
  have c3:=c2.trans cT
  have sn3:=sn.ch cT
  have rs:RwS (upd H2 T (.tup [.int (i:Int),.ref p])) p rows[i]:=⟨by
   have:=zabx pr i hi (by omega)
   rw [(List.getElem?_eq_some_iff.mp hq).2] at this
   exact RwAt.tu (Tu.same c3) this⟩
  have gp:∃ xs,(upd H2 T (.tup [.int (i:Int),.ref p])) p=some (.tup (.str (rwW rows[i]) :: xs)):=by
   have:=rs.h
   cases er2:rows[i] <;> rw [er2] at this
   ·exact ⟨_,this⟩
   ·exact ⟨_,this.1⟩
   ·obtain ⟨_,a,_⟩:=this; exact ⟨_,a⟩
   ·obtain ⟨_,a,_⟩:=this; exact ⟨_,a⟩
   ·obtain ⟨_,a,_⟩:=this; exact ⟨_,a⟩
   ·obtain ⟨_,a,_⟩:=this; exact ⟨_,a⟩
  obtain ⟨xs,gp⟩:=gp
  obtain ⟨tf,ev,at_,esp⟩:=hT rows[i]
  rw [List.drop_eq_getElem_cons hi] at er
  generalize hH3:upd H2 T (.tup [.int (i:Int),.ref p])=H3 at c3 sn3 rs gp cT
  have gT:H3 T=some (.tup [.int (i:Int),.ref p]):=by rw [← hH3]; exact zaag
  clear hH3 hT2 cT
  walk_at "rd"
  refine ⟨.inr hKD,ev,?_⟩
  walk_at "rd"
  rw [esp]
  have m1:i < 1000:=by omega
  refine ⟨i,H,x,p,hs,S,rows[i],rfl,sn3,m1,rs,rfl,fun b H4 tr=>?_⟩
  cases b with
  | true =>
   obtain ⟨S',ey,sn4⟩:=tr.y rfl
   rw [run,ey] at er
   have c4:Ch [] H H4:=by obtain ⟨_,_,_,_,_,_,_,_,_,_,_,sf⟩:=sn4.ex; exact sf.c
   walk_at "rd"
  | false =>
   obtain ⟨ey,sn4⟩:=tr.n rfl
   rw [run,ey] at er
   have c4:Ch [] H H4:=by obtain ⟨_,_,_,_,_,_,_,_,_,_,_,sf⟩:=sn4.ex; exact sf.c
   have q2:=q2 i er.symm
   walk_at "rd"
   rename_i d hd
   exact q2 d _ (c4.trans (Ch.new hd _)) zaag
 ·rintro σ H2 ⟨S,u,v,rfl,c2,sn,er⟩
  rw [List.length_map,← pl,List.drop_length] at er
  rw [List.length_map,← pl] at sn
  have er:(.inr S:Nat ⊕ S9)=run hs rows S0 0:=er
  have q1:=q1 S er.symm
  obtain ⟨f1,f2⟩:=fin S er.symm
  have sn0:=sn
  obtain ⟨dx,ab',il,wd,us,kp,nx,ot,ys,uk,ak',sf⟩:=sn.ex
  have so:=sf.o
  have sN:=sf.n
  have sK:=sf.k
  have sT:=sf.t
  have f3:=fS_n ab' il wd us kp nx ot
  have f4:=fS_k ab' il wd us kp nx ot
  have f5:=fS_o ab' il wd us kp nx ot
  have eN:((kB S.nx).length:Int)=((kB S.kp).length:Int):=by simp [kB,f1]
  have eO:¬ (V.int ((kI S.ot).length:Int)=V.int 0):=by
   intro z
   have:(kI S.ot).length=0:=by simpa using z
   exact f2 (by simpa [kI] using this)
  walk_at "rd"
  rw [eN]
  refine ite2 (fun h=>absurd h (by simp)) (fun _=>?_)
  walk_at "rd"
  refine ite2 (fun h=>absurd (of_decide_eq_true h) eO) (fun _=>?_)
  walk_at "rd"
  exact q1 x _ c2 sn0
end
end

section
local macro_rules | `(tactic| walk_at "user")=>`(tactic| first
 | (apply zael; walk_at "get")
 | (apply zabj; (focus walk_at "get"); (focus with_reducible assumption))
 | (apply zabk; (focus walk_at "get"); (focus with_reducible assumption))
 | (apply dputS; (focus walk_at "get"); (focus with_reducible assumption)))
structure FcAt (CS:Addr) (H:Hp) (x:Addr) (S:S9):Prop where
 ex:∃ (dx a il wd us kp nx ot:Addr) (ys:List V),H x=some (.ins CS dx (fldsS a il wd us kp nx ot))∧H il=some (.lst ys)∧YcAt H S.ic ys∧H ot=some (.dK (kI S.ot))∧ys.length≤1000∧S.ot.length≤1000
section
variable {P:Program}{w:World}{K:PySem.W.Frag}{mg:Str→Option Value}{base:Heap}{f:Addr}{fd:FuncData}{k:Nat}
theorem zady:Nd "sense_of_module" := by decide +kernel
theorem zahm:Nd "top_sense" := by decide +kernel
theorem av28:AF (defScope (top 28)) ["modules", "above", "line", "top", "module"]:=⟨by decide +kernel⟩
theorem glx28:AG (defScope (top 28)) ["sense_of_module", "len", "NoSense"]:=⟨by decide +kernel⟩
structure RunY (rows:List Rw9) (S:S9):Prop where
 r:run [] rows S0 0=.inr S
 f:fine S
structure TopQ (CS:Addr) (H:Hp) (S:S9) (Q:VK):Prop where
 y:∀ x H',Ch [] H H'→FcAt CS H' x S→Q (.ref x) H'
def spTS (CS CM:Addr):Sp:=fun vs H Q E=>∃ (ml mp:Addr) (nm:Str) (rows:List Rw9) (S:S9),vs=[.ref ml]∧H ml=some (.lst [.ref mp])∧MoAt CM H mp nm rows∧RunY rows S∧TopQ CS H S Q
theorem scTS:FnScope ["modules", "above", "line", "top", "module"] ["modules"] (defScope (top 28)):=⟨rfl,rfl,rfl,by decide +kernel,rfl,by decide +kernel,by decide +kernel⟩
theorem zark {CS CM CT:Addr} (F:Fun K "top_sense" "top_sense" (top 28) f fd) (cl:Cls K CM) (nN:NoAttr K CM "name") (nR:NoAttr K CM "rows") (Dsense_of_module:DefOk P w K mg base (CXE P w) (k + 1) "sense_of_module" ["module", "above", "line"] (spSM CS CM CT)) (R_NoSense:RaiseOk P w K mg base k "NoSense" CT "line") (z_len:mg "len" = none):FnOk P w K mg base (CXE P w) (k + 2) f fd ["modules"] (spTS CS CM):=by
 have nd:=scTS.nd
 refine F.okE scTS (fun vs H Q E h=>by obtain ⟨ml,mp,nm,rows,S,rfl,_⟩:=h; rfl) (fun cdv A outer s H vs Q E hr h=>?_)
 obtain ⟨ml,mp,nm,rows,S,rfl,hl,mo,⟨er,fi⟩,tq⟩:=h
 have hrm:=hr
 have hu:=zacx hr
 refine ⟨_,(Pr.h (zaad (zaaz (i:=1) nd rfl (av28.l 1 rfl) zabs) (zaad (zaaz (i:=2) nd rfl (av28.l 2 rfl) zaab) (zabb (zaaz (i:=3) nd rfl (av28.l 3 rfl) zad5) (zaad (zaby powE rfl (zac6 (qv av28 0 rfl)) (zaa0 (i:=4) nd rfl (av28.l 4 rfl)) (zabb (zaaz (i:=3) nd rfl (av28.l 3 rfl) (zaao Dsense_of_module hr (glx28.g 0 rfl) passE (zaaa (qv av28 4 rfl) (zaaa (qv av28 1 rfl) (zaaa (qv av28 2 rfl) zaac zaae) zaae) zaae) zady)) (zaad (zabm hu (qv av28 1 rfl) (zaa1 (qv av28 4 rfl) rfl) (qv av28 3 rfl) rfl) (zaaf (zaoz (i:=2) nd rfl (av28.l 2 rfl) (zaam zabu (zaap zaa5 (glx28.g 1 rfl) z_len PySem.boot_len (zaaa (zaa1 (qv av28 4 rfl) rfl) zaac zabd) zab6 zab7) zaab) zaqi))))) (zaad (zaa3 (zaat zag2 (qv av28 3 rfl) zad5 (nomark _)) (zaaf (zadj R_NoSense hrm (glx28.g 2 rfl) (zaaa (zaks zaj6 zaab) zaac zafy))) zaau) (zaaf (zaan (qv av28 3 rfl))))))))),?_⟩
 (try dsimp only [cxOf])
 walk_at "rd"
 rename_i ab hab
 have ca:Ch [] H (upd H ab (.dK [])):=Ch.new hab _
 refine zabq (fun σ H'=>H'=upd H ab (.dK [])∧σ=[some (.ref ml),some (.ref ab),some (.int 0),some .non,none]) ?_ ?_
 ·walk_at "rd"
 rintro σ H' ⟨rfl,rfl⟩
 have hl1:=ca.get hl (by simp)
 walk_at "rd"
 refine zahd (xs:=[V.ref mp]) (fun i σ H'=>Box (∃ (L:Int) (tv:V) (u:Option V),σ=[some (.ref ml),some (.ref ab),some (.int L),some tv,u]∧Ch [] H H'∧(i=0→H' ab=some (.dK []))∧(i=1→∃ x,tv=.ref x∧FcAt CS H' x S))) ⟨0,.non,_,rfl,ca,fun _=>zaag,fun z=>absurd z (by decide)⟩ ?_ ?_ ?_
 ·rintro i σ H' hi ⟨L,tv,u,rfl,c,_⟩
  exact SqL.of (c.get hl (by simp))
 ·rintro i z σ H1 hz ⟨L,tv,u,rfl,c1,i1,_⟩
  have i0:i=0:=by
   cases i with
   | zero=>rfl
   | succ i=>cases hz
  subst i0
  have hz:V.ref mp=z:=by simpa using hz
  subst hz
  have ga:=i1 rfl
  have mo1:=mo.ch c1
  have abq:AbAt CS H1 ab []:=⟨[],ga,.nil⟩
  have hnew:([]:List (Str × Int)).lookup nm=none:=rfl
  refine zabq (fun σ H'=>Box (∃ (x:Addr),σ=[some (.ref ml),some (.ref ab),some (.int L),some (.ref x),some (.ref mp)]∧Ch [] H1 H'∧SnAt rows.length CS H1 H' x [] S)) ?_ ?_
  ·have rsi:RunS [] rows:=⟨fun S' e=>by rw [er] at e; cases e; exact fi⟩
   walk_at "rd"
   refine ⟨fun S' es x H2 c2 sn=>?_,fun j ej d H2 c2 hd=>by rw [er] at ej; cases ej⟩
   rw [er] at es
   cases es
   exact ⟨x,rfl,c2,sn⟩
  rintro σ H2 ⟨x,rfl,c2,sn⟩
  obtain ⟨dm,rp,ps,hm,hp,pr,rl⟩:=(mo1.ch c2).ex
  have fn:=fM_n nm (.ref rp)
  have fr:=fM_r nm (.ref rp)
  have ga2:=c2.get ga (by simp)
  have lz:([]:List (Key × V)).length < sizeLine:=by rw [sizeLine_eq]; decide
  walk_at "rd"
  obtain ⟨dx,ab',il,wd,us,kp,nx,ot,ys,uk,ak',sf⟩:=sn.ex
  have no:ot≠ab:=(zaa8 ga sf.fr.2.2.2.2.2).symm
  have z:=sf.z
  have zm:=sf.zm
  refine ⟨L + (((ps.map V.ref).length:Int) + 2),.ref x,_,rfl,Ch.own hab (c1.trans c2),fun h=>absurd h (by omega),fun _=>?_⟩
  exact ⟨x,rfl,dx,ab',il,wd,us,kp,nx,ot,ys,zabc (zab9 sf.o ga2 (by intro z; cases z)) sf.o,zabc (zab9 sf.i ga2 (by intro z; cases z)) sf.i,sf.yc.tu (zadc ga2),zabc no sf.t,by omega,by omega⟩
 ·rintro σ H1 ⟨L,tv,u,rfl,c1,_,i2⟩
  obtain ⟨x,rfl,fc⟩:=i2 rfl
  walk_at "rd"
  exact tq.y x _ c1 fc
theorem av29:AF (defScope (top 29)) ["modules", "top"]:=⟨by decide +kernel⟩
theorem gl29:AG (defScope (top 29)) ["top_sense", "list"]:=⟨by decide +kernel⟩
def spFac (CM:Addr):Sp:=fun vs H Q _=>∃ (ml mp:Addr) (nm:Str) (rows:List Rw9) (S:S9),vs=[.ref ml]∧H ml=some (.lst [.ref mp])∧MoAt CM H mp nm rows∧RunY rows S∧∀ (T l0 l1:Addr) (ys:List V) H',Ch [] H H'→H' T=some (.tup [.ref l0,.ref l1])→H' l0=some (.lst ys)→YcAt H' S.ic ys→Q (.ref T) H'
theorem scFac:FnScope ["modules", "top"] ["modules"] (defScope (top 29)):=⟨rfl,rfl,rfl,by decide +kernel,rfl,by decide +kernel,by decide +kernel⟩
theorem zarl {CS CM CT:Addr} (F:Fun K "faces" "faces" (top 29) f fd) (cs:Cls K CS) (nI:NoAttr K CS "ins") (nO:NoAttr K CS "outs") (Dtop_sense:DefOk P w K mg base CX0 k "top_sense" ["modules"] (spTS CS CM)) (z_list:mg "list" = none):FnOk P w K mg base CX0 (k + 1) f fd ["modules"] (spFac CM):=by
 have nd:=scFac.nd
 refine F.ok scFac (fun vs H Q E h=>by obtain ⟨ml,mp,nm,rows,S,rfl,_⟩:=h; rfl) (fun cdv A outer s H vs Q E hr h=>?_)
 obtain ⟨ml,mp,nm,rows,S,rfl,hl,mo,ry,fq⟩:=h
 have hu:=zacx hr
 refine ⟨_,(Pr.h (zaad (zaaz (i:=1) nd rfl (av29.l 1 rfl) (zaao Dtop_sense hr (gl29.g 0 rfl) pass0 (zaaa (qv av29 0 rfl) zaac zaae) zahm)) (zaaf (zaan (zaay (zaaa (zabf zaef (gl29.g 1 rfl) z_list zaco (zaaa (zaa1 (qv av29 1 rfl) rfl) zaac zabd) zacp zacq) (zaaa (zabf (zajr rfl rfl) (gl29.g 1 rfl) z_list zaco (zaaa (zafa (zaa1 (qv av29 1 rfl) rfl)) zaac zabt) zacp zacq) zaac zabt) zabt)))))),?_⟩
 (try dsimp only [cxOf])
 walk_at "rd"
 refine ⟨fun x H1 c1 fc=>?_⟩
 obtain ⟨dx,a,il,wd,us,kp,nx,ot,ys,o1,o2,oy,o3,z1,z2⟩:=fc.ex
 have f1:=fS_i a il wd us kp nx ot
 have f2:=fS_o a il wd us kp nx ot
 walk_at "rd"
 rename_i l0 h0
 have o3':=zacy h0 o3 (u:=.lst ys)
 refine ⟨.inr (.inr (.inl ⟨rfl,.inl ⟨_,o3'⟩⟩)),?_⟩
 walk_at "rd"
 rename_i v hv l1 as H2 c2 f2' g2 pr T hT
 have cc:=((Ch.new h0 _).trans (Ch.new hv _)).trans (c2.trans (Ch.new hT (.tup [.ref l0,.ref l1])))
 exact fq T l0 l1 ys _ (c1.trans cc) zaag ((((Ch.new hv _).trans (c2.trans (Ch.new hT _))).get zaag (by simp))) (oy.tu (Tu.same cc))
end
end

section
local macro_rules | `(tactic| walk_at "user")=>`(tactic| first
 | (apply zael; walk_at "get")
 | (apply zabj; (focus walk_at "get"); (focus with_reducible assumption))
 | (apply zabk; (focus walk_at "get"); (focus with_reducible assumption)))
abbrev VW:=Int × Int
def PV (H:Hp) (x:VW) (v:V):Prop:=∃ p,v=.ref p∧H p=some (.tup [.int x.1,.int x.2])
theorem PV.tu {H H':Hp} (k:Tu H H') {x:VW}{v:V} (h:PV H x v):PV H' x v:=let ⟨p,a,b⟩:=h; ⟨p,a,k _ _ b⟩
def nF (xs:List VW):VW:=(1 * 2 ^ (xs.getD 0 (0,0)).2.toNat - 1 - (xs.getD 0 (0,0)).1,(xs.getD 0 (0,0)).2)
def aF (xs:List VW):VW:=(Builtin.bitAnd (xs.getD 0 (0,0)).1 (xs.getD 1 (0,0)).1,(xs.getD 0 (0,0)).2)
def oF (xs:List VW):VW:=(Builtin.bitOr (xs.getD 0 (0,0)).1 (xs.getD 1 (0,0)).1,(xs.getD 0 (0,0)).2)
def xF (xs:List VW):VW:=(Builtin.bitXor (xs.getD 0 (0,0)).1 (xs.getD 1 (0,0)).1,(xs.getD 0 (0,0)).2)
def pF (xs:List VW):VW:=(((xs.getD 0 (0,0)).1 + (xs.getD 1 (0,0)).1) % (1 * 2 ^ (xs.getD 0 (0,0)).2.toNat),(xs.getD 0 (0,0)).2)
def lF (xs:List VW):VW:=(if (xs.getD 0 (0,0)).1 < (xs.getD 1 (0,0)).1 then 1 else 0,1)
def sF (xs:List VW):VW:=(if (xs.getD 0 (0,0)).1=(xs.getD 1 (0,0)).1 then 1 else 0,1)
def kF (xs:List VW):VW:=if (xs.getD 0 (0,0)).1=1 then xs.getD 1 (0,0) else xs.getD 2 (0,0)
def jF (xs:List VW):VW:=((xs.getD 0 (0,0)).1 * 2 ^ (xs.getD 1 (0,0)).2.toNat + (xs.getD 1 (0,0)).1,(xs.getD 0 (0,0)).2 + (xs.getD 1 (0,0)).2)
def VT:List (Str × Nat × (List VW→VW)):=[("not",1,nF),("and",2,aF),("or",2,oF),("xor",2,xF),("plus",2,pF),("less",2,lF),("same",2,sF),("pick",3,kF),("join",2,jF)]
structure VB (x:VW):Prop where
 w:0≤x.2∧x.2≤64
 v:x.1.natAbs < 2 ^ 64
structure VD (n:Nat) (xs:List VW):Prop where
 l:xs.length=n
 b:n≠3→∀ x∈xs,VB x
def spV (n:Nat) (g:List VW→VW):Sp:=fun vs H Q _=>∃ (l:Addr) (xs:List VW) (us:List V),vs=[.ref l]∧H l=some (.lst us)∧Paired (PV H) xs us∧VD n xs∧∀ p H',Ch [] H H'→H' p=some (.tup [.int (g xs).1,.int (g xs).2])→Q (.ref p) H'
theorem vd1 {H:Hp}{xs:List VW}{us:List V} (p:Paired (PV H) xs us) (d:VD 1 xs):∃ a q,xs=[a]∧us=[.ref q]∧H q=some (.tup [.int a.1,.int a.2])∧VB a:=by
 obtain ⟨l,b⟩:=d
 match xs,us,p,l with
 | [a],[u],.cons ⟨q,e,h⟩ .nil,_=>exact ⟨a,q,rfl,by rw [e],h,b (by decide) a (by simp)⟩
theorem vd2 {H:Hp}{xs:List VW}{us:List V} (p:Paired (PV H) xs us) (d:VD 2 xs):∃ a b q r,xs=[a,b]∧us=[.ref q,.ref r]∧H q=some (.tup [.int a.1,.int a.2])∧H r=some (.tup [.int b.1,.int b.2])∧VB a∧VB b:=by
 obtain ⟨l,b⟩:=d
 match xs,us,p,l with
 | [a,c],[u,v],.cons ⟨q,e,h⟩ (.cons ⟨r,e',h'⟩ .nil),_=>exact ⟨a,c,q,r,rfl,by rw [e,e'],h,h',b (by decide) a (by simp),b (by decide) c (by simp)⟩
theorem vd3 {H:Hp}{xs:List VW}{us:List V} (p:Paired (PV H) xs us) (d:VD 3 xs):∃ a b c q r s,xs=[a,b,c]∧us=[.ref q,.ref r,.ref s]∧H q=some (.tup [.int a.1,.int a.2])∧H r=some (.tup [.int b.1,.int b.2])∧H s=some (.tup [.int c.1,.int c.2]):=by
 obtain ⟨l,b⟩:=d
 match xs,us,p,l with
 | [a,c,d],[u,v,w],.cons ⟨q,e,h⟩ (.cons ⟨r,e',h'⟩ (.cons ⟨s,e'',h''⟩ .nil)),_=>exact ⟨a,c,d,q,r,s,rfl,by rw [e,e',e''],h,h',h''⟩
theorem zai4 (n:Nat):(0:Int) < 1 * 2 ^ n:=by rw [Int.one_mul]; exact Int.pow_pos (by decide)
section
variable {P:Program}{w:World}{K:PySem.W.Frag}{mg:Str→Option Value}{base:Heap}{f:Addr}{fd:FuncData}{k:Nat}
theorem av31:AF (defScope (top 31)) ["sides"]:=⟨by decide +kernel⟩
theorem scVn:FnScope ["sides"] ["sides"] (defScope (top 31)):=⟨rfl,rfl,rfl,by decide +kernel,rfl,by decide +kernel,by decide +kernel⟩
theorem zasx (F:Fun K "not_value" "not_value" (top 31) f fd):FnOk P w K mg base CX0 (k + 1) f fd ["sides"] (spV 1 nF):=by
 have nd:=scVn.nd
 refine F.ok scVn (fun vs H Q E h=>by obtain ⟨l,xs,us,rfl,_⟩:=h; rfl) (fun cdv A outer s H vs Q E hr h=>?_)
 obtain ⟨l,xs,us,rfl,hl,ps,vd,q⟩:=h
 obtain ⟨a,p1,rfl,rfl,h1,⟨⟨a0,a1⟩,_⟩⟩:=vd1 ps vd
 refine ⟨_,(Pr.h (zaaf (zaan (zaay (zaaa (zaam zacz (zaam zacz (zaam zafu zaab (zaai zaaj (zaai zaav (qv av31 0 rfl) zaab (fun _ _=>rfl)) zaab (fun _ _=>rfl))) zaab) (zaai zaaj (zaai zaav (qv av31 0 rfl) zaab (fun _ _=>rfl)) zaab (fun _ _=>rfl))) (zaaa (zaai zaaj (zaai zaav (qv av31 0 rfl) zaab (fun _ _=>rfl)) zaab (fun _ _=>rfl)) zaac zaal) zaa2))))),?_⟩
 (try dsimp only [cxOf])
 walk_at "rd"
 rename_i T hT
 exact q T _ (Ch.new hT _) (zaag)
theorem av32:AF (defScope (top 32)) ["sides"]:=⟨by decide +kernel⟩
theorem scVa:FnScope ["sides"] ["sides"] (defScope (top 32)):=⟨rfl,rfl,rfl,by decide +kernel,rfl,by decide +kernel,by decide +kernel⟩
theorem zasy (F:Fun K "and_value" "and_value" (top 32) f fd):FnOk P w K mg base CX0 (k + 1) f fd ["sides"] (spV 2 aF):=by
 have nd:=scVa.nd
 refine F.ok scVa (fun vs H Q E h=>by obtain ⟨l,xs,us,rfl,_⟩:=h; rfl) (fun cdv A outer s H vs Q E hr h=>?_)
 obtain ⟨l,xs,us,rfl,hl,ps,vd,q⟩:=h
 obtain ⟨a,b,p1,p2,rfl,rfl,h1,h2,_,_⟩:=vd2 ps vd
 refine ⟨_,(Pr.h (zaaf (zaan (zaay (zaaa (zaam zanq (zaai zaaj (zaai zaav (qv av32 0 rfl) zaab (fun _ _=>rfl)) zaab (fun _ _=>rfl)) (zaai zaaj (zaai zaav (qv av32 0 rfl) zaab (fun _ _=>rfl)) zaab (fun _ _=>rfl))) (zaaa (zaai zaaj (zaai zaav (qv av32 0 rfl) zaab (fun _ _=>rfl)) zaab (fun _ _=>rfl)) zaac zaal) zaa2))))),?_⟩
 (try dsimp only [cxOf])
 walk_at "rd"
 rename_i T hT
 exact q T _ (Ch.new hT _) (zaag)
theorem av33:AF (defScope (top 33)) ["sides"]:=⟨by decide +kernel⟩
theorem scVo:FnScope ["sides"] ["sides"] (defScope (top 33)):=⟨rfl,rfl,rfl,by decide +kernel,rfl,by decide +kernel,by decide +kernel⟩
theorem zasz (F:Fun K "or_value" "or_value" (top 33) f fd):FnOk P w K mg base CX0 (k + 1) f fd ["sides"] (spV 2 oF):=by
 have nd:=scVo.nd
 refine F.ok scVo (fun vs H Q E h=>by obtain ⟨l,xs,us,rfl,_⟩:=h; rfl) (fun cdv A outer s H vs Q E hr h=>?_)
 obtain ⟨l,xs,us,rfl,hl,ps,vd,q⟩:=h
 obtain ⟨a,b,p1,p2,rfl,rfl,h1,h2,_,_⟩:=vd2 ps vd
 refine ⟨_,(Pr.h (zaaf (zaan (zaay (zaaa (zaam zaql (zaai zaaj (zaai zaav (qv av33 0 rfl) zaab (fun _ _=>rfl)) zaab (fun _ _=>rfl)) (zaai zaaj (zaai zaav (qv av33 0 rfl) zaab (fun _ _=>rfl)) zaab (fun _ _=>rfl))) (zaaa (zaai zaaj (zaai zaav (qv av33 0 rfl) zaab (fun _ _=>rfl)) zaab (fun _ _=>rfl)) zaac zaal) zaa2))))),?_⟩
 (try dsimp only [cxOf])
 walk_at "rd"
 rename_i T hT
 exact q T _ (Ch.new hT _) (zaag)
theorem av34:AF (defScope (top 34)) ["sides"]:=⟨by decide +kernel⟩
theorem scVx:FnScope ["sides"] ["sides"] (defScope (top 34)):=⟨rfl,rfl,rfl,by decide +kernel,rfl,by decide +kernel,by decide +kernel⟩
theorem zas0 (F:Fun K "xor_value" "xor_value" (top 34) f fd):FnOk P w K mg base CX0 (k + 1) f fd ["sides"] (spV 2 xF):=by
 have nd:=scVx.nd
 refine F.ok scVx (fun vs H Q E h=>by obtain ⟨l,xs,us,rfl,_⟩:=h; rfl) (fun cdv A outer s H vs Q E hr h=>?_)
 obtain ⟨l,xs,us,rfl,hl,ps,vd,q⟩:=h
 obtain ⟨a,b,p1,p2,rfl,rfl,h1,h2,_,_⟩:=vd2 ps vd
 refine ⟨_,(Pr.h (zaaf (zaan (zaay (zaaa (zaam zaj5 (zaai zaaj (zaai zaav (qv av34 0 rfl) zaab (fun _ _=>rfl)) zaab (fun _ _=>rfl)) (zaai zaaj (zaai zaav (qv av34 0 rfl) zaab (fun _ _=>rfl)) zaab (fun _ _=>rfl))) (zaaa (zaai zaaj (zaai zaav (qv av34 0 rfl) zaab (fun _ _=>rfl)) zaab (fun _ _=>rfl)) zaac zaal) zaa2))))),?_⟩
 (try dsimp only [cxOf])
 walk_at "rd"
 rename_i T hT
 exact q T _ (Ch.new hT _) (zaag)
theorem av35:AF (defScope (top 35)) ["sides"]:=⟨by decide +kernel⟩
theorem scVp:FnScope ["sides"] ["sides"] (defScope (top 35)):=⟨rfl,rfl,rfl,by decide +kernel,rfl,by decide +kernel,by decide +kernel⟩
theorem zas1 (F:Fun K "plus_value" "plus_value" (top 35) f fd):FnOk P w K mg base CX0 (k + 1) f fd ["sides"] (spV 2 pF):=by
 have nd:=scVp.nd
 refine F.ok scVp (fun vs H Q E h=>by obtain ⟨l,xs,us,rfl,_⟩:=h; rfl) (fun cdv A outer s H vs Q E hr h=>?_)
 obtain ⟨l,xs,us,rfl,hl,ps,vd,q⟩:=h
 obtain ⟨a,b,p1,p2,rfl,rfl,h1,h2,⟨⟨a0,a1⟩,_⟩,_⟩:=vd2 ps vd
 refine ⟨_,(Pr.h (zaaf (zaan (zaay (zaaa (zaam zabn (zaam zabu (zaai zaaj (zaai zaav (qv av35 0 rfl) zaab (fun _ _=>rfl)) zaab (fun _ _=>rfl)) (zaai zaaj (zaai zaav (qv av35 0 rfl) zaab (fun _ _=>rfl)) zaab (fun _ _=>rfl))) (zaam zafu zaab (zaai zaaj (zaai zaav (qv av35 0 rfl) zaab (fun _ _=>rfl)) zaab (fun _ _=>rfl)))) (zaaa (zaai zaaj (zaai zaav (qv av35 0 rfl) zaab (fun _ _=>rfl)) zaab (fun _ _=>rfl)) zaac zaal) zaa2))))),?_⟩
 (try dsimp only [cxOf])
 have pp:=zai4 a.2.toNat
 walk_at "rd"
 rename_i T hT
 exact q T _ (Ch.new hT _) (zaag)
theorem av36:AF (defScope (top 36)) ["sides"]:=⟨by decide +kernel⟩
theorem scVl:FnScope ["sides"] ["sides"] (defScope (top 36)):=⟨rfl,rfl,rfl,by decide +kernel,rfl,by decide +kernel,by decide +kernel⟩
theorem zas2 (F:Fun K "less_value" "less_value" (top 36) f fd):FnOk P w K mg base CX0 (k + 1) f fd ["sides"] (spV 2 lF):=by
 have nd:=scVl.nd
 refine F.ok scVl (fun vs H Q E h=>by obtain ⟨l,xs,us,rfl,_⟩:=h; rfl) (fun cdv A outer s H vs Q E hr h=>?_)
 obtain ⟨l,xs,us,rfl,hl,ps,vd,q⟩:=h
 obtain ⟨a,b,p1,p2,rfl,rfl,h1,h2,_,_⟩:=vd2 ps vd
 refine ⟨_,(Pr.h (zaaf (zaan (zaay (zaaa (zaca (zaat zagd (zaai zaaj (zaai zaav (qv av36 0 rfl) zaab (fun _ _=>rfl)) zaab (fun _ _=>rfl)) (zaai zaaj (zaai zaav (qv av36 0 rfl) zaab (fun _ _=>rfl)) zaab (fun _ _=>rfl)) (nomark _)) zaab zaab) (zaaa zaab zaac zaah) zaen))))),?_⟩
 (try dsimp only [cxOf])
 walk_at "rd"
 refine ite2 (fun hc=>?_) (fun hc=>?_)
 ·have hc:a.1 < b.1:=by simpa using hc
  walk_at "rd"
  rename_i T hT
  exact q T _ (Ch.new hT _) (by rw [zaag]; show _=some (HO.tup [.int (if a.1 < b.1 then 1 else 0),.int 1]); rw [if_pos hc])
 ·have hc:¬ a.1 < b.1:=by simpa using hc
  walk_at "rd"
  rename_i T hT
  exact q T _ (Ch.new hT _) (by rw [zaag]; show _=some (HO.tup [.int (if a.1 < b.1 then 1 else 0),.int 1]); rw [if_neg hc])
theorem av37:AF (defScope (top 37)) ["sides"]:=⟨by decide +kernel⟩
theorem scVs:FnScope ["sides"] ["sides"] (defScope (top 37)):=⟨rfl,rfl,rfl,by decide +kernel,rfl,by decide +kernel,by decide +kernel⟩
theorem zas3 (F:Fun K "same_value" "same_value" (top 37) f fd):FnOk P w K mg base CX0 (k + 1) f fd ["sides"] (spV 2 sF):=by
 have nd:=scVs.nd
 refine F.ok scVs (fun vs H Q E h=>by obtain ⟨l,xs,us,rfl,_⟩:=h; rfl) (fun cdv A outer s H vs Q E hr h=>?_)
 obtain ⟨l,xs,us,rfl,hl,ps,vd,q⟩:=h
 obtain ⟨a,b,p1,p2,rfl,rfl,h1,h2,_,_⟩:=vd2 ps vd
 refine ⟨_,(Pr.h (zaaf (zaan (zaay (zaaa (zaca (zaat zab1 (zaai zaaj (zaai zaav (qv av37 0 rfl) zaab (fun _ _=>rfl)) zaab (fun _ _=>rfl)) (zaai zaaj (zaai zaav (qv av37 0 rfl) zaab (fun _ _=>rfl)) zaab (fun _ _=>rfl)) (nomark _)) zaab zaab) (zaaa zaab zaac zaah) zaen))))),?_⟩
 (try dsimp only [cxOf])
 walk_at "rd"
 refine ite2 (fun hc=>?_) (fun hc=>?_)
 ·have hc:a.1=b.1:=by simpa using hc
  walk_at "rd"
  rename_i T hT
  exact q T _ (Ch.new hT _) (by rw [zaag]; show _=some (HO.tup [.int (if a.1=b.1 then 1 else 0),.int 1]); rw [if_pos hc])
 ·have hc:¬ a.1=b.1:=by simpa using hc
  walk_at "rd"
  rename_i T hT
  exact q T _ (Ch.new hT _) (by rw [zaag]; show _=some (HO.tup [.int (if a.1=b.1 then 1 else 0),.int 1]); rw [if_neg hc])
theorem av38:AF (defScope (top 38)) ["sides"]:=⟨by decide +kernel⟩
theorem scVk:FnScope ["sides"] ["sides"] (defScope (top 38)):=⟨rfl,rfl,rfl,by decide +kernel,rfl,by decide +kernel,by decide +kernel⟩
theorem zas4 (F:Fun K "pick_value" "pick_value" (top 38) f fd):FnOk P w K mg base CX0 (k + 1) f fd ["sides"] (spV 3 kF):=by
 have nd:=scVk.nd
 refine F.ok scVk (fun vs H Q E h=>by obtain ⟨l,xs,us,rfl,_⟩:=h; rfl) (fun cdv A outer s H vs Q E hr h=>?_)
 obtain ⟨l,xs,us,rfl,hl,ps,vd,q⟩:=h
 obtain ⟨a,b,c,p1,p2,p3,rfl,rfl,h1,h2,h3⟩:=vd3 ps vd
 refine ⟨_,(Pr.h (zaaf (zaan (zaca (zaat zab1 (zaai zaaj (zaai zaav (qv av38 0 rfl) zaab (fun _ _=>rfl)) zaab (fun _ _=>rfl)) zaab (nomark _)) (zaai zaav (qv av38 0 rfl) zaab (fun _ _=>rfl)) (zaai zaav (qv av38 0 rfl) zaab (fun _ _=>rfl)))))),?_⟩
 (try dsimp only [cxOf])
 walk_at "rd"
 refine ite2 (fun hc=>?_) (fun hc=>?_)
 ·have hc:a.1=1:=by simpa using hc
  walk_at "rd"
  exact q p2 _ (Ch.refl _ _) (by rw [h2]; show _=some (HO.tup [.int (if a.1=1 then b else c).1,.int (if a.1=1 then b else c).2]); rw [if_pos hc])
 ·have hc:¬ a.1=1:=by simpa using hc
  walk_at "rd"
  exact q p3 _ (Ch.refl _ _) (by rw [h3]; show _=some (HO.tup [.int (if a.1=1 then b else c).1,.int (if a.1=1 then b else c).2]); rw [if_neg hc])
theorem av39:AF (defScope (top 39)) ["sides"]:=⟨by decide +kernel⟩
theorem scVj:FnScope ["sides"] ["sides"] (defScope (top 39)):=⟨rfl,rfl,rfl,by decide +kernel,rfl,by decide +kernel,by decide +kernel⟩
theorem zas5 (F:Fun K "join_value" "join_value" (top 39) f fd):FnOk P w K mg base CX0 (k + 1) f fd ["sides"] (spV 2 jF):=by
 have nd:=scVj.nd
 refine F.ok scVj (fun vs H Q E h=>by obtain ⟨l,xs,us,rfl,_⟩:=h; rfl) (fun cdv A outer s H vs Q E hr h=>?_)
 obtain ⟨l,xs,us,rfl,hl,ps,vd,q⟩:=h
 obtain ⟨a,b,p1,p2,rfl,rfl,h1,h2,⟨⟨a0,a1⟩,a2⟩,⟨⟨b0,b1⟩,b2⟩⟩:=vd2 ps vd
 refine ⟨_,(Pr.h (zaaf (zaan (zaay (zaaa (zaam zabu (zaam zafu (zaai zaaj (zaai zaav (qv av39 0 rfl) zaab (fun _ _=>rfl)) zaab (fun _ _=>rfl)) (zaai zaaj (zaai zaav (qv av39 0 rfl) zaab (fun _ _=>rfl)) zaab (fun _ _=>rfl))) (zaai zaaj (zaai zaav (qv av39 0 rfl) zaab (fun _ _=>rfl)) zaab (fun _ _=>rfl))) (zaaa (zaam zabu (zaai zaaj (zaai zaav (qv av39 0 rfl) zaab (fun _ _=>rfl)) zaab (fun _ _=>rfl)) (zaai zaaj (zaai zaav (qv av39 0 rfl) zaab (fun _ _=>rfl)) zaab (fun _ _=>rfl))) zaac zaa2) zaa2))))),?_⟩
 (try dsimp only [cxOf])
 have cp:CPow a.1 b.2:=⟨b0,by omega,a2⟩
 walk_at "rd"
 rename_i T hT
 exact q T _ (Ch.new hT _) (zaag)
end
end

section
local macro_rules | `(tactic| walk_at "user")=>`(tactic| first
 | (apply zael; walk_at "get")
 | (apply zabj; (focus walk_at "get"); (focus with_reducible assumption))
 | (apply zabk; (focus walk_at "get"); (focus with_reducible assumption)))
abbrev Nms:=List (Str × VW)
def NmAt (H:Hp):Nms→List (Key × V)→Prop:=Paired fun a kv=>kv.1=.inr a.1∧PV H a.2 kv.2
theorem NmAt.tu {H H':Hp} (k:Tu H H') {N:Nms}{nk:List (Key × V)} (h:NmAt H N nk):NmAt H' N nk:=zaax (fun _ _ ⟨a,b⟩=>⟨a,b.tu k⟩) h
structure NmS (H:Hp) (na:Addr) (N:Nms):Prop where
 ex:∃ nk,H na=some (.dK nk)∧NmAt H N nk
theorem NmS.ch {H H':Hp}{na:Addr}{N:Nms} (h:NmS H na N) (c:Ch [] H H'):NmS H' na N:=let ⟨nk,a,b⟩:=h.ex; ⟨nk,c.get a (by simp),b.tu (Tu.same c)⟩
theorem zalp {H:Hp}:∀ {N:Nms}{nk:List (Key × V)},NmAt H N nk→∀ n:Str,(N.lookup n=none∧valV nk (.inr n)=none)∨∃ x v,N.lookup n=some x∧valV nk (.inr n)=some v∧PV H x v
 | _,_,.nil,n=>.inl ⟨rfl,rfl⟩
 | (a,x) :: N,(kk,v) :: nk,.cons ⟨e1,h⟩ t,n=>by
  have e1:kk=.inr a:=e1
  subst e1
  by_cases hn:a=n
  ·subst hn
   exact .inr ⟨x,v,by simp [List.lookup_cons],zac0 (κ:=Key) rfl,h⟩
  ·have b1:(n == a)=false:=beq_eq_false_iff_ne.mpr (fun e=>hn e.symm)
   rcases zalp t n with ⟨c,d⟩ | ⟨x',v',c,d,h'⟩
   ·exact .inl ⟨by rw [List.lookup_cons,b1]; exact c,by rw [zacs (fun e=>hn (Sum.inr.inj e))]; exact d⟩
   ·exact .inr ⟨x',v',by rw [List.lookup_cons,b1]; exact c,by rw [zacs (fun e=>hn (Sum.inr.inj e))]; exact d,h'⟩
def vW (w:Str):List VW→VW:=((VT.find? fun t=>decide (t.1=w)).map (·.2.2)).getD fun _=>(0,0)
def vE (N:Nms):Ex9→VW
 | .lf (.nm n)=>(N.lookup n).getD (0,0)
 | .lf (.of _ _)=>(0,0)
 | .lf (.val v w)=>(v,w)
 | .un a=>nF [vE N a]
 | .bi w a b=>vW w [vE N a,vE N b]
 | .pick a b c=>kF [vE N a,vE N b,vE N c]
 | .pt a lw wi=>((vE N a).1 / 2 ^ lw.toNat % (1 * 2 ^ wi.toNat),wi)
def VOK (N:Nms):Ex9→Prop
 | .lf (.nm n)=>∃ x,N.lookup n=some x
 | .lf (.of _ _)=>False
 | .lf (.val _ _)=>True
 | .un a=>VOK N a∧VB (vE N a)
 | .bi _ a b=>(VOK N a∧VB (vE N a))∧VOK N b∧VB (vE N b)
 | .pick a b c=>VOK N a∧VOK N b∧VOK N c
 | .pt a lw wi=>VOK N a∧(0≤lw∧lw≤64)∧0≤wi∧wi≤64
structure EV (n:Nat) (H:Hp) (p:Addr) (N:Nms) (e:Ex9):Prop where
 x:ExN n H p e
 v:VOK N e
theorem EV.tu {n:Nat}{H H':Hp} (k:Tu H H') {p:Addr}{N:Nms}{e:Ex9} (h:EV n H p N e):EV n H' p N e:=⟨h.x.tu k,h.v⟩
structure BrV (n:Nat) (H:Hp) (p:Addr) (N:Nms) (e:Ex9) (w:Str) (g:List VW→VW) (es:List Ex9) (ps:List Addr):Prop where
 h:H p=some (.tup (.str w :: ps.map V.ref))
 k:Paired (fun a q=>EV n H q N a) es ps
 o:Other w
 t:(w,es.length,g)∈VT
 w:vE N e=g (es.map (vE N))
 d:es.length≠3→∀ a∈es,VB (vE N a)
 l:es.length≤3
theorem zarm:∀ w∈BIW,(w,2,vW w)∈VT:=by
 intro w h
 simp only [BIW,List.mem_cons,List.not_mem_nil,or_false] at h
 rcases h with rfl | rfl | rfl | rfl | rfl | rfl | rfl
 ·rw [show vW (Str.ofString "and")=aF from rfl]; simp [VT]
 ·rw [show vW (Str.ofString "or")=oF from rfl]; simp [VT]
 ·rw [show vW (Str.ofString "xor")=xF from rfl]; simp [VT]
 ·rw [show vW (Str.ofString "plus")=pF from rfl]; simp [VT]
 ·rw [show vW (Str.ofString "less")=lF from rfl]; simp [VT]
 ·rw [show vW (Str.ofString "same")=sF from rfl]; simp [VT]
 ·rw [show vW (Str.ofString "join")=jF from rfl]; simp [VT]
theorem zas6 {n:Nat}{H:Hp}{p:Addr}{N:Nms}{a:Ex9} (h:EV (n + 1) H p N (.un a)):∃ w g es ps,BrV n H p N (.un a) w g es ps:=by
 obtain ⟨⟨⟨q,x,y⟩,v,d⟩,vo,vb⟩:=h
 exact ⟨"not",nF,[a],[q],x,.cons ⟨⟨y,v,Nat.lt_of_succ_lt_succ d⟩,vo⟩ .nil,by unfold Other; decide +kernel,by simp [VT],rfl,fun _ b hb=>by rw [List.mem_singleton.mp hb]; exact vb,by simp⟩
theorem zas7 {n:Nat}{H:Hp}{p:Addr}{N:Nms}{w:Str}{a b:Ex9} (h:EV (n + 1) H p N (.bi w a b)):∃ w' g es ps,BrV n H p N (.bi w a b) w' g es ps:=by
 obtain ⟨⟨⟨q,r,x,y,z,o⟩,⟨v1,v2⟩,d⟩,⟨o1,b1⟩,o2,b2⟩:=h
 have d:max a.deep b.deep + 1 < n + 1:=d
 exact ⟨w,vW w,[a,b],[q,r],x,.cons ⟨⟨y,v1,by omega⟩,o1⟩ (.cons ⟨⟨z,v2,by omega⟩,o2⟩ .nil),(zah7 w o).1,zarm w o,rfl,fun _ c hc=>by
  simp only [List.mem_cons,List.not_mem_nil,or_false] at hc
  rcases hc with rfl | rfl
  ·exact b1
  ·exact b2,by simp⟩
theorem zapj {n:Nat}{H:Hp}{p:Addr}{N:Nms}{a b c:Ex9} (h:EV (n + 1) H p N (.pick a b c)):∃ w' g es ps,BrV n H p N (.pick a b c) w' g es ps:=by
 obtain ⟨⟨⟨q,r,s,x,y,z,u⟩,⟨v1,v2,v3⟩,d⟩,o1,o2,o3⟩:=h
 have d:max a.deep (max b.deep c.deep) + 1 < n + 1:=d
 exact ⟨"pick",kF,[a,b,c],[q,r,s],x,.cons ⟨⟨y,v1,by omega⟩,o1⟩ (.cons ⟨⟨z,v2,by omega⟩,o2⟩ (.cons ⟨⟨u,v3,by omega⟩,o3⟩ .nil)),by unfold Other; decide +kernel,by simp [VT],rfl,fun h=>absurd rfl h,by simp⟩
section
variable {P:Program}{w:World}{K:PySem.W.Frag}{mg:Str→Option Value}{base:Heap}{f:Addr}{fd:FuncData}{k:Nat}
theorem zacj:Nd "value_of" := by decide +kernel
theorem zalq:Nd "VALUES" := by decide +kernel
theorem av41:AF (defScope (top 41)) ["expr", "named", "used", "word", "whole"]:=⟨by decide +kernel⟩
theorem gl41:AG (defScope (top 41)) ["value_of", "VALUES"]:=⟨by decide +kernel⟩
def zags:Scope:={ kind:=PySem.ScopeKind.function,names:=[ (PySem.Str.ofString ".0",PySem.NameKind.local),(PySem.Str.ofString "inner",PySem.NameKind.local),(PySem.Str.ofString "value_of",PySem.NameKind.globalImplicit),(PySem.Str.ofString "named",PySem.NameKind.free),(PySem.Str.ofString "used",PySem.NameKind.free)],isGenerator:=false,isCoroutine:=false,more:=[]:PySem.Scope }
theorem zalr:CompOk zags (defScope (top 41)) (["inner"]:List Str) (["expr", "named", "used", "word", "whole"]:List Str) [1,2] (["inner", "named", "used"]:List Str):=compOk rfl (by decide +kernel) (by decide +kernel) (by decide +kernel) (by decide +kernel) rfl (by decide +kernel)
theorem zals:AK (relab zags (defScope (top 41))) ["inner"]:=⟨by decide +kernel⟩
theorem zapk:AG (relab zags (defScope (top 41))) ["value_of"]:=⟨by decide +kernel⟩
theorem zaia:AV (relab zags (defScope (top 41))) ["inner", "named", "used"]:=⟨by decide +kernel⟩
def spVE (n:Nat):Sp:=fun vs H Q _=>∃ (p na us:Addr) (N:Nms) (e:Ex9),vs=[.ref p,.ref na,.ref us]∧EV n H p N e∧NmS H na N∧∀ p H',Ch [] H H'→H' p=some (.tup [.int (vE N e).1,.int (vE N e).2])→Q (.ref p) H'
theorem scVE:FnScope ["expr", "named", "used", "word", "whole"] ["expr", "named", "used"] (defScope (top 41)):=⟨rfl,rfl,rfl,by decide +kernel,rfl,by decide +kernel,by decide +kernel⟩
theorem zas8 {n:Nat}{va:Addr}{vkv:List (Key × V)}{spt:Addr→Sp}{At:Addr→Prop} (F:Fun K "value_of" "value_of" (top 41) f fd) (Dvalue_of:DefOk P w K mg base CX0 k "value_of" ["expr", "named", "used"] (spVE n)) (T_VALUES:TabOk P w K mg base CX0 k ["sides"] spt At) (m_VALUES:mg "VALUES" = some (.ref va)) (hKD:KD P w K va vkv)
  (hT:∀ t∈VT,∃ f,valV vkv (.inr t.1)=some (.ref f)∧At f∧spt f=spV t.2.1 t.2.2):FnOk P w K mg base CX0 (k + 1) f fd ["expr", "named", "used"] (spVE (n + 1)):=by
 have nd:=scVE.nd
 refine F.ok scVE (fun vs H Q E h=>by obtain ⟨p,na,us,N,e,rfl,_⟩:=h; rfl) (fun cdv A outer s H vs Q E hr h=>?_)
 obtain ⟨p,na,us,N,e,rfl,ev,ns,q⟩:=h
 have hu:=zacx hr
 refine ⟨_,(Pr.h (zaad (zaaz (i:=3) nd rfl (av41.l 3 rfl) (zaai zaaj (qv av41 0 rfl) zaab (fun _ _=>rfl))) (zaad (zaa3 (zaat zab1 (qv av41 3 rfl) zaaw (nomark _)) (zaaf (zaan (zacm hu (qv av41 1 rfl) (zaai zaaj (qv av41 0 rfl) zaab (fun _ _=>rfl)) (fun _ _=>rfl)))) zaau) (zaad (zaa3 (zaat zab1 (qv av41 3 rfl) zaaw (nomark _)) (zaaf (zaan (zacm hu (zacm hu (qv av41 2 rfl) (zaai zaaj (qv av41 0 rfl) zaab (fun _ _=>rfl)) (fun _ _=>rfl)) (zaai zaaj (qv av41 0 rfl) zaab (fun _ _=>rfl)) (fun _ _=>rfl)))) zaau) (zaad (zaa3 (zaat zab1 (qv av41 3 rfl) zaaw (nomark _)) (zaaf (zaan (zaay (zaaa (zaai zaaj (qv av41 0 rfl) zaab (fun _ _=>rfl)) (zaaa (zaai zaaj (qv av41 0 rfl) zaab (fun _ _=>rfl)) zaac zaal) zaal)))) zaau) (zaad (zaa3 (zaat zab1 (qv av41 3 rfl) zaaw (nomark _)) (zaad (zaaz (i:=4) nd rfl (av41.l 4 rfl) (zaai zaaj (zaao Dvalue_of hr (gl41.g 0 rfl) pass0 (zaaa (zaai zaaj (qv av41 0 rfl) zaab (fun _ _=>rfl)) (zaaa (qv av41 1 rfl) (zaaa (qv av41 2 rfl) zaac zaae) zaae) zaal) zacj) zaab (fun _ _=>rfl))) (zaaf (zaan (zaay (zaaa (zaam zabn (zaam zaqk (qv av41 4 rfl) (zaai zaaj (qv av41 0 rfl) zaab (fun _ _=>rfl))) (zaam zafu zaab (zaai zaaj (qv av41 0 rfl) zaab (fun _ _=>rfl)))) (zaaa (zaai zaaj (qv av41 0 rfl) zaab (fun _ _=>rfl)) zaac zaal) zaa2))))) zaau) (zaaf (zaan (zahi T_VALUES hr pass0 (zakt (zagi (v:=.ref _) (gl41.g 1 rfl) m_VALUES rfl zalq) (qv av41 3 rfl) (fun _ _=>rfl)) (zaaa (zacc rfl zalr (zad6 (zacw zans (qv av41 0 rfl) (zac5 zaab) zac4)) (fun _ _ _ _ _=>(zaa0 (i:=0) zalr.nd rfl (Or.inl (zals.k 0 rfl)) (Or.inr (zals.k 0 rfl)))) (fun _ _ _ _ _=>zabw) (fun _ _ _ _ _=>(zaao Dvalue_of hr (zapk.g 0 rfl) pass0 (zaaa (qw zaia 0 rfl) (zaaa (qw zaia 1 rfl) (zaaa (qw zaia 2 rfl) zaac zaae) zaae) zaae) zacj))) zaac zab3)))))))))),?_⟩
 (try dsimp only [cxOf])
 by_cases hb:∃ w g es ps,BrV n H p N e w g es ps
 ·obtain ⟨wo,g,ls,ps,⟨la,lb,⟨o1,o2,o3,o4⟩,vt,ew,vd,l3⟩⟩:=hb
  rw [ew] at q
  have ll:=Paired.length lb
  obtain ⟨ft,ht1,ht2,ht3⟩:=hT _ vt
  walk_at "rd"
  refine ite2 (fun h=>absurd (by simpa using h) o1) (fun _=>?_)
  walk_at "rd"
  refine ite2 (fun h=>absurd (by simpa using h) o2) (fun _=>?_)
  walk_at "rd"
  refine ite2 (fun h=>absurd (by simpa using h) o3) (fun _=>?_)
  walk_at "rd"
  refine ite2 (fun h=>absurd (by simpa using h) o4) (fun _=>?_)
  walk_at "rd"
  rename_i T hT0
  rw [zalf]
  have ht3:spt ft=spV ls.length g:=ht3
  obtain ⟨H1,e1⟩:∃ H1,upd H T (.tup (ps.map V.ref))=H1:=⟨_,rfl⟩
  have c1:Ch [] H H1:=by rw [← e1]; exact Ch.new hT0 _
  have g1:H1 T=some (.tup (ps.map V.ref)):=by rw [← e1]; exact zaag
  have lb1:Paired (fun l q=>EV n H1 q N l) ls ps:=zaax (fun _ _=>EV.tu (Tu.same c1)) lb
  have ns1:=ns.ch c1
  rw [e1]
  clear e1 hT0 ns ev la lb ew
  refine zaeo (ps.map V.ref) (fun i ys σ H'=>Ch [] H1 H'∧Paired (PV H') ((ls.take i).map (vE N)) ys∧∃ u,σ=[u,some (.ref na),some (.ref us)]) (by rw [sizeLine_eq,List.length_map]; omega) ⟨Ch.refl _ _,.nil,_,rfl⟩ ?_ ?_ ?_
  ·rintro i ys σ H' hi ⟨c,py,_⟩
   have:=Paired.length py
   simp only [List.length_map,List.length_take] at this
   exact ⟨by omega,SqT.of (c.get g1 (by simp))⟩
  ·rintro i ys σ H' z hz ⟨c,py,u,rfl⟩
   rw [List.getElem?_map] at hz
   obtain ⟨pq,hq,rfl⟩:=Option.map_eq_some_iff.mp hz
   have hi:i < ls.length:=by rw [ll]; exact (List.getElem?_eq_some_iff.mp hq).1
   have hl:ls[i]?=some ls[i]:=List.getElem?_eq_getElem hi
   have lf:EV n H' pq N ls[i]:=EV.tu (Tu.same c) (by
    have:=zabx lb1 i hi (by omega)
    rw [← (List.getElem?_eq_some_iff.mp hq).2]
    exact this)
   have ns2:=ns1.ch c
   have pb:Box (Paired (PV H') ((ls.take i).map (vE N)) ys):=⟨py⟩
   clear ns1 lb1 py
   walk_at "rd"
   rename_i v H2 c2 pv
   refine ⟨?_,_,rfl⟩
   rw [List.take_add_one,hl,List.map_append]
   exact zabp ⟨v,rfl,pv⟩ (zaax (fun _ _ h=>h.tu (Tu.same c2)) pb.h)
  ·rintro ys σ H' ⟨c,py,_⟩
   rw [List.length_map,← ll,List.take_length] at py
   intro D hD
   have vdd:VD ls.length (ls.map (vE N)):=⟨List.length_map ..,fun h3 x hx=>by
    obtain ⟨a,ha,rfl⟩:=List.mem_map.mp hx
    exact vd h3 a ha⟩
   show spt ft [V.ref D] _ _ _
   rw [ht3]
   refine ⟨D,ls.map (vE N),ys,rfl,zaag,zaax (fun _ _ h=>h.tu (Tu.new _ hD)) py,vdd,fun v H2 c2 pv=>q v H2 ((c1.trans c).trans ((Ch.new hD _).trans c2)) pv⟩
 cases e with
 | un a=>exact absurd (zas6 ev) hb
 | bi w a b=>exact absurd (zas7 ev) hb
 | pick a b c=>exact absurd (zapj ev) hb
 | lf l =>
  obtain ⟨⟨xa,xo,_⟩,vo⟩:=ev
  cases l with
  | nm m =>
   have la:H p=some (.tup [.str "name",.str m]):=xa
   obtain ⟨nk,hn,na'⟩:=ns.ex
   obtain ⟨x,hx⟩:=vo
   rcases zalp na' m with ⟨e,_⟩ | ⟨x',_,e,ev,⟨v,rfl,pv⟩⟩
   ·rw [hx] at e; cases e
   ·walk_at "rd"
    refine q v _ (Ch.refl _ _) ?_
    show H v=some (.tup [.int ((N.lookup m).getD (0,0)).1,.int ((N.lookup m).getD (0,0)).2])
    rw [e]; exact pv
  | of a b=>exact vo.elim
  | val v wi =>
   have la:H p=some (.tup [.str "value",.int v,.int wi]):=xa
   walk_at "rd"
   rename_i T hT0
   exact q T _ (Ch.new hT0 _) zaag
 | pt l lw wi =>
  obtain ⟨⟨⟨q1,la,lb⟩,xo,d⟩,vo,⟨l0,l1⟩,w0,w1⟩:=ev
  have lb:EV n H q1 N l:=⟨⟨lb,xo,Nat.lt_of_succ_lt_succ d⟩,vo⟩
  have pp:=zai4 wi.toNat
  have cp:CPow 1 wi:=⟨w0,by omega,by decide⟩
  walk_at "rd"
  rename_i v H1 c1 pv T hT0
  exact q T _ (c1.trans (Ch.new hT0 _)) zaag
end
end

section
section
variable {P:Program}{w:World}{K:PySem.W.Frag}{mg:Str→Option Value}{base:Heap}{f:Addr}{fd:FuncData}{k:Nat}
theorem zaib:bootBuiltins "bool" = some (.type "bool"):=by decide +kernel
theorem zaic:("bool" : Str) ≠ "__name__" := by decide +kernel
theorem zaid:Nd "bool" := by decide +kernel
theorem zado:bootBuiltins "int" = some (.type "int"):=by decide +kernel
theorem zadp:("int" : Str) ≠ "__name__" := by decide +kernel
theorem zadq:Nd "int" := by decide +kernel
theorem zaie:Nd "is_whole" := by decide +kernel
theorem zahn:Nd "is_listed" := by decide +kernel
theorem zagt:Nd "ask_length" := by decide +kernel
theorem zaif:Nd "is_below" := by decide +kernel
theorem gl5:AG (defScope (top 5)) ["isinstance", "bool", "int"]:=⟨by decide +kernel⟩
theorem av5:AF (defScope (top 5)) ["thing"]:=⟨by decide +kernel⟩
def spWhole:Sp:=fun vs H Q _=>∃ i:Int,vs=[.int i]∧Q (.bl true) H
theorem scWhole:FnScope ["thing"] ["thing"] (defScope (top 5)):=⟨rfl,rfl,rfl,by decide +kernel,rfl,by decide +kernel,by decide +kernel⟩
theorem zand (F:Fun K "is_whole" "is_whole" (top 5) f fd) (z_isinstance:mg "isinstance" = none) (z_int:mg "int" = none) (z_bool:mg "bool" = none):FnOk P w K mg base CX0 (k + 1) f fd ["thing"] spWhole:=by
 have nd:=scWhole.nd
 refine F.ok scWhole (fun vs H Q E h=>by obtain ⟨i,rfl,_⟩:=h; rfl) (fun cdv A outer s H vs Q E hr h=>?_)
 obtain ⟨i,rfl,q⟩:=h
 refine ⟨_,(Pr.h (zaaf (zaan (zacn (zaap zaba (gl5.g 0 rfl) z_isinstance zaaq (zaaa (qv av5 0 rfl) (zaaa (zaa4 (v:=.ty "int") (gl5.g 2 rfl) z_int zado rfl zadp zadq) zaac)) zaar zaas) (zac2 (zah0 (zaap zaba (gl5.g 0 rfl) z_isinstance zaaq (zaaa (qv av5 0 rfl) (zaaa (zaa4 (v:=.ty "bool") (gl5.g 1 rfl) z_bool zaib rfl zaic zaid) zaac)) zaar zaas))))))),?_⟩
 (try dsimp only [cxOf])
 walk_at "rd"
 exact q
theorem av6:AF (defScope (top 6)) ["thing", "bound"]:=⟨by decide +kernel⟩
theorem gl6:AG (defScope (top 6)) ["is_whole"]:=⟨by decide +kernel⟩
def spBelow:Sp:=fun vs H Q _=>∃ i b:Int,vs=[.int i,.int b]∧0≤i∧i < b∧Q (.bl true) H
theorem scBelow:FnScope ["thing", "bound"] ["thing", "bound"] (defScope (top 6)):=⟨rfl,rfl,rfl,by decide +kernel,rfl,by decide +kernel,by decide +kernel⟩
theorem zane (F:Fun K "is_below" "is_below" (top 6) f fd) (Dis_whole:DefOk P w K mg base CX0 k "is_whole" ["thing"] spWhole):FnOk P w K mg base CX0 (k + 1) f fd ["thing", "bound"] spBelow:=by
 have nd:=scBelow.nd
 refine F.ok scBelow (fun vs H Q E h=>by obtain ⟨i,b,rfl,_⟩:=h; rfl) (fun cdv A outer s H vs Q E hr h=>?_)
 obtain ⟨i,b,rfl,h0,h1,q⟩:=h
 refine ⟨_,(Pr.h (zaaf (zaan (zacn (zaao Dis_whole hr (gl6.g 0 rfl) pass0 (zaaa (qv av6 0 rfl) zaac zaae) zaie) (zac2 (zae4 zamh zagd zaab (qv av6 0 rfl) (qv av6 1 rfl))))))),?_⟩
 (try dsimp only [cxOf])
 walk_at "rd"
 refine iteD h0 ?_
 walk_at "rd"
 show Q (.bl (decide (i < b))) H
 rw [decide_eq_true h1]
 exact q
theorem gl7:AG (defScope (top 7)) ["tuple", "list", "isinstance"]:=⟨by decide +kernel⟩
theorem av7:AF (defScope (top 7)) ["thing"]:=⟨by decide +kernel⟩
def spListed:Sp:=fun vs H Q _=>∃ (kd:SK) (a:Addr) (xs:List V),vs=[.ref a]∧SqX kd H a xs∧∀ H',Ch [] H H'→Q (.bl true) H'
theorem scListed:FnScope ["thing"] ["thing"] (defScope (top 7)):=⟨rfl,rfl,rfl,by decide +kernel,rfl,by decide +kernel,by decide +kernel⟩
theorem zalt (F:Fun K "is_listed" "is_listed" (top 7) f fd) (z_isinstance:mg "isinstance" = none) (z_list:mg "list" = none) (z_tuple:mg "tuple" = none):FnOk P w K mg base CX0 (k + 1) f fd ["thing"] spListed:=by
 have nd:=scListed.nd
 refine F.ok scListed (fun vs H Q E h=>by obtain ⟨kd,a,xs,rfl,_⟩:=h; rfl) (fun cdv A outer s H vs Q E hr h=>?_)
 obtain ⟨kd,a,xs,rfl,hx,q⟩:=h
 refine ⟨_,(Pr.h (zaaf (zaan (zaap zae9 (gl7.g 2 rfl) z_isinstance zaaq (zaaa (qv av7 0 rfl) (zaaa (zaay (zaaa (zaa4 (v:=.ty "list") (gl7.g 1 rfl) z_list zaco rfl zacp zacq) (zaaa (zaa4 (v:=.ty "tuple") (gl7.g 0 rfl) z_tuple zacd rfl zace zacf) zaac zaae) zaae)) zaac)) zaar zaas)))),?_⟩
 (try dsimp only [cxOf])
 cases kd with
 | list =>
  have hx:H a=some (.lst xs):=hx
  walk_at "rd"
  exact q _ (Ch.new (by assumption) _)
 | tuple =>
  have hx:H a=some (.tup xs):=hx
  walk_at "rd"
  exact q _ (Ch.new (by assumption) _)
theorem gl8:AG (defScope (top 8)) ["len", "is_listed"]:=⟨by decide +kernel⟩
theorem av8:AF (defScope (top 8)) ["row", "length"]:=⟨by decide +kernel⟩
def spLength:Sp:=fun vs H Q _=>∃ (kd:SK) (a:Addr) (n:Int) (xs:List V),vs=[.ref a,.int n]∧SqX kd H a xs∧n=(xs.length:Int)∧∀ H',Ch [] H H'→Q .non H'
theorem scLength:FnScope ["row", "length"] ["row", "length"] (defScope (top 8)):=⟨rfl,rfl,rfl,by decide +kernel,rfl,by decide +kernel,by decide +kernel⟩
theorem zalu (F:Fun K "ask_length" "ask_length" (top 8) f fd) (Dis_listed:DefOk P w K mg base CX0 k "is_listed" ["thing"] spListed) (z_len:mg "len" = none):FnOk P w K mg base CX0 (k + 1) f fd ["row", "length"] spLength:=by
 have nd:=scLength.nd
 refine F.ok scLength (fun vs H Q E h=>by obtain ⟨kd,a,n,xs,rfl,_⟩:=h; rfl) (fun cdv A outer s H vs Q E hr h=>?_)
 obtain ⟨kd,a,n,xs,rfl,hx,rfl,q⟩:=h
 refine ⟨_,(Pr.h (zaaf (zaa3 (zacg (zacl (zaci (zabe (zaao Dis_listed hr (gl8.g 1 rfl) pass0 (zaaa (qv av8 0 rfl) zaac zaae) zahn))) (zab2 (zaat zaeh (zaap zaa5 (gl8.g 0 rfl) z_len PySem.boot_len (zaaa (qv av8 0 rfl) zaac zaae) zab6 zab7) (qv av8 1 rfl) (nomark _))))) (zaaf zahh) zaau))),?_⟩
 (try dsimp only [cxOf])
 cases kd with
 | list =>
  have hx:H a=some (.lst xs):=hx
  refine ⟨_,rfl,.list,a,xs,rfl,hx,fun H1 c1=>?_⟩
  have hx1:H1 a=some (.lst xs):=c1.get hx (by simp)
  walk_at "rd"
  refine iteNn rfl ?_
  exact q _ c1
 | tuple =>
  have hx:H a=some (.tup xs):=hx
  refine ⟨_,rfl,.tuple,a,xs,rfl,hx,fun H1 c1=>?_⟩
  have hx1:H1 a=some (.tup xs):=c1.get hx (by simp)
  walk_at "rd"
  refine iteNn rfl ?_
  exact q _ c1
theorem gl9:AG (defScope (top 9)) ["ask_length", "len", "zip", "is_below"]:=⟨by decide +kernel⟩
theorem av9:AF (defScope (top 9)) ["row", "wides", "value", "wide"]:=⟨by decide +kernel⟩
structure VWs (x w:Int):Prop where
 x:0≤x∧x < 1 * 2 ^ w.toNat
 w:0≤w∧w≤64
def spValues:Sp:=fun vs H Q _=>∃ (a b:Addr) (xs ws:List Int),vs=[.ref a,.ref b]∧H a=some (.lst (xs.map V.int))∧H b=some (.lst (ws.map V.int))∧Paired VWs xs ws∧∀ H',Ch [] H H'→Q .non H'
theorem scValues:FnScope ["row", "wides", "value", "wide"] ["row", "wides"] (defScope (top 9)):=⟨rfl,rfl,rfl,by decide +kernel,rfl,by decide +kernel,by decide +kernel⟩
theorem zalv (F:Fun K "ask_values" "ask_values" (top 9) f fd) (Dask_length:DefOk P w K mg base CX0 k "ask_length" ["row", "length"] spLength) (Dis_below:DefOk P w K mg base CX0 k "is_below" ["thing", "bound"] spBelow) (z_len:mg "len" = none) (z_zip:mg "zip" = none):FnOk P w K mg base CX0 (k + 1) f fd ["row", "wides"] spValues:=by
 have nd:=scValues.nd
 refine F.ok scValues (fun vs H Q E h=>by obtain ⟨a,b,xs,ws,rfl,_⟩:=h; rfl) (fun cdv A outer s H vs Q E hr h=>?_)
 obtain ⟨a,b,xs,ws,rfl,hx,hb,pw,q⟩:=h
 have lw:=Paired.length pw
 refine ⟨_,(Pr.h (zaad (zack (zaao Dask_length hr (gl9.g 0 rfl) pass0 (zaaa (qv av9 0 rfl) (zaaa (zaap zaa5 (gl9.g 1 rfl) z_len PySem.boot_len (zaaa (qv av9 1 rfl) zaac zaae) zab6 zab7) zaac zabt) zaae) zagt)) (zaaf (zaby PassesOwn.never rfl (zah1 .list .list (gl9.g 2 rfl) z_zip (zaaa (qv av9 0 rfl) (zaaa (qv av9 1 rfl) zaac zaae) zaae)) (zagj rfl (zaa7 (zaa0 (i:=2) nd rfl (av9.l 2 rfl)) (zaa7 (zaa0 (i:=3) nd rfl (av9.l 3 rfl)) zacb))) (zaaf (zaa3 (zaci (zabe (zaao Dis_below hr (gl9.g 3 rfl) pass0 (zaaa (qv av9 2 rfl) (zaaa (zaam zafu zaab (qv av9 3 rfl)) zaac zaa2) zaae) zaif))) (zaaf zahh) zaau)))))),?_⟩
 (try dsimp only [cxOf])
 have hk:SqX .list H a (xs.map V.int):=hx
 have hlen:((ws.map V.int).length:Int)=((xs.map V.int).length:Int):=by rw [List.length_map,List.length_map,lw]
 walk_at "rd"
 rename_i H1 c1
 refine zam1 (xs:=xs.map V.int) (ys:=ws.map V.int) (fun i σ H'=>Ch [] H H'∧∃ u v,σ=[some (.ref a),some (.ref b),u,v]) ⟨c1,_,_,rfl⟩ ?_ ?_ ?_
 ·rintro i σ H' hi ⟨c,_⟩
  exact ⟨SqL.of (c.get hx (by simp)),SqL.of (c.get hb (by simp))⟩
 ·rintro i x y σ H' T e1 e2 ⟨c,u,v,rfl⟩ hT
  rw [List.getElem?_map] at e1 e2
  obtain ⟨x,hx1,rfl⟩:=Option.map_eq_some_iff.mp e1
  obtain ⟨y,hy1,rfl⟩:=Option.map_eq_some_iff.mp e2
  have l1:=(List.getElem?_eq_some_iff.mp hx1).1
  have pv:VWs x y:=by
   have:=zabx pw i l1 (by omega)
   rw [(List.getElem?_eq_some_iff.mp hx1).2,(List.getElem?_eq_some_iff.mp hy1).2] at this
   exact this
  obtain ⟨⟨p1,p2⟩,p3,p4⟩:=pv
  have cp:CPow 1 y:=⟨p3,by omega,by decide⟩
  walk_at "rd"
 ·rintro σ H' ⟨c,_⟩
  walk_at "rd"
  exact q _ c
end
end

section
local macro_rules | `(tactic| walk_at "user")=>`(tactic| first
 | (apply zael; walk_at "get")
 | (apply zabj; (focus walk_at "get"); (focus with_reducible assumption))
 | (apply zabk; (focus walk_at "get"); (focus with_reducible assumption))
 | (apply dputS; (focus walk_at "get"); (focus with_reducible assumption)))
def fldsT (rp kp ip cp:Addr):List (Str × V):=[("rows",.ref rp),("kept",.ref kp),("inner",.ref ip),("coming",.ref cp)]
theorem fT_r (rp kp ip cp:Addr):List.lookup (Str.ofString "rows") (fldsT rp kp ip cp)=some (.ref rp):=rfl
theorem fT_k (rp kp ip cp:Addr):List.lookup (Str.ofString "kept") (fldsT rp kp ip cp)=some (.ref kp):=rfl
theorem fT_i (rp kp ip cp:Addr):List.lookup (Str.ofString "inner") (fldsT rp kp ip cp)=some (.ref ip):=rfl
theorem fT_c (rp kp ip cp:Addr):List.lookup (Str.ofString "coming") (fldsT rp kp ip cp)=some (.ref cp):=rfl
structure StF (CT:Addr) (H:Hp) (x:Addr) (rows:List Rw9) (dx rp:Addr) (ps:List Addr) (kp ip cp:Addr):Prop where
 o:H x=some (.ins CT dx (fldsT rp kp ip cp))
 r:H rp=some (.tup (ps.map V.ref))
 p:Paired (fun r p=>RwAt H p r) rows ps
 l:rows.length≤60
 k:H kp=some (.dK [])
 i:H ip=some (.dK [])
 c:H cp=some (.dK [])
 ne:kp≠cp
structure StAt (CT:Addr) (H:Hp) (x:Addr) (rows:List Rw9):Prop where
 ex:∃ dx rp ps kp ip cp,StF CT H x rows dx rp ps kp ip cp
theorem StAt.ch {CT:Addr}{H H':Hp}{x:Addr}{rows:List Rw9} (h:StAt CT H x rows) (c:Ch [] H H'):StAt CT H' x rows:=by
 obtain ⟨dx,rp,ps,kp,ip,cp,f⟩:=h.ex
 exact ⟨dx,rp,ps,kp,ip,cp,c.get f.o (by simp),c.get f.r (by simp),zaax (fun _ _=>RwAt.tu (Tu.same c)) f.p,f.l,c.get f.k (by simp),c.get f.i (by simp),c.get f.c (by simp),f.ne⟩
inductive IsIO:Rw9→Prop
 | inn {n:Str}{w:Int}:IsIO (.inn n w)
 | out {n:Str}{e:Ex9}:IsIO (.out n e)
structure IOs (rows:List Rw9):Prop where
 h:∀ r∈rows,IsIO r
section
variable {P:Program}{w:World}{K:PySem.W.Frag}{mg:Str→Option Value}{base:Heap}{f:Addr}{fd:FuncData}{k:Nat}
theorem zai5:Nd "Stage" := by decide +kernel
theorem av42m0:AF (defScope (inClass (top 42) 0)) ["self", "name", "modules", "row"]:=⟨by decide +kernel⟩
theorem gl42m0:AG (defScope (inClass (top 42) 0)) ["Stage"]:=⟨by decide +kernel⟩
def spF3:Sp:=fun vs _ _ _=>vs.length=3∧False
def spSt (CM CT:Addr):Sp:=fun vs H Q _=>∃ (x dx md mp:Addr) (nm:Str) (rows:List Rw9),vs=[.ref x,.str nm,.ref md]∧H x=some (.ins CT dx [])∧H md=some (.dK [(.inr nm,.ref mp)])∧MoAt CM H mp nm rows∧IOs rows∧∀ H',Ch [x] H H'→StAt CT H' x rows→Q .non H'
theorem scSt:FnScope ["self", "name", "modules", "row"] ["self", "name", "modules"] (defScope (inClass (top 42) 0)):=⟨rfl,rfl,rfl,by decide +kernel,rfl,by decide +kernel,by decide +kernel⟩
theorem zas9 {CM CT:Addr} (F:Fun K "__init__" "Stage.__init__" (inClass (top 42) 0) f fd) (cl:Cls K CT) (cm:Cls K CM) (nN:NoAttr K CM "name") (nR:NoAttr K CM "rows") (n1:NoAttr K CT "rows") (n2:NoAttr K CT "kept") (n3:NoAttr K CT "inner") (n4:NoAttr K CT "coming") (MkStage:MakeOk P w K mg base CX0 k CT "Stage" ["self", "name", "modules"] spF3):FnOk P w K mg base CX0 (k + 2) f fd ["self", "name", "modules"] (spSt CM CT):=by
 have nd:=scSt.nd
 refine F.ok scSt (fun vs H Q E h=>by obtain ⟨x,dx,md,mp,nm,rows,rfl,_⟩:=h; rfl) (fun cdv A outer s H vs Q E hr h=>?_)
 obtain ⟨x,dx,md,mp,nm,rows,rfl,hx,hm,mo,io,q⟩:=h
 have hu:=zacx hr
 have hrm:=hr
 refine ⟨_,(Pr.h (zaad (zab4 (qv av42m0 0 rfl) (zaa1 (zacm hu (qv av42m0 2 rfl) (qv av42m0 1 rfl) (fun _ _=>rfl)) rfl) rfl) (zaad (zab4 (qv av42m0 0 rfl) zabs rfl) (zaad (zab4 (qv av42m0 0 rfl) zabs rfl) (zaad (zab4 (qv av42m0 0 rfl) zabs rfl) (zaaf (zaby PassesOwn.never rfl (zad6 (zaa1 (qv av42m0 0 rfl) rfl)) (zaa0 (i:=3) nd rfl (av42m0.l 3 rfl)) (zaaf (zaa3 (zaat zab1 (zaai zaaj (qv av42m0 3 rfl) zaab (fun _ _=>rfl)) zaaw (nomark _)) (zaaf (zabm hu (zaa1 (qv av42m0 0 rfl) rfl) (zaai zaaj (qv av42m0 3 rfl) zaab (fun _ _=>rfl)) (zaay (zaaa (zaai zaaj (qv av42m0 3 rfl) zaab (fun _ _=>rfl)) (zaaa (zaai zaaj (qv av42m0 3 rfl) zaab (fun _ _=>rfl)) zaac zaal) zaal)) rfl)) (zaaf (zaa3 (zaat zab1 (zaai zaaj (qv av42m0 3 rfl) zaab (fun _ _=>rfl)) zaaw (nomark _)) (zaaf (zabm hu (zaa1 (qv av42m0 0 rfl) rfl) (zaai zaaj (qv av42m0 3 rfl) zaab (fun _ _=>rfl)) (zadb MkStage hrm (gl42m0.g 0 rfl) pass0 (zaaa (zaai zaaj (qv av42m0 3 rfl) zaab (fun _ _=>rfl)) (zaaa (qv av42m0 2 rfl) zaac zaae) zaal) zai5) rfl)) zaau))))))))))),?_⟩
 (try dsimp only [cxOf])
 obtain ⟨dm,rp,ps,hmp,hp,pr,rl⟩:=mo.ex
 have fn:=fM_n nm (.ref rp)
 have fr:=fM_r nm (.ref rp)
 have ev:valV [((.inr nm:Key),V.ref mp)] (.inr nm)=some (.ref mp):=zac0 (κ:=Key) rfl
 walk_at "rd"
 rename_i kp hk ip hi cp hc
 obtain ⟨k1,k2⟩:=freeU hk
 obtain ⟨i1,i2⟩:=freeU hi
 obtain ⟨i3,i4⟩:=freeU i2
 obtain ⟨i5,i6⟩:=freeU i4
 obtain ⟨c1,c2⟩:=freeU hc
 obtain ⟨c3,c4⟩:=freeU c2
 obtain ⟨c5,c6⟩:=freeU c4
 obtain ⟨c7,c8⟩:=freeU c6
 obtain ⟨c9,c0⟩:=freeU c8
 have cf:Ch [x] H (upd (upd (upd (upd (upd (upd (upd H x (.ins CT dx (putF "rows" (.ref rp) []))) kp (.dK [])) x (.ins CT dx (putF "kept" (.ref kp) (putF "rows" (.ref rp) [])))) ip (.dK [])) x (.ins CT dx (putF "inner" (.ref ip) (putF "kept" (.ref kp) (putF "rows" (.ref rp) []))))) cp (.dK [])) x (.ins CT dx (fldsT rp kp ip cp))) :=
  ((((((Ch.put).trans (Ch.new hk _)).trans Ch.put).trans (Ch.new hi _)).trans Ch.put).trans (Ch.new hc _)).trans Ch.put
 have tu:Tu H (upd (upd (upd (upd (upd (upd (upd H x (.ins CT dx (putF "rows" (.ref rp) []))) kp (.dK [])) x (.ins CT dx (putF "kept" (.ref kp) (putF "rows" (.ref rp) [])))) ip (.dK [])) x (.ins CT dx (putF "inner" (.ref ip) (putF "kept" (.ref kp) (putF "rows" (.ref rp) []))))) cp (.dK [])) x (.ins CT dx (fldsT rp kp ip cp))):=Tu.ch cf hx (fun xs z=>by cases z)
 have st:StF CT (upd (upd (upd (upd (upd (upd (upd H x (.ins CT dx (putF "rows" (.ref rp) []))) kp (.dK [])) x (.ins CT dx (putF "kept" (.ref kp) (putF "rows" (.ref rp) [])))) ip (.dK [])) x (.ins CT dx (putF "inner" (.ref ip) (putF "kept" (.ref kp) (putF "rows" (.ref rp) []))))) cp (.dK [])) x (.ins CT dx (fldsT rp kp ip cp))) x rows dx rp ps kp ip cp:=by
  refine ⟨zaag,tu _ _ hp,zaax (fun _ _=>RwAt.tu tu) pr,rl,?_,?_,?_,fun z=>c7 z.symm⟩
  ·rw [zaak k1,zaak (Ne.symm c7),zaak k1,zaak (Ne.symm i3),zaak k1,zaag]
  ·rw [zaak i1,zaak (Ne.symm c3),zaak i1,zaag]
  ·rw [zaak c1,zaag]
 have tr:∀ i (r:Rw9) (p:Addr),rows[i]?=some r→ps[i]?=some p→IsIO r∧RwAt H p r:=fun i r p e1 e2=>⟨io.h r (List.mem_of_getElem? e1),by
  have:=zabx pr i (List.getElem?_eq_some_iff.mp e1).1 (List.getElem?_eq_some_iff.mp e2).1
  rw [(List.getElem?_eq_some_iff.mp e1).2,(List.getElem?_eq_some_iff.mp e2).2] at this
  exact this⟩
 have lp:=Paired.length pr
 generalize hF:(upd (upd (upd (upd (upd (upd (upd H x (.ins CT dx (putF "rows" (.ref rp) []))) kp (.dK [])) x (.ins CT dx (putF "kept" (.ref kp) (putF "rows" (.ref rp) [])))) ip (.dK [])) x (.ins CT dx (putF "inner" (.ref ip) (putF "kept" (.ref kp) (putF "rows" (.ref rp) []))))) cp (.dK [])) x (.ins CT dx (fldsT rp kp ip cp)))=F at cf tu st
 refine (show ∀ G,G=F→Loop (Itt K rp) _ _ _ _ G from fun G eG=>?_) _ hF
 subst eG
 clear hF hk hi hc
 refine zais (xs:=ps.map V.ref) (fun i σ H'=>H'=G∧∃ u,σ=[some (.ref x),some (.str nm),some (.ref md),u]) ⟨rfl,_,rfl⟩ ?_ ?_ ?_
 ·rintro i σ H' hi ⟨rfl,_⟩
  exact SqT.of st.r
 ·rintro i z σ H' hz ⟨rfl,u,rfl⟩
  rw [List.getElem?_map] at hz
  obtain ⟨p,hq,rfl⟩:=Option.map_eq_some_iff.mp hz
  have il:i < rows.length:=by rw [lp]; exact (List.getElem?_eq_some_iff.mp hq).1
  obtain ⟨o,ra⟩:=tr i rows[i] p (List.getElem?_eq_getElem il) hq
  generalize rows[i]=r at o ra
  cases o with
  | inn =>
   rename_i n wi
   have ra:H' p=some (.tup [.str "in",.str n,.int wi]):=tu _ _ ra
   walk_at "rd"
  | out =>
   rename_i n e
   obtain ⟨q1,ra,_⟩:=ra
   have ra:=tu _ _ ra
   walk_at "rd"
 ·rintro σ H' ⟨rfl,u,rfl⟩
  exact q _ cf ⟨dx,rp,ps,kp,ip,cp,st⟩
end
end

section
local macro_rules | `(tactic| walk_at "user")=>`(tactic| first
 | (apply zael; walk_at "get")
 | (apply zabj; (focus walk_at "get"); (focus with_reducible assumption))
 | (apply zabk; (focus walk_at "get"); (focus with_reducible assumption))
 | (apply dputS; (focus walk_at "get"); (focus with_reducible assumption)))
theorem Ch.same {H:Hp}{p:Addr}{o:HO} (h:H p=some o):Ch [] H (upd H p o):=fun b u e _=>by
 by_cases z:b=p
 ·subst z; rw [zaag,← h,e]
 ·rw [zaak z]; exact e
inductive TO:List Rw9→Nms→Nms→List Int→Nms→Prop
 | nil {N O:Nms}{ws:List Int}:TO [] N O ws O
 | inn {n:Str}{x w:Int}{rs:List Rw9}{N O O':Nms}{ws:List Int}:N.lookup n=none→TO rs (N++[(n,(x,w))]) O ws O'→TO (.inn n w :: rs) N O (x :: ws) O'
 | out {n:Str}{e:Ex9}{rs:List Rw9}{N O O':Nms}{ws:List Int}:O.lookup n=none→VOK N e→TO rs N (O++[(n,vE N e)]) ws O'→TO (.out n e :: rs) N O ws O'
structure NmL (H:Hp) (na:Addr) (N:Nms) (i:Nat):Prop where
 ex:∃ nk,H na=some (.dK nk)∧NmAt H N nk∧nk.length≤i
theorem NmL.s {H:Hp}{na:Addr}{N:Nms}{i:Nat} (h:NmL H na N i):NmS H na N:=let ⟨nk,a,b,_⟩:=h.ex; ⟨nk,a,b⟩
theorem NmL.ch {H H':Hp}{na:Addr}{N:Nms}{i:Nat} (h:NmL H na N i) (c:Ch [] H H'):NmL H' na N i:=let ⟨nk,a,b,l⟩:=h.ex; ⟨nk,c.get a (by simp),b.tu (Tu.same c),l⟩
structure TI (H H':Hp) (na us ou wl:Addr) (i:Nat) (N O:Nms) (ws:List Int):Prop where
 c:Ch [] H H'
 f:H na=none∧H ou=none∧H wl=none
 n:NmL H' na N i
 o:NmL H' ou O i
 w:H' wl=some (.lst (ws.map V.int))
 d:na≠ou
 l:ws.length≤1000
theorem zan3 {H:Hp}{N:Nms}{nk:List (Key × V)}{n:Str}{x:VW}{v:V} (h:NmAt H N nk) (e:N.lookup n=none) (pv:PV H x v):NmAt H (N++[(n,x)]) (putK nk (.inr n) v):=by
 have ev:valV nk (.inr n)=none:=by
  rcases zalp h n with ⟨_,z⟩ | ⟨_,_,z,_⟩
  ·exact z
  ·rw [e] at z; cases z
 rw [zaem _ ev]
 exact zabp ⟨rfl,pv⟩ h
section
variable {P:Program}{w:World}{K:PySem.W.Frag}{mg:Str→Option Value}{base:Heap}{f:Addr}{fd:FuncData}{k:Nat}
theorem zaff:bootBuiltins "dict" = some (.type "dict"):=by decide +kernel
theorem zafg:("dict" : Str) ≠ "__name__" := by decide +kernel
theorem zafh:Nd "dict" := by decide +kernel
theorem av42m1:AF (defScope (inClass (top 42) 1)) ["self", "fed", "named", "used", "outs", "waiting", "row", "inner_fed"]:=⟨by decide +kernel⟩
theorem gl42m1:AG (defScope (inClass (top 42) 1)) ["dict", "list", "value_of"]:=⟨by decide +kernel⟩
def zadz:Scope:={ kind:=PySem.ScopeKind.function,names:=[ (PySem.Str.ofString ".0",PySem.NameKind.local),(PySem.Str.ofString "expr",PySem.NameKind.local),(PySem.Str.ofString "value_of",PySem.NameKind.globalImplicit),(PySem.Str.ofString "named",PySem.NameKind.free),(PySem.Str.ofString "used",PySem.NameKind.free)],isGenerator:=false,isCoroutine:=false,more:=[]:PySem.Scope }
theorem zaho:CompOk zadz (defScope (inClass (top 42) 1)) (["expr"]:List Str) (["self", "fed", "named", "used", "outs", "waiting", "row", "inner_fed"]:List Str) [2,3] (["expr", "named", "used"]:List Str):=compOk rfl (by decide +kernel) (by decide +kernel) (by decide +kernel) (by decide +kernel) rfl (by decide +kernel)
theorem zahp:AK (relab zadz (defScope (inClass (top 42) 1))) ["expr"]:=⟨by decide +kernel⟩
theorem zalw:AG (relab zadz (defScope (inClass (top 42) 1))) ["value_of"]:=⟨by decide +kernel⟩
theorem zafi:AV (relab zadz (defScope (inClass (top 42) 1))) ["expr", "named", "used"]:=⟨by decide +kernel⟩
def spF2:Sp:=fun vs _ _ _=>vs.length=2∧False
structure TlQ (H:Hp) (O:Nms) (Q:VK):Prop where
 y:∀ o H',Ch [] H H'→NmL H' o O 1000→Q (.ref o) H'
def spTl (CT:Addr):Sp:=fun vs H Q _=>∃ (x fd:Addr) (rows:List Rw9) (xs:List Int) (O:Nms),vs=[.ref x,.ref fd]∧StAt CT H x rows∧IOs rows∧H fd=some (.lst (xs.map V.int))∧xs.length≤1000∧TO rows [] [] xs O∧TlQ H O Q
theorem scTl:FnScope ["self", "fed", "named", "used", "outs", "waiting", "row", "inner_fed"] ["self", "fed"] (defScope (inClass (top 42) 1)):=⟨rfl,rfl,rfl,by decide +kernel,rfl,by decide +kernel,by decide +kernel⟩
theorem zata {CT:Addr} (F:Fun K "tell" "Stage.tell" (inClass (top 42) 1) f fd) (cl:Cls K CT) (n1:NoAttr K CT "rows") (n2:NoAttr K CT "kept") (n3:NoAttr K CT "inner") (n4:NoAttr K CT "coming") (MStage_tell:MethOk P w K mg base CX0 k CT "tell" ["self", "fed"] spF2) (Dvalue_of:DefOk P w K mg base CX0 k "value_of" ["expr", "named", "used"] (spVE 4)) (z_dict:mg "dict" = none) (z_list:mg "list" = none):FnOk P w K mg base CX0 (k + 1) f fd ["self", "fed"] (spTl CT):=by
 have nd:=scTl.nd
 refine F.ok scTl (fun vs H Q E h=>by obtain ⟨x,fd,rows,xs,O,rfl,_⟩:=h; rfl) (fun cdv A outer s H vs Q E hr h=>?_)
 obtain ⟨x,fd,rows,xs,O,rfl,sa,io,hf,xl,to,tq⟩:=h
 have hu:=zacx hr
 refine ⟨_,(Pr.h (zaad (zaaz (i:=2) nd rfl (av42m1.l 2 rfl) (zabf zajq (gl42m1.g 0 rfl) z_dict zaff (zaaa (zaa1 (qv av42m1 0 rfl) rfl) zaac zabd) zafg zafh)) (zaad (zaaz (i:=3) nd rfl (av42m1.l 3 rfl) zabs) (zaad (zaaz (i:=4) nd rfl (av42m1.l 4 rfl) zabs) (zaad (zaaz (i:=5) nd rfl (av42m1.l 5 rfl) (zabf zaef (gl42m1.g 1 rfl) z_list zaco (zaaa (qv av42m1 1 rfl) zaac zaae) zacp zacq)) (zaad (zaby PassesOwn.never rfl (zad6 (zaa1 (qv av42m1 0 rfl) rfl)) (zaa0 (i:=6) nd rfl (av42m1.l 6 rfl)) (zaaf (zaa3 (zaat zab1 (zaai zaaj (qv av42m1 6 rfl) zaab (fun _ _=>rfl)) zaaw (nomark _)) (zaaf (zabm hu (qv av42m1 2 rfl) (zaai zaaj (qv av42m1 6 rfl) zaab (fun _ _=>rfl)) (zaay (zaaa (zafz PySem.F.plainAttrs_list PySem.F.slot_list_pop PySem.F.type_list_pop zamq (qv av42m1 5 rfl) (zaaa zaab zaac zaah)) (zaaa (zaai zaaj (qv av42m1 6 rfl) zaab (fun _ _=>rfl)) zaac zaal) zabt)) rfl)) (zaaf (zaa3 (zaat zab1 (zaai zaaj (qv av42m1 6 rfl) zaab (fun _ _=>rfl)) zaaw (nomark _)) (zaaf (zabm hu (qv av42m1 2 rfl) (zaai zaaj (qv av42m1 6 rfl) zaab (fun _ _=>rfl)) (zaao Dvalue_of hr (gl42m1.g 2 rfl) pass0 (zaaa (zaai zaaj (qv av42m1 6 rfl) zaab (fun _ _=>rfl)) (zaaa (qv av42m1 2 rfl) (zaaa (qv av42m1 3 rfl) zaac zaae) zaae) zaal) zacj) rfl)) (zaaf (zaa3 (zaat zab1 (zaai zaaj (qv av42m1 6 rfl) zaab (fun _ _=>rfl)) zaaw (nomark _)) (zaad (zagk (i:=7) nd rfl (av42m1.l 7 rfl) rfl zaho (zad6 (zaai zaaj (qv av42m1 6 rfl) zaab (fun _ _=>rfl))) (fun _ _ _ _ _=>(zaa0 (i:=0) zaho.nd rfl (Or.inl (zahp.k 0 rfl)) (Or.inr (zahp.k 0 rfl)))) (fun _ _ _ _ _=>zabw) (fun _ _ _ _ _=>(zaai (zaix K rfl) (zaao Dvalue_of hr (zalw.g 0 rfl) pass0 (zaaa (qw zafi 0 rfl) (zaaa (qw zafi 1 rfl) (zaaa (qw zafi 2 rfl) zaac zaae) zaae) zaae) zacj) zaab (fun _ _=>rfl))) rfl) (zaaf (zabm hu (qv av42m1 3 rfl) (zaai zaaj (qv av42m1 6 rfl) zaab (fun _ _=>rfl)) (zada (zacm hu (zaa1 (qv av42m1 0 rfl) rfl) (zaai zaaj (qv av42m1 6 rfl) zaab (fun _ _=>rfl)) (fun _ _=>rfl)) MStage_tell hr pass0 (zaaa (qv av42m1 7 rfl) zaac zaae)) rfl))) (zaaf (zaa3 (zaat zab1 (zaai zaaj (qv av42m1 6 rfl) zaab (fun _ _=>rfl)) zaaw (nomark _)) (zaaf (zabm hu (zaa1 (qv av42m1 0 rfl) rfl) (zaai zaaj (qv av42m1 6 rfl) zaab (fun _ _=>rfl)) (zaao Dvalue_of hr (gl42m1.g 2 rfl) pass0 (zaaa (zaai zaaj (qv av42m1 6 rfl) zaab (fun _ _=>rfl)) (zaaa (qv av42m1 2 rfl) (zaaa (qv av42m1 3 rfl) zaac zaae) zaae) zaal) zacj) rfl)) (zaaf (zaa3 (zaat zab1 (zaai zaaj (qv av42m1 6 rfl) zaab (fun _ _=>rfl)) zaaw (nomark _)) (zaaf (zabm hu (qv av42m1 4 rfl) (zaai zaaj (qv av42m1 6 rfl) zaab (fun _ _=>rfl)) (zaao Dvalue_of hr (gl42m1.g 2 rfl) pass0 (zaaa (zaai zaaj (qv av42m1 6 rfl) zaab (fun _ _=>rfl)) (zaaa (qv av42m1 2 rfl) (zaaa (qv av42m1 3 rfl) zaac zaae) zaae) zaal) zacj) rfl)) zaau))))))))))) (zaaf (zaan (qv av42m1 4 rfl))))))))),?_⟩
 (try dsimp only [cxOf])
 obtain ⟨dx,rp,ps,kp,ip,cp,sf⟩:=sa.ex
 have so:=sf.o
 have sk:=sf.k
 have fk:=fT_k rp kp ip cp
 have fr:=fT_r rp kp ip cp
 have fc:=fT_c rp kp ip cp
 have fi:=fT_i rp kp ip cp
 have lf:(xs.map V.int).length≤sizeLine:=by rw [List.length_map,sizeLine_eq]; omega
 have sr:=sf.r
 have lp:=Paired.length sf.p
 walk_at "rd"
 rename_i na ha us hus ou ho wl hw
 obtain ⟨o1,o2⟩:=freeU ho
 obtain ⟨o3,o4⟩:=freeU o2
 obtain ⟨w1,w2⟩:=freeU hw
 obtain ⟨w3,w4⟩:=freeU w2
 obtain ⟨w5,w6⟩:=freeU w4
 have t0:TI H (upd (upd (upd (upd H na (.dK [])) us (.dK [])) ou (.dK [])) wl (.lst (xs.map V.int))) na us ou wl 0 [] [] xs :=
  ⟨((Ch.new ha _).trans (Ch.new hus _)).trans ((Ch.new ho _).trans (Ch.new hw _)),⟨ha,o4,w6⟩,⟨[],zacy hw (zacy ho (zacy hus zaag)),.nil,Nat.le_refl _⟩,⟨[],zacy hw zaag,.nil,Nat.le_refl _⟩,zaag,Ne.symm o3,xl⟩
 generalize upd (upd (upd (upd H na (.dK [])) us (.dK [])) ou (.dK [])) wl (.lst (xs.map V.int))=H9 at t0 ⊢
 clear ho o2 hw w2 w4
 refine zais (xs:=ps.map V.ref) (fun i σ H'=>∃ (N O1:Nms) (ws:List Int) (u6 u7:Option V),σ=[some (.ref x),some (.ref fd),some (.ref na),some (.ref us),some (.ref ou),some (.ref wl),u6,u7]∧TO (rows.drop i) N O1 ws O∧TI H H' na us ou wl i N O1 ws) ⟨[],[],xs,_,_,rfl,by rw [List.drop_zero]; exact to,t0⟩ ?_ ?_ ?_
 ·rintro i σ H' hi ⟨N,O1,ws,u6,u7,rfl,_,t⟩
  exact SqT.of (t.c.get sr (by simp))
 ·clear t0 to
  rintro i z σ H' hz ⟨N,O1,ws,u6,u7,rfl,to,t⟩
  rw [List.getElem?_map] at hz
  obtain ⟨p,hq,rfl⟩:=Option.map_eq_some_iff.mp hz
  have il:i < rows.length:=by rw [lp]; exact (List.getElem?_eq_some_iff.mp hq).1
  have i60:i < 60:=by have:=sf.l; omega
  have ra:RwAt H' p rows[i]:=by
   have:=zabx sf.p i il (by omega)
   rw [(List.getElem?_eq_some_iff.mp hq).2] at this
   exact this.tu (Tu.same t.c)
  rw [List.drop_eq_getElem_cons il] at to
  generalize rows[i]=r at ra to
  generalize rows.drop (i + 1)=rest at to
  obtain ⟨nk,gn,nn,ln⟩:=t.n.ex
  obtain ⟨okv,go,no,lo⟩:=t.o.ex
  have gw:=t.w
  have lk:nk.length < sizeLine:=by rw [sizeLine_eq]; omega
  have lk2:okv.length < sizeLine:=by rw [sizeLine_eq]; omega
  cases to with
  | inn en to =>
   rename_i n x0 wi ws
   have ra:H' p=some (.tup [.str "in",.str n,.int wi]):=ra
   have gw:H' wl=some (.lst (V.int x0 :: ws.map V.int)):=gw
   walk_at "rd"
   refine ⟨(show seqIndex? 0 (V.int x0 :: ws.map V.int).length=some 0 by unfold seqIndex?; simp),rfl,?_⟩
   walk_at "rd"
   rename_i T hT
   have hT:upd H' wl (.lst (ws.map V.int)) T=none:=hT
   show TI H (upd (upd (upd H' wl (.lst (ws.map V.int))) T (.tup [.int x0,.int wi])) na (.dK (putK nk (.inr n) (.ref T)))) na us ou wl (i + 1) _ _ _
   have tl:=zaf8 (o:=.lst (ws.map V.int)) gw
   have gT:=zacy (u:=.tup [.int x0,.int wi]) hT (zabc (u:=.lst (ws.map V.int)) (Ne.symm w5) gn)
   have tt:=Tu.new (.tup [.int x0,.int wi]) hT
   have td:=zadc (o:=.dK (putK nk (.inr n) (.ref T))) gT
   exact ⟨Ch.own ha ((Ch.own w6 t.c).trans (Ch.new hT _)),t.f,⟨_,zaag,(zan3 (nn.tu (tl.trans tt)) en ⟨T,rfl,zaag⟩).tu td,by have:=zacv nk (.inr n) (V.ref T); omega⟩,⟨okv,zabc t.d.symm (zacy hT (zabc (Ne.symm w1) go)),no.tu ((tl.trans tt).trans td),by omega⟩,zabc w5 (zacy hT zaag),t.d,by have:=t.l; simp only [List.length_cons] at this; omega⟩
  | out eo vo to =>
   rename_i n e
   obtain ⟨q1,ra,ex⟩:=ra
   have ev:EV 4 H' q1 N e:=⟨ex,vo⟩
   have ns:=t.n.s
   walk_at "rd"
   rename_i v H2 c2 pv
   have tn:=t.n.ch c2
   obtain ⟨nk2,gn2,nn2,ln2⟩:=tn.ex
   have go2:=c2.get go (by simp)
   have td:=zadc (o:=.dK (putK okv (.inr n) (.ref v))) go2
   have no2:=no.tu (Tu.same c2)
   exact ⟨Ch.own o4 (t.c.trans c2),t.f,⟨nk2,zabc t.d gn2,nn2.tu td,by omega⟩,⟨_,zaag,(zan3 no2 eo ⟨v,rfl,pv⟩).tu td,by have:=zacv okv (.inr n) (V.ref v); omega⟩,zabc w1 (c2.get gw (by simp)),t.d,t.l⟩
 ·rintro σ H' ⟨N,O1,ws,u6,u7,rfl,to,t⟩
  rw [List.length_map,← lp,List.drop_length] at to
  cases to
  walk_at "rd"
  obtain ⟨okv,go,no,lo⟩:=t.o.ex
  exact tq.y ou H' t.c ⟨okv,go,no,by have:=sf.l; rw [List.length_map] at lo; omega⟩
theorem av42m2:AF (defScope (inClass (top 42) 2)) ["self", "stage"]:=⟨by decide +kernel⟩
def spF1:Sp:=fun vs _ _ _=>vs.length=1∧False
def spMv (CT:Addr):Sp:=fun vs H Q _=>∃ (x:Addr) (rows:List Rw9),vs=[.ref x]∧StAt CT H x rows∧∀ H',Ch [] H H'→Q .non H'
theorem scMv:FnScope ["self", "stage"] ["self"] (defScope (inClass (top 42) 2)):=⟨rfl,rfl,rfl,by decide +kernel,rfl,by decide +kernel,by decide +kernel⟩
theorem zatb {CT:Addr} (F:Fun K "move" "Stage.move" (inClass (top 42) 2) f fd) (cl:Cls K CT) (n2:NoAttr K CT "kept") (n3:NoAttr K CT "inner") (n4:NoAttr K CT "coming") (MStage_move:MethOk P w K mg base CX0 k CT "move" ["self"] spF1):FnOk P w K mg base CX0 (k + 1) f fd ["self"] (spMv CT):=by
 have nd:=scMv.nd
 refine F.ok scMv (fun vs H Q E h=>by obtain ⟨x,rows,rfl,_⟩:=h; rfl) (fun cdv A outer s H vs Q E hr h=>?_)
 obtain ⟨x,rows,rfl,sa,q⟩:=h
 have hu:=zacx hr
 refine ⟨_,(Pr.h (zaad (zack (zafz PySem.F.plainAttrs_dict PySem.F.slot_dict_update PySem.F.type_dict_update zaq8 (zaa1 (qv av42m2 0 rfl) rfl) (zaaa (zaa1 (qv av42m2 0 rfl) rfl) zaac zabd))) (zaaf (zagl (zaby PassesOwn.never rfl (zai1 (zaf4 (zaa1 (qv av42m2 0 rfl) rfl))) (zaa0 (i:=1) nd rfl (av42m2.l 1 rfl)) (zaaf (zack (zad9 (qv av42m2 1 rfl) MStage_move hr pass0)))))))),?_⟩
 (try dsimp only [cxOf])
 obtain ⟨dx,rp,ps,kp,ip,cp,sf⟩:=sa.ex
 have so:=sf.o
 have sk:=sf.k
 have sc:=sf.c
 have si:=sf.i
 have ne:=sf.ne
 have fk:=fT_k rp kp ip cp
 have fc:=fT_c rp kp ip cp
 have fi:=fT_i rp kp ip cp
 walk_at "rd"
 refine ⟨.inr (.inr (.inl ⟨rfl,.inl ⟨_,sk⟩⟩)),?_⟩
 have l0:([]:List (Key × V)).length + ([]:List (Key × V)).length≤sizeLine:=by decide
 walk_at "rd"
 have c1:Ch [] H (upd H kp (.dK (upK [] []))):=Ch.same sk
 generalize upd H kp (.dK (upK [] []))=H1 at c1 ⊢
 have si1:=c1.get si (by simp)
 refine ⟨.inr (.inr (.inl ⟨rfl,.inl ⟨_,si1⟩⟩)),?_⟩
 walk_at "rd"
 rename_i v hv ob
 have c2:Ch [] H1 (upd H1 v (ViewO v ip)):=Ch.new hv _
 generalize upd H1 v (ViewO v ip)=H2 at c2 ⊢
 have si2:=c2.get si1 (by simp)
 refine zak6 (kvs:=[]) (fun i σ H'=>H'=upd H2 ip (.frz ob (.dK []))) rfl ?_ ?_ ?_
 ·rintro i σ H' hi rfl
  exact zaag
 ·rintro i kv σ H' hk
  cases hk
 ·rintro σ H' rfl
  refine ⟨ip,ob,[],zaag,fun b u z=>?_,?_⟩
  ·rw [si] at z; cases z
  ·rw [zajy]
   exact q _ ((c1.trans c2).trans (Ch.same si2))
theorem av42m3:AF (defScope (inClass (top 42) 3)) ["self", "ahead", "pairs", "name", "stage"]:=⟨by decide +kernel⟩
def zafj:Scope:={ kind:=PySem.ScopeKind.function,names:=[ (PySem.Str.ofString ".0",PySem.NameKind.local),(PySem.Str.ofString "name",PySem.NameKind.local),(PySem.Str.ofString "pair",PySem.NameKind.local),(PySem.Str.ofString "ahead",PySem.NameKind.free)],isGenerator:=false,isCoroutine:=false,more:=[]:PySem.Scope }
theorem zafk:CompOk zafj (defScope (inClass (top 42) 3)) (["name", "pair"]:List Str) (["self", "ahead", "pairs", "name", "stage"]:List Str) [1] (["name", "pair", "ahead"]:List Str):=compOk rfl (by decide +kernel) (by decide +kernel) (by decide +kernel) (by decide +kernel) rfl (by decide +kernel)
theorem zad0:AK (relab zafj (defScope (inClass (top 42) 3))) ["name", "pair"]:=⟨by decide +kernel⟩
theorem zafl:AV (relab zafj (defScope (inClass (top 42) 3))) ["name", "pair", "ahead"]:=⟨by decide +kernel⟩
def spPa (CT:Addr):Sp:=fun vs H Q _=>∃ (x t:Addr) (rows:List Rw9),vs=[.ref x,.ref t]∧StAt CT H x rows∧H t=some (.tup [])∧∀ p H',Ch [] H H'→H' p=some (.lst [])→Q (.ref p) H'
theorem scPa:FnScope ["self", "ahead", "pairs", "name", "stage"] ["self", "ahead"] (defScope (inClass (top 42) 3)):=⟨rfl,rfl,rfl,by decide +kernel,rfl,by decide +kernel,by decide +kernel⟩
theorem zatc {CT:Addr} (F:Fun K "paths" "Stage.paths" (inClass (top 42) 3) f fd) (cl:Cls K CT) (n2:NoAttr K CT "kept") (n3:NoAttr K CT "inner") (MStage_paths:MethOk P w K mg base CX0 k CT "paths" ["self", "ahead"] spF2):FnOk P w K mg base CX0 (k + 1) f fd ["self", "ahead"] (spPa CT):=by
 have nd:=scPa.nd
 refine F.ok scPa (fun vs H Q E h=>by obtain ⟨x,t,rows,rfl,_⟩:=h; rfl) (fun cdv A outer s H vs Q E hr h=>?_)
 obtain ⟨x,t,rows,rfl,sa,ht,q⟩:=h
 have hu:=zacx hr
 refine ⟨_,(Pr.h (zaad (zagl (zagk (i:=2) nd rfl (av42m3.l 2 rfl) rfl zafk (zahk (zafa (zaa1 (qv av42m3 0 rfl) rfl))) (fun _ _ _ _ _=>(zadi K 2 rfl rfl (zaa7 (zaa0 (i:=0) zafk.nd rfl (Or.inl (zad0.k 0 rfl)) (Or.inr (zad0.k 0 rfl))) (zaa7 (zaa0 (i:=1) zafk.nd rfl (Or.inl (zad0.k 1 rfl)) (Or.inr (zad0.k 1 rfl))) zacb)))) (fun _ _ _ _ _=>zabw) (fun _ _ _ _ _=>(zaay (zaaa (zaam (zam8 K rfl) (qw zafl 2 rfl) (zaay (zaaa (qw zafl 0 rfl) zaac zaae))) (zaaa (zaai (zaix K rfl) (qw zafl 1 rfl) zaab (fun _ _=>rfl)) zaac zaal) zaa2))) rfl)) (zaad (zagl (zaby PassesOwn.never rfl (zahk (zafa (zaa1 (qv av42m3 0 rfl) rfl))) (zagj rfl (zaa7 (zaa0 (i:=3) nd rfl (av42m3.l 3 rfl)) (zaa7 (zaa0 (i:=4) nd rfl (av42m3.l 4 rfl)) zacb))) (zaaf (zack (zafz PySem.F.plainAttrs_list PySem.F.slot_list_extend PySem.F.type_list_extend zaki (qv av42m3 2 rfl) (zaaa (zada (qv av42m3 4 rfl) MStage_paths hr pass0 (zaaa (zaam zak9 (qv av42m3 1 rfl) (zaay (zaaa (qv av42m3 3 rfl) zaac zaae))) zaac zaa2)) zaac zabt)))))) (zaaf (zaan (qv av42m3 2 rfl)))))),?_⟩
 (try dsimp only [cxOf])
 obtain ⟨dx,rp,ps,kp,ip,cp,sf⟩:=sa.ex
 have so:=sf.o
 have sk:=sf.k
 have si:=sf.i
 have fk:=fT_k rp kp ip cp
 have fi:=fT_i rp kp ip cp
 walk_at "rd"
 refine ⟨.inr (.inr (.inl ⟨rfl,.inl ⟨_,sk⟩⟩)),?_⟩
 walk_at "rd"
 rename_i v hv ob
 have c2:Ch [] H (upd H v (ItemO v kp)):=Ch.new hv _
 generalize upd H v (ItemO v kp)=H2 at c2 ⊢
 have sk2:=c2.get sk (by simp)
 refine zaju [] (fun i ys σ H'=>ys=[]∧H'=upd H2 kp (.frz ob (.dK []))) (by rw [sizeLine_eq]; decide) ⟨rfl,rfl⟩ ?_ ?_ ?_
 ·rintro i ys σ H' hi ⟨rfl,rfl⟩
  exact ⟨Nat.zero_le _,zaag⟩
 ·rintro i ys σ H' kv T hk
  cases hk
 ·rintro ys σ H' ⟨rfl,rfl⟩
  walk_at "rd"
  rename_i pl hpl
  obtain ⟨n1,hp2⟩:=freeU hpl
  refine ⟨fun b u z=>(by rw [sk] at z; cases z),?_⟩
  have c3:Ch [] H2 (upd (upd (upd H2 kp (.frz ob (.dK []))) pl (.lst [])) kp (.dK [])):=fun b u e _=>by
   by_cases z:b=kp
   ·subst z; rw [zaag,← sk2,e]
   ·rw [zaak z,zaak (zaa8 e hp2),zaak z]; exact e
  have g3:(upd (upd (upd H2 kp (.frz ob (.dK []))) pl (.lst [])) kp (.dK [])) pl=some (.lst []):=by rw [zaak n1,zaag]
  generalize upd (upd (upd H2 kp (.frz ob (.dK []))) pl (.lst [])) kp (.dK [])=H3 at c3 g3 ⊢
  have so3:=c3.get (c2.get so (by simp)) (by simp)
  have si3:=c3.get (c2.get si (by simp)) (by simp)
  clear so si
  walk_at "rd"
  refine ⟨.inr (.inr (.inl ⟨rfl,.inl ⟨_,si3⟩⟩)),?_⟩
  walk_at "rd"
  rename_i v4 hv4 ob4
  have c4:Ch [] H3 (upd H3 v4 (ItemO v4 ip)):=Ch.new hv4 _
  generalize upd H3 v4 (ItemO v4 ip)=H4 at c4 ⊢
  have si4:=c4.get si3 (by simp)
  refine zajt (kvs:=[]) (fun i σ H'=>(∃ u3 u4,σ=[some (.ref x),some (.ref t),some (.ref pl),u3,u4])∧H'=upd H4 ip (.frz ob4 (.dK []))) ⟨⟨_,_,rfl⟩,rfl⟩ ?_ ?_ ?_
  ·rintro i σ H' hi ⟨_,rfl⟩
   exact zaag
  ·rintro i kv σ H' T hk
   cases hk
  ·rintro σ H' ⟨⟨u3,u4,rfl⟩,rfl⟩
   refine ⟨ip,ob4,[],zaag,fun b u z=>(by rw [sf.i] at z; cases z),?_⟩
   rw [zajy]
   have c5:Ch [] H4 (upd H4 ip (.dK [])):=Ch.same si4
   walk_at "rd"
   exact q pl _ (((c2.trans c3).trans c4).trans c5) (c5.get (c4.get g3 (by simp)) (by simp))
end
end

section
local macro_rules | `(tactic| walk_at "user")=>`(tactic| first
 | (apply zael; walk_at "get")
 | (apply zabj; (focus walk_at "get"); (focus with_reducible assumption))
 | (apply zabk; (focus walk_at "get"); (focus with_reducible assumption))
 | (apply dputS; (focus walk_at "get"); (focus with_reducible assumption)))
def fldsC (wl st:Addr):List (Str × V):=[("wides",.ref wl),("stage",.ref st)]
theorem fC_w (wl st:Addr):List.lookup (Str.ofString "wides") (fldsC wl st)=some (.ref wl):=rfl
theorem fC_s (wl st:Addr):List.lookup (Str.ofString "stage") (fldsC wl st)=some (.ref st):=rfl
structure ScAt (CC CT:Addr) (H:Hp) (x:Addr) (ws:List Int) (rows:List Rw9):Prop where
 ex:∃ dx wl st,H x=some (.ins CC dx (fldsC wl st))∧H wl=some (.lst (ws.map V.int))∧StAt CT H st rows
theorem ScAt.ch {CC CT:Addr}{H H':Hp}{x:Addr}{ws:List Int}{rows:List Rw9} (h:ScAt CC CT H x ws rows) (c:Ch [] H H'):ScAt CC CT H' x ws rows:=let ⟨dx,wl,st,a,b,d⟩:=h.ex; ⟨dx,wl,st,c.get a (by simp),c.get b (by simp),d.ch c⟩
theorem StAt.put {CT C dx x st:Addr}{H:Hp}{rows:List Rw9}{fs:List (Str × V)}{o:HO} (h:StAt CT H st rows) (hx:H x=some (.ins C dx fs)) (n:st≠x):StAt CT (upd H x o) st rows:=by
 obtain ⟨dx,rp,ps,kp,ip,cp,f⟩:=h.ex
 have tu:Tu H (upd H x o):=Tu.ch Ch.put hx (fun xs z=>by cases z)
 exact ⟨dx,rp,ps,kp,ip,cp,zabc n f.o,tu _ _ f.r,zaax (fun _ _=>RwAt.tu tu) f.p,f.l,zabc (zab9 f.k hx (by intro z; cases z)) f.k,zabc (zab9 f.i hx (by intro z; cases z)) f.i,zabc (zab9 f.c hx (by intro z; cases z)) f.c,f.ne⟩
section
variable {P:Program}{w:World}{K:PySem.W.Frag}{mg:Str→Option Value}{base:Heap}{f:Addr}{fd:FuncData}{k:Nat}
theorem zanf:Nd "faces" := by decide +kernel
theorem zagu:Nd "ask_values" := by decide +kernel
theorem av43m0:AF (defScope (inClass (top 43) 0)) ["self", "modules", "by_name", "module"]:=⟨by decide +kernel⟩
theorem gl43m0:AG (defScope (inClass (top 43) 0)) ["faces", "Stage"]:=⟨by decide +kernel⟩
def zafm:Scope:={ kind:=PySem.ScopeKind.function,names:=[ (PySem.Str.ofString ".0",PySem.NameKind.local),(PySem.Str.ofString "name",PySem.NameKind.local),(PySem.Str.ofString "wide",PySem.NameKind.local)],isGenerator:=false,isCoroutine:=false,more:=[]:PySem.Scope }
theorem zafn:CompOk zafm (defScope (inClass (top 43) 0)) (["name", "wide"]:List Str) (["self", "modules", "by_name", "module"]:List Str) [] (["name", "wide"]:List Str):=compOk rfl (by decide +kernel) (by decide +kernel) (by decide +kernel) (by decide +kernel) rfl (by decide +kernel)
theorem zad1:AK (relab zafm (defScope (inClass (top 43) 0))) ["name", "wide"]:=⟨by decide +kernel⟩
theorem zalx:AV (relab zafm (defScope (inClass (top 43) 0))) ["name", "wide"]:=⟨by decide +kernel⟩
def spSc (CM CC CT:Addr):Sp:=fun vs H Q _=>∃ (x dx ml mp:Addr) (nm:Str) (rows:List Rw9) (S:S9),vs=[.ref x,.ref ml]∧H x=some (.ins CC dx [])∧H ml=some (.lst [.ref mp])∧MoAt CM H mp nm rows∧RunY rows S∧IOs rows∧S.ic.length≤100∧∀ H',Ch [x] H H'→ScAt CC CT H' x (S.ic.map (·.2)) rows→Q .non H'
theorem scSc:FnScope ["self", "modules", "by_name", "module"] ["self", "modules"] (defScope (inClass (top 43) 0)):=⟨rfl,rfl,rfl,by decide +kernel,rfl,by decide +kernel,by decide +kernel⟩
theorem zatd {CM CC CT:Addr} (F:Fun K "__init__" "Scene.__init__" (inClass (top 43) 0) f fd) (cl:Cls K CC) (cm:Cls K CM) (nN:NoAttr K CM "name") (nR:NoAttr K CM "rows") (n1:NoAttr K CC "wides") (n2:NoAttr K CC "stage") (MkStage:MakeOk P w K mg base CX0 k CT "Stage" ["self", "name", "modules"] (spSt CM CT)) (Dfaces:DefOk P w K mg base CX0 (k + 1) "faces" ["modules"] (spFac CM)):FnOk P w K mg base CX0 (k + 2) f fd ["self", "modules"] (spSc CM CC CT):=by
 have nd:=scSc.nd
 refine F.ok scSc (fun vs H Q E h=>by obtain ⟨x,dx,ml,mp,nm,rows,S,rfl,_⟩:=h; rfl) (fun cdv A outer s H vs Q E hr h=>?_)
 obtain ⟨x,dx,ml,mp,nm,rows,S,rfl,hx,hl,mo,ry,io,sl,q⟩:=h
 have hu:=zacx hr
 have hrm:=hr
 refine ⟨_,(Pr.h (zaad (zab4 (qv av43m0 0 rfl) (zacc rfl zafn (zac6 (zaai zaaj (zaao Dfaces hr (gl43m0.g 0 rfl) pass0 (zaaa (qv av43m0 1 rfl) zaac zaae) zanf) zaab (fun _ _=>rfl))) (fun _ _ _ _ _=>(zadi K 2 rfl rfl (zaa7 (zaa0 (i:=0) zafn.nd rfl (Or.inl (zad1.k 0 rfl)) (Or.inr (zad1.k 0 rfl))) (zaa7 (zaa0 (i:=1) zafn.nd rfl (Or.inl (zad1.k 1 rfl)) (Or.inr (zad1.k 1 rfl))) zacb)))) (fun _ _ _ _ _=>zabw) (fun _ _ _ _ _=>(qw zalx 1 rfl))) rfl) (zaad (zaaz (i:=2) nd rfl (av43m0.l 2 rfl) zabs) (zaad (zaby PassesOwn.never rfl (zac6 (qv av43m0 1 rfl)) (zaa0 (i:=3) nd rfl (av43m0.l 3 rfl)) (zaaf (zabm hu (qv av43m0 2 rfl) (zaa1 (qv av43m0 3 rfl) rfl) (qv av43m0 3 rfl) rfl))) (zaaf (zab4 (qv av43m0 0 rfl) (zadb MkStage hrm (gl43m0.g 1 rfl) pass0 (zaaa (zaa1 (zaai zaav (qv av43m0 1 rfl) (zaks zaj6 zaab) (fun _ _=>rfl)) rfl) (zaaa (qv av43m0 2 rfl) zaac zaae) zabd) zai5) rfl)))))),?_⟩
 (try dsimp only [cxOf])
 walk_at "rd"
 rename_i T l0 l1 ys H1 c1 g1 g0 yc
 have ly:=Paired.length yc
 refine zae7 ys (fun i zs σ H'=>Ch [] H1 H'∧zs=(S.ic.take i).map (fun a=>V.int a.2)∧∃ u v,σ=[u,v]) (by rw [sizeLine_eq]; omega) ⟨Ch.refl _ _,rfl,_,_,rfl⟩ ?_ ?_ ?_
 ·rintro i zs σ H' hi ⟨c,rfl,_⟩
  exact ⟨by rw [List.length_map,List.length_take]; omega,SqL.of (c.get g0 (by simp))⟩
 ·rintro i zs σ H' z hz ⟨c,rfl,u,v,rfl⟩
  have il:i < S.ic.length:=by rw [ly]; exact (List.getElem?_eq_some_iff.mp hz).1
  obtain ⟨p,ep,hp⟩:∃ p,z=.ref p∧H1 p=some (.tup [.str S.ic[i].1,.int S.ic[i].2]):=by
   have:=zabx yc i il (by omega)
   rw [(List.getElem?_eq_some_iff.mp hz).2] at this
   exact this
  subst ep
  have hp2:=c.get hp (by simp)
  walk_at "rd"
  refine ⟨?_,_,_,rfl⟩
  rw [List.take_add_one,List.getElem?_eq_getElem il,List.map_append]
  rfl
 ·rintro zs σ H2 ⟨c2,rfl,_⟩
  rw [← ly,List.take_length]
  intro D hD
  have c12:=c1.trans c2
  have hx2:=c12.get hx (by simp)
  have hl2:=c12.get hl (by simp)
  have gD:(upd H2 D (.lst (S.ic.map fun a=>V.int a.2))) D=some (.lst ((S.ic.map (·.2)).map V.int)):=by rw [zaag,List.map_map]; rfl
  have c3:Ch [] H2 (upd H2 D (.lst (S.ic.map fun a=>V.int a.2))):=Ch.new hD _
  have nD:D≠x:=(zaa8 hx2 hD).symm
  have fD:H D=none:=chFree c12 hD
  generalize upd H2 D (.lst (S.ic.map fun a=>V.int a.2))=H3 at gD c3 ⊢
  have hx3:=c3.get hx2 (by simp)
  have hl3:=c3.get hl2 (by simp)
  have c13:=c12.trans c3
  have mo3:=mo.ch c13
  clear hx2 hl2 hD
  walk_at "rd"
  rename_i bn hbn
  obtain ⟨b1,b2⟩:=freeU hbn
  obtain ⟨dm,rp,ps,ma,mb,md,me⟩:=mo3.ex
  have nmx:mp≠x:=fun z=>by
   rw [z,hx3] at ma
   cases ma
  have nlx:ml≠x:=fun z=>by rw [z,hx3] at hl3; cases hl3
  have nDx:D≠x:=nD
  have tu5:Tu H3 (upd (upd H3 x (.ins CC dx (putF "wides" (.ref D) []))) bn (.dK [])):=(Tu.ch Ch.put hx3 (fun xs z=>by cases z)).trans (Tu.new _ hbn)
  have c5:Ch [x] H3 (upd (upd H3 x (.ins CC dx (putF "wides" (.ref D) []))) bn (.dK [])):=Ch.put.trans (Ch.new hbn _)
  have gx5:(upd (upd H3 x (.ins CC dx (putF "wides" (.ref D) []))) bn (.dK [])) x=some (.ins CC dx (putF "wides" (.ref D) [])):=zacy hbn zaag
  have gb5:(upd (upd H3 x (.ins CC dx (putF "wides" (.ref D) []))) bn (.dK [])) bn=some (.dK []):=zaag
  generalize upd (upd H3 x (.ins CC dx (putF "wides" (.ref D) []))) bn (.dK [])=H5 at tu5 c5 gx5 gb5 ⊢
  have gD5:=c5.get gD (by simpa using nDx)
  have hl5:=c5.get hl3 (by simpa using nlx)
  have ma5:=c5.get ma (by simpa using nmx)
  have mb5:=tu5 _ _ mb
  have md5:Paired (fun r p=>RwAt H5 p r) rows ps:=zaax (fun _ _=>RwAt.tu tu5) md
  have fn:=fM_n nm (.ref rp)
  have lz:([]:List (Key × V)).length < sizeLine:=by rw [sizeLine_eq]; decide
  refine zahd (xs:=[V.ref mp]) (fun i σ H'=>∃ u3,σ=[some (.ref x),some (.ref ml),some (.ref bn),u3]∧(i=0→H'=H5)∧(i=1→H'=upd H5 bn (.dK [(.inr nm,.ref mp)]))) ⟨_,rfl,fun _=>rfl,fun z=>absurd z (by decide)⟩ ?_ ?_ ?_
  ·rintro i σ H' hi ⟨u3,rfl,e0,e1⟩
   have hi:i≤1:=hi
   rcases (show i=0∨i=1 by omega) with h | h
   ·rw [e0 h]; exact SqL.of hl5
   ·rw [e1 h]; exact SqL.of (zabc (zab9 hl5 gb5 (by intro z; cases z)) hl5)
  ·rintro i z σ H' hz ⟨u3,rfl,e0,e1⟩
   have i0:i=0:=by
    cases i with
    | zero=>rfl
    | succ i=>cases hz
   subst i0
   have hz:V.ref mp=z:=by simpa using hz
   subst hz
   have e0:=e0 rfl
   subst e0
   walk_at "rd"
  ·rintro σ H' ⟨u3,rfl,e0,e1⟩
   have e1:=e1 rfl
   subst e1
   have nb:=zab9 ma5 gb5 (by intro z; cases z)
   have c6:Ch [bn] H5 (upd H5 bn (.dK [(.inr nm,.ref mp)])):=Ch.put
   have tu6:=zadc (o:=.dK [(.inr nm,.ref mp)]) gb5
   have gx6:=c6.get gx5 (by simpa using b1.symm)
   have gD6:=c6.get gD5 (by simpa using zab9 gD5 gb5 (by intro z; cases z))
   have hl6:=c6.get hl5 (by simpa using zab9 hl5 gb5 (by intro z; cases z))
   have ma6:=c6.get ma5 (by simpa using nb)
   have mo6:MoAt CM (upd H5 bn (.dK [(.inr nm,.ref mp)])) mp nm rows:=⟨dm,rp,ps,ma6,tu6 _ _ mb5,zaax (fun _ _=>RwAt.tu tu6) md5,me⟩
   have gb6:(upd H5 bn (.dK [(.inr nm,.ref mp)])) bn=some (.dK [(.inr nm,.ref mp)]):=zaag
   have c06:Ch [x] H (upd H5 bn (.dK [(.inr nm,.ref mp)])):=Ch.own (chFree c13 b2) (c13.wk.trans c5)
   generalize upd H5 bn (.dK [(.inr nm,.ref mp)])=H6 at gx6 gD6 hl6 ma6 mo6 gb6 c06 ⊢
   clear gx5 gb5 gD5 hl5 ma5 mb5 md5 c6 tu6 hx3 hl3 gD
   walk_at "rd"
   rename_i st ds hst hds nds
   have c7:Ch [] H6 (upd (upd H6 ds (.own st)) st (.ins CT ds [])):=(Ch.new hds _).trans (Ch.new (by rw [zaak nds.symm]; exact hst) _)
   refine ⟨c7.get gb6 (by simp),mo6.ch c7,io,fun H8 c8 sa=>⟨rfl,?_⟩⟩
   have c68:Ch [] H6 H8:=Ch.made hst hds nds c8
   have gx8:=c68.get gx6 (by simp)
   have gD8:=c68.get gD6 (by simp)
   have nsx:st≠x:=(zaa8 gx6 hst).symm
   clear gx6 gD6
   walk_at "rd"
   exact q _ ((c06.trans c68.wk).trans Ch.put) ⟨dx,D,st,zaag,zabc nDx gD8,sa.put gx8 nsx⟩
theorem gl43m1:AG (defScope (inClass (top 43) 1)) ["ask_values"]:=⟨by decide +kernel⟩
theorem av43m1:AF (defScope (inClass (top 43) 1)) ["self", "row", "outs"]:=⟨by decide +kernel⟩
def zafo:Scope:={ kind:=PySem.ScopeKind.function,names:=[ (PySem.Str.ofString ".0",PySem.NameKind.local),(PySem.Str.ofString "value",PySem.NameKind.local),(PySem.Str.ofString "wide",PySem.NameKind.local)],isGenerator:=false,isCoroutine:=false,more:=[]:PySem.Scope }
theorem zafp:CompOk zafo (defScope (inClass (top 43) 1)) (["value", "wide"]:List Str) (["self", "row", "outs"]:List Str) [] (["value", "wide"]:List Str):=compOk rfl (by decide +kernel) (by decide +kernel) (by decide +kernel) (by decide +kernel) rfl (by decide +kernel)
theorem zad2:AK (relab zafo (defScope (inClass (top 43) 1))) ["value", "wide"]:=⟨by decide +kernel⟩
theorem zaly:AV (relab zafo (defScope (inClass (top 43) 1))) ["value", "wide"]:=⟨by decide +kernel⟩
def spBe (CC CT:Addr):Sp:=fun vs H Q _=>∃ (x rw:Addr) (rows:List Rw9) (xs ws:List Int) (O:Nms),vs=[.ref x,.ref rw]∧ScAt CC CT H x ws rows∧IOs rows∧H rw=some (.lst (xs.map V.int))∧xs.length≤1000∧Paired VWs xs ws∧TO rows [] [] xs O∧∀ p H',Ch [] H H'→H' p=some (.lst (O.map fun a=>V.int a.2.1))→Q (.ref p) H'
theorem scBe:FnScope ["self", "row", "outs"] ["self", "row"] (defScope (inClass (top 43) 1)):=⟨rfl,rfl,rfl,by decide +kernel,rfl,by decide +kernel,by decide +kernel⟩
theorem zate {CC CT:Addr} (F:Fun K "beat" "Scene.beat" (inClass (top 43) 1) f fd) (cl:Cls K CC) (n1:NoAttr K CC "wides") (n2:NoAttr K CC "stage") (Dask_values:DefOk P w K mg base CX0 k "ask_values" ["row", "wides"] spValues) (MStage_tell:MethOk P w K mg base CX0 k CT "tell" ["self", "fed"] (spTl CT)) (MStage_move:MethOk P w K mg base CX0 k CT "move" ["self"] (spMv CT)):FnOk P w K mg base CX0 (k + 1) f fd ["self", "row"] (spBe CC CT):=by
 have nd:=scBe.nd
 refine F.ok scBe (fun vs H Q E h=>by obtain ⟨x,rw,rows,xs,ws,O,rfl,_⟩:=h; rfl) (fun cdv A outer s H vs Q E hr h=>?_)
 obtain ⟨x,rw,rows,xs,ws,O,rfl,sa,io,hrw,xl,pw,to,q⟩:=h
 have hu:=zacx hr
 refine ⟨_,(Pr.h (zaad (zack (zaao Dask_values hr (gl43m1.g 0 rfl) pass0 (zaaa (qv av43m1 1 rfl) (zaaa (zaa1 (qv av43m1 0 rfl) rfl) zaac zabd) zaae) zagu)) (zaad (zaaz (i:=2) nd rfl (av43m1.l 2 rfl) (zada (zaa1 (qv av43m1 0 rfl) rfl) MStage_tell hr pass0 (zaaa (qv av43m1 1 rfl) zaac zaae))) (zaad (zack (zad9 (zaa1 (qv av43m1 0 rfl) rfl) MStage_move hr pass0)) (zaaf (zaan (zam6 (zacc rfl zafp (zai1 (zaf4 (qv av43m1 2 rfl))) (fun _ _ _ _ _=>(zadi K 2 rfl rfl (zaa7 (zaa0 (i:=0) zafp.nd rfl (Or.inl (zad2.k 0 rfl)) (Or.inr (zad2.k 0 rfl))) (zaa7 (zaa0 (i:=1) zafp.nd rfl (Or.inl (zad2.k 1 rfl)) (Or.inr (zad2.k 1 rfl))) zacb)))) (fun _ _ _ _ _=>zabw) (fun _ _ _ _ _=>(qw zaly 0 rfl)))))))))),?_⟩
 (try dsimp only [cxOf])
 obtain ⟨dx,wl,st,so,sw,ss⟩:=sa.ex
 have fw:=fC_w wl st
 have fs:=fC_s wl st
 obtain ⟨dx2,rp,ps,kp,ip,cp,sf⟩:=ss.ex
 have sso:=sf.o
 have ft:List.lookup (Str.ofString "tell") (fldsT rp kp ip cp)=none:=rfl
 have fm:List.lookup (Str.ofString "move") (fldsT rp kp ip cp)=none:=rfl
 walk_at "rd"
 rename_i H1 c1
 refine ⟨ss.ch c1,io,c1.get hrw (by simp),xl,to,⟨fun o H2 c2 nm=>?_⟩⟩
 have c12:=c1.trans c2
 have so2:=c12.get so (by simp)
 have sso2:=c12.get sso (by simp)
 have ss2:=ss.ch c12
 clear so sso
 walk_at "rd"
 rename_i H3 c3
 obtain ⟨okv,go,no,lo⟩:=(nm.ch c3).ex
 refine ⟨.inr (.inr (.inl ⟨rfl,.inl ⟨_,go⟩⟩)),?_⟩
 walk_at "rd"
 rename_i v hv ob
 have c4:Ch [] H3 (upd H3 v (ViewO v o)):=Ch.new hv _
 have go4:=c4.get go (by simp)
 have no4:=no.tu (Tu.same c4)
 generalize upd H3 v (ViewO v o)=H4 at c4 go4 no4 ⊢
 have lo2:=Paired.length no4
 have tf:=zadc (o:=.frz ob (.dK okv)) go4
 refine zak7 okv (fun i zs σ H'=>H'=upd H4 o (.frz ob (.dK okv))∧zs=(O.take i).map (fun a=>V.int a.2.1)∧∃ u v,σ=[u,v]) (by rw [sizeLine_eq]; omega) ⟨rfl,rfl,_,_,rfl⟩ ?_ ?_ ?_
 ·rintro i zs σ H' hi ⟨rfl,rfl,_⟩
  exact ⟨by rw [List.length_map,List.length_take]; omega,zaag⟩
 ·rintro i zs σ H' kv hk ⟨rfl,rfl,u,v,rfl⟩
  have il:i < O.length:=by rw [lo2]; exact (List.getElem?_eq_some_iff.mp hk).1
  obtain ⟨p,ep,hp⟩:∃ p,kv.2=.ref p∧H4 p=some (.tup [.int O[i].2.1,.int O[i].2.2]):=by
   have:=zabx no4 i il (by omega)
   rw [(List.getElem?_eq_some_iff.mp hk).2] at this
   exact this.2
  rw [ep]
  have hp2:=tf _ _ hp
  walk_at "rd"
  refine ⟨?_,_,_,rfl⟩
  rw [List.take_add_one,List.getElem?_eq_getElem il,List.map_append]
  rfl
 ·rintro zs σ H' ⟨rfl,rfl,_⟩
  rw [← lo2,List.take_length]
  intro D hD
  obtain ⟨d1,d2⟩:=freeU hD
  have c14:=(c12.trans c3).trans c4
  refine ⟨o,ob,okv,zacy hD zaag,fun b u z=>?_,?_⟩
  ·have:=c14.get z (by simp)
   rw [go4] at this
   cases this
  ·have c5:Ch [] H4 (upd (upd (upd H4 o (.frz ob (.dK okv))) D (.lst (O.map fun a=>V.int a.2.1))) o (.dK okv)):=fun b u e _=>by
    by_cases z:b=o
    ·subst z; rw [zaag,← go4,e]
    ·rw [zaak z,zaak (zaa8 e d2),zaak z]; exact e
   exact q D _ (c14.trans c5) (by rw [zaak d1,zaag])
theorem av43m2:AF (defScope (inClass (top 43) 2)) ["self"]:=⟨by decide +kernel⟩
def spHe (CC CT:Addr):Sp:=fun vs H Q _=>∃ (x:Addr) (rows:List Rw9) (ws:List Int),vs=[.ref x]∧ScAt CC CT H x ws rows∧∀ p H',Ch [] H H'→H' p=some (.lst [])→Q (.ref p) H'
theorem scHe:FnScope ["self"] ["self"] (defScope (inClass (top 43) 2)):=⟨rfl,rfl,rfl,by decide +kernel,rfl,by decide +kernel,by decide +kernel⟩
theorem zatf {CC CT:Addr} (F:Fun K "held" "Scene.held" (inClass (top 43) 2) f fd) (cl:Cls K CC) (n2:NoAttr K CC "stage") (MStage_paths:MethOk P w K mg base CX0 k CT "paths" ["self", "ahead"] (spPa CT)):FnOk P w K mg base CX0 (k + 1) f fd ["self"] (spHe CC CT):=by
 have nd:=scHe.nd
 refine F.ok scHe (fun vs H Q E h=>by obtain ⟨x,rows,ws,rfl,_⟩:=h; rfl) (fun cdv A outer s H vs Q E hr h=>?_)
 obtain ⟨x,rows,ws,rfl,sa,q⟩:=h
 have hu:=zacx hr
 refine ⟨_,(Pr.h (zaaf (zaan (zada (zaa1 (qv av43m2 0 rfl) rfl) MStage_paths hr pass0 (zaaa (zaay zaac) zaac zaa9))))),?_⟩
 (try dsimp only [cxOf])
 obtain ⟨dx,wl,st,so,sw,ss⟩:=sa.ex
 have fs:=fC_s wl st
 obtain ⟨dx2,rp,ps,kp,ip,cp,sf⟩:=ss.ex
 have sso:=sf.o
 have fp:List.lookup (Str.ofString "paths") (fldsT rp kp ip cp)=none:=rfl
 walk_at "rd"
 rename_i t ht
 refine ⟨ss.ch (Ch.new ht _),zaag,fun p H' c hp=>q p H' ((Ch.new ht _).trans c) hp⟩
end
end

section
def dtL:Lf→Dt
 | .nm n=>.seq [.sc (.inr "name"),.sc (.inr n)]
 | .of a b=>.seq [.sc (.inr "of"),.sc (.inr a),.sc (.inr b)]
 | .val v w=>.seq [.sc (.inr "value"),.sc (.inl v),.sc (.inl w)]
def dtE:Ex9→Dt
 | .lf l=>dtL l
 | .un a=>.seq [.sc (.inr "not"),dtE a]
 | .bi w a b=>.seq [.sc (.inr w),dtE a,dtE b]
 | .pick a b c=>.seq [.sc (.inr "pick"),dtE a,dtE b,dtE c]
 | .pt a lw wi=>.seq [.sc (.inr "part"),dtE a,.sc (.inl lw),.sc (.inl wi)]
def dtR:Rw9→Dt
 | .inn n w=>.seq [.sc (.inr "in"),.sc (.inr n),.sc (.inl w)]
 | .keep n w f=>.seq [.sc (.inr "keep"),.sc (.inr n),.sc (.inl w),.sc (.inl f)]
 | .lt n e=>.seq [.sc (.inr "let"),.sc (.inr n),dtE e]
 | .use n m=>.seq [.sc (.inr "use"),.sc (.inr n),.sc (.inr m),.seq []]
 | .nxt n e=>.seq [.sc (.inr "next"),.sc (.inr n),dtE e]
 | .out n e=>.seq [.sc (.inr "out"),.sc (.inr n),dtE e]
theorem dsc {tp:Bool}{n:Nat}{H:Hp} (k:Key):DAt tp (n + 1) H (.sc k) (kV k):=.inl ⟨k,rfl,rfl⟩
theorem dtup {tp:Bool}{n:Nat}{H:Hp}{p:Addr}{ds:List Dt}{xs:List V} (h:H p=some (.tup xs)) (pr:Paired (DAt tp n H) ds xs) (l:xs.length≤300):DAt tp (n + 1) H (.seq ds) (.ref p):=.inr ⟨ds,p,xs,.tuple,rfl,rfl,fun _=>rfl,h,pr,l⟩
theorem LfAt.dat {tp:Bool}{n:Nat}{H:Hp}{p:Addr}{l:Lf} (h:LfAt H p l):DAt tp (n + 2) H (dtL l) (.ref p):=by
 cases l with
 | nm a=>exact dtup h (.cons (dsc (.inr _)) (.cons (dsc (.inr _)) .nil)) (by simp)
 | of a b=>exact dtup h (.cons (dsc (.inr _)) (.cons (dsc (.inr _)) (.cons (dsc (.inr _)) .nil))) (by simp)
 | val v w=>exact dtup h (.cons (dsc (.inr _)) (.cons (dsc (.inl _)) (.cons (dsc (.inl _)) .nil))) (by simp)
theorem zaf9 {α β γ δ:Type}{R:α→β→Prop}{S:γ→δ→Prop}{f:α→γ}{g:β→δ} (h:∀ a b,R a b→S (f a) (g b)):∀ {xs:List α}{ys:List β},Paired R xs ys→Paired S (xs.map f) (ys.map g)
 | _,_,.nil=>.nil
 | _,_,.cons a t=>.cons (h _ _ a) (zaf9 h t)
theorem ExAt.dat {tp:Bool}{H:Hp}:∀ {e:Ex9}{n:Nat}{p:Addr},ExAt H p e→e.deep + 2≤n→DAt tp n H (dtE e) (.ref p)
 | .lf l,n + 2,p,h,_=>LfAt.dat h
 | .un a,n + 2,p,h,d=>by
  obtain ⟨q,x,y⟩:=h
  have d:a.deep + 1 + 2≤n + 2:=d
  exact dtup (n:=n + 1) x (.cons (dsc (.inr _)) (.cons (ExAt.dat y (by omega)) .nil)) (by simp)
 | .bi w a b,n + 2,p,h,d=>by
  obtain ⟨q,r,x,y,z,_⟩:=h
  have d:max a.deep b.deep + 1 + 2≤n + 2:=d
  exact dtup (n:=n + 1) x (.cons (dsc (.inr _)) (.cons (ExAt.dat y (by omega)) (.cons (ExAt.dat z (by omega)) .nil))) (by simp)
 | .pick a b c,n + 2,p,h,d=>by
  obtain ⟨q,r,s,x,y,z,u⟩:=h
  have d:max a.deep (max b.deep c.deep) + 1 + 2≤n + 2:=d
  exact dtup (n:=n + 1) x (.cons (dsc (.inr _)) (.cons (ExAt.dat y (by omega)) (.cons (ExAt.dat z (by omega)) (.cons (ExAt.dat u (by omega)) .nil)))) (by simp)
 | .pt a lw wi,n + 2,p,h,d=>by
  obtain ⟨q,x,y⟩:=h
  have d:a.deep + 1 + 2≤n + 2:=d
  exact dtup (n:=n + 1) x (.cons (dsc (.inr _)) (.cons (ExAt.dat y (by omega)) (.cons (dsc (.inl _)) (.cons (dsc (.inl _)) .nil)))) (by simp)
theorem RwAt.dat {tp:Bool}{n:Nat}{H:Hp}{p:Addr}{r:Rw9} (h:RwAt H p r):DAt tp (n + 7) H (dtR r) (.ref p):=by
 cases r with
 | inn a w=>exact dtup h (.cons (dsc (.inr _)) (.cons (dsc (.inr _)) (.cons (dsc (.inl _)) .nil))) (by simp)
 | keep a w f=>exact dtup h.1 (.cons (dsc (.inr _)) (.cons (dsc (.inr _)) (.cons (dsc (.inl _)) (.cons (dsc (.inl _)) .nil)))) (by simp)
 | lt a e=>obtain ⟨q,a,b⟩:=h; exact dtup a (.cons (dsc (.inr _)) (.cons (dsc (.inr _)) (.cons (b.h.dat (by have:=b.d; omega)) .nil))) (by simp)
 | use a m=>obtain ⟨q,a,b⟩:=h; exact dtup a (.cons (dsc (.inr _)) (.cons (dsc (.inr _)) (.cons (dsc (.inr _)) (.cons (dtup b .nil (by simp)) .nil)))) (by simp)
 | nxt a e=>obtain ⟨q,a,b⟩:=h; exact dtup a (.cons (dsc (.inr _)) (.cons (dsc (.inr _)) (.cons (b.h.dat (by have:=b.d; omega)) .nil))) (by simp)
 | out a e=>obtain ⟨q,a,b⟩:=h; exact dtup a (.cons (dsc (.inr _)) (.cons (dsc (.inr _)) (.cons (b.h.dat (by have:=b.d; omega)) .nil))) (by simp)
def XC:Ex9→Prop
 | .lf _=>True
 | .un a=>XC a
 | .bi w a b=>w∈BIW∧XC a∧XC b
 | .pick a b c=>XC a∧XC b∧XC c
 | .pt a _ _=>XC a
def RC:Rw9→Prop
 | .keep _ w _=>w≤10000
 | .lt _ e=>XC e∧XOk e∧e.deep < 4
 | .nxt _ e=>XC e∧XOk e∧e.deep < 4
 | .out _ e=>XC e∧XOk e∧e.deep < 4
 | _=>True
theorem ExAt.xc {H:Hp}:∀ {e:Ex9}{p:Addr},ExAt H p e→XC e
 | .lf l,p,_=>trivial
 | .un a,p,h=>let ⟨q,_,y⟩:=h; ExAt.xc (e:=a) y
 | .bi w a b,p,h=>let ⟨q,r,_,y,z,o⟩:=h; ⟨o,ExAt.xc y,ExAt.xc z⟩
 | .pick a b c,p,h=>let ⟨q,r,s,_,y,z,u⟩:=h; ⟨ExAt.xc y,ExAt.xc z,ExAt.xc u⟩
 | .pt a lw wi,p,h=>let ⟨q,_,y⟩:=h; ExAt.xc (e:=a) y
theorem RwAt.rc {H:Hp}{p:Addr}{r:Rw9} (h:RwAt H p r):RC r:=by
 cases r with
 | inn a w=>trivial
 | keep a w f=>exact h.2
 | lt a e=>obtain ⟨q,a,b⟩:=h; exact ⟨b.h.xc,b.v,b.d⟩
 | use a m=>trivial
 | nxt a e=>obtain ⟨q,a,b⟩:=h; exact ⟨b.h.xc,b.v,b.d⟩
 | out a e=>obtain ⟨q,a,b⟩:=h; exact ⟨b.h.xc,b.v,b.d⟩
theorem zabh {n:Nat}{H:Hp}{k:Key}{x:V} (h:DAt true n H (.sc k) x):x=kV k:=by
 cases n with
 | zero=>exact h.elim
 | succ n =>
  rcases h with ⟨k',e,rfl⟩ | ⟨ds,p,xs,kd,e,_⟩
  ·cases e; rfl
  ·cases e
theorem zab5 {n:Nat}{H:Hp}{ds:List Dt}{v:V} (h:DAt true n H (.seq ds) v):∃ m p xs,n=m + 1∧v=.ref p∧H p=some (.tup xs)∧Paired (DAt true m H) ds xs:=by
 cases n with
 | zero=>exact h.elim
 | succ n =>
  rcases h with ⟨k',e,_⟩ | ⟨ds',p,xs,kd,e,rfl,t,s,pr,_⟩
  ·cases e
  ·cases e
   cases t rfl
   exact ⟨n,p,xs,rfl,rfl,s,pr⟩
theorem zarn {n:Nat}{H:Hp}{l:Lf}{v:V} (h:DAt true n H (dtL l) v):∃ p,v=.ref p∧LfAt H p l:=by
 cases l with
 | nm a =>
  obtain ⟨m,p,xs,rfl,rfl,hp,pr⟩:=zab5 h
  cases pr with | cons a1 t=>cases t with | cons a2 t=>cases t; rw [zabh a1,zabh a2] at hp; exact ⟨p,rfl,hp⟩
 | of a b =>
  obtain ⟨m,p,xs,rfl,rfl,hp,pr⟩:=zab5 h
  cases pr with | cons a1 t=>cases t with | cons a2 t=>cases t with | cons a3 t=>cases t; rw [zabh a1,zabh a2,zabh a3] at hp; exact ⟨p,rfl,hp⟩
 | val a b =>
  obtain ⟨m,p,xs,rfl,rfl,hp,pr⟩:=zab5 h
  cases pr with | cons a1 t=>cases t with | cons a2 t=>cases t with | cons a3 t=>cases t; rw [zabh a1,zabh a2,zabh a3] at hp; exact ⟨p,rfl,hp⟩
theorem zadr {H:Hp}:∀ {e:Ex9}{n:Nat}{v:V},XC e→DAt true n H (dtE e) v→∃ p,v=.ref p∧ExAt H p e
 | .lf l,n,v,_,h=>zarn h
 | .un a,n,v,xc,h=>by
  obtain ⟨m,p,xs,rfl,rfl,hp,pr⟩:=zab5 h
  cases pr with | cons a1 t=>cases t with | cons a2 t=>cases t; obtain ⟨q,rfl,hq⟩:=zadr (e:=a) xc a2; rw [zabh a1] at hp; exact ⟨p,rfl,q,hp,hq⟩
 | .bi w a b,n,v,xc,h=>by
  obtain ⟨m,p,xs,rfl,rfl,hp,pr⟩:=zab5 h
  cases pr with | cons a1 t=>cases t with | cons a2 t=>cases t with | cons a3 t=>cases t; obtain ⟨q,rfl,hq⟩:=zadr xc.2.1 a2; obtain ⟨r,rfl,hr⟩:=zadr xc.2.2 a3; rw [zabh a1] at hp; exact ⟨p,rfl,q,r,hp,hq,hr,xc.1⟩
 | .pick a b c,n,v,xc,h=>by
  obtain ⟨m,p,xs,rfl,rfl,hp,pr⟩:=zab5 h
  cases pr with | cons a1 t=>cases t with | cons a2 t=>cases t with | cons a3 t=>cases t with | cons a4 t=>cases t; obtain ⟨q,rfl,hq⟩:=zadr xc.1 a2; obtain ⟨r,rfl,hr⟩:=zadr xc.2.1 a3; obtain ⟨s,rfl,hs⟩:=zadr xc.2.2 a4; rw [zabh a1] at hp; exact ⟨p,rfl,q,r,s,hp,hq,hr,hs⟩
 | .pt a lw wi,n,v,xc,h=>by
  obtain ⟨m,p,xs,rfl,rfl,hp,pr⟩:=zab5 h
  cases pr with | cons a1 t=>cases t with | cons a2 t=>cases t with | cons a3 t=>cases t with | cons a4 t=>cases t; obtain ⟨q,rfl,hq⟩:=zadr (e:=a) xc a2; rw [zabh a1,zabh a3,zabh a4] at hp; exact ⟨p,rfl,q,hp,hq⟩
theorem zaro {n:Nat}{H:Hp}{r:Rw9}{v:V} (rc:RC r) (h:DAt true n H (dtR r) v):∃ p,v=.ref p∧RwAt H p r:=by
 cases r with
 | inn a w =>
  obtain ⟨m,p,xs,rfl,rfl,hp,pr⟩:=zab5 h
  cases pr with | cons a1 t=>cases t with | cons a2 t=>cases t with | cons a3 t=>cases t; rw [zabh a1,zabh a2,zabh a3] at hp; exact ⟨p,rfl,hp⟩
 | keep a w f =>
  obtain ⟨m,p,xs,rfl,rfl,hp,pr⟩:=zab5 h
  cases pr with | cons a1 t=>cases t with | cons a2 t=>cases t with | cons a3 t=>cases t with | cons a4 t=>cases t; rw [zabh a1,zabh a2,zabh a3,zabh a4] at hp; exact ⟨p,rfl,hp,rc⟩
 | use a b =>
  obtain ⟨m,p,xs,rfl,rfl,hp,pr⟩:=zab5 h
  cases pr with | cons a1 t=>cases t with | cons a2 t=>cases t with | cons a3 t=>cases t with | cons a4 t =>
   cases t
   obtain ⟨_,q,ys,_,rfl,hq,pq⟩:=zab5 a4
   cases pq
   rw [zabh a1,zabh a2,zabh a3] at hp
   exact ⟨p,rfl,q,hp,hq⟩
 | lt a e =>
  obtain ⟨m,p,xs,rfl,rfl,hp,pr⟩:=zab5 h
  cases pr with | cons a1 t=>cases t with | cons a2 t=>cases t with | cons a3 t=>cases t; obtain ⟨q,rfl,hq⟩:=zadr rc.1 a3; rw [zabh a1,zabh a2] at hp; exact ⟨p,rfl,q,hp,hq,rc.2.1,rc.2.2⟩
 | nxt a e =>
  obtain ⟨m,p,xs,rfl,rfl,hp,pr⟩:=zab5 h
  cases pr with | cons a1 t=>cases t with | cons a2 t=>cases t with | cons a3 t=>cases t; obtain ⟨q,rfl,hq⟩:=zadr rc.1 a3; rw [zabh a1,zabh a2] at hp; exact ⟨p,rfl,q,hp,hq,rc.2.1,rc.2.2⟩
 | out a e =>
  obtain ⟨m,p,xs,rfl,rfl,hp,pr⟩:=zab5 h
  cases pr with | cons a1 t=>cases t with | cons a2 t=>cases t with | cons a3 t=>cases t; obtain ⟨q,rfl,hq⟩:=zadr rc.1 a3; rw [zabh a1,zabh a2] at hp; exact ⟨p,rfl,q,hp,hq,rc.2.1,rc.2.2⟩
theorem zafq {H:Hp}{S:Dt→V→Prop}:∀ {rows:List Rw9}{vs:List V},(∀ r∈rows,∀ v,S (dtR r) v→∃ p,v=.ref p∧RwAt H p r)→Paired S (rows.map dtR) vs→∃ ps:List Addr,vs=ps.map V.ref∧Paired (fun r p=>RwAt H p r) rows ps
 | [],_,_,.nil=>⟨[],rfl,.nil⟩
 | x :: xs,_,h,.cons a t=>by
  obtain ⟨p,rfl,r⟩:=h x (by simp) _ a
  obtain ⟨ps,rfl,rs⟩:=zafq (fun r hr=>h r (List.mem_cons_of_mem _ hr)) t
  exact ⟨p :: ps,rfl,.cons r rs⟩
theorem zaga {α β:Type}{R:α→β→Prop}{p:α→Prop} (h:∀ a b,R a b→p a):∀ {xs:List α}{ys:List β},Paired R xs ys→∀ x∈xs,p x
 | _,_,.nil,x,hx=>by simp at hx
 | _,_,.cons a t,x,hx=>by rcases List.mem_cons.mp hx with rfl | hx; exact h _ _ a; exact zaga h t x hx
theorem zapl {H:Hp}{L:Addr}{rows:List Rw9}{ps:List Addr} (h:H L=some (.lst (ps.map V.ref))) (pr:Paired (fun r p=>RwAt H p r) rows ps) (l:rows.length≤60):FD 8 H (.seq (rows.map dtR)) (.ref L) :=
 ⟨.inr ⟨_,L,_,.list,rfl,rfl,(fun z=>by cases z),h,zaf9 (R:=fun r p=>RwAt H p r) (f:=dtR) (g:=V.ref) (fun _ _ h=>h.dat) pr,by rw [List.length_map,← pr.length]; omega⟩⟩
theorem zapm {CM:Addr}{H H0:Hp}{x dx:Addr}{nm:Str}{rows:List Rw9}{ps:List Addr}{rp:V} (pr:Paired (fun r p=>RwAt H0 p r) rows ps) (l:rows.length≤60) (hx:H x=some (.ins CM dx (fldsM nm rp))) (d:DAt true 8 H (.seq (rows.map dtR)) rp):MoAt CM H x nm rows:=by
 have rc:=zaga (R:=fun r p=>RwAt H0 p r) (p:=RC) (fun _ _ h=>h.rc) pr
 obtain ⟨m,p,xs,_,rfl,hp,q⟩:=zab5 d
 obtain ⟨qs,rfl,q2⟩:=zafq (H:=H) (fun r hr v=>zaro (rc r hr)) q
 exact ⟨dx,p,qs,hx,hp,q2,l⟩
end

section
def spNext (K:PySem.W.Frag):Sp:=fun vs H Q _=>∃ (a b:Addr) (ns:List Int) (c:Int),vs=[.ref a,.ref b]∧Scr K H a ns∧H b=some (.lst [.int c])∧0≤c∧c < 2 ^ 60 ∧
 ∀ (n:Int) (H':Hp),0≤n→n < 2147483629→Ch [b] H H'→H' b=some (.lst [.int (c + 1)])→Q (.int n) H'
section
variable {P:Program}{w:World}{K:PySem.W.Frag}{mg:Str→Option Value}{base:Heap}{f:Addr}{fd:FuncData}{k:Nat}
theorem av48:AF (defScope (top 48)) ["_law_script", "_law_at", "_law_cell", "_law_figures", "_law_k", "_law_m"]:=⟨by decide +kernel⟩
theorem gl48:AG (defScope (top 48)) ["len", "range"]:=⟨by decide +kernel⟩
theorem scNext:FnScope ["_law_script", "_law_at", "_law_cell", "_law_figures", "_law_k", "_law_m"] ["_law_script", "_law_at"] (defScope (top 48)):=⟨rfl,rfl,rfl,by decide +kernel,rfl,by decide +kernel,by decide +kernel⟩
theorem zapn (F:Fun K "_law_next" "_law_next" (top 48) f fd) (z_len:mg "len" = none) (z_range:mg "range" = none) :
  FnOk P w K mg base CX0 (k + 1) f fd ["_law_script", "_law_at"] (spNext K):=by
 have nd:=scNext.nd
 refine F.ok scNext (fun vs H Q E h=>?_) (fun cdv A outer s H vs Q E hr h=>?_)
 ·obtain ⟨a,b,ns,c,rfl,_⟩:=h
  rfl
 obtain ⟨a,b,ns,c,rfl,hS,hb,h0,h1,q⟩:=h
 refine ⟨_,(Pr.h (zaad (zah2 (zaam zabu (zaai zaav (qv av48 1 rfl) zaab (fun _ _=>rfl)) zaab) (zakv (qv av48 1 rfl) zaab zair)) (zaad (zaaz (i:=2) nd rfl (av48.l 2 rfl) zaab) (zabb (zaa3 (zaat zaht (zaap zaa5 (gl48.g 0 rfl) z_len PySem.boot_len (zaaa (qv av48 0 rfl) zaac zaae) zab6 zab7) zaab (nomark _)) (zaaf (zaaz (i:=2) nd rfl (av48.l 2 rfl) (zaai zaav (qv av48 0 rfl) (zaam zabn (zaai zaav (qv av48 1 rfl) zaab (fun _ _=>rfl)) (zaap zaa5 (gl48.g 0 rfl) z_len PySem.boot_len (zaaa (qv av48 0 rfl) zaac zaae) zab6 zab7)) (fun _ _=>rfl)))) zaau) (zabb (zaa3 (zacg (zaku (zaat zaht (zaap zaa5 (gl48.g 0 rfl) z_len PySem.boot_len (zaaa (qv av48 0 rfl) zaac zaae) zab6 zab7) zaab (nomark _)) (zaiu (zaat zab1 (zaam zabn (zaai zaav (qv av48 0 rfl) zaab (fun _ _=>rfl)) zaab) zaab (nomark _))))) (zaad (zaaz (i:=3) nd rfl (av48.l 3 rfl) (qv av48 2 rfl)) (zaad (zaby PassesOwn.never rfl (zadh (gl48.g 1 rfl) z_range (zaaa (zaam zabn (zaam zabv (zaai zaav (qv av48 1 rfl) zaab (fun _ _=>rfl)) (zaap zaa5 (gl48.g 0 rfl) z_len PySem.boot_len (zaaa (qv av48 0 rfl) zaac zaae) zab6 zab7)) zaab) zaac zaa2)) (zaa0 (i:=4) nd rfl (av48.l 4 rfl)) (zaaf (zaaz (i:=3) nd rfl (av48.l 3 rfl) (zaam zabv (qv av48 3 rfl) zaab)))) (zaaf (zaa3 (zacg (zacl (zaat zag8 (qv av48 3 rfl) (zaay (zaaa zaab (zaaa (zaks zaj6 zaab) zaac zafy) zaah)) rfl) (zab2 (zaat zagd (zaai zaav (qv av48 1 rfl) zaab (fun _ _=>rfl)) (zaap zaa5 (gl48.g 0 rfl) z_len PySem.boot_len (zaaa (qv av48 0 rfl) zaac zaae) zab6 zab7) (nomark _))))) (zaaf (zaan (zaam zabn (qv av48 3 rfl) zaab))) zaau)))) zaau) (zaad (zaaz (i:=5) nd rfl (av48.l 5 rfl) (zaam zabn (zaam zac9 (zaam zabu (zaam zabu (zaam zabn (qv av48 2 rfl) zaab) (zaam zac9 (zaam zac9 (zaai zaav (qv av48 1 rfl) zaab (fun _ _=>rfl)) (zaai zaav (qv av48 1 rfl) zaab (fun _ _=>rfl))) zaab)) zaab) zaab) zaab)) (zaad (zaaz (i:=5) nd rfl (av48.l 5 rfl) (zaam zabn (zaam zac9 (qv av48 5 rfl) (qv av48 5 rfl)) zaab)) (zaaf (zaan (zaam zabn (zaam zac9 (zaam zabu (qv av48 5 rfl) (zaam zac9 (zaai zaav (qv av48 1 rfl) zaab (fun _ _=>rfl)) zaab)) zaab) zaab)))))))))),?_⟩
 have h63:ns.length≤63:=hS.1
 (try dsimp only [cxOf])
 walk_at "rd"
 refine zabq (fun σ H'=>∃ n:Int,σ=[some (.ref a),some (.ref b),some (.int n),none,none,none]∧Ch [b] H H'∧H' b=some (.lst [.int (c + 1)])) ?_ ?_
 ·walk_at "rd"
  refine ite2 (fun hc=>?_) (fun hc=>?_)
  ·have hc':0 < (ns.length:Int):=by simpa using hc
   have e1:0≤(c + 1) % (ns.length:Int):=Int.emod_nonneg _ (by omega)
   have e2:(c + 1) % (ns.length:Int) < (ns.length:Int):=Int.emod_lt_of_pos _ hc'
   obtain ⟨n,hn⟩:=zait e1 e2
   walk_at "rd"
  ·walk_at "rd"
 ·rintro σ H1 ⟨n,rfl,c1,b1⟩
  have hS1:Scr K H1 a ns:=hS.ch hb c1
  refine zabq (fun σ H'=>∃ u v w,σ=[some (.ref a),some (.ref b),some (.int n),u,v,w]∧Ch [b] H H'∧H' b=some (.lst [.int (c + 1)])) ?_ ?_
  ·walk_at "rd"
   refine ite2 (fun hc=>?_) (fun hc=>iteF ?_)
   ·have hc':0 < (ns.length:Int):=by simpa using hc
    obtain ⟨n0,hn0⟩:=zait (ns:=ns) (i:=0) (by omega) hc'
    walk_at "rd"
    refine ite2 (fun hd=>?_) (fun hd=>?_)
    ·walk_at "rd"
     refine zadg (fun i σ H'=>H'=H1∧∃ g kk,σ=[some (.ref a),some (.ref b),some (.int n),some (.int g),kk,none]) ⟨rfl,_,_,rfl⟩ ?_ ?_
     ·rintro i σ H' hi ⟨rfl,g,kk,rfl⟩
      walk_at "rd"
     ·rintro σ H' ⟨rfl,g,kk,rfl⟩
      walk_at "rd"
      refine ite2 (fun hd=>iteT ?_) (fun hd=>?_)
      ·walk_at "rd"
       exact q _ _ (Int.emod_nonneg _ (by decide)) (Int.lt_of_lt_of_le (Int.emod_lt_of_pos _ (by decide)) (by decide)) (c1.trans (Ch.new (by assumption) _)) (by walk_at "get")
      ·walk_at "rd"
       refine ite2 (fun he=>?_) (fun he=>?_)
       ·walk_at "rd"
        exact q _ _ (Int.emod_nonneg _ (by decide)) (Int.lt_of_lt_of_le (Int.emod_lt_of_pos _ (by decide)) (by decide)) (c1.trans (Ch.new (by assumption) _)) (by walk_at "get")
       ·walk_at "rd"
    ·walk_at "rd"
   ·walk_at "rd"
  ·rintro σ H2 ⟨u,v,w,rfl,c2,b2⟩
   walk_at "rd"
   exact q _ _ (Int.emod_nonneg _ (by decide)) (Int.emod_lt_of_pos _ (by decide)) c2 b2
end
end

section
section
variable {P:Program}{w:World}{K:PySem.W.Frag}{mg:Str→Option Value}{base:Heap}{f:Addr}{fd:FuncData}{k:Nat}
theorem zai6:bootBuiltins "all" = some (.builtin "all"):=by decide +kernel
theorem zab8:Nd "_law_same" := by decide +kernel
theorem zai7:("all" : Str) ≠ "__name__" := by decide +kernel
theorem zai8:Nd "all" := by decide +kernel
theorem zai9:bootBuiltins "str" = some (.type "str"):=by decide +kernel
theorem zaja:("str" : Str) ≠ "__name__" := by decide +kernel
theorem zajb:Nd "str" := by decide +kernel
theorem zadd:Nd "_law_next" := by decide +kernel
theorem av49:AF (defScope (top 49)) ["_law_found", "_law_due_here"]:=⟨by decide +kernel⟩
theorem gl49:AG (defScope (top 49)) ["isinstance", "dict", "len", "all", "tuple", "list", "zip", "str", "bool", "int"]:=⟨by decide +kernel⟩
def zagv:Scope:={ kind:=PySem.ScopeKind.function,names:=[ (PySem.Str.ofString ".0",PySem.NameKind.local),(PySem.Str.ofString "_law_name",PySem.NameKind.local),(PySem.Str.ofString "_law_same",PySem.NameKind.globalImplicit),(PySem.Str.ofString "_law_due_here",PySem.NameKind.free),(PySem.Str.ofString "_law_found",PySem.NameKind.free)],isGenerator:=false,isCoroutine:=false,more:=[]:PySem.Scope }
theorem zagw:CompOk zagv (defScope (top 49)) (["_law_name"]:List Str) (["_law_found", "_law_due_here"]:List Str) [0,1] (["_law_name", "_law_found", "_law_due_here"]:List Str):=compOk rfl (by decide +kernel) (by decide +kernel) (by decide +kernel) (by decide +kernel) rfl (by decide +kernel)
theorem zagx:AK (relab zagv (defScope (top 49))) ["_law_name"]:=⟨by decide +kernel⟩
theorem zalz:AG (relab zagv (defScope (top 49))) ["_law_same"]:=⟨by decide +kernel⟩
theorem zacr:AV (relab zagv (defScope (top 49))) ["_law_name", "_law_found", "_law_due_here"]:=⟨by decide +kernel⟩
def zagy:Scope:={ kind:=PySem.ScopeKind.function,names:=[ (PySem.Str.ofString ".0",PySem.NameKind.local),(PySem.Str.ofString "_law_one",PySem.NameKind.local),(PySem.Str.ofString "_law_other",PySem.NameKind.local),(PySem.Str.ofString "_law_same",PySem.NameKind.globalImplicit)],isGenerator:=false,isCoroutine:=false,more:=[]:PySem.Scope }
theorem zaed:CompOk zagy (defScope (top 49)) (["_law_one", "_law_other"]:List Str) (["_law_found", "_law_due_here"]:List Str) [] (["_law_one", "_law_other"]:List Str):=compOk rfl (by decide +kernel) (by decide +kernel) (by decide +kernel) (by decide +kernel) rfl (by decide +kernel)
theorem zade:AK (relab zagy (defScope (top 49))) ["_law_one", "_law_other"]:=⟨by decide +kernel⟩
theorem zal0:AG (relab zagy (defScope (top 49))) ["_law_same"]:=⟨by decide +kernel⟩
theorem zagz:AV (relab zagy (defScope (top 49))) ["_law_one", "_law_other"]:=⟨by decide +kernel⟩
def spSI:Sp:=fun vs H Q _=>∃ x:Int,vs=[.int x,.int x]∧Q (.bl true) H
def spSL:Sp:=fun vs H Q _=>∃ (p r:Addr) (xs:List Int),vs=[.ref p,.ref r]∧H p=some (.lst (xs.map V.int))∧H r=some (.lst (xs.map V.int))∧xs.length≤300∧∀ H',Ch [] H H'→Q (.bl true) H'
theorem scSame:FnScope ["_law_found", "_law_due_here"] ["_law_found", "_law_due_here"] (defScope (top 49)):=⟨rfl,rfl,rfl,by decide +kernel,rfl,by decide +kernel,by decide +kernel⟩
theorem zang (F:Fun K "_law_same" "_law_same" (top 49) f fd):FnOk P w K mg base CX0 (k + 1) f fd ["_law_found", "_law_due_here"] spF2 :=
 F.ok scSame (fun vs H Q E h=>h.1) (fun cdv A outer s H vs Q E hr h=>h.2.elim)
theorem zanh (F:Fun K "_law_same" "_law_same" (top 49) f fd) (D_law_same:DefOk P w K mg base CX0 k "_law_same" ["_law_found", "_law_due_here"] spF2) (z_isinstance:mg "isinstance" = none) (z_dict:mg "dict" = none) (z_list:mg "list" = none) (z_tuple:mg "tuple" = none) (z_str:mg "str" = none) (z_int:mg "int" = none) (z_bool:mg "bool" = none) (z_len:mg "len" = none) (z_all:mg "all" = none) (z_zip:mg "zip" = none) :
  FnOk P w K mg base CX0 (k + 1) f fd ["_law_found", "_law_due_here"] spSI:=by
 have nd:=scSame.nd
 refine F.ok scSame (fun vs H Q E h=>by obtain ⟨x,rfl,_⟩:=h; rfl) (fun cdv A outer s H vs Q E hr h=>?_)
 obtain ⟨x,rfl,q⟩:=h
 refine ⟨_,(Pr.h (zaad (zaa3 (zaat zag2 (qv av49 1 rfl) zad5 (nomark _)) (zaaf (zaan (zabo zag2 (qv av49 0 rfl) zad5 (nomark _)))) zaau) (zaad (zaa3 (zabe (zaap zaba (gl49.g 0 rfl) z_isinstance zaaq (zaaa (qv av49 1 rfl) (zaaa (zaa4 (v:=.ty "dict") (gl49.g 1 rfl) z_dict zaff rfl zafg zafh) zaac)) zaar zaas)) (zaad (zaa3 (zacg (zacl (zaci (zabe (zaap zaba (gl49.g 0 rfl) z_isinstance zaaq (zaaa (qv av49 0 rfl) (zaaa (zaa4 (v:=.ty "dict") (gl49.g 1 rfl) z_dict zaff rfl zafg zafh) zaac)) zaar zaas))) (zab2 (zaat zaeh (zaap zaa5 (gl49.g 2 rfl) z_len PySem.boot_len (zaaa (qv av49 0 rfl) zaac zaae) zab6 zab7) (zaap zaa5 (gl49.g 2 rfl) z_len PySem.boot_len (zaaa (qv av49 1 rfl) zaac zaae) zab6 zab7) (nomark _))))) (zaaf (zaan zabr)) zaau) (zaaf (zaan (zaap (zaep rfl) (gl49.g 3 rfl) z_all zai6 (zaaa (zacc rfl zagw (zac6 (qv av49 1 rfl)) (fun _ _ _ _ _=>(zaa0 (i:=0) zagw.nd rfl (Or.inl (zagx.k 0 rfl)) (Or.inr (zagx.k 0 rfl)))) (fun _ _ _ _ _=>zabw) (fun _ _ _ _ _=>(zacn (zabo (zaf2 K rfl) (qw zacr 0 rfl) (qw zacr 1 rfl) rfl) (zac2 (zaao D_law_same hr (zalz.g 0 rfl) pass0 (zaaa (zaai (zadx K rfl) (qw zacr 1 rfl) (qw zacr 0 rfl) (fun _ _=>rfl)) (zaaa (zaai (zadx K rfl) (qw zacr 2 rfl) (qw zacr 0 rfl) (fun _ _=>rfl)) zaac zaal) zaal) zab8))))) zaac zab3) zai7 zai8)))) zaau) (zaad (zaa3 (zacg (zacl (zabe (zaap zaba (gl49.g 0 rfl) z_isinstance zaaq (zaaa (qv av49 1 rfl) (zaaa (zaa4 (v:=.ty "list") (gl49.g 5 rfl) z_list zaco rfl zacp zacq) zaac)) zaar zaas)) (zab2 (zabe (zaap zaba (gl49.g 0 rfl) z_isinstance zaaq (zaaa (qv av49 1 rfl) (zaaa (zaa4 (v:=.ty "tuple") (gl49.g 4 rfl) z_tuple zacd rfl zace zacf) zaac)) zaar zaas))))) (zaad (zaa3 (zaat zaeh (zaap zaba (gl49.g 0 rfl) z_isinstance zaaq (zaaa (qv av49 0 rfl) (zaaa (zaa4 (v:=.ty "list") (gl49.g 5 rfl) z_list zaco rfl zacp zacq) zaac)) zaar zaas) (zaap zaba (gl49.g 0 rfl) z_isinstance zaaq (zaaa (qv av49 1 rfl) (zaaa (zaa4 (v:=.ty "list") (gl49.g 5 rfl) z_list zaco rfl zacp zacq) zaac)) zaar zaas) (nomark _)) (zaaf (zaan zabr)) zaau) (zaad (zaa3 (zacg (zacl (zaat zaeh (zaap zaba (gl49.g 0 rfl) z_isinstance zaaq (zaaa (qv av49 0 rfl) (zaaa (zaa4 (v:=.ty "tuple") (gl49.g 4 rfl) z_tuple zacd rfl zace zacf) zaac)) zaar zaas) (zaap zaba (gl49.g 0 rfl) z_isinstance zaaq (zaaa (qv av49 1 rfl) (zaaa (zaa4 (v:=.ty "tuple") (gl49.g 4 rfl) z_tuple zacd rfl zace zacf) zaac)) zaar zaas) (nomark _)) (zab2 (zaat zaeh (zaap zaa5 (gl49.g 2 rfl) z_len PySem.boot_len (zaaa (qv av49 0 rfl) zaac zaae) zab6 zab7) (zaap zaa5 (gl49.g 2 rfl) z_len PySem.boot_len (zaaa (qv av49 1 rfl) zaac zaae) zab6 zab7) (nomark _))))) (zaaf (zaan zabr)) zaau) (zaaf (zaan (zaap (zaep rfl) (gl49.g 3 rfl) z_all zai6 (zaaa (zacc rfl zaed (zah1 .list .list (gl49.g 6 rfl) z_zip (zaaa (qv av49 0 rfl) (zaaa (qv av49 1 rfl) zaac zaae) zaae)) (fun _ _ _ _ _=>(zadi K 2 rfl rfl (zaa7 (zaa0 (i:=0) zaed.nd rfl (Or.inl (zade.k 0 rfl)) (Or.inr (zade.k 0 rfl))) (zaa7 (zaa0 (i:=1) zaed.nd rfl (Or.inl (zade.k 1 rfl)) (Or.inr (zade.k 1 rfl))) zacb)))) (fun _ _ _ _ _=>zabw) (fun _ _ _ _ _=>(zaao D_law_same hr (zal0.g 0 rfl) pass0 (zaaa (qw zagz 0 rfl) (zaaa (qw zagz 1 rfl) zaac zaae) zaae) zab8))) zaac zab3) zai7 zai8))))) zaau) (zaad (zaa3 (zabe (zaap zaba (gl49.g 0 rfl) z_isinstance zaaq (zaaa (qv av49 1 rfl) (zaaa (zaa4 (v:=.ty "str") (gl49.g 7 rfl) z_str zai9 rfl zaja zajb) zaac)) zaar zaas)) (zaaf (zaan (zacn (zaap zaba (gl49.g 0 rfl) z_isinstance zaaq (zaaa (qv av49 0 rfl) (zaaa (zaa4 (v:=.ty "str") (gl49.g 7 rfl) z_str zai9 rfl zaja zajb) zaac)) zaar zaas) (zac2 (zabo zab1 (qv av49 0 rfl) (qv av49 1 rfl) (nomark _)))))) zaau) (zaaf (zaan (zacn (zaap zaba (gl49.g 0 rfl) z_isinstance zaaq (zaaa (qv av49 0 rfl) (zaaa (zaa4 (v:=.ty "int") (gl49.g 9 rfl) z_int zado rfl zadp zadq) zaac)) zaar zaas) (zacn (zah0 (zaap zaba (gl49.g 0 rfl) z_isinstance zaaq (zaaa (qv av49 0 rfl) (zaaa (zaa4 (v:=.ty "bool") (gl49.g 8 rfl) z_bool zaib rfl zaic zaid) zaac)) zaar zaas)) (zac2 (zabo zab1 (qv av49 0 rfl) (qv av49 1 rfl) (nomark _)))))))))))),?_⟩
 (try dsimp only [cxOf])
 walk_at "rd"
 rw [decide_eq_true rfl]
 exact q
theorem zani (F:Fun K "_law_same" "_law_same" (top 49) f fd) (D_law_same:DefOk P w K mg base CX0 k "_law_same" ["_law_found", "_law_due_here"] spSI) (z_isinstance:mg "isinstance" = none) (z_dict:mg "dict" = none) (z_list:mg "list" = none) (z_tuple:mg "tuple" = none) (z_str:mg "str" = none) (z_int:mg "int" = none) (z_bool:mg "bool" = none) (z_len:mg "len" = none) (z_all:mg "all" = none) (z_zip:mg "zip" = none) :
  FnOk P w K mg base CX0 (k + 1) f fd ["_law_found", "_law_due_here"] spSL:=by
 have nd:=scSame.nd
 refine F.ok scSame (fun vs H Q E h=>by obtain ⟨p,r,xs,rfl,_⟩:=h; rfl) (fun cdv A outer s H vs Q E hr h=>?_)
 obtain ⟨p,r,xs,rfl,g1,g2,l,q⟩:=h
 refine ⟨_,(Pr.h (zaad (zaa3 (zaat zag2 (qv av49 1 rfl) zad5 (nomark _)) (zaaf (zaan (zabo zag2 (qv av49 0 rfl) zad5 (nomark _)))) zaau) (zaad (zaa3 (zabe (zaap zaba (gl49.g 0 rfl) z_isinstance zaaq (zaaa (qv av49 1 rfl) (zaaa (zaa4 (v:=.ty "dict") (gl49.g 1 rfl) z_dict zaff rfl zafg zafh) zaac)) zaar zaas)) (zaad (zaa3 (zacg (zacl (zaci (zabe (zaap zaba (gl49.g 0 rfl) z_isinstance zaaq (zaaa (qv av49 0 rfl) (zaaa (zaa4 (v:=.ty "dict") (gl49.g 1 rfl) z_dict zaff rfl zafg zafh) zaac)) zaar zaas))) (zab2 (zaat zaeh (zaap zaa5 (gl49.g 2 rfl) z_len PySem.boot_len (zaaa (qv av49 0 rfl) zaac zaae) zab6 zab7) (zaap zaa5 (gl49.g 2 rfl) z_len PySem.boot_len (zaaa (qv av49 1 rfl) zaac zaae) zab6 zab7) (nomark _))))) (zaaf (zaan zabr)) zaau) (zaaf (zaan (zaap (zaep rfl) (gl49.g 3 rfl) z_all zai6 (zaaa (zacc rfl zagw (zac6 (qv av49 1 rfl)) (fun _ _ _ _ _=>(zaa0 (i:=0) zagw.nd rfl (Or.inl (zagx.k 0 rfl)) (Or.inr (zagx.k 0 rfl)))) (fun _ _ _ _ _=>zabw) (fun _ _ _ _ _=>(zacn (zabo (zaf2 K rfl) (qw zacr 0 rfl) (qw zacr 1 rfl) rfl) (zac2 (zaao D_law_same hr (zalz.g 0 rfl) pass0 (zaaa (zaai (zadx K rfl) (qw zacr 1 rfl) (qw zacr 0 rfl) (fun _ _=>rfl)) (zaaa (zaai (zadx K rfl) (qw zacr 2 rfl) (qw zacr 0 rfl) (fun _ _=>rfl)) zaac zaal) zaal) zab8))))) zaac zab3) zai7 zai8)))) zaau) (zaad (zaa3 (zacg (zacl (zabe (zaap zaba (gl49.g 0 rfl) z_isinstance zaaq (zaaa (qv av49 1 rfl) (zaaa (zaa4 (v:=.ty "list") (gl49.g 5 rfl) z_list zaco rfl zacp zacq) zaac)) zaar zaas)) (zab2 (zabe (zaap zaba (gl49.g 0 rfl) z_isinstance zaaq (zaaa (qv av49 1 rfl) (zaaa (zaa4 (v:=.ty "tuple") (gl49.g 4 rfl) z_tuple zacd rfl zace zacf) zaac)) zaar zaas))))) (zaad (zaa3 (zaat zaeh (zaap zaba (gl49.g 0 rfl) z_isinstance zaaq (zaaa (qv av49 0 rfl) (zaaa (zaa4 (v:=.ty "list") (gl49.g 5 rfl) z_list zaco rfl zacp zacq) zaac)) zaar zaas) (zaap zaba (gl49.g 0 rfl) z_isinstance zaaq (zaaa (qv av49 1 rfl) (zaaa (zaa4 (v:=.ty "list") (gl49.g 5 rfl) z_list zaco rfl zacp zacq) zaac)) zaar zaas) (nomark _)) (zaaf (zaan zabr)) zaau) (zaad (zaa3 (zacg (zacl (zaat zaeh (zaap zaba (gl49.g 0 rfl) z_isinstance zaaq (zaaa (qv av49 0 rfl) (zaaa (zaa4 (v:=.ty "tuple") (gl49.g 4 rfl) z_tuple zacd rfl zace zacf) zaac)) zaar zaas) (zaap zaba (gl49.g 0 rfl) z_isinstance zaaq (zaaa (qv av49 1 rfl) (zaaa (zaa4 (v:=.ty "tuple") (gl49.g 4 rfl) z_tuple zacd rfl zace zacf) zaac)) zaar zaas) (nomark _)) (zab2 (zaat zaeh (zaap zaa5 (gl49.g 2 rfl) z_len PySem.boot_len (zaaa (qv av49 0 rfl) zaac zaae) zab6 zab7) (zaap zaa5 (gl49.g 2 rfl) z_len PySem.boot_len (zaaa (qv av49 1 rfl) zaac zaae) zab6 zab7) (nomark _))))) (zaaf (zaan zabr)) zaau) (zaaf (zaan (zaap (zaep rfl) (gl49.g 3 rfl) z_all zai6 (zaaa (zacc rfl zaed (zah1 .list .list (gl49.g 6 rfl) z_zip (zaaa (qv av49 0 rfl) (zaaa (qv av49 1 rfl) zaac zaae) zaae)) (fun _ _ _ _ _=>(zadi K 2 rfl rfl (zaa7 (zaa0 (i:=0) zaed.nd rfl (Or.inl (zade.k 0 rfl)) (Or.inr (zade.k 0 rfl))) (zaa7 (zaa0 (i:=1) zaed.nd rfl (Or.inl (zade.k 1 rfl)) (Or.inr (zade.k 1 rfl))) zacb)))) (fun _ _ _ _ _=>zabw) (fun _ _ _ _ _=>(zaao D_law_same hr (zal0.g 0 rfl) pass0 (zaaa (qw zagz 0 rfl) (zaaa (qw zagz 1 rfl) zaac zaae) zaae) zab8))) zaac zab3) zai7 zai8))))) zaau) (zaad (zaa3 (zabe (zaap zaba (gl49.g 0 rfl) z_isinstance zaaq (zaaa (qv av49 1 rfl) (zaaa (zaa4 (v:=.ty "str") (gl49.g 7 rfl) z_str zai9 rfl zaja zajb) zaac)) zaar zaas)) (zaaf (zaan (zacn (zaap zaba (gl49.g 0 rfl) z_isinstance zaaq (zaaa (qv av49 0 rfl) (zaaa (zaa4 (v:=.ty "str") (gl49.g 7 rfl) z_str zai9 rfl zaja zajb) zaac)) zaar zaas) (zac2 (zabo zab1 (qv av49 0 rfl) (qv av49 1 rfl) (nomark _)))))) zaau) (zaaf (zaan (zacn (zaap zaba (gl49.g 0 rfl) z_isinstance zaaq (zaaa (qv av49 0 rfl) (zaaa (zaa4 (v:=.ty "int") (gl49.g 9 rfl) z_int zado rfl zadp zadq) zaac)) zaar zaas) (zacn (zah0 (zaap zaba (gl49.g 0 rfl) z_isinstance zaaq (zaaa (qv av49 0 rfl) (zaaa (zaa4 (v:=.ty "bool") (gl49.g 8 rfl) z_bool zaib rfl zaic zaid) zaac)) zaar zaas)) (zac2 (zabo zab1 (qv av49 0 rfl) (qv av49 1 rfl) (nomark _)))))))))))),?_⟩
 (try dsimp only [cxOf])
 walk_at "rd"
 refine iteNn rfl ?_
 walk_at "rd"
 refine zam2 (xs.map V.int) (xs.map V.int) (fun j zs σ H'=>Ch [] H H'∧zs=List.replicate j (V.bl true)∧∃ u v,σ=[u,v]) (by rw [sizeLine_eq,List.length_map]; omega) rfl ⟨Ch.refl _ _,rfl,_,_,rfl⟩ ?_ ?_ ?_
 ·rintro j zs σ H' hj ⟨c,rfl,_⟩
  exact ⟨by simp,SqL.of (c.get g1 (by simp)),SqL.of (c.get g2 (by simp))⟩
 ·rintro j zs σ H' x z T hx hz ⟨c,rfl,u,v,rfl⟩ hT
  rw [hx] at hz
  cases hz
  rw [List.getElem?_map] at hx
  obtain ⟨y,hy,rfl⟩:=Option.map_eq_some_iff.mp hx
  walk_at "rd"
  exact ⟨by rw [← List.replicate_succ'],_,_,rfl⟩
 ·rintro zs σ H' ⟨c,rfl,_⟩
  intro D hD
  refine ⟨D,List.replicate (xs.map V.int).length true,rfl,by rw [zaag,List.map_replicate],?_⟩
  rw [show (List.replicate (xs.map V.int).length true).all id=true from by simp [List.all_replicate]]
  exact q _ (c.trans (Ch.new hD _))
theorem av50:AF (defScope (top 50)) ["_law_wide", "_law_power_here", "_law_k"]:=⟨by decide +kernel⟩
theorem gl50:AG (defScope (top 50)) ["range"]:=⟨by decide +kernel⟩
structure PwE (p:Int) (i:Nat):Prop where
 e:p=2 ^ i
def spPow:Sp:=fun vs H Q _=>∃ (n:Nat) (v:Int),vs=[.int v]∧v.toNat=n∧0≤v∧v≤20∧Q (.int (2 ^ n)) H
theorem scPow:FnScope ["_law_wide", "_law_power_here", "_law_k"] ["_law_wide"] (defScope (top 50)):=⟨rfl,rfl,rfl,by decide +kernel,rfl,by decide +kernel,by decide +kernel⟩
theorem zarp (F:Fun K "_law_power" "_law_power" (top 50) f fd) (z_range:mg "range" = none):FnOk P w K mg base CX0 (k + 1) f fd ["_law_wide"] spPow:=by
 have nd:=scPow.nd
 refine F.ok scPow (fun vs H Q E h=>by obtain ⟨n,v,rfl,_⟩:=h; rfl) (fun cdv A outer s H vs Q E hr h=>?_)
 obtain ⟨n,v,rfl,ev,v0,v2,q⟩:=h
 refine ⟨_,(Pr.h (zaad (zaaz (i:=1) nd rfl (av50.l 1 rfl) zaab) (zaad (zaby PassesOwn.never rfl (zadh (gl50.g 0 rfl) z_range (zaaa (qv av50 0 rfl) zaac zaae)) (zaa0 (i:=2) nd rfl (av50.l 2 rfl)) (zaaf (zaaz (i:=1) nd rfl (av50.l 1 rfl) (zaam zabu (qv av50 1 rfl) (qv av50 1 rfl))))) (zaaf (zaan (qv av50 1 rfl)))))),?_⟩
 (try dsimp only [cxOf])
 walk_at "rd"
 refine zadg (fun i σ H'=>H'=H∧∃ (p:Int) (u:Option V),σ=[some (.int v),some (.int p),u]∧PwE p i) ⟨rfl,_,_,rfl,⟨rfl⟩⟩ ?_ ?_
 ·rintro i σ H' hi ⟨rfl,p,u,rfl,⟨ep⟩⟩
  have e:PwE (p + p) (i + 1):=⟨by rw [Int.pow_succ,ep]; omega⟩
  clear ep
  walk_at "rd"
 ·rintro σ H' ⟨rfl,p,u,rfl,⟨ep⟩⟩
  rw [← ev,← ep] at q
  clear ep ev
  walk_at "rd"
theorem av51:AF (defScope (top 51)) ["_law_script", "_law_at", "_law_power_here", "_law_m", "_law_edges"]:=⟨by decide +kernel⟩
theorem gl51:AG (defScope (top 51)) ["_law_next"]:=⟨by decide +kernel⟩
def spAny (K:PySem.W.Frag):Sp:=fun vs H Q _=>∃ (a b:Addr) (ns:List Int) (c p:Int),vs=[.ref a,.ref b,.int p]∧Scr K H a ns∧H b=some (.lst [.int c])∧0≤c∧c < 2 ^ 50∧0 < p∧p < 2 ^ 40∧∀ (x:Int) (H':Hp),0≤x→x < p→Ch [b] H H'→H' b=some (.lst [.int (c + 1)])→Q (.int x) H'
theorem scAny:FnScope ["_law_script", "_law_at", "_law_power_here", "_law_m", "_law_edges"] ["_law_script", "_law_at", "_law_power_here"] (defScope (top 51)):=⟨rfl,rfl,rfl,by decide +kernel,rfl,by decide +kernel,by decide +kernel⟩
theorem zarq (F:Fun K "_law_any_value" "_law_any_value" (top 51) f fd) (D_law_next:DefOk P w K mg base CX0 k "_law_next" ["_law_script", "_law_at"] (spNext K)):FnOk P w K mg base CX0 (k + 1) f fd ["_law_script", "_law_at", "_law_power_here"] (spAny K):=by
 have nd:=scAny.nd
 refine F.ok scAny (fun vs H Q E h=>by obtain ⟨a,b,ns,c,p,rfl,_⟩:=h; rfl) (fun cdv A outer s H vs Q E hr h=>?_)
 obtain ⟨a,b,ns,c,p,rfl,hS,hb,h0,h1,p0,p1,q⟩:=h
 refine ⟨_,(Pr.h (zaad (zaaz (i:=3) nd rfl (av51.l 3 rfl) (zaao D_law_next hr (gl51.g 0 rfl) pass0 (zaaa (qv av51 0 rfl) (zaaa (qv av51 1 rfl) zaac zaae) zaae) zadd)) (zaad (zaaz (i:=4) nd rfl (av51.l 4 rfl) (zabi (zaaa zaab (zaaa (zaam zabn zaab (qv av51 2 rfl)) (zaaa (zaam zacz (qv av51 2 rfl) zaab) (zaaa (zaam zabv (qv av51 2 rfl) zaab) (zaaa (zaam zabv (zaam zacz (qv av51 2 rfl) zaab) zaab) zaac zaa2) zaa2) zaa2) zaa2) zaah))) (zaaf (zaan (zaai zaav (zaam zadm (qv av51 4 rfl) (zabi (zaaa (zaam zabn (zaam zabv (qv av51 3 rfl) zaab) (qv av51 2 rfl)) (zaaa (zaam zabn (zaam zabv (qv av51 3 rfl) zaab) (qv av51 2 rfl)) (zaaa (zaam zabn (zaam zabv (qv av51 3 rfl) zaab) (qv av51 2 rfl)) zaac zaa2) zaa2) zaa2))) (zaam zabn (qv av51 3 rfl) zaab) (fun _ _=>rfl))))))),?_⟩
 (try dsimp only [cxOf])
 walk_at "rd"
 rename_i n H1 n0 n1 c1 b1 pA hA pB hB pC hC
 refine Atx.any (by omega) (by show n % 8 < 8; omega) fun v hv _=>?_
 have m1:=Int.emod_nonneg (n / 8) (b:=p) (by omega)
 have m2:=Int.emod_lt_of_pos (n / 8) p0
 have m3:=Int.emod_nonneg (n / 99) (b:=p) (by omega)
 have m4:=Int.emod_lt_of_pos (n / 99) p0
 have m5:=Int.emod_nonneg 1 (b:=p) (by omega)
 have m6:=Int.emod_lt_of_pos 1 p0
 obtain ⟨x,rfl,x0,x1⟩:∃ x:Int,v=.int x∧0≤x∧x < p:=by
  have hv:v∈[V.int 0,.int (1 % p),.int (p - 1),.int (p / 2),.int ((p - 1) / 2),.int (n / 8 % p),.int (n / 8 % p),.int (n / 99 % p)]:=hv
  simp only [List.mem_cons,List.not_mem_nil,or_false] at hv
  rcases hv with rfl | rfl | rfl | rfl | rfl | rfl | rfl | rfl
  ·exact ⟨_,rfl,by omega,by omega⟩
  ·exact ⟨_,rfl,m5,m6⟩
  ·exact ⟨_,rfl,by omega,by omega⟩
  ·exact ⟨_,rfl,by omega,by omega⟩
  ·exact ⟨_,rfl,by omega,by omega⟩
  ·exact ⟨_,rfl,m1,m2⟩
  ·exact ⟨_,rfl,m1,m2⟩
  ·exact ⟨_,rfl,m3,m4⟩
 exact q x _ x0 x1 (c1.trans (((Ch.new hA _).trans (Ch.new hB _)).trans (Ch.new hC _))) (zacy hC (zacy hB (zacy hA b1)))
end
end

section
abbrev eA:Ex9:=.lf (.nm "m")
abbrev eB:Ex9:=.lf (.nm "c")
abbrev eD:Ex9:=.lf (.nm "a")
abbrev eG:Ex9:=.lf (.nm "g")
def ex1:List Ex9:=[.un eA,.bi "and" eA eB,.bi "or" eA eB,.bi "xor" eA eB,.bi "plus" eA eB,.bi "less" eA eB,.bi "same" eA eB]
def ex2 (lo br:Int):List Ex9:=ex1++[.pick eG eA eB,.pt eA lo br]
def ex3 (o lo br:Int):List Ex9:=ex2 lo br++[Ex9.bi "join" eA eD,.bi "join" eD eB].take (2 * (if o > 0 then 1 else 0))
def ex4 (w o lo br v:Int):List Ex9:=ex3 o lo br++[.lf (.val v w),.un (.bi "plus" eA (.lf (.val v w)))]
def ex5 (w o lo br v:Int):List Ex9:=ex4 w o lo br v++[.pick (.bi "less" eB eA) (.bi "xor" eA (.un eB)) (.bi "plus" eB eB)]
def ins11 (w o:Int):List Rw9:=[Rw9.inn "m" w,.inn "c" w,.inn "g" 1,.inn "a" o].take (3 + (if o > 0 then 1 else 0))
structure ExL (H:Hp) (l:Addr) (es:List Ex9):Prop where
 ex:∃ ps:List Addr,H l=some (.lst (ps.map V.ref))∧Paired (fun e q=>ExN 4 H q e) es ps
structure RwL (H:Hp) (l:Addr) (rs:List Rw9):Prop where
 ex:∃ ps:List Addr,H l=some (.lst (ps.map V.ref))∧Paired (fun r p=>RwAt H p r) rs ps
theorem RwL.ch {H H':Hp}{l:Addr}{rs:List Rw9} (h:RwL H l rs) (c:Ch [] H H'):RwL H' l rs:=let ⟨ps,a,b⟩:=h.ex; ⟨ps,c.get a (by simp),zaax (fun _ _=>RwAt.tu (Tu.same c)) b⟩
structure M0 (H H':Hp) (pa pb pd:Addr):Prop where
 c:Ch [] H H'
 a:H' pa=some (.tup [.str "name",.str "m"])
 b:H' pb=some (.tup [.str "name",.str "c"])
 d:H' pd=some (.tup [.str "name",.str "a"])
theorem M0.ch {H H' H'':Hp}{pa pb pd:Addr} (h:M0 H H' pa pb pd) (c:Ch [] H' H''):M0 H H'' pa pb pd:=⟨h.c.trans c,c.get h.a (by simp),c.get h.b (by simp),c.get h.d (by simp)⟩
theorem xA {H H':Hp}{pa pb pd:Addr} (h:M0 H H' pa pb pd):ExAt H' pa eA:=h.a
theorem xB {H H':Hp}{pa pb pd:Addr} (h:M0 H H' pa pb pd):ExAt H' pb eB:=h.b
theorem xD {H H':Hp}{pa pb pd:Addr} (h:M0 H H' pa pb pd):ExAt H' pd eD:=h.d
theorem nbi {H:Hp}{p q r:Addr}{w:Str}{a b:Ex9} (h:H p=some (.tup [.str w,.ref q,.ref r])) (ha:ExAt H q a) (hb:ExAt H r b) (hw:w∈BIW) (v:XOk a∧XOk b) (d:(Ex9.bi w a b).deep < 4):ExN 4 H p (.bi w a b):=⟨⟨q,r,h,ha,hb,hw⟩,v,d⟩
theorem biw:Str.ofString "and" ∈ BIW∧Str.ofString "or" ∈ BIW∧Str.ofString "xor" ∈ BIW∧Str.ofString "plus" ∈ BIW∧Str.ofString "less" ∈ BIW∧Str.ofString "same" ∈ BIW∧Str.ofString "join" ∈ BIW:=by decide +kernel
theorem exl1 {H H9:Hp}{pa pb pd D t1 t2 t3 t4 t5 t6 t7:Addr} (m:M0 H H9 pa pb pd) (g1:H9 t1=some (.tup [.str "not",.ref pa])) (g2:H9 t2=some (.tup [.str "and",.ref pa,.ref pb])) (g3:H9 t3=some (.tup [.str "or",.ref pa,.ref pb])) (g4:H9 t4=some (.tup [.str "xor",.ref pa,.ref pb])) (g5:H9 t5=some (.tup [.str "plus",.ref pa,.ref pb])) (g6:H9 t6=some (.tup [.str "less",.ref pa,.ref pb])) (g7:H9 t7=some (.tup [.str "same",.ref pa,.ref pb])) (gD:H9 D=some (.lst [.ref t1,.ref t2,.ref t3,.ref t4,.ref t5,.ref t6,.ref t7])):ExL H9 D ex1 :=
 ⟨[t1,t2,t3,t4,t5,t6,t7],gD,.cons ⟨⟨pa,g1,xA m⟩,trivial,by decide⟩ (.cons (nbi g2 (xA m) (xB m) biw.1 ⟨trivial,trivial⟩ (by decide)) (.cons (nbi g3 (xA m) (xB m) biw.2.1 ⟨trivial,trivial⟩ (by decide)) (.cons (nbi g4 (xA m) (xB m) biw.2.2.1 ⟨trivial,trivial⟩ (by decide)) (.cons (nbi g5 (xA m) (xB m) biw.2.2.2.1 ⟨trivial,trivial⟩ (by decide)) (.cons (nbi g6 (xA m) (xB m) biw.2.2.2.2.1 ⟨trivial,trivial⟩ (by decide)) (.cons (nbi g7 (xA m) (xB m) biw.2.2.2.2.2.1 ⟨trivial,trivial⟩ (by decide)) .nil))))))⟩
theorem zadu {H:Hp}{p:Addr}{es:List Ex9}{ps:List Addr}{e:Ex9} (pe:Paired (fun e q=>ExN 4 H q e) es ps) (n:ExN 4 H p e):Paired (fun e q=>ExN 4 H q e) (es++[e]) (ps++[p]):=zabp (R:=fun e q=>ExN 4 H q e) n pe
theorem zanj {H:Hp}{p:Addr}{rs:List Rw9}{qs:List Addr}{r:Rw9} (pr:Paired (fun r p=>RwAt H p r) rs qs) (h:RwAt H p r):Paired (fun r p=>RwAt H p r) (rs++[r]) (qs++[p]):=zabp (R:=fun r p=>RwAt H p r) h pr
theorem app2 {α:Type} (l:List α) (a b:α):l++[a,b]=l++[a]++[b]:=by simp
theorem zaig (xs:List V) (a b:Option Int):(cutV xs a b).length≤xs.length:=by
 unfold cutV
 rw [List.length_take,List.length_drop]; omega
theorem exl2 {H H9:Hp}{pa pb pd D t0 t1 t2:Addr}{lo br:Int}{ps:List Addr} (m:M0 H H9 pa pb pd) (pe:Paired (fun e q=>ExN 4 H9 q e) ex1 ps) (g0:H9 t0=some (.tup [.str "name",.str "g"])) (g1:H9 t1=some (.tup [.str "pick",.ref t0,.ref pa,.ref pb])) (g2:H9 t2=some (.tup [.str "part",.ref pa,.int lo,.int br])) (gD:H9 D=some (.lst (ps.map V.ref++[.ref t1,.ref t2]))):ExL H9 D (ex2 lo br) :=
 ⟨ps++[t1]++[t2],by rw [gD]; simp,by
  show Paired _ (ex1++[.pick eG eA eB,.pt eA lo br]) _
  rw [app2]
  exact zadu (zadu pe ⟨⟨t0,pa,pb,g1,g0,xA m,xB m⟩,⟨trivial,trivial,trivial⟩,by show 1 < 4; decide⟩) ⟨⟨pa,g2,xA m⟩,trivial,by show 1 < 4; decide⟩⟩
theorem zarr {H H9:Hp}{pa pb pd D t1 t2:Addr}{o lo br:Int}{ps:List Addr}{l:List V} (ho:0 < o) (m:M0 H H9 pa pb pd) (pe:Paired (fun e q=>ExN 4 H9 q e) (ex2 lo br) ps) (g1:H9 t1=some (.tup [.str "join",.ref pa,.ref pd])) (g2:H9 t2=some (.tup [.str "join",.ref pd,.ref pb])) (gD:H9 D=some (.lst (ps.map V.ref++l))) (el:l=[.ref t1,.ref t2]):ExL H9 D (ex3 o lo br) :=
 ⟨ps++[t1]++[t2],by rw [gD,el]; simp,by
  unfold ex3
  rw [if_pos ho]
  show Paired _ (ex2 lo br++[.bi "join" eA eD,.bi "join" eD eB]) _
  rw [app2]
  exact zadu (zadu pe (nbi g1 (xA m) (xD m) biw.2.2.2.2.2.2 ⟨trivial,trivial⟩ (by show 1 < 4; decide))) (nbi g2 (xD m) (xB m) biw.2.2.2.2.2.2 ⟨trivial,trivial⟩ (by show 1 < 4; decide))⟩
theorem zars {H9:Hp}{D:Addr}{o lo br:Int}{ps:List Addr}{l:List V} (ho:¬ 0 < o) (pe:Paired (fun e q=>ExN 4 H9 q e) (ex2 lo br) ps) (gD:H9 D=some (.lst (ps.map V.ref++l))) (el:l=[]):ExL H9 D (ex3 o lo br) :=
 ⟨ps,by rw [gD,el]; simp,by
  unfold ex3
  rw [if_neg ho]
  show Paired _ (ex2 lo br++[]) _
  rw [List.append_nil]
  exact pe⟩
theorem exl4 {H H9:Hp}{pa pb pd D t1 t2 t3 t4:Addr}{w o lo br v:Int}{ps:List Addr} (hw:w≤10000) (m:M0 H H9 pa pb pd) (pe:Paired (fun e q=>ExN 4 H9 q e) (ex3 o lo br) ps) (g1:H9 t1=some (.tup [.str "value",.int v,.int w])) (g2:H9 t2=some (.tup [.str "value",.int v,.int w])) (g3:H9 t3=some (.tup [.str "plus",.ref pa,.ref t2])) (g4:H9 t4=some (.tup [.str "not",.ref t3])) (gD:H9 D=some (.lst (ps.map V.ref++[.ref t1,.ref t4]))):ExL H9 D (ex4 w o lo br v) :=
 ⟨ps++[t1]++[t4],by rw [gD]; simp,by
  show Paired _ (ex3 o lo br++[.lf (.val v w),.un (.bi "plus" eA (.lf (.val v w)))]) _
  rw [app2]
  exact zadu (zadu pe ⟨g1,hw,by show 0 < 4; decide⟩) ⟨⟨t3,g4,pa,t2,g3,xA m,g2,biw.2.2.2.1⟩,⟨trivial,hw⟩,by show 2 < 4; decide⟩⟩
theorem exl5 {H H9:Hp}{pa pb pd t1 t2 t3 t4 t5:Addr}{w o lo br v:Int}{ps:List Addr} (m:M0 H H9 pa pb pd) (pe:Paired (fun e q=>ExN 4 H9 q e) (ex4 w o lo br v) ps) (g1:H9 t1=some (.tup [.str "less",.ref pb,.ref pa])) (g2:H9 t2=some (.tup [.str "not",.ref pb])) (g3:H9 t3=some (.tup [.str "xor",.ref pa,.ref t2])) (g4:H9 t4=some (.tup [.str "plus",.ref pb,.ref pb])) (g5:H9 t5=some (.tup [.str "pick",.ref t1,.ref t3,.ref t4])):Paired (fun e q=>ExN 4 H9 q e) (ex5 w o lo br v) (ps++[t5]) :=
 zadu pe ⟨⟨t1,t3,t4,g5,⟨pb,pa,g1,xB m,xA m,biw.2.2.2.2.1⟩,⟨pa,t2,g3,xA m,⟨pb,g2,xB m⟩,biw.2.2.1⟩,⟨pb,pb,g4,xB m,xB m,biw.2.2.2.1⟩⟩,⟨⟨trivial,trivial⟩,⟨trivial,trivial⟩,trivial,trivial⟩,by show 3 < 4; decide⟩
def ZL:Str := "onmlkjihgfedcba"
def zn (k:Nat):Str := "z" ++ ⟨#[ZL.cps.toList.getD k 0]⟩
def outsF (es:List Ex9):List Rw9:=es.mapIdx fun k e=>.out (zn k) e
def rows11 (w o lo br v:Int):List Rw9:=ins11 w o++outsF (ex5 w o lo br v)
theorem zaih {w o:Int} (h:0 < o):ins11 w o=[.inn "m" w,.inn "c" w,.inn "g" 1,.inn "a" o]:=by unfold ins11; rw [if_pos h]; rfl
theorem zaii {w o:Int} (h:¬ 0 < o):ins11 w o=[.inn "m" w,.inn "c" w,.inn "g" 1]:=by unfold ins11; rw [if_neg h]; rfl
theorem zatg {H9:Hp}{D t1 t2 t3 t4:Addr}{w o:Int}{l:List V} (h:0 < o) (g1:H9 t1=some (.tup [.str "in",.str "m",.int w])) (g2:H9 t2=some (.tup [.str "in",.str "c",.int w])) (g3:H9 t3=some (.tup [.str "in",.str "g",.int 1])) (g4:H9 t4=some (.tup [.str "in",.str "a",.int o])) (gD:H9 D=some (.lst l)) (el:l=[.ref t1,.ref t2,.ref t3,.ref t4]):RwL H9 D (ins11 w o):=by
 rw [zaih h]; subst el
 exact ⟨[t1,t2,t3,t4],gD,.cons g1 (.cons g2 (.cons g3 (.cons g4 .nil)))⟩
theorem zath {H9:Hp}{D t1 t2 t3:Addr}{w o:Int}{l:List V} (h:¬ 0 < o) (g1:H9 t1=some (.tup [.str "in",.str "m",.int w])) (g2:H9 t2=some (.tup [.str "in",.str "c",.int w])) (g3:H9 t3=some (.tup [.str "in",.str "g",.int 1])) (gD:H9 D=some (.lst l)) (el:l=[.ref t1,.ref t2,.ref t3]):RwL H9 D (ins11 w o):=by
 rw [zaii h]; subst el
 exact ⟨[t1,t2,t3],gD,.cons g1 (.cons g2 (.cons g3 .nil))⟩
section
variable {P:Program}{w:World}{K:PySem.W.Frag}{mg:Str→Option Value}{base:Heap}{f:Addr}{fd:FuncData}{k:Nat}
theorem zal1:Nd "Module" := by decide +kernel
theorem av52:AF (defScope (top 52)) ["_law_wide", "_law_other", "_law_low", "_law_broad", "_law_value", "_law_a", "_law_b", "_law_d", "_law_rows", "_law_exprs", "_law_k", "_law_expr"]:=⟨by decide +kernel⟩
theorem gl52:AG (defScope (top 52)) ["int", "enumerate", "Module"]:=⟨by decide +kernel⟩
def spMB (CM:Addr):Sp:=fun vs H Q _=>∃ (wi o lo br v:Int),vs=[.int wi,.int o,.int lo,.int br,.int v]∧0≤o∧wi≤10000∧∀ x H',Ch [] H H'→MoAt CM H' x "top" (rows11 wi o lo br v)→Q (.ref x) H'
theorem scMB:FnScope ["_law_wide", "_law_other", "_law_low", "_law_broad", "_law_value", "_law_a", "_law_b", "_law_d", "_law_rows", "_law_exprs", "_law_k", "_law_expr"] ["_law_wide", "_law_other", "_law_low", "_law_broad", "_law_value"] (defScope (top 52)):=⟨rfl,rfl,rfl,by decide +kernel,rfl,by decide +kernel,by decide +kernel⟩
theorem zati {CM:Addr} (F:Fun K "_law_module_by" "_law_module_by" (top 52) f fd) (MkModule:MakeOk P w K mg base CX0 k CM "Module" ["self", "name", "rows"] (spMo CM 8)) (z_int:mg "int" = none) (z_enumerate:mg "enumerate" = none):FnOk P w K mg base CX0 (k + 2) f fd ["_law_wide", "_law_other", "_law_low", "_law_broad", "_law_value"] (spMB CM):=by
 have nd:=scMB.nd
 refine F.ok scMB (fun vs H Q E h=>by obtain ⟨wi,o,lo,br,v,rfl,_⟩:=h; rfl) (fun cdv A outer s H vs Q E hr h=>?_)
 obtain ⟨wi,o,lo,br,v,rfl,o0,w1,q⟩:=h
 have hu:=zacx hr
 have hrm:=hr
 refine ⟨_,(Pr.h (zaad (zaaz (i:=5) nd rfl (av52.l 5 rfl) (zaay (zaaa zaaw (zaaa zaaw zaac zaah) zaah))) (zaad (zaaz (i:=6) nd rfl (av52.l 6 rfl) (zaay (zaaa zaaw (zaaa zaaw zaac zaah) zaah))) (zabb (zaaz (i:=7) nd rfl (av52.l 7 rfl) (zaay (zaaa zaaw (zaaa zaaw zaac zaah) zaah))) (zabb (zaaz (i:=8) nd rfl (av52.l 8 rfl) (zacw zaey (zabi (zaaa (zaay (zaaa zaaw (zaaa zaaw (zaaa (qv av52 0 rfl) zaac zaae) zaah) zaah)) (zaaa (zaay (zaaa zaaw (zaaa zaaw (zaaa (qv av52 0 rfl) zaac zaae) zaah) zaah)) (zaaa (zaay (zaaa zaaw (zaaa zaaw (zaaa zaab zaac zaah) zaah) zaah)) (zaaa (zaay (zaaa zaaw (zaaa zaaw (zaaa (qv av52 1 rfl) zaac zaae) zaah) zaah)) zaac zaa9) zaa9) zaa9) zaa9)) zac4 (zac5 (zaam zabu zaab (zabf zacu (gl52.g 0 rfl) z_int zado (zaaa (zabo zaht (qv av52 1 rfl) zaab (nomark _)) zaac zach) zadp zadq))))) (zabb (zaaz (i:=9) nd rfl (av52.l 9 rfl) (zabi (zaaa (zaay (zaaa zaaw (zaaa (qv av52 5 rfl) zaac zaae) zaah)) (zaaa (zaay (zaaa zaaw (zaaa (qv av52 5 rfl) (zaaa (qv av52 6 rfl) zaac zaae) zaae) zaah)) (zaaa (zaay (zaaa zaaw (zaaa (qv av52 5 rfl) (zaaa (qv av52 6 rfl) zaac zaae) zaae) zaah)) (zaaa (zaay (zaaa zaaw (zaaa (qv av52 5 rfl) (zaaa (qv av52 6 rfl) zaac zaae) zaae) zaah)) (zaaa (zaay (zaaa zaaw (zaaa (qv av52 5 rfl) (zaaa (qv av52 6 rfl) zaac zaae) zaae) zaah)) (zaaa (zaay (zaaa zaaw (zaaa (qv av52 5 rfl) (zaaa (qv av52 6 rfl) zaac zaae) zaae) zaah)) (zaaa (zaay (zaaa zaaw (zaaa (qv av52 5 rfl) (zaaa (qv av52 6 rfl) zaac zaae) zaae) zaah)) zaac zaa9) zaa9) zaa9) zaa9) zaa9) zaa9) zaa9))) (zabb (zaaz (i:=9) nd rfl (av52.l 9 rfl) (zaam zadm (qv av52 9 rfl) (zabi (zaaa (zaay (zaaa zaaw (zaaa (zaay (zaaa zaaw (zaaa zaaw zaac zaah) zaah)) (zaaa (qv av52 5 rfl) (zaaa (qv av52 6 rfl) zaac zaae) zaae) zaa9) zaah)) (zaaa (zaay (zaaa zaaw (zaaa (qv av52 5 rfl) (zaaa (qv av52 2 rfl) (zaaa (qv av52 3 rfl) zaac zaae) zaae) zaae) zaah)) zaac zaa9) zaa9)))) (zabb (zaaz (i:=9) nd rfl (av52.l 9 rfl) (zaam zadm (qv av52 9 rfl) (zacw zaey (zabi (zaaa (zaay (zaaa zaaw (zaaa (qv av52 5 rfl) (zaaa (qv av52 7 rfl) zaac zaae) zaae) zaah)) (zaaa (zaay (zaaa zaaw (zaaa (qv av52 7 rfl) (zaaa (qv av52 6 rfl) zaac zaae) zaae) zaah)) zaac zaa9) zaa9)) zac4 (zac5 (zaam zac9 zaab (zabf zacu (gl52.g 0 rfl) z_int zado (zaaa (zabo zaht (qv av52 1 rfl) zaab (nomark _)) zaac zach) zadp zadq)))))) (zabb (zaaz (i:=9) nd rfl (av52.l 9 rfl) (zaam zadm (qv av52 9 rfl) (zabi (zaaa (zaay (zaaa zaaw (zaaa (qv av52 4 rfl) (zaaa (qv av52 0 rfl) zaac zaae) zaae) zaah)) (zaaa (zaay (zaaa zaaw (zaaa (zaay (zaaa zaaw (zaaa (qv av52 5 rfl) (zaaa (zaay (zaaa zaaw (zaaa (qv av52 4 rfl) (zaaa (qv av52 0 rfl) zaac zaae) zaae) zaah)) zaac zaa9) zaae) zaah)) zaac zaa9) zaah)) zaac zaa9) zaa9)))) (zaad (zack (zafz PySem.F.plainAttrs_list PySem.F.slot_list_append PySem.F.type_list_append zae1 (qv av52 9 rfl) (zaaa (zaay (zaaa zaaw (zaaa (zaay (zaaa zaaw (zaaa (qv av52 6 rfl) (zaaa (qv av52 5 rfl) zaac zaae) zaae) zaah)) (zaaa (zaay (zaaa zaaw (zaaa (qv av52 5 rfl) (zaaa (zaay (zaaa zaaw (zaaa (qv av52 6 rfl) zaac zaae) zaah)) zaac zaa9) zaae) zaah)) (zaaa (zaay (zaaa zaaw (zaaa (qv av52 6 rfl) (zaaa (qv av52 6 rfl) zaac zaae) zaae) zaah)) zaac zaa9) zaa9) zaa9) zaah)) zaac zaa9))) (zaad (zaby PassesOwn.never rfl (zaiw .list (gl52.g 1 rfl) z_enumerate (zaaa (qv av52 9 rfl) zaac zaae)) (zagj rfl (zaa7 (zaa0 (i:=10) nd rfl (av52.l 10 rfl)) (zaa7 (zaa0 (i:=11) nd rfl (av52.l 11 rfl)) zacb))) (zaaf (zack (zafz PySem.F.plainAttrs_list PySem.F.slot_list_append PySem.F.type_list_append zae1 (qv av52 8 rfl) (zaaa (zaay (zaaa zaaw (zaaa (zaam zajf zaaw (zaai zaoy zaaw (qv av52 10 rfl) (fun _ _=>rfl))) (zaaa (qv av52 11 rfl) zaac zaae) zaa2) zaah)) zaac zaa9))))) (zaaf (zaan (zadb MkModule hrm (gl52.g 2 rfl) pass0 (zaaa zaaw (zaaa (qv av52 8 rfl) zaac zaae) zaah) zal1)))))))))))))),?_⟩
 (try dsimp only [cxOf])
 walk_at "rd"
 refine zabq (fun σ H'=>∃ pa pb pd,σ=[some (.int wi),some (.int o),some (.int lo),some (.int br),some (.int v),some (.ref pa),some (.ref pb),some (.ref pd),none,none,none,none]∧M0 H H' pa pb pd) ?_ ?_
 ·walk_at "rd"
  rename_i pa ha pb hb pd hd
  exact ⟨((Ch.new ha _).trans (Ch.new hb _)).trans (Ch.new hd _),zacy hd (zacy hb zaag),zacy hd zaag,zaag⟩
 rintro σ H1 ⟨pa,pb,pd,rfl,m0⟩
 refine zabq (fun σ H'=>∃ r8,σ=[some (.int wi),some (.int o),some (.int lo),some (.int br),some (.int v),some (.ref pa),some (.ref pb),some (.ref pd),some (.ref r8),none,none,none]∧Ch [] H1 H'∧H1 r8=none∧RwL H' r8 (ins11 wi o)) ?_ ?_
 ·walk_at "rd"
  rename_i t1 h1 t2 h2 t3 h3 t4 h4 pl hl pr hr8
  refine ⟨chFree (by walk_at "ch") hr8,?_⟩
  by_cases ho:0 < o
  ·exact zatg (t1:=t1) (t2:=t2) (t3:=t3) (t4:=t4) ho (by walk_at "get") (by walk_at "get") (by walk_at "get") (by walk_at "get") zaag (by rw [decide_eq_true ho]; rfl)
  ·exact zath (t1:=t1) (t2:=t2) (t3:=t3) ho (by walk_at "get") (by walk_at "get") (by walk_at "get") zaag (by rw [decide_eq_false ho]; rfl)
 rintro σ H2 ⟨r8,rfl,c2,f8,rl⟩
 have m2:=m0.ch c2
 refine zabq (fun σ H'=>∃ e9,σ=[some (.int wi),some (.int o),some (.int lo),some (.int br),some (.int v),some (.ref pa),some (.ref pb),some (.ref pd),some (.ref r8),some (.ref e9),none,none]∧Ch [] H2 H'∧H2 e9=none∧ExL H' e9 ex1) ?_ ?_
 ·walk_at "rd"
  rename_i t1 h1 t2 h2 t3 h3 t4 h4 t5 h5 t6 h6 t7 h7 D hD
  refine ⟨chFree (by walk_at "ch") hD,?_⟩
  exact exl1 (t1:=t1) (t2:=t2) (t3:=t3) (t4:=t4) (t5:=t5) (t6:=t6) (t7:=t7) (m2.ch (by walk_at "ch")) (by walk_at "get") (by walk_at "get") (by walk_at "get") (by walk_at "get") (by walk_at "get") (by walk_at "get") (by walk_at "get") zaag
 rintro σ H3 ⟨e9,rfl,c3,f9,el⟩
 have m3:=m2.ch c3
 clear f9
 obtain ⟨ps3,g3,p3⟩:=el.ex
 have l3:7=ps3.length:=Paired.length p3
 refine zabq (fun σ H'=>∃ e9,σ=[some (.int wi),some (.int o),some (.int lo),some (.int br),some (.int v),some (.ref pa),some (.ref pb),some (.ref pd),some (.ref r8),some (.ref e9),none,none]∧Ch [] H3 H'∧H3 e9=none∧ExL H' e9 (ex2 lo br)) ?_ ?_
 ·walk_at "rd"
  rename_i t0 h0 t1 h1 t2 h2 l1 hl1 D hD
  refine ⟨chFree (by walk_at "ch") hD,?_⟩
  exact exl2 (t0:=t0) (t1:=t1) (t2:=t2) (m3.ch (by walk_at "ch")) (zaax (fun _ _=>ExN.tu (Tu.same (by walk_at "ch"))) p3) (by walk_at "get") (by walk_at "get") (by walk_at "get") zaag
 rintro σ H4 ⟨e9,rfl,c4,f9,el⟩
 have m4:=m3.ch c4
 clear f9
 obtain ⟨ps4,g4,p4⟩:=el.ex
 have l4:9=ps4.length:=Paired.length p4
 refine zabq (fun σ H'=>∃ e9,σ=[some (.int wi),some (.int o),some (.int lo),some (.int br),some (.int v),some (.ref pa),some (.ref pb),some (.ref pd),some (.ref r8),some (.ref e9),none,none]∧Ch [] H4 H'∧H4 e9=none∧ExL H' e9 (ex3 o lo br)) ?_ ?_
 ·walk_at "rd"
  rename_i t1 h1 t2 h2 l1 hl1 l2 hl2
  refine ⟨by have:=zaig [V.ref t1,V.ref t2] none (some (2 * if decide (0 < o)=true then 1 else 0)); simp only [List.length_cons,List.length_nil] at this; rw [List.length_map,sizeLine_eq]; omega,?_⟩
  walk_at "rd"
  rename_i D hD
  refine ⟨chFree (by walk_at "ch") hD,?_⟩
  by_cases ho:0 < o
  ·exact zarr (t1:=t1) (t2:=t2) ho (m4.ch (by walk_at "ch")) (zaax (fun _ _=>ExN.tu (Tu.same (by walk_at "ch"))) p4) (by walk_at "get") (by walk_at "get") zaag (by rw [decide_eq_true ho]; rfl)
  ·exact zars ho (zaax (fun _ _=>ExN.tu (Tu.same (by walk_at "ch"))) p4) zaag (by rw [decide_eq_false ho]; rfl)
 rintro σ H5 ⟨e9,rfl,c5,f9,el⟩
 have m5:=m4.ch c5
 clear f9
 obtain ⟨ps5,g5,p5⟩:=el.ex
 have l5:ps5.length≤11:=by
  rw [← Paired.length p5]
  unfold ex3 ex2 ex1
  simp only [List.length_append,List.length_cons,List.length_nil,List.length_take]; omega
 refine zabq (fun σ H'=>∃ e9,σ=[some (.int wi),some (.int o),some (.int lo),some (.int br),some (.int v),some (.ref pa),some (.ref pb),some (.ref pd),some (.ref r8),some (.ref e9),none,none]∧Ch [] H5 H'∧H5 e9=none∧ExL H' e9 (ex4 wi o lo br v)) ?_ ?_
 ·walk_at "rd"
  rename_i t1 h1 t2 h2 t3 h3 t4 h4 l1 hl1 D hD
  refine ⟨chFree (by walk_at "ch") hD,?_⟩
  exact exl4 (t1:=t1) (t2:=t2) (t3:=t3) (t4:=t4) w1 (m5.ch (by walk_at "ch")) (zaax (fun _ _=>ExN.tu (Tu.same (by walk_at "ch"))) p5) (by walk_at "get") (by walk_at "get") (by walk_at "get") (by walk_at "get") zaag
 rintro σ H6 ⟨e9,rfl,c6,f9,el⟩
 have m6:=m5.ch c6
 obtain ⟨ps6,g6,p6⟩:=el.ex
 have l6:ps6.length≤13:=by
  rw [← Paired.length p6]
  unfold ex4 ex3 ex2 ex1
  simp only [List.length_append,List.length_cons,List.length_nil,List.length_take]; omega
 have rl6:=rl.ch ((c3.trans c4).trans (c5.trans c6))
 have f8H:H r8=none:=chFree m0.c f8
 have f9H:H e9=none:=chFree m5.c f9
 have n89:e9≠r8:=by
  obtain ⟨_,z,_⟩:=(rl.ch ((c3.trans c4).trans c5)).ex
  exact (zaa8 z f9).symm
 walk_at "rd"
 rename_i t1 h1 t2 h2 t3 h3 t4 h4 t5 h5
 have cX:Ch [] H6 (upd (upd (upd (upd (upd H6 t1 (.tup [.str "less",.ref pb,.ref pa])) t2 (.tup [.str "not",.ref pb])) t3 (.tup [.str "xor",.ref pa,.ref t2])) t4 (.tup [.str "plus",.ref pb,.ref pb])) t5 (.tup [.str "pick",.ref t1,.ref t3,.ref t4])):=by walk_at "ch"
 have pX:=exl5 (t1:=t1) (t2:=t2) (t3:=t3) (t4:=t4) (t5:=t5) (H9:=upd (upd (upd (upd (upd H6 t1 (.tup [.str "less",.ref pb,.ref pa])) t2 (.tup [.str "not",.ref pb])) t3 (.tup [.str "xor",.ref pa,.ref t2])) t4 (.tup [.str "plus",.ref pb,.ref pb])) t5 (.tup [.str "pick",.ref t1,.ref t3,.ref t4])) (m6.ch cX) (zaax (fun _ _=>ExN.tu (Tu.same cX)) p6) (by walk_at "get") (by walk_at "get") (by walk_at "get") (by walk_at "get") zaag
 generalize upd (upd (upd (upd (upd H6 t1 (.tup [.str "less",.ref pb,.ref pa])) t2 (.tup [.str "not",.ref pb])) t3 (.tup [.str "xor",.ref pa,.ref t2])) t4 (.tup [.str "plus",.ref pb,.ref pb])) t5 (.tup [.str "pick",.ref t1,.ref t3,.ref t4])=HX at cX pX ⊢
 have gX:=cX.get g6 (by simp)
 have tu9:=zaf8 (o:=.lst (ps6.map V.ref++[.ref t5])) gX
 have rl9:RwL (upd HX e9 (.lst (ps6.map V.ref++[.ref t5]))) r8 (ins11 wi o++outsF ((ex5 wi o lo br v).take 0)):=by
  obtain ⟨qs,gr,pr⟩:=(rl6.ch cX).ex
  rw [List.take_zero]
  show RwL _ _ (ins11 wi o++[])
  rw [List.append_nil]
  exact ⟨qs,zabc n89.symm gr,zaax (fun _ _=>RwAt.tu tu9) pr⟩
 have p9:Paired (fun e q=>ExN 4 (upd HX e9 (.lst (ps6.map V.ref++[.ref t5]))) q e) (ex5 wi o lo br v) (ps6++[t5]):=zaax (fun _ _=>ExN.tu tu9) pX
 have cB:Ch [] H (upd HX e9 (.lst (ps6.map V.ref++[.ref t5]))):=Ch.own f9H (m6.c.trans cX)
 have g9:(upd HX e9 (.lst (ps6.map V.ref++[.ref t5]))) e9=some (.lst ((ps6++[t5]).map V.ref)):=by rw [zaag]; simp
 generalize upd HX e9 (.lst (ps6.map V.ref++[.ref t5]))=H9 at rl9 p9 cB g9 ⊢
 have lx:(ps6++[t5]).length≤14:=by simp only [List.length_append,List.length_cons,List.length_nil]; omega
 have le:=Paired.length p9
 generalize ps6++[t5]=qx at p9 g9 lx le
 have qE:∀ x H',Ch [] H H'→MoAt CM H' x "top" (ins11 wi o++outsF (ex5 wi o lo br v))→Q (.ref x) H':=q
 have li:(ins11 wi o).length≤4:=by unfold ins11; rw [List.length_take]; simp only [List.length_cons,List.length_nil]; omega
 clear q
 generalize ex5 wi o lo br v=E5 at rl9 p9 le qE
 generalize ins11 wi o=I5 at rl9 qE li
 clear pX tu9 gX cX h1 h2 h3 h4 h5 rl6 rl p6 g6 l6 el
 refine zahf (xs:=qx.map V.ref) (fun i σ H'=>∃ u10 u11,σ=[some (.int wi),some (.int o),some (.int lo),some (.int br),some (.int v),some (.ref pa),some (.ref pb),some (.ref pd),some (.ref r8),some (.ref e9),u10,u11]∧Ch [] H H'∧H' e9=some (.lst (qx.map V.ref))∧Box (Paired (fun e q=>ExN 4 H' q e) E5 qx)∧RwL H' r8 (I5++outsF (E5.take i))) ⟨_,_,rfl,cB,g9,⟨p9⟩,rl9⟩ ?_ ?_ ?_
 ·rintro i σ H' hi ⟨u10,u11,rfl,_,ge,_⟩
  exact SqL.of ge
 ·clear cB g9 p9 rl9
  rintro i z σ H' T hz ⟨u10,u11,rfl,cb,ge,⟨pe⟩,rl⟩ hT
  rw [List.getElem?_map] at hz
  obtain ⟨p,hp,rfl⟩:=Option.map_eq_some_iff.mp hz
  have il:i < E5.length:=by rw [le]; exact (List.getElem?_eq_some_iff.mp hp).1
  have ee:ExN 4 H' p E5[i]:=by
   have:=zabx pe i il (by omega)
   rw [(List.getElem?_eq_some_iff.mp hp).2] at this
   exact this
  have i14:i < 14:=by omega
  obtain ⟨qs,gr,pr⟩:=rl.ex
  have lr:qs.length≤30:=by
   rw [← Paired.length pr,List.length_append]
   unfold outsF
   rw [List.length_mapIdx,List.length_take]; omega
  have zl:(Str.ofString "onmlkjihgfedcba").cps.toList.length=15:=by decide +kernel
  have az:atI (Str.ofString "onmlkjihgfedcba").cps.toList (i:Int)=some (ZL.cps.toList.getD i 0):=zaex (by
   show ZL.cps.toList[i]?=_
   have:i < ZL.cps.toList.length:=by show i < (Str.ofString "onmlkjihgfedcba").cps.toList.length; omega
   rw [List.getD_eq_getElem?_getD,List.getElem?_eq_getElem this]; rfl)
  have z1:(Str.ofString "onmlkjihgfedcba").length≤sizeLine:=by decide +kernel
  have z2:(Str.ofString "z").length + (⟨#[ZL.cps.toList.getD i 0]⟩:Str).length≤sizeLine:=by
   rw [show (Str.ofString "z").length=1 by decide +kernel,sizeLine_eq]; show 1 + 1≤_; decide
  walk_at "rd"
  rename_i t6 h6
  have c1:Ch [] H' (upd (upd H' T (.tup [.int (i:Int),.ref p])) t6 (.tup [.str "out",.str (zn i),.ref p])):=(Ch.new hT _).trans (Ch.new h6 _)
  have gr1:=c1.get gr (by simp)
  have tl:=zaf8 (o:=.lst (qs.map V.ref++[.ref t6])) gr1
  have ta:=(Tu.same c1).trans tl
  refine ⟨⟨zaax (fun _ _=>ExN.tu ta) pe⟩,?_⟩
  have eo:I5++outsF (E5.take (i + 1))=(I5++outsF (E5.take i))++[.out (zn i) E5[i]]:=by
   rw [List.take_add_one,List.getElem?_eq_getElem il]
   show I5++outsF (E5.take i++[E5[i]])=_
   unfold outsF
   rw [List.mapIdx_concat,List.length_take,Nat.min_eq_left (Nat.le_of_lt il),List.append_assoc]
  rw [eo]
  exact ⟨qs++[t6],by rw [zaag]; simp,zanj (zaax (fun _ _=>RwAt.tu ta) pr) (show RwAt _ t6 (.out (zn i) E5[i]) from ⟨p,tl _ _ zaag,ee.tu ta⟩)⟩
 ·rintro σ H' ⟨u10,u11,rfl,cb,ge,⟨pe⟩,rl⟩
  rw [List.length_map,← le,List.take_length] at rl
  obtain ⟨qs,gr,pr⟩:=rl.ex
  have l60:(I5++outsF E5).length≤60:=by
   rw [List.length_append]
   unfold outsF
   rw [List.length_mapIdx]; omega
  walk_at "rd"
  rename_i x dx hx hdx ndx
  have c1:Ch [] H' (upd (upd H' dx (.own x)) x (.ins CM dx [])):=(Ch.new hdx _).trans (Ch.new (by rw [zaak ndx.symm]; exact hx) _)
  refine ⟨zapl (c1.get gr (by simp)) (zaax (fun _ _=>RwAt.tu (Tu.same c1)) pr) l60,fun rp H8 c8 gx dd=>⟨rfl,?_⟩⟩
  exact qE x H8 (cb.trans (Ch.made hx hdx ndx c8)) (zapm pr l60 gx dd)
end
end

section
def due1 (w a b:Int):List Int:=[2 ^ w.toNat - 1 - a,Builtin.bitAnd a b,Builtin.bitOr a b,Builtin.bitXor a b,(a + b) % 2 ^ w.toNat,(if a < b then 1 else 0),(if a=b then 1 else 0)]
def due2 (lo br a b c:Int):List Int:=[(if c=1 then a else b),a / 2 ^ lo.toNat % 2 ^ br.toNat]
def due3 (w o a b d:Int):List Int:=[a * 2 ^ o.toNat + d,d * 2 ^ w.toNat + b].take (2 * (if 0 < o then 1 else 0))
def due4 (w v a b:Int):List Int:=[v,2 ^ w.toNat - 1 - (a + v) % 2 ^ w.toNat]++[if b < a then Builtin.bitXor a (2 ^ w.toNat - 1 - b) else (b + b) % 2 ^ w.toNat]
def due11 (w o lo br v a b c d:Int):List Int:=due1 w a b++due2 lo br a b c++due3 w o a b d++due4 w v a b
def row11 (o a b c d:Int):List Int:=if 0 < o then [a,b,c,d] else [a,b,c]
theorem p16 {n:Nat} (h:n≤16):(2:Int) ^ n≤65536:=by
 have h1:(2:Nat) ^ n≤2 ^ 16:=Nat.pow_le_pow_right (by decide) h
 have h2:((2 ^ n:Nat):Int)=(2:Int) ^ n:=by simp
 rw [← h2]; omega
theorem lstr {H:Hp}{p:Addr}{xs ys:List V} (h:H p=some (.lst xs)) (e:xs=ys):H p=some (.lst ys):=by rw [← e]; exact h
theorem zal2 (w o a b d:Int):(due3 w o a b d).length≤2:=by unfold due3; rw [List.length_take]; simp only [List.length_cons,List.length_nil]; omega
section
variable {P:Program}{w:World}{K:PySem.W.Frag}{mg:Str→Option Value}{base:Heap}{f:Addr}{fd:FuncData}{k:Nat}
theorem zabz:Nd "_law_power" := by decide +kernel
theorem av53:AF (defScope (top 53)) ["_law_row", "_law_wide", "_law_other", "_law_low", "_law_broad", "_law_value", "_law_a", "_law_b", "_law_c", "_law_d", "_law_power_here", "_law_due_here"]:=⟨by decide +kernel⟩
theorem gl53:AG (defScope (top 53)) ["_law_power", "int"]:=⟨by decide +kernel⟩
def spDue:Sp:=fun vs H Q _=>∃ (r:Addr) (wi o lo br v a b c d:Int),vs=[.ref r,.int wi,.int o,.int lo,.int br,.int v]∧H r=some (.lst ((row11 o a b c d).map V.int))∧(¬ 0 < o→d=0)∧(0≤wi∧wi≤16)∧(0≤o∧o≤16)∧(0≤lo∧lo≤16)∧(0≤br∧br≤16)∧(0≤a∧a < 2 ^ 30)∧(0≤d∧d < 2 ^ 30)∧∀ p H',Ch [] H H'→H' p=some (.lst ((due11 wi o lo br v a b c d).map V.int))→Q (.ref p) H'
theorem scDue:FnScope ["_law_row", "_law_wide", "_law_other", "_law_low", "_law_broad", "_law_value", "_law_a", "_law_b", "_law_c", "_law_d", "_law_power_here", "_law_due_here"] ["_law_row", "_law_wide", "_law_other", "_law_low", "_law_broad", "_law_value"] (defScope (top 53)):=⟨rfl,rfl,rfl,by decide +kernel,rfl,by decide +kernel,by decide +kernel⟩
theorem zart (F:Fun K "_law_due" "_law_due" (top 53) f fd) (D_law_power:DefOk P w K mg base CX0 k "_law_power" ["_law_wide"] spPow) (z_int:mg "int" = none):FnOk P w K mg base CX0 (k + 1) f fd ["_law_row", "_law_wide", "_law_other", "_law_low", "_law_broad", "_law_value"] spDue:=by
 have nd:=scDue.nd
 refine F.ok scDue (fun vs H Q E h=>by obtain ⟨r,wi,o,lo,br,v,a,b,c,d,rfl,_⟩:=h; rfl) (fun cdv A outer s H vs Q E hr h=>?_)
 obtain ⟨r,wi,o,lo,br,v,a,b,c,d,rfl,gr,d0,⟨w0,w1⟩,⟨o0,o1⟩,⟨l0,l1⟩,⟨b0,b1⟩,⟨a0,a1⟩,⟨dd0,dd1⟩,q⟩:=h
 refine ⟨_,(Pr.h (zaad (zah2 (zacw zaey (zaam zadm (qv av53 0 rfl) (zabi (zaaa zaab zaac zaah))) zac4 (zac5 zaab)) (zao7 rfl (zaa7 (zaa0 (i:=6) nd rfl (av53.l 6 rfl)) (zaa7 (zaa0 (i:=7) nd rfl (av53.l 7 rfl)) (zaa7 (zaa0 (i:=8) nd rfl (av53.l 8 rfl)) (zaa7 (zaa0 (i:=9) nd rfl (av53.l 9 rfl)) zacb)))))) (zabb (zaaz (i:=10) nd rfl (av53.l 10 rfl) (zaao D_law_power hr (gl53.g 0 rfl) pass0 (zaaa (qv av53 1 rfl) zaac zaae) zabz)) (zabb (zaaz (i:=11) nd rfl (av53.l 11 rfl) (zabi (zaaa (zaam zacz (zaam zacz (qv av53 10 rfl) zaab) (qv av53 6 rfl)) (zaaa (zaam zanq (qv av53 6 rfl) (qv av53 7 rfl)) (zaaa (zaam zaql (qv av53 6 rfl) (qv av53 7 rfl)) (zaaa (zaam zaj5 (qv av53 6 rfl) (qv av53 7 rfl)) (zaaa (zaam zabn (zaam zabu (qv av53 6 rfl) (qv av53 7 rfl)) (qv av53 10 rfl)) (zaaa (zabf zacu (gl53.g 1 rfl) z_int zado (zaaa (zabo zagd (qv av53 6 rfl) (qv av53 7 rfl) (nomark _)) zaac zach) zadp zadq) (zaaa (zabf zacu (gl53.g 1 rfl) z_int zado (zaaa (zabo zab1 (qv av53 6 rfl) (qv av53 7 rfl) (nomark _)) zaac zach) zadp zadq) zaac zabt) zabt) zaa2) zaa2) zaa2) zaa2) zaa2))) (zabb (zaaz (i:=11) nd rfl (av53.l 11 rfl) (zaam zadm (qv av53 11 rfl) (zabi (zaaa (zaca (zaat zab1 (qv av53 8 rfl) zaab (nomark _)) (qv av53 6 rfl) (qv av53 7 rfl)) (zaaa (zaam zabn (zaam zabv (qv av53 6 rfl) (zaao D_law_power hr (gl53.g 0 rfl) pass0 (zaaa (qv av53 3 rfl) zaac zaae) zabz)) (zaao D_law_power hr (gl53.g 0 rfl) pass0 (zaaa (qv av53 4 rfl) zaac zaae) zabz)) zaac zaa2) zaen)))) (zabb (zaaz (i:=11) nd rfl (av53.l 11 rfl) (zaam zadm (qv av53 11 rfl) (zacw zaey (zabi (zaaa (zaam zabu (zaam zac9 (qv av53 6 rfl) (zaao D_law_power hr (gl53.g 0 rfl) pass0 (zaaa (qv av53 2 rfl) zaac zaae) zabz)) (qv av53 9 rfl)) (zaaa (zaam zabu (zaam zac9 (qv av53 9 rfl) (qv av53 10 rfl)) (qv av53 7 rfl)) zaac zaa2) zaa2)) zac4 (zac5 (zaam zac9 zaab (zabf zacu (gl53.g 1 rfl) z_int zado (zaaa (zabo zaht (qv av53 2 rfl) zaab (nomark _)) zaac zach) zadp zadq)))))) (zabb (zaaz (i:=11) nd rfl (av53.l 11 rfl) (zaam zadm (qv av53 11 rfl) (zabi (zaaa (qv av53 5 rfl) (zaaa (zaam zacz (zaam zacz (qv av53 10 rfl) zaab) (zaam zabn (zaam zabu (qv av53 6 rfl) (qv av53 5 rfl)) (qv av53 10 rfl))) zaac zaa2) zaae)))) (zaaf (zaan (zaam zadm (qv av53 11 rfl) (zabi (zaaa (zaca (zaat zagd (qv av53 7 rfl) (qv av53 6 rfl) (nomark _)) (zaam zaj5 (qv av53 6 rfl) (zaam zacz (zaam zacz (qv av53 10 rfl) zaab) (qv av53 7 rfl))) (zaam zabn (zaam zabu (qv av53 7 rfl) (qv av53 7 rfl)) (qv av53 10 rfl))) zaac zaen)))))))))))),?_⟩
 (try dsimp only [cxOf])
 have pw:(0:Int) < 2 ^ wi.toNat:=Int.pow_pos (by decide)
 have pb:(0:Int) < 2 ^ br.toNat:=Int.pow_pos (by decide)
 have lr:(row11 o a b c d).length≤4:=by unfold row11; split <;> simp
 have er:cutV ((row11 o a b c d).map V.int++[V.int 0]) none (some 4)=[.int a,.int b,.int c,.int d]:=by
  unfold row11
  by_cases ho:0 < o
  ·rw [if_pos ho]; rfl
  ·rw [if_neg ho,d0 ho]; rfl
 walk_at "rd"
 refine ⟨by rw [er]; rfl,?_⟩
 rw [er]
 walk_at "rd"
 refine zabq (fun σ H'=>σ=[some (.ref r),some (.int wi),some (.int o),some (.int lo),some (.int br),some (.int v),some (.int a),some (.int b),some (.int c),some (.int d),some (.int (2 ^ wi.toNat)),none]∧Ch [] H H') ?_ ?_
 ·walk_at "rd"
 rintro σ H1 ⟨rfl,c1⟩
 refine zabq (fun σ H'=>∃ p,σ=[some (.ref r),some (.int wi),some (.int o),some (.int lo),some (.int br),some (.int v),some (.int a),some (.int b),some (.int c),some (.int d),some (.int (2 ^ wi.toNat)),some (.ref p)]∧Ch [] H H'∧H' p=some (.lst ((due1 wi a b).map V.int))) ?_ ?_
 ·walk_at "rd"
  have e0:(if decide (a < b)=true then (1:Int) else 0)=if a < b then 1 else 0:=by by_cases h:a < b <;> simp [h]
  have e1:(if decide (V.int a=V.int b)=true then (1:Int) else 0)=if a=b then 1 else 0:=by by_cases h:a=b <;> simp [h]
  rw [zaag,e0,e1]
  rfl
 rintro σ H2 ⟨p2,rfl,c2,g2⟩
 refine zabq (fun σ H'=>∃ p,σ=[some (.ref r),some (.int wi),some (.int o),some (.int lo),some (.int br),some (.int v),some (.int a),some (.int b),some (.int c),some (.int d),some (.int (2 ^ wi.toNat)),some (.ref p)]∧Ch [] H H'∧H' p=some (.lst ((due1 wi a b++due2 lo br a b c).map V.int))) ?_ ?_
 ·have cdw:CDivW a (2 ^ lo.toNat):=⟨Int.pow_pos (by decide),by have:=p16 (n:=lo.toNat) (by omega); omega⟩
  have l2:((due1 wi a b).map V.int).length=7:=rfl
  walk_at "rd"
  refine ite2 (fun hc=>?_) (fun hc=>?_)
  ·have hc:c=1:=by simpa using hc
   walk_at "rd"
   refine lstr zaag ?_
   rw [List.map_append]
   unfold due2
   rw [if_pos hc]
   rfl
  ·have hc:¬ c=1:=by simpa using hc
   walk_at "rd"
   refine lstr zaag ?_
   rw [List.map_append]
   unfold due2
   rw [if_neg hc]
   rfl
 rintro σ H3 ⟨p3,rfl,c3,g3⟩
 refine zabq (fun σ H'=>∃ p,σ=[some (.ref r),some (.int wi),some (.int o),some (.int lo),some (.int br),some (.int v),some (.int a),some (.int b),some (.int c),some (.int d),some (.int (2 ^ wi.toNat)),some (.ref p)]∧Ch [] H H'∧H' p=some (.lst ((due1 wi a b++due2 lo br a b c++due3 wi o a b d).map V.int))) ?_ ?_
 ·walk_at "rd"
  rename_i q1 hq1 q2 hq2
  refine ⟨by have:=zaig [V.int (a * 2 ^ o.toNat + d),V.int (d * 2 ^ wi.toNat + b)] none (some (2 * if decide (0 < o)=true then 1 else 0)); simp only [List.length_cons,List.length_nil] at this; rw [sizeLine_eq]; show 9 + _≤_; exact Nat.le_trans (Nat.add_le_add_left this 9) (by decide),?_⟩
  walk_at "rd"
  refine lstr zaag ?_
  rw [List.map_append]
  unfold due3
  by_cases ho:0 < o
  ·rw [decide_eq_true ho,if_pos ho]; rfl
  ·rw [decide_eq_false ho,if_neg ho]; rfl
 rintro σ H4 ⟨p4,rfl,c4,g4⟩
 refine zabq (fun σ H'=>∃ p,σ=[some (.ref r),some (.int wi),some (.int o),some (.int lo),some (.int br),some (.int v),some (.int a),some (.int b),some (.int c),some (.int d),some (.int (2 ^ wi.toNat)),some (.ref p)]∧Ch [] H H'∧H' p=some (.lst ((due1 wi a b++due2 lo br a b c++due3 wi o a b d++[v,2 ^ wi.toNat - 1 - (a + v) % 2 ^ wi.toNat]).map V.int))) ?_ ?_
 ·have l3:=zal2 wi o a b d
  have l4:((due1 wi a b++due2 lo br a b c++due3 wi o a b d).map V.int).length≤11:=by rw [List.length_map,List.length_append]; show 9 + _≤_; omega
  walk_at "rd"
  refine lstr zaag ?_
  rw [List.map_append (l₂:=[v,_])]
  rfl
 rintro σ H5 ⟨p5,rfl,c5,g5⟩
 have l3:=zal2 wi o a b d
 have l5:((due1 wi a b++due2 lo br a b c++due3 wi o a b d++[v,2 ^ wi.toNat - 1 - (a + v) % 2 ^ wi.toNat]).map V.int).length≤13:=by rw [List.length_map,List.length_append,List.length_append]; show 9 + _ + 2≤_; omega
 walk_at "rd"
 refine ite2 (fun hc=>?_) (fun hc=>?_)
 ·have hc:b < a:=by simpa using hc
  walk_at "rd"
  rename_i q1 hq1 q2 hq2
  refine q q2 _ (by walk_at "ch") (lstr zaag ?_)
  unfold due11 due4
  rw [if_pos hc,List.map_append,List.map_append (l₁:=due1 wi a b++due2 lo br a b c++due3 wi o a b d),List.append_assoc]
  rfl
 ·have hc:¬ b < a:=by simpa using hc
  walk_at "rd"
  rename_i q1 hq1 q2 hq2
  refine q q2 _ (by walk_at "ch") (lstr zaag ?_)
  unfold due11 due4
  rw [if_neg hc,List.map_append,List.map_append (l₁:=due1 wi a b++due2 lo br a b c++due3 wi o a b d),List.append_assoc]
  rfl
end
end

section
theorem zatj (S:S9) (ot:List (Str × Int)) (l:Lf):wL { S with ot:=ot } l=wL S l:=by cases l <;> rfl
theorem zahq (S:S9) (ot:List (Str × Int)):∀ e:Ex9,wE { S with ot:=ot } e=wE S e
 | .lf l=>zatj S ot l
 | .un a=>by show wZ _ [wE _ a]=wZ _ [wE S a]; rw [zahq S ot a]
 | .bi w a b=>by show wZ _ [wE _ a,wE _ b]=wZ _ [wE S a,wE S b]; rw [zahq S ot a,zahq S ot b]
 | .pick a b c=>by show wZ _ [wE _ a,wE _ b,wE _ c]=wZ _ [wE S a,wE S b,wE S c]; rw [zahq S ot a,zahq S ot b,zahq S ot c]
 | .pt a lw wi=>by show partW (wE _ a) lw wi=partW (wE S a) lw wi; rw [zahq S ot a]
theorem zatk:∀ j < 15,∀ k < 15,j≠k→zn j≠zn k:=by decide +kernel
theorem zaij {β:Type}:∀ (l:List (Str × β)) (k:Nat),k < 15→(∀ p∈l,∃ j < k,p.1=zn j)→l.lookup (zn k)=none
 | [],_,_,_=>rfl
 | (n,x) :: l,k,hk,h=>by
  obtain ⟨j,hj,e⟩:=h (n,x) (by simp)
  have e:n=zn j:=e
  rw [List.lookup_cons,beq_eq_false_iff_ne.mpr (fun z=>zatk j (by omega) k hk (by omega) (by rw [← e,z]))]
  exact zaij l k hk fun p hp=>h p (List.mem_cons_of_mem _ hp)
def oW (S:S9) (k:Nat):List Ex9→List (Str × Int)
 | []=>[]
 | e :: es=>(zn k,wE S e) :: oW S (k + 1) es
def oV (N:Nms) (k:Nat):List Ex9→Nms
 | []=>[]
 | e :: es=>(zn k,vE N e) :: oV N (k + 1) es
def oR (k:Nat):List Ex9→List Rw9
 | []=>[]
 | e :: es=>.out (zn k) e :: oR (k + 1) es
theorem zaru:∀ (es:List Ex9) (k:Nat),es.mapIdx (fun i e=>Rw9.out (zn (i + k)) e)=oR k es
 | [],k=>rfl
 | e :: es,k=>by
  rw [List.mapIdx_cons]
  show Rw9.out (zn (0 + k)) e :: _=_
  rw [Nat.zero_add]
  show _=_ :: oR (k + 1) es
  rw [← zaru es (k + 1)]
  congr 1
  congr 1
  funext i e
  rw [show i + 1 + k=i + (k + 1) by omega]
theorem zaik (es:List Ex9):outsF es=oR 0 es:=zaru es 0
theorem zan4 (S:S9):∀ (es:List Ex9) (k i:Nat) (ot:List (Str × Int)),k + es.length≤15→(∀ e∈es,wE S e≠0)→(∀ p∈ot,∃ j < k,p.1=zn j)→run [] (oR k es) { S with ot:=ot } i=.inr { S with ot:=ot++oW S k es }
 | [],k,i,ot,_,_,_=>by simp [oR,oW,run]
 | e :: es,k,i,ot,hl,hw,ho=>by
  have hl:k + (es.length + 1)≤15:=hl
  have tk:take [] { S with ot:=ot } (.out (zn k) e)=some { S with ot:=ot++[(zn k,wE S e)] }:=by
   have h1:=zaij ot k (by omega) ho
   have h2:=hw e (by simp)
   simp only [take,zahq,h1]
   simp [h2]
  show run [] (.out (zn k) e :: oR (k + 1) es) _ i=_
  unfold run
  rw [tk]
  show run [] (oR (k + 1) es) { S with ot:=ot++[(zn k,wE S e)] } (i + 1)=_
  rw [zan4 S es (k + 1) (i + 1) (ot++[(zn k,wE S e)]) (by omega) (fun a ha=>hw a (List.mem_cons_of_mem _ ha)) (fun p hp=>by
   rcases List.mem_append.mp hp with h | h
   ·obtain ⟨j,hj,e⟩:=ho p h; exact ⟨j,by omega,e⟩
   ·rw [List.mem_singleton.mp h]; exact ⟨k,by omega,rfl⟩)]
  simp [oW]
theorem zarv (N:Nms):∀ (es:List Ex9) (k:Nat) (O:Nms),k + es.length≤15→(∀ e∈es,VOK N e)→(∀ p∈O,∃ j < k,p.1=zn j)→TO (oR k es) N O [] (O++oV N k es)
 | [],k,O,_,_,_=>by simp only [oR,oV,List.append_nil]; exact .nil
 | e :: es,k,O,hl,hv,ho=>by
  have hl:k + (es.length + 1)≤15:=hl
  have ih:=zarv N es (k + 1) (O++[(zn k,vE N e)]) (by omega) (fun a ha=>hv a (List.mem_cons_of_mem _ ha)) (fun p hp=>by
   rcases List.mem_append.mp hp with h | h
   ·obtain ⟨j,hj,e⟩:=ho p h; exact ⟨j,by omega,e⟩
   ·rw [List.mem_singleton.mp h]; exact ⟨k,by omega,rfl⟩)
  rw [List.append_assoc] at ih
  exact .out (zaij O k (by omega) ho) (hv e (by simp)) ih
theorem zal3 (N:Nms):∀ (es:List Ex9) (k:Nat),(oV N k es).map (fun a=>V.int a.2.1)=(es.map fun e=>(vE N e).1).map V.int
 | [],k=>rfl
 | e :: es,k=>by show _ :: _=_ :: _; rw [zal3 N es (k + 1)]
theorem zarw:∀ (es:List Ex9) (k:Nat),∀ r∈oR k es,IsIO r
 | [],k,r,h=>by cases h
 | e :: es,k,r,h=>by
  rcases List.mem_cons.mp h with rfl | h
  ·exact .out
  ·exact zarw es (k + 1) r h
end

section
theorem zapo:((Str.ofString "c" == Str.ofString "m")=false∧(Str.ofString "g" == Str.ofString "m")=false∧(Str.ofString "g" == Str.ofString "c")=false)∧(Str.ofString "a" == Str.ofString "m")=false∧(Str.ofString "a" == Str.ofString "c")=false∧(Str.ofString "a" == Str.ofString "g")=false:=by decide +kernel
def L4 {β:Type} (m c g a:β):List (Str × β):=[("m",m),("c",c),("g",g),("a",a)]
def L3 {β:Type} (m c g:β):List (Str × β):=[("m",m),("c",c),("g",g)]
theorem lk4 {β:Type} (m c g a:β):(L4 m c g a).lookup (Str.ofString "m")=some m∧(L4 m c g a).lookup (Str.ofString "c")=some c∧(L4 m c g a).lookup (Str.ofString "g")=some g∧(L4 m c g a).lookup (Str.ofString "a")=some a:=by
 obtain ⟨⟨h1,h2,h3⟩,h4,h5,h6⟩:=zapo
 simp only [L4,List.lookup_cons,beq_self_eq_true,h1,h2,h3,h4,h5,h6,and_self]
theorem lk3 {β:Type} (m c g:β):(L3 m c g).lookup (Str.ofString "m")=some m∧(L3 m c g).lookup (Str.ofString "c")=some c∧(L3 m c g).lookup (Str.ofString "g")=some g:=by
 obtain ⟨⟨h1,h2,h3⟩,h4,h5,h6⟩:=zapo
 simp only [L3,List.lookup_cons,beq_self_eq_true,h1,h2,h3,and_self]
theorem lkn {β:Type} (m c g:β):([]:List (Str × β)).lookup (Str.ofString "m")=none∧([(Str.ofString "m",m)]:List (Str × β)).lookup (Str.ofString "c")=none∧([(Str.ofString "m",m),(Str.ofString "c",c)]:List (Str × β)).lookup (Str.ofString "g")=none∧(L3 m c g).lookup (Str.ofString "a")=none:=by
 obtain ⟨⟨h1,h2,h3⟩,h4,h5,h6⟩:=zapo
 simp only [L3,List.lookup_cons,List.lookup_nil,h1,h2,h3,h4,h5,h6,and_self]
def wd11 (w o:Int):List (Str × Int):=if 0 < o then L4 w w 1 o else L3 w w 1
def N11 (w o a b c d:Int):Nms:=if 0 < o then L4 (a,w) (b,w) (c,1) (d,o) else L3 (a,w) (b,w) (c,1)
def S11 (w o:Int):S9:=⟨wd11 w o,[],[],[],[],wd11 w o⟩
structure D11 (w o lo br v:Int):Prop where
 hw:1≤w∧w≤16
 ho:0≤o∧(0 < o→w + o≤16)
 hl:0≤lo∧1≤br∧lo + br≤w
 hv:0≤v∧v < 2 ^ w.toNat
theorem zaeq {wd ic:List (Str × Int)}{n:Str}{w:Int} (h:wd.lookup n=none) (hw:1≤w∧w≤16):take [] ⟨wd,[],[],[],[],ic⟩ (.inn n w)=some ⟨wd++[(n,w)],[],[],[],[],ic++[(n,w)]⟩:=by
 simp [take,free,isW,h,hw]
theorem zac8 {hs:List (Str × Int)}{r:Rw9}{rs:List Rw9}{S S':S9}{i:Nat} (h:take hs S r=some S'):run hs (r :: rs) S i=run hs rs S' (i + 1):=by
 show (match take hs S r with | none=>Sum.inl i | some S'=>run hs rs S' (i + 1))=_
 rw [h]
theorem zapp {w o lo br v:Int} (d:D11 w o lo br v) (rs:List Rw9):∃ i,run [] (ins11 w o++rs) S0 0=run [] rs (S11 w o) i:=by
 obtain ⟨l1,l2,l3,l4⟩:=lkn w w (1:Int)
 have w1:=d.hw
 have k1:take [] ⟨[],[],[],[],[],[]⟩ (.inn "m" w)=some ⟨[(Str.ofString "m",w)],[],[],[],[],[(Str.ofString "m",w)]⟩:=zaeq (ic:=[]) l1 w1
 have k2:take [] ⟨[(Str.ofString "m",w)],[],[],[],[],[(Str.ofString "m",w)]⟩ (.inn "c" w)=some ⟨[(Str.ofString "m",w),(Str.ofString "c",w)],[],[],[],[],[(Str.ofString "m",w),(Str.ofString "c",w)]⟩:=zaeq l2 w1
 have k3:take [] ⟨[(Str.ofString "m",w),(Str.ofString "c",w)],[],[],[],[],[(Str.ofString "m",w),(Str.ofString "c",w)]⟩ (.inn "g" 1)=some ⟨L3 w w 1,[],[],[],[],L3 w w 1⟩:=zaeq l3 (w:=1) (by decide)
 unfold S11 wd11
 by_cases ho:0 < o
 ·have k4:take [] ⟨L3 w w 1,[],[],[],[],L3 w w 1⟩ (.inn "a" o)=some ⟨L4 w w 1 o,[],[],[],[],L4 w w 1 o⟩:=zaeq l4 (w:=o) (by have:=d.ho.2 ho; omega)
  rw [zaih ho,if_pos ho]
  refine ⟨4,?_⟩
  show run [] (.inn "m" w :: .inn "c" w :: .inn "g" 1 :: .inn "a" o :: rs) ⟨[],[],[],[],[],[]⟩ 0=_
  rw [zac8 k1,zac8 k2,zac8 k3,zac8 k4]
 ·rw [zaii ho,if_neg ho]
  refine ⟨3,?_⟩
  show run [] (.inn "m" w :: .inn "c" w :: .inn "g" 1 :: rs) ⟨[],[],[],[],[],[]⟩ 0=_
  rw [zac8 k1,zac8 k2,zac8 k3]
theorem zarx {w o a b c d:Int}{rs:List Rw9}{O:Nms} (h:TO rs (N11 w o a b c d) [] [] O):TO (ins11 w o++rs) [] [] (row11 o a b c d) O:=by
 obtain ⟨l1,l2,l3,l4⟩:=lkn (β:=VW) (a,w) (b,w) (c,1)
 unfold N11 at h
 unfold row11
 by_cases ho:0 < o
 ·rw [if_pos ho] at h ⊢
  rw [zaih ho]
  exact .inn l1 (.inn l2 (.inn l3 (.inn l4 h)))
 ·rw [if_neg ho] at h ⊢
  rw [zaii ho]
  exact .inn l1 (.inn l2 (.inn l3 h))
theorem zal4 {x:Int} (h:x≠0):wZ "not" [x]=x:=by
 unfold wZ wW
 rw [if_neg (by simpa using Ne.symm h),if_pos rfl]; rfl
theorem w_ne:(∀ w∈([Str.ofString "and",Str.ofString "or",Str.ofString "xor",Str.ofString "plus"]:List Str),w ≠ "not" ∧ w ≠ "join" ∧ w ≠ "pick" ∧ w ≠ "less" ∧ w ≠ "same")∧(∀ w∈([Str.ofString "less",Str.ofString "same"]:List Str),w ≠ "not" ∧ w ≠ "join" ∧ w ≠ "pick")∧Str.ofString "join" ≠ "not" ∧ Str.ofString "pick" ≠ "not" ∧ Str.ofString "pick" ≠ "join" := by decide +kernel
theorem zail {w:Str} (hw:w∈([Str.ofString "and",Str.ofString "or",Str.ofString "xor",Str.ofString "plus"]:List Str)) {x:Int} (h:x≠0):wZ w [x,x]=x:=by
 obtain ⟨n1,n2,n3,n4,n5⟩:=w_ne.1 w hw
 unfold wZ wW
 rw [if_neg (by simpa using Ne.symm h),if_neg n1,if_neg n2,if_neg n3,if_neg (by simp),if_neg (fun z=>z.elim n4 n5)]; rfl
theorem zal5 {w:Str} (hw:w∈([Str.ofString "less",Str.ofString "same"]:List Str)) {x:Int} (h:x≠0):wZ w [x,x]=1:=by
 obtain ⟨n1,n2,n3⟩:=w_ne.2.1 w hw
 unfold wZ wW
 rw [if_neg (by simpa using Ne.symm h),if_neg n1,if_neg n2,if_neg n3,if_neg (by simp),if_pos (by simpa using hw)]
theorem zal6 {x y:Int} (hx:x≠0) (hy:y≠0) (hs:1≤x + y∧x + y≤16):wZ "join" [x,y]=x + y:=by
 unfold wZ wW
 rw [if_neg (by simp; exact ⟨Ne.symm hx,Ne.symm hy⟩),if_neg w_ne.2.2.1,if_pos rfl]
 simp [isW,hs]
theorem zal7 {x:Int} (h:x≠0):wZ "pick" [1,x,x]=x:=by
 unfold wZ wW
 rw [if_neg (by simpa using Ne.symm h),if_neg w_ne.2.2.2.1,if_neg w_ne.2.2.2.2,if_pos rfl,if_pos (by simp)]; rfl
theorem leaves (w o:Int):wE (S11 w o) eA=w∧wE (S11 w o) eB=w∧wE (S11 w o) eG=1∧(0 < o→wE (S11 w o) eD=o):=by
 show ((wd11 w o).lookup _).getD 0=w∧((wd11 w o).lookup _).getD 0=w∧((wd11 w o).lookup _).getD 0=1∧(0 < o→((wd11 w o).lookup _).getD 0=o)
 unfold wd11
 by_cases ho:0 < o
 ·rw [if_pos ho]
  obtain ⟨h1,h2,h3,h4⟩:=lk4 w w 1 o
  rw [h1,h2,h3,h4]
  exact ⟨rfl,rfl,rfl,fun _=>rfl⟩
 ·rw [if_neg ho]
  obtain ⟨h1,h2,h3⟩:=lk3 w w (1:Int)
  rw [h1,h2,h3]
  exact ⟨rfl,rfl,rfl,fun z=>absurd z ho⟩
theorem zank {w o lo br v:Int} (d:D11 w o lo br v):∀ e∈ex5 w o lo br v,wE (S11 w o) e≠0:=by
 obtain ⟨hA,hB,hG,hD⟩:=leaves w o
 have w0:w≠0:=by have:=d.hw; omega
 have hV:wE (S11 w o) (.lf (.val v w))=w:=by
  show (if ofW v w then w else 0)=w
  rw [if_pos]
  have:=d.hw; have:=d.hv
  simp [ofW,isW]; omega
 have m1:Str.ofString "xor" ∈ ([Str.ofString "and",Str.ofString "or",Str.ofString "xor",Str.ofString "plus"]:List Str):=by simp
 have m2:Str.ofString "plus" ∈ ([Str.ofString "and",Str.ofString "or",Str.ofString "xor",Str.ofString "plus"]:List Str):=by simp
 have e1:∀ e∈ex1,wE (S11 w o) e≠0:=fun e he=>by
  simp only [ex1,List.mem_cons,List.not_mem_nil,or_false] at he
  rcases he with rfl | rfl | rfl | rfl | rfl | rfl | rfl
  ·show wZ _ [_]≠0; rw [hA,zal4 w0]; exact w0
  ·show wZ _ [_,_]≠0; rw [hA,hB,zail (by simp) w0]; exact w0
  ·show wZ _ [_,_]≠0; rw [hA,hB,zail (by simp) w0]; exact w0
  ·show wZ _ [_,_]≠0; rw [hA,hB,zail (by simp) w0]; exact w0
  ·show wZ _ [_,_]≠0; rw [hA,hB,zail (by simp) w0]; exact w0
  ·show wZ _ [_,_]≠0; rw [hA,hB,zal5 (by simp) w0]; decide
  ·show wZ _ [_,_]≠0; rw [hA,hB,zal5 (by simp) w0]; decide
 intro e he
 unfold ex5 ex4 ex3 ex2 at he
 simp only [List.mem_append,List.mem_cons,List.not_mem_nil,or_false] at he
 rcases he with ((((he | rfl | rfl) | he) | rfl | rfl) | rfl)
 ·exact e1 e he
 ·show wZ _ [_,_,_]≠0; rw [hG,hA,hB,zal7 w0]; exact w0
 ·show partW _ _ _≠0
  rw [hA]
  have:=d.hl
  unfold partW
  rw [if_neg (by omega)]; omega
 ·by_cases ho:0 < o
  ·rw [if_pos ho] at he
   have he:e∈[Ex9.bi "join" eA eD,.bi "join" eD eB]:=he
   have ow:=d.ho.2 ho
   have ww:=d.hw
   simp only [List.mem_cons,List.not_mem_nil,or_false] at he
   rcases he with rfl | rfl
   ·show wZ _ [_,_]≠0; rw [hA,hD ho,zal6 w0 (by omega) (by omega)]; omega
   ·show wZ _ [_,_]≠0; rw [hB,hD ho,zal6 (by omega) w0 (by omega)]; omega
  ·rw [if_neg ho] at he
   cases he
 ·rw [hV]; exact w0
 ·show wZ _ [wZ _ [_,_]]≠0; rw [hA,hV,zail m2 w0,zal4 w0]; exact w0
 ·show wZ _ [wZ _ [_,_],wZ _ [_,wZ _ [_]],wZ _ [_,_]]≠0
  rw [hA,hB,zal5 (by simp) w0,zal4 w0,zail m1 w0,zail m2 w0,zal7 w0]; exact w0
theorem zal8 (w o lo br v:Int):(ex5 w o lo br v).length≤14:=by
 unfold ex5 ex4 ex3 ex2 ex1
 simp only [List.length_append,List.length_cons,List.length_nil,List.length_take]; omega
theorem zary (w o lo br v:Int):ex5 w o lo br v≠[]:=by unfold ex5; simp
theorem zatl (S:S9) {es:List Ex9} (h:es≠[]):oW S 0 es≠[]:=by
 cases es with
 | nil=>exact absurd rfl h
 | cons e es=>simp [oW]
theorem run11 {w o lo br v:Int} (d:D11 w o lo br v):∃ S,RunY (rows11 w o lo br v) S∧S.ic=wd11 w o:=by
 obtain ⟨i,h⟩:=zapp d (oR 0 (ex5 w o lo br v))
 have r:=zan4 (S11 w o) (ex5 w o lo br v) 0 i [] (by have:=zal8 w o lo br v; omega) (zank d) (fun p hp=>by cases hp)
 refine ⟨{ S11 w o with ot:=[]++oW (S11 w o) 0 (ex5 w o lo br v) },⟨?_,?_⟩,rfl⟩
 ·unfold rows11
  rw [zaik,h]
  exact r
 ·exact ⟨rfl,by rw [List.nil_append]; exact zatl _ (zary _ _ _ _ _)⟩
theorem io11 (w o lo br v:Int):IOs (rows11 w o lo br v):=⟨fun r hr=>by
 unfold rows11 at hr
 rw [zaik] at hr
 rcases List.mem_append.mp hr with h | h
 ·unfold ins11 at h
  have h:=List.mem_of_mem_take h
  simp only [List.mem_cons,List.not_mem_nil,or_false] at h
  rcases h with rfl | rfl | rfl | rfl <;> exact .inn
 ·exact zarw _ _ r h⟩
end

section
theorem vws:vW (Str.ofString "and")=aF∧vW (Str.ofString "or")=oF∧vW (Str.ofString "xor")=xF∧vW (Str.ofString "plus")=pF∧vW (Str.ofString "less")=lF∧vW (Str.ofString "same")=sF∧vW (Str.ofString "join")=jF:=⟨rfl,rfl,rfl,rfl,rfl,rfl,rfl⟩
structure R11 (w o a b c d:Int):Prop where
 ha:0≤a∧a < 2 ^ w.toNat
 hb:0≤b∧b < 2 ^ w.toNat
 hc:0≤c∧c < 2
 hd:0≤d∧d < 2 ^ o.toNat
theorem look11 (w o a b c d:Int):(N11 w o a b c d).lookup (Str.ofString "m")=some (a,w)∧(N11 w o a b c d).lookup (Str.ofString "c")=some (b,w)∧(N11 w o a b c d).lookup (Str.ofString "g")=some (c,1)∧(0 < o→(N11 w o a b c d).lookup (Str.ofString "a")=some (d,o)):=by
 unfold N11
 by_cases ho:0 < o
 ·rw [if_pos ho]
  obtain ⟨h1,h2,h3,h4⟩:=lk4 (β:=VW) (a,w) (b,w) (c,1) (d,o)
  exact ⟨h1,h2,h3,fun _=>h4⟩
 ·rw [if_neg ho]
  obtain ⟨h1,h2,h3⟩:=lk3 (β:=VW) (a,w) (b,w) (c,1)
  exact ⟨h1,h2,h3,fun z=>absurd z ho⟩
theorem zanl {x w:Int} (h:0≤x∧x < 2 ^ w.toNat) (hw:0≤w∧w≤16):VB (x,w):=by
 have:=p16 (n:=w.toNat) (by omega)
 exact ⟨⟨hw.1,by show w≤64; omega⟩,by show x.natAbs < _; omega⟩
theorem vok11 {w o lo br v a b c d:Int} (dd:D11 w o lo br v) (r:R11 w o a b c d):∀ e∈ex5 w o lo br v,VOK (N11 w o a b c d) e:=by
 obtain ⟨h1,h2,h3,h4⟩:=look11 w o a b c d
 have ww:=dd.hw
 have hl:=dd.hl
 have oA:VOK (N11 w o a b c d) eA:=⟨_,h1⟩
 have oB:VOK (N11 w o a b c d) eB:=⟨_,h2⟩
 have oG:VOK (N11 w o a b c d) eG:=⟨_,h3⟩
 have eA':vE (N11 w o a b c d) eA=(a,w):=by show ((N11 w o a b c d).lookup _).getD _=_; rw [h1]; rfl
 have eB':vE (N11 w o a b c d) eB=(b,w):=by show ((N11 w o a b c d).lookup _).getD _=_; rw [h2]; rfl
 have vA:VB (vE (N11 w o a b c d) eA):=by rw [eA']; exact zanl r.ha (by omega)
 have vB:VB (vE (N11 w o a b c d) eB):=by rw [eB']; exact zanl r.hb (by omega)
 have vV:VB (vE (N11 w o a b c d) (.lf (.val v w))):=zanl dd.hv (by omega)
 have pw:=p16 (n:=w.toNat) (by omega)
 have p0:(0:Int) < 2 ^ w.toNat:=Int.pow_pos (by decide)
 have vP:VB (vE (N11 w o a b c d) (.bi "plus" eA (.lf (.val v w)))):=by
  show VB (vW (Str.ofString "plus") [vE _ eA,(v,w)])
  rw [vws.2.2.2.1,eA']
  refine ⟨⟨by show 0≤w; omega,by show w≤64; omega⟩,?_⟩
  show ((a + v) % (1 * 2 ^ w.toNat)).natAbs < _
  have q1:=Int.emod_nonneg (a + v) (b:=1 * 2 ^ w.toNat) (by omega)
  have q2:=Int.emod_lt_of_pos (a + v) (b:=1 * 2 ^ w.toNat) (by omega)
  omega
 have vN:VB (vE (N11 w o a b c d) (.un eB)):=by
  show VB (nF [vE _ eB])
  rw [eB']
  refine ⟨⟨by show 0≤w; omega,by show w≤64; omega⟩,?_⟩
  show (1 * 2 ^ w.toNat - 1 - b).natAbs < _
  have:=r.hb
  omega
 intro e he
 unfold ex5 ex4 ex3 ex2 ex1 at he
 simp only [List.mem_append,List.mem_cons,List.not_mem_nil,or_false] at he
 rcases he with ((((he | rfl | rfl) | he) | rfl | rfl) | rfl)
 ·rcases he with rfl | rfl | rfl | rfl | rfl | rfl | rfl
  ·exact ⟨oA,vA⟩
  all_goals exact ⟨⟨oA,vA⟩,oB,vB⟩
 ·exact ⟨oG,oA,oB⟩
 ·exact ⟨oA,⟨by omega,by omega⟩,by omega,by omega⟩
 ·by_cases ho:0 < o
  ·rw [if_pos ho] at he
   have he:e∈[Ex9.bi "join" eA eD,.bi "join" eD eB]:=he
   have ow:=dd.ho.2 ho
   have oD:VOK (N11 w o a b c d) eD:=⟨_,h4 ho⟩
   have vD:VB (vE (N11 w o a b c d) eD):=by
    show VB (((N11 w o a b c d).lookup _).getD _)
    rw [h4 ho]; exact zanl r.hd (by omega)
   simp only [List.mem_cons,List.not_mem_nil,or_false] at he
   rcases he with rfl | rfl
   ·exact ⟨⟨oA,vA⟩,oD,vD⟩
   ·exact ⟨⟨oD,vD⟩,oB,vB⟩
  ·rw [if_neg ho] at he
   cases he
 ·trivial
 ·exact ⟨⟨⟨oA,vA⟩,trivial,vV⟩,vP⟩
 ·exact ⟨⟨⟨oB,vB⟩,oA,vA⟩,⟨⟨oA,vA⟩,⟨oB,vB⟩,vN⟩,⟨oB,vB⟩,oB,vB⟩
theorem vals11 (w o lo br v a b c d:Int):(ex5 w o lo br v).map (fun e=>(vE (N11 w o a b c d) e).1)=due11 w o lo br v a b c d:=by
 obtain ⟨h1,h2,h3,h4⟩:=look11 w o a b c d
 obtain ⟨q1,q2,q3,q4,q5,q6,q7⟩:=vws
 have e1:ex1.map (fun e=>(vE (N11 w o a b c d) e).1)=due1 w a b:=by
  simp only [ex1,due1,List.map_cons,List.map_nil,vE,q1,q2,q3,q4,q5,q6,h1,h2,Option.getD_some,nF,aF,oF,xF,pF,lF,sF,List.getD_cons_zero,List.getD_cons_succ,Int.one_mul]
 have e2:[Ex9.pick eG eA eB,.pt eA lo br].map (fun e=>(vE (N11 w o a b c d) e).1)=due2 lo br a b c:=by
  simp only [due2,List.map_cons,List.map_nil,vE,h1,h2,h3,Option.getD_some,kF,List.getD_cons_zero,List.getD_cons_succ,Int.one_mul]
  by_cases hc:c=1
  ·rw [if_pos hc,if_pos hc]
  ·rw [if_neg hc,if_neg hc]
 have e3:([Ex9.bi "join" eA eD,.bi "join" eD eB].take (2 * (if o > 0 then 1 else 0))).map (fun e=>(vE (N11 w o a b c d) e).1)=due3 w o a b d:=by
  unfold due3
  by_cases ho:0 < o
  ·rw [if_pos ho]
   show [Ex9.bi "join" eA eD,.bi "join" eD eB].map (fun e=>(vE (N11 w o a b c d) e).1)=[a * 2 ^ o.toNat + d,d * 2 ^ w.toNat + b]
   simp only [List.map_cons,List.map_nil,vE,q7,h1,h2,h4 ho,Option.getD_some,jF,List.getD_cons_zero,List.getD_cons_succ]
  ·rw [if_neg ho]; rfl
 have e4:([Ex9.lf (.val v w),.un (.bi "plus" eA (.lf (.val v w)))]++[Ex9.pick (.bi "less" eB eA) (.bi "xor" eA (.un eB)) (.bi "plus" eB eB)]).map (fun e=>(vE (N11 w o a b c d) e).1)=due4 w v a b:=by
  simp only [due4,List.cons_append,List.nil_append,List.map_cons,List.map_nil,vE,q3,q4,q5,h1,h2,Option.getD_some,nF,xF,pF,lF,kF,List.getD_cons_zero,List.getD_cons_succ,Int.one_mul]
  by_cases hc:b < a
  ·rw [if_pos hc,if_pos hc,if_pos rfl]
  ·rw [if_neg hc,if_neg hc,if_neg (by decide)]
 unfold ex5 ex4 ex3 ex2 due11
 rw [List.append_assoc (_++_) _ _,List.map_append,List.map_append,List.map_append,e1,e2,e3,e4]
theorem to11 {w o lo br v a b c d:Int} (dd:D11 w o lo br v) (r:R11 w o a b c d):∃ O,TO (rows11 w o lo br v) [] [] (row11 o a b c d) O∧O.map (fun x=>V.int x.2.1)=(due11 w o lo br v a b c d).map V.int:=by
 refine ⟨[]++oV (N11 w o a b c d) 0 (ex5 w o lo br v),?_,?_⟩
 ·unfold rows11
  rw [zaik]
  exact zarx (zarv _ _ 0 [] (by have:=zal8 w o lo br v; omega) (vok11 dd r) (fun p hp=>by cases hp))
 ·rw [List.nil_append,zal3,vals11]
theorem pw11 {w o lo br v a b c d:Int} (dd:D11 w o lo br v) (r:R11 w o a b c d):Paired VWs (row11 o a b c d) ((wd11 w o).map (·.2)):=by
 have ww:=dd.hw
 have va:VWs a w:=⟨by rw [Int.one_mul]; exact r.ha,by omega⟩
 have vb:VWs b w:=⟨by rw [Int.one_mul]; exact r.hb,by omega⟩
 have vc:VWs c 1:=⟨r.hc,by omega⟩
 unfold row11 wd11
 by_cases ho:0 < o
 ·rw [if_pos ho,if_pos ho]
  have:=dd.ho.2 ho
  exact .cons va (.cons vb (.cons vc (.cons ⟨by rw [Int.one_mul]; exact r.hd,(show 0≤o∧o≤64 by omega)⟩ .nil)))
 ·rw [if_neg ho,if_neg ho]
  exact .cons va (.cons vb (.cons vc .nil))
end

section
theorem ScAt.cnt {CC CT b x:Addr}{H H':Hp}{v:V}{ws:List Int}{rows:List Rw9} (h:ScAt CC CT H x ws rows) (c:Ch [b] H H') (hb:H b=some (.lst [v])) (l:2≤ws.length):ScAt CC CT H' x ws rows:=by
 obtain ⟨dx,wl,st,a,w,s⟩:=h.ex
 obtain ⟨dx2,rp,ps,kp,ip,cp,f⟩:=s.ex
 have tu:Tu H H':=Tu.ch c hb (fun xs z=>by cases z)
 have n:∀ {p o},H p=some o→(∀ xs,o≠.lst xs)→p ∉ [b]:=fun e z m=>by
  rw [List.mem_singleton.mp m,hb] at e
  cases e
  exact z _ rfl
 have nw:wl ∉ [b]:=fun m=>by
  rw [List.mem_singleton.mp m,hb] at w
  injection w with w
  injection w with w
  have:=congrArg List.length w
  rw [List.length_map] at this
  simp only [List.length_cons,List.length_nil] at this
  omega
 exact ⟨dx,wl,st,c.get a (n a (by intro _ z; cases z)),c.get w nw,dx2,rp,ps,kp,ip,cp,c.get f.o (n f.o (by intro _ z; cases z)),tu _ _ f.r,zaax (fun _ _=>RwAt.tu tu) f.p,f.l,c.get f.k (n f.k (by intro _ z; cases z)),c.get f.i (n f.i (by intro _ z; cases z)),c.get f.c (n f.c (by intro _ z; cases z)),f.ne⟩
section
variable {P:Program}{w:World}{K:PySem.W.Frag}{mg:Str→Option Value}{base:Heap}{f:Addr}{fd:FuncData}{k:Nat}
theorem zatm {CS:Addr} (F:Fun K "wide_of" "wide_of" (top 15) f fd):FnOk P w K mg base CX0 (k + 1) f fd ["sense", "expr"] (spWN CS 0) :=
 F.ok scWO (fun vs H Q E h=>by obtain ⟨m,H0,x,p,hs,S,l,rfl,_⟩:=h; rfl) (fun cdv A outer s H vs Q E hr h=>by obtain ⟨m,H0,x,p,hs,S,e,rfl,sn,⟨_,_,d⟩,q⟩:=h; exact absurd d (Nat.not_lt_zero _))
theorem zatn (F:Fun K "value_of" "value_of" (top 41) f fd):FnOk P w K mg base CX0 (k + 1) f fd ["expr", "named", "used"] (spVE 0) :=
 F.ok scVE (fun vs H Q E h=>by obtain ⟨p,na,us,N,e,rfl,_⟩:=h; rfl) (fun cdv A outer s H vs Q E hr h=>by obtain ⟨p,na,us,N,e,rfl,⟨⟨_,_,d⟩,_⟩,_⟩:=h; exact absurd d (Nat.not_lt_zero _))
theorem zarz (F:Fun K "__init__" "Stage.__init__" (inClass (top 42) 0) f fd):FnOk P w K mg base CX0 (k + 1) f fd ["self", "name", "modules"] spF3 :=
 F.ok scSt (fun vs H Q E h=>h.1) (fun cdv A outer s H vs Q E hr h=>h.2.elim)
theorem zar0 (F:Fun K "tell" "Stage.tell" (inClass (top 42) 1) f fd):FnOk P w K mg base CX0 (k + 1) f fd ["self", "fed"] spF2 :=
 F.ok scTl (fun vs H Q E h=>h.1) (fun cdv A outer s H vs Q E hr h=>h.2.elim)
theorem zar1 (F:Fun K "move" "Stage.move" (inClass (top 42) 2) f fd):FnOk P w K mg base CX0 (k + 1) f fd ["self"] spF1 :=
 F.ok scMv (fun vs H Q E h=>h.1) (fun cdv A outer s H vs Q E hr h=>h.2.elim)
theorem zar2 (F:Fun K "paths" "Stage.paths" (inClass (top 42) 3) f fd):FnOk P w K mg base CX0 (k + 1) f fd ["self", "ahead"] spF2 :=
 F.ok scPa (fun vs H Q E h=>h.1) (fun cdv A outer s H vs Q E hr h=>h.2.elim)
theorem zar3:bootBuiltins "max" = some (.builtin "max"):=by decide +kernel
theorem zar4:("max" : Str) ≠ "__name__" := by decide +kernel
theorem zar5:Nd "max" := by decide +kernel
theorem zab0:Nd "_law_any_value" := by decide +kernel
theorem zaee:Nd "_law_module_by" := by decide +kernel
theorem zanm:Nd "Scene" := by decide +kernel
theorem zaim:Nd "_law_due" := by decide +kernel
theorem av54:AF (defScope (top 54)) ["_law_script", "_law_at", "_law_turn", "_law_m", "_law_wide", "_law_other", "_law_low", "_law_broad", "_law_power_here", "_law_value", "_law_scene", "_law_k", "_law_row"]:=⟨by decide +kernel⟩
theorem gl54:AG (defScope (top 54)) ["range", "_law_next", "max", "int", "_law_power", "_law_any_value", "Scene", "_law_module_by", "_law_same", "_law_due"]:=⟨by decide +kernel⟩
def spLaw (K:PySem.W.Frag):Sp:=fun vs H Q _=>∃ (a:Addr) (ns:List Int),vs=[.ref a]∧Scr K H a ns∧∀ H',Q (.bl true) H'
theorem scLaw:FnScope ["_law_script", "_law_at", "_law_turn", "_law_m", "_law_wide", "_law_other", "_law_low", "_law_broad", "_law_power_here", "_law_value", "_law_scene", "_law_k", "_law_row"] ["_law_script"] (defScope (top 54)):=⟨rfl,rfl,rfl,by decide +kernel,rfl,by decide +kernel,by decide +kernel⟩
theorem zar6 {CM CC CT:Addr} (F:Fun K "law" "law" (top 54) f fd) (cl:Cls K CC) (D_law_next:DefOk P w K mg base CX0 (k + 1) "_law_next" ["_law_script", "_law_at"] (spNext K)) (D_law_power:DefOk P w K mg base CX0 (k + 1) "_law_power" ["_law_wide"] spPow) (D_law_any_value:DefOk P w K mg base CX0 (k + 1) "_law_any_value" ["_law_script", "_law_at", "_law_power_here"] (spAny K)) (D_law_module_by:DefOk P w K mg base CX0 (k + 1) "_law_module_by" ["_law_wide", "_law_other", "_law_low", "_law_broad", "_law_value"] (spMB CM)) (D_law_due:DefOk P w K mg base CX0 (k + 1) "_law_due" ["_law_row", "_law_wide", "_law_other", "_law_low", "_law_broad", "_law_value"] spDue) (D_law_same:DefOk P w K mg base CX0 (k + 1) "_law_same" ["_law_found", "_law_due_here"] spSL) (MkScene:MakeOk P w K mg base CX0 k CC "Scene" ["self", "modules"] (spSc CM CC CT)) (MScene_beat:MethOk P w K mg base CX0 (k + 1) CC "beat" ["self", "row"] (spBe CC CT)) (MScene_held:MethOk P w K mg base CX0 (k + 1) CC "held" ["self"] (spHe CC CT)) (z_range:mg "range" = none) (z_max:mg "max" = none) (z_int:mg "int" = none):FnOk P w K mg base CX0 (k + 2) f fd ["_law_script"] (spLaw K):=by
 have nd:=scLaw.nd
 refine F.ok scLaw (fun vs H Q E h=>by obtain ⟨a,ns,rfl,_⟩:=h; rfl) (fun cdv A outer s H vs Q E hr h=>?_)
 obtain ⟨a,ns,rfl,hS,q⟩:=h
 have hu:=zacx hr
 have hrm:=hr
 refine ⟨_,(Pr.h (zaad (zaaz (i:=1) nd rfl (av54.l 1 rfl) (zabi (zaaa zaab zaac zaah))) (zaad (zaby PassesOwn.never rfl (zadh (gl54.g 0 rfl) z_range (zaaa zaab zaac zaah)) (zaa0 (i:=2) nd rfl (av54.l 2 rfl)) (zaad (zaaz (i:=3) nd rfl (av54.l 3 rfl) (zaao D_law_next hr (gl54.g 1 rfl) pass0 (zaaa (qv av54 0 rfl) (zaaa (qv av54 1 rfl) zaac zaae) zaae) zadd)) (zabb (zaaz (i:=4) nd rfl (av54.l 4 rfl) (zaai zaav (zabi (zaaa zaab (zaaa zaab (zaaa zaab (zaaa zaab (zaaa zaab (zaaa (zaam zabu zaab (zaam zabn (zaam zabv (qv av54 3 rfl) zaab) zaab)) zaac zaa2) zaah) zaah) zaah) zaah) zaah)) (zaam zabn (qv av54 3 rfl) zaab) (fun _ _=>rfl))) (zabb (zaaz (i:=5) nd rfl (av54.l 5 rfl) (zaam zac9 (zaai zaav (zabi (zaaa zaab (zaaa (zaam zacz zaab (qv av54 4 rfl)) (zaaa (zaam zabu zaab (zaam zabn (zaam zabv (qv av54 3 rfl) zaab) (zaap (zaka rfl) (gl54.g 2 rfl) z_max zar3 (zaaa zaab (zaaa (zaam zacz zaab (qv av54 4 rfl)) zaac zaa2) zaah) zar4 zar5))) zaac zaa2) zaa2) zaah)) (zaam zabn (zaam zabv (qv av54 3 rfl) zaab) zaab) (fun _ _=>rfl)) (zabf zacu (gl54.g 3 rfl) z_int zado (zaaa (zabo zagd (qv av54 4 rfl) zaab (nomark _)) zaac zach) zadp zadq))) (zabb (zaaz (i:=6) nd rfl (av54.l 6 rfl) (zaam zabn (zaam zabv (qv av54 3 rfl) zaab) (qv av54 4 rfl))) (zabb (zaaz (i:=7) nd rfl (av54.l 7 rfl) (zaai zaav (zabi (zaaa zaab (zaaa (zaam zacz (qv av54 4 rfl) (qv av54 6 rfl)) (zaaa (zaam zabu zaab (zaam zabn (zaam zabv (qv av54 3 rfl) zaab) (zaam zacz (qv av54 4 rfl) (qv av54 6 rfl)))) zaac zaa2) zaa2) zaah)) (zaam zabn (zaam zabv (qv av54 3 rfl) zaab) zaab) (fun _ _=>rfl))) (zaad (zaaz (i:=8) nd rfl (av54.l 8 rfl) (zaao D_law_power hr (gl54.g 4 rfl) pass0 (zaaa (qv av54 4 rfl) zaac zaae) zabz)) (zabb (zaaz (i:=9) nd rfl (av54.l 9 rfl) (zaao D_law_any_value hr (gl54.g 5 rfl) pass0 (zaaa (qv av54 0 rfl) (zaaa (qv av54 1 rfl) (zaaa (qv av54 8 rfl) zaac zaae) zaae) zaae) zab0)) (zabb (zaaz (i:=10) nd rfl (av54.l 10 rfl) (zadb MkScene hrm (gl54.g 6 rfl) pass0 (zaaa (zabi (zaaa (zaao D_law_module_by hr (gl54.g 7 rfl) pass0 (zaaa (qv av54 4 rfl) (zaaa (qv av54 5 rfl) (zaaa (qv av54 6 rfl) (zaaa (qv av54 7 rfl) (zaaa (qv av54 9 rfl) zaac zaae) zaae) zaae) zaae) zaae) zaee) zaac zabt)) zaac zako) zanm)) (zaaf (zaby PassesOwn.never rfl (zadh (gl54.g 0 rfl) z_range (zaaa zaab zaac zaah)) (zaa0 (i:=11) nd rfl (av54.l 11 rfl)) (zabb (zaaz (i:=12) nd rfl (av54.l 12 rfl) (zabi (zaaa (zaao D_law_any_value hr (gl54.g 5 rfl) pass0 (zaaa (qv av54 0 rfl) (zaaa (qv av54 1 rfl) (zaaa (qv av54 8 rfl) zaac zaae) zaae) zaae) zab0) (zaaa (zaao D_law_any_value hr (gl54.g 5 rfl) pass0 (zaaa (qv av54 0 rfl) (zaaa (qv av54 1 rfl) (zaaa (qv av54 8 rfl) zaac zaae) zaae) zaae) zab0) zaac zabt) zabt))) (zabb (zaaz (i:=12) nd rfl (av54.l 12 rfl) (zaam zadm (qv av54 12 rfl) (zacw zaey (zabi (zaaa (zaam zabn (zaao D_law_next hr (gl54.g 1 rfl) pass0 (zaaa (qv av54 0 rfl) (zaaa (qv av54 1 rfl) zaac zaae) zaae) zadd) zaab) (zaaa (zaao D_law_any_value hr (gl54.g 5 rfl) pass0 (zaaa (qv av54 0 rfl) (zaaa (qv av54 1 rfl) (zaaa (zaao D_law_power hr (gl54.g 4 rfl) pass0 (zaaa (qv av54 5 rfl) zaac zaae) zabz) zaac zabt) zaae) zaae) zab0) zaac zabt) zaa2)) zac4 (zac5 (zaam zabu zaab (zabf zacu (gl54.g 3 rfl) z_int zado (zaaa (zabo zaht (qv av54 5 rfl) zaab (nomark _)) zaac zach) zadp zadq)))))) (zabb (zaa3 (zaat zab1 (qv av54 11 rfl) zaab (nomark _)) (zaaf (zah2 (zaai zaav (qv av54 12 rfl) zaab (fun _ _=>rfl)) (zakv (qv av54 12 rfl) zaab zair))) zaau) (zaad (zaa3 (zaci (zabe (zaao D_law_same hr (gl54.g 8 rfl) pass0 (zaaa (zada (qv av54 10 rfl) MScene_beat hr pass0 (zaaa (qv av54 12 rfl) zaac zaae)) (zaaa (zaao D_law_due hr (gl54.g 9 rfl) pass0 (zaaa (qv av54 12 rfl) (zaaa (qv av54 4 rfl) (zaaa (qv av54 5 rfl) (zaaa (qv av54 6 rfl) (zaaa (qv av54 7 rfl) (zaaa (qv av54 9 rfl) zaac zaae) zaae) zaae) zaae) zaae) zaae) zaim) zaac zabt) zabt) zab8))) (zaaf (zaan zabr)) zaau) (zaaf (zaa3 (zaci (zabe (zaao D_law_same hr (gl54.g 8 rfl) pass0 (zaaa (zad9 (qv av54 10 rfl) MScene_held hr pass0) (zaaa (zabi zaac) zaac zako) zabt) zab8))) (zaaf (zaan zabr)) zaau))))))))))))))))) (zaaf (zaan zabr))))),?_⟩
 (try dsimp only [cxOf])
 have bx:Box (Scr K H a ns):=⟨hS⟩
 clear hS
 walk_at "rd"
 rename_i b hb
 have hS1:=bx.h.same (Ch.new hb (.lst [.int 0]))
 have hb1:(upd H b (.lst [.int 0])) b=some (.lst [.int 0]):=zaag
 generalize upd H b (.lst [.int 0])=H0 at hS1 hb1 ⊢
 refine zadg (fun i σ H'=>∃ (u2 u3 u4 u5 u6 u7 u8 u9 u10 u11 u12:Option V) (c':Int),σ=[some (.ref a),some (.ref b),u2,u3,u4,u5,u6,u7,u8,u9,u10,u11,u12]∧Box (Scr K H' a ns)∧H' b=some (.lst [.int c'])∧0≤c'∧c'≤40 * i) ⟨_,_,_,_,_,_,_,_,_,_,_,0,rfl,⟨hS1⟩,hb1,by omega,by omega⟩ ?_ ?_
 ·rintro i σ H' hi ⟨u2,u3,u4,u5,u6,u7,u8,u9,u10,u11,u12,c',rfl,bs,hb',c0,c1⟩
  have hi':i < 16:=hi
  walk_at "rd"
  refine ⟨bs.h,hb',c0,by omega,fun m H1 m0 m1 ch1 b1=>?_⟩
  have bs1:Box (Scr K H1 a ns):=⟨bs.h.ch hb' ch1⟩
  clear bs hb'
  walk_at "rd"
  refine zabq (fun σ H'=>∃ wi:Int,σ=[some (.ref a),some (.ref b),some (.int (0 + (i:Int))),some (.int m),some (.int wi),u5,u6,u7,u8,u9,u10,u11,u12]∧Ch [] H1 H'∧1≤wi∧wi≤16) ?_ ?_
  ·walk_at "rd"
   rename_i pl hpl
   refine Atx.any (by omega) (by show m % 6 < 6; omega) fun v hv _=>?_
   obtain ⟨wi,rfl,w1,w2⟩:∃ wi:Int,v=.int wi∧1≤wi∧wi≤16:=by
    have hv:v∈[V.int 1,.int 2,.int 8,.int 15,.int 16,.int (1 + m / 6 % 15)]:=hv
    simp only [List.mem_cons,List.not_mem_nil,or_false] at hv
    rcases hv with rfl | rfl | rfl | rfl | rfl | rfl <;> exact ⟨_,rfl,by omega,by omega⟩
   walk_at "rd"
  rintro σ H2 ⟨wi,rfl,c2,w1,w2⟩
  refine zabq (fun σ H'=>∃ o:Int,σ=[some (.ref a),some (.ref b),some (.int (0 + (i:Int))),some (.int m),some (.int wi),some (.int o),u6,u7,u8,u9,u10,u11,u12]∧Ch [] H1 H'∧0≤o∧(0 < o→wi + o≤16)) ?_ ?_
  ·have mx:0 < (if 16 - wi > 1 then 16 - wi else 1):=by split <;> omega
   have mr:=Int.emod_nonneg (m / 90) (b:=if 16 - wi > 1 then 16 - wi else 1) (by omega)
   have ms:=Int.emod_lt_of_pos (m / 90) mx
   walk_at "rd"
   rename_i pl hpl
   refine Atx.any (by omega) (by show m / 3 % 3 < 3; omega) fun v hv _=>?_
   obtain ⟨x,rfl,x0,x1⟩:∃ x:Int,v=.int x∧0≤x∧(wi < 16→x + wi≤16):=by
    have hv:v∈[V.int 1,.int (16 - wi),.int (1 + m / 90 % (if 16 - wi > 1 then 16 - wi else 1))]:=hv
    simp only [List.mem_cons,List.not_mem_nil,or_false] at hv
    rcases hv with rfl | rfl | rfl
    ·exact ⟨_,rfl,by omega,by omega⟩
    ·exact ⟨_,rfl,by omega,by omega⟩
    ·exact ⟨_,rfl,by omega,fun h=>by split at ms <;> split <;> omega⟩
   walk_at "rd"
   by_cases hw:wi < 16
   ·have e:(x * if decide (wi < 16)=true then 1 else 0)=x:=by simp [hw]
    rw [e]
    exact ⟨x0,fun _=>by have:=x1 hw; omega⟩
   ·have e:(x * if decide (wi < 16)=true then 1 else 0)=0:=by simp [hw]
    rw [e]
    exact ⟨by omega,fun z=>absurd z (by omega)⟩
  rintro σ H3 ⟨o,rfl,c3,o0,o1⟩
  refine zabq (fun σ H'=>∃ lo:Int,σ=[some (.ref a),some (.ref b),some (.int (0 + (i:Int))),some (.int m),some (.int wi),some (.int o),some (.int lo),u7,u8,u9,u10,u11,u12]∧Ch [] H1 H'∧0≤lo∧lo < wi) ?_ ?_
  ·have mr:=Int.emod_nonneg (m / 225) (b:=wi) (by omega)
   have ms:=Int.emod_lt_of_pos (m / 225) (b:=wi) (by omega)
   walk_at "rd"
  rintro σ H4 ⟨lo,rfl,c4,l0,l1⟩
  refine zabq (fun σ H'=>∃ br:Int,σ=[some (.ref a),some (.ref b),some (.int (0 + (i:Int))),some (.int m),some (.int wi),some (.int o),some (.int lo),some (.int br),u8,u9,u10,u11,u12]∧Ch [] H1 H'∧1≤br∧lo + br≤wi) ?_ ?_
  ·have mr:=Int.emod_nonneg (m / 9000) (b:=wi - lo) (by omega)
   have ms:=Int.emod_lt_of_pos (m / 9000) (b:=wi - lo) (by omega)
   walk_at "rd"
   rename_i pl hpl
   refine Atx.any (by omega) (by show m / 7 % 3 < 3; omega) fun v hv _=>?_
   obtain ⟨br,rfl,r1,r2⟩:∃ br:Int,v=.int br∧1≤br∧lo + br≤wi:=by
    have hv:v∈[V.int 1,.int (wi - lo),.int (1 + m / 9000 % (wi - lo))]:=hv
    simp only [List.mem_cons,List.not_mem_nil,or_false] at hv
    rcases hv with rfl | rfl | rfl <;> exact ⟨_,rfl,by omega,by omega⟩
   walk_at "rd"
  rintro σ H5 ⟨br,rfl,c5,r1,r2⟩
  have b5:=c5.get b1 (by simp)
  have bs5:Box (Scr K H5 a ns):=⟨bs1.h.same c5⟩
  have pw:=p16 (n:=wi.toNat) (by omega)
  have pp:(0:Int) < 2 ^ wi.toNat:=Int.pow_pos (by decide)
  walk_at "rd"
  refine zabq (fun σ H'=>∃ v:Int,σ=[some (.ref a),some (.ref b),some (.int (0 + (i:Int))),some (.int m),some (.int wi),some (.int o),some (.int lo),some (.int br),some (.int (2 ^ wi.toNat)),some (.int v),u10,u11,u12]∧Box (Scr K H' a ns)∧H' b=some (.lst [.int (c' + 1 + 1)])∧0≤v∧v < 2 ^ wi.toNat) ?_ ?_
  ·walk_at "rd"
   refine ⟨bs5.h,b5,by omega,by omega,pp,by omega,fun v H6 v0 v1 c6 b6=>?_⟩
   walk_at "rd"
   exact ⟨⟨bs5.h.ch b5 c6⟩,b6,v0,v1⟩
  rintro σ H6 ⟨v,rfl,bs6,b6,v0,v1⟩
  clear bs5 b5 bs1 b1 c2 c3 c4 c5
  have dd:D11 wi o lo br v:=⟨⟨w1,w2⟩,⟨o0,o1⟩,⟨l0,r1,r2⟩,⟨v0,v1⟩⟩
  obtain ⟨S,rS,iS⟩:=run11 dd
  have io:=io11 wi o lo br v
  have lw:(wd11 wi o).length≤4:=by unfold wd11; split <;> simp [L4,L3]
  have lw3:3≤((wd11 wi o).map (·.2)).length:=by rw [List.length_map]; unfold wd11; split <;> simp [L4,L3]
  refine zabq (fun σ H'=>∃ sc,σ=[some (.ref a),some (.ref b),some (.int (0 + (i:Int))),some (.int m),some (.int wi),some (.int o),some (.int lo),some (.int br),some (.int (2 ^ wi.toNat)),some (.int v),some (.ref sc),u11,u12]∧Ch [] H6 H'∧ScAt CC CT H' sc ((wd11 wi o).map (·.2)) (rows11 wi o lo br v)) ?_ ?_
  ·walk_at "rd"
   rename_i x H7 c7 mo p hp sc ds hsc hds nds
   have cN:Ch [] (upd H7 p (.lst [.ref x])) (upd (upd (upd H7 p (.lst [.ref x])) ds (.own sc)) sc (.ins CC ds [])):=(Ch.new hds _).trans (Ch.new (by rw [zaak nds.symm]; exact hsc) _)
   refine ⟨cN.get zaag (by simp),mo.ch ((Ch.new hp _).trans cN),rS,io,by rw [iS]; omega,fun H8 c8 sa=>⟨rfl,?_⟩⟩
   rw [iS] at sa
   exact ⟨sc,rfl,c7.trans ((Ch.new hp _).trans (Ch.made hsc hds nds c8)),sa⟩
  rintro σ H7 ⟨sc,rfl,c7,sa⟩
  have b7:=c7.get b6 (by simp)
  have bs7:Box (Scr K H7 a ns):=⟨bs6.h.same c7⟩
  clear bs6 b6 c7 rS iS
  walk_at "rd"
  refine zadg (fun j σ H'=>∃ (u11 u12:Option V) (c2:Int),σ=[some (.ref a),some (.ref b),some (.int (0 + (i:Int))),some (.int m),some (.int wi),some (.int o),some (.int lo),some (.int br),some (.int (2 ^ wi.toNat)),some (.int v),some (.ref sc),u11,u12]∧Box (Scr K H' a ns)∧H' b=some (.lst [.int c2])∧c' + 2≤c2∧c2≤c' + 2 + 6 * j∧ScAt CC CT H' sc ((wd11 wi o).map (·.2)) (rows11 wi o lo br v)) ⟨_,_,_,rfl,bs7,b7,by omega,by omega,sa⟩ ?_ ?_
  ·clear sa b7 bs7
   rintro j σ H' hj ⟨u11,u12,c2,rfl,bs8,b8,k0,k1,sa⟩
   have hj':j < 4:=hj
   refine zabq (fun σ H1=>∃ (r:Addr) (x y:Int),σ=[some (.ref a),some (.ref b),some (.int (0 + (i:Int))),some (.int m),some (.int wi),some (.int o),some (.int lo),some (.int br),some (.int (2 ^ wi.toNat)),some (.int v),some (.ref sc),some (.int (0 + (j:Int))),some (.ref r)]∧Ch [b] H' H1∧H1 b=some (.lst [.int (c2 + 1 + 1)])∧H1 r=some (.lst [.int x,.int y])∧(0≤x∧x < 2 ^ wi.toNat)∧(0≤y∧y < 2 ^ wi.toNat)) ?_ ?_
   ·walk_at "rd"
    refine ⟨bs8.h,b8,by omega,by omega,pp,by omega,fun x H1 x0 x1 ch1 b1=>?_⟩
    walk_at "rd"
    refine ⟨bs8.h.ch b8 ch1,b1,by omega,by omega,pp,by omega,fun y H2 y0 y1 ch2 b2=>?_⟩
    walk_at "rd"
    skip
   rintro σ H1 ⟨r0,x,y,rfl,ch1,b1,g1,⟨x0,x1⟩,⟨y0,y1⟩⟩
   have bs1:Box (Scr K H1 a ns):=⟨bs8.h.ch b8 ch1⟩
   refine zabq (fun σ H2=>∃ (r:Addr) (c d:Int),σ=[some (.ref a),some (.ref b),some (.int (0 + (i:Int))),some (.int m),some (.int wi),some (.int o),some (.int lo),some (.int br),some (.int (2 ^ wi.toNat)),some (.int v),some (.ref sc),some (.int (0 + (j:Int))),some (.ref r)]∧Ch [b] H' H2∧H2 b=some (.lst [.int (c2 + 1 + 1 + 1 + 1)])∧H' r=none∧H2 r=some (.lst ((row11 o x y c d).map V.int))∧(0≤c∧c < 2)∧(0≤d∧d < 2 ^ o.toNat)) ?_ ?_
   ·have po:(0:Int) < 2 ^ o.toNat:=Int.pow_pos (by decide)
    have pu:=p16 (n:=o.toNat) (by omega)
    walk_at "rd"
    refine ⟨bs1.h,b1,by omega,by omega,fun n H2 n0 n1 ch2 b2=>?_⟩
    walk_at "rd"
    refine ⟨bs1.h.ch b1 ch2,b2,by omega,by omega,po,by omega,fun d H3 d0 d1 ch3 b3=>?_⟩
    walk_at "rd"
    rename_i p1 hp1 p2 hp2
    refine ⟨Nat.le_trans (Nat.add_le_add_left (zaig _ _ _) 2) (by rw [sizeLine_eq]; show 2 + 2≤16777216; decide),fun D hD=>?_⟩
    have cD:Ch [] H3 (upd (upd H3 p1 (.lst [.int (n % 2),.int d])) p2 (.lst (cutV [.int (n % 2),.int d] none (some (1 + if decide (0 < o)=true then 1 else 0))))):=(Ch.new hp1 _).trans (Ch.new hp2 _)
    have fD:=chFree cD hD
    refine ⟨D,n % 2,d,rfl,((ch1.trans ch2).trans ch3).trans (cD.trans (Ch.new hD _)).wk,zacy hD (cD.get b3 (by simp)),?_,lstr zaag ?_,by omega,d0,d1⟩
    ·cases e:H' D with
     | none=>rfl
     | some u =>
      exfalso
      by_cases z:D=b
      ·rw [z,b3] at fD; cases fD
      ·rw [((ch1.trans ch2).trans ch3) D u e (by simpa using z)] at fD; cases fD
    ·unfold row11
     by_cases ho:0 < o
     ·rw [decide_eq_true ho,if_pos ho]; rfl
     ·rw [decide_eq_false ho,if_neg ho]; rfl
   rintro σ H2 ⟨r,c,d,rfl,ch2,b2,fr,g2,hc,hd⟩
   clear bs1 g1 b1 ch1
   refine zabq (fun σ H3=>∃ y:Int,σ=[some (.ref a),some (.ref b),some (.int (0 + (i:Int))),some (.int m),some (.int wi),some (.int o),some (.int lo),some (.int br),some (.int (2 ^ wi.toNat)),some (.int v),some (.ref sc),some (.int (0 + (j:Int))),some (.ref r)]∧Ch [b] H' H3∧H3 b=some (.lst [.int (c2 + 1 + 1 + 1 + 1)])∧H3 r=some (.lst ((row11 o x y c d).map V.int))∧(0≤y∧y < 2 ^ wi.toNat)) ?_ ?_
   ·by_cases ho:0 < o
    ·have er:∀ y,(row11 o x y c d).map V.int=[.int x,.int y,.int c,.int d]:=fun y=>by unfold row11; rw [if_pos ho]; rfl
     simp only [er] at g2 ⊢
     walk_at "rd"
     refine ite2 (fun hc=>?_) (fun hc=>?_)
     ·walk_at "rd"
      skip
     ·exact ⟨y,rfl,ch2,b2,g2,y0,y1⟩
    ·have er:∀ y,(row11 o x y c d).map V.int=[.int x,.int y,.int c]:=fun y=>by unfold row11; rw [if_neg ho]; rfl
     simp only [er] at g2 ⊢
     walk_at "rd"
     refine ite2 (fun hc=>?_) (fun hc=>?_)
     ·walk_at "rd"
      skip
     ·exact ⟨y,rfl,ch2,b2,g2,y0,y1⟩
   clear g2
   rintro σ H3 ⟨y,rfl,ch3,b3,g3,y0,y1⟩
   have bs3:Box (Scr K H3 a ns):=⟨bs8.h.ch b8 ch3⟩
   have sa3:=sa.cnt ch3 b8 (by omega)
   have r11:R11 wi o x y c d:=⟨⟨x0,x1⟩,⟨y0,y1⟩,hc,hd⟩
   obtain ⟨O,to,eO⟩:=to11 dd r11
   have pv:=pw11 dd r11
   clear bs8 b8 ch3 sa
   obtain ⟨dx,wl,st,so,sw,ss⟩:=sa3.ex
   have fb:List.lookup (Str.ofString "beat") (fldsC wl st)=none:=rfl
   have fh:List.lookup (Str.ofString "held") (fldsC wl st)=none:=rfl
   have rl:(row11 o x y c d).length≤1000:=by unfold row11; split <;> simp
   have d0:¬ 0 < o→d=0:=fun z=>by
    have e:o.toNat=0:=by omega
    rw [e] at hd
    have:=hd.2
    simp at this
    omega
   have dl:(due11 wi o lo br v x y c d).length≤300:=by
    have:=zal2 wi o x y d
    unfold due11 due1 due2 due4
    simp only [List.length_append,List.length_cons,List.length_nil]
    omega
   have pu:=p16 (n:=o.toNat) (by omega)
   have hd1:=hd.1
   have hd2:=hd.2
   walk_at "rd"
   rename_i q1 H4 c4 g4 q2 H5 c5 g5
   have g45:=c5.get g4 (by simp)
   rw [eO] at g45
   refine ⟨g45,g5,dl,fun H6 c6=>?_⟩
   have c36:=(c4.trans c5).trans c6
   have sa6:=sa3.ch c36
   have b6:=c36.get b3 (by simp)
   have bs6:Box (Scr K H6 a ns):=⟨bs3.h.same c36⟩
   have so6:=c36.get so (by simp)
   clear so sa3 b3 bs3
   walk_at "rd"
   rename_i q3 H7 c7 g7 q4 h4
   refine ⟨(show _=some (.lst (([]:List Int).map V.int)) from zacy h4 g7),(show _=some (.lst (([]:List Int).map V.int)) from zaag),by decide,fun H8 c8=>?_⟩
   have c68:=(c7.trans (Ch.new h4 _)).trans c8
   refine ⟨_,rfl,?_⟩
   refine iteF (A:=_) ?_
   exact ⟨_,_,_,rfl,⟨bs6.h.same c68⟩,c68.get b6 (by simp),by omega,by omega,sa6.ch c68⟩
  ·rintro σ H' ⟨u11,u12,c2,rfl,bs8,b8,k0,k1,sa⟩
   have k1:c2≤c' + 2 + 6 * 4:=k1
   exact ⟨_,_,_,_,_,_,_,_,_,_,_,c2,rfl,bs8,b8,by omega,by omega⟩
 ·rintro σ H' ⟨u2,u3,u4,u5,u6,u7,u8,u9,u10,u11,u12,c',rfl,bs,hb',c0,c1⟩
  walk_at "rd"
  exact q _
end
end

section
theorem zal9 {K:PySem.W.Frag}{C CF:Addr} (e:PySem.W.mroIn K C (.ref CF)=some true):XSub K C CF:=by
 obtain ⟨cd,a,b⟩:=Option.bind_eq_some_iff.mp e
 unfold PySem.W.clsIn at a
 split at a
 case h_2=>cases a
 case h_1 cl di cd' sl ho =>
  cases a
  unfold XSub
  rw [ho]
  split at b
  ·cases b
  ·exact Option.some.inj b
theorem zar7 {K:PySem.W.Frag}{C:Addr}{v:Value} (e:PySem.W.mroIn K C v=some true):(PySem.W.clsIn K C).isSome=true:=by
 obtain ⟨cd,a,b⟩:=Option.bind_eq_some_iff.mp e
 rw [a]
 rfl
theorem zadl {d:Sp}:∀ {l:List (Addr × Sp)}{i:Nat}{a:Addr}{s:Sp},(l.map (·.1)).Nodup→l[i]?=some (a,s)→(l.lookup a).getD d=s
 | [],i,a,s,_,h=>by cases h
 | (b,t) :: l,0,a,s,_,h=>by cases h; simp
 | (b,t) :: l,i + 1,a,s,n,h=>by
  have n:(b :: l.map (·.1)).Nodup:=n
  obtain ⟨n1,n2⟩:=List.nodup_cons.mp n
  have h:l[i]?=some (a,s):=h
  have:a≠b:=fun z=>n1 (z ▸ List.mem_map.mpr ⟨(a,s),List.mem_of_getElem? h,rfl⟩)
  rw [List.lookup_cons,beq_eq_false_iff_ne.mpr this]
  exact zadl n2 h
theorem zar8 {l:PySem.W.OpenLaw}{w:World}{K:PySem.W.Frag}{h:Heap}{mg:Str→Option Value}{fa CS CM CG CC:Addr} (X:K.In h) (G:h.Ns mainGlobals mg) (hfa:mg "law" = some (.ref fa))
  {f0:Addr}{od0 an0:Option Addr}{sl0:Array (Option Value)}{oc0 kV0 dc0 pm0 cd0 ct0:Value}
  {f1:Addr}{od1 an1:Option Addr}{sl1:Array (Option Value)}{oc1 kV1 dc1 pm1 cd1 ct1:Value}
  {f2:Addr}{od2 an2:Option Addr}{sl2:Array (Option Value)}{oc2 kV2 dc2 pm2 cd2 ct2:Value}
  {f3:Addr}{od3 an3:Option Addr}{sl3:Array (Option Value)}{oc3 kV3 dc3 pm3 cd3 ct3:Value}
  {f4:Addr}{od4 an4:Option Addr}{sl4:Array (Option Value)}{oc4 kV4 dc4 pm4 cd4 ct4:Value}
  {f5:Addr}{od5 an5:Option Addr}{sl5:Array (Option Value)}{oc5 kV5 dc5 pm5 cd5 ct5:Value}
  {f6:Addr}{od6 an6:Option Addr}{sl6:Array (Option Value)}{oc6 kV6 dc6 pm6 cd6 ct6:Value}
  {f7:Addr}{od7 an7:Option Addr}{sl7:Array (Option Value)}{oc7 kV7 dc7 pm7 cd7 ct7:Value}
  {f8:Addr}{od8 an8:Option Addr}{sl8:Array (Option Value)}{oc8 kV8 dc8 pm8 cd8 ct8:Value}
  {f9:Addr}{od9 an9:Option Addr}{sl9:Array (Option Value)}{oc9 kV9 dc9 pm9 cd9 ct9:Value}
  {f10:Addr}{od10 an10:Option Addr}{sl10:Array (Option Value)}{oc10 kV10 dc10 pm10 cd10 ct10:Value}
  {f11:Addr}{od11 an11:Option Addr}{sl11:Array (Option Value)}{oc11 kV11 dc11 pm11 cd11 ct11:Value}
  {f12:Addr}{od12 an12:Option Addr}{sl12:Array (Option Value)}{oc12 kV12 dc12 pm12 cd12 ct12:Value}
  {f13:Addr}{od13 an13:Option Addr}{sl13:Array (Option Value)}{oc13 kV13 dc13 pm13 cd13 ct13:Value}
  {f14:Addr}{od14 an14:Option Addr}{sl14:Array (Option Value)}{oc14 kV14 dc14 pm14 cd14 ct14:Value}
  {f15:Addr}{od15 an15:Option Addr}{sl15:Array (Option Value)}{oc15 kV15 dc15 pm15 cd15 ct15:Value}
  {f16:Addr}{od16 an16:Option Addr}{sl16:Array (Option Value)}{oc16 kV16 dc16 pm16 cd16 ct16:Value}
  {f17:Addr}{od17 an17:Option Addr}{sl17:Array (Option Value)}{oc17 kV17 dc17 pm17 cd17 ct17:Value}
  {f18:Addr}{od18 an18:Option Addr}{sl18:Array (Option Value)}{oc18 kV18 dc18 pm18 cd18 ct18:Value}
  {f19:Addr}{od19 an19:Option Addr}{sl19:Array (Option Value)}{oc19 kV19 dc19 pm19 cd19 ct19:Value}
  {f20:Addr}{od20 an20:Option Addr}{sl20:Array (Option Value)}{oc20 kV20 dc20 pm20 cd20 ct20:Value}
  {f21:Addr}{od21 an21:Option Addr}{sl21:Array (Option Value)}{oc21 kV21 dc21 pm21 cd21 ct21:Value}
  {f22:Addr}{od22 an22:Option Addr}{sl22:Array (Option Value)}{oc22 kV22 dc22 pm22 cd22 ct22:Value}
  {f23:Addr}{od23 an23:Option Addr}{sl23:Array (Option Value)}{oc23 kV23 dc23 pm23 cd23 ct23:Value}
  {f24:Addr}{od24 an24:Option Addr}{sl24:Array (Option Value)}{oc24 kV24 dc24 pm24 cd24 ct24:Value}
  {f25:Addr}{od25 an25:Option Addr}{sl25:Array (Option Value)}{oc25 kV25 dc25 pm25 cd25 ct25:Value}
  {f26:Addr}{od26 an26:Option Addr}{sl26:Array (Option Value)}{oc26 kV26 dc26 pm26 cd26 ct26:Value}
  {f27:Addr}{od27 an27:Option Addr}{sl27:Array (Option Value)}{oc27 kV27 dc27 pm27 cd27 ct27:Value}
  {f28:Addr}{od28 an28:Option Addr}{sl28:Array (Option Value)}{oc28 kV28 dc28 pm28 cd28 ct28:Value}
  {f29:Addr}{od29 an29:Option Addr}{sl29:Array (Option Value)}{oc29 kV29 dc29 pm29 cd29 ct29:Value}
  {f30:Addr}{od30 an30:Option Addr}{sl30:Array (Option Value)}{oc30 kV30 dc30 pm30 cd30 ct30:Value}
  {f31:Addr}{od31 an31:Option Addr}{sl31:Array (Option Value)}{oc31 kV31 dc31 pm31 cd31 ct31:Value}
  {f32:Addr}{od32 an32:Option Addr}{sl32:Array (Option Value)}{oc32 kV32 dc32 pm32 cd32 ct32:Value}
  {f33:Addr}{od33 an33:Option Addr}{sl33:Array (Option Value)}{oc33 kV33 dc33 pm33 cd33 ct33:Value}
  {f34:Addr}{od34 an34:Option Addr}{sl34:Array (Option Value)}{oc34 kV34 dc34 pm34 cd34 ct34:Value}
  {f35:Addr}{od35 an35:Option Addr}{sl35:Array (Option Value)}{oc35 kV35 dc35 pm35 cd35 ct35:Value}
  {f36:Addr}{od36 an36:Option Addr}{sl36:Array (Option Value)}{oc36 kV36 dc36 pm36 cd36 ct36:Value}
  {f37:Addr}{od37 an37:Option Addr}{sl37:Array (Option Value)}{oc37 kV37 dc37 pm37 cd37 ct37:Value}
  {f38:Addr}{od38 an38:Option Addr}{sl38:Array (Option Value)}{oc38 kV38 dc38 pm38 cd38 ct38:Value}
  {f39:Addr}{od39 an39:Option Addr}{sl39:Array (Option Value)}{oc39 kV39 dc39 pm39 cd39 ct39:Value}
  {f40:Addr}{od40 an40:Option Addr}{sl40:Array (Option Value)}{oc40 kV40 dc40 pm40 cd40 ct40:Value}
  {f41:Addr}{od41 an41:Option Addr}{sl41:Array (Option Value)}{oc41 kV41 dc41 pm41 cd41 ct41:Value}
  {f42:Addr}{od42 an42:Option Addr}{sl42:Array (Option Value)}{oc42 kV42 dc42 pm42 cd42 ct42:Value}
  {f43:Addr}{od43 an43:Option Addr}{sl43:Array (Option Value)}{oc43 kV43 dc43 pm43 cd43 ct43:Value}
  {f44:Addr}{od44 an44:Option Addr}{sl44:Array (Option Value)}{oc44 kV44 dc44 pm44 cd44 ct44:Value}
  {f45:Addr}{od45 an45:Option Addr}{sl45:Array (Option Value)}{oc45 kV45 dc45 pm45 cd45 ct45:Value}
  {f46:Addr}{od46 an46:Option Addr}{sl46:Array (Option Value)}{oc46 kV46 dc46 pm46 cd46 ct46:Value}
  {f47:Addr}{od47 an47:Option Addr}{sl47:Array (Option Value)}{oc47 kV47 dc47 pm47 cd47 ct47:Value}
  {f48:Addr}{od48 an48:Option Addr}{sl48:Array (Option Value)}{oc48 kV48 dc48 pm48 cd48 ct48:Value}
  {EFloorError ENoSense:Addr}
  (aS:PySem.W.nsIn K mainGlobals "Sense" = some (some (.ref CS)))
  (aM:PySem.W.nsIn K mainGlobals "Module" = some (some (.ref CM)))
  (aG:PySem.W.nsIn K mainGlobals "Stage" = some (some (.ref CG)))
  (aC:PySem.W.nsIn K mainGlobals "Scene" = some (some (.ref CC)))
  (eFloorError:PySem.W.nsIn K mainGlobals "FloorError" = some (some (.ref EFloorError)))
  (eNoSense:PySem.W.nsIn K mainGlobals "NoSense" = some (some (.ref ENoSense)))
  (a0:PySem.W.nsIn K mainGlobals "is_whole" = some (some (.ref f0))) (l0:K.lookup f0=some ⟨oc0,od0,.func (PySem.W.fnOf "is_whole" "is_whole" (defArgs (top 5)) (defBody (top 5)) (defScope (top 5)) .none kV0 dc0 pm0 an0 cd0 ct0),sl0⟩) (c0:PySem.W.codeIn K cd0 "is_whole" = true) (k0:PySem.W.keepIn K (.ref f0)=true)
  (a1:PySem.W.nsIn K mainGlobals "is_below" = some (some (.ref f1))) (l1:K.lookup f1=some ⟨oc1,od1,.func (PySem.W.fnOf "is_below" "is_below" (defArgs (top 6)) (defBody (top 6)) (defScope (top 6)) .none kV1 dc1 pm1 an1 cd1 ct1),sl1⟩) (c1:PySem.W.codeIn K cd1 "is_below" = true) (k1:PySem.W.keepIn K (.ref f1)=true)
  (a2:PySem.W.nsIn K mainGlobals "is_listed" = some (some (.ref f2))) (l2:K.lookup f2=some ⟨oc2,od2,.func (PySem.W.fnOf "is_listed" "is_listed" (defArgs (top 7)) (defBody (top 7)) (defScope (top 7)) .none kV2 dc2 pm2 an2 cd2 ct2),sl2⟩) (c2:PySem.W.codeIn K cd2 "is_listed" = true) (k2:PySem.W.keepIn K (.ref f2)=true)
  (a3:PySem.W.nsIn K mainGlobals "ask_length" = some (some (.ref f3))) (l3:K.lookup f3=some ⟨oc3,od3,.func (PySem.W.fnOf "ask_length" "ask_length" (defArgs (top 8)) (defBody (top 8)) (defScope (top 8)) .none kV3 dc3 pm3 an3 cd3 ct3),sl3⟩) (c3:PySem.W.codeIn K cd3 "ask_length" = true) (k3:PySem.W.keepIn K (.ref f3)=true)
  (a4:PySem.W.nsIn K mainGlobals "ask_values" = some (some (.ref f4))) (l4:K.lookup f4=some ⟨oc4,od4,.func (PySem.W.fnOf "ask_values" "ask_values" (defArgs (top 9)) (defBody (top 9)) (defScope (top 9)) .none kV4 dc4 pm4 an4 cd4 ct4),sl4⟩) (c4:PySem.W.codeIn K cd4 "ask_values" = true) (k4:PySem.W.keepIn K (.ref f4)=true)
  (a5:PySem.W.nsIn K mainGlobals "is_wide" = some (some (.ref f5))) (l5:K.lookup f5=some ⟨oc5,od5,.func (PySem.W.fnOf "is_wide" "is_wide" (defArgs (top 13)) (defBody (top 13)) (defScope (top 13)) .none kV5 dc5 pm5 an5 cd5 ct5),sl5⟩) (c5:PySem.W.codeIn K cd5 "is_wide" = true) (k5:PySem.W.keepIn K (.ref f5)=true)
  (a6:PySem.W.nsIn K mainGlobals "is_of_width" = some (some (.ref f6))) (l6:K.lookup f6=some ⟨oc6,od6,.func (PySem.W.fnOf "is_of_width" "is_of_width" (defArgs (top 14)) (defBody (top 14)) (defScope (top 14)) .none kV6 dc6 pm6 an6 cd6 ct6),sl6⟩) (c6:PySem.W.codeIn K cd6 "is_of_width" = true) (k6:PySem.W.keepIn K (.ref f6)=true)
  (a7:PySem.W.nsIn K mainGlobals "wide_of" = some (some (.ref f7))) (l7:K.lookup f7=some ⟨oc7,od7,.func (PySem.W.fnOf "wide_of" "wide_of" (defArgs (top 15)) (defBody (top 15)) (defScope (top 15)) .none kV7 dc7 pm7 an7 cd7 ct7),sl7⟩) (c7:PySem.W.codeIn K cd7 "wide_of" = true) (k7:PySem.W.keepIn K (.ref f7)=true)
  (a8:PySem.W.nsIn K mainGlobals "wide_of_out" = some (some (.ref f8))) (l8:K.lookup f8=some ⟨oc8,od8,.func (PySem.W.fnOf "wide_of_out" "wide_of_out" (defArgs (top 16)) (defBody (top 16)) (defScope (top 16)) .none kV8 dc8 pm8 an8 cd8 ct8),sl8⟩) (c8:PySem.W.codeIn K cd8 "wide_of_out" = true) (k8:PySem.W.keepIn K (.ref f8)=true)
  (a9:PySem.W.nsIn K mainGlobals "wide_of_part" = some (some (.ref f9))) (l9:K.lookup f9=some ⟨oc9,od9,.func (PySem.W.fnOf "wide_of_part" "wide_of_part" (defArgs (top 17)) (defBody (top 17)) (defScope (top 17)) .none kV9 dc9 pm9 an9 cd9 ct9),sl9⟩) (c9:PySem.W.codeIn K cd9 "wide_of_part" = true) (k9:PySem.W.keepIn K (.ref f9)=true)
  (a10:PySem.W.nsIn K mainGlobals "wide_of_word" = some (some (.ref f10))) (l10:K.lookup f10=some ⟨oc10,od10,.func (PySem.W.fnOf "wide_of_word" "wide_of_word" (defArgs (top 18)) (defBody (top 18)) (defScope (top 18)) .none kV10 dc10 pm10 an10 cd10 ct10),sl10⟩) (c10:PySem.W.codeIn K cd10 "wide_of_word" = true) (k10:PySem.W.keepIn K (.ref f10)=true)
  (a11:PySem.W.nsIn K mainGlobals "is_free" = some (some (.ref f11))) (l11:K.lookup f11=some ⟨oc11,od11,.func (PySem.W.fnOf "is_free" "is_free" (defArgs (top 19)) (defBody (top 19)) (defScope (top 19)) .none kV11 dc11 pm11 an11 cd11 ct11),sl11⟩) (c11:PySem.W.codeIn K cd11 "is_free" = true) (k11:PySem.W.keepIn K (.ref f11)=true)
  (a12:PySem.W.nsIn K mainGlobals "take_in" = some (some (.ref f12))) (l12:K.lookup f12=some ⟨oc12,od12,.func (PySem.W.fnOf "take_in" "take_in" (defArgs (top 20)) (defBody (top 20)) (defScope (top 20)) .none kV12 dc12 pm12 an12 cd12 ct12),sl12⟩) (c12:PySem.W.codeIn K cd12 "take_in" = true) (k12:PySem.W.keepIn K (.ref f12)=true)
  (a13:PySem.W.nsIn K mainGlobals "take_keep" = some (some (.ref f13))) (l13:K.lookup f13=some ⟨oc13,od13,.func (PySem.W.fnOf "take_keep" "take_keep" (defArgs (top 21)) (defBody (top 21)) (defScope (top 21)) .none kV13 dc13 pm13 an13 cd13 ct13),sl13⟩) (c13:PySem.W.codeIn K cd13 "take_keep" = true) (k13:PySem.W.keepIn K (.ref f13)=true)
  (a14:PySem.W.nsIn K mainGlobals "take_let" = some (some (.ref f14))) (l14:K.lookup f14=some ⟨oc14,od14,.func (PySem.W.fnOf "take_let" "take_let" (defArgs (top 22)) (defBody (top 22)) (defScope (top 22)) .none kV14 dc14 pm14 an14 cd14 ct14),sl14⟩) (c14:PySem.W.codeIn K cd14 "take_let" = true) (k14:PySem.W.keepIn K (.ref f14)=true)
  (a15:PySem.W.nsIn K mainGlobals "take_use" = some (some (.ref f15))) (l15:K.lookup f15=some ⟨oc15,od15,.func (PySem.W.fnOf "take_use" "take_use" (defArgs (top 23)) (defBody (top 23)) (defScope (top 23)) .none kV15 dc15 pm15 an15 cd15 ct15),sl15⟩) (c15:PySem.W.codeIn K cd15 "take_use" = true) (k15:PySem.W.keepIn K (.ref f15)=true)
  (a16:PySem.W.nsIn K mainGlobals "take_next" = some (some (.ref f16))) (l16:K.lookup f16=some ⟨oc16,od16,.func (PySem.W.fnOf "take_next" "take_next" (defArgs (top 24)) (defBody (top 24)) (defScope (top 24)) .none kV16 dc16 pm16 an16 cd16 ct16),sl16⟩) (c16:PySem.W.codeIn K cd16 "take_next" = true) (k16:PySem.W.keepIn K (.ref f16)=true)
  (a17:PySem.W.nsIn K mainGlobals "take_out" = some (some (.ref f17))) (l17:K.lookup f17=some ⟨oc17,od17,.func (PySem.W.fnOf "take_out" "take_out" (defArgs (top 25)) (defBody (top 25)) (defScope (top 25)) .none kV17 dc17 pm17 an17 cd17 ct17),sl17⟩) (c17:PySem.W.codeIn K cd17 "take_out" = true) (k17:PySem.W.keepIn K (.ref f17)=true)
  (a18:PySem.W.nsIn K mainGlobals "sense_of_module" = some (some (.ref f18))) (l18:K.lookup f18=some ⟨oc18,od18,.func (PySem.W.fnOf "sense_of_module" "sense_of_module" (defArgs (top 27)) (defBody (top 27)) (defScope (top 27)) .none kV18 dc18 pm18 an18 cd18 ct18),sl18⟩) (c18:PySem.W.codeIn K cd18 "sense_of_module" = true) (k18:PySem.W.keepIn K (.ref f18)=true)
  (a19:PySem.W.nsIn K mainGlobals "top_sense" = some (some (.ref f19))) (l19:K.lookup f19=some ⟨oc19,od19,.func (PySem.W.fnOf "top_sense" "top_sense" (defArgs (top 28)) (defBody (top 28)) (defScope (top 28)) .none kV19 dc19 pm19 an19 cd19 ct19),sl19⟩) (c19:PySem.W.codeIn K cd19 "top_sense" = true) (k19:PySem.W.keepIn K (.ref f19)=true)
  (a20:PySem.W.nsIn K mainGlobals "faces" = some (some (.ref f20))) (l20:K.lookup f20=some ⟨oc20,od20,.func (PySem.W.fnOf "faces" "faces" (defArgs (top 29)) (defBody (top 29)) (defScope (top 29)) .none kV20 dc20 pm20 an20 cd20 ct20),sl20⟩) (c20:PySem.W.codeIn K cd20 "faces" = true) (k20:PySem.W.keepIn K (.ref f20)=true)
  (a21:PySem.W.nsIn K mainGlobals "not_value" = some (some (.ref f21))) (l21:K.lookup f21=some ⟨oc21,od21,.func (PySem.W.fnOf "not_value" "not_value" (defArgs (top 31)) (defBody (top 31)) (defScope (top 31)) .none kV21 dc21 pm21 an21 cd21 ct21),sl21⟩) (c21:PySem.W.codeIn K cd21 "not_value" = true) (k21:PySem.W.keepIn K (.ref f21)=true)
  (a22:PySem.W.nsIn K mainGlobals "and_value" = some (some (.ref f22))) (l22:K.lookup f22=some ⟨oc22,od22,.func (PySem.W.fnOf "and_value" "and_value" (defArgs (top 32)) (defBody (top 32)) (defScope (top 32)) .none kV22 dc22 pm22 an22 cd22 ct22),sl22⟩) (c22:PySem.W.codeIn K cd22 "and_value" = true) (k22:PySem.W.keepIn K (.ref f22)=true)
  (a23:PySem.W.nsIn K mainGlobals "or_value" = some (some (.ref f23))) (l23:K.lookup f23=some ⟨oc23,od23,.func (PySem.W.fnOf "or_value" "or_value" (defArgs (top 33)) (defBody (top 33)) (defScope (top 33)) .none kV23 dc23 pm23 an23 cd23 ct23),sl23⟩) (c23:PySem.W.codeIn K cd23 "or_value" = true) (k23:PySem.W.keepIn K (.ref f23)=true)
  (a24:PySem.W.nsIn K mainGlobals "xor_value" = some (some (.ref f24))) (l24:K.lookup f24=some ⟨oc24,od24,.func (PySem.W.fnOf "xor_value" "xor_value" (defArgs (top 34)) (defBody (top 34)) (defScope (top 34)) .none kV24 dc24 pm24 an24 cd24 ct24),sl24⟩) (c24:PySem.W.codeIn K cd24 "xor_value" = true) (k24:PySem.W.keepIn K (.ref f24)=true)
  (a25:PySem.W.nsIn K mainGlobals "plus_value" = some (some (.ref f25))) (l25:K.lookup f25=some ⟨oc25,od25,.func (PySem.W.fnOf "plus_value" "plus_value" (defArgs (top 35)) (defBody (top 35)) (defScope (top 35)) .none kV25 dc25 pm25 an25 cd25 ct25),sl25⟩) (c25:PySem.W.codeIn K cd25 "plus_value" = true) (k25:PySem.W.keepIn K (.ref f25)=true)
  (a26:PySem.W.nsIn K mainGlobals "less_value" = some (some (.ref f26))) (l26:K.lookup f26=some ⟨oc26,od26,.func (PySem.W.fnOf "less_value" "less_value" (defArgs (top 36)) (defBody (top 36)) (defScope (top 36)) .none kV26 dc26 pm26 an26 cd26 ct26),sl26⟩) (c26:PySem.W.codeIn K cd26 "less_value" = true) (k26:PySem.W.keepIn K (.ref f26)=true)
  (a27:PySem.W.nsIn K mainGlobals "same_value" = some (some (.ref f27))) (l27:K.lookup f27=some ⟨oc27,od27,.func (PySem.W.fnOf "same_value" "same_value" (defArgs (top 37)) (defBody (top 37)) (defScope (top 37)) .none kV27 dc27 pm27 an27 cd27 ct27),sl27⟩) (c27:PySem.W.codeIn K cd27 "same_value" = true) (k27:PySem.W.keepIn K (.ref f27)=true)
  (a28:PySem.W.nsIn K mainGlobals "pick_value" = some (some (.ref f28))) (l28:K.lookup f28=some ⟨oc28,od28,.func (PySem.W.fnOf "pick_value" "pick_value" (defArgs (top 38)) (defBody (top 38)) (defScope (top 38)) .none kV28 dc28 pm28 an28 cd28 ct28),sl28⟩) (c28:PySem.W.codeIn K cd28 "pick_value" = true) (k28:PySem.W.keepIn K (.ref f28)=true)
  (a29:PySem.W.nsIn K mainGlobals "join_value" = some (some (.ref f29))) (l29:K.lookup f29=some ⟨oc29,od29,.func (PySem.W.fnOf "join_value" "join_value" (defArgs (top 39)) (defBody (top 39)) (defScope (top 39)) .none kV29 dc29 pm29 an29 cd29 ct29),sl29⟩) (c29:PySem.W.codeIn K cd29 "join_value" = true) (k29:PySem.W.keepIn K (.ref f29)=true)
  (a30:PySem.W.nsIn K mainGlobals "value_of" = some (some (.ref f30))) (l30:K.lookup f30=some ⟨oc30,od30,.func (PySem.W.fnOf "value_of" "value_of" (defArgs (top 41)) (defBody (top 41)) (defScope (top 41)) .none kV30 dc30 pm30 an30 cd30 ct30),sl30⟩) (c30:PySem.W.codeIn K cd30 "value_of" = true) (k30:PySem.W.keepIn K (.ref f30)=true)
  (a31:PySem.W.nsIn K mainGlobals "frozen" = some (some (.ref f31))) (l31:K.lookup f31=some ⟨oc31,od31,.func (PySem.W.fnOf "frozen" "frozen" (defArgs (top 45)) (defBody (top 45)) (defScope (top 45)) .none kV31 dc31 pm31 an31 cd31 ct31),sl31⟩) (c31:PySem.W.codeIn K cd31 "frozen" = true) (k31:PySem.W.keepIn K (.ref f31)=true)
  (a32:PySem.W.nsIn K mainGlobals "_law_next" = some (some (.ref f32))) (l32:K.lookup f32=some ⟨oc32,od32,.func (PySem.W.fnOf "_law_next" "_law_next" (defArgs (top 48)) (defBody (top 48)) (defScope (top 48)) .none kV32 dc32 pm32 an32 cd32 ct32),sl32⟩) (c32:PySem.W.codeIn K cd32 "_law_next" = true) (k32:PySem.W.keepIn K (.ref f32)=true)
  (a33:PySem.W.nsIn K mainGlobals "_law_same" = some (some (.ref f33))) (l33:K.lookup f33=some ⟨oc33,od33,.func (PySem.W.fnOf "_law_same" "_law_same" (defArgs (top 49)) (defBody (top 49)) (defScope (top 49)) .none kV33 dc33 pm33 an33 cd33 ct33),sl33⟩) (c33:PySem.W.codeIn K cd33 "_law_same" = true) (k33:PySem.W.keepIn K (.ref f33)=true)
  (a34:PySem.W.nsIn K mainGlobals "_law_power" = some (some (.ref f34))) (l34:K.lookup f34=some ⟨oc34,od34,.func (PySem.W.fnOf "_law_power" "_law_power" (defArgs (top 50)) (defBody (top 50)) (defScope (top 50)) .none kV34 dc34 pm34 an34 cd34 ct34),sl34⟩) (c34:PySem.W.codeIn K cd34 "_law_power" = true) (k34:PySem.W.keepIn K (.ref f34)=true)
  (a35:PySem.W.nsIn K mainGlobals "_law_any_value" = some (some (.ref f35))) (l35:K.lookup f35=some ⟨oc35,od35,.func (PySem.W.fnOf "_law_any_value" "_law_any_value" (defArgs (top 51)) (defBody (top 51)) (defScope (top 51)) .none kV35 dc35 pm35 an35 cd35 ct35),sl35⟩) (c35:PySem.W.codeIn K cd35 "_law_any_value" = true) (k35:PySem.W.keepIn K (.ref f35)=true)
  (a36:PySem.W.nsIn K mainGlobals "_law_module_by" = some (some (.ref f36))) (l36:K.lookup f36=some ⟨oc36,od36,.func (PySem.W.fnOf "_law_module_by" "_law_module_by" (defArgs (top 52)) (defBody (top 52)) (defScope (top 52)) .none kV36 dc36 pm36 an36 cd36 ct36),sl36⟩) (c36:PySem.W.codeIn K cd36 "_law_module_by" = true) (k36:PySem.W.keepIn K (.ref f36)=true)
  (a37:PySem.W.nsIn K mainGlobals "_law_due" = some (some (.ref f37))) (l37:K.lookup f37=some ⟨oc37,od37,.func (PySem.W.fnOf "_law_due" "_law_due" (defArgs (top 53)) (defBody (top 53)) (defScope (top 53)) .none kV37 dc37 pm37 an37 cd37 ct37),sl37⟩) (c37:PySem.W.codeIn K cd37 "_law_due" = true) (k37:PySem.W.keepIn K (.ref f37)=true)
  (a38:PySem.W.nsIn K mainGlobals "law" = some (some (.ref f38))) (l38:K.lookup f38=some ⟨oc38,od38,.func (PySem.W.fnOf "law" "law" (defArgs (top 54)) (defBody (top 54)) (defScope (top 54)) .none kV38 dc38 pm38 an38 cd38 ct38),sl38⟩) (c38:PySem.W.codeIn K cd38 "law" = true) (k38:PySem.W.keepIn K (.ref f38)=true)
  (a39:PySem.W.findIn K (.ref CS) "__init__" = some (some (.ref f39))) (l39:K.lookup f39=some ⟨oc39,od39,.func (PySem.W.fnOf "__init__" "Sense.__init__" (defArgs (inClass (top 12) 0)) (defBody (inClass (top 12) 0)) (defScope (inClass (top 12) 0)) .none kV39 dc39 pm39 an39 cd39 ct39),sl39⟩) (c39:PySem.W.codeIn K cd39 "Sense.__init__" = true) (k39:PySem.W.keepIn K (.ref f39)=true) (i39:PySem.W.isFn K (.ref f39)=true)
  (a40:PySem.W.findIn K (.ref CM) "__init__" = some (some (.ref f40))) (l40:K.lookup f40=some ⟨oc40,od40,.func (PySem.W.fnOf "__init__" "Module.__init__" (defArgs (inClass (top 46) 0)) (defBody (inClass (top 46) 0)) (defScope (inClass (top 46) 0)) .none kV40 dc40 pm40 an40 cd40 ct40),sl40⟩) (c40:PySem.W.codeIn K cd40 "Module.__init__" = true) (k40:PySem.W.keepIn K (.ref f40)=true) (i40:PySem.W.isFn K (.ref f40)=true)
  (a41:PySem.W.findIn K (.ref CG) "__init__" = some (some (.ref f41))) (l41:K.lookup f41=some ⟨oc41,od41,.func (PySem.W.fnOf "__init__" "Stage.__init__" (defArgs (inClass (top 42) 0)) (defBody (inClass (top 42) 0)) (defScope (inClass (top 42) 0)) .none kV41 dc41 pm41 an41 cd41 ct41),sl41⟩) (c41:PySem.W.codeIn K cd41 "Stage.__init__" = true) (k41:PySem.W.keepIn K (.ref f41)=true) (i41:PySem.W.isFn K (.ref f41)=true)
  (a42:PySem.W.findIn K (.ref CG) "tell" = some (some (.ref f42))) (l42:K.lookup f42=some ⟨oc42,od42,.func (PySem.W.fnOf "tell" "Stage.tell" (defArgs (inClass (top 42) 1)) (defBody (inClass (top 42) 1)) (defScope (inClass (top 42) 1)) .none kV42 dc42 pm42 an42 cd42 ct42),sl42⟩) (c42:PySem.W.codeIn K cd42 "Stage.tell" = true) (k42:PySem.W.keepIn K (.ref f42)=true) (i42:PySem.W.isFn K (.ref f42)=true)
  (a43:PySem.W.findIn K (.ref CG) "move" = some (some (.ref f43))) (l43:K.lookup f43=some ⟨oc43,od43,.func (PySem.W.fnOf "move" "Stage.move" (defArgs (inClass (top 42) 2)) (defBody (inClass (top 42) 2)) (defScope (inClass (top 42) 2)) .none kV43 dc43 pm43 an43 cd43 ct43),sl43⟩) (c43:PySem.W.codeIn K cd43 "Stage.move" = true) (k43:PySem.W.keepIn K (.ref f43)=true) (i43:PySem.W.isFn K (.ref f43)=true)
  (a44:PySem.W.findIn K (.ref CG) "paths" = some (some (.ref f44))) (l44:K.lookup f44=some ⟨oc44,od44,.func (PySem.W.fnOf "paths" "Stage.paths" (defArgs (inClass (top 42) 3)) (defBody (inClass (top 42) 3)) (defScope (inClass (top 42) 3)) .none kV44 dc44 pm44 an44 cd44 ct44),sl44⟩) (c44:PySem.W.codeIn K cd44 "Stage.paths" = true) (k44:PySem.W.keepIn K (.ref f44)=true) (i44:PySem.W.isFn K (.ref f44)=true)
  (a45:PySem.W.findIn K (.ref CC) "__init__" = some (some (.ref f45))) (l45:K.lookup f45=some ⟨oc45,od45,.func (PySem.W.fnOf "__init__" "Scene.__init__" (defArgs (inClass (top 43) 0)) (defBody (inClass (top 43) 0)) (defScope (inClass (top 43) 0)) .none kV45 dc45 pm45 an45 cd45 ct45),sl45⟩) (c45:PySem.W.codeIn K cd45 "Scene.__init__" = true) (k45:PySem.W.keepIn K (.ref f45)=true) (i45:PySem.W.isFn K (.ref f45)=true)
  (a46:PySem.W.findIn K (.ref CC) "beat" = some (some (.ref f46))) (l46:K.lookup f46=some ⟨oc46,od46,.func (PySem.W.fnOf "beat" "Scene.beat" (defArgs (inClass (top 43) 1)) (defBody (inClass (top 43) 1)) (defScope (inClass (top 43) 1)) .none kV46 dc46 pm46 an46 cd46 ct46),sl46⟩) (c46:PySem.W.codeIn K cd46 "Scene.beat" = true) (k46:PySem.W.keepIn K (.ref f46)=true) (i46:PySem.W.isFn K (.ref f46)=true)
  (a47:PySem.W.findIn K (.ref CC) "held" = some (some (.ref f47))) (l47:K.lookup f47=some ⟨oc47,od47,.func (PySem.W.fnOf "held" "Scene.held" (defArgs (inClass (top 43) 2)) (defBody (inClass (top 43) 2)) (defScope (inClass (top 43) 2)) .none kV47 dc47 pm47 an47 cd47 ct47),sl47⟩) (c47:PySem.W.codeIn K cd47 "Scene.held" = true) (k47:PySem.W.keepIn K (.ref f47)=true) (i47:PySem.W.isFn K (.ref f47)=true)
  (a48:PySem.W.findIn K (.ref ENoSense) "__init__" = some (some (.ref f48))) (l48:K.lookup f48=some ⟨oc48,od48,.func (PySem.W.fnOf "__init__" "NoSense.__init__" (defArgs (inClass (top 3) 0)) (defBody (inClass (top 3) 0)) (defScope (inClass (top 3) 0)) .none kV48 dc48 pm48 an48 cd48 ct48),sl48⟩) (c48:PySem.W.codeIn K cd48 "NoSense.__init__" = true) (k48:PySem.W.keepIn K (.ref f48)=true) (i48:PySem.W.isFn K (.ref f48)=true)
  (pgS:PySem.W.plainGet K CS Str.empty=true) (hdS:PySem.W.hasDictIn K CS=true) (poS:PySem.W.plainOver K CS=true) (saS:PySem.W.findIn K (.ref CS) "__setattr__" = some (some (.builtin "object.__setattr__"))) (mkS:PySem.W.makesIn K CS=true) (kcS:PySem.W.keepIn K (.ref CS)=true)
  (nS_above:PySem.W.findIn K (.ref CS) "above" = some none)
  (nS_ins:PySem.W.findIn K (.ref CS) "ins" = some none)
  (nS_wides:PySem.W.findIn K (.ref CS) "wides" = some none)
  (nS_uses:PySem.W.findIn K (.ref CS) "uses" = some none)
  (nS_keepers:PySem.W.findIn K (.ref CS) "keepers" = some none)
  (nS_nexts:PySem.W.findIn K (.ref CS) "nexts" = some none)
  (nS_outs:PySem.W.findIn K (.ref CS) "outs" = some none)
  (pgM:PySem.W.plainGet K CM Str.empty=true) (hdM:PySem.W.hasDictIn K CM=true) (poM:PySem.W.plainOver K CM=true) (saM:PySem.W.findIn K (.ref CM) "__setattr__" = some (some (.builtin "object.__setattr__"))) (mkM:PySem.W.makesIn K CM=true) (kcM:PySem.W.keepIn K (.ref CM)=true)
  (nM_name:PySem.W.findIn K (.ref CM) "name" = some none)
  (nM_rows:PySem.W.findIn K (.ref CM) "rows" = some none)
  (pgG:PySem.W.plainGet K CG Str.empty=true) (hdG:PySem.W.hasDictIn K CG=true) (poG:PySem.W.plainOver K CG=true) (saG:PySem.W.findIn K (.ref CG) "__setattr__" = some (some (.builtin "object.__setattr__"))) (mkG:PySem.W.makesIn K CG=true) (kcG:PySem.W.keepIn K (.ref CG)=true)
  (nG_rows:PySem.W.findIn K (.ref CG) "rows" = some none)
  (nG_kept:PySem.W.findIn K (.ref CG) "kept" = some none)
  (nG_inner:PySem.W.findIn K (.ref CG) "inner" = some none)
  (nG_coming:PySem.W.findIn K (.ref CG) "coming" = some none)
  (pgC:PySem.W.plainGet K CC Str.empty=true) (hdC:PySem.W.hasDictIn K CC=true) (poC:PySem.W.plainOver K CC=true) (saC:PySem.W.findIn K (.ref CC) "__setattr__" = some (some (.builtin "object.__setattr__"))) (mkC:PySem.W.makesIn K CC=true) (kcC:PySem.W.keepIn K (.ref CC)=true)
  (nC_wides:PySem.W.findIn K (.ref CC) "wides" = some none)
  (nC_stage:PySem.W.findIn K (.ref CC) "stage" = some none)
  (z_len:PySem.W.nsIn K mainGlobals "len" = some none)
  (z_range:PySem.W.nsIn K mainGlobals "range" = some none)
  (z_int:PySem.W.nsIn K mainGlobals "int" = some none)
  (z_str:PySem.W.nsIn K mainGlobals "str" = some none)
  (z_isinstance:PySem.W.nsIn K mainGlobals "isinstance" = some none)
  (z_zip:PySem.W.nsIn K mainGlobals "zip" = some none)
  (z_list:PySem.W.nsIn K mainGlobals "list" = some none)
  (z_tuple:PySem.W.nsIn K mainGlobals "tuple" = some none)
  (z_dict:PySem.W.nsIn K mainGlobals "dict" = some none)
  (z_bool:PySem.W.nsIn K mainGlobals "bool" = some none)
  (z_all:PySem.W.nsIn K mainGlobals "all" = some none)
  (z_enumerate:PySem.W.nsIn K mainGlobals "enumerate" = some none)
  (z_max:PySem.W.nsIn K mainGlobals "max" = some none)
  (z_sum:PySem.W.nsIn K mainGlobals "sum" = some none)
  (xhd:PySem.W.hasDictIn K ENoSense=true) (xsa:PySem.W.findIn K (.ref ENoSense) "__setattr__" = some (some (.builtin "object.__setattr__"))) (xkc:PySem.W.keepIn K (.ref ENoSense)=true) (xna:PySem.W.findIn K (.ref ENoSense) "line" = some none)
  (fhg:PySem.W.specialIn K (.ref EFloorError) "__getattribute__" = some (some (.builtin "type.__getattribute__"))) (frd:PySem.W.readsIn K EFloorError (.type "type")=true) (ffd:PySem.W.findCls K (.ref EFloorError) (.type "type") "__init__" = some (.val (.builtin "ValueError.__init__")))
  (xcR:XB K ENoSense) (xcF:XB K EFloorError) (xsb:PySem.W.mroIn K ENoSense (.ref EFloorError)=some true)
  (xga:PySem.W.findIn K (.ref ENoSense) "__getattribute__" = some (some (.builtin "BaseException.__getattribute__"))) (xgt:PySem.W.findIn K (.ref ENoSense) "__getattr__" = some none) (xcl:PySem.W.findIn K (.ref ENoSense) "__class__" = some (some (.builtin "object.__class__")))
  (xsg:PySem.W.specialIn K (.builtin "object.__class__") "__get__" = some (some (.builtin "getset_descriptor.__get__"))) (xtk:PySem.W.takesIn K (.builtin "object.__class__")=some true) (xmo:PySem.W.mroIn K ENoSense (.type "object")=some true)
  (w_V:PySem.W.kitOne K (.ref ENoSense) (.type "ValueError")=some true)
  {ti_WIDEST:Tok} (ai_WIDEST:PySem.W.nsIn K mainGlobals "WIDEST" = some (some (.int 16 ti_WIDEST)))
  {tk:Addr}{tkv:List (Key × V)} (aTT:PySem.W.nsIn K mainGlobals "TAKERS" = some (some (.ref tk)))
  (hKDT:KD l.prog w K tk tkv)
  (hT_in:valV tkv (Sum.inr "in")=some (.ref f12))
  (hT_keep:valV tkv (Sum.inr "keep")=some (.ref f13))
  (hT_let:valV tkv (Sum.inr "let")=some (.ref f14))
  (hT_use:valV tkv (Sum.inr "use")=some (.ref f15))
  (hT_next:valV tkv (Sum.inr "next")=some (.ref f16))
  (hT_out:valV tkv (Sum.inr "out")=some (.ref f17))
  (ndT:[f12,f13,f14,f15,f16,f17].Nodup)
  {vk:Addr}{vkv:List (Key × V)} (aTV:PySem.W.nsIn K mainGlobals "VALUES" = some (some (.ref vk)))
  (hKDV:KD l.prog w K vk vkv)
  (hV_not:valV vkv (Sum.inr "not")=some (.ref f21))
  (hV_and:valV vkv (Sum.inr "and")=some (.ref f22))
  (hV_or:valV vkv (Sum.inr "or")=some (.ref f23))
  (hV_xor:valV vkv (Sum.inr "xor")=some (.ref f24))
  (hV_plus:valV vkv (Sum.inr "plus")=some (.ref f25))
  (hV_less:valV vkv (Sum.inr "less")=some (.ref f26))
  (hV_same:valV vkv (Sum.inr "same")=some (.ref f27))
  (hV_pick:valV vkv (Sum.inr "pick")=some (.ref f28))
  (hV_join:valV vkv (Sum.inr "join")=some (.ref f29))
  (ndV:[f21,f22,f23,f24,f25,f26,f27,f28,f29].Nodup)
  (xsT:PySem.W.mroIn K ENoSense (.ref ENoSense)=some true) :
  ∃ fd:FuncData,(∀ (s:Shared) (v:Value),BindsTo s fd ⟨[v],[]⟩ [("_law_script",v)])∧∀ base:Heap,K.In base→base.Ns mainGlobals mg→FnOk l.prog w K mg base CX0 14 fa fd ["_law_script"] (spLaw K):=by
 have e:=hfa.symm.trans (PySem.W.mg_of X G a38)
 cases e
 have F0:=zaa6 (st:=top 5) l0 c0 k0
 have b0:=F0.binds (ps:=["thing"]) fun _ _ _ _ _ _ us hl=>match us,hl with | [_],_=>rfl
 have m0:=PySem.W.mg_of X G a0
 have F1:=zaa6 (st:=top 6) l1 c1 k1
 have b1:=F1.binds (ps:=["thing", "bound"]) fun _ _ _ _ _ _ us hl=>match us,hl with | [_,_],_=>rfl
 have m1:=PySem.W.mg_of X G a1
 have F2:=zaa6 (st:=top 7) l2 c2 k2
 have b2:=F2.binds (ps:=["thing"]) fun _ _ _ _ _ _ us hl=>match us,hl with | [_],_=>rfl
 have m2:=PySem.W.mg_of X G a2
 have F3:=zaa6 (st:=top 8) l3 c3 k3
 have b3:=F3.binds (ps:=["row", "length"]) fun _ _ _ _ _ _ us hl=>match us,hl with | [_,_],_=>rfl
 have m3:=PySem.W.mg_of X G a3
 have F4:=zaa6 (st:=top 9) l4 c4 k4
 have b4:=F4.binds (ps:=["row", "wides"]) fun _ _ _ _ _ _ us hl=>match us,hl with | [_,_],_=>rfl
 have m4:=PySem.W.mg_of X G a4
 have F5:=zaa6 (st:=top 13) l5 c5 k5
 have b5:=F5.binds (ps:=["wide"]) fun _ _ _ _ _ _ us hl=>match us,hl with | [_],_=>rfl
 have m5:=PySem.W.mg_of X G a5
 have F6:=zaa6 (st:=top 14) l6 c6 k6
 have b6:=F6.binds (ps:=["value", "wide"]) fun _ _ _ _ _ _ us hl=>match us,hl with | [_,_],_=>rfl
 have m6:=PySem.W.mg_of X G a6
 have F7:=zaa6 (st:=top 15) l7 c7 k7
 have b7:=F7.binds (ps:=["sense", "expr"]) fun _ _ _ _ _ _ us hl=>match us,hl with | [_,_],_=>rfl
 have m7:=PySem.W.mg_of X G a7
 have F8:=zaa6 (st:=top 16) l8 c8 k8
 have b8:=F8.binds (ps:=["sense", "use", "out"]) fun _ _ _ _ _ _ us hl=>match us,hl with | [_,_,_],_=>rfl
 have m8:=PySem.W.mg_of X G a8
 have F9:=zaa6 (st:=top 17) l9 c9 k9
 have b9:=F9.binds (ps:=["whole", "low", "wide"]) fun _ _ _ _ _ _ us hl=>match us,hl with | [_,_,_],_=>rfl
 have m9:=PySem.W.mg_of X G a9
 have F10:=zaa6 (st:=top 18) l10 c10 k10
 have b10:=F10.binds (ps:=["word", "wides"]) fun _ _ _ _ _ _ us hl=>match us,hl with | [_,_],_=>rfl
 have m10:=PySem.W.mg_of X G a10
 have F11:=zaa6 (st:=top 19) l11 c11 k11
 have b11:=F11.binds (ps:=["sense", "name"]) fun _ _ _ _ _ _ us hl=>match us,hl with | [_,_],_=>rfl
 have m11:=PySem.W.mg_of X G a11
 have F12:=zaa6 (st:=top 20) l12 c12 k12
 have b12:=F12.binds (ps:=["sense", "row"]) fun _ _ _ _ _ _ us hl=>match us,hl with | [_,_],_=>rfl
 have m12:=PySem.W.mg_of X G a12
 have F13:=zaa6 (st:=top 21) l13 c13 k13
 have b13:=F13.binds (ps:=["sense", "row"]) fun _ _ _ _ _ _ us hl=>match us,hl with | [_,_],_=>rfl
 have m13:=PySem.W.mg_of X G a13
 have F14:=zaa6 (st:=top 22) l14 c14 k14
 have b14:=F14.binds (ps:=["sense", "row"]) fun _ _ _ _ _ _ us hl=>match us,hl with | [_,_],_=>rfl
 have m14:=PySem.W.mg_of X G a14
 have F15:=zaa6 (st:=top 23) l15 c15 k15
 have b15:=F15.binds (ps:=["sense", "row"]) fun _ _ _ _ _ _ us hl=>match us,hl with | [_,_],_=>rfl
 have m15:=PySem.W.mg_of X G a15
 have F16:=zaa6 (st:=top 24) l16 c16 k16
 have b16:=F16.binds (ps:=["sense", "row"]) fun _ _ _ _ _ _ us hl=>match us,hl with | [_,_],_=>rfl
 have m16:=PySem.W.mg_of X G a16
 have F17:=zaa6 (st:=top 25) l17 c17 k17
 have b17:=F17.binds (ps:=["sense", "row"]) fun _ _ _ _ _ _ us hl=>match us,hl with | [_,_],_=>rfl
 have m17:=PySem.W.mg_of X G a17
 have F18:=zaa6 (st:=top 27) l18 c18 k18
 have b18:=F18.binds (ps:=["module", "above", "line"]) fun _ _ _ _ _ _ us hl=>match us,hl with | [_,_,_],_=>rfl
 have m18:=PySem.W.mg_of X G a18
 have F19:=zaa6 (st:=top 28) l19 c19 k19
 have b19:=F19.binds (ps:=["modules"]) fun _ _ _ _ _ _ us hl=>match us,hl with | [_],_=>rfl
 have m19:=PySem.W.mg_of X G a19
 have F20:=zaa6 (st:=top 29) l20 c20 k20
 have b20:=F20.binds (ps:=["modules"]) fun _ _ _ _ _ _ us hl=>match us,hl with | [_],_=>rfl
 have m20:=PySem.W.mg_of X G a20
 have F21:=zaa6 (st:=top 31) l21 c21 k21
 have b21:=F21.binds (ps:=["sides"]) fun _ _ _ _ _ _ us hl=>match us,hl with | [_],_=>rfl
 have m21:=PySem.W.mg_of X G a21
 have F22:=zaa6 (st:=top 32) l22 c22 k22
 have b22:=F22.binds (ps:=["sides"]) fun _ _ _ _ _ _ us hl=>match us,hl with | [_],_=>rfl
 have m22:=PySem.W.mg_of X G a22
 have F23:=zaa6 (st:=top 33) l23 c23 k23
 have b23:=F23.binds (ps:=["sides"]) fun _ _ _ _ _ _ us hl=>match us,hl with | [_],_=>rfl
 have m23:=PySem.W.mg_of X G a23
 have F24:=zaa6 (st:=top 34) l24 c24 k24
 have b24:=F24.binds (ps:=["sides"]) fun _ _ _ _ _ _ us hl=>match us,hl with | [_],_=>rfl
 have m24:=PySem.W.mg_of X G a24
 have F25:=zaa6 (st:=top 35) l25 c25 k25
 have b25:=F25.binds (ps:=["sides"]) fun _ _ _ _ _ _ us hl=>match us,hl with | [_],_=>rfl
 have m25:=PySem.W.mg_of X G a25
 have F26:=zaa6 (st:=top 36) l26 c26 k26
 have b26:=F26.binds (ps:=["sides"]) fun _ _ _ _ _ _ us hl=>match us,hl with | [_],_=>rfl
 have m26:=PySem.W.mg_of X G a26
 have F27:=zaa6 (st:=top 37) l27 c27 k27
 have b27:=F27.binds (ps:=["sides"]) fun _ _ _ _ _ _ us hl=>match us,hl with | [_],_=>rfl
 have m27:=PySem.W.mg_of X G a27
 have F28:=zaa6 (st:=top 38) l28 c28 k28
 have b28:=F28.binds (ps:=["sides"]) fun _ _ _ _ _ _ us hl=>match us,hl with | [_],_=>rfl
 have m28:=PySem.W.mg_of X G a28
 have F29:=zaa6 (st:=top 39) l29 c29 k29
 have b29:=F29.binds (ps:=["sides"]) fun _ _ _ _ _ _ us hl=>match us,hl with | [_],_=>rfl
 have m29:=PySem.W.mg_of X G a29
 have F30:=zaa6 (st:=top 41) l30 c30 k30
 have b30:=F30.binds (ps:=["expr", "named", "used"]) fun _ _ _ _ _ _ us hl=>match us,hl with | [_,_,_],_=>rfl
 have m30:=PySem.W.mg_of X G a30
 have F31:=zaa6 (st:=top 45) l31 c31 k31
 have b31:=F31.binds (ps:=["thing"]) fun _ _ _ _ _ _ us hl=>match us,hl with | [_],_=>rfl
 have m31:=PySem.W.mg_of X G a31
 have F32:=zaa6 (st:=top 48) l32 c32 k32
 have b32:=F32.binds (ps:=["_law_script", "_law_at"]) fun _ _ _ _ _ _ us hl=>match us,hl with | [_,_],_=>rfl
 have m32:=PySem.W.mg_of X G a32
 have F33:=zaa6 (st:=top 49) l33 c33 k33
 have b33:=F33.binds (ps:=["_law_found", "_law_due_here"]) fun _ _ _ _ _ _ us hl=>match us,hl with | [_,_],_=>rfl
 have m33:=PySem.W.mg_of X G a33
 have F34:=zaa6 (st:=top 50) l34 c34 k34
 have b34:=F34.binds (ps:=["_law_wide"]) fun _ _ _ _ _ _ us hl=>match us,hl with | [_],_=>rfl
 have m34:=PySem.W.mg_of X G a34
 have F35:=zaa6 (st:=top 51) l35 c35 k35
 have b35:=F35.binds (ps:=["_law_script", "_law_at", "_law_power_here"]) fun _ _ _ _ _ _ us hl=>match us,hl with | [_,_,_],_=>rfl
 have m35:=PySem.W.mg_of X G a35
 have F36:=zaa6 (st:=top 52) l36 c36 k36
 have b36:=F36.binds (ps:=["_law_wide", "_law_other", "_law_low", "_law_broad", "_law_value"]) fun _ _ _ _ _ _ us hl=>match us,hl with | [_,_,_,_,_],_=>rfl
 have m36:=PySem.W.mg_of X G a36
 have F37:=zaa6 (st:=top 53) l37 c37 k37
 have b37:=F37.binds (ps:=["_law_row", "_law_wide", "_law_other", "_law_low", "_law_broad", "_law_value"]) fun _ _ _ _ _ _ us hl=>match us,hl with | [_,_,_,_,_,_],_=>rfl
 have m37:=PySem.W.mg_of X G a37
 have F38:=zaa6 (st:=top 54) l38 c38 k38
 have F39:=zaa6 (st:=inClass (top 12) 0) l39 c39 k39
 have b39:=F39.binds (ps:=["self", "above"]) fun _ _ _ _ _ _ us hl=>match us,hl with | [_,_],_=>rfl
 have F40:=zaa6 (st:=inClass (top 46) 0) l40 c40 k40
 have b40:=F40.binds (ps:=["self", "name", "rows"]) fun _ _ _ _ _ _ us hl=>match us,hl with | [_,_,_],_=>rfl
 have F41:=zaa6 (st:=inClass (top 42) 0) l41 c41 k41
 have b41:=F41.binds (ps:=["self", "name", "modules"]) fun _ _ _ _ _ _ us hl=>match us,hl with | [_,_,_],_=>rfl
 have F42:=zaa6 (st:=inClass (top 42) 1) l42 c42 k42
 have b42:=F42.binds (ps:=["self", "fed"]) fun _ _ _ _ _ _ us hl=>match us,hl with | [_,_],_=>rfl
 have F43:=zaa6 (st:=inClass (top 42) 2) l43 c43 k43
 have b43:=F43.binds (ps:=["self"]) fun _ _ _ _ _ _ us hl=>match us,hl with | [_],_=>rfl
 have F44:=zaa6 (st:=inClass (top 42) 3) l44 c44 k44
 have b44:=F44.binds (ps:=["self", "ahead"]) fun _ _ _ _ _ _ us hl=>match us,hl with | [_,_],_=>rfl
 have F45:=zaa6 (st:=inClass (top 43) 0) l45 c45 k45
 have b45:=F45.binds (ps:=["self", "modules"]) fun _ _ _ _ _ _ us hl=>match us,hl with | [_,_],_=>rfl
 have F46:=zaa6 (st:=inClass (top 43) 1) l46 c46 k46
 have b46:=F46.binds (ps:=["self", "row"]) fun _ _ _ _ _ _ us hl=>match us,hl with | [_,_],_=>rfl
 have F47:=zaa6 (st:=inClass (top 43) 2) l47 c47 k47
 have b47:=F47.binds (ps:=["self"]) fun _ _ _ _ _ _ us hl=>match us,hl with | [_],_=>rfl
 have F48:=zaa6 (st:=inClass (top 3) 0) l48 c48 k48
 have b48:=F48.binds (ps:=["self", "line"]) fun _ _ _ _ _ _ us hl=>match us,hl with | [_,_],_=>rfl
 have z_len:=PySem.W.mg_none_of X G z_len
 have z_range:=PySem.W.mg_none_of X G z_range
 have z_int:=PySem.W.mg_none_of X G z_int
 have z_str:=PySem.W.mg_none_of X G z_str
 have z_isinstance:=PySem.W.mg_none_of X G z_isinstance
 have z_zip:=PySem.W.mg_none_of X G z_zip
 have z_list:=PySem.W.mg_none_of X G z_list
 have z_tuple:=PySem.W.mg_none_of X G z_tuple
 have z_dict:=PySem.W.mg_none_of X G z_dict
 have z_bool:=PySem.W.mg_none_of X G z_bool
 have z_all:=PySem.W.mg_none_of X G z_all
 have z_enumerate:=PySem.W.mg_none_of X G z_enumerate
 have z_max:=PySem.W.mg_none_of X G z_max
 have z_sum:=PySem.W.mg_none_of X G z_sum
 have m_FloorError:=PySem.W.mg_of X G eFloorError
 have m_NoSense:=PySem.W.mg_of X G eNoSense
 have mS:=PySem.W.mg_of X G aS
 have clS:Cls K CS:=⟨pgS,hdS,poS,saS⟩
 have mM:=PySem.W.mg_of X G aM
 have clM:Cls K CM:=⟨pgM,hdM,poM,saM⟩
 have mG:=PySem.W.mg_of X G aG
 have clG:Cls K CG:=⟨pgG,hdG,poG,saG⟩
 have mC:=PySem.W.mg_of X G aC
 have clC:Cls K CC:=⟨pgC,hdC,poC,saC⟩
 have m_WIDEST:∃ t,mg "WIDEST" = some (.int 16 t):=⟨_,PySem.W.mg_of X G ai_WIDEST⟩
 have XR:XB K ENoSense:=xcR
 have XF:XB K EFloorError:=xcF
 have xa:XA K ENoSense:=⟨XR,xga,xgt,xcl,xsg,xtk,xmo,zar7 xmo⟩
 have sub:XSub K ENoSense EFloorError:=zal9 xsb
 refine ⟨PySem.W.fnOf "law" "law" (defArgs (top 54)) (defBody (top 54)) (defScope (top 54)) .none kV38 dc38 pm38 an38 cd38 ct38,fun s v=>.of_eq rfl,fun base _ _=>?_⟩
 have m_TAKERS:=PySem.W.mg_of X G aTT
 have m_VALUES:=PySem.W.mg_of X G aTV
 have D_is_wide_1:DefOk l.prog w K mg base CX0 1 "is_wide" ["wide"] spIsW:=⟨f5,_,zara (k:=0) F5 m_WIDEST,b5,k5,m5⟩
 have D_is_of_width_2:DefOk l.prog w K mg base CX0 2 "is_of_width" ["value", "wide"] spOfW:=⟨f6,_,zarb (k:=1) F6 D_is_wide_1,b6,k6,m6⟩
 have D_wide_of_part_1:DefOk l.prog w K mg base CX0 1 "wide_of_part" ["whole", "low", "wide"] spPart:=⟨f9,_,zapa (k:=0) F9,b9,k9,m9⟩
 have D_wide_of_word_2:DefOk l.prog w K mg base CX0 2 "wide_of_word" ["word", "wides"] spWord:=⟨f10,_,zapb (k:=1) F10 D_is_wide_1 z_sum,b10,k10,m10⟩
 have D_wide_of_out_1:DefOk l.prog w K mg base CX0 1 "wide_of_out" ["sense", "use", "out"] (spOut CS):=⟨f8,_,zarc (k:=0) F8 clS nS_uses nS_outs,b8,k8,m8⟩
 have Dwo:∀ N:Nat,DefOk l.prog w K mg base CX0 (3 + N) "wide_of" ["sense", "expr"] (spWN CS N):=fun N=>by
  induction N with
  | zero=>exact ⟨f7,_,zatm (k:=2) F7,b7,k7,m7⟩
  | succ N ih=>exact ⟨f7,_,zasr (k:=3 + N) F7 clS nS_wides ih (D_wide_of_out_1.mono (by omega)) (D_is_of_width_2.mono (by omega)) (D_wide_of_part_1.mono (by omega)) (D_wide_of_word_2.mono (by omega)),b7,k7,m7⟩
 have Dwo4:=Dwo 4
 have D_is_free_1:DefOk l.prog w K mg base CX0 1 "is_free" ["sense", "name"] (spFree CS):=⟨f11,_,zapg (k:=0) F11 clS nS_wides nS_uses,b11,k11,m11⟩
 have sT_in:(fun f=>(List.lookup f ([(f12,spT "in" CS),(f13,spT "keep" CS),(f14,spT "let" CS),(f15,spT "use" CS),(f16,spT "next" CS),(f17,spT "out" CS)]:List (Addr × Sp))).getD spF1) f12=spT "in" CS:=zadl (i:=0) ndT rfl
 have sT_keep:(fun f=>(List.lookup f ([(f12,spT "in" CS),(f13,spT "keep" CS),(f14,spT "let" CS),(f15,spT "use" CS),(f16,spT "next" CS),(f17,spT "out" CS)]:List (Addr × Sp))).getD spF1) f13=spT "keep" CS:=zadl (i:=1) ndT rfl
 have sT_let:(fun f=>(List.lookup f ([(f12,spT "in" CS),(f13,spT "keep" CS),(f14,spT "let" CS),(f15,spT "use" CS),(f16,spT "next" CS),(f17,spT "out" CS)]:List (Addr × Sp))).getD spF1) f14=spT "let" CS:=zadl (i:=2) ndT rfl
 have sT_use:(fun f=>(List.lookup f ([(f12,spT "in" CS),(f13,spT "keep" CS),(f14,spT "let" CS),(f15,spT "use" CS),(f16,spT "next" CS),(f17,spT "out" CS)]:List (Addr × Sp))).getD spF1) f15=spT "use" CS:=zadl (i:=3) ndT rfl
 have sT_next:(fun f=>(List.lookup f ([(f12,spT "in" CS),(f13,spT "keep" CS),(f14,spT "let" CS),(f15,spT "use" CS),(f16,spT "next" CS),(f17,spT "out" CS)]:List (Addr × Sp))).getD spF1) f16=spT "next" CS:=zadl (i:=4) ndT rfl
 have sT_out:(fun f=>(List.lookup f ([(f12,spT "in" CS),(f13,spT "keep" CS),(f14,spT "let" CS),(f15,spT "use" CS),(f16,spT "next" CS),(f17,spT "out" CS)]:List (Addr × Sp))).getD spF1) f17=spT "out" CS:=zadl (i:=5) ndT rfl
 have tT_in:∃ fd:FuncData,FnOk l.prog w K mg base CX0 8 f12 fd ["sense", "row"] ((fun f=>(List.lookup f ([(f12,spT "in" CS),(f13,spT "keep" CS),(f14,spT "let" CS),(f15,spT "use" CS),(f16,spT "next" CS),(f17,spT "out" CS)]:List (Addr × Sp))).getD spF1) f12)∧Binds K fd ["sense", "row"] []∧PySem.W.keepIn K (.ref f12)=true:=⟨_,by rw [sT_in]; exact zard (k:=7) F12 clS nS_wides nS_ins (D_is_free_1.mono (by omega)) (D_is_wide_1.mono (by omega)),b12,k12⟩
 have tT_keep:∃ fd:FuncData,FnOk l.prog w K mg base CX0 8 f13 fd ["sense", "row"] ((fun f=>(List.lookup f ([(f12,spT "in" CS),(f13,spT "keep" CS),(f14,spT "let" CS),(f15,spT "use" CS),(f16,spT "next" CS),(f17,spT "out" CS)]:List (Addr × Sp))).getD spF1) f13)∧Binds K fd ["sense", "row"] []∧PySem.W.keepIn K (.ref f13)=true:=⟨_,by rw [sT_keep]; exact zare (k:=7) F13 clS nS_wides nS_keepers (D_is_free_1.mono (by omega)) (D_is_of_width_2.mono (by omega)),b13,k13⟩
 have tT_let:∃ fd:FuncData,FnOk l.prog w K mg base CX0 8 f14 fd ["sense", "row"] ((fun f=>(List.lookup f ([(f12,spT "in" CS),(f13,spT "keep" CS),(f14,spT "let" CS),(f15,spT "use" CS),(f16,spT "next" CS),(f17,spT "out" CS)]:List (Addr × Sp))).getD spF1) f14)∧Binds K fd ["sense", "row"] []∧PySem.W.keepIn K (.ref f14)=true:=⟨_,by rw [sT_let]; exact zarf (k:=7) F14 clS nS_wides (D_is_free_1.mono (by omega)) Dwo4,b14,k14⟩
 have tT_use:∃ fd:FuncData,FnOk l.prog w K mg base CX0 8 f15 fd ["sense", "row"] ((fun f=>(List.lookup f ([(f12,spT "in" CS),(f13,spT "keep" CS),(f14,spT "let" CS),(f15,spT "use" CS),(f16,spT "next" CS),(f17,spT "out" CS)]:List (Addr × Sp))).getD spF1) f15)∧Binds K fd ["sense", "row"] []∧PySem.W.keepIn K (.ref f15)=true:=⟨_,by rw [sT_use]; exact zari (k:=7) F15 clS nS_uses nS_above nS_ins (D_is_free_1.mono (by omega)) Dwo4,b15,k15⟩
 have tT_next:∃ fd:FuncData,FnOk l.prog w K mg base CX0 8 f16 fd ["sense", "row"] ((fun f=>(List.lookup f ([(f12,spT "in" CS),(f13,spT "keep" CS),(f14,spT "let" CS),(f15,spT "use" CS),(f16,spT "next" CS),(f17,spT "out" CS)]:List (Addr × Sp))).getD spF1) f16)∧Binds K fd ["sense", "row"] []∧PySem.W.keepIn K (.ref f16)=true:=⟨_,by rw [sT_next]; exact zarh (k:=7) F16 clS nS_wides nS_keepers nS_nexts Dwo4,b16,k16⟩
 have tT_out:∃ fd:FuncData,FnOk l.prog w K mg base CX0 8 f17 fd ["sense", "row"] ((fun f=>(List.lookup f ([(f12,spT "in" CS),(f13,spT "keep" CS),(f14,spT "let" CS),(f15,spT "use" CS),(f16,spT "next" CS),(f17,spT "out" CS)]:List (Addr × Sp))).getD spF1) f17)∧Binds K fd ["sense", "row"] []∧PySem.W.keepIn K (.ref f17)=true:=⟨_,by rw [sT_out]; exact zarg (k:=7) F17 clS nS_outs Dwo4,b17,k17⟩
 have TTT:TabOk l.prog w K mg base CX0 8 ["sense", "row"] (fun f=>(List.lookup f ([(f12,spT "in" CS),(f13,spT "keep" CS),(f14,spT "let" CS),(f15,spT "use" CS),(f16,spT "next" CS),(f17,spT "out" CS)]:List (Addr × Sp))).getD spF1) (fun f=>f=f12∨f=f13∨f=f14∨f=f15∨f=f16∨f=f17):=⟨fun f hf=>by
  rcases hf with h | h | h | h | h | h <;> rw [h]
  ·exact tT_in
  ·exact tT_keep
  ·exact tT_let
  ·exact tT_use
  ·exact tT_next
  ·exact tT_out⟩
 have hT:∀ r:Rw9,∃ f,valV tkv (.inr (rwW r))=some (.ref f)∧(f=f12∨f=f13∨f=f14∨f=f15∨f=f16∨f=f17)∧(fun f=>(List.lookup f ([(f12,spT "in" CS),(f13,spT "keep" CS),(f14,spT "let" CS),(f15,spT "use" CS),(f16,spT "next" CS),(f17,spT "out" CS)]:List (Addr × Sp))).getD spF1) f=spT (rwW r) CS:=fun r=>by
  cases r with
  | inn a b=>exact ⟨f12,hT_in,.inl rfl,sT_in⟩
  | keep a b c=>exact ⟨f13,hT_keep,.inr (.inl rfl),sT_keep⟩
  | lt a b=>exact ⟨f14,hT_let,.inr (.inr (.inl rfl)),sT_let⟩
  | use a b=>exact ⟨f15,hT_use,.inr (.inr (.inr (.inl rfl))),sT_use⟩
  | nxt a b=>exact ⟨f16,hT_next,.inr (.inr (.inr (.inr (.inl rfl)))),sT_next⟩
  | out a b=>exact ⟨f17,hT_out,.inr (.inr (.inr (.inr (.inr (rfl))))),sT_out⟩
 have xi:XI K ENoSense f48:=⟨XR,xkc,a48,beq_iff_eq.mp i48,xhd,xmo,xsa⟩
 have ci:ClsIni K EFloorError:=⟨fhg,frd,ffd⟩
 have RT:RaiseOk l.prog w K mg base 1 "NoSense" ENoSense "line" := ⟨⟨f48,_,["self", "line"],zass (k:=0) F48 xi xna m_FloorError ci,b48,xi,m_NoSense⟩⟩
 have subT:XSub K ENoSense ENoSense:=zal9 xsT
 have MkS:MakeOk l.prog w K mg base CX0 1 CS "Sense" ["self", "above"] (spSn CS):=⟨⟨f39,_,zast (k:=0) F39 clS nS_above nS_ins nS_wides nS_uses nS_keepers nS_nexts nS_outs,b39,⟨mkS,a39,i39,kcS⟩,mS⟩⟩
 have DX_sense_of_module_9:DefOk l.prog w K mg base (CXE l.prog w) 9 "sense_of_module" ["module", "above", "line"] (spSM CS CM ENoSense):=⟨f18,_,zasw (k:=7) F18 clM nM_name nM_rows clS nS_outs nS_nexts nS_keepers (MkS.mono (by omega)) (RT.mono (by omega)) TTT m_TAKERS hKDT hT z_enumerate z_len,b18,k18,m18⟩
 have DX_top_sense_10:DefOk l.prog w K mg base (CXE l.prog w) 10 "top_sense" ["modules"] (spTS CS CM):=⟨f19,_,zark (k:=8) F19 clM nM_name nM_rows DX_sense_of_module_9 (RT.mono (by omega)) z_len,b19,k19,m19⟩
 have D_top_sense_10:DefOk l.prog w K mg base CX0 10 "top_sense" ["modules"] (spTS CS CM):=⟨f19,_,(zark (k:=8) F19 clM nM_name nM_rows DX_sense_of_module_9 (RT.mono (by omega)) z_len).calm (fun _ _ _ _ h=>h),b19,k19,m19⟩
 have D_faces_11:DefOk l.prog w K mg base CX0 11 "faces" ["modules"] (spFac CM):=⟨f20,_,zarl (CT:=ENoSense) (k:=10) F20 clS nS_ins nS_outs D_top_sense_10 z_list,b20,k20,m20⟩
 have sV_not:(fun f=>(List.lookup f ([(f21,spV 1 nF),(f22,spV 2 aF),(f23,spV 2 oF),(f24,spV 2 xF),(f25,spV 2 pF),(f26,spV 2 lF),(f27,spV 2 sF),(f28,spV 3 kF),(f29,spV 2 jF)]:List (Addr × Sp))).getD spF1) f21=spV 1 nF:=zadl (i:=0) ndV rfl
 have sV_and:(fun f=>(List.lookup f ([(f21,spV 1 nF),(f22,spV 2 aF),(f23,spV 2 oF),(f24,spV 2 xF),(f25,spV 2 pF),(f26,spV 2 lF),(f27,spV 2 sF),(f28,spV 3 kF),(f29,spV 2 jF)]:List (Addr × Sp))).getD spF1) f22=spV 2 aF:=zadl (i:=1) ndV rfl
 have sV_or:(fun f=>(List.lookup f ([(f21,spV 1 nF),(f22,spV 2 aF),(f23,spV 2 oF),(f24,spV 2 xF),(f25,spV 2 pF),(f26,spV 2 lF),(f27,spV 2 sF),(f28,spV 3 kF),(f29,spV 2 jF)]:List (Addr × Sp))).getD spF1) f23=spV 2 oF:=zadl (i:=2) ndV rfl
 have sV_xor:(fun f=>(List.lookup f ([(f21,spV 1 nF),(f22,spV 2 aF),(f23,spV 2 oF),(f24,spV 2 xF),(f25,spV 2 pF),(f26,spV 2 lF),(f27,spV 2 sF),(f28,spV 3 kF),(f29,spV 2 jF)]:List (Addr × Sp))).getD spF1) f24=spV 2 xF:=zadl (i:=3) ndV rfl
 have sV_plus:(fun f=>(List.lookup f ([(f21,spV 1 nF),(f22,spV 2 aF),(f23,spV 2 oF),(f24,spV 2 xF),(f25,spV 2 pF),(f26,spV 2 lF),(f27,spV 2 sF),(f28,spV 3 kF),(f29,spV 2 jF)]:List (Addr × Sp))).getD spF1) f25=spV 2 pF:=zadl (i:=4) ndV rfl
 have sV_less:(fun f=>(List.lookup f ([(f21,spV 1 nF),(f22,spV 2 aF),(f23,spV 2 oF),(f24,spV 2 xF),(f25,spV 2 pF),(f26,spV 2 lF),(f27,spV 2 sF),(f28,spV 3 kF),(f29,spV 2 jF)]:List (Addr × Sp))).getD spF1) f26=spV 2 lF:=zadl (i:=5) ndV rfl
 have sV_same:(fun f=>(List.lookup f ([(f21,spV 1 nF),(f22,spV 2 aF),(f23,spV 2 oF),(f24,spV 2 xF),(f25,spV 2 pF),(f26,spV 2 lF),(f27,spV 2 sF),(f28,spV 3 kF),(f29,spV 2 jF)]:List (Addr × Sp))).getD spF1) f27=spV 2 sF:=zadl (i:=6) ndV rfl
 have sV_pick:(fun f=>(List.lookup f ([(f21,spV 1 nF),(f22,spV 2 aF),(f23,spV 2 oF),(f24,spV 2 xF),(f25,spV 2 pF),(f26,spV 2 lF),(f27,spV 2 sF),(f28,spV 3 kF),(f29,spV 2 jF)]:List (Addr × Sp))).getD spF1) f28=spV 3 kF:=zadl (i:=7) ndV rfl
 have sV_join:(fun f=>(List.lookup f ([(f21,spV 1 nF),(f22,spV 2 aF),(f23,spV 2 oF),(f24,spV 2 xF),(f25,spV 2 pF),(f26,spV 2 lF),(f27,spV 2 sF),(f28,spV 3 kF),(f29,spV 2 jF)]:List (Addr × Sp))).getD spF1) f29=spV 2 jF:=zadl (i:=8) ndV rfl
 have tV_not:∀ N:Nat,∃ fd:FuncData,FnOk l.prog w K mg base CX0 (N + 2) f21 fd ["sides"] ((fun f=>(List.lookup f ([(f21,spV 1 nF),(f22,spV 2 aF),(f23,spV 2 oF),(f24,spV 2 xF),(f25,spV 2 pF),(f26,spV 2 lF),(f27,spV 2 sF),(f28,spV 3 kF),(f29,spV 2 jF)]:List (Addr × Sp))).getD spF1) f21)∧Binds K fd ["sides"] []∧PySem.W.keepIn K (.ref f21)=true:=fun N=>⟨_,by rw [sV_not]; exact zasx (k:=N + 1) F21,b21,k21⟩
 have tV_and:∀ N:Nat,∃ fd:FuncData,FnOk l.prog w K mg base CX0 (N + 2) f22 fd ["sides"] ((fun f=>(List.lookup f ([(f21,spV 1 nF),(f22,spV 2 aF),(f23,spV 2 oF),(f24,spV 2 xF),(f25,spV 2 pF),(f26,spV 2 lF),(f27,spV 2 sF),(f28,spV 3 kF),(f29,spV 2 jF)]:List (Addr × Sp))).getD spF1) f22)∧Binds K fd ["sides"] []∧PySem.W.keepIn K (.ref f22)=true:=fun N=>⟨_,by rw [sV_and]; exact zasy (k:=N + 1) F22,b22,k22⟩
 have tV_or:∀ N:Nat,∃ fd:FuncData,FnOk l.prog w K mg base CX0 (N + 2) f23 fd ["sides"] ((fun f=>(List.lookup f ([(f21,spV 1 nF),(f22,spV 2 aF),(f23,spV 2 oF),(f24,spV 2 xF),(f25,spV 2 pF),(f26,spV 2 lF),(f27,spV 2 sF),(f28,spV 3 kF),(f29,spV 2 jF)]:List (Addr × Sp))).getD spF1) f23)∧Binds K fd ["sides"] []∧PySem.W.keepIn K (.ref f23)=true:=fun N=>⟨_,by rw [sV_or]; exact zasz (k:=N + 1) F23,b23,k23⟩
 have tV_xor:∀ N:Nat,∃ fd:FuncData,FnOk l.prog w K mg base CX0 (N + 2) f24 fd ["sides"] ((fun f=>(List.lookup f ([(f21,spV 1 nF),(f22,spV 2 aF),(f23,spV 2 oF),(f24,spV 2 xF),(f25,spV 2 pF),(f26,spV 2 lF),(f27,spV 2 sF),(f28,spV 3 kF),(f29,spV 2 jF)]:List (Addr × Sp))).getD spF1) f24)∧Binds K fd ["sides"] []∧PySem.W.keepIn K (.ref f24)=true:=fun N=>⟨_,by rw [sV_xor]; exact zas0 (k:=N + 1) F24,b24,k24⟩
 have tV_plus:∀ N:Nat,∃ fd:FuncData,FnOk l.prog w K mg base CX0 (N + 2) f25 fd ["sides"] ((fun f=>(List.lookup f ([(f21,spV 1 nF),(f22,spV 2 aF),(f23,spV 2 oF),(f24,spV 2 xF),(f25,spV 2 pF),(f26,spV 2 lF),(f27,spV 2 sF),(f28,spV 3 kF),(f29,spV 2 jF)]:List (Addr × Sp))).getD spF1) f25)∧Binds K fd ["sides"] []∧PySem.W.keepIn K (.ref f25)=true:=fun N=>⟨_,by rw [sV_plus]; exact zas1 (k:=N + 1) F25,b25,k25⟩
 have tV_less:∀ N:Nat,∃ fd:FuncData,FnOk l.prog w K mg base CX0 (N + 2) f26 fd ["sides"] ((fun f=>(List.lookup f ([(f21,spV 1 nF),(f22,spV 2 aF),(f23,spV 2 oF),(f24,spV 2 xF),(f25,spV 2 pF),(f26,spV 2 lF),(f27,spV 2 sF),(f28,spV 3 kF),(f29,spV 2 jF)]:List (Addr × Sp))).getD spF1) f26)∧Binds K fd ["sides"] []∧PySem.W.keepIn K (.ref f26)=true:=fun N=>⟨_,by rw [sV_less]; exact zas2 (k:=N + 1) F26,b26,k26⟩
 have tV_same:∀ N:Nat,∃ fd:FuncData,FnOk l.prog w K mg base CX0 (N + 2) f27 fd ["sides"] ((fun f=>(List.lookup f ([(f21,spV 1 nF),(f22,spV 2 aF),(f23,spV 2 oF),(f24,spV 2 xF),(f25,spV 2 pF),(f26,spV 2 lF),(f27,spV 2 sF),(f28,spV 3 kF),(f29,spV 2 jF)]:List (Addr × Sp))).getD spF1) f27)∧Binds K fd ["sides"] []∧PySem.W.keepIn K (.ref f27)=true:=fun N=>⟨_,by rw [sV_same]; exact zas3 (k:=N + 1) F27,b27,k27⟩
 have tV_pick:∀ N:Nat,∃ fd:FuncData,FnOk l.prog w K mg base CX0 (N + 2) f28 fd ["sides"] ((fun f=>(List.lookup f ([(f21,spV 1 nF),(f22,spV 2 aF),(f23,spV 2 oF),(f24,spV 2 xF),(f25,spV 2 pF),(f26,spV 2 lF),(f27,spV 2 sF),(f28,spV 3 kF),(f29,spV 2 jF)]:List (Addr × Sp))).getD spF1) f28)∧Binds K fd ["sides"] []∧PySem.W.keepIn K (.ref f28)=true:=fun N=>⟨_,by rw [sV_pick]; exact zas4 (k:=N + 1) F28,b28,k28⟩
 have tV_join:∀ N:Nat,∃ fd:FuncData,FnOk l.prog w K mg base CX0 (N + 2) f29 fd ["sides"] ((fun f=>(List.lookup f ([(f21,spV 1 nF),(f22,spV 2 aF),(f23,spV 2 oF),(f24,spV 2 xF),(f25,spV 2 pF),(f26,spV 2 lF),(f27,spV 2 sF),(f28,spV 3 kF),(f29,spV 2 jF)]:List (Addr × Sp))).getD spF1) f29)∧Binds K fd ["sides"] []∧PySem.W.keepIn K (.ref f29)=true:=fun N=>⟨_,by rw [sV_join]; exact zas5 (k:=N + 1) F29,b29,k29⟩
 have TTV:∀ N:Nat,TabOk l.prog w K mg base CX0 (N + 2) ["sides"] (fun f=>(List.lookup f ([(f21,spV 1 nF),(f22,spV 2 aF),(f23,spV 2 oF),(f24,spV 2 xF),(f25,spV 2 pF),(f26,spV 2 lF),(f27,spV 2 sF),(f28,spV 3 kF),(f29,spV 2 jF)]:List (Addr × Sp))).getD spF1) (fun f=>f=f21∨f=f22∨f=f23∨f=f24∨f=f25∨f=f26∨f=f27∨f=f28∨f=f29):=fun N=>⟨fun f hf=>by
  rcases hf with h | h | h | h | h | h | h | h | h <;> rw [h]
  ·exact tV_not N
  ·exact tV_and N
  ·exact tV_or N
  ·exact tV_xor N
  ·exact tV_plus N
  ·exact tV_less N
  ·exact tV_same N
  ·exact tV_pick N
  ·exact tV_join N⟩
 have hV:∀ t∈VT,∃ f,valV vkv (.inr t.1)=some (.ref f)∧(f=f21∨f=f22∨f=f23∨f=f24∨f=f25∨f=f26∨f=f27∨f=f28∨f=f29)∧(fun f=>(List.lookup f ([(f21,spV 1 nF),(f22,spV 2 aF),(f23,spV 2 oF),(f24,spV 2 xF),(f25,spV 2 pF),(f26,spV 2 lF),(f27,spV 2 sF),(f28,spV 3 kF),(f29,spV 2 jF)]:List (Addr × Sp))).getD spF1) f=spV t.2.1 t.2.2:=fun t ht=>by
  simp only [VT,List.mem_cons,List.not_mem_nil,or_false] at ht
  rcases ht with rfl | rfl | rfl | rfl | rfl | rfl | rfl | rfl | rfl
  ·exact ⟨f21,hV_not,.inl rfl,sV_not⟩
  ·exact ⟨f22,hV_and,.inr (.inl rfl),sV_and⟩
  ·exact ⟨f23,hV_or,.inr (.inr (.inl rfl)),sV_or⟩
  ·exact ⟨f24,hV_xor,.inr (.inr (.inr (.inl rfl))),sV_xor⟩
  ·exact ⟨f25,hV_plus,.inr (.inr (.inr (.inr (.inl rfl)))),sV_plus⟩
  ·exact ⟨f26,hV_less,.inr (.inr (.inr (.inr (.inr (.inl rfl))))),sV_less⟩
  ·exact ⟨f27,hV_same,.inr (.inr (.inr (.inr (.inr (.inr (.inl rfl)))))),sV_same⟩
  ·exact ⟨f28,hV_pick,.inr (.inr (.inr (.inr (.inr (.inr (.inr (.inl rfl))))))),sV_pick⟩
  ·exact ⟨f29,hV_join,.inr (.inr (.inr (.inr (.inr (.inr (.inr (.inr (rfl)))))))),sV_join⟩
 have Dve:∀ N:Nat,DefOk l.prog w K mg base CX0 (N + 2) "value_of" ["expr", "named", "used"] (spVE N):=fun N=>by
  induction N with
  | zero=>exact ⟨f30,_,zatn (k:=1) F30,b30,k30,m30⟩
  | succ N ih=>exact ⟨f30,_,zas8 (k:=N + 2) F30 ih (TTV N) m_VALUES hKDV hV,b30,k30,m30⟩
 have Dve4:=Dve 4
 have D_is_whole_1:DefOk l.prog w K mg base CX0 1 "is_whole" ["thing"] spWhole:=⟨f0,_,zand (k:=0) F0 z_isinstance z_int z_bool,b0,k0,m0⟩
 have D_is_below_2:DefOk l.prog w K mg base CX0 2 "is_below" ["thing", "bound"] spBelow:=⟨f1,_,zane (k:=1) F1 D_is_whole_1,b1,k1,m1⟩
 have D_is_listed_1:DefOk l.prog w K mg base CX0 1 "is_listed" ["thing"] spListed:=⟨f2,_,zalt (k:=0) F2 z_isinstance z_list z_tuple,b2,k2,m2⟩
 have D_ask_length_2:DefOk l.prog w K mg base CX0 2 "ask_length" ["row", "length"] spLength:=⟨f3,_,zalu (k:=1) F3 D_is_listed_1 z_len,b3,k3,m3⟩
 have D_ask_values_3:DefOk l.prog w K mg base CX0 3 "ask_values" ["row", "wides"] spValues:=⟨f4,_,zalv (k:=2) F4 D_ask_length_2 D_is_below_2 z_len z_zip,b4,k4,m4⟩
 have MkGF:MakeOk l.prog w K mg base CX0 1 CG "Stage" ["self", "name", "modules"] spF3:=⟨⟨f41,_,zarz (k:=0) F41,b41,⟨mkG,a41,i41,kcG⟩,mG⟩⟩
 have MkG:MakeOk l.prog w K mg base CX0 3 CG "Stage" ["self", "name", "modules"] (spSt CM CG):=⟨⟨f41,_,zas9 (k:=1) F41 clG clM nM_name nM_rows nG_rows nG_kept nG_inner nG_coming MkGF,b41,⟨mkG,a41,i41,kcG⟩,mG⟩⟩
 have MtF:MethOk l.prog w K mg base CX0 1 CG "tell" ["self", "fed"] spF2:=⟨clG,f42,_,zar0 (k:=0) F42,b42,⟨a42,i42,k42⟩⟩
 have MmF:MethOk l.prog w K mg base CX0 1 CG "move" ["self"] spF1:=⟨clG,f43,_,zar1 (k:=0) F43,b43,⟨a43,i43,k43⟩⟩
 have MpF:MethOk l.prog w K mg base CX0 1 CG "paths" ["self", "ahead"] spF2:=⟨clG,f44,_,zar2 (k:=0) F44,b44,⟨a44,i44,k44⟩⟩
 have Mt:MethOk l.prog w K mg base CX0 7 CG "tell" ["self", "fed"] (spTl CG):=⟨clG,f42,_,zata (k:=6) F42 clG nG_rows nG_kept nG_inner nG_coming (MtF.mono (by omega)) Dve4 z_dict z_list,b42,⟨a42,i42,k42⟩⟩
 have Mm:MethOk l.prog w K mg base CX0 2 CG "move" ["self"] (spMv CG):=⟨clG,f43,_,zatb (k:=1) F43 clG nG_kept nG_inner nG_coming MmF,b43,⟨a43,i43,k43⟩⟩
 have Mp:MethOk l.prog w K mg base CX0 2 CG "paths" ["self", "ahead"] (spPa CG):=⟨clG,f44,_,zatc (k:=1) F44 clG nG_kept nG_inner MpF,b44,⟨a44,i44,k44⟩⟩
 have MkC:MakeOk l.prog w K mg base CX0 12 CC "Scene" ["self", "modules"] (spSc CM CC CG):=⟨⟨f45,_,zatd (k:=10) F45 clC clM nM_name nM_rows nC_wides nC_stage (MkG.mono (by omega)) D_faces_11,b45,⟨mkC,a45,i45,kcC⟩,mC⟩⟩
 have Mb:MethOk l.prog w K mg base CX0 8 CC "beat" ["self", "row"] (spBe CC CG):=⟨clC,f46,_,zate (k:=7) F46 clC nC_wides nC_stage (D_ask_values_3.mono (by omega)) Mt (Mm.mono (by omega)),b46,⟨a46,i46,k46⟩⟩
 have Mh:MethOk l.prog w K mg base CX0 3 CC "held" ["self"] (spHe CC CG):=⟨clC,f47,_,zatf (k:=2) F47 clC nC_stage Mp,b47,⟨a47,i47,k47⟩⟩
 have Dfz:∀ N:Nat,DefOk l.prog w K mg base CX0 (1 + N) "frozen" ["thing"] (spFz N):=fun N=>by
  induction N with
  | zero=>exact ⟨f31,_,zarj (k:=0) F31,b31,k31,m31⟩
  | succ N ih=>exact ⟨f31,_,zasu (k:=1 + N) N F31 ih z_isinstance z_list z_tuple,b31,k31,m31⟩
 have MkM:MakeOk l.prog w K mg base CX0 10 CM "Module" ["self", "name", "rows"] (spMo CM 8):=⟨⟨f40,_,zasv (k:=9) F40 clM nM_name nM_rows (Dfz 8),b40,⟨mkM,a40,i40,kcM⟩,mM⟩⟩
 have D__law_next_1:DefOk l.prog w K mg base CX0 1 "_law_next" ["_law_script", "_law_at"] (spNext K):=⟨f32,_,zapn (k:=0) F32 z_len z_range,b32,k32,m32⟩
 have D0__law_same_1:DefOk l.prog w K mg base CX0 1 "_law_same" ["_law_found", "_law_due_here"] spF2:=⟨f33,_,zang (k:=0) F33,b33,k33,m33⟩
 have DI__law_same_2:DefOk l.prog w K mg base CX0 2 "_law_same" ["_law_found", "_law_due_here"] spSI:=⟨f33,_,zanh (k:=1) F33 D0__law_same_1 z_isinstance z_dict z_list z_tuple z_str z_int z_bool z_len z_all z_zip,b33,k33,m33⟩
 have D__law_same_3:DefOk l.prog w K mg base CX0 3 "_law_same" ["_law_found", "_law_due_here"] spSL:=⟨f33,_,zani (k:=2) F33 DI__law_same_2 z_isinstance z_dict z_list z_tuple z_str z_int z_bool z_len z_all z_zip,b33,k33,m33⟩
 have D__law_power_1:DefOk l.prog w K mg base CX0 1 "_law_power" ["_law_wide"] spPow:=⟨f34,_,zarp (k:=0) F34 z_range,b34,k34,m34⟩
 have D__law_any_value_2:DefOk l.prog w K mg base CX0 2 "_law_any_value" ["_law_script", "_law_at", "_law_power_here"] (spAny K):=⟨f35,_,zarq (k:=1) F35 D__law_next_1,b35,k35,m35⟩
 have D__law_module_by_12:DefOk l.prog w K mg base CX0 12 "_law_module_by" ["_law_wide", "_law_other", "_law_low", "_law_broad", "_law_value"] (spMB CM):=⟨f36,_,zati (k:=10) F36 MkM z_int z_enumerate,b36,k36,m36⟩
 have D__law_due_2:DefOk l.prog w K mg base CX0 2 "_law_due" ["_law_row", "_law_wide", "_law_other", "_law_low", "_law_broad", "_law_value"] spDue:=⟨f37,_,zart (k:=1) F37 D__law_power_1 z_int,b37,k37,m37⟩
 exact zar6 (k:=12) F38 clC (D__law_next_1.mono (by omega)) (D__law_power_1.mono (by omega)) (D__law_any_value_2.mono (by omega)) (D__law_module_by_12.mono (by omega)) (D__law_due_2.mono (by omega)) (D__law_same_3.mono (by omega)) MkC (Mb.mono (by omega)) (Mh.mono (by omega)) z_range z_max z_int
end

end B17
namespace B17
open PySem L2
theorem zato {K:PySem.W.Frag}{C CF N:Addr}{dd ddN:Option Addr}{cd:ClassData}{sl slN:Array (Option Value)}{k0 k1 k2 k3 k5:Option Value}{cN:Value}{es:Array DictEntry}{ep:Nat} (xF:L2.XC K CF) (l:K.lookup C=some ⟨.type "type",dd,.cls cd,sl⟩) (hm:cd.mro=.ref C :: .ref CF :: bmV)
  (hs:sl.toList=[k0,k1,k2,k3,some (.builtin "ValueError.__new__"),k5]) (hd:cd.hasDel=false) (hN:cd.ns=N) (lN:K.lookup N=some ⟨cN,ddN,.dict es ep,slN⟩) (he:(es.toList.all fun e=>match e.key with | .str _ _=>true | _=>false)=true):XB K C:=by
 have t0:PySem.W.tailIn K bmV bmV=true:=rfl
 have t1:PySem.W.tailIn K bmV (.ref CF :: bmV)=true:=by
  have xF:PySem.W.excIn K CF bmV "ValueError.__new__" = true:=xF
  unfold PySem.W.excIn at xF
  unfold PySem.W.tailIn
  split at xF
  case h_2=>cases xF
  case h_1 ddF cF slF ho =>
   split at xF
   case h_2=>cases xF
   case h_1 C' bm k0 k1 k2 k3 n k5 hm hs =>
    simp only [Bool.and_eq_true] at xF
    dsimp only
    rw [ho]
    simp only [xF.1.2,xF.2,t0,Bool.and_self,Bool.or_true]
 have t2:PySem.W.nsOkIn K cd.ns=true:=by
  unfold PySem.W.nsOkIn
  rw [hN,lN]
  rw [Array.all_toList] at he
  exact he
 unfold XB
 rw [l]
 show (match cd.mro,sl.toList with
  | .ref C' :: bm,[_,_,_,_,some (.builtin n),_]=>C' == C && n == "ValueError.__new__" && !cd.hasDel && PySem.W.tailIn K bmV bm && PySem.W.nsOkIn K cd.ns
  | _,_=>false)=true
 rw [hm,hs]
 show (C == C && "ValueError.__new__" == "ValueError.__new__" && !cd.hasDel && PySem.W.tailIn K bmV (.ref CF :: bmV) && PySem.W.nsOkIn K cd.ns)=true
 rw [t1,t2,hd]
 simp
def XStk:List (Str × Tok × Value):=[("in",432,.ref 168),("keep",433,.ref 175),("let",434,.ref 182),("use",435,.ref 187),("next",436,.ref 194),("out",437,.ref 201)]
def VStk:List V:=[.ref 168,.ref 175,.ref 182,.ref 187,.ref 194,.ref 201]
def KVStk:List (Key × V):=(XStk.map fun x=>(Sum.inr x.1:Key)).zip VStk
theorem tkd {P:Program}{w:World}{K:PySem.W.Frag}{ff:Addr}{od:Option Addr}{ep:Nat}{sl:Array (Option Value)}{es:Array DictEntry} (l:K.lookup ff=some ⟨.type "dict",od,.dict es ep,sl⟩) (he:es.toList=XStk.map (ent w))
  (hx:(⟨.type "dict",od,.dict es ep,sl⟩:Obj).ExactDict) (ns:(ff == sysModules)=false):KD P w K ff KVStk:=zaq2 XStk VStk l he hx ns (by decide +kernel) (.cons rfl (.cons rfl (.cons rfl (.cons rfl (.cons rfl (.cons rfl (.nil)))))))
theorem zatp:valV KVStk (Sum.inr "in")=some (.ref 168):=by decide +kernel
theorem zapq:valV KVStk (Sum.inr "keep")=some (.ref 175):=by decide +kernel
theorem zar9:valV KVStk (Sum.inr "let")=some (.ref 182):=by decide +kernel
theorem zasa:valV KVStk (Sum.inr "use")=some (.ref 187):=by decide +kernel
theorem zapr:valV KVStk (Sum.inr "next")=some (.ref 194):=by decide +kernel
theorem zasb:valV KVStk (Sum.inr "out")=some (.ref 201):=by decide +kernel
theorem zatq:([168,175,182,187,194,201]:List Addr).Nodup:=by decide +kernel
def XSvk:List (Str × Tok × Value):=[("not",541,.ref 230),("and",542,.ref 237),("or",543,.ref 244),("xor",544,.ref 251),("plus",545,.ref 258),("less",546,.ref 265),("same",547,.ref 272),("pick",548,.ref 279),("join",549,.ref 286)]
def VSvk:List V:=[.ref 230,.ref 237,.ref 244,.ref 251,.ref 258,.ref 265,.ref 272,.ref 279,.ref 286]
def KVSvk:List (Key × V):=(XSvk.map fun x=>(Sum.inr x.1:Key)).zip VSvk
theorem vkd {P:Program}{w:World}{K:PySem.W.Frag}{ff:Addr}{od:Option Addr}{ep:Nat}{sl:Array (Option Value)}{es:Array DictEntry} (l:K.lookup ff=some ⟨.type "dict",od,.dict es ep,sl⟩) (he:es.toList=XSvk.map (ent w))
  (hx:(⟨.type "dict",od,.dict es ep,sl⟩:Obj).ExactDict) (ns:(ff == sysModules)=false):KD P w K ff KVSvk:=zaq2 XSvk VSvk l he hx ns (by decide +kernel) (.cons rfl (.cons rfl (.cons rfl (.cons rfl (.cons rfl (.cons rfl (.cons rfl (.cons rfl (.cons rfl (.nil))))))))))
theorem zasc:valV KVSvk (Sum.inr "not")=some (.ref 230):=by decide +kernel
theorem zasd:valV KVSvk (Sum.inr "and")=some (.ref 237):=by decide +kernel
theorem zatr:valV KVSvk (Sum.inr "or")=some (.ref 244):=by decide +kernel
theorem zase:valV KVSvk (Sum.inr "xor")=some (.ref 251):=by decide +kernel
theorem zaps:valV KVSvk (Sum.inr "plus")=some (.ref 258):=by decide +kernel
theorem zapt:valV KVSvk (Sum.inr "less")=some (.ref 265):=by decide +kernel
theorem zapu:valV KVSvk (Sum.inr "same")=some (.ref 272):=by decide +kernel
theorem zapv:valV KVSvk (Sum.inr "pick")=some (.ref 279):=by decide +kernel
theorem zapw:valV KVSvk (Sum.inr "join")=some (.ref 286):=by decide +kernel
theorem zats:([230,237,244,251,258,265,272,279,286]:List Addr).Nodup:=by decide +kernel
end B17
open PySem PySem.W PyProof.Rows
theorem PySem.W.Fast.tw6053403623371088655:True:=trivial
theorem PySem.W.Fast.tw4013646163836764680:True:=trivial
theorem PySem.W.Fast.tw6802480386668522087:True:=trivial
theorem PySem.W.Fast.tw12524329679046170971:True:=trivial
theorem PySem.W.Fast.tw6929349132789997389:True:=trivial
theorem PySem.W.Fast.tw4953840533263887877:True:=trivial
theorem PySem.W.Fast.tw3484282654006348865:True:=trivial
theorem PySem.W.Fast.tw13644709959941511337:True:=trivial
theorem PySem.W.Fast.tw10012273247563404852:True:=trivial
theorem PySem.W.Fast.tw11341127415338207220:True:=trivial
theorem PySem.W.Fast.tw13023011295199580201:True:=trivial
theorem PySem.W.Fast.tw13977706816808386324:True:=trivial
theorem PySem.W.Fast.tw14274938251162413495:True:=trivial
theorem PySem.W.Fast.tw10232631824589425709:True:=trivial
theorem PySem.W.Fast.tw8007271262078331947:True:=trivial
theorem PySem.W.Fast.tw7636436229186067360:True:=trivial
theorem PySem.W.Fast.tw6871106015792952915:True:=trivial
theorem PySem.W.Fast.tw18394356791436256186:True:=trivial
theorem PySem.W.Fast.tw3430558974348184553:True:=trivial
theorem PySem.W.Fast.tw17336089446870383629:True:=trivial
theorem PySem.W.Fast.tw1920269992348380885:True:=trivial
theorem PySem.W.Fast.tw18128670111832763766:True:=trivial
theorem PySem.W.Fast.tw10217135495137792633:True:=trivial
theorem PySem.W.Fast.tw11547017784665297713:True:=trivial
theorem PySem.W.Fast.tw7841487761823017870:True:=trivial
theorem PySem.W.Fast.tw12853069512140285689:True:=trivial
theorem PySem.W.Fast.tw17117366297407346648:True:=trivial
theorem PySem.W.Fast.tw11081970667493432292:True:=trivial
theorem PySem.W.Fast.tw1979808423766315874:True:=trivial
theorem PySem.W.Fast.tw4883017839843736365:True:=trivial
theorem PySem.W.Fast.tw13837088208102147260:True:=trivial
theorem PySem.W.Fast.tw7690235801102013134:True:=trivial
theorem PySem.W.Fast.tw17821590146920422932:True:=trivial
theorem PySem.W.Fast.tw10373161972271152938:True:=trivial
theorem PySem.W.Fast.tw13970318196298416604:True:=trivial
theorem PySem.W.Fast.tw18271457354634338404:True:=trivial
theorem PySem.W.Fast.tw16230408163393580149:True:=trivial
theorem PySem.W.Fast.tw5849368029283461526:True:=trivial
theorem PySem.W.Fast.tw11848872526657468595:True:=trivial
theorem PySem.W.Fast.tw12235111348159192120:True:=trivial
theorem PySem.W.Fast.tw17223625421353757994:True:=trivial
theorem PySem.W.Fast.tw2906580172304311563:True:=trivial
theorem PySem.W.Fast.tw17057571114489794923:True:=trivial
theorem PySem.W.Fast.tw1555057811262640209:True:=trivial
theorem PySem.W.Fast.tw5046834536515862543:True:=trivial
theorem PySem.W.Fast.tw18041703238560679206:True:=trivial
theorem PySem.W.Fast.tw7789186183026344902:True:=trivial
theorem PySem.W.Fast.tw16744187292803200855:True:=trivial
theorem PySem.W.Fast.tw14813118392925112182:True:=trivial
theorem PySem.W.Fast.tw3722286074626993830:True:=trivial
theorem PySem.W.Fast.tw16961319297751903364:True:=trivial
theorem PySem.W.Fast.tw15521431924962043011:True:=trivial
theorem PySem.W.Fast.tw5634008770554479304:True:=trivial
theorem PySem.W.Fast.tw11680833961761901583:True:=trivial
theorem PySem.W.Fast.tw12940299172789141164:True:=trivial
theorem PySem.W.Fast.tw2236372687590846171:True:=trivial
theorem PySem.W.Fast.tw13730581529774988873:True:=trivial
theorem PySem.W.Fast.tw948780365704835729:True:=trivial
theorem PySem.W.Fast.tw365756925204815006:True:=trivial
theorem PySem.W.Fast.tw1622882611486858447:True:=trivial
theorem PySem.W.Fast.tw7377391421992072643:True:=trivial
theorem PySem.W.Fast.tw4322142627641301574:True:=trivial
theorem PySem.W.Fast.tw1704530079863789355:True:=trivial
theorem PySem.W.Fast.tw16887202578843839298:True:=trivial
theorem PySem.W.Fast.tw4140721521561871824:True:=trivial
theorem PySem.W.Fast.tw15543132951748821944:True:=trivial
theorem PySem.W.Fast.tw12532812697150725947:True:=trivial
theorem PySem.W.Fast.tw707217558327453361:True:=trivial
theorem PySem.W.Fast.tw14531922934214021690:True:=trivial
theorem PySem.W.Fast.tw11941551932557480248:True:=trivial
theorem PySem.W.Fast.tw2874813667451526754:True:=trivial
theorem PySem.W.Fast.tw8145585749007298861:True:=trivial
theorem PySem.W.Fast.tw9417965312496862029:True:=trivial
theorem PySem.W.Fast.tw5830125394297382937:True:=trivial
theorem PySem.W.Fast.tw6664129620141485359:True:=trivial
theorem PySem.W.Fast.tw98451625163416861:True:=trivial
theorem PySem.W.Fast.tw17819907205874082715:True:=trivial
theorem PySem.W.Fast.tw9934137623232779845:True:=trivial
theorem PySem.W.Fast.tw4661932881751652218:True:=trivial
theorem PySem.W.Fast.tw13608095805189102064:True:=trivial
theorem PySem.W.Fast.tw4855103582774456747:True:=trivial
theorem PySem.W.Fast.tw14311211667451271508:True:=trivial
theorem PySem.W.Fast.tw17432948449676540380:True:=trivial
theorem PySem.W.Fast.tw14934741278724841905:True:=trivial
theorem PySem.W.Fast.tw2202170031658395562:True:=trivial
theorem PySem.W.Fast.tw15665595975234704753:True:=trivial
theorem PySem.W.Fast.tw13589763539132128812:True:=trivial
theorem PySem.W.Fast.tw10949840909364431044:True:=trivial
theorem PySem.W.Fast.tw1085735875508280548:True:=trivial
theorem PySem.W.Fast.tw10460744198600685388:True:=trivial
theorem PySem.W.Fast.tw10771698060872436968:True:=trivial
theorem PySem.W.Fast.tw10690708695144660267:True:=trivial
theorem PySem.W.Fast.tw18405089913610174106:True:=trivial
theorem PySem.W.Fast.tw15030824460216823175:True:=trivial
theorem PySem.W.Fast.tw1535974926943227499:True:=trivial
theorem PySem.W.Fast.tw1107178400484690537:True:=trivial
theorem PySem.W.Fast.tw3695724175550357822:True:=trivial
theorem PySem.W.Fast.tw2833196301355089351:True:=trivial
theorem PySem.W.Fast.tw5511443311891294717:True:=trivial
theorem PySem.W.Fast.tw6799287476760007987:True:=trivial
theorem PySem.W.Fast.tw12067619863963491812:True:=trivial
theorem PySem.W.Fast.tw14061657698222740805:True:=trivial
theorem PySem.W.Fast.tw13222870865146065067:True:=trivial
theorem PySem.W.Fast.tw12857660625231302268:True:=trivial
theorem PySem.W.Fast.tw10922088943628144381:True:=trivial
theorem PySem.W.Fast.tw5955728295481747814:True:=trivial
set_option maxRecDepth 100000 in
set_option maxHeartbeats 0 in
theorem PySem.Challenge.cw_bitfloor_k11_values_holds : PySem.Challenge.rw_bitfloor_k11_values.Holds := by
 w_on; o_law; k_head; (case hw=>w_witness2)
 k_fill
 refine L2.zams (l:=PySem.Challenge.rw_bitfloor_k11_values) (n:=63) (k:=14) (x := "_law_script") (CX:=L2.CX0) (sp:=B17.spLaw) rfl (by decide) rfl ⟨rfl,by decide,by decide⟩ (fun w h Y=>PySem.W.kIn_of Y) ?F ?S ?C
 case F =>
  intro w mg fa h KX G hmg
  refine' B17.zar8 KX G hmg ?aS ?aM ?aG ?aC ?eFloorError ?eNoSense ?a0 ?l0 ?c0 ?k0 ?a1 ?l1 ?c1 ?k1 ?a2 ?l2 ?c2 ?k2 ?a3 ?l3 ?c3 ?k3 ?a4 ?l4 ?c4 ?k4 ?a5 ?l5 ?c5 ?k5 ?a6 ?l6 ?c6 ?k6 ?a7 ?l7 ?c7 ?k7 ?a8 ?l8 ?c8 ?k8 ?a9 ?l9 ?c9 ?k9 ?a10 ?l10 ?c10 ?k10 ?a11 ?l11 ?c11 ?k11 ?a12 ?l12 ?c12 ?k12 ?a13 ?l13 ?c13 ?k13 ?a14 ?l14 ?c14 ?k14 ?a15 ?l15 ?c15 ?k15 ?a16 ?l16 ?c16 ?k16 ?a17 ?l17 ?c17 ?k17 ?a18 ?l18 ?c18 ?k18 ?a19 ?l19 ?c19 ?k19 ?a20 ?l20 ?c20 ?k20 ?a21 ?l21 ?c21 ?k21 ?a22 ?l22 ?c22 ?k22 ?a23 ?l23 ?c23 ?k23 ?a24 ?l24 ?c24 ?k24 ?a25 ?l25 ?c25 ?k25 ?a26 ?l26 ?c26 ?k26 ?a27 ?l27 ?c27 ?k27 ?a28 ?l28 ?c28 ?k28 ?a29 ?l29 ?c29 ?k29 ?a30 ?l30 ?c30 ?k30 ?a31 ?l31 ?c31 ?k31 ?a32 ?l32 ?c32 ?k32 ?a33 ?l33 ?c33 ?k33 ?a34 ?l34 ?c34 ?k34 ?a35 ?l35 ?c35 ?k35 ?a36 ?l36 ?c36 ?k36 ?a37 ?l37 ?c37 ?k37 ?a38 ?l38 ?c38 ?k38 ?a39 ?l39 ?c39 ?k39 ?i39 ?a40 ?l40 ?c40 ?k40 ?i40 ?a41 ?l41 ?c41 ?k41 ?i41 ?a42 ?l42 ?c42 ?k42 ?i42 ?a43 ?l43 ?c43 ?k43 ?i43 ?a44 ?l44 ?c44 ?k44 ?i44 ?a45 ?l45 ?c45 ?k45 ?i45 ?a46 ?l46 ?c46 ?k46 ?i46 ?a47 ?l47 ?c47 ?k47 ?i47 ?a48 ?l48 ?c48 ?k48 ?i48 ?pgS ?hdS ?poS ?saS ?mkS ?kcS ?nS_above ?nS_ins ?nS_wides ?nS_uses ?nS_keepers ?nS_nexts ?nS_outs ?pgM ?hdM ?poM ?saM ?mkM ?kcM ?nM_name ?nM_rows ?pgG ?hdG ?poG ?saG ?mkG ?kcG ?nG_rows ?nG_kept ?nG_inner ?nG_coming ?pgC ?hdC ?poC ?saC ?mkC ?kcC ?nC_wides ?nC_stage ?z_len ?z_range ?z_int ?z_str ?z_isinstance ?z_zip ?z_list ?z_tuple ?z_dict ?z_bool ?z_all ?z_enumerate ?z_max ?z_sum ?xhd ?xsa ?xkc ?xna ?fhg ?frd ?ffd ?xcR ?xcF ?xsb ?xga ?xgt ?xcl ?xsg ?xtk ?xmo ?w_V ?ai_WIDEST ?qaTT (B17.tkd ?qlfT ?qheT ?qhxT ?qnsT) B17.zatp B17.zapq B17.zar9 B17.zasa B17.zapr B17.zasb B17.zatq ?qaTV (B17.vkd ?qlfV ?qheV ?qhxV ?qnsV) B17.zasc B17.zasd B17.zatr B17.zase B17.zaps B17.zapt B17.zapu B17.zapv B17.zapw B17.zats ?qxsT
  (case aS=>k_is)
  (case aM=>k_is)
  (case aG=>k_is)
  (case aC=>k_is)
  (case eFloorError=>k_is)
  (case eNoSense=>k_is)
  (case a0=>k_is)
  (case l0=>k_is)
  (case c0=>k_is)
  (case k0=>k_is)
  (case a1=>k_is)
  (case l1=>k_is)
  (case c1=>k_is)
  (case k1=>k_is)
  (case a2=>k_is)
  (case l2=>k_is)
  (case c2=>k_is)
  (case k2=>k_is)
  (case a3=>k_is)
  (case l3=>k_is)
  (case c3=>k_is)
  (case k3=>k_is)
  (case a4=>k_is)
  (case l4=>k_is)
  (case c4=>k_is)
  (case k4=>k_is)
  (case a5=>k_is)
  (case l5=>k_is)
  (case c5=>k_is)
  (case k5=>k_is)
  (case a6=>k_is)
  (case l6=>k_is)
  (case c6=>k_is)
  (case k6=>k_is)
  (case a7=>k_is)
  (case l7=>k_is)
  (case c7=>k_is)
  (case k7=>k_is)
  (case a8=>k_is)
  (case l8=>k_is)
  (case c8=>k_is)
  (case k8=>k_is)
  (case a9=>k_is)
  (case l9=>k_is)
  (case c9=>k_is)
  (case k9=>k_is)
  (case a10=>k_is)
  (case l10=>k_is)
  (case c10=>k_is)
  (case k10=>k_is)
  (case a11=>k_is)
  (case l11=>k_is)
  (case c11=>k_is)
  (case k11=>k_is)
  (case a12=>k_is)
  (case l12=>k_is)
  (case c12=>k_is)
  (case k12=>k_is)
  (case a13=>k_is)
  (case l13=>k_is)
  (case c13=>k_is)
  (case k13=>k_is)
  (case a14=>k_is)
  (case l14=>k_is)
  (case c14=>k_is)
  (case k14=>k_is)
  (case a15=>k_is)
  (case l15=>k_is)
  (case c15=>k_is)
  (case k15=>k_is)
  (case a16=>k_is)
  (case l16=>k_is)
  (case c16=>k_is)
  (case k16=>k_is)
  (case a17=>k_is)
  (case l17=>k_is)
  (case c17=>k_is)
  (case k17=>k_is)
  (case a18=>k_is)
  (case l18=>k_is)
  (case c18=>k_is)
  (case k18=>k_is)
  (case a19=>k_is)
  (case l19=>k_is)
  (case c19=>k_is)
  (case k19=>k_is)
  (case a20=>k_is)
  (case l20=>k_is)
  (case c20=>k_is)
  (case k20=>k_is)
  (case a21=>k_is)
  (case l21=>k_is)
  (case c21=>k_is)
  (case k21=>k_is)
  (case a22=>k_is)
  (case l22=>k_is)
  (case c22=>k_is)
  (case k22=>k_is)
  (case a23=>k_is)
  (case l23=>k_is)
  (case c23=>k_is)
  (case k23=>k_is)
  (case a24=>k_is)
  (case l24=>k_is)
  (case c24=>k_is)
  (case k24=>k_is)
  (case a25=>k_is)
  (case l25=>k_is)
  (case c25=>k_is)
  (case k25=>k_is)
  (case a26=>k_is)
  (case l26=>k_is)
  (case c26=>k_is)
  (case k26=>k_is)
  (case a27=>k_is)
  (case l27=>k_is)
  (case c27=>k_is)
  (case k27=>k_is)
  (case a28=>k_is)
  (case l28=>k_is)
  (case c28=>k_is)
  (case k28=>k_is)
  (case a29=>k_is)
  (case l29=>k_is)
  (case c29=>k_is)
  (case k29=>k_is)
  (case a30=>k_is)
  (case l30=>k_is)
  (case c30=>k_is)
  (case k30=>k_is)
  (case a31=>k_is)
  (case l31=>k_is)
  (case c31=>k_is)
  (case k31=>k_is)
  (case a32=>k_is)
  (case l32=>k_is)
  (case c32=>k_is)
  (case k32=>k_is)
  (case a33=>k_is)
  (case l33=>k_is)
  (case c33=>k_is)
  (case k33=>k_is)
  (case a34=>k_is)
  (case l34=>k_is)
  (case c34=>k_is)
  (case k34=>k_is)
  (case a35=>k_is)
  (case l35=>k_is)
  (case c35=>k_is)
  (case k35=>k_is)
  (case a36=>k_is)
  (case l36=>k_is)
  (case c36=>k_is)
  (case k36=>k_is)
  (case a37=>k_is)
  (case l37=>k_is)
  (case c37=>k_is)
  (case k37=>k_is)
  (case a38=>k_is)
  (case l38=>k_is)
  (case c38=>k_is)
  (case k38=>k_is)
  (case a39=>k_is)
  (case l39=>k_is)
  (case c39=>k_is)
  (case k39=>k_is)
  (case i39=>k_is)
  (case a40=>k_is)
  (case l40=>k_is)
  (case c40=>k_is)
  (case k40=>k_is)
  (case i40=>k_is)
  (case a41=>k_is)
  (case l41=>k_is)
  (case c41=>k_is)
  (case k41=>k_is)
  (case i41=>k_is)
  (case a42=>k_is)
  (case l42=>k_is)
  (case c42=>k_is)
  (case k42=>k_is)
  (case i42=>k_is)
  (case a43=>k_is)
  (case l43=>k_is)
  (case c43=>k_is)
  (case k43=>k_is)
  (case i43=>k_is)
  (case a44=>k_is)
  (case l44=>k_is)
  (case c44=>k_is)
  (case k44=>k_is)
  (case i44=>k_is)
  (case a45=>k_is)
  (case l45=>k_is)
  (case c45=>k_is)
  (case k45=>k_is)
  (case i45=>k_is)
  (case a46=>k_is)
  (case l46=>k_is)
  (case c46=>k_is)
  (case k46=>k_is)
  (case i46=>k_is)
  (case a47=>k_is)
  (case l47=>k_is)
  (case c47=>k_is)
  (case k47=>k_is)
  (case i47=>k_is)
  (case a48=>k_is)
  (case l48=>k_is)
  (case c48=>k_is)
  (case k48=>k_is)
  (case i48=>k_is)
  (case pgS=>k_is)
  (case hdS=>k_is)
  (case poS=>k_is)
  (case saS=>k_is)
  (case mkS=>k_is)
  (case kcS=>k_is)
  (case nS_above=>k_is)
  (case nS_ins=>k_is)
  (case nS_wides=>k_is)
  (case nS_uses=>k_is)
  (case nS_keepers=>k_is)
  (case nS_nexts=>k_is)
  (case nS_outs=>k_is)
  (case pgM=>k_is)
  (case hdM=>k_is)
  (case poM=>k_is)
  (case saM=>k_is)
  (case mkM=>k_is)
  (case kcM=>k_is)
  (case nM_name=>k_is)
  (case nM_rows=>k_is)
  (case pgG=>k_is)
  (case hdG=>k_is)
  (case poG=>k_is)
  (case saG=>k_is)
  (case mkG=>k_is)
  (case kcG=>k_is)
  (case nG_rows=>k_is)
  (case nG_kept=>k_is)
  (case nG_inner=>k_is)
  (case nG_coming=>k_is)
  (case pgC=>k_is)
  (case hdC=>k_is)
  (case poC=>k_is)
  (case saC=>k_is)
  (case mkC=>k_is)
  (case kcC=>k_is)
  (case nC_wides=>k_is)
  (case nC_stage=>k_is)
  (case z_len=>k_is)
  (case z_range=>k_is)
  (case z_int=>k_is)
  (case z_str=>k_is)
  (case z_isinstance=>k_is)
  (case z_zip=>k_is)
  (case z_list=>k_is)
  (case z_tuple=>k_is)
  (case z_dict=>k_is)
  (case z_bool=>k_is)
  (case z_all=>k_is)
  (case z_enumerate=>k_is)
  (case z_max=>k_is)
  (case z_sum=>k_is)
  (case xhd=>k_is)
  (case xsa=>k_is)
  (case xkc=>k_is)
  (case xna=>k_is)
  (case fhg=>k_is)
  (case frd=>k_is)
  (case ffd=>k_is)
  (case xcR=>(refine' B17.zato ?x1 ?x2 ?x3 ?x4 ?x5 ?x6 ?x7 ?x8; (case x2=>k_is); (case x3=>rfl); (case x4=>rfl); (case x5=>rfl); (case x6=>rfl); (case x7=>k_is); (case x8=>rfl); (case x1=>(show PySem.W.excIn _ _ L2.bmV "ValueError.__new__" = true; k_exc))))
  (case xcF=>exact L2.XC.b (show PySem.W.excIn _ _ L2.bmV "ValueError.__new__" = true by k_exc))
  (case xsb=>k_is)
  (case xga=>k_is)
  (case xgt=>k_is)
  (case xcl=>k_is)
  (case xsg=>k_is)
  (case xtk=>k_is)
  (case xmo=>k_is)
  (case w_V=>kit_is)
  (case ai_WIDEST=>k_is)
  (case qaTT=>k_is)
  (case qlfT=>k_is)
  (case qheT=>rfl)
  (case qhxT=>exact ⟨rfl,rfl,rfl⟩)
  (case qnsT=>rfl)
  (case qaTV=>k_is)
  (case qlfV=>k_is)
  (case qheV=>rfl)
  (case qhxV=>exact ⟨rfl,rfl,rfl⟩)
  (case qnsV=>rfl)
  (case qxsT=>k_is)
 case S=>exact fun K H a ns hl hO hS=>⟨a,ns,rfl,L2.Scr.of hS hl hO,fun _=>rfl⟩
 case C=>exact fun _ _ _ _ z=>z
