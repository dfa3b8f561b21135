import PyProof.Rows.All
import Wide.All
import OpenK.AllK
import Wide.FinOn
import Lean
import PyProof.EqAt
import PyProof.EqKinds
import PyProof.TupleCall
import PyProof.AttrMiss
import PyProof.ConsumeWalk
import KE.KDictOf
import OpenK.KOwn
import PyProof.NsDelKeeps
import KE.KIsAll
import PyProof.Rows.SumAny
import PyProof.NeKinds
import PyProof.SeqI3
import KE.KRevIter
import KE.KSortTup
import PyProof.DictIter
import KE.KDictList
import PyProof.TupleOfGen
import PyProof.MinMaxWalk
import PyProof.WalkInts
import PyProof.Rows.SortRuns
import PyProof.DictWalks
import OpenK.KCls
import KE.KListMore
import KE.KFind
import KE.KItemsList
import PyProof.StrCalls
import PyProof.Rows.CallKwBuiltin
import KE.KMinKey
import PySem.Challenge.RW_bitfloor_k30_layers_least
import KE.RegKIsAll
set_option Elab.async false
set_option linter.all false
set_option maxRecDepth 100000
namespace L2
open PySem PySem.Spec PyProof.Rows
abbrev Key:=Sum Int Str
def keyIs:Key→Value→Bool
 | .inl k,v=>Value.isInt k v
 | .inr x,v=>Value.isStrOf x v
def keyH (w:World):Key→Int
 | .inl k=>hashInt k
 | .inr x=>hashStr w x
theorem zabr:∀ {k:Key}{v:Value},keyIs k v=true→(∃ i t,k=Sum.inl i∧v=Value.int i t)∨(∃ x t,k=Sum.inr x∧v=Value.str x t)
 | .inl i,v,h=>by
  obtain ⟨t,e⟩:=Value.isInt_shape (k:=i) (v:=v) h
  exact .inl ⟨i,t,rfl,e⟩
 | .inr x,v,h=>by
  obtain ⟨t,e⟩:=Value.isStrOf_shape (x:=x) (v:=v) h
  exact .inr ⟨x,t,rfl,e⟩
theorem zalj (i:Int) (t:Tok):keyIs (.inl i) (.int i t)=true:=by simp [keyIs,Value.isInt]
theorem zafj (x:Str) (t:Tok):keyIs (.inr x) (.str x t)=true:=by simp [keyIs,Value.isStrOf]
theorem zasy (a b:Int):decide ((Sum.inl a:Key)=Sum.inl b)=(a == b):=by
 by_cases e:a=b
 ·subst e; simp
 ·have h:¬ (Sum.inl a:Key)=Sum.inl b:=fun q=>e (Sum.inl.inj q)
  rw [decide_eq_false h]
  exact (beq_eq_false_iff_ne.mpr e).symm
theorem zasz (a b:Str):decide ((Sum.inr a:Key)=Sum.inr b)=decide (a=b):=by
 by_cases e:a=b
 ·subst e; simp
 ·have h:¬ (Sum.inr a:Key)=Sum.inr b:=fun q=>e (Sum.inr.inj q)
  rw [decide_eq_false h,decide_eq_false e]
theorem zas0 (a:Int) (b:Str):decide ((Sum.inl a:Key)=Sum.inr b)=false:=decide_eq_false (fun q=>nomatch q)
theorem zas1 (a:Str) (b:Int):decide ((Sum.inr a:Key)=Sum.inl b)=false:=decide_eq_false (fun q=>nomatch q)
def mixKind (prog:Program) (w:World):PySem.KeyKind prog w Key where
 is:=keyIs
 hash:=keyH w
 inj:=fun v a b ha hb=>by
  rcases zabr ha with ⟨i,t,rfl,rfl⟩ | ⟨x,t,rfl,rfl⟩
  ·rcases zabr hb with ⟨j,u,rfl,e⟩ | ⟨y,u,rfl,e⟩
   ·injection e with e1 _; rw [e1]
   ·exact nomatch e
  ·rcases zabr hb with ⟨j,u,rfl,e⟩ | ⟨y,u,rfl,e⟩
   ·exact nomatch e
   ·injection e with e1 _; rw [e1]
 byValue:=fun k v h=>by
  rcases zabr h with ⟨i,t,rfl,rfl⟩ | ⟨x,t,rfl,rfl⟩ <;> rfl
 pyHash:=fun hv h=>by
  rcases zabr hv with ⟨i,t,rfl,rfl⟩ | ⟨x,t,rfl,rfl⟩
  ·exact wpAny_pyHash_int h
  ·exact wpAny_pyHash_str h
 eqBool:=fun hu hv h=>by
  rcases zabr hu with ⟨i,t,rfl,rfl⟩ | ⟨x,t,rfl,rfl⟩
  ·rcases zabr hv with ⟨j,u,rfl,rfl⟩ | ⟨y,u,rfl,rfl⟩
   ·rw [zasy] at h; exact wpAny_eqBool_int h
   ·rw [zas0] at h; exact SeqAt.EqAt.int_str i t y u _ _ _ _ h
  ·rcases zabr hv with ⟨j,u,rfl,rfl⟩ | ⟨y,u,rfl,rfl⟩
   ·rw [zas1] at h; exact SeqAt.EqAt.str_int x t j u _ _ _ _ h
   ·rw [zasz] at h; exact wpAny_eqBool_str h
 «strs»:=fun k x t v h=>by
  rcases zabr h with ⟨i,u,rfl,e⟩ | ⟨y,u,rfl,e⟩
  ·exact nomatch e
  ·injection e with e1 _
   subst e1
   cases v <;> rfl
theorem zajf (prog:Program) (w:World) (i:Int) (t:Tok):(mixKind prog w).is (.inl i) (.int i t)=true:=zalj i t
theorem zajg (prog:Program) (w:World) (x:Str) (t:Tok):(mixKind prog w).is (.inr x) (.str x t)=true:=zafj x t
inductive V where
 | non | bl (b:Bool) | int (i:Int) | str (x:Str) | byt (b:Array UInt8) | flt (b:UInt64) | ref (a:Addr) | ty (n:String)
 deriving DecidableEq
def RelV:V→Value→Prop
 | .non,u=>u=Value.none
 | .bl b,u=>u=Value.bool b
 | .int i,u=>∃ t,u=Value.int i t
 | .str x,u=>∃ t,u=Value.str x t
 | .byt b,u=>∃ t,u=Value.bytes b t
 | .flt b,u=>∃ t,u=Value.float b t
 | .ref a,u=>u=Value.ref a
 | .ty n,u=>u=Value.type n
abbrev Vals:List V→List Value→Prop:=Paired RelV
theorem Vals.length {xs:List V}{us:List Value} (r:Vals xs us):xs.length=us.length:=Paired.length r
theorem Vals.get:∀ {xs:List V}{us:List Value}{i:Nat}{x:V},Vals xs us→xs[i]?=some x→∃ u,us[i]?=some u∧RelV x u
 | _,_,_,_,.nil,e=>by simp at e
 | _,_,0,_,.cons r _,e=>by simp at e; subst e; exact ⟨_,rfl,r⟩
 | _,_,i + 1,x,.cons _ t,e=>by
  obtain ⟨u,h1,h2⟩:=Vals.get (i:=i) (x:=x) t (by simpa using e)
  exact ⟨u,by simpa using h1,h2⟩
theorem Vals.set {x:V}{u:Value} (r:RelV x u):∀ {xs:List V}{us:List Value} (i:Nat),Vals xs us→Vals (xs.set i x) (us.set i u)
 | _,_,_,.nil=>.nil
 | _,_,0,.cons _ t=>.cons r t
 | _,_,i + 1,.cons q t=>.cons q (Vals.set r i t)
theorem Vals.append:∀ {xs ys:List V}{us ws:List Value},Vals xs us→Vals ys ws→Vals (xs++ys) (us++ws)
 | _,_,_,_,.nil,s=>s
 | _,_,_,_,.cons r t,s=>.cons r (Vals.append t s)
theorem Vals.take:∀ {xs:List V}{us:List Value} (n:Nat),Vals xs us→Vals (xs.take n) (us.take n)
 | _,_,0,_=>.nil
 | _,_,_ + 1,.nil=>.nil
 | _,_,n + 1,.cons r t=>.cons r (Vals.take n t)
theorem Vals.drop:∀ {xs:List V}{us:List Value} (n:Nat),Vals xs us→Vals (xs.drop n) (us.drop n)
 | _,_,0,r=>r
 | _,_,_ + 1,.nil=>.nil
 | _,_,n + 1,.cons _ t=>Vals.drop n t
def RelO:Option V→Option Value→Prop
 | some v,some u=>RelV v u
 | none,none=>True
 | _,_=>False
def KV {κ:Type}:List (κ × V)→List (κ × Value)→Prop:=Paired fun (p:κ × V) (q:κ × Value)=>p.1=q.1∧RelV p.2 q.2
def kV:Key→V
 | .inl i=>.int i
 | .inr x=>.str x
inductive HO where
 | lst (xs:List V)
 | tup (xs:List V)
 | dK (kvs:List (Key × V)) | dT (kvs:List (List Key × V))
 | set (S:Int→Bool) (n:Nat)
 | ins (C dx:Addr) (fs:List (Str × V))
 | own (x:Addr)
 | xd (fs:List (Str × V))
 | met (f x:Addr)
 | rng (lo hi:Int)
 | frz (o:Obj) (u:HO)
 | tbl (ps:Array Value)
 | ext (φ:Heap→Prop)
abbrev Hp:=Addr→Option HO
def upd (H:Hp) (a:Addr) (o:HO):Hp:=fun b=>if b=a then some o else H b
theorem zaac {H:Hp}{a:Addr}{o:HO}:upd H a o a=some o:=by unfold upd; rw [if_pos rfl]
theorem zaa0 {H:Hp}{a b:Addr}{o:HO} (h:b≠a):upd H a o b=H b:=by unfold upd; rw [if_neg h]
theorem zacz {H:Hp}{a b:Addr}{o u:HO} (h:H a=some o) (h':H b=some u) (d:o≠u):a≠b:=by
 intro e; subst e; rw [h] at h'; exact d (Option.some.inj h')
theorem zaao {H:Hp}{a b:Addr}{o:HO} (h:H a=some o) (h':H b=none):a≠b:=by
 intro e; subst e; rw [h] at h'; cases h'
section
variable (P:Program) (w:World)
def ObjOk (H:Hp) (h:Heap) (a:Addr):HO→Prop
 | .lst xs=>xs.length≤sizeLine∧∃ (its:List Value) (n:Nat),Vals xs its∧h.get? a=some { cls:=.type "list",data:=.seq its.toArray n }
 | .tup xs=>xs.length≤sizeLine∧∃ its:List Value,Vals xs its∧IsTup h a its.toArray
 | .dK kvs=>kvs.length≤sizeLine∧(a == sysModules)=false∧∃ vs,KV kvs vs∧h.DictOf (mixKind P w) a vs
 | .dT kvs=>kvs.length≤sizeLine∧(a == sysModules)=false∧∃ xs:List (List Key × Addr × Value),
   Paired (fun (p:List Key × V) (q:List Key × Addr × Value)=>p.1=q.1∧H q.2.1=some (.tup (p.1.map kV))∧RelV p.2 q.2.2) kvs xs ∧
   ∃ o es ep,h.get? a=some o∧o.ExactDict∧o.data=.dict es ep∧es.toList=xs.map (entryOfKey (tupleKind (mixKind P w)))∧(xs.map (·.1)).Nodup
 | .set S n=>h.SetOf (intKind P w) a S n
 | .ins C dx fs=>H dx=some (.own a)∧fs.length≤1000∧dx≠a∧h.get? a=some (PySem.W.instObj C dx) ∧
   ∃ mA,h.Ns1 dx mA∧(∀ f,RelO (fs.lookup f) (mA f))∧PySem.Within mA (fs.map (·.1))
 | .own _=>∃ o,h.get? a=some o
 | .xd fs=>∃ mA,h.Ns1 a mA∧∀ f,RelO (fs.lookup f) (mA f)
 | .rng lo hi=>∃ t u v,h.get? a=some { cls:=.type "range",data:=.fields #[.int lo t,.int hi u,.int 1 v] }
 | .frz o u=>h.get? a=some o∧ObjOk H h a u
 | .tbl ps=>h.get? a=some { cls:=.none,data:=.fields ps }
 | .met f x=>h.get? a=some (PySem.W.methodObj (.ref f) (.ref x))
 | .ext φ=>φ h∧(∃ o,h.get? a=some o)∧∀ h1 h2:Heap,φ h1→(∀ o,h1.get? a=some o→h2.get? a=some o)→φ h2
def HOk (H:Hp) (h:Heap):Prop:=∀ a o,H a=some o→ObjOk P w H h a o
end
section
variable {P:Program}{w:World}{H H':Hp}{h h':Heap}{a:Addr}{o:HO}
theorem ObjOk.lt (x:ObjOk P w H h a o):a < h.objs.size:=by
 cases o with
 | lst xs=>obtain ⟨_,_,_,_,e⟩:=x; exact Heap.lt_size e
 | tup xs=>obtain ⟨_,_,_,p⟩:=x; exact p.lt
 | dK kvs=>obtain ⟨_,_,_,_,o,_,_,e,_⟩:=x; exact Heap.lt_size e
 | dT kvs=>obtain ⟨_,_,_,_,o,_,_,e,_⟩:=x; exact Heap.lt_size e
 | set S n=>obtain ⟨o,_,_,_,e,_⟩:=x; exact Heap.lt_size e
 | ins C dx fs=>obtain ⟨_,_,_,e,_⟩:=x; exact Heap.lt_size e
 | own y=>obtain ⟨_,e⟩:=x; exact Heap.lt_size e
 | xd fs=>obtain ⟨_,⟨_,_,_,e,_⟩,_⟩:=x; exact Heap.lt_size e
 | rng lo hi=>obtain ⟨_,_,_,e⟩:=x; exact Heap.lt_size e
 | frz ob u=>obtain ⟨e,_⟩:=x; exact Heap.lt_size e
 | tbl ps=>exact Heap.lt_size (show h.get? a=some _ from x)
 | met f y=>exact Heap.lt_size (show h.get? a=some _ from x)
 | ext φ=>obtain ⟨_,⟨_,e⟩,_⟩:=x; exact Heap.lt_size e
theorem Paired.mapP {α β:Type}{F G:α→β→Prop}:∀ {l₁:List α}{l₂:List β},Paired F l₁ l₂→(∀ a b,F a b→G a b)→Paired G l₁ l₂
 | _,_,.nil,_=>.nil
 | _,_,.cons r t,f=>.cons (f _ _ r) (Paired.mapP t f)
theorem ObjOk.stay (x:ObjOk P w H h a o) (k:∀ b u,(b=a∨H b=some (.own a))→h.get? b=some u→h'.get? b=some u)
  (ho:∀ b,H b=some (.own a)→H' b=some (.own a)) (ht:∀ b xs,H b=some (.tup xs)→H' b=some (.tup xs)):ObjOk P w H' h' a o:=by
 induction o with
 | lst xs=>obtain ⟨z,its,n,r,e⟩:=x; exact ⟨z,its,n,r,k _ _ (.inl rfl) e⟩
 | tup xs=>obtain ⟨z,its,r,ob,e,c⟩:=x; exact ⟨z,its,r,ob,k _ _ (.inl rfl) e,c⟩
 | dK kvs=>obtain ⟨z,y,vs,r,ob,es,ep,e,c⟩:=x; exact ⟨z,y,vs,r,ob,es,ep,k _ _ (.inl rfl) e,c⟩
 | dT kvs =>
  obtain ⟨z,y,xs,r,ob,es,ep,e,c⟩:=x
  exact ⟨z,y,xs,Paired.mapP r fun p q z=>⟨z.1,ht _ _ z.2.1,z.2.2⟩,ob,es,ep,k _ _ (.inl rfl) e,c⟩
 | set S n=>obtain ⟨ob,es,ep,t,e,c⟩:=x; exact ⟨ob,es,ep,t,k _ _ (.inl rfl) e,c⟩
 | ins C dx fs =>
  obtain ⟨d,z,ne,e,mA,⟨od,es,ep,e2,c⟩,r⟩:=x
  exact ⟨ho _ d,z,ne,k _ _ (.inl rfl) e,mA,⟨od,es,ep,k _ _ (.inr d) e2,c⟩,r⟩
 | own y=>obtain ⟨ob,e⟩:=x; exact ⟨ob,k _ _ (.inl rfl) e⟩
 | xd fs=>obtain ⟨mA,⟨od,es,ep,e,c⟩,r⟩:=x; exact ⟨mA,⟨od,es,ep,k _ _ (.inl rfl) e,c⟩,r⟩
 | rng lo hi=>obtain ⟨t,u,v,e⟩:=x; exact ⟨t,u,v,k _ _ (.inl rfl) e⟩
 | frz ob u ih=>obtain ⟨e,q⟩:=x; exact ⟨k _ _ (.inl rfl) e,ih q⟩
 | tbl ps =>
  have e:h.get? a=some { cls:=.none,data:=.fields ps }:=x
  show h'.get? a=some { cls:=.none,data:=.fields ps }
  exact k a _ (.inl rfl) e
 | met f y =>
  have e:h.get? a=some (PySem.W.methodObj (.ref f) (.ref y)):=x
  show h'.get? a=some (PySem.W.methodObj (.ref f) (.ref y))
  exact k a _ (.inl rfl) e
 | ext φ=>obtain ⟨p,⟨o,e⟩,st⟩:=x; exact ⟨st _ _ p fun o q=>k _ _ (.inl rfl) q,⟨o,k _ _ (.inl rfl) e⟩,st⟩
theorem HOk.lt (x:HOk P w H h) (e:H a=some o):a < h.objs.size:=(x a o e).lt
theorem HOk.fresh (x:HOk P w H h) (e:h.objs.size≤a):H a=none:=by
 cases q:H a with
 | none=>rfl
 | some u=>exact absurd (Nat.lt_of_lt_of_le (x.lt q) e) (Nat.lt_irrefl _)
theorem HOk.kept (x:HOk P w H h) (k:∀ b u,h.get? b=some u→h'.get? b=some u):HOk P w H h':=fun a o e =>
 (x a o e).stay (fun b u _ q=>k b u q) (fun _ q=>q) fun _ _ q=>q
theorem HOk.laid (x:HOk P w H h) (k:∀ b u,h.get? b=some u→h'.get? b=some u) (hp:h.objs.size≤a) (new:ObjOk P w (upd H a o) h' a o):HOk P w (upd H a o) h':=fun b u e=>by
 have hn:=x.fresh hp
 by_cases hb:b=a
 ·subst hb; rw [zaac] at e; cases e; exact new
 ·rw [zaa0 hb] at e
  exact (x b u e).stay (fun c v _ q=>k c v q) (fun c q=>by rw [zaa0 (zaao q hn)]; exact q) fun c xs q=>by rw [zaa0 (zaao q hn)]; exact q
end
def Rd (H:Hp) (a:Addr) (u:HO):Prop:=H a=some u∨∃ o,H a=some (.frz o u)
theorem Rd.ok {P:Program}{w:World}{H:Hp}{h:Heap}{a:Addr}{u:HO} (r:Rd H a u) (x:HOk P w H h):ObjOk P w H h a u:=by
 rcases r with r | ⟨o,r⟩
 ·exact x a u r
 ·obtain ⟨_,q⟩:=x a _ r
  exact q
def Mut:Option HO→Prop
 | some (.lst _)=>True
 | some (.dK _)=>True
 | some (.dT _)=>True
 | some (.set _ _)=>True
 | some (.ins _ _ _)=>True
 | some (.ext _)=>True
 | _=>False
section
variable {P:Program}{w:World}{H:Hp}{h h':Heap}{x e:Addr}{o':HO}
theorem HOk.write (ok:HOk P w H h) (mu:Mut (H x)) (he:e=x∨H e=some (.own x)) (k:∀ b u,b≠e→h.get? b=some u→h'.get? b=some u) (heo:∃ u,h'.get? e=some u)
  (new:ObjOk P w (upd H x o') h' x o'):HOk P w (upd H x o') h':=fun b u q=>by
 have nown:∀ c y,H c=some (.own y)→c≠x:=fun c y r z=>by subst z; rw [r] at mu; exact mu
 have ntup:∀ c xs,H c=some (.tup xs)→c≠x:=fun c xs r z=>by subst z; rw [r] at mu; exact mu
 by_cases hb:b=x
 ·subst hb; rw [zaac] at q; cases q; exact new
 ·rw [zaa0 hb] at q
  by_cases hbe:b=e
  ·have q':H b=some (.own x):=by
    rcases he with z | z
    ·exact absurd (hbe.trans z) hb
    ·rw [hbe]; exact z
   rw [q] at q'; cases q'
   obtain ⟨v,hv⟩:=heo
   exact ⟨v,by rw [hbe]; exact hv⟩
  ·refine (ok b u q).stay (fun c v hc r=>k c v ?_ r) (fun c r=>by rw [zaa0 (nown c b r)]; exact r) fun c xs r=>by rw [zaa0 (ntup c xs r)]; exact r
   rcases hc with rfl | hc
   ·exact hbe
   ·rintro rfl
    rcases he with z | z
    ·exact nown c b hc z
    ·rw [hc] at z; cases z; exact hb rfl
end
structure Un (fs ex:List Addr) (H H':Hp) (h h':Heap):Prop where
 keep:∀ b o,h.get? b=some o→H b=none→b ∉ fs→b ∉ ex→h'.get? b=some o
 slot:∀ b o,h.get? b=some o→H b=none→b∈fs→b ∉ ex→∃ sl,h'.get? b=some { o with slots:=sl }
 free:∀ b o,h.get? b=some o→H b=none→b ∉ ex→H' b=none
 there:∀ b o,h.get? b=some o→b ∉ ex→∃ o',h'.get? b=some o'
 tups:∀ b xs,H b=some (.tup xs)→H' b=some (.tup xs)
 frzs:∀ b o u,H b=some (.frz o u)→H' b=some (.frz o u)
 tbls:∀ b ps,H b=some (.tbl ps)→∃ more,H' b=some (.tbl (ps++more))
section
variable {fs fs' ex ex':List Addr}{H H1 H2:Hp}{h h1 h2 h':Heap}{a x e:Addr}{o:HO}
theorem Un.any (u:Un fs ex H H1 h h1) {b:Addr}{ob:Obj} (q:h.get? b=some ob) (n:H b=none) (hx:b ∉ ex):∃ sl,h1.get? b=some { ob with slots:=sl }:=by
 by_cases hb:b∈fs
 ·exact u.slot b ob q n hb hx
 ·exact ⟨ob.slots,u.keep b ob q n hb hx⟩
theorem Un.kept (k:∀ b u,h.get? b=some u→h'.get? b=some u):Un fs ex H H h h' :=
 ⟨fun b ob q _ _ _=>k b ob q,fun b ob q _ _ _=>⟨ob.slots,k b ob q⟩,fun _ _ _ n _=>n,fun b ob q _=>⟨ob,k b ob q⟩,fun _ _ q=>q,fun _ _ _ q=>q,fun _ ps q=>⟨#[],by rw [q]; simp⟩⟩
theorem Un.refl:Un fs ex H H h h:=Un.kept fun _ _ q=>q
theorem Un.laid (k:∀ b u,h.get? b=some u→h'.get? b=some u) (hp:h.objs.size≤a) (hn:H a=none):Un fs ex H (upd H a o) h h' where
 keep:=fun b u q _ _ _=>k b u q
 slot:=fun b u q _ _ _=>⟨u.slots,k b u q⟩
 free:=fun b u q n _=>by rw [zaa0 (Nat.ne_of_lt (Nat.lt_of_lt_of_le (Heap.lt_size q) hp))]; exact n
 there:=fun b u q _=>⟨u,k b u q⟩
 tups:=fun b xs q=>by rw [zaa0 (zaao q hn)]; exact q
 frzs:=fun b u xs q=>by rw [zaa0 (zaao q hn)]; exact q
 tbls:=fun b ps q=>⟨#[],by rw [zaa0 (zaao q hn),q]; simp⟩
theorem Un.write (mu:Mut (H x)) (he:e=x∨H e=some (.own x)) (k:∀ b u,b≠e→h.get? b=some u→h'.get? b=some u) (heo:∃ u,h'.get? e=some u):Un fs ex H (upd H x o) h h':=by
 have hx:∀ b,H b=none→b≠x:=fun b n z=>by subst z; rw [n] at mu; exact mu
 have hb:∀ b,H b=none→b≠e:=fun b n z=>by
  subst z
  rcases he with r | r
  ·exact hx b n r
  ·rw [n] at r; cases r
 have hm:∀ b u,H b=some u→¬ Mut (some u)→b≠x:=fun b u q nm z=>by subst z; rw [q] at mu; exact nm mu
 refine ⟨fun b u q n _ _=>k b u (hb b n) q,fun b u q n _ _=>⟨u.slots,k b u (hb b n) q⟩,fun b u q n _=>by rw [zaa0 (hx b n)]; exact n,fun b u q _=>?_,
  fun b xs q=>by rw [zaa0 (hm b _ q fun z=>z)]; exact q,fun b u xs q=>by rw [zaa0 (hm b _ q fun z=>z)]; exact q,fun b ps q=>⟨#[],by rw [zaa0 (hm b _ q fun z=>z),q]; simp⟩⟩
 by_cases hbe:b=e
 ·subst hbe; exact heo
 ·exact ⟨u,k b u hbe q⟩
end
def trk (h:Heap) (H:Hp):List Addr:=(List.range h.objs.size).filter fun a=>(H a).isSome
def hidT (h:Heap) (H:Hp):Heap:=PySem.W.hideAll h (trk h H)
theorem zalk (h:Heap) (H:Hp):(hidT h H).objs.size=h.objs.size:=PySem.W.hideAll_size _ _
theorem zaoc {h:Heap}{H:Hp}{b:Addr}{o:Obj} (e:h.get? b=some o) (n:H b=none):(hidT h H).get? b=some o :=
 PySem.W.hideAll_get _ e fun hm=>by
  have q:(H b).isSome=true:=(List.mem_filter.mp hm).2
  rw [n] at q; simp at q
theorem zaqw {h:Heap}{H:Hp}{b:Addr}{o:Obj} (e:(hidT h H).get? b=some o):h.get? b=some o∧H b=none:=by
 have e':h.get? b=some o:=PySem.W.of_hideAll (trk h H) e
 refine ⟨e',?_⟩
 cases q:H b with
 | none=>rfl
 | some x =>
  have hm:b∈trk h H:=List.mem_filter.mpr ⟨List.mem_range.mpr (Heap.lt_size e'),by simp [q]⟩
  have z:(hidT h H).get? b=none:=PySem.W.hideAll_none (trk h H) hm
  rw [z] at e; cases e
structure Mod (K:PySem.W.Frag) (mg:Str→Option Value) (base:Heap):Prop where
 kin:K.In base
 glob:base.Ns mainGlobals mg
 blt:∃ mb,base.Ns builtinsNs mb∧∀ x:Str,x ≠ "__name__" → mb x=bootBuiltins x
 nolimit:base.NoLimit
structure Cx where
 prog:Program
 w:World
 K:PySem.W.Frag
 mg:Str→Option Value
 base:Heap
 A:Around
 N:List Str
 s₀:Shared
 H₀:Hp
 env:Env
 outer:List Env
 stack:List Env
 ex:List Addr
 fn:Str→Bool
 calm:Bool
 pn:List (Addr × Obj)
 xe:Value→Shared→Prop
def frs (l:List Env):List Addr:=l.filterMap (·.frame)
abbrev Cx.fs (X:Cx):List Addr:=frs X.outer
def Vis (sc:Scope) (x:Str):Prop:=sc.names.lookup x=some .local∨sc.names.lookup x=some .cell∨sc.names.lookup x=some .free
def Loc (sc:Scope) (x:Str):Prop:=sc.names.lookup x=some .local∨sc.names.lookup x=some .cell
def Look (env:Env) (h:Heap) (m:Str→Option Value) (x:Str) (u:Value):Prop :=
 (env.kindOf x=some .local∧m x=some u)∨((env.kindOf x=some .cell∨env.kindOf x=some .free)∧∃ c,env.cells.lookup x=some c∧h.IsCell c (some u))
structure Cx.Ok (X:Cx):Prop where
 mod:Mod X.K X.mg X.base
 kind:X.env.scope.kind=.function
 glob:X.env.globals=mainGlobals
 blt:X.env.builtins=builtinsNs
 above:X.s₀.heap.objs.size≤X.env.locals
 inj:∀ x y c,X.env.cells.lookup x=some c→X.env.cells.lookup y=some c→x=y
 has:∀ x,(X.env.kindOf x=some .cell∨X.env.kindOf x=some .free)→∃ c,X.env.cells.lookup x=some c
 cab:∀ x c,X.fn x=true→X.env.cells.lookup x=some c→X.s₀.heap.objs.size≤c
 hd:X.calm=true→X.A.handled=none
 frames:X.A.frames=some X.stack
 stk:X.stack=X.outer∨(X.stack=X.env :: X.outer∧X.env.frame=some X.env.locals)
 exf:∀ b∈X.ex,b≠X.env.locals∧∀ x c,X.env.cells.lookup x=some c→c≠b
 bs:∀ b o,X.base.get? b=some o→X.s₀.heap.get? b=some o∧X.H₀ b=none
 bsz:X.base.objs.size≤X.s₀.heap.objs.size
 noex:∀ b o,X.base.get? b=some o→b ∉ X.ex
 exfs:∀ b∈X.ex,b ∉ X.fs
 funs:X.s₀.heap.FunFrames X.base X.outer
 frf:∀ b∈X.fs,X.H₀ b=none
structure Inv (X:Cx) (pins:List (Addr × Obj)) (σ:List (Option V)) (H:Hp) (s:Shared):Prop where
 ok:X.Ok
 os:s.os=X.s₀.os
 bare:AllBare s.gens
 base:Un X.fs X.ex X.H₀ H X.s₀.heap s.heap
 loc:∃ m,s.heap.Ns X.env.locals m∧∀ (i:Nat) (x:Str) (v:V),X.N[i]?=some x→σ[i]?=some (some v)→Vis X.env.scope x→∃ u,RelV v u∧Look X.env s.heap m x u
 cell:∀ x c,X.env.cells.lookup x=some c→∃ v,s.heap.IsCell c v
 free:H X.env.locals=none
 freeC:∀ x c,X.env.cells.lookup x=some c→H c=none
 pin:∀ p∈X.pn++pins,s.heap.get? p.1=some p.2∧H p.1=none∧p.1≠X.env.locals∧p.1 ∉ X.fs∧∀ v,p.2.data≠.cell v
 hok:HOk X.prog X.w H s.heap
 len:σ.length=X.N.length
section
variable {X:Cx}{pins:List (Addr × Obj)}{σ:List (Option V)}{H H':Hp}{s:Shared}{h':Heap}
theorem Cx.Ok.nofr (ok:X.Ok) {b:Addr}{o:Obj} (e:X.base.get? b=some o):b ∉ X.fs:=fun hb=>by
 have:=(ok.funs.mem hb).1
 rw [e] at this; cases this
theorem Inv.bs (I:Inv X pins σ H s):∀ b o,X.base.get? b=some o→s.heap.get? b=some o∧H b=none:=fun b o e =>
 ⟨I.base.keep b o (I.ok.bs b o e).1 (I.ok.bs b o e).2 (I.ok.nofr e) (I.ok.noex b o e),I.base.free b o (I.ok.bs b o e).1 (I.ok.bs b o e).2 (I.ok.noex b o e)⟩
theorem Inv.bk (I:Inv X pins σ H s):∀ b o,X.base.get? b=some o→s.heap.get? b=some o:=fun b o e=>(I.bs b o e).1
theorem Inv.mod (I:Inv X pins σ H s):Mod X.K X.mg X.base:=I.ok.mod
theorem Inv.kIn (I:Inv X pins σ H s):X.K.In s.heap:=I.ok.mod.kin.keeps I.bk
theorem Inv.lt (I:Inv X pins σ H s):X.env.locals < s.heap.objs.size:=let ⟨_,hn,_⟩:=I.loc; hn.lt
theorem Inv.sz (I:Inv X pins σ H s):X.s₀.heap.objs.size≤s.heap.objs.size:=Nat.le_trans I.ok.above (Nat.le_of_lt I.lt)
theorem Inv.nofs (I:Inv X pins σ H s) {a:Addr} (h:s.heap.objs.size≤a):a ∉ X.fs:=fun hb=>by
 obtain ⟨_,o,ho,_⟩:=I.ok.funs.mem hb
 exact absurd (Nat.lt_of_lt_of_le (Heap.lt_size ho) (Nat.le_trans I.sz h)) (Nat.lt_irrefl _)
theorem Inv.cne (I:Inv X pins σ H s):∀ x c,X.env.cells.lookup x=some c→c≠X.env.locals:=fun x c e z=>by
 obtain ⟨v,o,ho,hd⟩:=I.cell x c e
 obtain ⟨m,⟨o',es,ep,ho',hd',_⟩,_⟩:=I.loc
 rw [z,ho'] at ho; cases ho; rw [hd'] at hd; cases hd
theorem Inv.funs (I:Inv X pins σ H s):s.heap.FunFrames X.base X.outer:=by
 have all:∀ (l:List Env),(∀ b∈frs l,b∈X.fs)→X.s₀.heap.FunFrames X.base l→s.heap.FunFrames X.base l:=by
  intro l
  induction l with
  | nil=>intro _ _; trivial
  | cons env r ih =>
   intro hs hl
   obtain ⟨hk,⟨L,o,hf,hn,ho,hd⟩,hr⟩:=hl
   have hL:L∈X.fs:=hs L (by unfold frs; rw [List.filterMap_cons,hf]; exact List.mem_cons_self)
   obtain ⟨sl,e⟩:=I.base.slot L o ho (I.ok.frf L hL) hL fun z=>I.ok.exfs L z hL
   exact ⟨hk,⟨L,_,hf,hn,e,hd⟩,ih (fun b hb=>hs b (by unfold frs; rw [List.filterMap_cons,hf]; exact List.mem_cons_of_mem _ hb)) hr⟩
 exact all X.outer (fun _ hb=>hb) I.ok.funs
theorem Inv.stack (I:Inv X pins σ H s):s.heap.FunFrames X.base X.stack:=by
 rcases I.ok.stk with e | ⟨e,hf⟩
 ·rw [e]; exact I.funs
 ·rw [e]
  obtain ⟨m,hn,_⟩:=I.loc
  refine .cons (by rw [I.ok.kind]; decide) hf hn ?_ I.funs
  exact Heap.get?_none_of_le (Nat.le_trans I.ok.bsz I.ok.above)
theorem Inv.stkSub (I:Inv X pins σ H s):∀ b∈frs X.stack,b∈X.env.locals :: X.fs:=fun b hb=>by
 rcases I.ok.stk with e | ⟨e,hf⟩
 ·rw [e] at hb; exact List.mem_cons_of_mem _ hb
 ·rw [e] at hb
  unfold frs at hb
  rw [List.filterMap_cons,hf] at hb
  exact hb
theorem Inv.stkFree (I:Inv X pins σ H s):∀ b∈frs X.stack,H b=none:=fun b hb=>by
 rcases List.mem_cons.mp (I.stkSub b hb) with e | hb
 ·rw [e]; exact I.free
 ·obtain ⟨_,o,ho,_⟩:=I.ok.funs.mem hb
  exact I.base.free b o ho (I.ok.frf b hb) fun z=>I.ok.exfs b z hb
theorem Inv.step {g':Array GenState}{t':Nat}{d':Drawn}{ch:List Addr} (I:Inv X pins σ H s)
  (hch:∀ b∈ch,(b∈X.ex∨X.s₀.heap.objs.size≤b)∧b≠X.env.locals∧(∀ x c,X.env.cells.lookup x=some c→c≠b)∧∀ p∈X.pn++pins,p.1≠b)
  (keep:∀ b o,b≠X.env.locals→b ∉ X.fs→b ∉ ch→s.heap.get? b=some o→H b=none→h'.get? b=some o)
  (slot:∀ b o,b≠X.env.locals→b∈X.fs→b ∉ ch→s.heap.get? b=some o→H b=none→∃ sl,h'.get? b=some { o with slots:=sl }) (free:∀ b o,b ∉ ch→s.heap.get? b=some o→H b=none→H' b=none)
  (there:∀ b o,b ∉ ch→s.heap.get? b=some o→∃ o',h'.get? b=some o')
  (tups:∀ b xs,H b=some (.tup xs)→H' b=some (.tup xs)) (frzs:∀ b o u,H b=some (.frz o u)→H' b=some (.frz o u)) (tbls:∀ b ps,H b=some (.tbl ps)→∃ more,H' b=some (.tbl (ps++more)))
  (ns:∀ m,s.heap.Ns X.env.locals m→h'.Ns X.env.locals m) (hok:HOk X.prog X.w H' h') (hg:AllBare g') :
  Inv X pins σ H' { s with heap:=h',gens:=g',drawn:=d',toks:=t' }:=by
 have neL:∀ b o,X.s₀.heap.get? b=some o→b≠X.env.locals:=fun b o e=>Nat.ne_of_lt (Nat.lt_of_lt_of_le (Heap.lt_size e) I.ok.above)
 have neC:∀ b o,X.s₀.heap.get? b=some o→b ∉ X.ex→b ∉ ch:=fun b o e hx hb=>by
  rcases (hch b hb).1 with z | z
  ·exact hx z
  ·exact absurd (Nat.lt_of_lt_of_le (Heap.lt_size e) z) (Nat.lt_irrefl _)
 have cellK:∀ x c,X.env.cells.lookup x=some c→∀ v,s.heap.IsCell c v→h'.IsCell c v:=fun x c e v ⟨o,ho,hd⟩=>by
  have nch:c ∉ ch:=fun z=>(hch c z).2.2.1 x c e rfl
  by_cases hc:c∈X.fs
  ·obtain ⟨sl,q⟩:=slot c o (I.cne x c e) hc nch ho (I.freeC x c e)
   exact ⟨_,q,hd⟩
  ·exact ⟨o,keep c o (I.cne x c e) hc nch ho (I.freeC x c e),hd⟩
 refine ⟨I.ok,I.os,hg,⟨fun b o e n hb hx=>?_,fun b o e n hb hx=>?_,fun b o e n hx=>?_,fun b o e hx=>?_,fun b xs e=>tups b xs (I.base.tups b xs e),fun b o xs e=>frzs b o xs (I.base.frzs b o xs e),fun b ps e=>?_⟩,?_,fun x c e=>?_,?_,fun x c e=>?_,fun p hp=>?_,hok,I.len⟩
 ·exact keep b o (neL b o e) hb (neC b o e hx) (I.base.keep b o e n hb hx) (I.base.free b o e n hx)
 ·obtain ⟨sl,e1⟩:=I.base.slot b o e n hb hx
  obtain ⟨sl',e2⟩:=slot b _ (neL b o e) hb (neC b o e hx) e1 (I.base.free b o e n hx)
  exact ⟨sl',e2⟩
 ·obtain ⟨o',e1⟩:=I.base.there b o e hx
  exact free b o' (neC b o e hx) e1 (I.base.free b o e n hx)
 ·obtain ⟨o',e1⟩:=I.base.there b o e hx
  exact there b o' (neC b o e hx) e1
 ·obtain ⟨m1,e1⟩:=I.base.tbls b ps e
  obtain ⟨m2,e2⟩:=tbls b _ e1
  exact ⟨m1++m2,by rw [e2,Array.append_assoc]⟩
 ·obtain ⟨m,hn,hl⟩:=I.loc
  refine ⟨m,ns m hn,fun i x v e1 e2 e3=>?_⟩
  obtain ⟨u,r,l⟩:=hl i x v e1 e2 e3
  refine ⟨u,r,?_⟩
  rcases l with l | ⟨k,c,e,z⟩
  ·exact .inl l
  ·exact .inr ⟨k,c,e,cellK x c e _ z⟩
 ·obtain ⟨v,z⟩:=I.cell x c e
  exact ⟨v,cellK x c e v z⟩
 ·obtain ⟨m,⟨o,_,_,ho,_⟩,_⟩:=I.loc
  exact free _ o (fun z=>(hch _ z).2.1 rfl) ho I.free
 ·obtain ⟨v,o,ho,hd⟩:=I.cell x c e
  exact free c o (fun z=>(hch c z).2.2.1 x c e rfl) ho (I.freeC x c e)
 ·obtain ⟨e,n,ne,nf,d⟩:=I.pin p hp
  have nch:p.1 ∉ ch:=fun z=>(hch p.1 z).2.2.2 p hp rfl
  exact ⟨keep p.1 p.2 ne nf nch e n,free p.1 p.2 nch e n,ne,nf,d⟩
theorem Inv.un {t':Nat} (I:Inv X pins σ H s) (u:Un X.fs [] H H' s.heap h') (hok:HOk X.prog X.w H' h'):Inv X pins σ H' { s with heap:=h',toks:=t' }:=by
 obtain ⟨m,⟨o,es,ep,ho,r⟩,_⟩:=id I.loc
 obtain ⟨sl,hL⟩:=u.any ho I.free (by simp)
 exact I.step (g':=s.gens) (d':=s.drawn) (ch:=[]) (fun _ z=>nomatch z) (fun b o _ hb _ e n=>u.keep b o e n hb (by simp)) (fun b o _ hb _ e n=>u.slot b o e n hb (by simp)) (fun b o _ e n=>u.free b o e n (by simp)) (fun b o _ e=>u.there b o e (by simp)) u.tups u.frzs u.tbls (fun m' hm=>by
  obtain ⟨o',es',ep',ho',r'⟩:=hm
  rw [ho] at ho'; cases ho'
  exact ⟨_,es',ep',hL,r'⟩) hok I.bare
theorem Inv.call {g':Array GenState}{t':Nat}{d':Drawn}{ch:List Addr} (I:Inv X pins σ H s) (u:Un (frs X.stack) ch H H' s.heap h') (hok:HOk X.prog X.w H' h') (hg:AllBare g')
  (hch:∀ b∈ch,(b∈X.ex∨X.s₀.heap.objs.size≤b)∧b≠X.env.locals∧(∀ x c,X.env.cells.lookup x=some c→c≠b)∧∀ p∈X.pn++pins,p.1≠b) :
  Inv X pins σ H' { s with heap:=h',gens:=g',drawn:=d',toks:=t' }:=by
 obtain ⟨m,⟨o,es,ep,ho,r⟩,_⟩:=id I.loc
 obtain ⟨sl,hL⟩:=u.any ho I.free fun z=>(hch _ z).2.1 rfl
 exact I.step (ch:=ch) hch (fun b o hL hb hc e n=>u.keep b o e n (fun z=>(List.mem_cons.mp (I.stkSub b z)).elim hL hb) hc) (fun b o _ _ hc e n=>u.any e n hc) (fun b o hc e n=>u.free b o e n hc) (fun b o hc e=>u.there b o e hc) u.tups u.frzs u.tbls (fun m' hm=>by
  obtain ⟨o',es',ep',ho',r'⟩:=hm
  rw [ho] at ho'; cases ho'
  exact ⟨_,es',ep',hL,r'⟩) hok hg
theorem Inv.turned {t':Nat}{it:Addr} (I:Inv X pins σ H s) (k:∀ b o,b≠it→s.heap.get? b=some o→h'.get? b=some o) (hn:H it=none) (hL:it≠X.env.locals)
  (h1:it∈X.ex∨X.s₀.heap.objs.size≤it) (h2:∀ x c,X.env.cells.lookup x=some c→c≠it) (h3:∀ p∈X.pn++pins,p.1≠it):Inv X pins σ H { s with heap:=h',toks:=t' }:=by
 have nit:∀ b u,H b=some u→b≠it:=fun b u e z=>by rw [z,hn] at e; cases e
 refine I.step (g':=s.gens) (d':=s.drawn) (ch:=[it]) (fun b hb=>?_) (fun b o _ _ hc e _=>k b o (fun z=>hc (by simp [z])) e) (fun b o _ _ hc e _=>⟨o.slots,k b o (fun z=>hc (by simp [z])) e⟩) (fun _ _ _ _ n=>n)
  (fun b o hc e=>⟨o,k b o (fun z=>hc (by simp [z])) e⟩) (fun _ _ e=>e) (fun _ _ _ e=>e) (fun b ps e=>⟨#[],by rw [e]; simp⟩) (fun m hm=>?_) (fun b u e=>?_) I.bare
 ·have e:b=it:=by simpa using hb
  subst e
  exact ⟨h1,hL,h2,h3⟩
 ·obtain ⟨o,es,ep,ho,r⟩:=hm
  exact ⟨o,es,ep,k _ o (Ne.symm hL) ho,r⟩
 ·refine (I.hok b u e).stay (fun c v hc q=>k c v ?_ q) (fun _ q=>q) fun _ _ q=>q
  rcases hc with z | z
  ·rw [z]; exact nit b u e
  ·exact nit c _ z
theorem Inv.tok (I:Inv X pins σ H s) (t:Nat):Inv X pins σ H { s with toks:=t }:=I.un (h':=s.heap) (t':=t) Un.refl I.hok
theorem Inv.kept {t':Nat} (I:Inv X pins σ H s) (k:∀ b u,s.heap.get? b=some u→h'.get? b=some u):Inv X pins σ H { s with heap:=h',toks:=t' }:=I.un (Un.kept k) (I.hok.kept k)
theorem Inv.laid {a:Addr}{o:HO}{t':Nat} (I:Inv X pins σ H s) (k:∀ b u,s.heap.get? b=some u→h'.get? b=some u) (hp:s.heap.objs.size≤a) (new:ObjOk X.prog X.w (upd H a o) h' a o) :
  Inv X pins σ (upd H a o) { s with heap:=h',toks:=t' }:=I.un (Un.laid k hp (I.hok.fresh hp)) (I.hok.laid k hp new)
theorem Inv.write {x e:Addr}{o:HO}{t':Nat} (I:Inv X pins σ H s) (mu:Mut (H x)) (he:e=x∨H e=some (.own x)) (k:∀ b u,b≠e→s.heap.get? b=some u→h'.get? b=some u) (heo:∃ u,h'.get? e=some u)
  (new:ObjOk X.prog X.w (upd H x o) h' x o):Inv X pins σ (upd H x o) { s with heap:=h',toks:=t' }:=I.un (Un.write mu he k heo) (I.hok.write mu he k heo new)
theorem Inv.pins_of {pins':List (Addr × Obj)} (I:Inv X pins σ H s) (h:∀ p∈pins',s.heap.get? p.1=some p.2∧H p.1=none∧p.1≠X.env.locals∧p.1 ∉ X.fs∧∀ v,p.2.data≠.cell v):Inv X pins' σ H s :=
 ⟨I.ok,I.os,I.bare,I.base,I.loc,I.cell,I.free,I.freeC,fun p hp=>(List.mem_append.mp hp).elim (fun z=>I.pin p (List.mem_append_left _ z)) (h p),I.hok,I.len⟩
theorem zakc {N:List Str} (hN:N.Nodup) {i j:Nat}{x:Str} (a:N[i]?=some x) (b:N[j]?=some x):i=j:=by
 obtain ⟨h1,e1⟩:=List.getElem?_eq_some_iff.mp a
 obtain ⟨h2,e2⟩:=List.getElem?_eq_some_iff.mp b
 exact (List.getElem_inj hN).mp (e1.trans e2.symm)
theorem zall {M:Model}{A:Around}{E:Value→Shared→Prop}{i:Nat}{x:Str}{v:V}{u:Value}{Q:Unit→Shared→Prop} (I:Inv X pins σ H s) (hN:X.N.Nodup) (hi:X.N[i]?=some x) (hx:Loc X.env.scope x) (r:RelV v u)
  (h:∀ s',Inv X pins (σ.set i (some v)) H s'→(∃ a,Heap.SameBut a s.heap s'.heap∧(a=X.env.locals∨X.env.cells.lookup x=some a))→Q () s') (hf:X.fn x=true∨X.env.scope.names.lookup x=some .local:=by first | exact .inl rfl | exact .inr rfl | assumption):wpAny M A (storeName X.env x u) Q E s:=by
 obtain ⟨m,hn,hl⟩:=id I.loc
 have hcls:(X.env.scope.kind == .class || (X.env.scope.kind == .module && X.env.locals != X.env.globals))=false:=by rw [I.ok.kind]; rfl
 have hiσ:i < σ.length:=by rw [I.len]; exact (List.getElem?_eq_some_iff.mp hi).1
 have cne:=I.cne
 have tracked:∀ {a:Addr}{h':Heap},(∃ o,s.heap.get? a=some o∧H a=none)→Heap.SameBut a s.heap h'→HOk X.prog X.w H h':=fun {a h'} ha hs b ob e=>by
  obtain ⟨_,_,hfree⟩:=ha
  refine (I.hok b ob e).stay (fun c w' hc q=>(hs.2 c ?_).trans q) (fun _ q=>q) fun _ _ q=>q
  rintro rfl
  rcases hc with rfl | hc
  ·rw [hfree] at e; cases e
  ·rw [hfree] at hc; cases hc
 rcases hx with hk | hk
 ·refine wpAny_storeName_local hk hn (fun h' hn' hs=>?_) hcls
  obtain ⟨oL,_,_,hoL,_⟩:=id hn
  refine h _ ⟨I.ok,I.os,I.bare,⟨fun b o e n hb hx=>?_,fun b o e n hb hx=>?_,I.base.free,fun b o e hx=>?_,I.base.tups,I.base.frzs,I.base.tbls⟩,⟨_,hn',fun j y v' e1 e2 e3=>?_⟩,fun y c e=>?_,I.free,I.freeC,fun p hp=>?_,tracked ⟨oL,hoL,I.free⟩ hs,by simpa using I.len⟩ ⟨_,hs,.inl rfl⟩
  ·exact (hs.2 b (Nat.ne_of_lt (Nat.lt_of_lt_of_le (Heap.lt_size e) I.ok.above))).trans (I.base.keep b o e n hb hx)
  ·obtain ⟨sl,e1⟩:=I.base.slot b o e n hb hx
   exact ⟨sl,(hs.2 b (Nat.ne_of_lt (Nat.lt_of_lt_of_le (Heap.lt_size e) I.ok.above))).trans e1⟩
  ·obtain ⟨o',e1⟩:=I.base.there b o e hx
   exact ⟨o',(hs.2 b (Nat.ne_of_lt (Nat.lt_of_lt_of_le (Heap.lt_size e) I.ok.above))).trans e1⟩
  ·by_cases hj:j=i
   ·subst hj
    rw [hi] at e1; cases e1
    rw [List.getElem?_set_self hiσ] at e2
    cases e2
    exact ⟨u,r,.inl ⟨hk,by simp⟩⟩
   ·rw [List.getElem?_set_ne (Ne.symm hj)] at e2
    obtain ⟨u',r',q⟩:=hl j y v' e1 e2 e3
    refine ⟨u',r',?_⟩
    rcases q with ⟨k,e⟩ | ⟨k,c,e,z⟩
    ·refine .inl ⟨k,?_⟩
     have:y≠x:=fun e=>hj (zakc hN e1 (e ▸ hi))
     simp [this,e]
    ·exact .inr ⟨k,c,e,z.sameBut hs (cne y c e)⟩
  ·obtain ⟨w',z⟩:=I.cell y c e
   exact ⟨w',z.sameBut hs (cne y c e)⟩
  ·obtain ⟨e,n,ne,nf,d⟩:=I.pin p hp
   exact ⟨(hs.2 p.1 ne).trans e,n,ne,nf,d⟩
 ·have hfn:X.fn x=true:=by
   rcases hf with z | z
   ·exact z
   ·rw [z] at hk; cases hk
  obtain ⟨c,hc⟩:=I.ok.has x (.inl hk)
  obtain ⟨w',z⟩:=I.cell x c hc
  refine wpAny_storeName_cell I.ok.kind hk hc z (fun h' hc' hs=>?_)
  obtain ⟨oc,hoc,hocd⟩:=id z
  refine h { s with heap:=h' } ⟨I.ok,I.os,I.bare,⟨fun b o e n hb hx=>?_,fun b o e n hb hx=>?_,I.base.free,fun b o e hx=>?_,I.base.tups,I.base.frzs,I.base.tbls⟩,⟨m,hn.sameBut hs (Ne.symm (cne x c hc)),fun j y v' e1 e2 e3=>?_⟩,fun y c' e=>?_,I.free,I.freeC,fun p hp=>?_,tracked ⟨oc,hoc,I.freeC x c hc⟩ hs,by simpa using I.len⟩ ⟨c,hs,.inr hc⟩
  ·exact (hs.2 b (Nat.ne_of_lt (Nat.lt_of_lt_of_le (Heap.lt_size e) (I.ok.cab x c hfn hc)))).trans (I.base.keep b o e n hb hx)
  ·obtain ⟨sl,e1⟩:=I.base.slot b o e n hb hx
   exact ⟨sl,(hs.2 b (Nat.ne_of_lt (Nat.lt_of_lt_of_le (Heap.lt_size e) (I.ok.cab x c hfn hc)))).trans e1⟩
  ·obtain ⟨o',e1⟩:=I.base.there b o e hx
   exact ⟨o',(hs.2 b (Nat.ne_of_lt (Nat.lt_of_lt_of_le (Heap.lt_size e) (I.ok.cab x c hfn hc)))).trans e1⟩
  ·by_cases hj:j=i
   ·subst hj
    rw [hi] at e1; cases e1
    rw [List.getElem?_set_self hiσ] at e2
    cases e2
    exact ⟨u,r,.inr ⟨.inl hk,c,hc,hc'⟩⟩
   ·rw [List.getElem?_set_ne (Ne.symm hj)] at e2
    obtain ⟨u',r',q⟩:=hl j y v' e1 e2 e3
    refine ⟨u',r',?_⟩
    rcases q with q | ⟨k,c',e,z'⟩
    ·exact .inl q
    ·refine .inr ⟨k,c',e,z'.sameBut hs ?_⟩
     rintro rfl
     exact hj (zakc hN e1 (I.ok.inj _ _ _ e hc ▸ hi))
  ·by_cases hcc:c'=c
   ·subst hcc; exact ⟨_,hc'⟩
   ·obtain ⟨w2,z2⟩:=I.cell y c' e
    exact ⟨w2,z2.sameBut hs hcc⟩
  ·obtain ⟨e,n,ne,nf,d⟩:=I.pin p hp
   refine ⟨(hs.2 p.1 ?_).trans e,n,ne,nf,d⟩
   intro q
   rw [q,hoc] at e
   have q':oc=p.2:=Option.some.inj e
   exact d w' (by rw [← q']; exact hocd)
theorem zakd {M:Model}{A:Around}{E:Value→Shared→Prop}{i:Nat}{x:Str}{v:V}{u:Value}{Q:Unit→Shared→Prop} (I:Inv X pins σ H s) (hN:X.N.Nodup) (hi:X.N[i]?=some x) (hx:Loc X.env.scope x) (r:RelV v u)
  (h:∀ s',Inv X pins (σ.set i (some v)) H s'→Q () s') (hf:X.fn x=true∨X.env.scope.names.lookup x=some .local:=by first | exact .inl rfl | exact .inr rfl | assumption):wpAny M A (storeName X.env x u) Q E s :=
 zall I hN hi hx r (fun s' I' _=>h s' I') hf
theorem Inv.call' {s':Shared}{ch:List Addr} (I:Inv X pins σ H s) (ho:s'.os=s.os) (u:Un (frs X.stack) ch H H' s.heap s'.heap) (hok:HOk X.prog X.w H' s'.heap) (hg:AllBare s'.gens)
  (hch:∀ b∈ch,(b∈X.ex∨X.s₀.heap.objs.size≤b)∧b≠X.env.locals∧(∀ x c,X.env.cells.lookup x=some c→c≠b)∧∀ p∈X.pn++pins,p.1≠b):Inv X pins σ H' s':=by
 obtain ⟨h',g',d',t',o'⟩:=s'
 have e:o'=s.os:=ho
 subst e
 exact I.call (g':=g') (t':=t') (d':=d') u hok hg hch
end
abbrev XK:=Value→Option Addr→Hp→Prop
abbrev St:=List (Option V)
abbrev VK:=V→Hp→Prop
abbrev TE:=St→Hp→VK→Prop
abbrev TT:=St→Hp→(Bool→Hp→Prop)→Prop
abbrev TA:=St→Hp→(List V→Hp→Prop)→Prop
structure Ends where
 nx:St→Hp→Prop
 rt:VK
 bk:St→Hp→Prop:=fun _ _=>False
 ct:St→Hp→Prop:=fun _ _=>False
abbrev TS:=Ends→St→Hp→Prop
def EP (X:Cx) (pins:List (Addr × Obj)) (σ:St) (Q:VK) (u:Value) (s':Shared):Prop:=∃ v H',Inv X pins σ H' s'∧RelV v u∧Q v H'
def TP (X:Cx) (pins:List (Addr × Obj)) (σ:St) (Q:Bool→Hp→Prop) (b:Bool) (s':Shared):Prop:=∃ H',Inv X pins σ H' s'∧Q b H'
def AP (X:Cx) (pins:List (Addr × Obj)) (σ:St) (Q:List V→Hp→Prop) (us:List Value) (s':Shared):Prop:=∃ vs H',Inv X pins σ H' s'∧Vals vs us∧Q vs H'
def SP (X:Cx) (pins:List (Addr × Obj)) (D:Ends) (f:Flow) (s':Shared):Prop :=
 match f with
 | .next=>∃ σ' H',Inv X pins σ' H' s'∧D.nx σ' H'
 | .brk=>∃ σ' H',Inv X pins σ' H' s'∧D.bk σ' H'
 | .cont=>∃ σ' H',Inv X pins σ' H' s'∧D.ct σ' H'
 | .ret u=>∃ v σ' H',Inv X pins σ' H' s'∧RelV v u∧D.rt v H'
def PE (X:Cx) (e:Expr) (t:TE):Prop :=
 ∀ (pins:List (Addr × Obj)) (s:Shared) (σ:St) (H:Hp) (Q:VK),Inv X pins σ H s→t σ H Q→wpAny (model X.prog X.w) X.A (eval e X.env) (EP X pins σ Q) X.xe s
def PT (X:Cx) (e:Expr) (t:TT):Prop :=
 ∀ (pins:List (Addr × Obj)) (s:Shared) (σ:St) (H:Hp) (Q:Bool→Hp→Prop),Inv X pins σ H s→t σ H Q→wpAny (model X.prog X.w) X.A (isTrue e X.env (eval e X.env)) (TP X pins σ Q) X.xe s
def PW (X:Cx) (e:Expr) (t:TT):Prop :=
 ∀ (whole:Sem Value) (pins:List (Addr × Obj)) (s:Shared) (σ:St) (H:Hp) (Q:Bool→Hp→Prop),Inv X pins σ H s→t σ H Q→wpAny (model X.prog X.w) X.A (isTrue e X.env whole) (TP X pins σ Q) X.xe s
theorem PW.pt {X:Cx}{e:Expr}{t:TT} (h:PW X e t):PT X e t:=h _
def PA (X:Cx) (es:List Expr) (t:TA):Prop :=
 ∀ (pos:Pos) (pins:List (Addr × Obj)) (s:Shared) (σ:St) (H:Hp) (Q:List V→Hp→Prop),Inv X pins σ H s→t σ H Q→wpAny (model X.prog X.w) X.A (spliced (backTo pos (starEach es X.env))) (AP X pins σ Q) X.xe s
def PS (X:Cx) (st:Stmt) (t:TS):Prop :=
 ∀ (pins:List (Addr × Obj)) (s:Shared) (σ:St) (H:Hp) (D:Ends),Inv X pins σ H s→t D σ H→wpAny (model X.prog X.w) X.A (exec st X.env) (SP X pins D) X.xe s
def PSs (X:Cx) (st:List Stmt) (t:TS):Prop :=
 ∀ (pins:List (Addr × Obj)) (s:Shared) (σ:St) (H:Hp) (D:Ends),Inv X pins σ H s→t D σ H→wpAny (model X.prog X.w) X.A (execs st X.env) (SP X pins D) X.xe s
theorem thn {α:Type}{t:Sem α}{Q Q':α→Shared→Prop}{M:Model}{A:Around}{E:Value→Shared→Prop}{s:Shared} (h:wpAny M A t Q E s) (hQ:∀ a s,Q a s→Q' a s):wpAny M A t Q' E s:=wpAny_mono h hQ fun _ _ x=>x
section
variable {X:Cx}
def tVar (i:Nat):TE:=fun σ H Q=>∃ v,σ[i]?=some (some v)∧Q v H
def tC (v:V):TE:=fun _ H Q=>Q v H
theorem zas2 {i:Nat}{x:Str}{pos:Pos} (hN:X.N[i]?=some x) (hv:Vis X.env.scope x) (hd:(x == ("__debug__" : Str))=false:=by decide) (hcd:(x == ("__classdict__" : Str))=false:=by decide):PE X (.Name x pos) (tVar i):=by
 intro pins s σ H Q I h
 obtain ⟨v,e,h⟩:=h
 obtain ⟨m,hn,hl⟩:=I.loc
 obtain ⟨u,r,l⟩:=hl i x v hN e hv
 have fin:EP X pins σ Q u s:=⟨v,H,I,r,h⟩
 rcases l with ⟨hk,hm⟩ | ⟨hk,c,hc,hcell⟩
 ·exact wpAny_Name (wpAny_loadName_local I.ok.kind hk hn hm fin) hd
 ·rcases hk with hk | hk
  ·exact wpAny_Name (wpAny_loadName_cell I.ok.kind hk hc hcell fin) hd
  ·exact wpAny_Name (wpAny_loadName_free I.ok.kind hk hc hcell fin hcd) hd
theorem zas3 {i j pos}:PE X (.Constant (.int i) j pos) (tC (.int i)):=fun _ _ _ H _ I h=>wpAny_Constant_int ⟨.int i,H,I.tok _,⟨_,rfl⟩,h⟩
theorem zau0 {b j pos}:PE X (.Constant (.bool b) j pos) (tC (.bl b)):=fun _ _ _ H _ I h=>Constant_bool ⟨.bl b,H,I,rfl,h⟩
theorem zas4 {j pos}:PE X (.Constant .none j pos) (tC .non):=fun _ _ _ H _ I h=>Constant_none ⟨.non,H,I,rfl,h⟩
theorem zas5 {x j pos}:PE X (.Constant (.str x) j pos) (tC (.str x)):=fun _ _ _ H _ I h=>Calls.Constant_str ⟨.str x,H,I.tok _,⟨_,rfl⟩,h⟩
def Gl (X:Cx) (x:Str):Prop:=X.env.kindOf x=some .globalImplicit
theorem zajh {E:Value→Shared→Prop}{pins:List (Addr × Obj)}{s:Shared}{σ:St}{H:Hp}{x:Str}{u:Value}{pos:Pos}{Q:Value→Shared→Prop} (I:Inv X pins σ H s) (hg:Gl X x) (hm:X.mg x=some u) (h:Q u s)
  (hd:(x == ("__debug__" : Str))=false:=by decide):wpAny (model X.prog X.w) X.A (eval (.Name x pos) X.env) Q E s :=
 Calls.Name_function_global I.ok.kind hg (Calls.loadGlobal_global (by rw [I.ok.glob]; exact I.mod.glob.keeps I.bk) hm h) hd
theorem zad9 {E:Value→Shared→Prop}{pins:List (Addr × Obj)}{s:Shared}{σ:St}{H:Hp}{x:Str}{u:Value}{pos:Pos}{Q:Value→Shared→Prop} (I:Inv X pins σ H s) (hg:Gl X x) (hm:X.mg x=none) (hv:bootBuiltins x=some u) (h:Q u s)
  (hn:x ≠ "__name__" := by decide) (hd:(x == ("__debug__" : Str))=false:=by decide):wpAny (model X.prog X.w) X.A (eval (.Name x pos) X.env) Q E s:=by
 obtain ⟨mb,h1,h2⟩:=I.mod.blt
 exact Calls.Name_function_global I.ok.kind hg (Calls.loadGlobal_builtin (by rw [I.ok.glob]; exact I.mod.glob.keeps I.bk) hm (by rw [I.ok.blt]; exact h1.keeps I.bk) ((h2 x hn).trans hv) h) hd
theorem zaqx {x:Str}{v:V}{u:Value}{pos:Pos} (hg:Gl X x) (hm:X.mg x=some u) (r:RelV v u) (hd:(x == ("__debug__" : Str))=false:=by decide):PE X (.Name x pos) (tC v) :=
 fun _ _ _ H _ I h=>zajh I hg hm ⟨v,H,I,r,h⟩ hd
theorem zaqy {x:Str}{v:V}{u:Value}{pos:Pos} (hg:Gl X x) (hm:X.mg x=none) (hv:bootBuiltins x=some u) (r:RelV v u) (hn:x ≠ "__name__" := by decide) (hd:(x == ("__debug__" : Str))=false:=by decide):PE X (.Name x pos) (tC v) :=
 fun _ _ _ H _ I h=>zad9 I hg hm hv ⟨v,H,I,r,h⟩ hn hd
variable {a b:Expr}{ta tb:TE}{pos:Pos}
def PC (X:Cx) (op:CmpOp) (a b:Expr) (t:TE):Prop :=
 ∀ (pins:List (Addr × Obj)) (s:Shared) (σ:St) (H:Hp) (Q:VK),Inv X pins σ H s→t σ H Q →
  wpAny (model X.prog X.w) X.A (eval a X.env) (fun v s₁=>wpAny (model X.prog X.w) X.A (eval b X.env) (fun u s₂=>wpAny (model X.prog X.w) X.A (compareOp op v u) (EP X pins σ Q) X.xe s₂) X.xe s₁) X.xe s
def tB (t:TE):TT:=fun σ H Q=>t σ H fun x H1=>∃ c,x=.bl c∧Q c H1
theorem zap0 {op:CmpOp}{t:TE} (h:PC X op a b t) (h1:behindInMarks op b=false:=by first | exact nobehind _ (by decide) (by decide) | rfl):PT X (.Compare a [op] [b] pos) (tB t):=by
 intro pins s σ H Q I hw
 refine wpAny_isTrue_Compare1 (thn (h pins s σ H _ I hw) fun v s1 h1=>thn h1 fun u s2 h2=>thn h2 fun c s3 ⟨x,H1,I1,r1,q1⟩=>?_) h1
 obtain ⟨d,rfl,q⟩:=q1
 cases r1
 exact wpAny_truthy_bool ⟨H1,I1,q⟩
theorem zas6 {e:Expr}{t:TE} (h:PE X e t) (he:∀ whole,isTrue e X.env whole=(do let v ← whole; standAt e.pos; holding [v] (truthy v)):=by intro _; rfl):PT X e (tB t):=by
 intro pins s σ H Q I hw
 refine isTrue_plain (thn (h pins s σ H _ I hw) fun v s1 ⟨x,H1,I1,r1,q1⟩=>?_) (he _)
 obtain ⟨d,rfl,q⟩:=q1
 cases r1
 exact wpAny_truthy_bool ⟨H1,I1,q⟩
variable {tA tB':TT}{rest:List Expr}
def tAnd (t u:TT):TT:=fun σ H Q=>t σ H fun c H1=>if c=true then u σ H1 Q else Q false H1
def tOr (t u:TT):TT:=fun σ H Q=>t σ H fun c H1=>if c=true then Q true H1 else u σ H1 Q
def tNot (t:TT):TT:=fun σ H Q=>t σ H fun c H1=>Q (!c) H1
theorem zaqz (ha:PT X a tA):PW X (.BoolOp .And [a] pos) tA:=by
 intro wh pins s σ H Q I h
 refine isTrue_and (thn (ha pins s σ H Q I h) fun c s1 e=>?_)
 cases c with
 | true=>exact isTrue_and_nil e
 | false=>exact e
theorem zas7 (ha:PT X a tA):PW X (.BoolOp .Or [a] pos) tA:=by
 intro wh pins s σ H Q I h
 refine isTrue_or (thn (ha pins s σ H Q I h) fun c s1 e=>?_)
 cases c with
 | false=>exact isTrue_or_nil e
 | true=>exact e
theorem zas8 (ha:PT X a tA) (hb:PW X (.BoolOp .And (b :: rest) pos) tB'):PW X (.BoolOp .And (a :: b :: rest) pos) (tAnd tA tB'):=by
 intro wh pins s σ H Q I h
 refine isTrue_and (thn (ha pins s σ H _ I h) fun c s1 ⟨H1,I1,q1⟩=>?_)
 cases c with
 | true=>exact hb wh pins s1 σ H1 Q I1 q1
 | false=>exact ⟨H1,I1,q1⟩
theorem zau1 (ha:PT X a tA) (hb:PW X (.BoolOp .Or (b :: rest) pos) tB'):PW X (.BoolOp .Or (a :: b :: rest) pos) (tOr tA tB'):=by
 intro wh pins s σ H Q I h
 refine isTrue_or (thn (ha pins s σ H _ I h) fun c s1 ⟨H1,I1,q1⟩=>?_)
 cases c with
 | true=>exact ⟨H1,I1,q1⟩
 | false=>exact hb wh pins s1 σ H1 Q I1 q1
theorem zas9 (ha:PT X a tA):PT X (.UnaryOp .Not a pos) (tNot tA):=by
 intro pins s σ H Q I h
 exact isTrue_not (ha pins s σ H (fun c H1=>Q (!c) H1) I h)
def tAndV (ta tb:TE):TE:=fun σ H Q=>ta σ H fun x H1=>∃ c,x=.bl c∧if c=true then tb σ H1 Q else Q (.bl false) H1
def tNotV (ta:TE):TE:=fun σ H Q=>ta σ H fun x H1=>∃ c,x=.bl c∧Q (.bl (!c)) H1
theorem zata {op}{t:TE} (h:PE X a t):PE X (.BoolOp op [a] pos) t:=fun pins s σ H Q I hw=>BoolOp_one (h pins s σ H Q I hw)
theorem zatb (ha:PE X a ta) (hb:PE X (.BoolOp .And (b :: rest) pos) tb):PE X (.BoolOp .And (a :: b :: rest) pos) (tAndV ta tb):=by
 intro pins s σ H Q I h
 refine BoolOp_and (thn (ha pins s σ H _ I h) fun v s1 ⟨x,H1,I1,r1,q1⟩=>?_)
 obtain ⟨c,rfl,q1⟩:=q1
 cases r1
 refine wpAny_truthy_bool ?_
 cases c with
 | true=>exact hb pins s1 σ H1 Q I1 q1
 | false=>exact ⟨.bl false,H1,I1,rfl,q1⟩
theorem zatc (ha:PE X a ta):PE X (.UnaryOp .Not a pos) (tNotV ta):=by
 intro pins s σ H Q I h
 refine UnaryOp_ (thn (ha pins s σ H _ I h) fun v s1 ⟨x,H1,I1,r1,q1⟩=>?_)
 obtain ⟨c,rfl,q1⟩:=q1
 cases r1
 exact not_of (wpAny_truthy_bool ⟨.bl (!c),H1,I1,rfl,q1⟩)
def tIf (t:TT) (ta tb:TE):TE:=fun σ H Q=>t σ H fun c H1=>if c=true then ta σ H1 Q else tb σ H1 Q
theorem zaod {c:Expr} (hc:PT X c tA) (ha:PE X a ta) (hb:PE X b tb):PE X (.IfExp c a b pos) (tIf tA ta tb):=by
 intro pins s σ H Q I h
 refine wpAny_IfExp (thn (hc pins s σ H _ I h) fun d s1 ⟨H1,I1,q1⟩=>?_)
 cases d with
 | true=>exact ha pins s1 σ H1 Q I1 q1
 | false=>exact hb pins s1 σ H1 Q I1 q1
end
def SqL (K:PySem.W.Frag) (H:Hp) (a:Addr) (xs:List V):Prop :=
 Rd H a (.lst xs) ∨
  ∃ (o:Obj) (its:Array Value) (n:Nat),K.lookup a=some o∧o.cls=.type "list" ∧ o.dict=none∧o.data=.seq its n∧its.size≤sizeLine∧Vals xs its.toList
def SqT (K:PySem.W.Frag) (H:Hp) (a:Addr) (xs:List V):Prop :=
 Rd H a (.tup xs) ∨
  ∃ (o:Obj) (its:Array Value) (n:Nat),K.lookup a=some o∧o.cls=.type "tuple" ∧ o.data=.seq its n∧its.size≤sizeLine∧Vals xs its.toList
def absV:Value→Option V
 | .none=>some .non
 | .bool b=>some (.bl b)
 | .int i _=>some (.int i)
 | .str x _=>some (.str x)
 | .bytes b _=>some (.byt b)
 | .float b _=>some (.flt b)
 | .ref a=>some (.ref a)
 | .type n=>some (.ty n)
 | _=>none
theorem RelV.abs {x:V}{u:Value} (r:RelV x u):absV u=some x:=by
 cases x with
 | non=>cases r; rfl
 | bl _=>cases r; rfl
 | int _=>obtain ⟨t,rfl⟩:=r; rfl
 | str _=>obtain ⟨t,rfl⟩:=r; rfl
 | byt _=>obtain ⟨t,rfl⟩:=r; rfl
 | flt _=>obtain ⟨t,rfl⟩:=r; rfl
 | ref _=>cases r; rfl
 | ty _=>cases r; rfl
theorem RelV.inj {x y:V}{u:Value} (r:RelV x u) (q:RelV y u):x=y:=Option.some.inj (r.abs.symm.trans q.abs)
theorem Vals.inj:∀ {xs ys:List V}{us:List Value},Vals xs us→Vals ys us→xs=ys
 | _,_,_,.nil,.nil=>rfl
 | _,_,_,.cons r t,.cons r' t'=>by rw [r.inj r',Vals.inj t t']
section
variable {X:Cx}{pins:List (Addr × Obj)}{σ:St}{H:Hp}{s:Shared}{a:Addr}{xs ys:List V}
theorem SqL.of {K:PySem.W.Frag} (h:H a=some (.lst xs)):SqL K H a xs:=.inl (.inl h)
theorem SqT.of {K:PySem.W.Frag} (h:H a=some (.tup xs)):SqT K H a xs:=.inl (.inl h)
theorem Inv.list (I:Inv X pins σ H s) (h:SqL X.K H a xs):∃ its:List Value,Vals xs its∧PlainL s.heap a its.toArray∧xs.length≤sizeLine:=by
 rcases h with h | ⟨o,its,n,hk,hc,hd,hs,hz,r⟩
 ·obtain ⟨z,its,n,r,e⟩:=h.ok I.hok
  exact ⟨its,r,⟨_,n,e,rfl,rfl,rfl⟩,z⟩
 ·refine ⟨its.toList,r,⟨o,n,I.kIn a o hk,hc,hd,by simpa using hs⟩,?_⟩
  have e:=r.length
  simp only [Array.length_toList] at e
  omega
theorem Inv.tuple (I:Inv X pins σ H s) (h:SqT X.K H a xs):∃ its:List Value,Vals xs its∧IsTup s.heap a its.toArray∧xs.length≤sizeLine:=by
 rcases h with h | ⟨o,its,n,hk,hc,hs,hz,r⟩
 ·obtain ⟨z,its,r,p⟩:=h.ok I.hok
  exact ⟨its,r,p,z⟩
 ·refine ⟨its.toList,r,⟨o,I.kIn a o hk,hc,n,by simpa using hs⟩,?_⟩
  have e:=r.length
  simp only [Array.length_toList] at e
  omega
theorem Inv.list_inj (I:Inv X pins σ H s) (h:SqL X.K H a xs) (h':SqL X.K H a ys):xs=ys:=by
 obtain ⟨its,r,⟨o,n,e,_,_,d⟩,_⟩:=I.list h
 obtain ⟨its',r',⟨o',n',e',_,_,d'⟩,_⟩:=I.list h'
 rw [e] at e'; cases e'
 rw [d] at d'
 injection d' with d1 _
 have:its=its':=by simpa using congrArg Array.toList d1
 subst this
 exact r.inj r'
theorem Inv.tuple_inj (I:Inv X pins σ H s) (h:SqT X.K H a xs) (h':SqT X.K H a ys):xs=ys:=by
 obtain ⟨its,r,⟨o,e,_,n,d⟩,_⟩:=I.tuple h
 obtain ⟨its',r',⟨o',e',_,n',d'⟩,_⟩:=I.tuple h'
 rw [e] at e'; cases e'
 rw [d] at d'
 injection d' with d1 _
 have:its=its':=by simpa using congrArg Array.toList d1
 subst this
 exact r.inj r'
end
abbrev Cx.wish (X:Cx) (E:Value→Shared→Prop):Cx:={ X with xe:=E }
abbrev Cx.nox (X:Cx):Cx:=X.wish fun _ _=>False
theorem Cx.Ok.wish {X:Cx} (ok:X.Ok) (E:Value→Shared→Prop):(X.wish E).Ok :=
 ⟨ok.mod,ok.kind,ok.glob,ok.blt,ok.above,ok.inj,ok.has,ok.cab,ok.hd,ok.frames,ok.stk,ok.exf,ok.bs,ok.bsz,ok.noex,ok.exfs,ok.funs,ok.frf⟩
theorem Cx.Ok.unwish {X:Cx}{E:Value→Shared→Prop} (ok:(X.wish E).Ok):X.Ok :=
 ⟨ok.mod,ok.kind,ok.glob,ok.blt,ok.above,ok.inj,ok.has,ok.cab,ok.hd,ok.frames,ok.stk,ok.exf,ok.bs,ok.bsz,ok.noex,ok.exfs,ok.funs,ok.frf⟩
section
variable {X:Cx}{pins:List (Addr × Obj)}{σ:St}{H:Hp}{s:Shared}{E:Value→Shared→Prop}
theorem Inv.wish (I:Inv X pins σ H s) (E:Value→Shared→Prop):Inv (X.wish E) pins σ H s:=⟨I.ok.wish E,I.os,I.bare,I.base,I.loc,I.cell,I.free,I.freeC,I.pin,I.hok,I.len⟩
theorem Inv.unwish (I:Inv (X.wish E) pins σ H s):Inv X pins σ H s:=⟨I.ok.unwish,I.os,I.bare,I.base,I.loc,I.cell,I.free,I.freeC,I.pin,I.hok,I.len⟩
theorem SP.unwish {D:Ends}{f:Flow}{s':Shared} (h:SP (X.wish E) pins D f s'):SP X pins D f s':=by
 cases f with
 | next=>obtain ⟨σ',H',I,q⟩:=h; exact ⟨σ',H',I.unwish,q⟩
 | brk=>obtain ⟨σ',H',I,q⟩:=h; exact ⟨σ',H',I.unwish,q⟩
 | cont=>obtain ⟨σ',H',I,q⟩:=h; exact ⟨σ',H',I.unwish,q⟩
 | ret u=>obtain ⟨v,σ',H',I,r,q⟩:=h; exact ⟨v,σ',H',I.unwish,r,q⟩
theorem PSs.nox {st:List Stmt}{t:TS} (h:PSs X.nox st t):PSs X st t:=fun pins s σ H D I hw =>
 wpAny_mono (h pins s σ H D (I.wish _) hw) (fun _ _ q=>q.unwish) fun _ _ z=>False.elim z
end
section
variable {X:Cx}{st:Stmt}{rest:List Stmt}{t u:TS}{e:Expr}{te:TE}{pos:Pos}
def tNext:TS:=fun D σ H=>D.nx σ H
def tSeq (t u:TS):TS:=fun D σ H=>t { D with nx:=u D } σ H
theorem zaq0:PSs X [] tNext:=fun _ _ σ H _ I h=>wpAny_execs_nil ⟨σ,H,I,h⟩
theorem zake (h1:PS X st t) (h2:PSs X rest u):PSs X (st :: rest) (tSeq t u):=by
 intro pins s σ H D I h
 refine wpAny_execs_cons (thn (h1 pins s σ H { D with nx:=u D } I h) fun f s1 q=>?_)
 cases f with
 | next =>
  obtain ⟨σ',H',I',q⟩:=q
  exact h2 pins s1 σ' H' D I' q
 | ret v=>exact q
 | brk=>exact q
 | cont=>exact q
theorem zaq1 (h1:PS X st t):PSs X [st] t:=by
 intro pins s σ H D I h
 refine wpAny_execs_cons (thn (h1 pins s σ H D I h) fun f s1 q=>?_)
 cases f with
 | next=>exact wpAny_execs_nil q
 | ret v=>exact q
 | brk=>exact q
 | cont=>exact q
theorem Inv.quiet {pins:List (Addr × Obj)}{σ:St}{H:Hp}{s:Shared} (I:Inv X pins σ H s):interactive X.env=false:=by simp [interactive,I.ok.kind]
def tDrop (te:TE):TS:=fun D σ H=>te σ H fun _ H1=>D.nx σ H1
theorem zaq2 (he:PE X e te) (hs:swapsWith e none pos.line X.env=pure false:=by rfl):PS X (.Expr e pos) (tDrop te):=by
 intro pins s σ H D I h
 exact wpAny_Expr_any (thn (he pins s σ H _ I h) fun v s1 ⟨x,H1,I1,r1,q1⟩=>⟨σ,H1,I1,q1⟩) I.quiet hs
def tRet (te:TE):TS:=fun D σ H=>te σ H D.rt
theorem zatd (he:PE X e te):PS X (.Return (some e) pos) (tRet te):=by
 intro pins s σ H D I h
 exact wpAny_Return_some (thn (he pins s σ H _ I h) fun v s1 ⟨x,H1,I1,r1,q1⟩=>⟨x,σ,H1,I1,r1,q1⟩)
def tRetN:TS:=fun D _ H=>D.rt .non H
theorem zaq3:PS X (.Return none pos) tRetN:=fun _ _ σ H _ I h=>wpAny_Return_none ⟨.non,σ,H,I,rfl,h⟩
def tIfS (c:TT) (t u:TS):TS:=fun D σ H=>c σ H fun b H1=>if b=true then t D σ H1 else u D σ H1
theorem zau2 {c:Expr}{a b:List Stmt}{tc:TT} (hc:PT X c tc) (ha:PSs X a t) (hb:PSs X b u):PS X (.If c a b pos) (tIfS tc t u):=by
 intro pins s σ H D I h
 refine wpAny_If (thn (hc pins s σ H _ I h) fun d s1 ⟨H1,I1,q1⟩=>?_)
 cases d with
 | true=>exact ha pins s1 σ H1 D I1 q1
 | false=>exact hb pins s1 σ H1 D I1 q1
def tNever:TS:=fun _ _ _=>False
theorem zaoe:PS X st tNever:=fun _ _ _ _ _ _ h=>h.elim
end
abbrev TG:=V→St→Hp→(St→Hp→Prop)→Prop
abbrev TGs:=List V→St→Hp→(St→Hp→Prop)→Prop
def PG (X:Cx) (target:Expr) (t:TG):Prop :=
 ∀ (pins:List (Addr × Obj)) (s:Shared) (σ:St) (H:Hp) (v:V) (u:Value) (Q:St→Hp→Prop),Inv X pins σ H s→RelV v u→t v σ H Q →
  wpAny (model X.prog X.w) X.A (assign target X.env u) (fun _ s'=>∃ σ' H',Inv X pins σ' H' s'∧Q σ' H') X.xe s
def PGs (X:Cx) (ts:List Expr) (t:TGs):Prop :=
 ∀ (pins:List (Addr × Obj)) (s:Shared) (σ:St) (H:Hp) (vs:List V) (us:List Value) (Q:St→Hp→Prop),Inv X pins σ H s→Vals vs us→t vs σ H Q →
  wpAny (model X.prog X.w) X.A (assignInOrder ((assignEach ts X.env).map (·.2)) us) (fun _ s'=>∃ σ' H',Inv X pins σ' H' s'∧Q σ' H') X.xe s
abbrev TSet:=V→V→V→Hp→(Hp→Prop)→Prop
def PSet (X:Cx) (t:TSet):Prop :=
 ∀ (pins:List (Addr × Obj)) (s:Shared) (σ:St) (H:Hp) (o i v:V) (ov iv u:Value) (Q:Hp→Prop),Inv X pins σ H s→RelV o ov→RelV i iv→RelV v u→t o i v H Q →
  wpAny (model X.prog X.w) X.A (setItem ov iv u) (fun _ s'=>∃ H',Inv X pins σ H' s'∧Q H') X.xe s
section
variable {X:Cx}{pos:Pos}
def gName (i:Nat):TG:=fun v σ H Q=>Q (σ.set i (some v)) H
theorem zaq4 {i:Nat}{x:Str} (hN:X.N.Nodup) (hi:X.N[i]?=some x) (hx:Loc X.env.scope x) (hf:X.fn x=true∨X.env.scope.names.lookup x=some .local:=by first | exact .inl rfl | exact .inr rfl | assumption):PG X (.Name x pos) (gName i):=by
 intro pins s σ H v u Q I r h
 exact wpAny_assign_Name (zakd I hN hi hx r (fun s' I'=>⟨_,H,I',h⟩) hf)
def gNil:TGs:=fun vs σ H Q=>vs=[]∧Q σ H
def gCons (t:TG) (u:TGs):TGs:=fun vs σ H Q=>∃ v r,vs=v :: r∧t v σ H fun σ' H'=>u r σ' H' Q
theorem zaq5:PGs X [] gNil:=by
 intro pins s σ H vs us Q I r h
 obtain ⟨e,h⟩:=h
 subst e
 cases r
 exact assignInOrder_nil ⟨σ,H,I,h⟩
theorem zaof {e:Expr}{es:List Expr}{t:TG}{u:TGs} (h1:PG X e t) (h2:PGs X es u)
  (hs:(assignEach (e :: es) X.env).map (·.2)=assign e X.env :: (assignEach es X.env).map (·.2):=by rfl):PGs X (e :: es) (gCons t u):=by
 intro pins s σ H vs us Q I r h
 obtain ⟨v,vr,e1,h⟩:=h
 subst e1
 cases r with
 | cons r rr =>
  rw [hs]
  refine assignInOrder_cons (thn (h1 pins s σ H _ _ _ I r h) fun _ s1 ⟨σ1,H1,I1,q1⟩=>?_)
  exact h2 pins s1 σ1 H1 _ _ Q I1 rr q1
def gTup (K:PySem.W.Frag) (n:Nat) (t:TGs):TG:=fun v σ H Q=>∃ a xs,v=.ref a∧SqT K H a xs∧xs.length=n∧t xs σ H Q
theorem zap1 {es:List Expr}{k:Nat}{t:TGs}{n:Nat} (hc:X.calm=true) (h:PGs X es t)
  (hn:(assignEach es X.env).length=n:=by rfl) (hst:(assignEach es X.env).findIdx? (·.1)=none:=by rfl):PG X (.Tuple es k pos) (gTup X.K n t):=by
 intro pins s σ H v u Q I r hw
 obtain ⟨a,xs,e1,hq,hl,hw⟩:=hw
 subst e1
 cases r
 obtain ⟨its,rv,ht,hz⟩:=I.tuple hq
 refine assign_Tuple_tuple (I.ok.hd hc) ht (by simp [hn,← hl,rv.length]) hst fun h' hx=>?_
 have I1:Inv X pins σ H { s with heap:=h' }:=I.kept (t':=s.toks) fun b o e=>hx b o (Nat.ne_of_lt (Heap.lt_size e)) e
 exact h pins _ σ H xs _ Q I1 (by simpa using rv) hw
def gSub (to ti:TE) (t:TSet):TG:=fun v σ H Q=>to σ H fun o H1=>ti σ H1 fun i H2=>t o i v H2 fun H3=>Q σ H3
theorem zate {o i:Expr}{to ti:TE}{t:TSet} (ho:PE X o to) (hi:PE X i ti) (hs:PSet X t)
  (ha:∀ v,assign (.Subscript o i pos) X.env v=(do
   let ov ← holding [v] (eval o X.env)
   let iv ← holding [v,ov] (eval i X.env)
   standAt pos
   holding [v,ov,iv] (setItem ov iv v)
   release [v,ov,iv] []):=by intro _; rfl):PG X (.Subscript o i pos) (gSub to ti t):=by
 intro pins s σ H v u Q I r h
 rw [ha]
 refine wpAny_bind (wpAny_holding (thn (ho pins s σ H _ I h) fun ov s1 ⟨x,H1,I1,r1,q1⟩=>?_))
 refine wpAny_bind (wpAny_holding (thn (hi pins s1 σ H1 _ I1 q1) fun iv s2 ⟨y,H2,I2,r2,q2⟩=>?_))
 refine wpAny_bind (wpAny_standAt (wpAny_bind (wpAny_holding (thn (hs pins s2 σ H2 x y v ov iv u _ I2 r1 r2 r q2) fun _ s3 ⟨H3,I3,q3⟩=>?_))))
 exact wpAny_release ⟨σ,H3,I3,q3⟩
def tAsg (te:TE) (g:TG):TS:=fun D σ H=>te σ H fun x H1=>g x σ H1 D.nx
theorem zatf {tg e:Expr}{te:TE}{g:TG} (he:PE X e te) (hg:PG X tg g) (hs:swapsWithSole [tg] e pos.line X.env=pure false:=by rfl) (hw:swappedStores [tg] e X.env=pure none:=by rfl)
  (h1:(assignEach [tg] X.env).map (·.2)=[assign tg X.env]:=by rfl):PS X (.Assign [tg] e pos) (tAsg te g):=by
 intro pins s σ H D I h
 refine wpAny_Assign_stores (thn (he pins s σ H _ I h) fun v s1 ⟨x,H1,I1,r1,q1⟩=>?_) hs hw
 rw [h1]
 exact thn (hg pins s1 σ H1 x v _ I1 r1 q1) fun _ s2 q=>q
theorem zatg {i:Nat}{x:Str}{e:Expr}{te:TE}{pos':Pos} (hN:X.N.Nodup) (hi:X.N[i]?=some x) (hx:Loc X.env.scope x) (he:PE X e te) (hs:swapsWith e (some (.Name x pos')) pos.line X.env=pure false:=by rfl) (hf:X.fn x=true∨X.env.scope.names.lookup x=some .local:=by first | exact .inl rfl | exact .inr rfl | assumption) :
  PS X (.Assign [.Name x pos'] e pos) (tAsg te (gName i)):=by
 intro pins s σ H D I h
 refine wpAny_Assign_Name (thn (he pins s σ H _ I h) fun v s1 ⟨y,H1,I1,r1,q1⟩=>?_) hs
 exact zakd I1 hN hi hx r1 (fun s2 I2=>⟨_,H1,I2,q1⟩) hf
def tWhile (c:TT) (tb:TS):TS:=fun D σ H=>∃ W:Nat→St→Hp→Prop,(∃ m,W m σ H)∧∀ m σ H,W m σ H →
 c σ H fun b H1=>if b=true then ∃ N:St→Hp→Prop,(∀ σ' H',N σ' H'→∃ m',m' < m∧W m' σ' H')∧tb { D with nx:=N,ct:=N,bk:=D.nx } σ H1 else D.nx σ H1
theorem zaog {c:Expr}{body:List Stmt}{tc:TT}{tb:TS} (hp:PassesOwn (model X.prog X.w) X.A X.env X.xe) (hc:PT X c tc) (hb:PSs X body tb):PS X (.While c body [] pos) (tWhile tc tb):=by
 intro pins s σ H D I h
 obtain ⟨W,⟨m0,w0⟩,turn⟩:=h
 refine wpAny_While (codeAny_whileLoop (fun n s'=>∃ σ' H',Inv X pins σ' H' s'∧W n σ' H') ?_ m0 ⟨σ,H,I,w0⟩)
 rintro n s1 ⟨σ1,H1,I1,w1⟩
 refine wpAny_passesOwn hp (thn (hc pins s1 σ1 H1 _ I1 (turn n σ1 H1 w1)) fun b s2 ⟨H2,I2,q2⟩=>?_)
 cases b with
 | true =>
  obtain ⟨N,hN,q2⟩:=q2
  rw [if_pos rfl]
  refine wpAny_passesOwn hp (thn (hb pins s2 σ1 H2 _ I2 q2) fun f s3 q3=>?_)
  cases f with
  | next =>
   obtain ⟨σ3,H3,I3,n3⟩:=q3
   obtain ⟨m',hm,w3⟩:=hN σ3 H3 n3
   exact ⟨m',hm,σ3,H3,I3,w3⟩
  | cont =>
   obtain ⟨σ3,H3,I3,n3⟩:=q3
   obtain ⟨m',hm,w3⟩:=hN σ3 H3 n3
   exact ⟨m',hm,σ3,H3,I3,w3⟩
  | brk=>exact q3
  | ret v=>exact q3
 | false =>
  rw [if_neg Bool.false_ne_true]
  exact wpAny_execs_nil ⟨σ1,H2,I2,q2⟩
end
structure It where
 go:Nat→Hp→Prop
 yld:Nat→Hp→V→Hp→Prop
 stop:Nat→Hp→Prop
def FpOk (X:Cx) (pins:List (Addr × Obj)) (H:Hp) (b:Addr):Prop :=
 H b=none∧b≠X.env.locals∧b ∉ X.fs∧(b∈X.ex∨X.s₀.heap.objs.size≤b)∧(∀ x c,X.env.cells.lookup x=some c→c≠b)∧∀ p∈X.pn++pins,p.1≠b
theorem Inv.fpOk {X:Cx}{pins:List (Addr × Obj)}{σ:St}{H H':Hp}{s:Shared}{b:Addr} (I:Inv X pins σ H s) (hb:s.heap.objs.size≤b) (hn:H' b=none):FpOk X pins H' b:=by
 refine ⟨hn,Nat.ne_of_gt (Nat.lt_of_lt_of_le I.lt hb),I.nofs hb,.inr (Nat.le_trans I.sz hb),fun x c e z=>?_,fun p hp z=>?_⟩
 ·obtain ⟨v,q⟩:=I.cell x c e
  exact absurd (Nat.lt_of_lt_of_le q.lt (by rw [z]; exact hb)) (Nat.lt_irrefl _)
 ·exact absurd (Nat.lt_of_lt_of_le (Heap.lt_size (I.pin p hp).1) (by rw [z]; exact hb)) (Nat.lt_irrefl _)
structure Turn (P:Program) (w:World) (K:PySem.W.Frag) (tg:Expr) (J:It) (fp:List Addr) (it:Addr) (tn:Nat→Heap→Prop):Prop where
 mem:it∈fp
 obj:∀ i h,tn i h→∀ b∈fp,∃ o,h.get? b=some o∧∀ v,o.data≠.cell v
 keep:∀ i h h',tn i h→(∀ b∈fp,∀ o,h.get? b=some o→h'.get? b=some o)→tn i h'
 item:∀ (X:Cx),X.prog=P→X.w=w→X.K=K→X.calm=true→∀ (i:Nat) (pins:List (Addr × Obj)) (s:Shared) (σ:St) (H:Hp) (E:Value→Shared→Prop),Inv X pins σ H s→(∀ b∈fp,FpOk X pins H b)→tn i s.heap→J.go i H →
  wpAny (model P w) X.A (pyNext (.ref it)) (fun r s1=>∃ u,r=some u ∧
   wpAny (model P w) X.A (letOwnedTupleGo tg (.ref it) u) (fun _ s2=>∃ x H',Inv X pins σ H' s2∧RelV x u∧J.yld i H x H'∧tn (i + 1) s2.heap∧∀ b∈fp,H' b=none) E s1) E s
 done:∀ (X:Cx),X.prog=P→X.w=w→X.K=K→X.calm=true→∀ (i:Nat) (pins:List (Addr × Obj)) (s:Shared) (σ:St) (H:Hp) (E:Value→Shared→Prop),Inv X pins σ H s→(∀ b∈fp,FpOk X pins H b)→tn i s.heap→J.stop i H →
  wpAny (model P w) X.A (pyNext (.ref it)) (fun r s1=>r=none∧Inv X pins σ H s1) E s
 self:∀ (A:Around) (i:Nat) (s:Shared) (Q:Value→Shared→Prop) (E:Value→Shared→Prop),tn i s.heap→Q (.ref it) s→wpAny (model P w) A (pyIter (.ref it)) Q E s
abbrev TI:=St→Hp→(It→Hp→Prop)→Prop
def PIE (X:Cx) (pins:List (Addr × Obj)) (σ:St) (tg:Expr) (R:It→Hp→Prop) (itv:Value) (s2:Shared):Prop :=
 ∃ (it:Addr) (fp:List Addr) (tn:Nat→Heap→Prop) (J:It) (H':Hp),itv=.ref it∧Inv X pins σ H' s2∧Turn X.prog X.w X.K tg J fp it tn∧tn 0 s2.heap∧(∀ b∈fp,FpOk X pins H' b)∧R J H'
def PI (X:Cx) (tg iter:Expr) (wi:TI):Prop :=
 ∀ (pins:List (Addr × Obj)) (s:Shared) (σ:St) (H:Hp) (R:It→Hp→Prop),Inv X pins σ H s→wi σ H R →
  wpAny (model X.prog X.w) X.A (eval iter X.env) (fun v s1=>wpAny (model X.prog X.w) X.A (pyIter v) (PIE X pins σ tg R) X.xe s1) X.xe s
theorem zaoh {M:Model}{A:Around}{E:Value→Shared→Prop}{s:Shared}{tg:Expr}{it:Addr}{u:Value}{o:Obj}{n:String}{vs:Array Value}{Q:Unit→Shared→Prop} (ho:s.heap.get? it=some o) (hc:o.cls=.type n) (hd:o.data=.fields vs)
  (hn:["enumerate", "zip", "dict_itemiterator", "dict_reverseitemiterator", "odict_iterator", "itertools.zip_longest", "itertools.pairwise"].contains n=false) (hQ:Q () s):wpAny M A (letOwnedTupleGo tg (.ref it) u) Q E s:=by
 unfold letOwnedTupleGo
 cases tg <;> first
  | exact wpAny_pure hQ
  | (cases u <;> first
    | exact wpAny_pure hQ
    | (refine wpAny_bind (wpAny_load ho ?_)
       rw [hc,hd]
       show wpAny M A (if (["enumerate", "zip", "dict_itemiterator", "dict_reverseitemiterator", "odict_iterator", "itertools.zip_longest", "itertools.pairwise"].contains n && vs[0]? == some (rawInt _))=true then _ else _) Q E s
       rw [if_neg (by intro h; rw [hn,Bool.false_and] at h; cases h)]
       exact wpAny_pure hQ))
def Itl (K:PySem.W.Frag) (a:Addr):It :=
 ⟨fun i H=>∃ xs x,SqL K H a xs∧xs[i]?=some x,fun i H x H'=>H'=H∧∀ xs,SqL K H a xs→xs[i]?=some x,fun i H=>∃ xs,SqL K H a xs∧xs.length≤i⟩
def Itt (K:PySem.W.Frag) (a:Addr):It :=
 ⟨fun i H=>∃ xs x,SqT K H a xs∧xs[i]?=some x,fun i H x H'=>H'=H∧∀ xs,SqT K H a xs→xs[i]?=some x,fun i H=>∃ xs,SqT K H a xs∧xs.length≤i⟩
def Itr (lo:Int) (n:Nat):It:=⟨fun i _=>i < n,fun i H x H'=>H'=H∧x=.int (lo + i),fun i _=>n≤i⟩
theorem zalm {P:Program}{w:World}{K:PySem.W.Frag}{tg:Expr} (a it:Addr):Turn P w K tg (Itl K a) [it] it (fun i h=>h.IsListIter it a i) where
 mem:=by simp
 obj:=fun i h st b hb=>by
  have e:b=it:=by simpa using hb
  subst e
  obtain ⟨o,e,c,d⟩:=st
  exact ⟨o,e,fun v z=>by rw [d] at z; cases z⟩
 keep:=fun i h h' st k=>st.at fun o e=>k it (by simp) o e
 item:=by
  intro X hP hw hK hc i pins s σ H E I hf st hg
  subst hP hw hK
  obtain ⟨xs,x,hq,hx⟩:=hg
  obtain ⟨its,rv,p,hz⟩:=I.list hq
  obtain ⟨u,hu,ru⟩:=rv.get hx
  obtain ⟨f0,f1,f2,f3,f4,f5⟩:=hf it (by simp)
  refine wpAny_pyNext_list_item st p.isList (x:=u) (by simpa using hu) fun h' st' sb=>?_
  have I1:Inv X pins σ H { s with heap:=h' }:=I.turned (t':=s.toks) (fun b o hb e=>(sb.2 b hb).trans e) f0 f1 f3 f4 f5
  obtain ⟨o,e,c,d⟩:=id st'
  exact ⟨u,rfl,zaoh (s:={ s with heap:=h' }) e c d (by decide) ⟨x,H,I1,ru,⟨rfl,fun ys hy=>by rw [I.list_inj hy hq]; exact hx⟩,st',fun b hb=>(hf b hb).1⟩⟩
 done:=by
  intro X hP hw hK hc i pins s σ H E I hf st hg
  subst hP hw hK
  obtain ⟨xs,hq,hx⟩:=hg
  obtain ⟨its,rv,p,hz⟩:=I.list hq
  obtain ⟨f0,f1,f2,f3,f4,f5⟩:=hf it (by simp)
  have hl:=rv.length
  exact wpAny_pyNext_list_end (I.ok.hd hc) st p.isList (by simp; omega) fun h' eb=>⟨rfl,I.turned (t':=s.toks) (fun b o hb e=>eb b o hb e) f0 f1 f3 f4 f5⟩
 self:=fun _ _ _ _ _ st h=>wpAny_pyIter_listiter st h
theorem zak0 {P:Program}{w:World}{K:PySem.W.Frag}{tg:Expr} (a it:Addr):Turn P w K tg (Itt K a) [it] it (fun i h=>h.IsTupleIter it a i) where
 mem:=by simp
 obj:=fun i h st b hb=>by
  have e:b=it:=by simpa using hb
  subst e
  obtain ⟨o,e,c,d⟩:=st
  exact ⟨o,e,fun v z=>by rw [d] at z; cases z⟩
 keep:=fun i h h' st k=>st.at fun o e=>k it (by simp) o e
 item:=by
  intro X hP hw hK hc i pins s σ H E I hf st hg
  subst hP hw hK
  obtain ⟨xs,x,hq,hx⟩:=hg
  obtain ⟨its,rv,p,hz⟩:=I.tuple hq
  obtain ⟨u,hu,ru⟩:=rv.get hx
  obtain ⟨f0,f1,f2,f3,f4,f5⟩:=hf it (by simp)
  refine wpAny_pyNext_tuple_item st (show s.heap.IsTuple a its.toArray from p) (x:=u) (by simpa using hu) fun h' st' sb=>?_
  have I1:Inv X pins σ H { s with heap:=h' }:=I.turned (t':=s.toks) (fun b o hb e=>(sb.2 b hb).trans e) f0 f1 f3 f4 f5
  obtain ⟨o,e,c,d⟩:=id st'
  exact ⟨u,rfl,zaoh (s:={ s with heap:=h' }) e c d (by decide) ⟨x,H,I1,ru,⟨rfl,fun ys hy=>by rw [I.tuple_inj hy hq]; exact hx⟩,st',fun b hb=>(hf b hb).1⟩⟩
 done:=by
  intro X hP hw hK hc i pins s σ H E I hf st hg
  subst hP hw hK
  obtain ⟨xs,hq,hx⟩:=hg
  obtain ⟨its,rv,p,hz⟩:=I.tuple hq
  obtain ⟨f0,f1,f2,f3,f4,f5⟩:=hf it (by simp)
  have hl:=rv.length
  exact wpAny_pyNext_tuple_end (I.ok.hd hc) st (show s.heap.IsTuple a its.toArray from p) (by simp; omega) fun h' eb=>⟨rfl,I.turned (t':=s.toks) (fun b o hb e=>eb b o hb e) f0 f1 f3 f4 f5⟩
 self:=fun _ _ _ _ _ st h=>wpAny_pyIter_tupleiter st h
theorem zak1 {P:Program}{w:World}{K:PySem.W.Frag}{tg:Expr} (it:Addr) (lo:Int) (n:Nat):Turn P w K tg (Itr lo n) [it] it (fun i h=>IsRangeIter h it (lo + (i:Nat) * 1) ((n:Int) - (i:Nat)) 1) where
 mem:=by simp
 obj:=fun i h st b hb=>by
  have e:b=it:=by simpa using hb
  subst e
  exact ⟨_,st,fun v z=>by
   have z':Data.fields _=Data.cell v:=z
   cases z'⟩
 keep:=fun i h h' st k=>k it (by simp) _ st
 item:=by
  intro X hP hw hK hc i pins s σ H E I hf st hg
  subst hP hw hK
  obtain ⟨f0,f1,f2,f3,f4,f5⟩:=hf it (by simp)
  have W:=Walks.range (prog:=X.prog) (w:=X.w) (I.ok.hd hc) it lo 1 n
  refine W.item i s _ _ hg st fun v h' tk hv st' kk=>?_
  obtain ⟨t,rfl⟩:=hv
  have I1:Inv X pins σ H { s with heap:=h',toks:=tk }:=I.turned (fun b o hb e=>kk b o (by simpa using hb) e) f0 f1 f3 f4 f5
  refine ⟨_,rfl,zaoh (s:={ s with heap:=h',toks:=tk }) (n := "range_iterator") st' rfl rfl (by decide) ⟨.int (lo + i),H,I1,⟨t,?_⟩,⟨rfl,rfl⟩,st',fun b hb=>(hf b hb).1⟩⟩
  rw [Int.mul_one]
 done:=by
  intro X hP hw hK hc i pins s σ H E I hf st hg
  subst hP hw hK
  obtain ⟨f0,f1,f2,f3,f4,f5⟩:=hf it (by simp)
  exact wpAny_pyNext_range_end (I.ok.hd hc) st (by have:n≤i:=hg; omega) fun h' eb=>⟨rfl,I.turned (t':=s.toks) (fun b o hb e=>eb b o hb e) f0 f1 f3 f4 f5⟩
 self:=fun _ _ _ _ _ st h=>wpAny_pyIter_rangeiter st h
section
variable {X:Cx}{tg:Expr}
def iList (K:PySem.W.Frag) (tl:TE):TI:=fun σ H R=>tl σ H fun x H1=>∃ a,x=.ref a∧(∃ xs,SqL K H1 a xs)∧R (Itl K a) H1
def iTup (K:PySem.W.Frag) (tl:TE):TI:=fun σ H R=>tl σ H fun x H1=>∃ a,x=.ref a∧(∃ xs,SqT K H1 a xs)∧R (Itt K a) H1
theorem zaln {l:Expr}{tl:TE} (hl:PE X l tl):PI X tg l (iList X.K tl):=by
 intro pins s σ H R I h
 refine thn (hl pins s σ H _ I h) fun v s1 ⟨x,H1,I1,r1,q1⟩=>?_
 obtain ⟨a,e,⟨xs,hq⟩,q⟩:=q1
 subst e
 cases r1
 obtain ⟨its,rv,p,hz⟩:=I1.list hq
 refine wpAny_pyIter_list p.isList ?_
 refine ⟨s1.heap.objs.size,[s1.heap.objs.size],_,_,H1,rfl,I1.kept (t':=s1.toks) fun b o e=>Heap.get?_push_of_some _ e,zalm a _,⟨_,Heap.get?_push_size _ rfl,rfl,rfl⟩,fun b hb=>?_,q⟩
 have e:b=s1.heap.objs.size:=by simpa using hb
 subst e
 exact I1.fpOk (Nat.le_refl _) (I1.hok.fresh (Nat.le_refl _))
theorem zap2 {l:Expr}{tl:TE} (hl:PE X l tl):PI X tg l (iTup X.K tl):=by
 intro pins s σ H R I h
 refine thn (hl pins s σ H _ I h) fun v s1 ⟨x,H1,I1,r1,q1⟩=>?_
 obtain ⟨a,e,⟨xs,hq⟩,q⟩:=q1
 subst e
 cases r1
 obtain ⟨its,rv,p,hz⟩:=I1.tuple hq
 refine wpAny_pyIter_tuple (show s1.heap.IsTuple a its.toArray from p) ?_
 refine ⟨s1.heap.objs.size,[s1.heap.objs.size],_,_,H1,rfl,I1.kept (t':=s1.toks) fun b o e=>Heap.get?_push_of_some _ e,zak0 a _,⟨_,Heap.get?_push_size _ rfl,rfl,rfl⟩,fun b hb=>?_,q⟩
 have e:b=s1.heap.objs.size:=by simpa using hb
 subst e
 exact I1.fpOk (Nat.le_refl _) (I1.hok.fresh (Nat.le_refl _))
theorem zakf {pins:List (Addr × Obj)}{σ:St}{H:Hp}{s:Shared}{R:It→Hp→Prop}{E:Value→Shared→Prop}{lo hi:Int}{t u v:Tok}{tk:Nat} (I:Inv X pins σ H s) (h1:-(2 ^ 62)≤lo) (h2:lo < 2 ^ 62) (h3:-(2 ^ 62)≤hi) (h4:hi < 2 ^ 62)
  (q:R (Itr lo (hi - lo).toNat) H):wpAny (model X.prog X.w) X.A (pyIter (.ref s.heap.objs.size)) (PIE X pins σ tg R) E { s with heap:=s.heap.push { cls:=.type "range",data:=.fields #[.int lo t,.int hi u,.int 1 v] },toks:=tk }:=by
 refine wpAny_pyIter_range (IsRange.new ..) (small_one h1 h2 h3 h4) ?_
 have I1:Inv X pins σ H { s with heap:=s.heap.push { cls:=.type "range",data:=.fields #[.int lo t,.int hi u,.int 1 v] },toks:=tk }:=I.kept fun b o e=>Heap.get?_push_of_some _ e
 refine ⟨(s.heap.push { cls:=.type "range",data:=.fields #[.int lo t,.int hi u,.int 1 v] }).objs.size,[(s.heap.push { cls:=.type "range",data:=.fields #[.int lo t,.int hi u,.int 1 v] }).objs.size],_,_,H,rfl,
  I1.kept (t':=tk) fun b o e=>Heap.get?_push_of_some _ e,zak1 _ lo (hi - lo).toNat,?_,fun b hb=>?_,q⟩
 ·have e1:lo + ((0:Nat):Int) * 1=lo:=by simp
  have e2:(((hi - lo).toNat:Nat):Int) - ((0:Nat):Int)=Builtin.Range.rangeSize lo hi 1:=by rw [rangeSize_one]; split <;> omega
  show IsRangeIter _ _ (lo + ((0:Nat):Int) * 1) ((((hi - lo).toNat:Nat):Int) - ((0:Nat):Int)) 1
  rw [e1,e2]
  exact Heap.get?_push_size _ rfl
 ·have e:b=(s.heap.push { cls:=.type "range",data:=.fields #[.int lo t,.int hi u,.int 1 v] }).objs.size:=by simpa using hb
  subst e
  exact I1.fpOk (Nat.le_refl _) (I1.hok.fresh (Nat.le_refl _))
def iRng1 (ta:TA):TI:=fun σ H R=>ta σ H fun vs H1=>∃ j:Int,vs=[.int j]∧-(2 ^ 62)≤j∧j < 2 ^ 62∧R (Itr 0 j.toNat) H1
def iRng2 (ta:TA):TI:=fun σ H R=>ta σ H fun vs H1=>∃ i j:Int,vs=[.int i,.int j]∧(-(2 ^ 62)≤i∧i < 2 ^ 62∧-(2 ^ 62)≤j∧j < 2 ^ 62)∧R (Itr i (j - i).toNat) H1
theorem zalo {a:Expr}{ta:TA}{p pos:Pos} (hg:Gl X "range") (hm:X.mg "range" = none) (ha:PA X [a] ta) (hs:starEach [a] X.env=[(false,eval a X.env)]:=by rfl):PI X tg (.Call (.Name "range" p) [a] [] pos) (iRng1 ta):=by
 intro pins s σ H R I h
 refine Call_ (zad9 I hg hm boot_range (PyProof.Rows.callWith_type1 (thn (ha pos pins s σ H _ I h) fun us s1 ⟨vs,H1,I1,r1,q1⟩=>?_) hs rfl))
 obtain ⟨j,e,q1,q2,q⟩:=q1
 subst e
 cases r1 with
 | cons r rr =>
  cases rr
  obtain ⟨t,rfl⟩:=r
  exact call_range_1 (zakf I1 (by omega) (by omega) q1 q2 (by simpa using q))
theorem zalp {a b:Expr}{ta:TA}{p pos:Pos} (hg:Gl X "range") (hm:X.mg "range" = none) (ha:PA X [a,b] ta) (hs:starEach [a,b] X.env=[(false,eval a X.env),(false,eval b X.env)]:=by rfl) (hs2:starEach [b] X.env=[(false,eval b X.env)]:=by rfl) :
  PI X tg (.Call (.Name "range" p) [a,b] [] pos) (iRng2 ta):=by
 intro pins s σ H R I h
 refine Call_ (zad9 I hg hm boot_range (PyProof.Rows.callWith_type1 (thn (ha pos pins s σ H _ I h) fun us s1 ⟨vs,H1,I1,r1,q1⟩=>?_) (by rw [hs,hs2]) (by rw [hs2]; rfl)))
 obtain ⟨i,j,e,⟨q1,q2,q3,q4⟩,q⟩:=q1
 subst e
 cases r1 with
 | cons r rr =>
  cases rr with
  | cons r' rr =>
   cases rr
   obtain ⟨t,rfl⟩:=r
   obtain ⟨t',rfl⟩:=r'
   exact call_range_2 (zakf I1 q1 q2 q3 q4 q)
def tFor (wi:TI) (g:TG) (tb:TS):TS:=fun D σ H=>wi σ H fun J H1=>∃ W:Nat→Nat→St→Hp→Prop,(∃ m,W 0 m σ H1)∧∀ i m σ H,W i m σ H →
 (J.stop i H∧D.nx σ H)∨(J.go i H∧∃ N:St→Hp→Prop,(∀ σ' H',N σ' H'→∃ m',m' < m∧W (i + 1) m' σ' H')∧∀ x H',J.yld i H x H'→g x σ H' fun σ2 H2=>tb { D with nx:=N,ct:=N,bk:=D.nx } σ2 H2)
def pinsAt (fp:List Addr) (h:Heap):List (Addr × Obj):=fp.filterMap fun b=>(h.get? b).map fun o=>(b,o)
theorem zad5 {fp:List Addr}{h:Heap}{b:Addr}{o:Obj} (hb:b∈fp) (e:h.get? b=some o):(b,o)∈pinsAt fp h:=List.mem_filterMap.mpr ⟨b,hb,by rw [e]; rfl⟩
theorem zah4 {fp:List Addr}{h:Heap}{p:Addr × Obj} (hp:p∈pinsAt fp h):p.1∈fp∧h.get? p.1=some p.2:=by
 obtain ⟨b,hb,e⟩:=List.mem_filterMap.mp hp
 cases q:h.get? b with
 | none=>rw [q] at e; cases e
 | some o =>
  rw [q] at e
  have e':(b,o)=p:=Option.some.inj e
  subst e'
  exact ⟨hb,q⟩
theorem Inv.pinned {pins:List (Addr × Obj)}{σ:St}{H:Hp}{s:Shared}{fp:List Addr} (I:Inv X pins σ H s) (hf:∀ b∈fp,FpOk X pins H b) (ho:∀ b∈fp,∃ o,s.heap.get? b=some o∧∀ v,o.data≠.cell v):Inv X (pins++pinsAt fp s.heap) σ H s :=
 I.pins_of fun p hp=>(List.mem_append.mp hp).elim (fun z=>I.pin p (List.mem_append_right _ z)) fun z=>by
  obtain ⟨hb,e⟩:=zah4 z
  obtain ⟨f0,f1,f2,_⟩:=hf p.1 hb
  obtain ⟨o,e',d⟩:=ho p.1 hb
  rw [e] at e'; cases e'
  exact ⟨e,f0,f1,f2,d⟩
theorem Inv.unpinned {pins pl:List (Addr × Obj)}{σ:St}{H:Hp}{s:Shared} (I:Inv X (pins++pl) σ H s):Inv X pins σ H s:=I.pins_of fun p hp=>I.pin p (List.mem_append_right _ (List.mem_append_left _ hp))
theorem zath {iter:Expr}{body:List Stmt}{wi:TI}{g:TG}{tb:TS}{pos:Pos} (hp:PassesOwn (model X.prog X.w) X.A X.env X.xe) (hc:X.calm=true) (hi:PI X tg iter wi) (hg:PG X tg g) (hb:PSs X body tb)
  (hs:∀ x,foldedSetIterable iter X.env x=pure x:=by intro _; rfl):PS X (.For tg iter body [] pos) (tFor wi g tb):=by
 intro pins s σ H D I h
 refine wpAny_For (thn (hi pins s σ H _ I h) fun v s1 h1=>thn h1 fun itv s2 h2=>?_) hs
 obtain ⟨it,fp,tn,J,H2,e,I2,T,st2,f2,W,⟨m0,w0⟩,turn⟩:=h2
 subst e
 have stat:∀ {H':Hp},(∀ b∈fp,H' b=none)→∀ b∈fp,FpOk X pins H' b:=fun hn b hb=>⟨hn b hb,(f2 b hb).2⟩
 refine codeAny_forLoop_any (fun n s'=>∃ i σ' H',Inv X pins σ' H' s'∧tn i s'.heap∧(∀ b∈fp,H' b=none)∧W i n σ' H') ?_ m0 ⟨0,σ,H2,I2,st2,fun b hb=>(f2 b hb).1,w0⟩
 rintro n s3 ⟨i,σ3,H3,I3,st3,fr3,w3⟩
 rcases turn i n σ3 H3 w3 with ⟨stop,qn⟩ | ⟨go,N,hN,step⟩
 ·refine wpAny_passesOwn hp (thn (T.done X rfl rfl rfl hc i pins s3 σ3 H3 X.xe I3 (stat fr3) st3 stop) fun r s4 ⟨hr,I4⟩=>?_)
  subst hr
  exact wpAny_execs_nil ⟨σ3,H3,I4,qn⟩
 ·refine wpAny_passesOwn hp (thn (T.item X rfl rfl rfl hc i pins s3 σ3 H3 X.xe I3 (stat fr3) st3 go) fun r s4 ⟨u,hr,h4⟩=>?_)
  subst hr
  refine wpAny_passesOwn hp (thn h4 fun _ s5 ⟨x,H5,I5,r5,y5,st5,fr5⟩=>?_)
  have I5':=I5.pinned (stat fr5) (T.obj _ _ st5)
  refine wpAny_passesOwn hp (thn (hg _ s5 σ3 H5 x u _ I5' r5 (step x H5 y5)) fun _ s6 ⟨σ6,H6,I6,q6⟩=>?_)
  refine wpAny_passesOwn hp (thn (hb _ s6 σ6 H6 _ I6 q6) fun f s7 q7=>?_)
  have again:∀ {σ7:St}{H7:Hp},Inv X (pins++pinsAt fp s5.heap) σ7 H7 s7→N σ7 H7→∃ m,m < n∧∃ i σ' H',Inv X pins σ' H' s7∧tn i s7.heap∧(∀ b∈fp,H' b=none)∧W i m σ' H':=fun {σ7 H7} I7 n7=>by
   obtain ⟨m',hm,w7⟩:=hN σ7 H7 n7
   refine ⟨m',hm,i + 1,σ7,H7,I7.unpinned,T.keep _ _ _ st5 fun b hb o e=>(I7.pin (b,o) (List.mem_append_right _ (List.mem_append_right _ (zad5 hb e)))).1,fun b hb=>?_,w7⟩
   obtain ⟨o,e,d⟩:=T.obj _ _ st5 b hb
   exact (I7.pin (b,o) (List.mem_append_right _ (List.mem_append_right _ (zad5 hb e)))).2.1
  cases f with
  | next=>obtain ⟨σ7,H7,I7,n7⟩:=q7; exact again I7 n7
  | cont=>obtain ⟨σ7,H7,I7,n7⟩:=q7; exact again I7 n7
  | brk=>obtain ⟨σ7,H7,I7,q7⟩:=q7; exact ⟨σ7,H7,I7.unpinned,q7⟩
  | ret v=>obtain ⟨x7,σ7,H7,I7,r7,q7⟩:=q7; exact ⟨x7,σ7,H7,I7.unpinned,r7,q7⟩
end
theorem zaoi {K:PySem.W.Frag}{a:Addr}{xs:List V}{g:TG}{tb:TS}{D:Ends}{σ:St}{H:Hp} (Pv:Nat→St→Hp→Prop) (h0:Pv 0 σ H) (hl:∀ i σ H,i≤xs.length→Pv i σ H→SqL K H a xs)
  (hs:∀ i x σ H,xs[i]?=some x→Pv i σ H→g x σ H fun σ2 H2=>tb { D with nx:=Pv (i + 1),ct:=Pv (i + 1),bk:=D.nx } σ2 H2) (hd:∀ σ H,Pv xs.length σ H→D.nx σ H) :
  ∃ W:Nat→Nat→St→Hp→Prop,(∃ m,W 0 m σ H)∧∀ i m σ H,W i m σ H →
   ((Itl K a).stop i H∧D.nx σ H)∨((Itl K a).go i H∧∃ N:St→Hp→Prop,(∀ σ' H',N σ' H'→∃ m',m' < m∧W (i + 1) m' σ' H')∧∀ x H',(Itl K a).yld i H x H'→g x σ H' fun σ2 H2=>tb { D with nx:=N,ct:=N,bk:=D.nx } σ2 H2):=by
 refine ⟨fun i m σ H=>m=xs.length - i∧i≤xs.length∧Pv i σ H,⟨xs.length,by simp,Nat.zero_le _,h0⟩,?_⟩
 rintro i m σ H ⟨rfl,hi,p⟩
 have q:=hl i σ H hi p
 by_cases hlt:i < xs.length
 ·refine .inr ⟨⟨xs,xs[i],q,by simp [hlt]⟩,Pv (i + 1),fun σ' H' p'=>⟨xs.length - (i + 1),by omega,rfl,hlt,p'⟩,fun x H' y=>?_⟩
  obtain ⟨e,y⟩:=y
  subst e
  exact hs i x σ _ (y xs q) p
 ·have e:i=xs.length:=by omega
  subst e
  exact .inl ⟨⟨xs,q,Nat.le_refl _⟩,hd σ H p⟩
theorem zaq6 {K:PySem.W.Frag}{a:Addr}{xs:List V}{g:TG}{tb:TS}{D:Ends}{σ:St}{H:Hp} (Pv:Nat→St→Hp→Prop) (h0:Pv 0 σ H) (hl:∀ i σ H,i≤xs.length→Pv i σ H→SqT K H a xs)
  (hs:∀ i x σ H,xs[i]?=some x→Pv i σ H→g x σ H fun σ2 H2=>tb { D with nx:=Pv (i + 1),ct:=Pv (i + 1),bk:=D.nx } σ2 H2) (hd:∀ σ H,Pv xs.length σ H→D.nx σ H) :
  ∃ W:Nat→Nat→St→Hp→Prop,(∃ m,W 0 m σ H)∧∀ i m σ H,W i m σ H →
   ((Itt K a).stop i H∧D.nx σ H)∨((Itt K a).go i H∧∃ N:St→Hp→Prop,(∀ σ' H',N σ' H'→∃ m',m' < m∧W (i + 1) m' σ' H')∧∀ x H',(Itt K a).yld i H x H'→g x σ H' fun σ2 H2=>tb { D with nx:=N,ct:=N,bk:=D.nx } σ2 H2):=by
 refine ⟨fun i m σ H=>m=xs.length - i∧i≤xs.length∧Pv i σ H,⟨xs.length,by simp,Nat.zero_le _,h0⟩,?_⟩
 rintro i m σ H ⟨rfl,hi,p⟩
 have q:=hl i σ H hi p
 by_cases hlt:i < xs.length
 ·refine .inr ⟨⟨xs,xs[i],q,by simp [hlt]⟩,Pv (i + 1),fun σ' H' p'=>⟨xs.length - (i + 1),by omega,rfl,hlt,p'⟩,fun x H' y=>?_⟩
  obtain ⟨e,y⟩:=y
  subst e
  exact hs i x σ _ (y xs q) p
 ·have e:i=xs.length:=by omega
  subst e
  exact .inl ⟨⟨xs,q,Nat.le_refl _⟩,hd σ H p⟩
theorem zalq {lo:Int}{n:Nat}{g:TG}{tb:TS}{D:Ends}{σ:St}{H:Hp} (Pv:Nat→St→Hp→Prop) (h0:Pv 0 σ H)
  (hs:∀ i σ H,i < n→Pv i σ H→g (.int (lo + i)) σ H fun σ2 H2=>tb { D with nx:=Pv (i + 1),ct:=Pv (i + 1),bk:=D.nx } σ2 H2) (hd:∀ σ H,Pv n σ H→D.nx σ H) :
  ∃ W:Nat→Nat→St→Hp→Prop,(∃ m,W 0 m σ H)∧∀ i m σ H,W i m σ H →
   ((Itr lo n).stop i H∧D.nx σ H)∨((Itr lo n).go i H∧∃ N:St→Hp→Prop,(∀ σ' H',N σ' H'→∃ m',m' < m∧W (i + 1) m' σ' H')∧∀ x H',(Itr lo n).yld i H x H'→g x σ H' fun σ2 H2=>tb { D with nx:=N,ct:=N,bk:=D.nx } σ2 H2):=by
 refine ⟨fun i m σ H=>m=n - i∧i≤n∧Pv i σ H,⟨n,by simp,Nat.zero_le _,h0⟩,?_⟩
 rintro i m σ H ⟨rfl,hi,p⟩
 by_cases hlt:i < n
 ·refine .inr ⟨hlt,Pv (i + 1),fun σ' H' p'=>⟨n - (i + 1),by omega,rfl,hlt,p'⟩,fun x H' y=>?_⟩
  obtain ⟨e,y⟩:=y
  subst e y
  exact hs i σ _ hlt p
 ·have e:i=n:=by omega
  subst e
  exact .inl ⟨Nat.le_refl _,hd σ H p⟩
abbrev R2:=V→V→Hp→VK→Prop
def OpR (X:Cx) (f:Value→Value→Sem Value) (r:R2):Prop :=
 ∀ (pins:List (Addr × Obj)) (s:Shared) (σ:St) (H:Hp) (x y:V) (v u:Value) (Q:VK),Inv X pins σ H s→RelV x v→RelV y u→r x y H Q →
  wpAny (model X.prog X.w) X.A (f v u) (EP X pins σ Q) X.xe s
def UnR (X:Cx) (f:Value→Sem Value) (r:V→Hp→VK→Prop):Prop :=
 ∀ (pins:List (Addr × Obj)) (s:Shared) (σ:St) (H:Hp) (x:V) (v:Value) (Q:VK),Inv X pins σ H s→RelV x v→r x H Q →
  wpAny (model X.prog X.w) X.A (f v) (EP X pins σ Q) X.xe s
def CallR (X:Cx) (f:Value) (r:List V→Hp→VK→Prop):Prop :=
 ∀ (pins:List (Addr × Obj)) (s:Shared) (σ:St) (H:Hp) (xs:List V) (us:List Value) (Q:VK),Inv X pins σ H s→Vals xs us→r xs H Q →
  wpAny (model X.prog X.w) X.A (call f us) (EP X pins σ Q) X.xe s
def tOp (r:R2) (ta tb:TE):TE:=fun σ H Q=>ta σ H fun x H1=>tb σ H1 fun y H2=>r x y H2 Q
def tUn (r:V→Hp→VK→Prop) (ta:TE):TE:=fun σ H Q=>ta σ H fun x H1=>r x H1 Q
def rI (C:Int→Int→Prop) (g:Int→Int→V):R2:=fun x y H Q=>∃ i j,x=.int i∧y=.int j∧C i j∧Q (g i j) H
def rI0 (g:Int→Int→V):R2:=fun x y H Q=>∃ i j,x=.int i∧y=.int j∧Q (g i j) H
def rU (g:Int→V):V→Hp→VK→Prop:=fun x H Q=>∃ i,x=.int i∧Q (g i) H
section
variable {X:Cx}{a b c:Expr}{ta tb tc:TE}{pos:Pos}
theorem binT (ha:PE X a ta) (hb:PE X b tb) {pins:List (Addr × Obj)}{s:Shared}{σ:St}{H:Hp}{R:V→V→Hp→Prop} (I:Inv X pins σ H s)
  (h:ta σ H fun x H1=>tb σ H1 fun y H2=>R x y H2) {Q:Value→Shared→Prop}{f:Value→Value→Sem Value}
  (hf:∀ v u s2 x y H2,Inv X pins σ H2 s2→RelV x v→RelV y u→R x y H2→wpAny (model X.prog X.w) X.A (f v u) Q X.xe s2) :
  wpAny (model X.prog X.w) X.A (eval a X.env) (fun v s₁=>wpAny (model X.prog X.w) X.A (eval b X.env) (fun u s₂=>wpAny (model X.prog X.w) X.A (f v u) Q X.xe s₂) X.xe s₁) X.xe s:=by
 refine thn (ha pins s σ H _ I h) fun v s1 ⟨x,H1,I1,r1,q1⟩=>?_
 refine thn (hb pins s1 σ H1 _ I1 q1) fun u s2 ⟨y,H2,I2,r2,q2⟩=>?_
 exact hf v u s2 x y H2 I2 r1 r2 q2
theorem zau3 {op:Operator}{r:R2} (ho:OpR X (binaryOp op) r) (ha:PE X a ta) (hb:PE X b tb):PE X (.BinOp a op b pos) (tOp r ta tb):=by
 intro pins s σ H Q I h
 exact wpAny_BinOp (binT ha hb I h fun v u s2 x y H2 I2 rx ry q=>ho pins s2 σ H2 x y v u Q I2 rx ry q)
theorem zau4 {op:UnaryOp}{r:V→Hp→VK→Prop} (ho:UnR X (unaryOp op) r) (ha:PE X a ta):PE X (.UnaryOp op a pos) (tUn r ta):=by
 intro pins s σ H Q I h
 exact UnaryOp_ (thn (ha pins s σ H _ I h) fun v s1 ⟨x,H1,I1,r1,q1⟩=>ho pins s1 σ H1 x v Q I1 r1 q1)
theorem opI {f:Value→Value→Sem Value}{C:Int→Int→Prop}{g:Int→Int→Int}
  (rule:∀ (i j:Int) (t u:Tok) (s:Shared) (Q:Value→Shared→Prop) (E:Value→Shared→Prop),C i j→Q (.int (g i j) s.toks) { s with toks:=s.toks + 1 }→wpAny (model X.prog X.w) X.A (f (.int i t) (.int j u)) Q E s) :
  OpR X f (rI C fun i j=>.int (g i j)):=by
 intro pins s σ H x y v u Q I rx ry h
 obtain ⟨i,j,rfl,rfl,hc,q⟩:=h
 obtain ⟨t,rfl⟩:=rx
 obtain ⟨t',rfl⟩:=ry
 exact rule i j t t' s _ _ hc ⟨.int (g i j),H,I.tok _,⟨_,rfl⟩,q⟩
theorem opI0 {f:Value→Value→Sem Value}{g:Int→Int→Int}
  (rule:∀ (i j:Int) (t u:Tok) (s:Shared) (Q:Value→Shared→Prop) (E:Value→Shared→Prop),Q (.int (g i j) s.toks) { s with toks:=s.toks + 1 }→wpAny (model X.prog X.w) X.A (f (.int i t) (.int j u)) Q E s) :
  OpR X f (rI0 fun i j=>.int (g i j)):=by
 intro pins s σ H x y v u Q I rx ry h
 obtain ⟨i,j,rfl,rfl,q⟩:=h
 obtain ⟨t,rfl⟩:=rx
 obtain ⟨t',rfl⟩:=ry
 exact rule i j t t' s _ _ ⟨.int (g i j),H,I.tok _,⟨_,rfl⟩,q⟩
theorem opB0 {f:Value→Value→Sem Value}{g:Int→Int→Bool}
  (rule:∀ (i j:Int) (t u:Tok) (s:Shared) (Q:Value→Shared→Prop) (E:Value→Shared→Prop),Q (.bool (g i j)) s→wpAny (model X.prog X.w) X.A (f (.int i t) (.int j u)) Q E s) :
  OpR X f (rI0 fun i j=>.bl (g i j)):=by
 intro pins s σ H x y v u Q I rx ry h
 obtain ⟨i,j,rfl,rfl,q⟩:=h
 obtain ⟨t,rfl⟩:=rx
 obtain ⟨t',rfl⟩:=ry
 exact rule i j t t' s _ _ ⟨.bl (g i j),H,I,rfl,q⟩
def CMul (i j:Int):Prop:=(-(2 ^ 64) < i∧i < 2 ^ 64)∨(-(2 ^ 64) < j∧j < 2 ^ 64)
theorem CMul.ok {i j:Int} (h:CMul i j):IntMulOk i j:=by
 rcases h with ⟨h1,h2⟩ | ⟨h1,h2⟩
 ·exact .of_left (intBits_le_64 h1 h2)
 ·exact .of_right (intBits_le_64 h1 h2)
theorem zabv:OpR X (binaryOp .Add) (rI0 fun i j=>.int (i + j)):=opI0 fun _ _ _ _ _ _ _ q=>add_int q
theorem zaea:OpR X (binaryOp .Sub) (rI0 fun i j=>.int (i - j)):=opI0 fun _ _ _ _ _ _ _ q=>sub_int q
theorem zack:OpR X (binaryOp .Mult) (rI CMul fun i j=>.int (i * j)):=opI fun _ _ _ _ _ _ _ hc q=>mul_int q hc.ok
theorem zaa8:OpR X (binaryOp .Mod) (rI (fun _ j=>0 < j) fun i j=>.int (i % j)):=opI fun i j _ _ _ _ _ hc q=>by
 have h1:(0:Int) < j:=hc
 exact mod_int' (by omega) (by rw [Int.fmod_eq_emod_of_nonneg i (by omega)]; exact q)
theorem unI {f:Value→Sem Value}{g:Int→Int}
  (rule:∀ (i:Int) (t:Tok) (s:Shared) (Q:Value→Shared→Prop) (E:Value→Shared→Prop),Q (.int (g i) s.toks) { s with toks:=s.toks + 1 }→wpAny (model X.prog X.w) X.A (f (.int i t)) Q E s) :
  UnR X f (rU fun i=>.int (g i)):=by
 intro pins s σ H x v Q I rx h
 obtain ⟨i,rfl,q⟩:=h
 obtain ⟨t,rfl⟩:=rx
 exact rule i t s _ _ ⟨.int (g i),H,I.tok _,⟨_,rfl⟩,q⟩
theorem zalr:UnR X (unaryOp .USub) (rU fun i=>.int (-i)):=unI fun _ _ _ _ _ q=>neg_int q
end
def scal:V→V→Bool
 | .non,.non=>true | .non,.int _=>true | .int _,.non=>true | .non,.bl _=>true | .bl _,.non=>true | .non,.str _=>true | .str _,.non=>true
 | .int _,.int _=>true | .bl _,.bl _=>true | .str _,.str _=>true | .byt _,.byt _=>true
 | .int _,.str _=>true | .str _,.int _=>true | .bl _,.str _=>true | .str _,.bl _=>true
 | _,_=>false
def rEq:R2:=fun x y H Q=>scal x y=true∧Q (.bl (decide (x=y))) H
def rNe:R2:=fun x y H Q=>scal x y=true∧Q (.bl (!decide (x=y))) H
theorem zals {i j:Int}:decide (V.int i=V.int j)=(i == j):=by
 rw [Bool.eq_iff_iff]
 simp
theorem zap3 {i j:Bool}:decide (V.bl i=V.bl j)=(i == j):=by
 rw [Bool.eq_iff_iff]
 simp
theorem zalt {i j:Str}:decide (V.str i=V.str j)=(i == j):=by
 rw [Bool.eq_iff_iff]
 simp
theorem zalu {i j:Array UInt8}:decide (V.byt i=V.byt j)=(i.toList == j.toList):=by
 rw [Bool.eq_iff_iff]
 cases i
 cases j
 simp
section
variable {X:Cx}{a b c:Expr}{ta tb tc:TE}{pos:Pos}
theorem zabm {pins:List (Addr × Obj)}{σ:St}{H:Hp}{s:Shared}{Q:VK}{k k':Bool} (I:Inv X pins σ H s) (q:Q (.bl k) H) (e:k=k'):EP X pins σ Q (.bool k') s:=by
 subst e
 exact ⟨.bl k,H,I,rfl,q⟩
theorem zada:OpR X (compareOp .Eq) rEq:=by
 intro pins s σ H x y v u Q I rx ry h
 obtain ⟨hs,q⟩:=h
 cases x with
 | non =>
  cases rx
  cases y with
  | non=>cases ry; exact PySem.EqNone.eq_none_none (zabm I q (by simp))
  | bl j=>cases ry; exact PySem.EqNone.eq_none_bool (zabm I q (by simp))
  | int j=>obtain ⟨t',rfl⟩:=ry; exact PySem.EqNone.eq_none_int (zabm I q (by simp))
  | str j=>obtain ⟨t',rfl⟩:=ry; exact PySem.EqNone.eq_none_str (zabm I q (by simp))
  | _=>exact absurd (show false=true from hs) Bool.false_ne_true
 | bl i =>
  cases rx
  cases y with
  | non=>cases ry; exact PySem.EqNone.eq_bool_none (zabm I q (by simp))
  | bl j=>cases ry; exact eq_bool (zabm I q zap3)
  | str j=>obtain ⟨t',rfl⟩:=ry; exact PySem.EqMixed.eq_bool_str (zabm I q (by simp))
  | _=>exact absurd (show false=true from hs) Bool.false_ne_true
 | int i =>
  obtain ⟨t,rfl⟩:=rx
  cases y with
  | non=>cases ry; exact PySem.EqNone.eq_int_none (zabm I q (by simp))
  | int j=>obtain ⟨t',rfl⟩:=ry; exact eq_int (zabm I q zals)
  | str j=>obtain ⟨t',rfl⟩:=ry; exact PySem.EqMixed.eq_int_str (zabm I q (by simp))
  | _=>exact absurd (show false=true from hs) Bool.false_ne_true
 | str i =>
  obtain ⟨t,rfl⟩:=rx
  cases y with
  | non=>cases ry; exact PySem.EqNone.eq_str_none (zabm I q (by simp))
  | bl j=>cases ry; exact PySem.EqMixed.eq_str_bool (zabm I q (by simp))
  | int j=>obtain ⟨t',rfl⟩:=ry; exact PySem.EqMixed.eq_str_int (zabm I q (by simp))
  | str j=>obtain ⟨t',rfl⟩:=ry; exact eq_str (zabm I q zalt)
  | _=>exact absurd (show false=true from hs) Bool.false_ne_true
 | byt i =>
  obtain ⟨t,rfl⟩:=rx
  cases y with
  | byt j=>obtain ⟨t',rfl⟩:=ry; exact PySem.W.eq_bytes (zabm I q zalu)
  | _=>exact absurd (show false=true from hs) Bool.false_ne_true
 | _=>cases y <;> exact absurd (show false=true from hs) Bool.false_ne_true
theorem zaeb:OpR X (compareOp .NotEq) rNe:=by
 intro pins s σ H x y v u Q I rx ry h
 obtain ⟨hs,q⟩:=h
 cases x with
 | non =>
  cases rx
  cases y with
  | non=>cases ry; exact PySem.EqNone.ne_none_none (zabm I q (by simp))
  | bl j=>cases ry; exact PySem.EqNone.ne_none_bool (zabm I q (by simp))
  | int j=>obtain ⟨t',rfl⟩:=ry; exact PySem.EqNone.ne_none_int (zabm I q (by simp))
  | str j=>obtain ⟨t',rfl⟩:=ry; exact PySem.EqNone.ne_none_str (zabm I q (by simp))
  | _=>exact absurd (show false=true from hs) Bool.false_ne_true
 | bl i =>
  cases rx
  cases y with
  | non=>cases ry; exact PySem.EqNone.ne_bool_none (zabm I q (by simp))
  | bl j=>cases ry; exact ne_bool (zabm I q (congrArg not zap3))
  | str j=>obtain ⟨t',rfl⟩:=ry; exact PySem.EqMixed.ne_bool_str (zabm I q (by simp))
  | _=>exact absurd (show false=true from hs) Bool.false_ne_true
 | int i =>
  obtain ⟨t,rfl⟩:=rx
  cases y with
  | non=>cases ry; exact PySem.EqNone.ne_int_none (zabm I q (by simp))
  | int j=>obtain ⟨t',rfl⟩:=ry; exact ne_int (zabm I q (congrArg not zals))
  | str j=>obtain ⟨t',rfl⟩:=ry; exact PySem.EqMixed.ne_int_str (zabm I q (by simp))
  | _=>exact absurd (show false=true from hs) Bool.false_ne_true
 | str i =>
  obtain ⟨t,rfl⟩:=rx
  cases y with
  | non=>cases ry; exact PySem.EqNone.ne_str_none (zabm I q (by simp))
  | bl j=>cases ry; exact PySem.EqMixed.ne_str_bool (zabm I q (by simp))
  | int j=>obtain ⟨t',rfl⟩:=ry; exact PySem.EqMixed.ne_str_int (zabm I q (by simp))
  | str j=>obtain ⟨t',rfl⟩:=ry; exact ne_str (zabm I q (congrArg not zalt))
  | _=>exact absurd (show false=true from hs) Bool.false_ne_true
 | byt i =>
  obtain ⟨t,rfl⟩:=rx
  cases y with
  | byt j=>obtain ⟨t',rfl⟩:=ry; exact PySem.W.ne_bytes (zabm I q (congrArg not zalu))
  | _=>exact absurd (show false=true from hs) Bool.false_ne_true
 | _=>cases y <;> exact absurd (show false=true from hs) Bool.false_ne_true
theorem zaoj:OpR X (compareOp .Lt) (rI0 fun i j=>.bl (decide (i < j))):=opB0 fun _ _ _ _ _ _ _ q=>lt_int q
theorem zati:OpR X (compareOp .LtE) (rI0 fun i j=>.bl (decide (i≤j))):=opB0 fun _ _ _ _ _ _ _ q=>le_int q
theorem zafk:OpR X (compareOp .Gt) (rI0 fun i j=>.bl (decide (j < i))):=opB0 fun _ _ _ _ _ _ _ q=>gt_int q
theorem zae7:OpR X (compareOp .Is) (fun x y H Q=>y=.non∧Q (.bl (decide (x=.non))) H):=by
 intro pins s σ H x y v u Q I rx ry h
 obtain ⟨rfl,q⟩:=h
 cases ry
 refine is_none_gen (zabm I q ?_)
 cases x <;> first
  | (cases rx; rfl)
  | (obtain ⟨t,rfl⟩:=rx; rfl)
theorem zaq7:OpR X (compareOp .IsNot) (fun x y H Q=>y=.non∧Q (.bl (!decide (x=.non))) H):=by
 intro pins s σ H x y v u Q I rx ry h
 obtain ⟨rfl,q⟩:=h
 cases ry
 refine isnot_none_gen (zabm I q ?_)
 cases x <;> first
  | (cases rx; rfl)
  | (obtain ⟨t,rfl⟩:=rx; rfl)
theorem nomark (b:Expr) {op:CmpOp} (h:op≠.In:=by decide) (h2:op≠.NotIn:=by decide):behindInMarks op b=false:=by
 have e1:(op == CmpOp.In)=false:=by cases op <;> first | rfl | exact absurd rfl h
 have e2:(op == CmpOp.NotIn)=false:=by cases op <;> first | rfl | exact absurd rfl h2
 cases b <;> simp [behindInMarks,e1,e2]
theorem zaq8 {op:CmpOp}{r:R2} (ho:OpR X (compareOp op) r) (ha:PE X a ta) (hb:PE X b tb) (hm:behindInMarks op b=false):PE X (.Compare a [op] [b] pos) (tOp r ta tb):=by
 intro pins s σ H Q I h
 exact wpAny_Compare1 (binT ha hb I h fun v u s2 x y H2 I2 rx ry q=>ho pins s2 σ H2 x y v u Q I2 rx ry q) hm
def tTest (t:TE):TT:=fun σ H Q=>t σ H fun x H'=>∃ k,x=.bl k∧Q k H'
theorem zaq9 {op:CmpOp}{r:R2} (ho:OpR X (compareOp op) r) (ha:PE X a ta) (hb:PE X b tb) (hm:behindInMarks op b=false):PT X (.Compare a [op] [b] pos) (tTest (tOp r ta tb)):=by
 intro pins s σ H Q I h
 refine wpAny_isTrue_Compare1 (thn (ha pins s σ H _ I h) fun v s1 ⟨x,H1,I1,r1,q1⟩=>thn (hb pins s1 σ H1 _ I1 q1) fun u s2 ⟨y,H2,I2,r2,q2⟩ =>
  thn (ho pins s2 σ H2 x y v u _ I2 r1 r2 q2) fun c s3 ⟨z,H3,I3,r3,k,e,q3⟩=>?_) hm
 subst e
 cases r3
 exact wpAny_truthy_bool ⟨H3,I3,q3⟩
def tChain (r r':R2) (ta tb tc:TE):TE:=fun σ H Q=>ta σ H fun x H1=>tb σ H1 fun y H2=>r x y H2 fun z H3=>∃ k,z=.bl k ∧
 (if k=true then tc σ H3 fun w' H4=>r' y w' H4 Q else Q (.bl false) H3)
theorem zaok {op op':CmpOp}{r r':R2} (ho:OpR X (compareOp op) r) (ho':OpR X (compareOp op') r') (ha:PE X a ta) (hb:PE X b tb) (hc:PE X c tc)
  (hm:lastMarks [op,op'] [b,c]=false:=by with_unfolding_all rfl):PE X (.Compare a [op,op'] [b,c] pos) (tChain r r' ta tb tc):=by
 intro pins s σ H Q I h
 refine Compare_chain (thn (ha pins s σ H _ I h) fun v s1 ⟨x,H1,I1,r1,q1⟩=>chain_link (thn (hb pins s1 σ H1 _ I1 q1) fun u s2 ⟨y,H2,I2,r2,q2⟩ =>
  thn (ho pins s2 σ H2 x y v u _ I2 r1 r2 q2) fun d s3 ⟨z,H3,I3,r3,k,e,q3⟩=>?_)) hm
 subst e
 cases r3
 refine wpAny_truthy_bool ?_
 cases k with
 | false=>exact ite_ff ⟨.bl false,H3,I3,rfl,q3⟩
 | true=>exact ite_tt (chain_last (thn (hc pins s3 σ H3 _ I3 q3) fun w' s4 ⟨z',H4,I4,r4,q4⟩=>ho' pins s4 σ H4 y z' u w' Q I4 r2 r4 q4))
theorem line63:(sizeLine:Nat) < 2 ^ 63:=by rw [sizeLine_eq]; decide
theorem vals1 {x:V}{us:List Value} (r:Vals [x] us):∃ u,us=[u]∧RelV x u:=by
 cases r with
 | cons r1 r2=>cases r2; exact ⟨_,rfl,r1⟩
theorem vals2 {x y:V}{us:List Value} (r:Vals [x,y] us):∃ u w',us=[u,w']∧RelV x u∧RelV y w':=by
 cases r with
 | cons r1 r2 =>
  cases r2 with
  | cons r3 r4=>cases r4; exact ⟨_,_,rfl,r1,r3⟩
theorem zalv (hc:X.calm=true):CallR X (.builtin "max") (fun xs H Q=>∃ i j,xs=[.int i,.int j]∧Q (.int (if j > i then j else i)) H):=by
 intro pins s σ H xs us Q I r h
 obtain ⟨i,j,rfl,q⟩:=h
 obtain ⟨u,w',rfl,⟨t,rfl⟩,⟨t',rfl⟩⟩:=vals2 r
 refine max_two_ints (I.ok.hd hc) fun h' tk k=>⟨_,H,I.kept k,?_,q⟩
 by_cases hj:j > i
 ·rw [if_pos hj,if_pos hj]; exact ⟨_,rfl⟩
 ·rw [if_neg hj,if_neg hj]; exact ⟨_,rfl⟩
theorem zalw (hc:X.calm=true):CallR X (.builtin "min") (fun xs H Q=>∃ i j,xs=[.int i,.int j]∧Q (.int (if j < i then j else i)) H):=by
 intro pins s σ H xs us Q I r h
 obtain ⟨i,j,rfl,q⟩:=h
 obtain ⟨u,w',rfl,⟨t,rfl⟩,⟨t',rfl⟩⟩:=vals2 r
 refine min_two_ints (I.ok.hd hc) fun h' tk k=>⟨_,H,I.kept k,?_,q⟩
 by_cases hj:j < i
 ·rw [if_pos hj,if_pos hj]; exact ⟨_,rfl⟩
 ·rw [if_neg hj,if_neg hj]; exact ⟨_,rfl⟩
theorem zalx:CallR X (.type "int") (fun xs H Q=>(∃ i,xs=[.int i]∧Q (.int i) H)∨∃ k,xs=[.bl k]∧Q (.int (if k then 1 else 0)) H):=by
 intro pins s σ H xs us Q I r h
 rcases h with ⟨i,rfl,q⟩ | ⟨k,rfl,q⟩
 ·obtain ⟨u,rfl,t,rfl⟩:=vals1 r
  exact call_int_int ⟨.int i,H,I,⟨_,rfl⟩,q⟩
 ·obtain ⟨u,rfl,r1⟩:=vals1 r
  cases r1
  exact call_int_bool ⟨.int (if k then 1 else 0),H,I.tok _,⟨_,rfl⟩,q⟩
end
structure ObjM (h:Heap) (x dx C:Addr) (mA:Str→Option Value):Prop where
 obj:h.get? x=some (PySem.W.instObj C dx)
 ns:h.Ns1 dx mA
 ne:dx≠x
theorem zaly {h:Heap}{dx:Addr}{mA:Str→Option Value} (n:h.Ns1 dx mA):∃ od,h.get? dx=some od∧∀ name,PySem.W.lookIn name od=some (mA name):=by
 obtain ⟨o,es,ep,ho,hd,hk,_,hm⟩:=n
 refine ⟨o,ho,fun name=>?_⟩
 have e:=hm name
 unfold nsFind findBy at e
 rw [← Array.find?_toList] at e
 unfold PySem.W.lookIn
 rw [hd]
 dsimp only
 split
 ·rename_i y q
  rw [q] at e
  exact congrArg some e
 ·rename_i q
  rw [q] at e
  have a:es.toList.any (·.refKey)=false:=by
   rw [List.any_eq_false]
   intro y hy
   obtain ⟨z,t,hkey⟩:=hk y (Array.mem_toList_iff.mp hy)
   simp [DictEntry.refKey,hkey]
  have a':¬ es.toList.any (·.refKey)=true:=by rw [a]; exact Bool.false_ne_true
  rw [if_neg a']
  exact congrArg some e
theorem ObjM.look {h:Heap}{x dx C:Addr}{mA:Str→Option Value} (I:ObjM h x dx C mA):∃ od,PySem.W.InstAt h x (PySem.W.instObj C dx) C (some od)∧∀ name,PySem.W.lookIn name od=some (mA name) :=
 let ⟨od,ho,hl⟩:=zaly I.ns
 ⟨od,⟨I.obj,rfl,rfl,ho⟩,hl⟩
section
variable {prog:Program}{w:World}{A:Around}{E:Value→Shared→Prop}{s:Shared}{K:PySem.W.Frag}{x dx C f:Addr}{mA:Str→Option Value}{name:Str}{v:Value}
theorem zara {expr:Bool}{Q:Value→Shared→Prop} (X:K.In s.heap) (I:ObjM s.heap x dx C mA) (hg:PySem.W.plainGet K C name=true) (hh:PySem.W.hasDictIn K C=true)
  (ha:PySem.W.findIn K (.ref C) name=some none) (hv:mA name=some v) (hv':PySem.W.handedIn v=true) (h:Q v { s with toks:=s.toks + 1 }) :
  wpAny (model prog w) A (getAttr (.ref x) name expr) Q E s:=by
 obtain ⟨od,J,hl⟩:=I.look
 exact PySem.W.get_value X J (PySem.W.plainGet_of hg).1 (PySem.W.findObj_own hh ha rfl (by rw [hl,hv])) hv' h
theorem zaol {pl:Sem Bool}{Q:Value × List Value→Shared→Prop} (X:K.In s.heap) (I:ObjM s.heap x dx C mA) (hg:PySem.W.plainGet K C name=true)
  (hf:PySem.W.findIn K (.ref C) name=some (some (.ref f))) (ht:PySem.W.isFn K (.ref f)=true) (hv:mA name=none) (h:Q (.ref f,[.ref x]) s) :
  wpAny (model prog w) A (getMethod (.ref x) name pl) Q E s:=by
 obtain ⟨od,J,hl⟩:=I.look
 exact PySem.W.method_fn X J (PySem.W.plainGet_of hg).1 (PySem.W.plainGet_of hg).2 hf (beq_iff_eq.mp ht) (by show (PySem.W.lookIn name od).map (·.isSome)=some false; rw [hl,hv]; rfl) h
theorem zarb {ns:List Str}{Q:Unit→Shared→Prop} (X:K.In s.heap) (I:ObjM s.heap x dx C mA)
  (hs:PySem.W.findIn K (.ref C) "__setattr__" = some (some (.builtin "object.__setattr__"))) (hp:PySem.W.plainOver K C=true) (ht:PySem.W.takerIn K C name=some none) (hh:PySem.W.hasDictIn K C=true)
  (hw:PySem.Within mA ns) (hsz:ns.length≤sizeLine)
  (h:∀ h',ObjM h' x dx C (fun y=>if y=name then some v else mA y)→Heap.SameBut dx s.heap h'→Q () { s with heap:=h',toks:=s.toks + 2 }) :
  wpAny (model prog w) A (setAttr (.ref x) name v) Q E s:=by
 obtain ⟨od,J,hl⟩:=I.look
 refine PySem.W.set_plain X J hs (PySem.W.osa_open (s:={ s with toks:=s.toks + 1 }) (r:=none) X J hp ht fun b=>?_)
 obtain ⟨cd,hc,hd'⟩:=PySem.W.any_some hh
 have hx:s.heap.get? x=some ⟨.ref C,some dx,.plain,#[]⟩:=I.obj
 refine wpAny_bind (wpAny_pure (wpAny_bind (wpAny_bind (wpAny_loadPart hx (wpAny_bind (PySem.W.Looks.here (s:={ s with toks:=s.toks + 1 }) (PySem.W.looks_clsIn X hc) ?_))))))
 rw [hd']
 refine wpAny_pure (a:=some dx) (wpAny_bind (wpAny_pure (wpAny_bind ?_)))
 refine wpAny_nsSet1 (s:={ s with toks:=s.toks + 1 }) I.ns fun h' hn2 hs2=>?_
 obtain ⟨oD,esD,epD,hoD,hdD,hcD⟩:=hn2.count (PySem.Within.cons name v hw)
 refine wpAny_bind (wpAny_lookBehind hoD (by rw [hdD]; exact pastItsLine_dict (Nat.le_trans hcD (by rw [List.length_cons]; omega))) ?_)
 exact wpAny_pure (h _ ⟨(hs2.2 _ (Ne.symm I.ne)).trans I.obj,hn2,I.ne⟩ hs2)
theorem zaom {R:Result→Shared→Prop}{vs:List Value}{kw:List (Str × Value)} (X:K.In s.heap) (hm:PySem.W.makesIn K C=true)
  (hi:PySem.W.findIn K (.ref C) "__init__" = some (some (.ref f))) (hf:PySem.W.typeIn K (.ref f)=some (.type "function"))
  (h:codeAny (model prog w) (A.under (.builtin "type.__call__" ⟨.ref C :: vs,kw⟩)) (.call (.ref f) ⟨.ref (s.heap.objs.size + 1) :: vs,kw⟩) (PySem.W.InitBack (s.heap.objs.size + 1) R)
   { s with heap:=(s.heap.push PySem.W.emptyDict).push (PySem.W.instObj C s.heap.objs.size) }) :
  codeAny (model prog w) A (.call (.ref C) ⟨vs,kw⟩) R s:=by
 obtain ⟨hh,g,d,t,os⟩:=s
 exact PySem.W.make_core (PySem.W.makes_of X hm) (PySem.W.looks_findIn X hi) (fun self=>PySem.W.bind_fn X self hf) (.inl rfl) h
end
def putF (f:Str) (v:V):List (Str × V)→List (Str × V)
 | []=>[(f,v)]
 | (g,x) :: r=>if g=f then (g,v) :: r else (g,x) :: putF f v r
theorem zafl (f g:Str) (v:V):∀ fs:List (Str × V),(putF f v fs).lookup g=if g=f then some v else fs.lookup g
 | []=>by
  show List.lookup g [(f,v)]=_
  by_cases h:g=f
  ·have hb:(g == f)=true:=beq_iff_eq.mpr h
   simp only [List.lookup,hb,if_pos h]
  ·have hb:(g == f)=false:=beq_eq_false_iff_ne.mpr h
   simp only [List.lookup,hb,if_neg h]
 | (k,x) :: r=>by
  have ih:=zafl f g v r
  rw [show putF f v ((k,x) :: r)=(if k=f then (k,v) :: r else (k,x) :: putF f v r) from rfl]
  by_cases hk:k=f
  ·rw [if_pos hk]
   by_cases h:g=k
   ·have hb:(g == k)=true:=beq_iff_eq.mpr h
    simp only [List.lookup,hb,if_pos (h.trans hk)]
   ·have hb:(g == k)=false:=beq_eq_false_iff_ne.mpr h
    simp only [List.lookup,hb,if_neg (fun e:g=f=>h (e.trans hk.symm))]
  ·rw [if_neg hk]
   by_cases h:g=k
   ·have hb:(g == k)=true:=beq_iff_eq.mpr h
    simp only [List.lookup,hb,if_neg (fun e:g=f=>hk (h.symm.trans e))]
   ·have hb:(g == k)=false:=beq_eq_false_iff_ne.mpr h
    simp only [List.lookup,hb]
    exact ih
theorem zafm (f:Str) (v:V):∀ fs:List (Str × V),f∈(putF f v fs).map (·.1)∧∀ g,g∈fs.map (·.1)→g∈(putF f v fs).map (·.1)
 | []=>⟨by simp [putF],fun g h=>by simp at h⟩
 | (k,x) :: r=>by
  obtain ⟨i1,i2⟩:=zafm f v r
  rw [show putF f v ((k,x) :: r)=(if k=f then (k,v) :: r else (k,x) :: putF f v r) from rfl]
  by_cases hk:k=f
  ·rw [if_pos hk]
   subst hk
   exact ⟨by simp,fun g h=>by simpa using h⟩
  ·rw [if_neg hk]
   refine ⟨?_,fun g h=>?_⟩
   ·rw [List.map_cons]
    exact List.mem_cons_of_mem _ i1
   ·rw [List.map_cons] at h ⊢
    rcases List.mem_cons.mp h with e | e
    ·exact List.mem_cons.mpr (.inl e)
    ·exact List.mem_cons_of_mem _ (i2 g e)
theorem zafn (f:Str) (v:V):∀ fs:List (Str × V),(putF f v fs).length≤fs.length + 1
 | []=>by simp [putF]
 | (k,x) :: r=>by
  have ih:=zafn f v r
  rw [show putF f v ((k,x) :: r)=(if k=f then (k,v) :: r else (k,x) :: putF f v r) from rfl]
  by_cases hk:k=f
  ·rw [if_pos hk,List.length_cons,List.length_cons]; omega
  ·rw [if_neg hk,List.length_cons,List.length_cons]; omega
theorem RelO.some_of {v:V}{o:Option Value} (r:RelO (some v) o):∃ u,o=some u∧RelV v u:=by
 cases o with
 | none=>exact (show False from r).elim
 | some u=>exact ⟨u,rfl,r⟩
theorem RelO.none_of {o:Option Value} (r:RelO none o):o=none:=by
 cases o with
 | none=>rfl
 | some u=>exact (show False from r).elim
theorem zalz {v:V}{u:Value} (r:RelV v u):PySem.W.handedIn u=true:=by
 cases v with
 | non=>cases (show u=Value.none from r); rfl
 | bl b=>cases (show u=Value.bool b from r); rfl
 | int i=>obtain ⟨t,e⟩:=(show ∃ t,u=Value.int i t from r); cases e; rfl
 | str x=>obtain ⟨t,e⟩:=(show ∃ t,u=Value.str x t from r); cases e; rfl
 | byt b=>obtain ⟨t,e⟩:=(show ∃ t,u=Value.bytes b t from r); cases e; rfl
 | flt b=>obtain ⟨t,e⟩:=(show ∃ t,u=Value.float b t from r); cases e; rfl
 | ref a=>cases (show u=Value.ref a from r); rfl
 | ty n=>cases (show u=Value.type n from r); rfl
section
variable {P:Program}{w:World}{H H':Hp}{h h':Heap}{a C dx:Addr}{fs fs':List (Str × V)}
theorem zag8 (hok:HOk P w H h) (e:H a=some (.ins C dx fs)):∃ mA,ObjM h a dx C mA∧(∀ f,RelO (fs.lookup f) (mA f))∧PySem.Within mA (fs.map (·.1))∧fs.length≤1000∧H dx=some (.own a):=by
 obtain ⟨d,z,ne,ob,mA,n,r,q⟩:=(show ObjOk P w H h a (.ins C dx fs) from hok a _ e)
 exact ⟨mA,⟨ob,n,ne⟩,r,q,z,d⟩
end
structure Cls (K:PySem.W.Frag) (C:Addr):Prop where
 pg:PySem.W.plainGet K C Str.empty=true
 hd:PySem.W.hasDictIn K C=true
 po:PySem.W.plainOver K C=true
 sa:PySem.W.findIn K (.ref C) "__setattr__" = some (some (.builtin "object.__setattr__"))
theorem Cls.get {K:PySem.W.Frag}{C:Addr} (c:Cls K C) (f:Str):PySem.W.plainGet K C f=true:=c.pg
def NoAttr (K:PySem.W.Frag) (C:Addr) (f:Str):Prop:=PySem.W.findIn K (.ref C) f=some none
theorem NoAttr.taker {K:PySem.W.Frag}{C:Addr}{f:Str} (n:NoAttr K C f):PySem.W.takerIn K C f=some none:=by
 unfold PySem.W.takerIn
 rw [show PySem.W.findIn K (.ref C) f=some none from n]
 rfl
structure Meth (K:PySem.W.Frag) (C:Addr) (m:Str) (f:Addr):Prop where
 at_:PySem.W.findIn K (.ref C) m=some (some (.ref f))
 fn:PySem.W.isFn K (.ref f)=true
 kp:PySem.W.keepIn K (.ref f)=true
section
variable {X:Cx}{pins:List (Addr × Obj)}{σ:St}{H:Hp}{s:Shared}{a C dx:Addr}{fs:List (Str × V)}{f:Str}{v:V}{A:Around}{E:Value→Shared→Prop}
theorem zak2 {b:Bool}{Q:Value→Shared→Prop} (I:Inv X pins σ H s) (e:H a=some (.ins C dx fs)) (c:Cls X.K C) (n:NoAttr X.K C f) (l:fs.lookup f=some v)
  (h:∀ u s',Inv X pins σ H s'→RelV v u→Q u s'):wpAny (model X.prog X.w) A (getAttr (.ref a) f b) Q E s:=by
 obtain ⟨mA,O,r,_,_,_⟩:=zag8 I.hok e
 obtain ⟨u,hu,ru⟩:=RelO.some_of (v:=v) (o:=mA f) (by rw [← l]; exact r f)
 exact zara I.kIn O (c.get f) c.hd n hu (zalz ru) (h u _ (I.tok _) ru)
theorem zagw {m:Str}{g:Addr}{pl:Sem Bool}{Q:Value × List Value→Shared→Prop} (I:Inv X pins σ H s) (e:H a=some (.ins C dx fs)) (c:Cls X.K C) (k:Meth X.K C m g) (l:fs.lookup m=none)
  (h:Q (.ref g,[.ref a]) s):wpAny (model X.prog X.w) A (getMethod (.ref a) m pl) Q E s:=by
 obtain ⟨mA,O,r,_,_,_⟩:=zag8 I.hok e
 have hn:mA m=none:=RelO.none_of (by rw [← l]; exact r m)
 exact zaol I.kIn O (c.get m) k.at_ k.fn hn h
theorem zak3 {y:V}{u:Value}{Q:Unit→Shared→Prop} (I:Inv X pins σ H s) (e:H a=some (.ins C dx fs)) (c:Cls X.K C) (n:NoAttr X.K C f) (hl:fs.length < 1000) (ry:RelV y u)
  (h:∀ s',Inv X pins σ (upd H a (.ins C dx (putF f y fs))) s'→Q () s'):wpAny (model X.prog X.w) A (setAttr (.ref a) f u) Q E s:=by
 obtain ⟨mA,O,r,wi,_,ho⟩:=zag8 I.hok e
 have hz:(fs.map (·.1)).length≤sizeLine:=by rw [List.length_map,sizeLine_eq]; omega
 refine zarb I.kIn O c.sa c.po n.taker c.hd wi hz fun h' O' sb=>h _ ?_
 have hd:∃ o,h'.get? dx=some o:=let ⟨o,_,_,e',_⟩:=O'.ns; ⟨o,e'⟩
 refine I.write (x:=a) (e:=dx) (by rw [e]; exact True.intro) (.inr ho) (fun b q hb z=>(sb.2 b hb).trans z) hd ?_
 refine ⟨by rw [zaa0 O.ne]; exact ho,?_,O.ne,O'.obj,_,O'.ns,fun g=>?_,fun g hg=>?_⟩
 ·have:=zafn f y fs; omega
 ·show RelO ((putF f y fs).lookup g) (if g=f then some u else mA g)
  rw [zafl]
  by_cases q:g=f
  ·rw [if_pos q,if_pos q]; exact ry
  ·rw [if_neg q,if_neg q]; exact r g
 ·by_cases q:g=f
  ·rw [q]; exact (zafm f y fs).1
  ·refine (zafm f y fs).2 g (wi g fun z=>hg ?_)
   show (if g=f then some u else mA g)=none
   rw [if_neg q]; exact z
theorem Inv.made (I:Inv X pins σ H s):Inv X pins σ (upd (upd H s.heap.objs.size (.own (s.heap.objs.size + 1))) (s.heap.objs.size + 1) (.ins C s.heap.objs.size []))
  { s with heap:=(s.heap.push PySem.W.emptyDict).push (PySem.W.instObj C s.heap.objs.size) }:=by
 have e1:(s.heap.push PySem.W.emptyDict).get? s.heap.objs.size=some PySem.W.emptyDict:=Heap.get?_push_size s.heap rfl
 have e2:((s.heap.push PySem.W.emptyDict).push (PySem.W.instObj C s.heap.objs.size)).get? (s.heap.objs.size + 1)=some (PySem.W.instObj C s.heap.objs.size):=by
  have:=Heap.get?_push_size (s.heap.push PySem.W.emptyDict) (o:=PySem.W.instObj C s.heap.objs.size) rfl
  rwa [Heap.size_push] at this
 have e3:(s.heap.push PySem.W.emptyDict).Ns s.heap.objs.size (fun _=>none):=⟨PySem.W.emptyDict,#[],_,e1,rfl,(fun e he=>absurd he (by simp)),fun _=>rfl⟩
 have I1:=I.laid (a:=s.heap.objs.size) (o:=.own (s.heap.objs.size + 1)) (h':=s.heap.push PySem.W.emptyDict) (t':=s.toks) (fun b u q=>Heap.get?_push_of_some _ q) (Nat.le_refl _) ⟨_,e1⟩
 refine I1.laid (a:=s.heap.objs.size + 1) (o:=.ins C s.heap.objs.size []) (t':=s.toks) (fun b u q=>Heap.get?_push_of_some _ q) (Nat.le_of_eq (Heap.size_push _ _)) ?_
 have ne:s.heap.objs.size≠s.heap.objs.size + 1:=Nat.ne_of_lt (Nat.lt_succ_self _)
 refine ⟨by rw [zaa0 ne,zaac],Nat.zero_le _,ne,e2,fun _=>none,(Heap.Ns1.of_empty e3).at fun o q=>Heap.get?_push_of_some _ q,fun _=>True.intro,fun y hy=>absurd rfl hy⟩
theorem zarc {prog:Program}{w:World}{env:Env}{e:Expr}{f:Str}{pos:Pos}{s:Shared}{Q:Value→Shared→Prop} (hb:attributeBase e f env (eval e env)=eval e env)
  (h:wpAny (model prog w) A (eval e env) (fun o s₁=>wpAny (model prog w) A (getAttr o f true) Q E s₁) E s):wpAny (model prog w) A (eval (.Attribute e f pos) env) Q E s :=
 Attribute_any_ h (by rw [arm_eval_Attribute,hb])
end
def tFld (K:PySem.W.Frag) (ta:TE) (f:Str):TE:=fun σ H Q=>ta σ H fun x H1=>∃ a C dx fs v,x=.ref a∧H1 a=some (.ins C dx fs)∧Cls K C∧NoAttr K C f∧fs.lookup f=some v∧Q v H1
def sFld (K:PySem.W.Frag) (ta tv:TE) (f:Str):TS:=fun D σ H=>tv σ H fun y H1=>ta σ H1 fun x H2=>∃ a C dx fs,x=.ref a∧H2 a=some (.ins C dx fs)∧Cls K C∧NoAttr K C f∧fs.length < 1000 ∧
 D.nx σ (upd H2 a (.ins C dx (putF f y fs)))
section
variable {X:Cx}{o e value:Expr}{f:Str}{pos pos' tpos:Pos}{ta tv:TE}
theorem zap4 (he:PE X e ta) (hb:attributeBase e f X.env (eval e X.env)=eval e X.env):PE X (.Attribute e f pos) (tFld X.K ta f):=by
 intro pins s σ H Q I h
 refine zarc hb (thn (he pins s σ H _ I h) fun u s1 ⟨x,H1,I1,rx,a,C,dx,fs,v,ex,ea,c,n,l,q⟩=>?_)
 subst ex
 obtain rfl:u=Value.ref a:=rx
 exact zak2 I1 ea c n l fun u' s2 I2 ru=>⟨v,H1,I2,ru,q⟩
theorem zatj (ha:PE X o ta) (hv:PE X value tv) (hs:swapsWith value (some (.Attribute o f pos')) pos.line X.env=pure false):PS X (.Assign [.Attribute o f pos'] value pos) (sFld X.K ta tv f):=by
 intro pins s σ H D I h
 refine plainObj_wpAny_Assign_Attribute (thn (hv pins s σ H _ I h) fun u s1 ⟨y,H1,I1,ry,q⟩=>thn (ha pins s1 σ H1 _ I1 q) fun ov s2 ⟨x,H2,I2,rx,a,C,dx,fs,ex,ea,c,n,l,q2⟩=>?_) hs
 subst ex
 obtain rfl:ov=Value.ref a:=rx
 exact zak3 I2 ea c n l ry fun s3 I3=>⟨σ,_,I3,q2⟩
end
section
variable {X:Cx}{pins:List (Addr × Obj)}{σ:St}{H:Hp}{s:Shared}{A:Around}{E:Value→Shared→Prop}{Q:Value→Shared→Prop}{c:Value}{b:Bool}
inductive TyOf (K:PySem.W.Frag) (H:Hp):V→Value→Prop where
 | non:TyOf K H .non (.type "NoneType")
 | bl (x:Bool):TyOf K H (.bl x) (.type "bool")
 | int (i:Int):TyOf K H (.int i) (.type "int")
 | str (x:Str):TyOf K H (.str x) (.type "str")
 | flt (x:UInt64):TyOf K H (.flt x) (.type "float")
 | lst {a:Addr}{xs:List V} (e:H a=some (.lst xs)):TyOf K H (.ref a) (.type "list")
 | frz {a:Addr}{o:Obj}{xs:List V} (e:H a=some (.frz o (.lst xs))):TyOf K H (.ref a) (.type "list")
 | tup {a:Addr}{xs:List V} (e:H a=some (.tup xs)):TyOf K H (.ref a) (.type "tuple")
 | dK {a:Addr}{kvs:List (Key × V)} (e:H a=some (.dK kvs)):TyOf K H (.ref a) (.type "dict")
 | dT {a:Addr}{kvs:List (List Key × V)} (e:H a=some (.dT kvs)):TyOf K H (.ref a) (.type "dict")
 | ins {a C dx:Addr}{fs:List (Str × V)} (e:H a=some (.ins C dx fs)) (cl:Cls K C) (ha:PySem.W.findIn K (.ref C) "__class__" = some (some (.builtin "object.__class__")))
   (hn:PySem.W.specialIn K (.builtin "object.__class__") "__get__" = some (some (.builtin "getset_descriptor.__get__"))) (htk:PySem.W.takesIn K (.builtin "object.__class__")=some true)
   (hm:PySem.W.mroIn K C (.type "object")=some true):TyOf K H (.ref a) (.ref C)
theorem zal0 {x:V}{u t:Value} (I:Inv X pins σ H s) (rx:RelV x u) (ty:TyOf X.K H x t) (e:PySem.W.kitOne X.K t c=some b) (h:∀ tk,Q (.bool b) { s with toks:=tk }) :
  wpAny (model X.prog X.w) A (call (.builtin "isinstance") [u,c]) Q E s:=by
 cases ty with
 | non=>cases (show u=Value.none from rx); exact PySem.W.kia_one PySem.W.kitx_none I.kIn True.intro e (fun z=>nomatch z) h
 | bl y=>cases (show u=Value.bool y from rx); exact PySem.W.kia_one PySem.W.kitx_bool I.kIn True.intro e (fun z=>nomatch z) h
 | int i=>obtain ⟨t,q⟩:=(show ∃ t,u=Value.int i t from rx); cases q; exact PySem.W.kia_one PySem.W.kitx_int I.kIn True.intro e (fun z=>nomatch z) h
 | str y=>obtain ⟨t,q⟩:=(show ∃ t,u=Value.str y t from rx); cases q; exact PySem.W.kia_one PySem.W.kitx_str I.kIn True.intro e (fun z=>nomatch z) h
 | flt y=>obtain ⟨t,q⟩:=(show ∃ t,u=Value.float y t from rx); cases q; exact PySem.W.kia_one PySem.W.kitx_float I.kIn True.intro e (fun z=>nomatch z) h
 | @lst a xs ea =>
  cases (show u=Value.ref a from rx)
  obtain ⟨_,_,n,_,h1⟩:=(show ObjOk X.prog X.w H s.heap a (.lst xs) from I.hok a _ ea)
  exact PySem.W.kia_one PySem.W.kitx_list I.kIn ⟨_,h1,rfl⟩ e (fun z=>nomatch z) h
 | @frz a ob xs ea =>
  cases (show u=Value.ref a from rx)
  obtain ⟨_,_,_,n,_,h1⟩:=(show ObjOk X.prog X.w H s.heap a (.frz ob (.lst xs)) from I.hok a _ ea)
  exact PySem.W.kia_one PySem.W.kitx_list I.kIn ⟨_,h1,rfl⟩ e (fun z=>nomatch z) h
 | @tup a xs ea =>
  cases (show u=Value.ref a from rx)
  obtain ⟨_,_,_,p⟩:=(show ObjOk X.prog X.w H s.heap a (.tup xs) from I.hok a _ ea)
  obtain ⟨o,h1,h2,_⟩:=p
  exact PySem.W.kia_one PySem.W.kitx_tuple I.kIn ⟨o,h1,h2⟩ e (fun z=>nomatch z) h
 | @dK a kvs ea =>
  cases (show u=Value.ref a from rx)
  obtain ⟨_,_,vs,_,p⟩:=(show ObjOk X.prog X.w H s.heap a (.dK kvs) from I.hok a _ ea)
  obtain ⟨o,es,ep,h1,h2,_⟩:=p
  exact PySem.W.kia_one PySem.W.kitx_dict I.kIn ⟨o,h1,h2.1⟩ e (fun z=>nomatch z) h
 | @dT a kvs ea =>
  cases (show u=Value.ref a from rx)
  obtain ⟨_,_,xs,_,o,es,ep,h1,h2,_⟩:=(show ObjOk X.prog X.w H s.heap a (.dT kvs) from I.hok a _ ea)
  exact PySem.W.kia_one PySem.W.kitx_dict I.kIn ⟨o,h1,h2.1⟩ e (fun z=>nomatch z) h
 | @ins a C dx fs ea cl ha hn htk hm =>
  cases (show u=Value.ref a from rx)
  obtain ⟨mA,O,_⟩:=zag8 I.hok ea
  obtain ⟨od,J,_⟩:=O.look
  exact PySem.W.kia_one (PySem.W.kitx_own (cl.get _) cl.hd ha hn htk hm) I.kIn J e (fun z=>nomatch z) h
end
structure Room (k:Nat) (A:Around):Prop where
 hd:A.handled=none
 dp:A.depth + 3 * k + 5 < recursionLimit
 un:A.units + 16 * k + 200 < cLine
theorem Room.mono {j k:Nat}{A:Around} (r:Room k A) (h:j≤k):Room j A:=⟨r.hd,by have:=r.dp; omega,by have:=r.un; omega⟩
theorem Room.deeper {k:Nat}{A:Around} (r:Room (k + 1) A) (env:Env):Room k (A.deeper env) :=
 ⟨r.hd,by have:=r.dp; show A.depth + 1 + 3 * k + 5 < _; omega,by have:=r.un; show A.units + 3 + 16 * k + 200 < _; omega⟩
theorem zak4 {A:Around}{C:Addr}{us:List Value}{kw:List (Str × Value)}:(A.under (.builtin "type.__call__" ⟨.ref C :: us,kw⟩)).depth=A.depth + 1:=by
 first | rfl | simp [Around.under,Code.weight,Code.isCreation,Code.isGuard,Code.isCaller,Code.frames,Code.isFrame,guardIds]
theorem zak5 {A:Around}{C:Addr}{us:List Value}{kw:List (Str × Value)}:(A.under (.builtin "type.__call__" ⟨.ref C :: us,kw⟩)).units=A.units + 1:=by
 first | rfl | simp [Around.under,Code.cUnits,Code.frames,Code.isFrame]
theorem Room.make {k:Nat}{A:Around} (r:Room (k + 1) A) (C:Addr) (us:List Value) (kw:List (Str × Value)):Room k (A.under (.builtin "type.__call__" ⟨.ref C :: us,kw⟩)) :=
 ⟨r.hd,by have:=r.dp; rw [zak4]; omega,by have:=r.un; rw [zak5]; omega⟩
theorem Room.depth {k:Nat}{A:Around} (r:Room k A):A.depth < recursionLimit:=by have:=r.dp; omega
theorem Room.units {k:Nat}{A:Around} (r:Room k A):A.units + 64 < cLine:=by have:=r.un; omega
def tNil:TA:=fun _ H Q=>Q [] H
def tCons (ta:TE) (tr:TA):TA:=fun σ H Q=>ta σ H fun x H1=>tr σ H1 fun xs H2=>Q (x :: xs) H2
section
variable {X:Cx}{e:Expr}{es:List Expr}{te:TE}{t:TA}{pos:Pos}
theorem zatk:PA X [] tNil:=fun _ _ _ _ H Q I h=>Calls.spliced_nil ⟨[],H,I,.nil,h⟩
theorem zard (ha:PE X e te) (hr:PA X es t) (hs:starEach (e :: es) X.env=(false,eval e X.env) :: starEach es X.env:=by rfl):PA X (e :: es) (tCons te t):=by
 intro pos pins s σ H Q I h
 rw [hs]
 show wpAny _ _ (spliced ((false,eval e X.env) :: backTo pos (starEach es X.env))) _ _ s
 refine Calls.spliced_cons (thn (ha pins s σ H _ I h) fun u s1 ⟨x,H1,I1,r1,q1⟩=>?_)
 exact thn (hr pos pins s1 σ H1 _ I1 q1) fun us s2 ⟨xs,H2,I2,r2,q2⟩=>⟨x :: xs,H2,I2,.cons r1 r2,q2⟩
def tTup (t:TA):TE:=fun σ H Q=>t σ H fun xs H1=>xs.length≤sizeLine∧∀ p,H1 p=none→Q (.ref p) (upd H1 p (.tup xs))
def tLst (t:TA):TE:=fun σ H Q=>t σ H fun xs H1=>xs.length≤sizeLine∧∀ p,H1 p=none→Q (.ref p) (upd H1 p (.lst xs))
theorem zatl {x1} (h:PA X es t):PE X (.Tuple es x1 pos) (tTup t):=by
 intro pins s σ H Q I hq
 refine wpAny_Tuple_spliced (thn (h pos pins s σ H _ I hq) fun us s1 ⟨xs,H1,I1,r,z,q⟩=>⟨by rw [← r.length]; exact z,?_⟩)
 have hf:H1 s1.heap.objs.size=none:=I1.hok.fresh (Nat.le_refl _)
 refine ⟨.ref s1.heap.objs.size,upd H1 s1.heap.objs.size (.tup xs),I1.laid (t':=s1.toks) (fun b u e=>Heap.get?_push_of_some _ e) (Nat.le_refl _) ?_,rfl,q _ hf⟩
 exact ⟨z,us,r,⟨_,Heap.get?_push_size _ rfl,rfl,_,rfl⟩⟩
theorem zatm (h:PA X es t):PE X (.List es pos) (tLst t):=by
 intro pins s σ H Q I hq
 refine wpAny_List_spliced (thn (h pos pins s σ H _ I hq) fun us s1 ⟨xs,H1,I1,r,z,q⟩=>⟨by rw [← r.length]; exact z,?_⟩)
 have hf:H1 s1.heap.objs.size=none:=I1.hok.fresh (Nat.le_refl _)
 refine ⟨.ref s1.heap.objs.size,upd H1 s1.heap.objs.size (.lst xs),I1.laid (t':=s1.toks) (fun b u e=>Heap.get?_push_of_some _ e) (Nat.le_refl _) ?_,rfl,q _ hf⟩
 exact ⟨z,us,0,r,Heap.get?_push_size _ rfl⟩
end
abbrev Sp:=List V→Hp→VK→XK→Prop
abbrev CXT:=List Env→Hp→Shared→XK→Value→Shared→Prop
structure Env0 (P:Program) (w:World) (K:PySem.W.Frag) (mg:Str→Option Value) (base:Heap) (A:Around) (outer:List Env) (s:Shared) (H:Hp):Prop where
 frames:A.frames=some outer
 mod:Mod K mg base
 bs:∀ b o,base.get? b=some o→s.heap.get? b=some o∧H b=none
 bsz:base.objs.size≤s.heap.objs.size
 funs:s.heap.FunFrames base outer
 frf:∀ b∈frs outer,H b=none
 hok:HOk P w H s.heap
 bare:AllBare s.gens
def CE (outer:List Env) (P:Program) (w:World) (H:Hp) (s:Shared) (Q:VK) (u:Value) (s':Shared):Prop :=
 ∃ v H',s'.os=s.os∧AllBare s'.gens∧Un (frs outer) [] H H' s.heap s'.heap∧HOk P w H' s'.heap∧RelV v u∧Q v H'
def CR (CX:CXT) (outer:List Env) (P:Program) (w:World) (H:Hp) (s:Shared) (Q:VK) (E:XK) (r:Result) (s':Shared):Prop :=
 match r with
 | .ok (.ret u)=>CE outer P w H s Q u s'
 | .ok _=>False
 | .error e=>CX outer H s E e s'
structure FnOk (P:Program) (w:World) (K:PySem.W.Frag) (mg:Str→Option Value) (base:Heap) (CX:CXT) (k:Nat) (f:Addr) (fd:FuncData) (ps:List Str) (sp:Sp):Prop where
 len:∀ vs H Q E,sp vs H Q E→vs.length=ps.length
 run:∀ (A:Around) (outer:List Env) (s:Shared) (H:Hp) (args:Args) (us:List Value) (vs:List V) (Q:VK) (E:XK),Room k A→Env0 P w K mg base A outer s H→BindsTo s fd args (ps.zip us)→Vals vs us→sp vs H Q E →
  codeAny (model P w) A (.call (.ref f) args) (CR CX outer P w H s Q E) s
theorem FnOk.mono {P:Program}{w:World}{K:PySem.W.Frag}{mg:Str→Option Value}{base:Heap}{CX:CXT}{j k:Nat}{f:Addr}{fd:FuncData}{ps:List Str}{sp:Sp} (F:FnOk P w K mg base CX j f fd ps sp) (h:j≤k) :
  FnOk P w K mg base CX k f fd ps sp:=⟨F.len,fun A outer s H args us vs Q E hr=>F.run A outer s H args us vs Q E (hr.mono h)⟩
theorem Env0.make {P:Program}{w:World}{K:PySem.W.Frag}{mg:Str→Option Value}{base:Heap}{A:Around}{outer:List Env}{s:Shared}{H:Hp} (e:Env0 P w K mg base A outer s H) (C:Addr) (us:List Value) (kw:List (Str × Value)) :
  Env0 P w K mg base (A.under (.builtin "type.__call__" ⟨.ref C :: us,kw⟩)) outer s H:=⟨by first | exact e.frames | (simpa [Around.under,Code.envs,Code.isFrame,pushEnvs] using e.frames),e.mod,e.bs,e.bsz,e.funs,e.frf,e.hok,e.bare⟩
section
variable {X:Cx}{pins:List (Addr × Obj)}{σ:St}{H:Hp}{s s':Shared}
theorem Inv.env0 (I:Inv X pins σ H s):Env0 X.prog X.w X.K X.mg X.base X.A X.stack s H :=
 ⟨I.ok.frames,I.ok.mod,I.bs,Nat.le_trans I.ok.bsz I.sz,I.stack,I.stkFree,I.hok,I.bare⟩
theorem Inv.after {Q:VK}{u:Value} (I:Inv X pins σ H s) (h:CE X.stack X.prog X.w H s Q u s'):EP X pins σ Q u s':=by
 obtain ⟨v,H',os,bare,un,hok,r,q⟩:=h
 obtain ⟨hh,g,d,t,os'⟩:=s'
 obtain rfl:os'=s.os:=os
 exact ⟨v,H',I.call (h':=hh) (g':=g) (d':=d) (t':=t) (ch:=[]) un hok bare (fun b z=>absurd z (by simp)),r,q⟩
end
def tCall (sp:Sp) (dvs:List V) (E:XK) (t:TA):TE:=fun σ H Q=>t σ H fun vs H1=>sp (vs++dvs) H1 Q E
def tMeth (C:Addr) (m:Str) (sp:Sp) (dvs:List V) (E:XK) (ta:TE) (t:TA):TE:=fun σ H Q=>ta σ H fun x H1=>∃ a dx fs,x=.ref a∧H1 a=some (.ins C dx fs)∧fs.lookup m=none ∧
 t σ H1 fun vs H2=>sp (x :: (vs++dvs)) H2 Q E
def tMake (C:Addr) (sp:Sp) (dvs:List V) (E:XK) (t:TA):TE:=fun σ H Q=>t σ H fun vs H1=>∀ x dx,H1 x=none→H1 dx=none→dx≠x →
 sp (.ref x :: (vs++dvs)) (upd (upd H1 dx (.own x)) x (.ins C dx [])) (fun v H2=>v=.non∧Q (.ref x) H2) E
def Binds (K:PySem.W.Frag) (fd:FuncData) (ps:List Str) (ds:List Value):Prop :=
 ∀ (s:Shared) (us:List Value),K.In s.heap→(us++ds).length=ps.length→BindsTo s fd ⟨us,[]⟩ (ps.zip (us++ds))
theorem Binds.all {K:PySem.W.Frag}{fd:FuncData}{ps:List Str} (h:∀ us:List Value,us.length=ps.length→bindArgs fd ⟨us,[]⟩=pure (ps.zip us)):Binds K fd ps []:=fun s us _ hl=>by
 rw [List.append_nil] at hl ⊢
 exact .of_eq (h us hl)
def Passes (CX:CXT) (X:Cx) (E:XK):Prop:=∀ (pins:List (Addr × Obj)) (σ:St) (H:Hp) (s:Shared) (e:Value) (s':Shared),Inv X pins σ H s→CX X.stack H s E e s'→X.xe e s'
section
variable {X:Cx}{CX:CXT}{k:Nat}{f C:Addr}{fd:FuncData}{ps:List Str}{sp:Sp}{dvs:List V}{ds:List Value}{E:XK}{x m:Str}{p pos apos:Pos}{e o:Expr}{es:List Expr}{ta:TE}{t:TA}
theorem zal1 {pins:List (Addr × Obj)}{σ:St}{H:Hp}{s:Shared}{Q:VK}{us:List Value}{vs:List V} (F:FnOk X.prog X.w X.K X.mg X.base CX k f fd ps sp) (hr:Room k X.A) (hb:Binds X.K fd ps ds) (hd:Vals dvs ds) (hx:Passes CX X E)
  (I:Inv X pins σ H s) (r:Vals vs us) (h:sp (vs++dvs) H Q E):wpAny (model X.prog X.w) X.A (call (.ref f) us) (EP X pins σ Q) X.xe s:=by
 have r2:Vals (vs++dvs) (us++ds):=r.append hd
 have hl:(us++ds).length=ps.length:=by rw [← r2.length]; exact F.len _ _ _ _ h
 refine wpAny_call (codeAny_mono (F.run X.A X.stack s H ⟨us,[]⟩ (us++ds) (vs++dvs) Q E hr I.env0 (hb s us I.kIn hl) r2 h) fun r s' hq=>?_)
 cases r with
 | error e=>exact hx pins σ H s e s' I hq
 | ok fl =>
  cases fl with
  | ret u=>exact I.after hq
  | next=>exact False.elim hq
  | brk=>exact False.elim hq
  | cont=>exact False.elim hq
theorem zare (F:FnOk X.prog X.w X.K X.mg X.base CX k f fd ps sp) (hr:Room k X.A) (hg:Gl X x) (hm:X.mg x=some (.ref f)) (hk:PySem.W.keepIn X.K (.ref f)=true) (hb:Binds X.K fd ps ds) (hd:Vals dvs ds) (hx:Passes CX X E)
  (ha:PA X (e :: es) t) (hdb:(x == ("__debug__" : Str))=false:=by decide) (he:starEach (e :: es) X.env=(false,eval e X.env) :: starEach es X.env:=by rfl) (hpl:(backTo pos (starEach es X.env)).any (·.1)=false:=by rfl) :
  PE X (.Call (.Name x p) (e :: es) [] pos) (tCall sp dvs E t):=by
 intro pins s σ H Q I h
 refine wpAny_Call_Name_kw (zajh I hg hm ?_ hdb)
 refine PySem.W.callWith_K (h₀:=X.base) I.ok.mod.kin hk (thn (ha pos pins s σ H _ I h) fun us s1 ⟨vs,H1,I1,r,q⟩=>⟨I1.kIn,?_⟩) he hpl
 exact zal1 F hr hb hd hx I1 r q
theorem zarf {pl:Sem Bool} (he:PE X o ta) (c:Cls X.K C) (hm:Meth X.K C m f) (F:FnOk X.prog X.w X.K X.mg X.base CX k f fd ps sp) (hr:Room k X.A) (hb:Binds X.K fd ps ds) (hd:Vals dvs ds) (hx:Passes CX X E) (ha:PA X (e :: es) t)
  (hst:starEach (e :: es) X.env=(false,eval e X.env) :: starEach es X.env:=by rfl) (hpl:(backTo pos (starEach es X.env)).any (·.1)=false:=by rfl)
  (ht:eval (.Call (.Attribute o m apos) (e :: es) [] pos) X.env=(do
   let ov ← eval o X.env
   standAt apos.atName
   let (f,first) ← holding [ov] (getMethod ov m pl)
   callWith pos f first (backTo pos (starEach (e :: es) X.env)) (backToKw pos (keywordEach [] X.env))):=by rfl) :
  PE X (.Call (.Attribute o m apos) (e :: es) [] pos) (tMeth C m sp dvs E ta t):=by
 intro pins s σ H Q I h
 refine PySem.W.methodCall_KW (pl:=pl) (thn (he pins s σ H _ I h) fun u s1 ⟨x,H1,I1,rx,a,dx,fs,ex,ea,l,q⟩=>?_) ht
 subst ex
 obtain rfl:u=Value.ref a:=rx
 refine zagw I1 ea c hm l ?_
 refine PySem.W.callWith_K (first:=[.ref a]) (h₀:=X.base) I.ok.mod.kin hm.kp (thn (ha pos pins s1 σ H1 _ I1 q) fun us s2 ⟨vs,H2,I2,r,q2⟩=>⟨I2.kIn,?_⟩) hst hpl
 exact zal1 (us:=.ref a :: us) (vs:=.ref a :: vs) F hr hb hd hx I2 (.cons rfl r) q2
theorem zaon {pl:Sem Bool} (he:PE X o ta) (c:Cls X.K C) (hm:Meth X.K C m f) (F:FnOk X.prog X.w X.K X.mg X.base CX k f fd ps sp) (hr:Room k X.A) (hb:Binds X.K fd ps ds) (hd:Vals dvs ds) (hx:Passes CX X E)
  (ht:eval (.Call (.Attribute o m apos) [] [] pos) X.env=(do
   let ov ← eval o X.env
   standAt apos.atName
   let (f,first) ← holding [ov] (getMethod ov m pl)
   callWith pos f first (backTo pos (starEach [] X.env)) (backToKw pos (keywordEach [] X.env))):=by rfl) :
  PE X (.Call (.Attribute o m apos) [] [] pos) (tMeth C m sp dvs E ta tNil):=by
 intro pins s σ H Q I h
 refine PySem.W.methodCall_KW (pl:=pl) (thn (he pins s σ H _ I h) fun u s1 ⟨x,H1,I1,rx,a,dx,fs,ex,ea,l,q⟩=>?_) ht
 subst ex
 obtain rfl:u=Value.ref a:=rx
 refine zagw I1 ea c hm l ?_
 exact PySem.W.callWith_K0 (first:=[.ref a]) I1.kIn hm.kp (zal1 (us:=[.ref a]) (vs:=[.ref a]) F hr hb hd hx I1 (.cons rfl .nil) q)
structure Mk (K:PySem.W.Frag) (C f:Addr):Prop where
 makes:PySem.W.makesIn K C=true
 init:PySem.W.findIn K (.ref C) "__init__" = some (some (.ref f))
 fn:PySem.W.isFn K (.ref f)=true
 kp:PySem.W.keepIn K (.ref C)=true
theorem zaoo {pins:List (Addr × Obj)}{σ:St}{H:Hp}{s:Shared}{Q:VK}{us:List Value}{vs:List V} (M:Mk X.K C f) (F:FnOk X.prog X.w X.K X.mg X.base CX k f fd ps sp) (hr:Room (k + 1) X.A) (hb:Binds X.K fd ps ds) (hd:Vals dvs ds)
  (hx:Passes CX X E) (I:Inv X pins σ H s) (r:Vals vs us)
  (h:∀ x dx,H x=none→H dx=none→dx≠x→sp (.ref x :: (vs++dvs)) (upd (upd H dx (.own x)) x (.ins C dx [])) (fun v H2=>v=.non∧Q (.ref x) H2) E) :
  wpAny (model X.prog X.w) X.A (call (.ref C) us) (EP X pins σ Q) X.xe s:=by
 have hq:=h (s.heap.objs.size + 1) s.heap.objs.size (I.hok.fresh (Nat.le_succ _)) (I.hok.fresh (Nat.le_refl _)) (Nat.ne_of_lt (Nat.lt_succ_self _))
 have I2:=Inv.made (C:=C) I
 have r2:Vals (V.ref (s.heap.objs.size + 1) :: (vs++dvs)) (Value.ref (s.heap.objs.size + 1) :: (us++ds)):=.cons rfl (r.append hd)
 have hl:(Value.ref (s.heap.objs.size + 1) :: us++ds).length=ps.length:=by
  have e:=r2.length
  rw [F.len _ _ _ _ hq] at e
  exact e.symm
 refine wpAny_call (zaom (f:=f) I.kIn M.makes M.init (beq_iff_eq.mp M.fn) (codeAny_mono (F.run _ X.stack _ _ ⟨Value.ref (s.heap.objs.size + 1) :: us,[]⟩ (Value.ref (s.heap.objs.size + 1) :: (us++ds)) _ _ E (hr.make C us [])
  (I2.env0.make C us []) (hb _ (Value.ref (s.heap.objs.size + 1) :: us) I2.kIn hl) r2 hq) fun r s' hq'=>?_))
 cases r with
 | error e=>exact hx pins σ _ _ e s' I2 hq'
 | ok fl =>
  cases fl with
  | ret u =>
   obtain ⟨v,H',I3,rv,ev,q3⟩:=I2.after hq'
   subst ev
   exact ⟨rv,⟨V.ref (s.heap.objs.size + 1),H',I3,rfl,q3⟩⟩
  | next=>exact False.elim hq'
  | brk=>exact False.elim hq'
  | cont=>exact False.elim hq'
theorem zarg (M:Mk X.K C f) (F:FnOk X.prog X.w X.K X.mg X.base CX k f fd ps sp) (hr:Room (k + 1) X.A) (hg:Gl X x) (hm:X.mg x=some (.ref C)) (hb:Binds X.K fd ps ds) (hd:Vals dvs ds) (hx:Passes CX X E)
  (ha:PA X (e :: es) t) (hdb:(x == ("__debug__" : Str))=false:=by decide) (he:starEach (e :: es) X.env=(false,eval e X.env) :: starEach es X.env:=by rfl) (hpl:(backTo pos (starEach es X.env)).any (·.1)=false:=by rfl) :
  PE X (.Call (.Name x p) (e :: es) [] pos) (tMake C sp dvs E t):=by
 intro pins s σ H Q I h
 refine wpAny_Call_Name_kw (zajh I hg hm ?_ hdb)
 refine PySem.W.callWith_K (h₀:=X.base) I.ok.mod.kin M.kp (thn (ha pos pins s σ H _ I h) fun us s1 ⟨vs,H1,I1,r,q⟩=>⟨I1.kIn,?_⟩) he hpl
 exact zaoo M F hr hb hd hx I1 r q
end
structure FnScope (N P:List Str) (sc:Scope):Prop where
 kind:sc.kind=.function
 co:sc.isCoroutine=false
 gen:sc.isGenerator=false
 nd:N.Nodup
 pre:N.take P.length=P
 par:∀ x∈P,sc.names.lookup x=some .local∨sc.names.lookup x=some .cell
 nofree:∀ y∈sc.names,y.2≠.free
theorem zah5 {kindOf:Str→Option NameKind}{x:Str}:∀ {binds:List (Str × Value)}{m:Str→Option Value},(∀ v,(x,v) ∉ binds)→bindL kindOf binds m x=m x
 | [],_,_=>rfl
 | (n,v) :: r,m,h=>by
  unfold bindL
  rw [zah5 fun w hw=>h w (List.mem_cons_of_mem _ hw)]
  split
  ·have:x≠n:=by rintro rfl; exact h v List.mem_cons_self
   simp [this]
  ·rfl
theorem zah6 {kindOf:Str→Option NameKind}{x:Str}:∀ {binds:List (Str × Value)}{m:Str→Option Value},(∀ v,(x,v) ∉ binds)→bindC kindOf binds m x=m x
 | [],_,_=>rfl
 | (n,v) :: r,m,h=>by
  unfold bindC
  rw [zah6 fun w hw=>h w (List.mem_cons_of_mem _ hw)]
  split
  ·rfl
  ·have:x≠n:=by rintro rfl; exact h v List.mem_cons_self
   simp [this]
theorem zah7 {kindOf:Str→Option NameKind}{x:Str}{v:Value}:∀ {P:List Str}{vs:List Value}{i:Nat}{m:Str→Option Value},P.Nodup→P[i]?=some x→vs[i]?=some v→kindOf x=some .local →
  bindL kindOf (P.zip vs) m x=some v
 | [],_,_,_,_,h,_,_=>by simp at h
 | _ :: _,[],_,_,_,_,h,_=>by simp at h
 | p :: P,w :: vs,0,m,nd,h1,h2,hk=>by
  simp at h1 h2; subst h1; subst h2
  show bindL kindOf ((p,w) :: P.zip vs) m p=_
  unfold bindL
  rw [zah5 fun v hv=>(List.nodup_cons.mp nd).1 (List.of_mem_zip hv).1,if_pos hk]
  simp
 | p :: P,w :: vs,i + 1,m,nd,h1,h2,hk=>by
  show bindL kindOf ((p,w) :: P.zip vs) m x=_
  unfold bindL
  exact zah7 (i:=i) (List.nodup_cons.mp nd).2 (by simpa using h1) (by simpa using h2) hk
theorem zah8 {kindOf:Str→Option NameKind}{x:Str}{v:Value}:∀ {P:List Str}{vs:List Value}{i:Nat}{m:Str→Option Value},P.Nodup→P[i]?=some x→vs[i]?=some v→kindOf x≠some .local →
  bindC kindOf (P.zip vs) m x=some v
 | [],_,_,_,_,h,_,_=>by simp at h
 | _ :: _,[],_,_,_,_,h,_=>by simp at h
 | p :: P,w :: vs,0,m,nd,h1,h2,hk=>by
  simp at h1 h2; subst h1; subst h2
  show bindC kindOf ((p,w) :: P.zip vs) m p=_
  unfold bindC
  rw [zah6 fun v hv=>(List.nodup_cons.mp nd).1 (List.of_mem_zip hv).1,if_neg hk]
  simp
 | p :: P,w :: vs,i + 1,m,nd,h1,h2,hk=>by
  show bindC kindOf ((p,w) :: P.zip vs) m x=_
  unfold bindC
  exact zah8 (i:=i) (List.nodup_cons.mp nd).2 (by simpa using h1) (by simpa using h2) hk
def start (N:List Str) (vs:List V):St:=vs.map some++List.replicate (N.length - vs.length) none
def cxOf (CX:CXT) (P:Program) (w:World) (K:PySem.W.Frag) (mg:Str→Option Value) (base:Heap) (N:List Str) (qual:Str) (scope:Scope) (f:Addr) (cd:Value) (A:Around) (outer:List Env) (s:Shared) (H:Hp) (E:XK):Cx where
 prog:=P
 w:=w
 K:=K
 mg:=mg
 base:=base
 A:=A.deeper (envOfC qual scope s.heap.objs.size f cd)
 N:=N
 s₀:=s
 H₀:=H
 env:=envOfC qual scope s.heap.objs.size f cd
 outer:=outer
 stack:=envOfC qual scope s.heap.objs.size f cd :: outer
 ex:=[]
 calm:=true
 fn:=fun _=>true
 pn:=[]
 xe:=fun e s'=>wpAny (model P w) (A.deeper (envOfC qual scope s.heap.objs.size f cd)) (leaving (envOfC qual scope s.heap.objs.size f cd) e) (fun _ s''=>CX outer H s E e s'') (fun e' s''=>CX outer H s E e' s'') s'
theorem zakg {sc:Scope}{n:Nat}{x:Str} (h:sc.names.lookup x=some .cell):∃ c,(cellsFrom n sc.names []).lookup x=some c:=by
 have q:=PySem.W.cellsFrom_some sc.names n [] (.inl h)
 exact Option.isSome_iff_exists.mp q
theorem zal2 {CX:CXT}{P:Program}{w:World}{K:PySem.W.Frag}{mg:Str→Option Value}{base:Heap}{N ps:List Str}{qual:Str}{scope:Scope}{f:Addr}{cd:Value}{A:Around}{outer:List Env}{s s1:Shared}{H:Hp}{E:XK}{us:List Value}{vs:List V}
  (S:FnScope N ps scope) (hd:A.handled=none) (e0:Env0 P w K mg base A outer s H) (hl:vs.length=ps.length) (r:Vals vs us)
  (x:InCallC s s.heap.objs.size (bindL (envOfC qual scope s.heap.objs.size f cd).kindOf (ps.zip us) fun _=>none) (cellsFrom (s.heap.objs.size + 1) scope.names []) (bindC (envOfC qual scope s.heap.objs.size f cd).kindOf (ps.zip us) fun _=>none) s1) :
  Inv (cxOf CX P w K mg base N qual scope f cd A outer s H E) [] (start N vs) H s1:=by
 have hpl:ps.length≤N.length:=by have:=congrArg List.length S.pre; rw [List.length_take] at this; omega
 obtain ⟨h1,tk,rfl,hk⟩:=x.done
 have noA:∀ b:Addr,b ∉ (cxOf CX P w K mg base N qual scope f cd A outer s H E).ex:=fun b z=>absurd (show b∈([]:List Addr) from z) (by simp)
 refine ⟨⟨e0.mod,S.kind,rfl,rfl,Nat.le_refl _,fun y z c h1 h2=>?_,fun y hy=>?_,fun y c _ h=>?_,fun _=>hd,Around.frames_deeper e0.frames,.inr ⟨rfl,rfl⟩,fun b z=>absurd z (noA b),e0.bs,e0.bsz,fun b _ _=>noA b,fun b z=>absurd z (noA b),e0.funs,e0.frf⟩,
  rfl,e0.bare,Un.kept hk,⟨_,x.toInCall.ns,fun i y v h1 h2 h3=>?_⟩,fun y c h=>⟨_,x.cell y c h⟩,e0.hok.fresh (Nat.le_refl _),fun y c h=>?_,fun p hp=>absurd (show p∈([]:List (Addr × Obj)) from hp) (by simp),e0.hok.kept hk,?_⟩
 ·exact name_of_addr x.apart (PySem.mem_of_lookup h1) (PySem.mem_of_lookup h2)
 ·have hy:scope.names.lookup y=some .cell∨scope.names.lookup y=some .free:=hy
  rcases hy with hy | hy
  ·exact zakg hy
  ·exact absurd rfl (S.nofree _ (PySem.mem_of_lookup hy))
 ·exact Nat.le_of_lt (x.above y c (PySem.mem_of_lookup h))
 ·have hi:i < vs.length:=by
   unfold start at h2
   by_cases hi:i < vs.length
   ·exact hi
   ·rw [List.getElem?_append_right (by simpa using hi)] at h2
    rw [List.getElem?_replicate] at h2
    split at h2 <;> cases h2
  have ha:vs[i]?=some v:=by
   unfold start at h2
   rw [List.getElem?_append_left (by simpa using hi),List.getElem?_map] at h2
   cases e:vs[i]? with
   | none=>rw [e] at h2; cases h2
   | some a=>rw [e] at h2; cases h2; rfl
  obtain ⟨u,hu,rv⟩:=r.get ha
  have hp:ps[i]?=some y:=by
   rw [← S.pre,List.getElem?_take_of_lt (by omega)]; exact h1
  have ndP:ps.Nodup:=by rw [← S.pre]; exact S.nd.sublist (List.take_sublist _ _)
  refine ⟨u,rv,?_⟩
  rcases S.par y (List.mem_of_getElem? hp) with k | k
  ·exact .inl ⟨k,zah7 ndP hp hu k⟩
  ·obtain ⟨c,e⟩:=zakg (n:=s.heap.objs.size + 1) k
   refine .inr ⟨.inl k,c,e,?_⟩
   have q:=x.cell y c e
   rw [zah8 ndP hp hu (by show scope.names.lookup y≠_; rw [k]; decide)] at q
   exact q
 ·exact e0.hok.fresh (Nat.le_of_lt (x.above y c (PySem.mem_of_lookup h)))
 ·unfold start
  show _=N.length
  rw [List.length_append,List.length_map,List.length_replicate]
  omega
theorem zau5 {CX:CXT}{P:Program}{w:World}{K:PySem.W.Frag}{mg:Str→Option Value}{base:Heap}{k:Nat}{f:Addr}{name qual:Str}{params:Arguments}{body:List Stmt}{scope:Scope}{dV kV doc pm cdv ct oc:Value}{an od:Option Addr}
  {osl:Array (Option Value)}{N ps:List Str}{sp:Sp} (lk:K.lookup f=some ⟨oc,od,.func (PySem.W.fnOf name qual params body scope dV kV doc pm an cdv ct),osl⟩) (hcd:PySem.W.codeIn K cdv qual=true) (S:FnScope N ps scope)
  (len:∀ vs H Q E,sp vs H Q E→vs.length=ps.length)
  (hbody:∀ (A:Around) (outer:List Env) (s:Shared) (H:Hp) (vs:List V) (Q:VK) (E:XK),Room k (A.deeper (envOfC qual scope s.heap.objs.size f cdv))→sp vs H Q E →
   ∃ t,PSs (cxOf CX P w K mg base N qual scope f cdv A outer s H E) body t∧t { nx:=fun _ H'=>Q .non H',rt:=Q } (start N vs) H) :
  FnOk P w K mg base CX (k + 1) f (PySem.W.fnOf name qual params body scope dV kV doc pm an cdv ct) ps sp:=by
 refine ⟨len,fun A outer s H args us vs Q E hr e0 hb r hsp=>?_⟩
 have hl:=len _ _ _ _ hsp
 have KX:K.In s.heap:=e0.mod.kin.keeps fun b o e=>(e0.bs b o e).1
 have lim:s.heap.NoLimit:=e0.mod.nolimit.keeps fun b o e=>(e0.bs b o e).1
 have hkind:∀ y∈ps.zip us,scope.names.lookup y.1=some .local∨(scope.names.lookup y.1=some .cell∧((cellsFrom (s.heap.objs.size + 1) scope.names []).lookup y.1).isSome=true):=fun ⟨n,v⟩ hy=>by
  rcases S.par n (List.of_mem_zip hy).1 with q | q
  ·exact .inl q
  ·exact .inr ⟨q,PySem.W.cellsFrom_some _ _ _ (.inl q)⟩
 refine codeAny_call_function hr.depth (KX _ _ lk) rfl S.co S.gen rfl (PySem.W.codeRec_of KX hcd) (hb _ _ _ _ ?_)
 refine wpAny_newFunctionEnv_cells S.kind hkind fun env he s1 x=>?_
 subst he
 refine ⟨lim.keeps x.toInCall.keep,codeAny_func ?_⟩
 obtain ⟨t,ht,hq⟩:=hbody A outer s H vs Q E (hr.deeper _) hsp
 have I:Inv (cxOf CX P w K mg base N qual scope f cdv A outer s H E) [] (start N vs) H s1:=zal2 S hr.hd e0 hl r x
 refine wpAny_mono (ht [] s1 (start N vs) H _ I hq) (fun fl s' hs=>?_) fun e s' hs=>hs
 have fin:∀ {σ':St}{H':Hp}{v:V}{u:Value},Inv (cxOf CX P w K mg base N qual scope f cdv A outer s H E) [] σ' H' s'→RelV v u→Q v H'→CE outer P w H s Q u s' :=
  fun {σ' H' v u} J rv q=>⟨v,H',J.os,J.bare,J.base,J.hok,rv,q⟩
 cases fl with
 | ret u =>
  obtain ⟨v,σ',H',J,rv,q⟩:=hs
  exact fin J rv q
 | next =>
  obtain ⟨σ',H',J,q⟩:=hs
  exact fin (v:=V.non) (u:=Value.none) J rfl q
 | brk =>
  obtain ⟨_,_,_,q⟩:=hs
  exact False.elim q
 | cont =>
  obtain ⟨_,_,_,q⟩:=hs
  exact False.elim q
section
variable {X:Cx}{x:Str}{p pos:Pos}{e:Expr}{es:List Expr}{t:TA}{id T:String}{r:List V→Hp→VK→Prop}
def tCB (r:List V→Hp→VK→Prop) (t:TA):TE:=fun σ H Q=>t σ H fun vs H1=>r vs H1 Q
theorem zaop (hc:CallR X (.builtin id) r) (hg:Gl X x) (hm:X.mg x=none) (hv:bootBuiltins x=some (.builtin id)) (ha:PA X (e :: es) t) (hn:x ≠ "__name__" := by decide) (hdb:(x == ("__debug__" : Str))=false:=by decide)
  (he:starEach (e :: es) X.env=(false,eval e X.env) :: starEach es X.env:=by rfl) (hpl:(backTo pos (starEach es X.env)).any (·.1)=false:=by rfl):PE X (.Call (.Name x p) (e :: es) [] pos) (tCB r t):=by
 intro pins s σ H Q I h
 refine wpAny_Call_Name_kw (zad9 I hg hm hv ?_ hn hdb)
 exact PyProof.Rows.callWith_builtin1 (thn (ha pos pins s σ H _ I h) fun us s1 ⟨vs,H1,I1,r1,q1⟩=>hc pins s1 σ H1 vs us Q I1 r1 q1) he hpl
theorem zal3 (hc:CallR X (.type T) r) (hg:Gl X x) (hm:X.mg x=none) (hv:bootBuiltins x=some (.type T)) (ha:PA X (e :: es) t) (hn:x ≠ "__name__" := by decide) (hdb:(x == ("__debug__" : Str))=false:=by decide)
  (he:starEach (e :: es) X.env=(false,eval e X.env) :: starEach es X.env:=by rfl) (hpl:(backTo pos (starEach es X.env)).any (·.1)=false:=by rfl):PE X (.Call (.Name x p) (e :: es) [] pos) (tCB r t):=by
 intro pins s σ H Q I h
 refine wpAny_Call_Name_kw (zad9 I hg hm hv ?_ hn hdb)
 exact PyProof.Rows.callWith_type1 (thn (ha pos pins s σ H _ I h) fun us s1 ⟨vs,H1,I1,r1,q1⟩=>hc pins s1 σ H1 vs us Q I1 r1 q1) he hpl
end
end L2
namespace HT
open PySem PyProof.Rows
section
variable {prog:Program}{w:World}{A:Around}{E:Value→Shared→Prop}{s:Shared}
def sIx (n d:Nat):Option Int→Nat
 | none=>d
 | some v=>if v < 0 then (v + (n:Int)).toNat else min v.toNat n
theorem sIx_none (n d:Nat):sIx n d none=d:=rfl
theorem sIx_nat (n d k:Nat):sIx n d (some (k:Int))=min k n:=by
 show (if (k:Int) < 0 then ((k:Int) + (n:Int)).toNat else min (k:Int).toNat n)=min k n
 rw [if_neg (by omega),Int.toNat_natCast]
theorem zatn (n d:Nat) (hd:d≤n) (o:Option Int):sIx n d o≤n:=by
 cases o with
 | none=>exact hd
 | some v =>
  show (if v < 0 then (v + (n:Int)).toNat else min v.toNat n)≤n
  by_cases hv:v < 0
  ·rw [if_pos hv]; omega
  ·rw [if_neg hv]; exact Nat.min_le_right _ _
theorem zal4 (v:Int) (n d:Nat):(if v < 0 then max (v + (n:Int)) 0 else min v (n:Int))=((sIx n d (some v):Nat):Int):=by
 show (if v < 0 then max (v + (n:Int)) 0 else min v (n:Int))=(((if v < 0 then (v + (n:Int)).toNat else min v.toNat n):Nat):Int)
 by_cases hv:v < 0
 ·simp only [if_pos hv]; omega
 ·simp only [if_neg hv]; omega
theorem zak6 (lo hi:Option Int) (n:Nat):Builtin.Slice.sliceAdjust lo hi 1 (n:Int)=(((sIx n 0 lo:Nat):Int),((sIx n n hi:Nat):Int)):=by
 have h1:¬ ((1:Int) < 0):=by omega
 unfold Builtin.Slice.sliceAdjust
 simp only [h1,if_false]
 refine Prod.ext ?_ ?_
 ·cases lo with
  | none=>rfl
  | some v=>exact zal4 v n 0
 ·cases hi with
  | none=>rfl
  | some v=>exact zal4 v n n
theorem zak7 (i j:Nat):Builtin.Slice.slicePlaces (i:Int) (j:Int) 1=j - i:=by
 unfold Builtin.Slice.slicePlaces
 have h1:(1:Int) > 0:=by omega
 simp only [h1,if_true,Int.ediv_one]
 split <;> omega
theorem zagx {v:Value}{o:Option Int}{Q:Option Int→Shared→Prop} (p:IsPart v o) (h:Q o s):wpAny (model prog w) A (Builtin.Slice.slicePartIndex v) Q E s:=by
 cases p with
 | none=>exact slicePart_none h
 | int i t=>exact slicePart_int h
theorem zafb {sl:Addr}{vl vu:Value}{lo hi:Option Int}{n:Nat}{Q:Int × Int × Nat→Shared→Prop} (hs:s.heap.IsSliceOf sl vl vu .none) (pl:IsPart vl lo) (pu:IsPart vu hi)
  (h:Q (((sIx n 0 lo:Nat):Int),1,sIx n n hi - sIx n 0 lo) s):wpAny (model prog w) A (Builtin.Slice.sliceApplied (.ref sl) (pure (n:Int))) Q E s:=by
 obtain ⟨os,hos,hcs,hds⟩:=id hs
 unfold Builtin.Slice.sliceApplied Builtin.Slice.sliceFields
 refine wpAny_bind (wpAny_bind (wpAny_field hos hds (x:=vl) rfl (wpAny_bind (wpAny_field hos hds (x:=vu) rfl (wpAny_bind (wpAny_field hos hds (x:=.none) rfl (wpAny_pure ?_)))))))
 refine wpAny_bind (slicePart_none ?_)
 show wpAny _ _ (if ((1:Int) == 0)=true then _ else _) _ _ s
 rw [if_neg (by decide)]
 refine wpAny_bind (zagx pl (wpAny_bind (zagx pu (wpAny_bind (wpAny_pure ?_)))))
 show wpAny _ _ (match Builtin.Slice.sliceAdjust lo hi 1 (n:Int) with | (lo,hi)=>pure (lo,(1:Int),Builtin.Slice.slicePlaces lo hi 1)) _ _ s
 rw [zak6 lo hi n]
 show wpAny _ _ (pure (((sIx n 0 lo:Nat):Int),(1:Int),Builtin.Slice.slicePlaces ((sIx n 0 lo:Nat):Int) ((sIx n n hi:Nat):Int) 1)) _ _ s
 rw [zak7]
 exact wpAny_pure h
theorem zaoq (xs:Array Value) (i k:Nat):((List.range k).filterMap fun (m:Nat)=>xs[((i:Int) + (m:Int) * 1).toNat]?).toArray=((xs.toList.drop i).take k).toArray:=by
 have e:(fun (m:Nat)=>xs[((i:Int) + (m:Int) * 1).toNat]?)=fun m=>xs[i + m]?:=by
  funext m
  have:((i:Int) + (m:Int) * 1).toNat=i + m:=by omega
  rw [this]
 rw [e]
 have:=pick_run xs i k
 rw [List.filterMap_map] at this
 have e2:((fun x=>xs[x]?) ∘ fun x=>i + x)=fun m=>xs[i + m]?:=rfl
 rw [e2] at this
 rw [this]
theorem getItem_tuple_cut {t sl:Addr}{items:Array Value}{vl vu:Value}{lo hi:Option Int}{Q:Value→Shared→Prop} (ht:IsTup s.heap t items) (hs:s.heap.IsSliceOf sl vl vu .none) (pl:IsPart vl lo) (pu:IsPart vu hi)
  (hw:¬ (sIx items.size 0 lo=0∧sIx items.size items.size hi=items.size))
  (h:Q (.ref s.heap.objs.size) { s with heap:=s.heap.push { cls:=.type "tuple",data:=.seq ((items.toList.drop (sIx items.size 0 lo)).take (sIx items.size items.size hi - sIx items.size 0 lo)).toArray } })
  (hsz:items.size≤sizeLine):wpAny (model prog w) A (getItem (.ref t) (.ref sl)) Q E s:=by
 have htake:sizeOk (.seq ((items.toList.drop (sIx items.size 0 lo)).take (sIx items.size items.size hi - sIx items.size 0 lo)).toArray):=by
  show ((items.toList.drop (sIx items.size 0 lo)).take (sIx items.size items.size hi - sIx items.size 0 lo)).toArray.size≤sizeLine
  rw [List.size_toArray,List.length_take,List.length_drop,Array.length_toList]
  omega
 have hj:sIx items.size items.size hi≤items.size:=zatn _ _ (Nat.le_refl _) hi
 obtain ⟨os,hos,hcs,hds⟩:=id hs
 have hTs:s.TypeIs (.ref sl) "slice" := ⟨os,hos,hcs⟩
 unfold getItem
 try with_reducible refine wpAny_holding ?_
 first | refine wpAny_bind (wpAny_pure ?_) | skip
 refine wpAny_bind (wpAny_sequenceKey ht.typeIs (by decide) ?_)
 refine wpAny_bind (wpAny_callSpecial?_slot (name:=Str.ofString "__getitem__") ht.typeIs PyProof.Rows.slot_tuple_getitem
  (wpAny_call_entry PyProof.Rows.slot_tuple_getitem ht.typeIs entry_tuple_getitem ?_ (args_tuple_getitem _ _)))
 show wpAny _ _ (Builtin.Tuple.tupleItemsOf (.ref t) >>= _) _ _ s
 refine wpAny_bind (tupleItemsOf_ ht ?_)
 refine wpAny_bind (wpAny_typeOf hTs ?_)
 rw [if_pos (by decide)]
 refine wpAny_bind (zafb hs pl pu ?_)
 have hno:¬ ((((sIx items.size 0 lo:Nat):Int) == 0 && (1:Int) == 1 && (sIx items.size items.size hi - sIx items.size 0 lo) == items.size)=true):=by
  intro q
  rw [Bool.and_eq_true,Bool.and_eq_true] at q
  have q1:((sIx items.size 0 lo:Nat):Int)=0:=eq_of_beq q.1.1
  have q2:sIx items.size items.size hi - sIx items.size 0 lo=items.size:=eq_of_beq q.2
  exact hw ⟨by omega,by omega⟩
 show wpAny _ _ (if (((sIx items.size 0 lo:Nat):Int) == 0 && (1:Int) == 1 && (sIx items.size items.size hi - sIx items.size 0 lo) == items.size)=true then _ else _) _ _ s
 rw [if_neg hno,zaoq]
 first
  | exact wpAny_bind (m:=Builtin.Tuple.tupleExact _) (wpAny_newObj_type (wpAny_pure ⟨_,rfl,wpAny_pure h⟩) htake)
  | exact wpAny_bind (m:=Builtin.Tuple.tupleExact _) (wpAny_newObj_type (wpAny_bind (wpAny_pure (wpAny_pure ⟨_,rfl,wpAny_pure h⟩))) htake)
  | exact wpAny_bind (wpAny_bind (m:=Builtin.Tuple.tupleExact _) (wpAny_newObj_type (wpAny_pure (wpAny_pure ⟨_,rfl,wpAny_pure h⟩)) htake))
  | exact wpAny_bind (wpAny_bind (m:=Builtin.Tuple.tupleExact _) (wpAny_newObj_type (wpAny_pure ⟨_,rfl,wpAny_pure h⟩) htake))
end
end HT
namespace L2
open PySem PySem.Spec PyProof.Rows
abbrev TO:=St→Hp→(Option Int→Hp→Prop)→Prop
def PO (X:Cx) (e:Option Expr) (t:TO):Prop :=
 ∀ (pins:List (Addr × Obj)) (s:Shared) (σ:St) (H:Hp) (Q:Option Int→Hp→Prop),Inv X pins σ H s→t σ H Q →
  wpAny (model X.prog X.w) X.A (evalPart e X.env) (fun u s'=>∃ o H',Inv X pins σ H' s'∧IsPart u o∧Q o H') X.xe s
def tNoPart:TO:=fun _ H Q=>Q none H
def tPart (t:TE):TO:=fun σ H Q=>t σ H fun x H1=>∃ i,x=.int i∧Q (some i) H1
section
variable {X:Cx}{e:Expr}{te:TE}{lo hi:Option Expr}{tl th:TO}{pos p2:Pos}
theorem zarh:PO X none tNoPart:=by
 intro pins s σ H Q I h
 rw [evalPart_none]
 exact wpAny_pure ⟨none,H,I,.none,h⟩
theorem zari (h:PE X e te):PO X (some e) (tPart te):=by
 intro pins s σ H Q I hw
 rw [evalPart_some]
 refine thn (h pins s σ H _ I hw) fun u s1 ⟨x,H1,I1,r1,q1⟩=>?_
 obtain ⟨i,rfl,q⟩:=q1
 obtain ⟨t,rfl⟩:=r1
 exact ⟨some i,H1,I1,.int i t,q⟩
def SlR (X:Cx) (r:V→Option Int→Option Int→Hp→VK→Prop):Prop :=
 ∀ (pins:List (Addr × Obj)) (s:Shared) (σ:St) (H:Hp) (x:V) (v vl vu:Value) (lo hi:Option Int) (sl:Addr) (Q:VK),Inv X pins σ H s→RelV x v→s.heap.IsSliceOf sl vl vu .none→IsPart vl lo→IsPart vu hi→r x lo hi H Q →
  ∃ T id,typeLookup (.type T) "__getitem__" = pure (some (.builtin id))∧s.TypeIs v T∧wpAny (model X.prog X.w) X.A (getItem v (.ref sl)) (EP X pins σ Q) X.xe s
def tSl (r:V→Option Int→Option Int→Hp→VK→Prop) (te:TE) (tl th:TO):TE:=fun σ H Q=>te σ H fun x H1=>tl σ H1 fun l H2=>th σ H2 fun u H3=>r x l u H3 Q
theorem zaor {r:V→Option Int→Option Int→Hp→VK→Prop} (hr:SlR X r) (he:PE X e te) (hl:PO X lo tl) (hu:PO X hi th):PE X (.Subscript e (.Slice lo hi none p2) pos) (tSl r te tl th):=by
 intro pins s σ H Q I h
 refine Subscript_ (thn (he pins s σ H _ I h) fun v s1 ⟨x,H1,I1,r1,q1⟩=>?_)
 refine wpAny_Slice (thn (hl pins s1 σ H1 _ I1 q1) fun vl s2 ⟨l,H2,I2,pl,q2⟩=>thn (hu pins s2 σ H2 _ I2 q2) fun vu s3 ⟨u,H3,I3,pu,q3⟩=>?_)
 rw [evalPart_none]
 refine wpAny_pure ?_
 have I4:Inv X pins σ H3 { s3 with heap:=s3.heap.push { cls:=.type "slice",data:=.fields #[vl,vu,.none] } }:=I3.kept (t':=s3.toks) fun b ob q=>Heap.get?_push_of_some _ q
 obtain ⟨T,id,hT,ht,hg⟩:=hr pins { s3 with heap:=s3.heap.push { cls:=.type "slice",data:=.fields #[vl,vu,.none] } } σ H3 x v vl vu l u s3.heap.objs.size Q I4 r1 (Heap.IsSliceOf.new ..) pl pu q3
 show wpAny (model X.prog X.w) X.A (subscriptTail e (.Slice lo hi none p2) v (.ref s3.heap.objs.size)) (EP X pins σ Q) X.xe { s3 with heap:=s3.heap.push { cls:=.type "slice",data:=.fields #[vl,vu,.none] } }
 exact tail_any (ops:=[.ref s3.heap.objs.size,v]) ht hT hg (by with_unfolding_all rfl)
def cutV (xs:List V) (lo hi:Option Int):List V:=(xs.drop (HT.sIx xs.length 0 lo)).take (HT.sIx xs.length xs.length hi - HT.sIx xs.length 0 lo)
theorem zafo (xs:List V) (lo hi:Option Int):(cutV xs lo hi).length≤xs.length:=by
 unfold cutV
 rw [List.length_take,List.length_drop]
 omega
def rSlT (K:PySem.W.Frag):V→Option Int→Option Int→Hp→VK→Prop:=fun x lo hi H Q=>∃ a xs,x=.ref a∧SqT K H a xs ∧
 ¬ (HT.sIx xs.length 0 lo=0∧HT.sIx xs.length xs.length hi=xs.length)∧∀ p,H p=none→Q (.ref p) (upd H p (.tup (cutV xs lo hi)))
theorem zah9:SlR X (rSlT X.K):=by
 intro pins s σ H x v vl vu lo hi sl Q I rx hs pl pu h
 obtain ⟨a,xs,rfl,hx,hw,q⟩:=h
 cases rx
 obtain ⟨its,r,ht,hz⟩:=I.tuple hx
 have hlen:its.toArray.size=xs.length:=by rw [List.size_toArray]; exact r.length.symm
 refine ⟨"tuple",_,PyProof.Rows.slot_tuple_getitem.lookup,ht.typeIs,?_⟩
 refine HT.getItem_tuple_cut ht hs pl pu (by rw [hlen]; exact hw) ?_ (by rw [hlen]; exact hz)
 rw [hlen]
 refine ⟨.ref s.heap.objs.size,_,I.laid (t':=s.toks) (o:=.tup (cutV xs lo hi)) (fun b ob q=>Heap.get?_push_of_some _ q) (Nat.le_refl _) ?_,rfl,q _ (I.hok.fresh (Nat.le_refl _))⟩
 exact ⟨Nat.le_trans (zafo xs lo hi) hz,_,(r.drop (HT.sIx xs.length 0 lo)).take (HT.sIx xs.length xs.length hi - HT.sIx xs.length 0 lo),IsTup.new _ _⟩
end
def ixN (n:Nat) (i:Int):Option Nat:=if 0≤i then (if i < n then some i.toNat else none) else if -(n:Int)≤i then some (i + n).toNat else none
def atI {α:Type} (xs:List α) (i:Int):Option α:=(ixN xs.length i).bind fun j=>xs[j]?
theorem zal5 {n:Nat}{i:Int}{j:Nat} (h:ixN n i=some j):seqIndex? i n=some j∧j < n∧-(n:Int)≤i∧i < n:=by
 unfold ixN at h
 by_cases h0:0≤i
 ·rw [if_pos h0] at h
  by_cases h1:i < n
  ·rw [if_pos h1] at h
   have e:i.toNat=j:=Option.some.inj h
   exact ⟨by rw [seqIndex_of h0 h1,e],by omega,by omega,h1⟩
  ·rw [if_neg h1] at h; cases h
 ·rw [if_neg h0] at h
  by_cases h1:-(n:Int)≤i
  ·rw [if_pos h1] at h
   have e:(i + n).toNat=j:=Option.some.inj h
   exact ⟨by rw [seqIndex_neg (by omega) h1,e],by omega,h1,by omega⟩
  ·rw [if_neg h1] at h; cases h
theorem zal6 {α:Type}{xs:List α}{i:Int}{v:α} (h:atI xs i=some v):∃ j,seqIndex? i xs.length=some j∧xs[j]?=some v∧j < xs.length∧-(xs.length:Int)≤i∧i < xs.length:=by
 unfold atI at h
 cases e:ixN xs.length i with
 | none=>rw [e] at h; cases h
 | some j =>
  rw [e] at h
  obtain ⟨h1,h2,h3,h4⟩:=zal5 e
  exact ⟨j,h1,h,h2,h3,h4⟩
theorem zacb {α:Type}{xs:List α}{j:Nat}{v:α} (h:xs[j]?=some v):atI xs (j:Int)=some v:=by
 have hj:j < xs.length:=(List.getElem?_eq_some_iff.mp h).1
 have e:ixN xs.length (j:Int)=some j:=by
  unfold ixN
  rw [if_pos (by omega),if_pos (by omega)]; simp
 unfold atI; rw [e]; exact h
def PlainIx (b:Expr):Prop:=∀ o i,subscripted b false o i=operate [o,i] (getItem o i)
def IxR (X:Cx) (r:R2):Prop :=
 ∀ (value slice:Expr) (pins:List (Addr × Obj)) (s:Shared) (σ:St) (H:Hp) (x y:V) (v u:Value) (Q:VK),Inv X pins σ H s→RelV x v→RelV y u→r x y H Q →
  subscripted slice false v u=operate [v,u] (getItem v u)→wpAny (model X.prog X.w) X.A (subscriptTail value slice v u) (EP X pins σ Q) X.xe s
def MtR (X:Cx) (id:String) (r:V→List V→Hp→VK→Prop):Prop :=
 ∀ (pins:List (Addr × Obj)) (s:Shared) (σ:St) (H:Hp) (x:V) (xs:List V) (v:Value) (us:List Value) (Q:VK),Inv X pins σ H s→RelV x v→Vals xs us→r x xs H Q →
  wpAny (model X.prog X.w) X.A (call (.builtin id) (v :: us)) (EP X pins σ Q) X.xe s
section
variable {X:Cx}{a b:Expr}{ta tb:TE}{pos:Pos}
theorem zau6 {r:R2} (hr:IxR X r) (ha:PE X a ta) (hb:PE X b tb) (hs:PlainIx b):PE X (.Subscript a b pos) (tOp r ta tb):=by
 intro pins s σ H Q I h
 exact Subscript_ (binT ha hb I h fun v u s2 x y H2 I2 rx ry q=>hr a b pins s2 σ H2 x y v u Q I2 rx ry q (hs _ _))
def rIxL (K:PySem.W.Frag):R2:=fun x y H Q=>∃ p xs i v,x=.ref p∧y=.int i∧SqL K H p xs∧atI xs i=some v∧Q v H
def rIxT (K:PySem.W.Frag):R2:=fun x y H Q=>∃ p xs i v,x=.ref p∧y=.int i∧SqT K H p xs∧atI xs i=some v∧Q v H
theorem zarj:IxR X (rIxL X.K):=by
 intro value slice pins s σ H x y v u Q I rx ry h hs
 obtain ⟨p,xs,i,z,rfl,rfl,hq,he,q⟩:=h
 cases rx
 obtain ⟨t,rfl⟩:=ry
 obtain ⟨its,r,pl,hz⟩:=I.list hq
 obtain ⟨j,h1,h2,h3,h4,h5⟩:=zal6 he
 obtain ⟨w,ew,rw'⟩:=r.get h2
 have hl:=r.length
 have hn:=line63
 have fin:EP X pins σ Q w s:=⟨z,H,I,rw',q⟩
 by_cases h0:0≤i
 ·have hj:i.toNat=j:=by
   rw [seqIndex_of h0 h5] at h1
   exact Option.some.inj h1
  exact item_listR pl.isList h0 (by omega) (by rw [hj]; simpa using ew) fin hs
 ·have hj:(i + (its.toArray.size:Int)).toNat=j:=by
   rw [seqIndex_neg (by omega) h4] at h1
   rw [List.size_toArray,← hl]
   exact Option.some.inj h1
  exact subscriptTail_builtinR (x:=w) pl.isList.typeIs slot_list_getitem.lookup
   (wpAny_getItem_list_neg (Q:=fun r s'=>r=w∧EP X pins σ Q r s') pl.isList (by omega) (by rw [List.size_toArray] <;> omega) (by omega) (by rw [hj]; simpa using ew) ⟨rfl,fin⟩) hs
theorem zato:IxR X (rIxT X.K):=by
 intro value slice pins s σ H x y v u Q I rx ry h hs
 obtain ⟨p,xs,i,z,rfl,rfl,hq,he,q⟩:=h
 cases rx
 obtain ⟨t,rfl⟩:=ry
 obtain ⟨its,r,pl,hz⟩:=I.tuple hq
 obtain ⟨j,h1,h2,h3,h4,h5⟩:=zal6 he
 obtain ⟨w,ew,rw'⟩:=r.get h2
 have hl:=r.length
 have hn:=line63
 have fin:EP X pins σ Q w s:=⟨z,H,I,rw',q⟩
 exact subscriptTail_builtinR (x:=w) pl.typeIs slot_tuple_getitem.lookup
  (getItem_tuple (j:=j) (Q:=fun r s'=>r=w∧EP X pins σ Q r s') pl (by omega) (by omega) (by rw [List.size_toArray,← hl]; exact h1) (by simpa using ew) ⟨rfl,fin⟩) hs
theorem zak8 (its:List Value) (n j:Nat) (u:Value):Obj.mapSeq (·.setIfInBounds j u) { cls:=.type "list",data:=.seq its.toArray n }={ cls:=.type "list",data:=.seq (its.set j u).toArray n }:=by
 simp [Obj.mapSeq]
theorem Inv.lst {pins:List (Addr × Obj)}{σ:St}{H:Hp}{s:Shared}{p:Addr}{xs:List V} (I:Inv X pins σ H s) (h:H p=some (.lst xs)) :
  ∃ (its:List Value) (n:Nat),Vals xs its∧s.heap.get? p=some { cls:=.type "list",data:=.seq its.toArray n }∧xs.length≤sizeLine:=by
 obtain ⟨z,its,n,r,e⟩:=I.hok p _ h
 exact ⟨its,n,r,e,z⟩
theorem Inv.lstUpd {pins:List (Addr × Obj)}{σ:St}{H:Hp}{s:Shared}{p:Addr}{xs ys:List V}{its its':List Value}{n n':Nat}{f:Obj→Obj} (I:Inv X pins σ H s) (h:H p=some (.lst xs))
  (ho:s.heap.get? p=some { cls:=.type "list",data:=.seq its.toArray n }) (hf:f { cls:=.type "list",data:=.seq its.toArray n }={ cls:=.type "list",data:=.seq its'.toArray n' }) (r:Vals ys its') (hz:ys.length≤sizeLine) (t:Nat) :
  Inv X pins σ (upd H p (.lst ys)) { s with heap:=s.heap.update p f,toks:=t }:=by
 have e:(s.heap.update p f).get? p=some { cls:=.type "list",data:=.seq its'.toArray n' }:=by
  rw [Heap.get?_update_self f ho (by rw [hf] <;> rfl),hf]
 refine I.write (x:=p) (e:=p) (by rw [h]; trivial) (.inl rfl) (fun b u hb q=>(Heap.get?_update_other _ _ (Ne.symm hb)).trans q) ⟨_,e⟩ ?_
 exact ⟨hz,its',n',r,e⟩
def rSetL:V→V→V→Hp→(Hp→Prop)→Prop:=fun o i v H Q=>∃ p xs k j,o=.ref p∧i=.int k∧H p=some (.lst xs)∧ixN xs.length k=some j∧Q (upd H p (.lst (xs.set j v)))
theorem zag9:PSet X rSetL:=by
 intro pins s σ H o i v ov iv u Q I ro ri rv h
 obtain ⟨p,xs,k,j,rfl,rfl,hp,hj,q⟩:=h
 cases ro
 obtain ⟨t,rfl⟩:=ri
 obtain ⟨its,n,r,ho,hz⟩:=I.lst hp
 obtain ⟨h1,h2,h3,h4⟩:=zal5 hj
 have hl:=r.length
 have hn:=line63
 have I':Inv X pins σ (upd H p (.lst (xs.set j v))) { s with heap:=s.heap.update p (Obj.mapSeq (·.setIfInBounds j u)) } :=
  I.lstUpd hp ho (zak8 its n j u) (r.set rv j) (by rw [List.length_set]; exact hz) s.toks
 by_cases h0:0≤k
 ·have hk:k.toNat=j:=by
   rw [seqIndex_of h0 h4] at h1
   exact Option.some.inj h1
  exact PySem.W.ki_setAt ho h0 (by omega) (by rw [List.size_toArray,← hl]; exact h4) (by rw [hk]; exact ⟨_,I',q⟩)
 ·have hk:(k + (its.toArray.size:Int)).toNat=j:=by
   rw [seqIndex_neg (by omega) h3] at h1
   rw [List.size_toArray,← hl]
   exact Option.some.inj h1
  exact PySem.W.ki_setBack ho (by omega) (by rw [List.size_toArray,← hl]; exact h3) (by omega) (by rw [hk]; exact ⟨_,I',q⟩)
theorem zaia (lo hi:Option Int) (n:Nat):(sliceBounds lo hi none n).1=((HT.sIx n 0 lo:Nat):Int)∧(sliceBounds lo hi none n).2.1=((HT.sIx n n hi:Nat):Int)∧(sliceBounds lo hi none n).2.2=1:=by
 refine ⟨?_,?_,rfl⟩
 ·cases lo with
  | none=>simp [sliceBounds,HT.sIx]
  | some i =>
   simp only [sliceBounds,HT.sIx,Option.getD_none,show (1:Int) > 0 by decide,if_true]
   by_cases h:i < 0
   ·simp only [h,if_true] <;> omega
   ·simp only [h,if_false] <;> omega
 ·cases hi with
  | none=>simp [sliceBounds,HT.sIx]
  | some i =>
   simp only [sliceBounds,HT.sIx,Option.getD_none,show (1:Int) > 0 by decide,if_true]
   by_cases h:i < 0
   ·simp only [h,if_true] <;> omega
   ·simp only [h,if_false] <;> omega
theorem zaha (its:List Value) (lo hi:Option Int):slicePick its.toArray lo hi none=((its.drop (HT.sIx its.length 0 lo)).take (HT.sIx its.length its.length hi - HT.sIx its.length 0 lo)).toArray:=by
 obtain ⟨h1,h2,h3⟩:=zaia lo hi its.toArray.size
 unfold slicePick
 rw [h1,h2,h3]
 simp only [sliceRange_one,pick_run,List.size_toArray] <;> rfl
def rSlL (K:PySem.W.Frag):V→Option Int→Option Int→Hp→VK→Prop:=fun x lo hi H Q=>∃ a xs,x=.ref a∧SqL K H a xs∧∀ p,H p=none→Q (.ref p) (upd H p (.lst (cutV xs lo hi)))
theorem zal7:SlR X (rSlL X.K):=by
 intro pins s σ H x v vl vu lo hi sl Q I rx hs pl pu h
 obtain ⟨a,xs,rfl,hx,q⟩:=h
 cases rx
 obtain ⟨its,r,ht,hz⟩:=I.list hx
 have hlen:=r.length
 refine ⟨"list",_,slot_list_getitem.lookup,ht.isList.typeIs,?_⟩
 refine wpAny_getItem_list_slice ht.isList hs pl pu .none (by simp) ?_ (by rw [List.size_toArray] <;> omega)
 rw [zaha,← hlen]
 refine ⟨.ref s.heap.objs.size,_,I.laid (t':=s.toks) (o:=.lst (cutV xs lo hi)) (fun b ob q=>Heap.get?_push_of_some _ q) (Nat.le_refl _) ?_,rfl,q _ (I.hok.fresh (Nat.le_refl _))⟩
 exact ⟨Nat.le_trans (zafo xs lo hi) hz,_,0,(r.drop (HT.sIx xs.length 0 lo)).take (HT.sIx xs.length xs.length hi - HT.sIx xs.length 0 lo),Heap.get?_push_size _ rfl⟩
def flatV:V→Bool
 | .non=>true
 | .bl _=>true
 | .int _=>true
 | .str _=>true
 | _=>false
def eqV:V→V→Bool
 | .non,.non=>true
 | .bl a,.bl b=>a == b
 | .bl a,.int b=>(if a then 1 else 0) == b
 | .int a,.bl b=>a == (if b then 1 else 0)
 | .int a,.int b=>a == b
 | .str a,.str b=>a == b
 | _,_=>false
theorem zatp {A:Around}{s:Shared}{y x:V}{u v:Value} (ry:RelV y u) (rx:RelV x v) (fy:flatV y=true) (fx:flatV x=true):SeqAt.EqAt A s u v (eqV y x):=by
 cases y with
 | non =>
  cases ry
  cases x with
  | non=>cases rx; exact SeqAt.EqAt.same _
  | bl b=>cases rx; exact SeqAt.EqAt.none_bool b
  | int b=>obtain ⟨t,rfl⟩:=rx; exact SeqAt.EqAt.none_int b t
  | str b=>obtain ⟨t,rfl⟩:=rx; exact SeqAt.EqAt.none_str b t
  | _=>exact absurd (show false=true from fx) Bool.false_ne_true
 | bl a =>
  cases ry
  cases x with
  | non=>cases rx; exact SeqAt.EqAt.bool_none a
  | bl b=>cases rx; exact SeqAt.EqAt.bool_bool a b
  | int b=>obtain ⟨t,rfl⟩:=rx; exact SeqAt.EqAt.bool_int a b t
  | str b=>obtain ⟨t,rfl⟩:=rx; exact SeqAt.EqAt.bool_str a b t
  | _=>exact absurd (show false=true from fx) Bool.false_ne_true
 | int a =>
  obtain ⟨t',rfl⟩:=ry
  cases x with
  | non=>cases rx; exact SeqAt.EqAt.int_none a t'
  | bl b=>cases rx; exact SeqAt.EqAt.int_bool a t' b
  | int b=>obtain ⟨t,rfl⟩:=rx; exact SeqAt.EqAt.int_int a t' b t
  | str b=>obtain ⟨t,rfl⟩:=rx; exact SeqAt.EqAt.int_str a t' b t
  | _=>exact absurd (show false=true from fx) Bool.false_ne_true
 | str a =>
  obtain ⟨t',rfl⟩:=ry
  cases x with
  | non=>cases rx; exact SeqAt.EqAt.str_none a t'
  | bl b=>cases rx; exact SeqAt.EqAt.str_bool a t' b
  | int b=>obtain ⟨t,rfl⟩:=rx; exact SeqAt.EqAt.str_int a t' b t
  | str b=>obtain ⟨t,rfl⟩:=rx; exact SeqAt.EqAt.str_str a t' b t
  | _=>exact absurd (show false=true from fx) Bool.false_ne_true
 | _=>exact absurd (show false=true from fy) Bool.false_ne_true
def eqU (x:V) (u:Value):Bool:=match u with
 | .none=>eqV .non x
 | .bool b=>eqV (.bl b) x
 | .int i _=>eqV (.int i) x
 | .str z _=>eqV (.str z) x
 | _=>false
theorem zap5 {x y:V}{u:Value} (r:RelV y u) (f:flatV y=true):eqU x u=eqV y x:=by
 cases y with
 | non=>cases r; rfl
 | bl b=>cases r; rfl
 | int i=>obtain ⟨t,rfl⟩:=r; rfl
 | str z=>obtain ⟨t,rfl⟩:=r; rfl
 | _=>exact absurd (show false=true from f) Bool.false_ne_true
theorem zafp {x:V}:∀ {xs:List V}{us:List Value},Vals xs us→xs.all flatV=true→us.any (eqU x)=xs.any fun y=>eqV y x
 | _,_,.nil,_=>rfl
 | y :: xs,u :: us,.cons r t,f=>by
  rw [List.all_cons,Bool.and_eq_true] at f
  rw [List.any_cons,List.any_cons,zap5 r f.1,zafp t f.2]
theorem zaec {A:Around}{s:Shared}{x:V}{v:Value} (rx:RelV x v) (fx:flatV x=true):∀ {xs:List V}{us:List Value},Vals xs us→xs.all flatV=true→∀ u∈us,SeqAt.EqAt A s u v (eqU x u)
 | _,_,.nil,_=>fun u hu=>by cases hu
 | y :: xs,u :: us,.cons r t,f=>fun u' hu=>by
  rw [List.all_cons,Bool.and_eq_true] at f
  rcases List.mem_cons.mp hu with rfl | hu
  ·rw [zap5 r f.1]; exact zatp r rx f.1 fx
  ·exact zaec rx fx t f.2 u' hu
def inV (x:V) (xs:List V):Bool:=xs.any fun y=>eqV y x
def rIn (K:PySem.W.Frag) (neg:Bool):R2:=fun x y H Q=>∃ p xs,y=.ref p∧(SqL K H p xs∨SqT K H p xs)∧flatV x=true∧xs.all flatV=true∧Q (.bl (if neg then !inV x xs else inV x xs)) H
theorem zaed:OpR X (compareOp .In) (rIn X.K false):=by
 intro pins s σ H x y v u Q I rx ry h
 obtain ⟨p,xs,rfl,hq,fx,fs,q⟩:=h
 cases ry
 rcases hq with hq | hq
 ·obtain ⟨its,r,pl,hz⟩:=I.list hq
  refine SeqAt.in_listAt (eqU x) pl.isList (fun w hw=>zaec rx fx r fs w (by simpa using hw)) ⟨.bl _,H,I,rfl,?_⟩
  rw [show its.toArray.any (eqU x)=its.any (eqU x) by simp,zafp r fs]
  exact q
 ·obtain ⟨its,r,pl,hz⟩:=I.tuple hq
  refine SeqAt.in_tupleAt (eqU x) pl (fun w hw=>zaec rx fx r fs w (by simpa using hw)) ⟨.bl _,H,I,rfl,?_⟩
  rw [show its.toArray.any (eqU x)=its.any (eqU x) by simp,zafp r fs]
  exact q
theorem zae8:OpR X (compareOp .NotIn) (rIn X.K true):=by
 intro pins s σ H x y v u Q I rx ry h
 obtain ⟨p,xs,rfl,hq,fx,fs,q⟩:=h
 cases ry
 rcases hq with hq | hq
 ·obtain ⟨its,r,pl,hz⟩:=I.list hq
  refine SeqAt.notIn_listAt (eqU x) pl.isList (fun w hw=>zaec rx fx r fs w (by simpa using hw)) ⟨.bl _,H,I,rfl,?_⟩
  rw [show its.toArray.any (eqU x)=its.any (eqU x) by simp,zafp r fs]
  exact q
 ·obtain ⟨its,r,pl,hz⟩:=I.tuple hq
  refine SeqAt.notIn_tupleAt (eqU x) pl (fun w hw=>zaec rx fx r fs w (by simpa using hw)) ⟨.bl _,H,I,rfl,?_⟩
  rw [show its.toArray.any (eqU x)=its.any (eqU x) by simp,zafp r fs]
  exact q
theorem zaai:CallR X (.builtin "len") (fun xs H Q=>∃ p ys,xs=[.ref p]∧(SqL X.K H p ys∨SqT X.K H p ys)∧Q (.int ys.length) H):=by
 intro pins s σ H xs us Q I r h
 obtain ⟨p,ys,rfl,hq,q⟩:=h
 obtain ⟨u,rfl,rx⟩:=vals1 r
 cases rx
 have hn:=line63
 rcases hq with hq | hq
 ·obtain ⟨its,r',pl,hz⟩:=I.list hq
  have hlen:=r'.length
  exact Calls.call_len_list pl.isList (by simp only [List.size_toArray] <;> omega) ⟨.int ys.length,H,I.tok _,⟨s.toks + 1,by rw [List.size_toArray,hlen]⟩,q⟩
 ·obtain ⟨its,r',pl,hz⟩:=I.tuple hq
  have hlen:=r'.length
  exact len_tuple pl (by simp only [List.size_toArray] <;> omega) ⟨.int ys.length,H,I.tok _,⟨s.toks + 1,by rw [List.size_toArray,hlen]⟩,q⟩
theorem zadv:CallR X (.type "list") (fun xs H Q=>∃ p ys,xs=[.ref p]∧(SqL X.K H p ys∨SqT X.K H p ys)∧∀ l,H l=none→Q (.ref l) (upd H l (.lst ys))):=by
 intro pins s σ H xs us Q I r h
 obtain ⟨p,ys,rfl,hq,q⟩:=h
 obtain ⟨u,rfl,rx⟩:=vals1 r
 cases rx
 have fin:∀ (its:List Value),Vals ys its→ys.length≤sizeLine→∀ (h':Heap) (c':Nat),(∀ b o',s.heap.get? b=some o'→h'.get? b=some o') →
   h'.get? s.heap.objs.size=some { cls:=.type "list",dict:=none,data:=.seq its.toArray c',slots:=#[] }→EP X pins σ Q (.ref s.heap.objs.size) { s with heap:=h' }:=fun its r' hz h' c' kp e =>
  ⟨.ref s.heap.objs.size,_,I.laid (t':=s.toks) kp (Nat.le_refl _) (show ObjOk X.prog X.w _ h' _ (.lst ys) from ⟨hz,its,c',r',e⟩),rfl,q _ (I.hok.fresh (Nat.le_refl _))⟩
 rcases hq with hq | hq
 ·obtain ⟨its,r',pl,hz⟩:=I.list hq
  have hlen:=r'.length
  obtain ⟨o,ho,hc,n,hd⟩:=pl.isList
  exact call_list_seq p (.inl rfl) ho hc hd (fun h' c' kp e=>fin its r' hz h' c' kp e) (by simp only [List.size_toArray] <;> omega)
 ·obtain ⟨its,r',pl,hz⟩:=I.tuple hq
  have hlen:=r'.length
  obtain ⟨o,ho,hc,n,hd⟩:=pl
  exact call_list_seq p (.inr rfl) ho hc hd (fun h' c' kp e=>fin its r' hz h' c' kp e) (by simp only [List.size_toArray] <;> omega)
theorem zadh:CallR X (.type "tuple") (fun xs H Q=>∃ p ys,xs=[.ref p]∧((SqL X.K H p ys∧∀ l,H l=none→Q (.ref l) (upd H l (.tup ys)))∨(SqT X.K H p ys∧Q (.ref p) H))):=by
 intro pins s σ H xs us Q I r h
 obtain ⟨p,ys,rfl,h⟩:=h
 obtain ⟨u,rfl,rx⟩:=vals1 r
 cases rx
 rcases h with ⟨hq,q⟩ | ⟨hq,q⟩
 ·obtain ⟨its,r',pl,hz⟩:=I.list hq
  have hlen:=r'.length
  refine call_tuple_list pl.isList (fun h' kp=>?_) (by simp only [List.size_toArray] <;> omega)
  have I1:Inv X pins σ H { s with heap:=h' }:=I.kept (t':=s.toks) kp
  have I2:Inv X pins σ (upd H h'.objs.size (.tup ys)) { s with heap:=h'.push { cls:=.type "tuple",data:=.seq its.toArray } } :=
   I1.laid (t':=s.toks) (fun b o e=>Heap.get?_push_of_some _ e) (Nat.le_refl _) (show ObjOk X.prog X.w _ _ _ (.tup ys) from ⟨hz,its,r',IsTup.new _ _⟩)
  exact ⟨.ref h'.objs.size,_,I2,rfl,q _ (I1.hok.fresh (Nat.le_refl _))⟩
 ·obtain ⟨its,r',pl,hz⟩:=I.tuple hq
  exact call_tuple_same pl ⟨.ref p,H,I,rfl,q⟩
def tyV (K:PySem.W.Frag) (T:String) (x:V) (H:Hp):Prop:=match x with
 | .str _=>T = "str"
 | .int _=>T = "int"
 | .ref p=>(T = "list" ∧ ∃ xs,SqL K H p xs)∨(T = "tuple" ∧ ∃ o,K.lookup p=some o∧o.cls=.type "tuple" ∧ o.dict=none) ∨
   (T = "dict" ∧ ((∃ kvs,H p=some (.dK kvs))∨∃ kvs,H p=some (.dT kvs)))∨(T = "set" ∧ ∃ S n,H p=some (.set S n))
 | _=>False
theorem zap6 {pins:List (Addr × Obj)}{σ:St}{H:Hp}{s:Shared}{T:String}{x:V}{v:Value} (I:Inv X pins σ H s) (r:RelV x v) (ty:tyV X.K T x H) :
  s.TypeIs v T∧∀ a,v=.ref a→∃ ob,s.heap.get? a=some ob∧ob.dict=none:=by
 cases x with
 | str z =>
  obtain ⟨t,rfl⟩:=r
  cases (show T = "str" from ty)
  exact ⟨typeIs_str s z t,fun _ e=>nomatch e⟩
 | int i =>
  obtain ⟨t,rfl⟩:=r
  cases (show T = "int" from ty)
  exact ⟨typeIs_int s i t,fun _ e=>nomatch e⟩
 | ref p =>
  cases r
  rcases ty with ⟨rfl,xs,hq⟩ | ⟨rfl,o,hk,hc,hd⟩ | ⟨rfl,hk⟩ | ⟨rfl,S,n,hk⟩
  ·obtain ⟨its,_,pl,_⟩:=I.list hq
   refine ⟨pl.isList.typeIs,fun a e=>?_⟩
   cases e
   obtain ⟨o,n,e,c,hd,_⟩:=pl
   exact ⟨o,e,hd⟩
  ·refine ⟨⟨o,I.kIn p o hk,hc⟩,fun a e=>?_⟩
   cases e
   exact ⟨o,I.kIn _ o hk,hd⟩
  ·have z:∃ o,s.heap.get? p=some o∧o.ExactDict:=by
    rcases hk with ⟨kvs,hk⟩ | ⟨kvs,hk⟩
    ·obtain ⟨_,_,_,_,o,_,_,e,ex,_⟩:=I.hok p _ hk
     exact ⟨o,e,ex⟩
    ·obtain ⟨_,_,_,_,o,_,_,e,ex,_⟩:=I.hok p _ hk
     exact ⟨o,e,ex⟩
   obtain ⟨o,e,ex⟩:=z
   refine ⟨⟨o,e,ex.1⟩,fun a e2=>?_⟩
   cases e2
   exact ⟨o,e,ex.2.1⟩
  ·obtain ⟨o,_,_,_,e,ex,_⟩:=I.hok p _ hk
   refine ⟨⟨o,e,ex.1⟩,fun a e2=>?_⟩
   cases e2
   exact ⟨o,e,ex.2.1⟩
 | _=>exact False.elim ty
def tBM0 (K:PySem.W.Frag) (T:String) (r:V→List V→Hp→VK→Prop) (to:TE):TE:=fun σ H Q=>to σ H fun x H1=>tyV K T x H1∧r x [] H1 Q
def tBM (K:PySem.W.Frag) (T:String) (r:V→List V→Hp→VK→Prop) (to:TE) (t:TA):TE:=fun σ H Q=>to σ H fun x H1=>tyV K T x H1∧t σ H1 fun xs H2=>r x xs H2 Q
variable {o e:Expr}{es:List Expr}{to:TE}{t:TA}{name:Str}{apos cpos:Pos}{T id:String}{r:V→List V→Hp→VK→Prop}
theorem zatq (pa:PlainAttrs T) (slot:Slot T name id) (hty:typeOf (.builtin id)=pure (.type "method_descriptor")) (hm:MtR X id r) (ho:PE X o to)
  (hbase:attributeBase o name X.env (eval o X.env)=eval o X.env:=by rfl) (hline:(apos.endLine == cpos.line)=true:=by rfl):PE X (.Call (.Attribute o name apos) [] [] cpos) (tBM0 X.K T r to):=by
 intro pins s σ H Q I h
 refine wpAny_Call_method0_late hbase hline (thn (ho pins s σ H _ I h) fun v s1 ⟨x,H1,I1,r1,ty,q1⟩=>?_)
 obtain ⟨h1,h2⟩:=zap6 I1 r1 ty
 exact ⟨T,id,pa,slot,hty,h1,h2,Calls.callWith_builtin rfl (PySem.evalArgs_none (hm pins s1 σ H1 x [] v [] Q I1 r1 .nil q1))⟩
theorem zau7 (pa:PlainAttrs T) (slot:Slot T name id) (hty:typeOf (.builtin id)=pure (.type "method_descriptor")) (hm:MtR X id r) (ho:PE X o to) (ha:PA X (e :: es) t)
  (hbase:attributeBase o name X.env (eval o X.env)=eval o X.env:=by rfl)
  (hfew:((backTo cpos (starEach (e :: es) X.env)).all (fun x=>!x.1) && (backToKw cpos (keywordEach [] X.env)).all (fun x=>x.1.isSome)
   && decide ((e :: es).length + ([]:List Keyword).length + (if ([]:List Keyword).isEmpty then 0 else 1) < 30))=true:=by rfl)
  (hline:(apos.endLine == cpos.line)=true:=by rfl) (hs:starEach (e :: es) X.env=(false,eval e X.env) :: starEach es X.env:=by rfl) (hplain:(backTo cpos (starEach es X.env)).any (·.1)=false:=by rfl) :
  PE X (.Call (.Attribute o name apos) (e :: es) [] cpos) (tBM X.K T r to t):=by
 intro pins s σ H Q I h
 refine wpAny_Call_method_late hbase hfew hline rfl (thn (ho pins s σ H _ I h) fun v s1 ⟨x,H1,I1,r1,ty,q1⟩=>?_)
 obtain ⟨h1,h2⟩:=zap6 I1 r1 ty
 refine ⟨T,id,pa,slot,hty,h1,h2,?_⟩
 have hA:=ha cpos pins s1 σ H1 _ I1 q1
 rw [hs] at hA ⊢
 refine Calls.callWith_builtin (by show (false || (backTo cpos (starEach es X.env)).any (·.1))=false; rw [hplain] <;> rfl) (Calls.evalArgs_plain ?_)
 exact thn hA fun us s2 ⟨vs,H2,I2,r2,q2⟩=>hm pins s2 σ H2 x vs v us Q I2 r1 r2 q2
end
def MtM (X:Cx) (id:String) (r:V→List V→Hp→VK→Prop):Prop :=
 ∀ (pins:List (Addr × Obj)) (s:Shared) (σ:St) (H:Hp) (x:V) (xs:List V) (v:Value) (us:List Value) (Q:VK),Inv X pins σ H s→RelV x v→Vals xs us→r x xs H Q →
  wpAny (model X.prog X.w) X.A (call (.builtin id) (v :: us)) (EP X pins σ Q) X.xe s
theorem Vals.one:∀ {x:V}{us:List Value},Vals [x] us→∃ u,us=[u]∧RelV x u
 | _,_,.cons r .nil=>⟨_,rfl,r⟩
theorem Vals.zero:∀ {us:List Value},Vals [] us→us=[]
 | _,.nil=>rfl
theorem Vals.dropLast {xs:List V}{us:List Value} (h:Vals xs us):Vals xs.dropLast us.dropLast:=by
 induction h with
 | nil=>exact .nil
 | cons r t ih =>
  cases t with
  | nil=>exact .nil
  | cons q t'=>exact .cons r ih
theorem Vals.reverse {xs:List V}{us:List Value} (h:Vals xs us):Vals xs.reverse us.reverse:=by
 induction h with
 | nil=>exact .nil
 | cons r t ih=>rw [List.reverse_cons,List.reverse_cons]; exact Vals.append ih (.cons r .nil)
theorem Vals.rep {xs:List V}{us:List Value} (h:Vals xs us):∀ k:Nat,Vals (List.replicate k xs).flatten (List.replicate k us).flatten
 | 0=>.nil
 | k + 1=>by
  rw [List.replicate_succ,List.replicate_succ,List.flatten_cons,List.flatten_cons]
  exact Vals.append h (Vals.rep h k)
theorem zak9 {α:Type} (l:List α):l.eraseIdx (l.length - 1)=l.dropLast:=by
 induction l with
 | nil=>rfl
 | cons a r ih =>
  cases r with
  | nil=>rfl
  | cons b r =>
   have e:(a :: b :: r).length - 1=((b :: r).length - 1) + 1:=by
    have h1:(a :: b :: r).length=r.length + 2:=rfl
    have h2:(b :: r).length=r.length + 1:=rfl
    omega
   rw [e,List.eraseIdx_cons_succ,ih]
   all_goals rfl
theorem zaib (its:List Value):∀ (k:Nat) (acc:List Value),
  List.foldl (fun x1 x2=>x1++x2) acc.toArray (List.replicate k its.toArray)=(acc++(List.replicate k its).flatten).toArray
 | 0,acc=>by simp
 | k + 1,acc=>by
  have e:acc.toArray++its.toArray=(acc++its).toArray:=by simp
  have e2:(acc++its)++(List.replicate k its).flatten=acc++(List.replicate (k + 1) its).flatten:=by
   rw [List.replicate_succ,List.flatten_cons,List.append_assoc]
  rw [← e2,← zaib its k (acc++its),← e,List.replicate_succ,List.foldl_cons]
section
variable {X:Cx}{pins:List (Addr × Obj)}{σ:St}{H:Hp}{s:Shared}{l b:Addr}{xs ys zs:List V}
theorem Inv.lset {its its':List Value}{n:Nat}{f:Array Value→Array Value}{t':Nat} (I:Inv X pins σ H s) (hH:H l=some (.lst xs))
  (e:s.heap.get? l=some { cls:=.type "list",data:=.seq its.toArray n }) (hf:f its.toArray=its'.toArray) (hv:Vals ys its') (hz:ys.length≤sizeLine) :
  Inv X pins σ (upd H l (.lst ys)) { s with heap:=s.heap.update l (Obj.mapSeq f),toks:=t' }:=by
 have q:=PySem.IsL.update e f
 rw [hf] at q
 refine I.write (x:=l) (e:=l) (by rw [hH]; exact trivial) (.inl rfl) (fun b' u hb hu=>(Heap.get?_update_other s.heap (Obj.mapSeq f) (Ne.symm hb)).trans hu) ⟨_,q⟩ ?_
 exact ⟨hz,its',_,hv,q⟩
theorem Inv.lnew {its:List Value}{t':Nat} (I:Inv X pins σ H s) (hv:Vals ys its) (hz:ys.length≤sizeLine) :
  Inv X pins σ (upd H s.heap.objs.size (.lst ys)) { s with heap:=s.heap.push { cls:=.type "list",data:=.seq its.toArray },toks:=t' } :=
 I.laid (fun _ _ q=>Heap.get?_push_of_some _ q) (Nat.le_refl _) ⟨hz,its,0,hv,Heap.get?_push_size _ rfl⟩
theorem Inv.fresh (I:Inv X pins σ H s):H s.heap.objs.size=none:=I.hok.fresh (Nat.le_refl _)
theorem Inv.lstM (I:Inv X pins σ H s) (hH:H l=some (.lst xs)):xs.length≤sizeLine∧∃ (its:List Value) (n:Nat),Vals xs its∧xs.length=its.length∧s.heap.get? l=some { cls:=.type "list",data:=.seq its.toArray n }:=by
 obtain ⟨z,its,n,r,e⟩:=I.hok l _ hH
 exact ⟨z,its,n,r,r.length,e⟩
theorem notLongL {n:Nat} (h:n≤sizeLine):Builtin.List.listTooLong n=false:=by
 unfold Builtin.List.listTooLong
 exact decide_eq_false (by omega)
end
section
variable {X:Cx}
def rAppend:V→List V→Hp→VK→Prop:=fun x vs H Q=>∃ l xs y,x=.ref l∧vs=[y]∧H l=some (.lst xs)∧xs.length < sizeLine∧Q .non (upd H l (.lst (xs++[y])))
theorem zabd:MtM X "list.append" rAppend:=by
 intro pins s σ H x vs v us Q I rx rv h
 obtain ⟨l,xs,y,rfl,rfl,hH,hz,q⟩:=h
 cases rx
 obtain ⟨u,rfl,ru⟩:=rv.one
 obtain ⟨z,its,n,r,hl,e⟩:=I.lstM hH
 refine call_meets F.slot_list_append ⟨_,e,rfl⟩ F.entry_list_append (F.args_list_append_2 _ _) (PySem.list_append l its.toArray n u (by rw [List.size_toArray]; omega)) ⟨e,?_⟩
 refine ⟨.non,_,I.lset (its':=its++[u]) hH e (by simp) (r.append (.cons ru .nil)) ?_,rfl,q⟩
 rw [List.length_append,List.length_singleton]
 omega
def rExtend:V→List V→Hp→VK→Prop:=fun x vs H Q=>∃ l b xs zs,x=.ref l∧vs=[.ref b]∧H l=some (.lst xs)∧H b=some (.lst zs)∧xs.length + zs.length≤sizeLine∧Q .non (upd H l (.lst (xs++zs)))
theorem zal8:MtM X "list.extend" rExtend:=by
 intro pins s σ H x vs v us Q I rx rv h
 obtain ⟨l,b,xs,zs,rfl,rfl,hH,hB,hz,q⟩:=h
 cases rx
 obtain ⟨u,rfl,ru⟩:=rv.one
 cases ru
 obtain ⟨z,its,n,r,hl,e⟩:=I.lstM hH
 obtain ⟨z2,its2,n2,r2,hl2,e2⟩:=I.lstM hB
 have hsz:its.toArray.size + its2.toArray.size≤sizeLine:=by rw [List.size_toArray,List.size_toArray]; omega
 have hlong:¬ (!its.toArray.isEmpty && Builtin.List.listTooLong (its.toArray.size + its2.toArray.size))=true:=by
  rw [notLongL hsz,Bool.and_false]
  exact Bool.false_ne_true
 refine call_meets F.slot_list_extend ⟨_,e,rfl⟩ F.entry_list_extend (F.args_list_extend_2 _ _)
  (AutoSeq1.list_extend_list_list_0 l its.toArray n b its2.toArray n2 hlong (by rw [List.size_toArray]; omega) (by omega)) ⟨e,e2,?_⟩
 refine ⟨.non,_,I.lset (its':=its++its2) hH e (by simp) (r.append r2) ?_,rfl,q⟩
 rw [List.length_append]
 omega
def rPop:V→List V→Hp→VK→Prop:=fun x vs H Q=>∃ l xs y,x=.ref l∧vs=[]∧H l=some (.lst xs)∧xs[xs.length - 1]?=some y∧Q y (upd H l (.lst xs.dropLast))
theorem zatr:MtM X "list.pop" rPop:=by
 intro pins s σ H x vs v us Q I rx rv h
 obtain ⟨l,xs,y,rfl,rfl,hH,hy,q⟩:=h
 cases rx
 have hus:=rv.zero
 subst hus
 obtain ⟨z,its,n,r,hl,e⟩:=I.lstM hH
 obtain ⟨u,hu,ru⟩:=r.get hy
 have hy':its.toArray[its.toArray.size - 1]?=some u:=by
  show its.toArray[its.length - 1]?=some u
  rw [← Array.getElem?_toList,← hl]
  exact hu
 refine call_meets F.slot_list_pop ⟨_,e,rfl⟩ F.entry_list_pop (F.args_list_pop_1 _) (MeetsSeq.list_pop_last l its.toArray n u hy' (by rw [List.size_toArray]; omega)) ⟨e,?_⟩
 refine ⟨y,_,I.lset (its':=its.dropLast) hH e ?_ r.dropLast ?_,ru,q⟩
 ·show its.toArray.eraseIdxIfInBounds (its.toArray.size - 1)=its.dropLast.toArray
  rw [List.size_toArray,List.eraseIdxIfInBounds_toArray,zak9]
 ·rw [List.length_dropLast]
  omega
def rCat:R2:=fun x y H Q=>∃ l b xs zs,x=.ref l∧y=.ref b∧H l=some (.lst xs)∧H b=some (.lst zs)∧xs.length + zs.length≤sizeLine∧∀ p,H p=none→Q (.ref p) (upd H p (.lst (xs++zs)))
theorem zafq:OpR X (binaryOp .Add) rCat:=by
 intro pins s σ H x y v u Q I rx ry h
 obtain ⟨l,b,xs,zs,rfl,rfl,hH,hB,hz,q⟩:=h
 cases rx
 cases ry
 obtain ⟨z,its,n,r,hl,e⟩:=I.lstM hH
 obtain ⟨z2,its2,n2,r2,hl2,e2⟩:=I.lstM hB
 refine PySem.P.add_list e e2 ?_ (by rw [List.size_toArray,List.size_toArray]; omega)
 have ea:its.toArray++its2.toArray=(its++its2).toArray:=by simp
 rw [ea]
 exact ⟨.ref _,_,I.lnew (t':=s.toks) (r.append r2) (by rw [List.length_append]; omega),rfl,q _ I.fresh⟩
def rRep:R2:=fun x y H Q=>∃ l k xs,x=.ref l∧y=.int k∧H l=some (.lst xs)∧-(2 ^ 63)≤k∧k < 2 ^ 63∧xs.length * k.toNat≤sizeLine ∧
 ∀ p,H p=none→Q (.ref p) (upd H p (.lst (List.replicate k.toNat xs).flatten))
theorem zark {α:Type} (xs:List α) (k:Nat):(List.replicate k xs).flatten.length=k * xs.length:=by
 induction k with
 | zero=>simp
 | succ k ih=>rw [List.replicate_succ,List.flatten_cons,List.length_append,ih,Nat.succ_mul,Nat.add_comm]
theorem zap7:OpR X (binaryOp .Mult) rRep:=by
 intro pins s σ H x y v u Q I rx ry h
 obtain ⟨l,k,xs,rfl,rfl,hH,h1,h2,hz,q⟩:=h
 cases rx
 obtain ⟨t,rfl⟩:=ry
 obtain ⟨z,its,n,r,hl,e⟩:=I.lstM hH
 have hlen:its.toArray.size * k.toNat≤sizeLine:=by rw [List.size_toArray,← hl]; exact hz
 have hcap:¬ its.toArray.size * k.toNat > (2 ^ 63 - 1) / 8:=by
  have:(sizeLine:Nat)≤(2 ^ 63 - 1) / 8:=by decide
  omega
 have hfit:¬ (!Builtin.List.listFitsIndex k)=true:=by
  rw [fitsIndex_both h1 h2]
  exact Bool.false_ne_true
 have hlong:¬ Builtin.List.listTooLong (its.toArray.size * k.toNat)=true:=by
  rw [notLongL hlen]
  exact Bool.false_ne_true
 have hnew:List.foldl (fun x1 x2=>x1++x2) #[] (List.replicate (if its.toArray.isEmpty=true then 0 else k.toNat) its.toArray)=(List.replicate k.toNat its).flatten.toArray:=by
  have f0:∀ m:Nat,List.foldl (fun x1 x2=>x1++x2) #[] (List.replicate m its.toArray)=(List.replicate m its).flatten.toArray:=fun m=>by
   have:=zaib its m []
   rw [List.nil_append] at this
   exact this
  rw [f0]
  cases its with
  | nil=>simp
  | cons a r'=>rw [if_neg (by simp)]
 refine wpAny_binaryOp_repeat_ref (T := "list") (U := "int") (by decide) ⟨_,e,rfl⟩ (fun s'=>typeIs_int s' k t) noFill_list_mul F.fills_int_mul F.slot_int_rmul repeat_list F.slot_int_index.lookup
  (call_meets F.slot_int_rmul (typeIs_int s k t) F.entry_int_rmul (F.args_int_rmul_2 _ _) (int___rmul___int_list k t l its.toArray n)
   ⟨e,rfl,⟨_,e,rfl⟩,call_meets F.slot_list_mul ⟨_,e,rfl⟩ F.entry_list_mul (F.args_list_mul_2 _ _) (AutoListH.list___mul___list_int_3 l its.toArray n k t hfit hcap hlong) ⟨e,?_⟩⟩)
 rw [hnew]
 exact ⟨.ref _,_,I.lnew (t':=s.toks) (r.rep k.toNat) (by rw [zark,Nat.mul_comm]; exact hz),rfl,q _ I.fresh⟩
end
end L2
namespace Att
open PySem PySem.W PySem.Calls PyProof.Rows
theorem zafr {P:Params}{h:Heap}:∀ (ns:List Int) (vs:List Value),WellAll P h vs (ns.map WData.int)→IntsAre vs ns:=by
 intro ns
 induction ns with
 | nil =>
  intro vs w
  rw [List.map_nil] at w
  cases w
  exact .nil
 | cons n ns ih =>
  intro vs w
  rw [List.map_cons] at w
  cases w with
  | cons a b =>
   cases a
   exact .cons _ _ (ih _ b)
theorem zal9 {l:OpenLaw}{n:Nat} (hn:l.most=some n) {P:Params}{h:Heap}{args:List WData}{vals:List Value}
  (hpre:l.row.toRowW.claim.pre args=true) (hwl:WellAll P h vals args) :
  ∃ a vs ns,vals=[Value.ref a]∧args=[WData.list (ns.map WData.int)]∧h.get? a=some { cls:=.type "list",data:=.seq vs.toArray }∧IntsAre vs ns∧ns.length≤n:=by
 have hsh:WShape.hasAll [] args [.list .int]=true:=(pre_splitW hpre).1
 have hc:l.pre.holds [] { args:=args }=true:=(pre_splitW hpre).2
 obtain ⟨d,r,rfl,h1,h2⟩:=hasAllW_cons hsh
 obtain rfl:=hasAllW_nil h2
 obtain ⟨xs,rfl,h3⟩:=hasW_list h1
 obtain ⟨ns,rfl⟩:=items_int h3
 have hlen:ns.length≤n:=by
  unfold OpenLaw.pre at hc
  have h4:(WTm.not (.lt (.lit (.int (n:Int))) (.len (.arg 0)))).holds [] { args:=[.list (ns.map .int)] }=true:=by
   have h4:=(holds_andW hc).1
   rw [hn] at h4
   exact h4
  have h5:=condW_of h4 (w_not (w_lt w_lit (w_len_list (w_arg rfl))))
  rw [List.length_map] at h5
  refine Nat.le_of_not_lt fun q=>?_
  have q':(n:Int) < ((ns.length:Nat):Int):=by omega
  first
   | (rw [decide_eq_true q'] at h5; exact absurd h5 (by decide))
   | (simp at h5; omega)
 cases hwl with
 | cons w1 w2 =>
  cases w2
  cases w1 with
  | list ho hall=>exact ⟨_,_,ns,rfl,rfl,ho,zafr ns _ hall,hlen⟩
theorem zama (l:OpenLaw) (args:List WData):l.row.toRowW.claim.post args (.bool true) args=true :=
 postW_of (r:=l.row.toRowW) (X:=(true == true))
  (show WShape.has [] (.bool true) .bool=true by first | rfl | decide | simp [WShape.has,WShape.arms,WShape.armsAll])
  (show (WTm.eq .res (.lit (.bool true))).value [] { args:=args,res:=some (.bool true),after:=args }=some (.bool (true == true)) from w_eq_bool (w_res rfl) w_lit) rfl
theorem attach_call {l:OpenLaw}{n:Nat}{q:Program}{loose:List Str}{XP:(Str→Option Value)→Heap→Prop}{YP:World→Heap→Prop}{d:DefRec}
  (hn:l.most=some n) (hdf:d.params.defaults=[])
  (call:∀ (w:World) (s₀ s₁:Shared) (mg mb:Str→Option Value) (fa:Addr) (o:Obj) (pm cd doc:Value) (a:Addr) (vs:List Value) (ns:List Int),
   Ground q loose [] XP w s₀ mg mb s₁.heap→YP w s₁.heap →
   s₁.heap.get? fa=some o→o.data=.func (docDef d.name d.params d.body d.scope pm cd doc)→s₁.heap.CodeRec cd d.name→mg d.name=some (.ref fa) →
   s₁.heap.get? a=some { cls:=.type "list",data:=.seq vs.toArray }→IntsAre vs ns→ns.length≤n→s₁.gens=#[] →
   codeAny (model l.prog w) callerA (.call (.ref fa) ⟨[.ref a],[]⟩) (fun r s'=>r=.ok (.ret (.bool true))∧OldK s₁.heap s'.heap∧s'.os=s₁.os∧AllBare s'.gens) s₁) :
  WalkO q loose XP YP l.row.toRowW d [] (fun f vs=>PySem.call f vs):=by
 intro w s₀ s₁ mg mb G Y fa o pm cd doc dV kV ho hd hcd hD hmg hg args vals as hpre hlay hrd hwl hlo
 obtain rfl:dV=.none:=Dflts.none hD hdf
 obtain rfl:kV=.none:=Dflts.noKw hD
 obtain ⟨a,vs,ns,rfl,rfl,hobj,hints,hlen⟩:=zal9 hn hpre hwl
 refine enter_call (codeAny_mono (call w s₀ s₁ mg mb fa o pm cd doc a vs ns G Y ho (fd_plain hd) hcd hmg hobj hints hlen hg) fun r s' hq=>?_)
 obtain ⟨rfl,h2,h3,h4⟩:=hq
 exact ⟨.inl ⟨.bool true,.bool true,[],rfl,fun _=>rfl,.bool true,zama l _,fun _=>⟨List.Pairwise.nil,fun _ hm=>(nomatch hm)⟩⟩,h2,h3,h4⟩
end Att
namespace L2
open PySem PySem.Spec PyProof.Rows
theorem zaic:∀ {vs:List Value}{ns:List Int},IntsAre vs ns→Vals (ns.map V.int) vs
 | _,_,.nil=>.nil
 | _,_,.cons n t h=>.cons ⟨t,rfl⟩ (zaic h)
def Only (H:Hp):Prop:=∀ b,H b=none∨∃ o xs,H b=some (.frz o (.lst xs))
theorem zaos {P:Program}{w:World}{K:PySem.W.Frag}{mg mb:Str→Option Value}{CX:CXT}{k:Nat}{fa a:Addr}{fd:FuncData}{x:Str}{sp:Sp}{s₁:Shared}{vs:List Value}{ns:List Int}
  (KX:K.In s₁.heap) (hns:s₁.heap.Ns mainGlobals mg) (hb:s₁.heap.Ns builtinsNs mb) (hbb:∀ x:Str,x ≠ "__name__" → mb x=bootBuiltins x) (hlim:s₁.heap.NoLimit) (hg:s₁.gens=#[])
  (ha:s₁.heap.get? a=some { cls:=.type "list",data:=.seq vs.toArray }) (hi:IntsAre vs ns) (hl:ns.length≤sizeLine) (hr:Room k callerA)
  (F:∀ base:Heap,K.In base→base.Ns mainGlobals mg→FnOk P w K mg base CX k fa fd [x] sp) (hbind:∀ (s:Shared) (u:Value),BindsTo s fd ⟨[u],[]⟩ [(x,u)])
  (hsp:∀ H:Hp,Only H→SqL K H a (ns.map V.int)→sp [.ref a] H (fun v _=>v=.bl true) fun _ _ _=>False)
  (hCX:∀ H e s',CX [] H s₁ (fun _ _ _=>False) e s'→False) :
  codeAny (model P w) callerA (.call (.ref fa) ⟨[.ref a],[]⟩) (fun r s'=>r=.ok (.ret (.bool true))∧OldK s₁.heap s'.heap∧s'.os=s₁.os∧AllBare s'.gens) s₁:=by
 have rv:=zaic hi
 have lenV:=hi.length
 have core:∀ H:Hp,Only H→SqL K H a (ns.map V.int)→HOk P w H s₁.heap→(∀ b,H b≠none→b=a)→(H a≠none→K.lookup a=none) →
   codeAny (model P w) callerA (.call (.ref fa) ⟨[.ref a],[]⟩) (fun r s'=>r=.ok (.ret (.bool true))∧OldK s₁.heap s'.heap∧s'.os=s₁.os∧AllBare s'.gens) s₁:=by
  intro H hO hS hok hA hK
  have base_of:∀ {b:Addr}{o:Obj},s₁.heap.get? b=some o→H b=none→(hidT s₁.heap H).get? b=some o:=fun e n=>zaoc e n
  have noA:∀ {b:Addr}{o:Obj}{es:Array DictEntry}{ep:Nat},s₁.heap.get? b=some o→o.data=.dict es ep→H b=none:=fun {b o es ep} e d=>by
   cases q:H b with
   | none=>rfl
   | some u =>
    have e':b=a:=hA b (by rw [q]; simp)
    subst e'
    rw [ha] at e; cases e
    have d':Data.seq vs.toArray _=Data.dict es ep:=d
    cases d'
  have nsK:∀ {b:Addr}{m:Str→Option Value},s₁.heap.Ns b m→(hidT s₁.heap H).Ns b m:=fun {b m} ⟨o,es,ep,e,d,r⟩=>⟨o,es,ep,base_of e (noA e d),d,r⟩
  have hKb:K.In (hidT s₁.heap H):=fun b o e=>base_of (KX b o e) (by
   cases q:H b with
   | none=>rfl
   | some u =>
    have e':b=a:=hA b (by rw [q]; simp)
    subst e'
    rw [hK (by rw [q]; simp)] at e; cases e)
  have hM:Mod K mg (hidT s₁.heap H):=⟨hKb,nsK hns,⟨mb,nsK hb,hbb⟩,let ⟨mc,h1,h2⟩:=hlim; ⟨mc,nsK h1,h2⟩⟩
  have e0:Env0 P w K mg (hidT s₁.heap H) callerA [] s₁ H:=⟨rfl,hM,fun b o e=>zaqw e,Nat.le_of_eq (zalk _ _),trivial,fun b hb=>absurd (show b∈([]:List Addr) from hb) (by simp),hok,.of_eq hg⟩
  refine codeAny_mono ((F _ hKb (nsK hns)).run callerA [] s₁ H ⟨[.ref a],[]⟩ [.ref a] [.ref a] _ _ hr e0 (hbind s₁ (.ref a)) (.cons rfl .nil) (hsp H hO hS)) fun r s' h=>?_
  cases r with
  | error e=>exact (hCX H e s' h).elim
  | ok fl =>
   cases fl with
   | next=>exact False.elim h
   | brk=>exact False.elim h
   | cont=>exact False.elim h
   | ret u =>
    obtain ⟨v,H',os,bare,un,hok',r',q⟩:=h
    have q':v=.bl true:=q
    subst q'
    obtain rfl:u=Value.bool true:=r'
    refine ⟨rfl,OldK.of_keep fun b o e=>?_,os,bare⟩
    cases q:H b with
    | none=>exact un.keep b o e q (by intro z; exact absurd (show b∈([]:List Addr) from z) (by simp)) (by simp)
    | some u =>
     rcases hO b with z | ⟨ob,xs,z⟩
     ·rw [q] at z; cases z
     ·have z2:=un.frzs b ob _ z
      obtain ⟨e1,_⟩:=hok b _ z
      obtain ⟨e2,_⟩:=hok' b _ z2
      rw [e] at e1; cases e1
      exact e2
 cases hk:K.lookup a with
 | some o =>
  have e:=KX a o hk
  rw [ha] at e
  cases e
  refine core (fun _=>none) (fun _=>.inl rfl) (.inr ⟨_,vs.toArray,_,hk,rfl,rfl,rfl,by rw [List.size_toArray,lenV]; exact hl,by simpa using rv⟩) (fun b u z=>by have z':(none:Option HO)=some u:=z; cases z') (fun b z=>absurd rfl z) fun z=>absurd rfl z
 | none =>
  refine core (fun b=>if b=a then some (.frz { cls:=.type "list",data:=.seq vs.toArray } (.lst (ns.map V.int))) else none) (fun b=>?_) (.inl (.inr ⟨{ cls:=.type "list",data:=.seq vs.toArray },if_pos rfl⟩)) (fun b u z=>?_) (fun b z=>?_) fun _=>hk
  ·by_cases hb:b=a
   ·exact .inr ⟨_,_,if_pos hb⟩
   ·exact .inl (if_neg hb)
  ·by_cases hb:b=a
   ·have z':=(if_pos hb).symm.trans z
    cases z'
    subst hb
    exact ⟨ha,by rw [List.length_map]; exact hl,vs,_,rv,ha⟩
   ·have z':=(if_neg hb).symm.trans z
    cases z'
  ·by_cases hb:b=a
   ·exact hb
   ·exact absurd (if_neg hb) z
theorem zarl {l:PySem.W.OpenLaw}{n k:Nat}{q:Program}{loose:List Str}{XP:(Str→Option Value)→Heap→Prop}{YP:World→Heap→Prop}{d:DefRec}{K:Params→PySem.W.Frag}{CX:World→CXT}{sp:World→Sp}{x:Str}
  (hn:l.most=some n) (hn2:n≤sizeLine) (hdf:d.params.defaults=[]) (hr:Room k callerA)
  (hY:∀ (w:World) (h:Heap),YP w h→(K w.params).In h)
  (F:∀ (w:World) (mg:Str→Option Value) (fa:Addr) (h:Heap),(K w.params).In h→h.Ns mainGlobals mg→mg d.name=some (.ref fa) →
   ∃ fd:FuncData,(∀ (s:Shared) (u:Value),BindsTo s fd ⟨[u],[]⟩ [(x,u)]) ∧
    ∀ base:Heap,(K w.params).In base→base.Ns mainGlobals mg→FnOk l.prog w (K w.params) mg base (CX w) k fa fd [x] (sp w))
  (hsp:∀ (w:World) (H:Hp) (a:Addr) (ns:List Int),ns.length≤n→Only H→SqL (K w.params) H a (ns.map V.int)→sp w [.ref a] H (fun v _=>v=.bl true) fun _ _ _=>False)
  (hCX:∀ (w:World) (H:Hp) (s:Shared) (e:Value) (s':Shared),CX w [] H s (fun _ _ _=>False) e s'→False) :
  PySem.W.WalkO q loose XP YP l.row.toRowW d [] (fun f vs=>PySem.call f vs):=by
 refine Att.attach_call hn hdf fun w s₀ s₁ mg mb fa o pm cd doc a vs ns G Y ho hd hcd hmg hobj hints hlen hg=>?_
 have KX:=hY w _ Y
 obtain ⟨fd,hb,hF⟩:=F w mg fa _ KX G.T.g hmg
 exact zaos KX G.T.g G.T.b G.T.builtins G.T.nolimit hg hobj hints (Nat.le_trans hlen hn2) hr hF hb (fun H hO hS=>hsp w H a ns hlen hO hS) fun H e s'=>hCX w H s₁ e s'
theorem zaot {l:PySem.W.OpenLaw}{n k:Nat}{q:Program}{loose:List Str}{XP:(Str→Option Value)→Heap→Prop}{YP:World→Heap→Prop}{d:DefRec}{K:Params→PySem.W.Frag}{CX:CXT}{sp:PySem.W.Frag→Sp}{x:Str}
  (hn:l.most=some n) (hn2:n≤sizeLine) (hdf:d.params.defaults=[]) (hr:Room k callerA)
  (hY:∀ (w:World) (h:Heap),YP w h→(K w.params).In h)
  (F:∀ (w:World) (mg:Str→Option Value) (fa:Addr) (h:Heap),(K w.params).In h→h.Ns mainGlobals mg→mg d.name=some (.ref fa) →
   ∃ fd:FuncData,(∀ (s:Shared) (u:Value),BindsTo s fd ⟨[u],[]⟩ [(x,u)]) ∧
    ∀ base:Heap,(K w.params).In base→base.Ns mainGlobals mg→FnOk l.prog w (K w.params) mg base CX k fa fd [x] (sp (K w.params)))
  (hsp:∀ (K:PySem.W.Frag) (H:Hp) (a:Addr) (ns:List Int),ns.length≤n→Only H→SqL K H a (ns.map V.int)→sp K [.ref a] H (fun v _=>v=.bl true) fun _ _ _=>False)
  (hCX:∀ (H:Hp) (s:Shared) (e:Value) (s':Shared),CX [] H s (fun _ _ _=>False) e s'→False) :
  PySem.W.WalkO q loose XP YP l.row.toRowW d [] (fun f vs=>PySem.call f vs) :=
 zarl (K:=K) (CX:=fun _=>CX) (sp:=fun w=>sp (K w.params)) hn hn2 hdf hr hY F (fun w H a ns h1 h2 h3=>hsp (K w.params) H a ns h1 h2 h3) fun _ H s e s'=>hCX H s e s'
def inClass (s:Stmt) (j:Nat):Stmt:=match s with
 | .ClassDef _ _ _ body _ _ _ _ _ _ _=>body.getD j (.Pass ⟨0,0,0,0⟩)
 | _=>.Pass ⟨0,0,0,0⟩
def defArgs (s:Stmt):Arguments:=match s with
 | .FunctionDef _ a _ _ _ _ _ _ _ _=>a
 | _=>{ posonlyargs:=[],args:=[],vararg:=none,kwonlyargs:=[],kw_defaults:=[],kwarg:=none,defaults:=[] }
def defBody (s:Stmt):List Stmt:=match s with
 | .FunctionDef _ _ b _ _ _ _ _ _ _=>b
 | _=>[]
def defScope (s:Stmt):Scope:=match s with
 | .FunctionDef _ _ _ _ _ _ sc _ _ _=>sc
 | _=>{ kind:=.function,names:=[],isGenerator:=false,isCoroutine:=false }
abbrev CX0:CXT:=fun _ _ _ _ _ _=>False
abbrev E0:XK:=fun _ _ _=>False
theorem pass0 {X:Cx}:Passes CX0 X E0:=fun _ _ _ _ _ _ _ h=>h.elim
structure Fun (K:PySem.W.Frag) (x qual:Str) (st:Stmt) (f:Addr) (fd:FuncData):Prop where
 ex:∃ (oc:Value) (od:Option Addr) (kV doc pm:Value) (an:Option Addr) (cdv ct:Value) (osl:Array (Option Value)),
  fd=PySem.W.fnOf x qual (defArgs st) (defBody st) (defScope st) .none kV doc pm an cdv ct∧K.lookup f=some ⟨oc,od,.func fd,osl⟩∧PySem.W.codeIn K cdv qual=true
 kp:PySem.W.keepIn K (.ref f)=true
section
variable {P:Program}{w:World}{K:PySem.W.Frag}{mg:Str→Option Value}{base:Heap}
theorem Fun.ok {x qual:Str}{st:Stmt}{f:Addr}{fd:FuncData}{N ps:List Str}{k:Nat}{sp:Sp} (F:Fun K x qual st f fd) (S:FnScope N ps (defScope st)) (len:∀ vs H Q E,sp vs H Q E→vs.length=ps.length)
  (hbody:∀ (cdv:Value) (A:Around) (outer:List Env) (s:Shared) (H:Hp) (vs:List V) (Q:VK) (E:XK),Room k (A.deeper (envOfC qual (defScope st) s.heap.objs.size f cdv))→sp vs H Q E →
   ∃ t,PSs (cxOf CX0 P w K mg base N qual (defScope st) f cdv A outer s H E).nox (defBody st) t∧t { nx:=fun _ H'=>Q .non H',rt:=Q } (start N vs) H):FnOk P w K mg base CX0 (k + 1) f fd ps sp:=by
 obtain ⟨oc,od,kV,doc,pm,an,cdv,ct,osl,rfl,lk,hcd⟩:=F.ex
 refine zau5 lk hcd S len fun A outer s H vs Q E hr hsp=>?_
 obtain ⟨t,h,q⟩:=hbody cdv A outer s H vs Q E hr hsp
 exact ⟨t,h.nox,q⟩
theorem Fun.binds {x qual:Str}{st:Stmt}{f:Addr}{fd:FuncData}{ps:List Str} (F:Fun K x qual st f fd)
  (h:∀ (kV doc pm:Value) (an:Option Addr) (cdv ct:Value) (us:List Value),us.length=ps.length→bindArgs (PySem.W.fnOf x qual (defArgs st) (defBody st) (defScope st) .none kV doc pm an cdv ct) ⟨us,[]⟩=pure (ps.zip us)):Binds K fd ps []:=by
 obtain ⟨oc,od,kV,doc,pm,an,cdv,ct,osl,rfl,lk,hcd⟩:=F.ex
 exact .all (h kV doc pm an cdv ct)
theorem zabn {x qual:Str}{st:Stmt}{f:Addr}{oc:Value}{od an:Option Addr}{osl:Array (Option Value)}{kV doc pm cdv ct:Value} (l:K.lookup f=some ⟨oc,od,.func (PySem.W.fnOf x qual (defArgs st) (defBody st) (defScope st) .none kV doc pm an cdv ct),osl⟩)
  (c:PySem.W.codeIn K cdv qual=true) (k:PySem.W.keepIn K (.ref f)=true):Fun K x qual st f (PySem.W.fnOf x qual (defArgs st) (defBody st) (defScope st) .none kV doc pm an cdv ct):=⟨⟨oc,od,kV,doc,pm,an,cdv,ct,osl,rfl,l,c⟩,k⟩
end
theorem zadw {A:Around}{k:Nat} (hr:Room k A):A.units + 1 < cLine:=Nat.lt_of_le_of_lt (Nat.add_le_add_left (by decide:1≤64) _) hr.units
theorem iteF {A B:Prop} (h:B):if false=true then A else B:=by
 rw [if_neg Bool.false_ne_true]
 exact h
theorem iteT {A B:Prop} (h:A):if true=true then A else B:=by
 rw [if_pos rfl]
 exact h
theorem ite2 {c A B:Prop} [Decidable c] (h1:c→A) (h2:¬ c→B):if c then A else B:=by
 by_cases h:c
 ·rw [if_pos h]
  exact h1 h
 ·rw [if_neg h]
  exact h2 h
end L2

namespace L2
open PySem PySem.Spec PyProof.Rows
section
variable {κ:Type} [DecidableEq κ]
def valV (kvs:List (κ × V)) (k:κ):Option V:=(kvs.find? fun kv=>decide (kv.1=k)).map (·.2)
def putK (kvs:List (κ × V)) (k:κ) (v:V):List (κ × V) :=
 if (kvs.any fun kv=>decide (kv.1=k))=true then kvs.map (fun kv=>if kv.1=k then (kv.1,v) else kv) else kvs++[(k,v)]
def dropK (kvs:List (κ × V)) (k:κ):List (κ × V):=kvs.filter fun kv=>decide (kv.1≠k)
theorem zab4 {p:κ × V}{r:List (κ × V)}{k:κ} (e:p.1=k):valV (p :: r) k=some p.2:=by simp [valV,List.find?_cons,e]
theorem zabz {p:κ × V}{r:List (κ × V)}{k:κ} (e:¬ p.1=k):valV (p :: r) k=valV r k:=by simp [valV,List.find?_cons,e]
theorem zaee (k:κ):∀ kvs:List (κ × V),(kvs.any fun kv=>decide (kv.1=k))=(valV kvs k).isSome
 | []=>rfl
 | p :: r=>by
  rw [List.any_cons]
  by_cases e:p.1=k
  ·simp only [zab4 e,decide_eq_true e,Bool.true_or,Option.isSome_some]
  ·rw [zabz e,decide_eq_false e,Bool.false_or]; exact zaee k r
theorem zakh (k j:κ) (y:V):∀ kvs:List (κ × V),valV (kvs.map fun kv=>if kv.1=k then (kv.1,y) else kv) j=(valV kvs j).map fun x=>if j=k then y else x
 | []=>rfl
 | p :: r=>by
  have ih:=zakh k j y r
  rw [List.map_cons]
  by_cases h:p.1=k
  ·rw [if_pos h]
   by_cases e:p.1=j
   ·rw [zab4 (p:=(p.1,y)) e,zab4 e,Option.map_some,if_pos (e.symm.trans h)]
   ·rw [zabz (p:=(p.1,y)) e,zabz e,ih]
  ·rw [if_neg h]
   by_cases e:p.1=j
   ·rw [zab4 (p:=p) e,zab4 e,Option.map_some,if_neg (fun z=>h (e.trans z))]
   ·rw [zabz (p:=p) e,zabz e,ih]
theorem zaid (k j:κ) (y:V):∀ kvs:List (κ × V),valV kvs k=none→valV (kvs++[(k,y)]) j=if j=k then some y else valV kvs j
 | [],_=>by
  by_cases e:k=j
  ·rw [if_pos e.symm]; exact zab4 (p:=(k,y)) e
  ·rw [if_neg (fun z=>e z.symm)]; exact zabz (p:=(k,y)) e
 | p :: r,hn=>by
  rw [List.cons_append]
  have hk:¬ p.1=k:=fun z=>by rw [zab4 z] at hn; cases hn
  rw [zabz hk] at hn
  have ih:=zaid k j y r hn
  by_cases e:p.1=j
  ·rw [zab4 e,zab4 e,if_neg (fun z=>hk (e.trans z))]
  ·rw [zabz e,zabz e,ih]
theorem zaki (kvs:List (κ × V)) (k j:κ) (y:V):valV (putK kvs k y) j=if j=k then some y else valV kvs j:=by
 unfold putK
 by_cases a:(kvs.any fun kv=>decide (kv.1=k))=true
 ·rw [if_pos a,zakh]
  rw [zaee] at a
  by_cases e:j=k
  ·obtain ⟨x,hx⟩:=Option.isSome_iff_exists.mp a
   rw [if_pos e,e,hx,Option.map_some,if_pos rfl]
  ·rw [if_neg e]
   cases valV kvs j with
   | none=>rfl
   | some x=>rw [Option.map_some,if_neg e]
 ·rw [if_neg a]
  refine zaid k j y kvs ?_
  rw [zaee] at a
  cases q:valV kvs k with
  | none=>rfl
  | some x=>rw [q] at a; exact (a rfl).elim
theorem zac0 (kvs:List (κ × V)) (k:κ) (v:V):(putK kvs k v).length≤kvs.length + 1:=by
 unfold putK
 split
 ·rw [List.length_map]; omega
 ·rw [List.length_append,List.length_cons,List.length_nil]; omega
theorem zaff {kvs:List (κ × V)}{k:κ} (v:V) (h:valV kvs k=none):putK kvs k v=kvs++[(k,v)]:=by
 unfold putK
 rw [zaee,h]
 exact if_neg (by decide)
theorem RelO.isSome_eq {o:Option V}{u:Option Value} (r:RelO o u):o.isSome=u.isSome:=by
 cases o with
 | none=>cases u with
  | none=>rfl
  | some _=>exact (show False from r).elim
 | some _=>cases u with
  | none=>exact (show False from r).elim
  | some _=>rfl
theorem RelO.getD {o:Option V}{u:Option Value}{d:V}{d':Value} (r:RelO o u) (rd:RelV d d'):RelV (o.getD d) (u.getD d'):=by
 cases o with
 | none=>cases u with
  | none=>exact rd
  | some _=>exact (show False from r).elim
 | some _=>cases u with
  | none=>exact (show False from r).elim
  | some _=>exact r
theorem KV.val {kvs:List (κ × V)}{vs:List (κ × Value)} (r:KV kvs vs) (k:κ):RelO (valV kvs k) (valueAt vs k):=by
 unfold KV at r
 induction r with
 | nil=>exact True.intro
 | @cons p q ps qs h t ih =>
  obtain ⟨h1,h2⟩:=h
  by_cases e:p.1=k
  ·have e':q.1=k:=h1.symm.trans e
   have b:valueAt (q :: qs) k=some q.2:=by simp [valueAt,List.find?_cons,e']
   rw [zab4 e,b]; exact h2
  ·have e':¬ q.1=k:=fun z=>e (h1.trans z)
   have b:valueAt (q :: qs) k=valueAt qs k:=by simp [valueAt,List.find?_cons,e']
   rw [zabz e,b]; exact ih
theorem KV.any {kvs:List (κ × V)}{vs:List (κ × Value)} (r:KV kvs vs) (k:κ):(kvs.any fun kv=>decide (kv.1=k))=vs.any fun kv=>decide (kv.1=k):=by
 unfold KV at r
 induction r with
 | nil=>rfl
 | cons h t ih=>rw [List.any_cons,List.any_cons,ih,h.1]
theorem KV.repl {kvs:List (κ × V)}{vs:List (κ × Value)} (r:KV kvs vs) (k:κ) {y:V}{u:Value} (ry:RelV y u) :
  KV (kvs.map fun kv=>if kv.1=k then (kv.1,y) else kv) (vs.map fun kv=>if kv.1=k then (kv.1,u) else kv):=by
 unfold KV at r ⊢
 induction r with
 | nil=>exact .nil
 | @cons p q ps qs h t ih =>
  rw [List.map_cons,List.map_cons]
  refine .cons ?_ ih
  obtain ⟨h1,h2⟩:=h
  by_cases e:p.1=k
  ·rw [if_pos e,if_pos (h1.symm.trans e)]; exact ⟨h1,ry⟩
  ·rw [if_neg e,if_neg (fun z=>e (h1.trans z))]; exact ⟨h1,h2⟩
theorem KV.put {kvs:List (κ × V)}{vs:List (κ × Value)} (r:KV kvs vs) (k:κ) {y:V}{u:Value} (ry:RelV y u):KV (putK kvs k y) (stored vs k u):=by
 unfold putK stored
 rw [r.any k]
 by_cases e:(vs.any fun kv=>decide (kv.1=k))=true
 ·rw [if_pos e,if_pos e]; exact r.repl k ry
 ·rw [if_neg e,if_neg e]; exact Paired.snoc r ⟨rfl,ry⟩
theorem KV.drop {kvs:List (κ × V)}{vs:List (κ × Value)} (r:KV kvs vs) (k:κ):KV (dropK kvs k) (without vs k):=by
 unfold KV at r ⊢
 unfold dropK without
 induction r with
 | nil=>exact .nil
 | @cons p q ps qs h t ih =>
  obtain ⟨h1,h2⟩:=h
  rw [List.filter_cons,List.filter_cons]
  by_cases e:p.1=k
  ·have a:¬ decide (p.1≠k)=true:=by simp [e]
   have b:¬ decide (q.1≠k)=true:=by simp [h1.symm.trans e]
   rw [if_neg a,if_neg b]; exact ih
  ·have e':¬ q.1=k:=fun z=>e (h1.trans z)
   have a:decide (p.1≠k)=true:=by simp [e]
   have b:decide (q.1≠k)=true:=by simp [e']
   rw [if_pos a,if_pos b]; exact .cons ⟨h1,h2⟩ ih
theorem KV.length {kvs:List (κ × V)}{vs:List (κ × Value)} (r:KV kvs vs):kvs.length=vs.length:=Paired.length r
theorem zaou (kvs:List (κ × V)) (k:κ):(dropK kvs k).length≤kvs.length:=List.length_filter_le _ _
end
theorem zafs {P:Program}{w:World}{k:Key}{u:Value} (r:RelV (kV k) u):(mixKind P w).is k u=true:=by
 cases k with
 | inl i=>obtain ⟨t,e⟩:=(show ∃ t,u=Value.int i t from r); subst e; exact zajf P w i t
 | inr x=>obtain ⟨t,e⟩:=(show ∃ t,u=Value.str x t from r); subst e; exact zajg P w x t
theorem zaie {P:Program}{w:World}:∀ {ks:List Key}{us:List Value},Vals (ks.map kV) us→ItemsAre (mixKind P w) ks us
 | [],_,r=>by rw [List.map_nil] at r; cases r; exact .nil
 | k :: ks,_,r=>by
  rw [List.map_cons] at r
  cases r with
  | cons h t=>exact .cons (zafs h) (zaie t)
abbrev KT (H:Hp):List (List Key × V)→List (List Key × Addr × Value)→Prop:=Paired fun p q=>p.1=q.1∧H q.2.1=some (.tup (p.1.map kV))∧RelV p.2 q.2.2
theorem KT.val {H:Hp}{kvs:List (List Key × V)}{xs:List (List Key × Addr × Value)} (r:KT H kvs xs) (k:List Key):RelO (valV kvs k) ((atKey xs k).map (·.2)):=by
 induction r with
 | nil=>exact True.intro
 | @cons p q ps qs h t ih =>
  obtain ⟨h1,_,h2⟩:=h
  by_cases e:p.1=k
  ·have e':q.1=k:=h1.symm.trans e
   have b:atKey (q :: qs) k=some q.2:=by simp [atKey,List.find?_cons,e']
   rw [zab4 e,b]; exact h2
  ·have e':¬ q.1=k:=fun z=>e (h1.trans z)
   have b:atKey (q :: qs) k=atKey qs k:=by simp [atKey,List.find?_cons,e']
   rw [zabz e,b]; exact ih
theorem KT.repl {H:Hp}{kvs:List (List Key × V)}{xs:List (List Key × Addr × Value)} (r:KT H kvs xs) (k:List Key) {y:V}{u:Value} (ry:RelV y u) :
  KT H (kvs.map fun kv=>if kv.1=k then (kv.1,y) else kv) (xs.map (putAt k u)):=by
 induction r with
 | nil=>exact .nil
 | @cons p q ps qs h t ih =>
  rw [List.map_cons,List.map_cons]
  refine .cons ?_ ih
  obtain ⟨h1,h2,h3⟩:=h
  unfold putAt
  by_cases e:p.1=k
  ·rw [if_pos e,if_pos (h1.symm.trans e)]; exact ⟨h1,h2,ry⟩
  ·rw [if_neg e,if_neg (fun z=>e (h1.trans z))]; exact ⟨h1,h2,h3⟩
theorem KT.put {H:Hp}{kvs:List (List Key × V)}{xs:List (List Key × Addr × Value)} (r:KT H kvs xs) (k:List Key) {b:Addr}{y:V}{u:Value} (hb:H b=some (.tup (k.map kV))) (ry:RelV y u) :
  KT H (putK kvs k y) (storedH xs k b u):=by
 have e:(kvs.any fun kv=>decide (kv.1=k))=(atKey xs k).isSome:=by
  rw [zaee,(r.val k).isSome_eq,Option.isSome_map]
 unfold putK storedH
 rw [e]
 by_cases q:(atKey xs k).isSome=true
 ·rw [if_pos q,if_pos q]; exact r.repl k ry
 ·rw [if_neg q,if_neg q]; exact Paired.snoc r ⟨rfl,hb,ry⟩
theorem KT.keeps {H H':Hp}{kvs:List (List Key × V)}{xs:List (List Key × Addr × Value)} (r:KT H kvs xs) (ht:∀ b ys,H b=some (.tup ys)→H' b=some (.tup ys)):KT H' kvs xs :=
 Paired.mapP r fun _ _ z=>⟨z.1,ht _ _ z.2.1,z.2.2⟩
section
variable {P:Program}{w:World}{H:Hp}{h:Heap}{a:Addr}
theorem zats {u:HO} (ok:HOk P w H h) (e:Rd H a u):ObjOk P w H h a u:=e.ok ok
theorem zaif {kvs:List (Key × V)} (ok:HOk P w H h) (e:Rd H a (.dK kvs)):kvs.length≤sizeLine∧(a == sysModules)=false∧∃ vs,KV kvs vs∧h.DictOf (mixKind P w) a vs :=
 show ObjOk P w H h a (.dK kvs) from zats ok e
theorem zarm {kvs:List (Key × V)} (ok:HOk P w H h) (e:H a=some (.dK kvs)):kvs.length≤sizeLine∧(a == sysModules)=false∧∃ vs,KV kvs vs∧h.DictOf (mixKind P w) a vs:=zaif ok (.inl e)
theorem zagy {ks:List Key} (ok:HOk P w H h) (e:H a=some (.tup (ks.map kV))):(tupleKind (mixKind P w)).is h ks a:=by
 obtain ⟨_,its,r,o,h1,h2,n,h3⟩:=(show ObjOk P w H h a (.tup (ks.map kV)) from ok a _ e)
 exact ⟨o,its.toArray,n,h1,h2,h3,by simpa using zaie r⟩
theorem zaji {kvs:List (List Key × V)} (ok:HOk P w H h) (e:Rd H a (.dT kvs)):kvs.length≤sizeLine∧(a == sysModules)=false ∧
  ∃ xs,KT H kvs xs∧h.DictOfH (tupleKind (mixKind P w)) a xs:=by
 obtain ⟨z,y,xs,r,o,es,ep,h1,h2,h3,h4,h5⟩:=(show ObjOk P w H h a (.dT kvs) from zats ok e)
 refine ⟨z,y,xs,r,o,es,ep,h1,h2,h3,h4,fun x hx=>?_,h5⟩
 have all:∀ {l:List (List Key × V)}{m:List (List Key × Addr × Value)},KT H l m→∀ x∈m,(tupleKind (mixKind P w)).is h x.1 x.2.1:=by
  intro l m q
  induction q with
  | nil=>intro x hx; exact nomatch hx
  | @cons p q ps qs hq t ih =>
   intro x hx
   rcases List.mem_cons.mp hx with e | hx
   ·subst e
    exact zagy ok (by rw [← hq.1]; exact hq.2.1)
   ·exact ih x hx
 exact all r x hx
theorem zau8 {kvs:List (List Key × V)} (ok:HOk P w H h) (e:H a=some (.dT kvs)):kvs.length≤sizeLine∧(a == sysModules)=false ∧
  ∃ xs,KT H kvs xs∧h.DictOfH (tupleKind (mixKind P w)) a xs:=zaji ok (.inl e)
end
def DGet (H:Hp) (a:Addr) (y:V) (r:Option V):Prop :=
 (∃ kvs k,Rd H a (.dK kvs)∧y=kV k∧r=valV kvs k)∨∃ kvs k b,Rd H a (.dT kvs)∧y=.ref b∧H b=some (.tup (k.map kV))∧r=valV kvs k
def DPut (H:Hp) (a:Addr) (y v:V) (H':Hp):Prop :=
 (∃ kvs k,H a=some (.dK kvs)∧y=kV k∧kvs.length < sizeLine∧H'=upd H a (.dK (putK kvs k v))) ∨
 ∃ kvs k b,H a=some (.dT kvs)∧y=.ref b∧H b=some (.tup (k.map kV))∧kvs.length < sizeLine∧H'=upd H a (.dT (putK kvs k v))
theorem DGet.k {H:Hp}{a:Addr}{kvs:List (Key × V)}{k:Key} (e:H a=some (.dK kvs)):DGet H a (kV k) (valV kvs k):=.inl ⟨kvs,k,.inl e,rfl,rfl⟩
theorem DPut.k {H:Hp}{a:Addr}{kvs:List (Key × V)}{k:Key}{v:V} (e:H a=some (.dK kvs)) (hl:kvs.length < sizeLine):DPut H a (kV k) v (upd H a (.dK (putK kvs k v))):=.inl ⟨kvs,k,e,rfl,hl,rfl⟩
section
variable {X:Cx}{pins:List (Addr × Obj)}{σ:St}{H:Hp}{s:Shared}{a:Addr}{y v:V}{u r:Value}{o:Option V}{A:Around}{E:Value→Shared→Prop}
theorem Inv.big (I:Inv X pins σ H s):sysModules < s.heap.objs.size:=by
 have h:mainGlobals < s.heap.objs.size:=(I.mod.glob.keeps I.bk).lt
 exact Nat.lt_trans (by decide) h
theorem zamb {Q:Value→Shared→Prop} (hu:A.units + 1 < cLine) (I:Inv X pins σ H s) (g:DGet H a y (some v)) (ry:RelV y u) (h:∀ w' s',Inv X pins σ H s'→RelV v w'→Q w' s') :
  wpAny (model X.prog X.w) A (getItem (.ref a) u) Q E s:=by
 rcases g with ⟨kvs,k,e,ey,l⟩ | ⟨kvs,k,b,e,ey,eb,l⟩
 ·subst ey
  obtain ⟨z,hd,vs,rel,dd⟩:=zaif I.hok e
  obtain ⟨w',hw,rw'⟩:=RelO.some_of (v:=v) (o:=valueAt vs k) (by rw [l]; exact rel.val k)
  exact wpAny_getItem_of (zafs ry) dd.mapOf hw (h w' _ (I.tok _) rw')
 ·subst ey
  cases (show u=Value.ref b from ry)
  obtain ⟨z,hd,xs,rel,dd⟩:=zaji I.hok e
  obtain ⟨w',hw,rw'⟩:=RelO.some_of (v:=v) (o:=(atKey xs k).map (·.2)) (by rw [l]; exact rel.val k)
  obtain ⟨p,hp,hp2⟩:=Option.map_eq_some_iff.mp hw
  refine wpAny_getItem_heap (tupleKind_room_in1 hu) (zagy I.hok eb) dd hp ?_
  rw [hp2]
  exact h w' _ (I.tok _) rw'
theorem d_in {Q:Value→Shared→Prop} (hu:A.units + 1 < cLine) (I:Inv X pins σ H s) (g:DGet H a y o) (ry:RelV y u) (h:∀ s',Inv X pins σ H s'→Q (.bool o.isSome) s') :
  wpAny (model X.prog X.w) A (compareOp .In u (.ref a)) Q E s:=by
 rcases g with ⟨kvs,k,e,ey,l⟩ | ⟨kvs,k,b,e,ey,eb,l⟩
 ·subst ey
  obtain ⟨z,hd,vs,rel,dd⟩:=zaif I.hok e
  refine wpAny_in_of (zafs ry) hd dd.mapOf ?_
  rw [← (rel.val k).isSome_eq,← l]
  exact h _ (I.tok _)
 ·subst ey
  cases (show u=Value.ref b from ry)
  obtain ⟨z,hd,xs,rel,dd⟩:=zaji I.hok e
  refine wpAny_in_heap (tupleKind_room_in1 hu) (zagy I.hok eb) hd dd ?_
  have q:=(rel.val k).isSome_eq
  rw [Option.isSome_map] at q
  rw [← q,← l]
  exact h _ (I.tok _)
theorem zarn {Q:Value→Shared→Prop} (hu:A.units + 1 < cLine) (I:Inv X pins σ H s) (g:DGet H a y o) (ry:RelV y u) (h:∀ s',Inv X pins σ H s'→Q (.bool (!o.isSome)) s') :
  wpAny (model X.prog X.w) A (compareOp .NotIn u (.ref a)) Q E s:=by
 rcases g with ⟨kvs,k,e,ey,l⟩ | ⟨kvs,k,b,e,ey,eb,l⟩
 ·subst ey
  obtain ⟨z,hd,vs,rel,dd⟩:=zaif I.hok e
  refine wpAny_notIn_of (zafs ry) hd dd.mapOf ?_
  rw [← (rel.val k).isSome_eq,← l]
  exact h _ (I.tok _)
 ·subst ey
  cases (show u=Value.ref b from ry)
  obtain ⟨z,hd,xs,rel,dd⟩:=zaji I.hok e
  refine wpAny_notIn_heap (tupleKind_room_in1 hu) (zagy I.hok eb) hd dd ?_
  have q:=(rel.val k).isSome_eq
  rw [Option.isSome_map] at q
  rw [← q,← l]
  exact h _ (I.tok _)
theorem zahb {h':Heap}{t':Nat}{ob:HO} (I:Inv X pins σ H s) (mu:Mut (H a)) (hs:Heap.SameBut a s.heap h') (he:∃ q,h'.get? a=some q) (new:ObjOk X.prog X.w (upd H a ob) h' a ob) :
  Inv X pins σ (upd H a ob) { s with heap:=h',toks:=t' } :=
 I.write (x:=a) (e:=a) mu (.inl rfl) (fun b q hb z=>(hs.2 b hb).trans z) he new
theorem zamc {P:Program}{w:World}{H':Hp}{h':Heap}{kvs:List (Key × V)}{vs:List (Key × Value)} (z:kvs.length≤sizeLine) (hd:(a == sysModules)=false) (rel:KV kvs vs) (dd:h'.DictOf (mixKind P w) a vs) :
  ObjOk P w H' h' a (.dK kvs):=⟨z,hd,vs,rel,dd⟩
theorem zamd {H':Hp}{Q:Unit→Shared→Prop} (hu:A.units + 1 < cLine) (I:Inv X pins σ H s) (g:DPut H a y v H') (ry:RelV y u) (rv:RelV v r) (h:∀ s',Inv X pins σ H' s'→Q () s') :
  wpAny (model X.prog X.w) A (setItem (.ref a) u r) Q E s:=by
 rcases g with ⟨kvs,k,e,ey,l,eH⟩ | ⟨kvs,k,b,e,ey,eb,l,eH⟩
 ·subst ey eH
  obtain ⟨z,hd,vs,rel,dd⟩:=zarm I.hok e
  have hz:vs.length≤sizeLine:=by rw [← rel.length]; exact z
  have hl:(putK kvs k v).length≤sizeLine:=by have:=zac0 kvs k v; omega
  refine wpAny_setItem_pairs (hsz:=hz) (zafs ry) dd fun h' dd' hs=>h _ ?_
  have he:∃ q,h'.get? a=some q:=let ⟨q,_,_,hq,_⟩:=dd'; ⟨q,hq⟩
  exact zahb I (by rw [e]; exact True.intro) hs he (zamc hl hd (rel.put k rv) dd')
 ·subst ey eH
  cases (show u=Value.ref b from ry)
  obtain ⟨z,hd,xs,rel,dd⟩:=zau8 I.hok e
  have hz:xs.length≤sizeLine:=by rw [← Paired.length rel]; exact z
  have hl:(putK kvs k v).length≤sizeLine:=by have:=zac0 kvs k v; omega
  refine wpAny_setItem_heap (hsz:=hz) (tupleKind_room_in1 hu) (zagy I.hok eb) dd fun h' dd' hs=>h _ ?_
  obtain ⟨q,es,ep,hq,h2,h3,h4,_,h5⟩:=dd'
  refine zahb I (by rw [e]; exact True.intro) hs ⟨q,hq⟩ ⟨hl,hd,_,(rel.put k eb rv).keeps fun c ys ec=>?_,q,es,ep,hq,h2,h3,h4,h5⟩
  rw [zaa0 (zacz ec e (fun z=>nomatch z))]
  exact ec
end
section
variable {X:Cx}{pins:List (Addr × Obj)}{σ:St}{H:Hp}{s:Shared}{a:Addr}{kvs:List (Key × V)}{k:Key}{u:Value}{A:Around}{E:Value→Shared→Prop}
theorem zau9 {v:V}{more:List Value}{Q:Value→Shared→Prop} (I:Inv X pins σ H s) (e:H a=some (.dK kvs)) (ry:RelV (kV k) u) (l:valV kvs k=some v) (hm:more=[]∨∃ x,more=[x])
  (h:∀ w' s',Inv X pins σ (upd H a (.dK (dropK kvs k))) s'→RelV v w'→Q w' s'):wpAny (model X.prog X.w) A (call (.builtin "dict.pop") (.ref a :: u :: more)) Q E s:=by
 obtain ⟨z,hd,vs,rel,dd⟩:=zarm I.hok e
 obtain ⟨w',hw,rw'⟩:=RelO.some_of (v:=v) (o:=valueAt vs k) (by rw [← l]; exact rel.val k)
 have hp:(keyPart u).isSome=true:=by
  cases k with
  | inl i=>obtain ⟨t,q⟩:=(show ∃ t,u=Value.int i t from ry); subst q; rfl
  | inr x=>obtain ⟨t,q⟩:=(show ∃ t,u=Value.str x t from ry); subst q; rfl
 have ha:argsOk "dict.pop" ⟨.ref a :: u :: more,[]⟩:=by
  rcases hm with q | ⟨x,q⟩
  ·subst q; exact PySem.F.args_dict_pop_2 _ _
  ·subst q; exact PySem.F.args_dict_pop_3 _ _ _
 refine call_meetsIn PySem.F.slot_dict_pop dd.typeIs PySem.F.entry_dict_pop ha (meets_dict_pop_there (mixKind X.prog X.w) a (zafs ry) more hm hp)
  ⟨vs,w',dd,by rw [← rel.length]; exact z,hw,fun h' dd' hs=>h w' _ ?_ rw'⟩
 have he:∃ q,h'.get? a=some q:=let ⟨q,_,_,hq,_⟩:=dd'; ⟨q,hq⟩
 exact zahb I (by rw [e]; exact True.intro) hs he (zamc (Nat.le_trans (zaou kvs k) z) hd (rel.drop k) dd')
end
def NoSl (i:Expr):Prop:=∀ ov iv,subscripted i false ov iv=operate [ov,iv] (getItem ov iv)
theorem zame {prog:Program}{w:World}{A:Around}{E:Value→Shared→Prop}{s:Shared}{env:Env}{value slice:Expr}{pos:Pos}{T id:String}{Q:Value→Shared→Prop}
  (hl:typeLookup (.type T) "__getitem__" = pure (some (.builtin id))) (hs:NoSl slice)
  (h:wpAny (model prog w) A (eval value env) (fun o s₁=>wpAny (model prog w) A (eval slice env) (fun i s₂=>s₂.TypeIs o T∧wpAny (model prog w) A (getItem o i) Q E s₂) E s₁) E s) :
  wpAny (model prog w) A (eval (.Subscript value slice pos) env) Q E s:=by
 refine Subscript_ (wpAny_mono h (fun o s₁ h₁=>wpAny_mono h₁ (fun i s₂ h₂=>?_) fun _ _ x=>x) fun _ _ x=>x)
 obtain ⟨hT,h₂⟩:=h₂
 unfold subscriptTail
 refine wpAny_bind ?_
 rw [getitemInPython_of_ne hT.not_modules]
 refine wpAny_bind (wpAny_specialOf hT hl ?_)
 have fin:wpAny (model prog w) A (subscripted slice false o i) (fun r s₃=>wpAny (model prog w) A (letTemporaryGo value o r >>= fun _=>pure r) Q E s₃) E s₂:=by
  rw [hs o i]
  exact wpAny_operating (wpAny_mono h₂ (fun r s₃ h₃=>wpAny_bind (wpAny_letTemporaryGo (wpAny_pure h₃))) fun _ _ x=>x)
 first
  | exact wpAny_pure (wpAny_bind fin)
  | exact wpAny_bind (wpAny_pure (wpAny_bind fin))
  | exact wpAny_bind fin
theorem zajj {X:Cx}{pins:List (Addr × Obj)}{σ:St}{H:Hp}{s:Shared}{a:Addr}{y:V}{o:Option V} (I:Inv X pins σ H s) (g:DGet H a y o):s.TypeIs (.ref a) "dict" := by
 rcases g with ⟨kvs,k,e,_,_⟩ | ⟨kvs,k,b,e,_,_,_⟩
 ·obtain ⟨_,_,vs,_,dd⟩:=zaif I.hok e
  exact dd.typeIs
 ·obtain ⟨_,_,xs,_,dd⟩:=zaji I.hok e
  exact dd.typeIs
def tDGet (td ty:TE):TE:=fun σ H Q=>td σ H fun x H1=>ty σ H1 fun y H2=>∃ a v,x=.ref a∧DGet H2 a y (some v)∧Q v H2
def tDIn (ty td:TE):TE:=fun σ H Q=>ty σ H fun y H1=>td σ H1 fun x H2=>∃ a o,x=.ref a∧DGet H2 a y o∧Q (.bl o.isSome) H2
def tDNotIn (ty td:TE):TE:=fun σ H Q=>ty σ H fun y H1=>td σ H1 fun x H2=>∃ a o,x=.ref a∧DGet H2 a y o∧Q (.bl (!o.isSome)) H2
def sDPut (td ty tv:TE):TS:=fun D σ H=>tv σ H fun v H1=>td σ H1 fun x H2=>ty σ H2 fun y H3=>∃ a H4,x=.ref a∧DPut H3 a y v H4∧D.nx σ H4
section
variable {X:Cx}{o i e value:Expr}{pos pos' tpos:Pos}{td ty tv:TE}
theorem zaro (hu:X.A.units + 1 < cLine) (ho:PE X o td) (hi:PE X i ty) (hs:NoSl i):PE X (.Subscript o i pos) (tDGet td ty):=by
 intro pins s σ H Q I h
 refine zame PySem.F.slot_dict_getitem.lookup hs (thn (ho pins s σ H _ I h) fun u s1 ⟨x,H1,I1,rx,q1⟩=>thn (hi pins s1 σ H1 _ I1 q1) fun iv s2 ⟨y,H2,I2,ry,a,v,ex,g,q2⟩=>?_)
 subst ex
 obtain rfl:u=Value.ref a:=rx
 exact ⟨zajj I2 g,zamb hu I2 g ry fun w' s3 I3 rw'=>⟨v,H2,I3,rw',q2⟩⟩
theorem zatt (hu:X.A.units + 1 < cLine) (hi:PE X i ty) (ho:PE X o td):PC X .In i o (tDIn ty td):=by
 intro pins s σ H Q I h
 refine thn (hi pins s σ H _ I h) fun iv s1 ⟨y,H1,I1,ry,q1⟩=>thn (ho pins s1 σ H1 _ I1 q1) fun u s2 ⟨x,H2,I2,rx,a,ov,ex,g,q2⟩=>?_
 subst ex
 obtain rfl:u=Value.ref a:=rx
 exact d_in hu I2 g ry fun s3 I3=>⟨.bl ov.isSome,H2,I3,rfl,q2⟩
theorem zamf (hu:X.A.units + 1 < cLine) (hi:PE X i ty) (ho:PE X o td):PC X .NotIn i o (tDNotIn ty td):=by
 intro pins s σ H Q I h
 refine thn (hi pins s σ H _ I h) fun iv s1 ⟨y,H1,I1,ry,q1⟩=>thn (ho pins s1 σ H1 _ I1 q1) fun u s2 ⟨x,H2,I2,rx,a,ov,ex,g,q2⟩=>?_
 subst ex
 obtain rfl:u=Value.ref a:=rx
 exact zarn hu I2 g ry fun s3 I3=>⟨.bl (!ov.isSome),H2,I3,rfl,q2⟩
theorem zarp (hu:X.A.units + 1 < cLine) (ho:PE X o td) (hi:PE X i ty) (hv:PE X value tv) (hs:swapsWith value (some (.Subscript o i pos')) pos.line X.env=pure false) :
  PS X (.Assign [.Subscript o i pos'] value pos) (sDPut td ty tv):=by
 intro pins s σ H D I h
 refine wpAny_Assign_Subscript (thn (hv pins s σ H _ I h) fun r s1 ⟨v,H1,I1,rv,q1⟩=>thn (ho pins s1 σ H1 _ I1 q1) fun u s2 ⟨x,H2,I2,rx,q2⟩=>thn (hi pins s2 σ H2 _ I2 q2) fun iv s3 ⟨y,H3,I3,ry,a,H4,ex,g,q3⟩=>?_) hs
 subst ex
 obtain rfl:u=Value.ref a:=rx
 exact zamd hu I3 g ry rv fun s4 I4=>⟨σ,H4,I4,q3⟩
end
theorem zakj {P:Program}{w:World}{H:Hp} (h:Heap) (hb:sysModules < h.objs.size):ObjOk P w H (h.push { cls:=.type "dict",data:=.dict #[] }) h.objs.size (.dK []) :=
 ⟨Nat.zero_le _,beq_eq_false_iff_ne.mpr (Ne.symm (Nat.ne_of_lt hb)),[],.nil,Heap.DictOf.new h⟩
def tDNewK:TE:=fun _ H Q=>∀ p,H p=none→Q (.ref p) (upd H p (.dK []))
section
variable {X:Cx}{pos:Pos}
theorem zaov:PE X (.Dict [] [] pos) tDNewK:=fun pins s σ H Q I h =>
 wpAny_Dict_empty ⟨.ref s.heap.objs.size,_,I.laid (a:=s.heap.objs.size) (o:=.dK []) (t':=s.toks) (fun _ _ q=>Heap.get?_push_of_some _ q) (Nat.le_refl _) (zakj s.heap I.big),rfl,h _ (I.hok.fresh (Nat.le_refl _))⟩
end
def tPairs:List (TE × TE)→St→Hp→(List (V × V)→Hp→Prop)→Prop
 | [],_,H,Q=>Q [] H
 | (tk,tv) :: r,σ,H,Q=>tk σ H fun x H1=>tv σ H1 fun y H2=>tPairs r σ H2 fun ps H3=>Q ((x,y) :: ps) H3
abbrev VV:List (V × V)→List (Value × Value)→Prop:=Paired fun p q=>RelV p.1 q.1∧RelV p.2 q.2
def PPs (X:Cx) (pos:Pos) (keys:List (Option Expr)) (values:List Expr) (trs:List (TE × TE)):Prop :=
 ∀ (pins:List (Addr × Obj)) (s:Shared) (σ:St) (H:Hp) (Q:List (V × V)→Hp→Prop),Inv X pins σ H s→tPairs trs σ H Q →
  wpAny (model X.prog X.w) X.A (evalPairs (pairTrees keys values X.env pos)) (fun vs s'=>∃ ps H',Inv X pins σ H' s'∧VV ps vs∧Q ps H') X.xe s
theorem zarq {X:Cx}{pos:Pos}:PPs X pos [] [] []:=fun pins s σ H Q I h=>pairTrees_nil_walk ⟨[],H,I,.nil,h⟩
theorem zaow {X:Cx}{pos:Pos}{k v:Expr}{ks:List (Option Expr)}{vs:List Expr}{tk tv:TE}{trs:List (TE × TE)} (hk:PE X k tk) (hv:PE X v tv) (hr:PPs X pos ks vs trs) :
  PPs X pos (some k :: ks) (v :: vs) ((tk,tv) :: trs):=fun pins s σ H Q I h =>
 pairTrees_cons_walk (thn (hk pins s σ H _ I h) fun u s1 ⟨x,H1,I1,rx,q1⟩=>thn (hv pins s1 σ H1 _ I1 q1) fun w2 s2 ⟨y,H2,I2,ry,q2⟩ =>
  thn (hr pins s2 σ H2 _ I2 q2) fun ws s3 ⟨ps,H3,I3,rel,q3⟩=>⟨(x,y) :: ps,H3,I3,.cons ⟨rx,ry⟩ rel,q3⟩)
def mergeK (kvs more:List (Key × V)):List (Key × V):=more.foldl (fun acc kv=>putK acc kv.1 kv.2) kvs
theorem KV.merge:∀ {more:List (Key × V)}{rs:List (Key × Value)}{kvs:List (Key × V)}{vs:List (Key × Value)},KV more rs→KV kvs vs→KV (mergeK kvs more) (merged vs rs):=by
 intro more rs kvs vs r
 unfold KV at r
 induction r generalizing kvs vs with
 | nil=>intro q; exact q
 | @cons p q ps qs h t ih =>
  intro r0
  have e:KV (putK kvs p.1 p.2) (stored vs q.1 q.2):=by
   have:=r0.put p.1 h.2
   rw [← h.1]; exact this
  exact ih e
theorem zaef:∀ (more kvs:List (Key × V)),(mergeK kvs more).length≤kvs.length + more.length
 | [],kvs=>by show kvs.length≤kvs.length + 0; omega
 | p :: r,kvs=>by
  have h1:=zaef r (putK kvs p.1 p.2)
  have h2:=zac0 kvs p.1 p.2
  show (mergeK (putK kvs p.1 p.2) r).length≤_
  rw [List.length_cons]; omega
theorem zagz {P:Program}{w:World}:∀ {kvs:List (Key × V)}{ws:List (Value × Value)},VV (kvs.map fun kv=>(kV kv.1,kv.2)) ws→∃ rs,Carries (mixKind P w) ws rs∧KV kvs rs
 | [],_,r=>by rw [List.map_nil] at r; cases r; exact ⟨[],True.intro,.nil⟩
 | p :: kvs,_,r=>by
  rw [List.map_cons] at r
  cases r with
  | @cons a b as bs h t =>
   obtain ⟨rs,c,q⟩:=zagz (P:=P) (w:=w) t
   obtain ⟨b1,b2⟩:=b
   exact ⟨(p.1,b2) :: rs,⟨zafs h.1,rfl,c⟩,.cons ⟨rfl,h.2⟩ q⟩
def tDisp (trs:List (TE × TE)):TE:=fun σ H Q=>∀ p,H p=none→tPairs trs σ (upd H p (.dK [])) fun ps H2=>H2 p=some (.dK [])∧∃ kvs:List (Key × V),ps=kvs.map (fun kv=>(kV kv.1,kv.2))∧kvs.length≤15∧Q (.ref p) (upd H2 p (.dK (mergeK [] kvs)))
theorem zarr {X:Cx}{pos:Pos}{keys:List (Option Expr)}{values:List Expr}{trs:List (TE × TE)} (h:PPs X pos keys values trs) (hall:keys.all (·.isSome)=true) (hl:keys.length=values.length) (h0:keys≠[])
  (h15:keys.length≤15):PE X (.Dict keys values pos) (tDisp trs):=by
 intro pins s σ H Q I q
 have hn:=I.hok.fresh (Nat.le_refl s.heap.objs.size)
 have I1:=I.laid (a:=s.heap.objs.size) (o:=.dK []) (h':=s.heap.push { cls:=.type "dict",data:=.dict #[] }) (t':=s.toks) (fun _ _ q=>Heap.get?_push_of_some _ q) (Nat.le_refl _) (zakj s.heap I.big)
 refine wpAny_Dict_walk (knd:=mixKind X.prog X.w) hall hl h0 h15 (thn (h pins _ σ _ _ I1 (q _ hn)) fun ws s2 ⟨ps,H2,I2,rel,e,kvs,ep,lk,q2⟩=>?_)
 subst ep
 obtain ⟨rs,c,rk⟩:=zagz (P:=X.prog) (w:=X.w) rel
 obtain ⟨z,hd,vs0,r0,dd⟩:=zarm I2.hok e
 cases r0
 refine ⟨rs,c,dd,fun h' dd' hs=>⟨.ref s.heap.objs.size,_,?_,rfl,q2⟩⟩
 have hz:(mergeK [] kvs).length≤sizeLine:=by
  have h1:=zaef kvs []
  rw [List.length_nil] at h1
  rw [sizeLine_eq]; omega
 have he:∃ q,h'.get? s.heap.objs.size=some q:=let ⟨q,_,_,hq,_⟩:=dd'; ⟨q,hq⟩
 exact zahb I2 (by rw [e]; exact True.intro) hs he (zamc hz hd (rk.merge .nil) dd')
structure M1 (X:Cx) (o:Expr) (m:Str) (apos:Pos) (e:Expr) (cpos:Pos):Prop where
 base:attributeBase o m X.env (eval o X.env)=eval o X.env
 few:((backTo cpos (starEach [e] X.env)).all (fun x=>!x.1) && (backToKw cpos (keywordEach [] X.env)).all (fun x=>x.1.isSome)
  && decide (([e]:List Expr).length + ([]:List Keyword).length + (if ([]:List Keyword).isEmpty then 0 else 1) < 30))=true
 line:(apos.endLine == cpos.line)=true
 trees:backTo cpos (starEach [e] X.env)=[(false,eval e X.env)]
structure M2 (X:Cx) (o:Expr) (m:Str) (apos:Pos) (e f:Expr) (cpos:Pos):Prop where
 base:attributeBase o m X.env (eval o X.env)=eval o X.env
 few:((backTo cpos (starEach [e,f] X.env)).all (fun x=>!x.1) && (backToKw cpos (keywordEach [] X.env)).all (fun x=>x.1.isSome)
  && decide (([e,f]:List Expr).length + ([]:List Keyword).length + (if ([]:List Keyword).isEmpty then 0 else 1) < 30))=true
 line:(apos.endLine == cpos.line)=true
 trees:backTo cpos (starEach [e,f] X.env)=[(false,eval e X.env),(false,eval f X.env)]
def IsD (H:Hp) (a:Addr):Prop:=(∃ kvs,Rd H a (.dK kvs))∨∃ kvs,Rd H a (.dT kvs)
theorem zap8 {X:Cx}{pins:List (Addr × Obj)}{σ:St}{H:Hp}{s:Shared}{a:Addr} (I:Inv X pins σ H s) (d:IsD H a) :
  s.TypeIs (.ref a) "dict" ∧ (∀ b,Value.ref a=.ref b→∃ ob,s.heap.get? b=some ob∧ob.dict=none)∧(a == sysModules)=false:=by
 rcases d with ⟨kvs,e⟩ | ⟨kvs,e⟩
 ·obtain ⟨_,hd,vs,_,dd⟩:=zaif I.hok e
  refine ⟨dd.typeIs,fun b q=>?_,hd⟩
  cases q
  obtain ⟨ob,_,_,h1,h2,_⟩:=dd
  exact ⟨ob,h1,h2.2.1⟩
 ·obtain ⟨_,hd,xs,_,dd⟩:=zaji I.hok e
  refine ⟨dd.typeIs,fun b q=>?_,hd⟩
  cases q
  obtain ⟨ob,_,_,h1,h2,_⟩:=dd
  exact ⟨ob,h1,h2.2.1⟩
section
variable {X:Cx}{pins:List (Addr × Obj)}{σ:St}{H:Hp}{s:Shared}{a:Addr}{y d:V}{u r:Value}{o:Option V}{A:Around}{E:Value→Shared→Prop}
theorem zatu {Q:Value→Shared→Prop} (hu:A.units + 1 < cLine) (I:Inv X pins σ H s) (g:DGet H a y o) (ry:RelV y u) (rd:RelV d r) (h:∀ w' s',Inv X pins σ H s'→RelV (o.getD d) w'→Q w' s') :
  wpAny (model X.prog X.w) A (call (.builtin "dict.get") [.ref a,u,r]) Q E s:=by
 rcases g with ⟨kvs,k,e,ey,l⟩ | ⟨kvs,k,b,e,ey,eb,l⟩
 ·subst ey
  obtain ⟨z,hd,vs,rel,dd⟩:=zaif I.hok e
  refine call_meetsIn PySem.F.slot_dict_get dd.typeIs PySem.F.entry_dict_get (PySem.F.args_dict_get_3 _ _ _) (meets_dict_get_default (mixKind X.prog X.w) a (zafs ry) hd r) ⟨_,dd.mapOf,h _ _ (I.tok _) ?_⟩
  rw [l]
  exact (rel.val k).getD rd
 ·subst ey
  cases (show u=Value.ref b from ry)
  obtain ⟨z,hd,xs,rel,dd⟩:=zaji I.hok e
  refine call_meetsIn PySem.F.slot_dict_get dd.typeIs PySem.F.entry_dict_get (PySem.F.args_dict_get_3 _ _ _) (meetsH_dict_get_default (tupleKind (mixKind X.prog X.w)) a b hd r) ⟨tupleKind_room_in1 hu,k,xs,zagy I.hok eb,dd,h _ _ (I.tok _) ?_⟩
  rw [l]
  exact (rel.val k).getD rd
end
def tDGet2 (td ty tx:TE):TE:=fun σ H Q=>td σ H fun x H1=>∃ a,x=.ref a∧IsD H1 a∧ty σ H1 fun y H2=>tx σ H2 fun z H3=>∃ o,DGet H3 a y o∧Q (o.getD z) H3
def tDPop1 (td ty:TE):TE:=fun σ H Q=>td σ H fun x H1=>∃ a,x=.ref a∧IsD H1 a∧ty σ H1 fun y H2=>∃ kvs k v,H2 a=some (.dK kvs)∧y=kV k∧valV kvs k=some v∧Q v (upd H2 a (.dK (dropK kvs k)))
section
variable {X:Cx}{o e f:Expr}{apos cpos:Pos}{td ty tx:TE}
theorem zaox (hu:X.A.units + 1 < cLine) (ho:PE X o td) (he:PE X e ty) (hf:PE X f tx) (m:M2 X o "get" apos e f cpos):PE X (.Call (.Attribute o "get" apos) [e,f] [] cpos) (tDGet2 td ty tx):=by
 intro pins s σ H Q I h
 refine wpAny_Call_method m.base m.few m.line PySem.F.plainAttrs_dict PySem.F.slot_dict_get PySem.F.type_dict_get (thn (ho pins s σ H _ I h) fun u s1 ⟨x,H1,I1,rx,a,ex,d,q1⟩=>?_)
 subst ex
 obtain rfl:u=Value.ref a:=rx
 obtain ⟨t1,t2,_⟩:=zap8 I1 d
 refine ⟨t1,t2,?_⟩
 rw [m.trees]
 refine Calls.callWith_builtin rfl (Calls.evalArgs_plain (Calls.spliced_cons (thn (he pins s1 σ H1 _ I1 q1) fun iv s2 ⟨y,H2,I2,ry,q2⟩ =>
  Calls.spliced_cons (thn (hf pins s2 σ H2 _ I2 q2) fun fv s3 ⟨z,H3,I3,rz,ov,g,q3⟩=>Calls.spliced_nil ?_))))
 exact zatu hu I3 g ry rz fun w' s4 I4 rw'=>⟨_,H3,I4,rw',q3⟩
theorem zaoy (ho:PE X o td) (he:PE X e ty) (m:M1 X o "pop" apos e cpos):PE X (.Call (.Attribute o "pop" apos) [e] [] cpos) (tDPop1 td ty):=by
 intro pins s σ H Q I h
 refine wpAny_Call_method m.base m.few m.line PySem.F.plainAttrs_dict PySem.F.slot_dict_pop PySem.F.type_dict_pop (thn (ho pins s σ H _ I h) fun u s1 ⟨x,H1,I1,rx,a,ex,d,q1⟩=>?_)
 subst ex
 obtain rfl:u=Value.ref a:=rx
 obtain ⟨t1,t2,_⟩:=zap8 I1 d
 refine ⟨t1,t2,?_⟩
 rw [m.trees]
 refine Calls.callWith_builtin rfl (Calls.evalArgs_plain (Calls.spliced_cons (thn (he pins s1 σ H1 _ I1 q1) fun iv s2 ⟨y,H2,I2,ry,kvs,k,v,ea,ey,l,q2⟩=>Calls.spliced_nil ?_)))
 subst ey
 exact zau9 I2 ea ry l (.inl rfl) fun w' s3 I3 rw'=>⟨v,_,I3,rw',q2⟩
end
section
variable {κ:Type} [DecidableEq κ]
theorem zamg {p:κ × V}{r:List (κ × V)}{k:κ} (e:p.1=k):dropK (p :: r) k=dropK r k:=by
 unfold dropK
 rw [List.filter_cons,if_neg (by simp [e])]
theorem zaig {p:κ × V}{r:List (κ × V)}{k:κ} (e:¬ p.1=k):dropK (p :: r) k=p :: dropK r k:=by
 unfold dropK
 rw [List.filter_cons,if_pos (by simp [e])]
theorem zakk:∀ {kvs:List (κ × V)}{k:κ},¬ k∈kvs.map (·.1)→dropK kvs k=kvs
 | [],_,_=>rfl
 | p :: r,k,h=>by
  have h':¬ k∈r.map (·.1):=fun m=>by
   obtain ⟨q,hq,e⟩:=List.mem_map.mp m
   exact h (List.mem_map.mpr ⟨q,List.mem_cons.mpr (Or.inr hq),e⟩)
  rw [zaig fun e=>h (List.mem_map.mpr ⟨p,List.mem_cons.mpr (Or.inl rfl),e⟩),zakk h']
end
end L2

namespace L2
open PySem PySem.Spec PyProof.Rows
structure DefOk (P:Program) (w:World) (K:PySem.W.Frag) (mg:Str→Option Value) (base:Heap) (CX:CXT) (k:Nat) (x:Str) (ps:List Str) (sp:Sp):Prop where
 ex:∃ (f:Addr) (fd:FuncData),FnOk P w K mg base CX k f fd ps sp∧Binds K fd ps []∧PySem.W.keepIn K (.ref f)=true∧mg x=some (.ref f)
theorem DefOk.mono {P:Program}{w:World}{K:PySem.W.Frag}{mg:Str→Option Value}{base:Heap}{CX:CXT}{j k:Nat}{x:Str}{ps:List Str}{sp:Sp} (D:DefOk P w K mg base CX j x ps sp) (h:j≤k):DefOk P w K mg base CX k x ps sp:=by
 obtain ⟨f,fd,F,b⟩:=D.ex
 exact ⟨f,fd,F.mono h,b⟩
section
variable {X:Cx}{CX:CXT}{k:Nat}{ps:List Str}{sp:Sp}{E:XK}{x:Str}{p pos:Pos}{e:Expr}{es:List Expr}{t:TA}
theorem zaoz (D:DefOk X.prog X.w X.K X.mg X.base CX k x ps sp) (hr:Room k X.A) (hg:Gl X x) (hx:Passes CX X E) (ha:PA X (e :: es) t) (hdb:(x == ("__debug__" : Str))=false:=by decide)
  (he:starEach (e :: es) X.env=(false,eval e X.env) :: starEach es X.env:=by rfl) (hpl:(backTo pos (starEach es X.env)).any (·.1)=false:=by rfl) :
  PE X (.Call (.Name x p) (e :: es) [] pos) (tCall sp [] E t):=by
 obtain ⟨f,fd,F,b,kp,m⟩:=D.ex
 exact zare F hr hg m kp b .nil hx ha hdb he hpl
end
def CDivW (_ j:Int):Prop:=0 < j∧j < 2 ^ 64
theorem zaba {X:Cx}:OpR X (binaryOp .FloorDiv) (rI CDivW fun i j=>.int (i / j)):=opI fun i j _ _ _ _ _ hc q=>by
 have h1:(0:Int) < j:=hc.1
 have h2:j < 2 ^ 64:=hc.2
 have h3:j.natAbs.log2 < 64:=(Nat.log2_lt (by omega)).mpr (by omega)
 exact floordiv_int (by omega) (by rw [Int.fdiv_eq_ediv_of_nonneg i (by omega)]; exact q) (.inl (PyProof.noPylong_of_log2 (by omega)))
def Ch (W:List Addr) (H H':Hp):Prop:=∀ b o,H b=some o→b ∉ W→H' b=some o
theorem Ch.refl (W:List Addr) (H:Hp):Ch W H H:=fun _ _ h _=>h
theorem Ch.trans {W:List Addr}{H H1 H2:Hp} (a:Ch W H H1) (b:Ch W H1 H2):Ch W H H2:=fun c o h n=>b c o (a c o h n) n
theorem Ch.get {W:List Addr}{H H':Hp}{b:Addr}{o:HO} (c:Ch W H H') (h:H b=some o) (n:b ∉ W):H' b=some o:=c b o h n
theorem Ch.mono {W W':List Addr}{H H':Hp} (c:Ch W H H') (h:∀ b∈W,b∈W'):Ch W' H H':=fun b o q n=>c b o q fun z=>n (h b z)
theorem Ch.wk {W:List Addr}{H H':Hp} (c:Ch [] H H'):Ch W H H':=c.mono fun b h=>nomatch h
theorem Ch.new {W:List Addr}{H:Hp}{p:Addr} (h:H p=none) (o:HO):Ch W H (upd H p o):=fun b u q _=>by rw [zaa0 (zaao q h)]; exact q
theorem Ch.put {H:Hp}{p:Addr}{o:HO}:Ch [p] H (upd H p o):=fun b u q n=>by rw [zaa0 (fun z=>n (by simp [z]))]; exact q
def Scr (K:PySem.W.Frag) (H:Hp) (a:Addr) (ns:List Int):Prop :=
 ns.length≤63∧((∃ o,H a=some (.frz o (.lst (ns.map V.int)))) ∨
  ∃ (o:Obj) (its:Array Value) (n:Nat),K.lookup a=some o∧o.cls=.type "list" ∧ o.dict=none∧o.data=.seq its n∧its.size≤sizeLine∧Vals (ns.map V.int) its.toList)
theorem Scr.sq {K:PySem.W.Frag}{H:Hp}{a:Addr}{ns:List Int} (S:Scr K H a ns):SqL K H a (ns.map V.int):=by
 rcases S.2 with ⟨o,h⟩ | h
 ·exact .inl (.inr ⟨o,h⟩)
 ·exact .inr h
theorem Scr.ch {K:PySem.W.Frag}{H H':Hp}{a b:Addr}{ns:List Int}{xs:List V} (S:Scr K H a ns) (hb:H b=some (.lst xs)) (c:Ch [b] H H'):Scr K H' a ns:=by
 refine ⟨S.1,?_⟩
 rcases S.2 with ⟨o,h⟩ | h
 ·exact .inl ⟨o,c.get h (by
   intro z
   have e:a=b:=by simpa using z
   subst e
   rw [h] at hb
   cases hb)⟩
 ·exact .inr h
theorem Scr.same {K:PySem.W.Frag}{H H':Hp}{a:Addr}{ns:List Int} (S:Scr K H a ns) (c:Ch [] H H'):Scr K H' a ns:=by
 refine ⟨S.1,?_⟩
 rcases S.2 with ⟨o,h⟩ | h
 ·exact .inl ⟨o,c.get h (by simp)⟩
 ·exact .inr h
theorem Scr.of {K:PySem.W.Frag}{H:Hp}{a:Addr}{ns:List Int} (h:SqL K H a (ns.map V.int)) (hl:ns.length≤63) (hO:Only H):Scr K H a ns:=by
 refine ⟨hl,?_⟩
 rcases h with (h | ⟨o,h⟩) | h
 ·rcases hO a with z | ⟨o,xs,z⟩
  ·rw [h] at z; cases z
  ·rw [h] at z; cases z
 ·exact .inl ⟨o,h⟩
 ·exact .inr h
theorem zab5 {H:Hp}{p q:Addr}{o u:HO} (hq:H q=none) (h:H p=some o):upd H q u p=some o:=by rw [zaa0 (zaao h hq)]; exact h
theorem zabs {H:Hp}{p q:Addr}{o u:HO} (n:p≠q) (h:H p=some o):upd H q u p=some o:=by rw [zaa0 n]; exact h
structure Loop (J:It) (g:TG) (tb:TS) (D:Ends) (σ:St) (H:Hp):Prop where
 ex:∃ W:Nat→Nat→St→Hp→Prop,(∃ m,W 0 m σ H)∧∀ i m σ H,W i m σ H →
  (J.stop i H∧D.nx σ H)∨(J.go i H∧∃ N:St→Hp→Prop,(∀ σ' H',N σ' H'→∃ m',m' < m∧W (i + 1) m' σ' H')∧∀ x H',J.yld i H x H'→g x σ H' fun σ2 H2=>tb { D with nx:=N,ct:=N,bk:=D.nx } σ2 H2)
def tLoop (wi:TI) (g:TG) (tb:TS):TS:=fun D σ H=>wi σ H fun J H1=>Loop J g tb D σ H1
theorem zars {X:Cx}{tg iter:Expr}{body:List Stmt}{wi:TI}{g:TG}{tb:TS}{pos:Pos} (hp:PassesOwn (model X.prog X.w) X.A X.env X.xe) (hc:X.calm=true) (hi:PI X tg iter wi) (hg:PG X tg g) (hb:PSs X body tb)
  (hs:∀ x,foldedSetIterable iter X.env x=pure x:=by intro _; rfl):PS X (.For tg iter body [] pos) (tLoop wi g tb):=by
 have hi':PI X tg iter (fun σ H R=>∃ R0:It→Hp→Prop,wi σ H R0∧∀ J H1,R0 J H1→R J H1):=by
  intro pins s σ H R I ⟨R0,h,m⟩
  refine thn (hi pins s σ H _ I h) fun v s1 h1=>thn h1 fun itv s2 h2=>?_
  obtain ⟨it,fp,tn,J,H2,e,I2,T,st2,f2,r⟩:=h2
  exact ⟨it,fp,tn,J,H2,e,I2,T,st2,f2,m _ _ r⟩
 intro pins s σ H D I h
 exact zath hp hc hi' hg hb hs pins s σ H D I ⟨_,h,fun J H1 l=>l.ex⟩
theorem zac1 {K:PySem.W.Frag}{a:Addr}{xs:List V}{g:TG}{tb:TS}{D:Ends}{σ:St}{H:Hp} (Pv:Nat→St→Hp→Prop) (h0:Pv 0 σ H) (hl:∀ i σ H,i≤xs.length→Pv i σ H→SqL K H a xs)
  (hs:∀ i x σ H,xs[i]?=some x→Pv i σ H→g x σ H fun σ2 H2=>tb { D with nx:=Pv (i + 1),ct:=Pv (i + 1),bk:=D.nx } σ2 H2) (hd:∀ σ H,Pv xs.length σ H→D.nx σ H):Loop (Itl K a) g tb D σ H:=⟨zaoi Pv h0 hl hs hd⟩
theorem zao0 {K:PySem.W.Frag}{a:Addr}{xs:List V}{g:TG}{tb:TS}{D:Ends}{σ:St}{H:Hp} (Pv:Nat→St→Hp→Prop) (h0:Pv 0 σ H) (hl:∀ i σ H,i≤xs.length→Pv i σ H→SqT K H a xs)
  (hs:∀ i x σ H,xs[i]?=some x→Pv i σ H→g x σ H fun σ2 H2=>tb { D with nx:=Pv (i + 1),ct:=Pv (i + 1),bk:=D.nx } σ2 H2) (hd:∀ σ H,Pv xs.length σ H→D.nx σ H):Loop (Itt K a) g tb D σ H:=⟨zaq6 Pv h0 hl hs hd⟩
theorem zabw {lo:Int}{n:Nat}{g:TG}{tb:TS}{D:Ends}{σ:St}{H:Hp} (Pv:Nat→St→Hp→Prop) (h0:Pv 0 σ H)
  (hs:∀ i σ H,i < n→Pv i σ H→g (.int (lo + i)) σ H fun σ2 H2=>tb { D with nx:=Pv (i + 1),ct:=Pv (i + 1),bk:=D.nx } σ2 H2) (hd:∀ σ H,Pv n σ H→D.nx σ H):Loop (Itr lo n) g tb D σ H:=⟨zalq Pv h0 hs hd⟩
structure Cut (t u:TS) (D:Ends) (σ:St) (H:Hp):Prop where
 ex:∃ P:St→Hp→Prop,t { D with nx:=P } σ H∧∀ σ' H',P σ' H'→u D σ' H'
def tCut (t u:TS):TS:=fun D σ H=>Cut t u D σ H
theorem zart {X:Cx}{st:Stmt}{rest:List Stmt}{t u:TS} (h1:PS X st t) (h2:PSs X rest u):PSs X (st :: rest) (tCut t u):=by
 intro pins s σ H D I h
 obtain ⟨P,a,b⟩:=h.ex
 have h1':PS X st (fun D' σ' H'=>∃ P:St→Hp→Prop,t { D' with nx:=P } σ' H'∧∀ σ2 H2,P σ2 H2→D'.nx σ2 H2):=by
  intro pins s σ H D I ⟨P,a,b⟩
  refine thn (h1 pins s σ H _ I a) fun f s' q=>?_
  cases f with
  | next=>obtain ⟨σ7,H7,I7,n7⟩:=q; exact ⟨σ7,H7,I7,b _ _ n7⟩
  | cont=>exact q
  | brk=>exact q
  | ret v=>exact q
 exact zake h1' h2 pins s σ H D I ⟨P,a,b⟩
theorem zaa9 {t u:TS}{D:Ends}{σ:St}{H:Hp} (P:St→Hp→Prop) (h1:t { D with nx:=P } σ H) (h2:∀ σ' H',P σ' H'→u D σ' H'):Cut t u D σ H:=⟨P,h1,h2⟩
theorem zakl {ns:List Int}{i:Int} (h0:0≤i) (h1:i < (ns.length:Int)):∃ n:Int,atI (ns.map V.int) i=some (.int n):=by
 have hk:i.toNat < ns.length:=by omega
 have ek:i=((i.toNat:Nat):Int):=by omega
 have q:atI (ns.map V.int) ((i.toNat:Nat):Int)=some (.int ns[i.toNat]):=zacb (by rw [List.getElem?_map,List.getElem?_eq_getElem hk]; rfl)
 rw [← ek] at q
 exact ⟨_,q⟩
end L2

namespace L2
open PySem PySem.Spec PyProof.Rows
structure Atx {α:Type} (xs:List α) (i:Int) (R:α→Prop):Prop where
 ex:∃ v,atI xs i=some v∧R v
theorem Atx.of {α:Type}{xs:List α}{i:Int}{v:α}{R:α→Prop} (h:atI xs i=some v) (r:R v):Atx xs i R:=⟨v,h,r⟩
section
variable {X:Cx}
theorem IxR.imp {r r':R2} (h:IxR X r) (f:∀ x y H Q,r' x y H Q→r x y H Q):IxR X r':=fun value slice pins s σ H x y v u Q I rx ry q hs=>h value slice pins s σ H x y v u Q I rx ry (f _ _ _ _ q) hs
def aIxL (K:PySem.W.Frag):R2:=fun x y H Q=>∃ p xs i,x=.ref p∧y=.int i∧SqL K H p xs∧Atx xs i fun v=>Q v H
def aIxT (K:PySem.W.Frag):R2:=fun x y H Q=>∃ p xs i,x=.ref p∧y=.int i∧SqT K H p xs∧Atx xs i fun v=>Q v H
theorem zabi:IxR X (aIxL X.K):=zarj.imp fun x y H Q ⟨p,xs,i,e1,e2,h,a⟩=>let ⟨v,hv,q⟩:=a.ex; ⟨p,xs,i,v,e1,e2,h,hv,q⟩
theorem zabo:IxR X (aIxT X.K):=zato.imp fun x y H Q ⟨p,xs,i,e1,e2,h,a⟩=>let ⟨v,hv,q⟩:=a.ex; ⟨p,xs,i,v,e1,e2,h,hv,q⟩
end
end L2
namespace L2
open PySem
section
variable {es:List Expr}{env:Env}
theorem zaae {x pos}:starEach (.Name x pos :: es) env=(false,eval (.Name x pos) env) :: starEach es env:=rfl
theorem zaaj {c k pos}:starEach (.Constant c k pos :: es) env=(false,eval (.Constant c k pos) env) :: starEach es env:=rfl
theorem zaaz {a o b pos}:starEach (.BinOp a o b pos :: es) env=(false,eval (.BinOp a o b pos) env) :: starEach es env:=rfl
theorem zala {a o pos}:starEach (.UnaryOp o a pos :: es) env=(false,eval (.UnaryOp o a pos) env) :: starEach es env:=rfl
theorem zac2 {a o b pos}:starEach (.Call a o b pos :: es) env=(false,eval (.Call a o b pos) env) :: starEach es env:=rfl
theorem zacl {a k pos}:starEach (.Tuple a k pos :: es) env=(false,eval (.Tuple a k pos) env) :: starEach es env:=rfl
theorem zahc {a pos}:starEach (.List a pos :: es) env=(false,eval (.List a pos) env) :: starEach es env:=rfl
theorem zaaw {a b pos}:starEach (.Subscript a b pos :: es) env=(false,eval (.Subscript a b pos) env) :: starEach es env:=rfl
theorem zalb {a b c pos}:starEach (.Compare a b c pos :: es) env=(false,eval (.Compare a b c pos) env) :: starEach es env:=rfl
theorem zahd {a b c pos}:starEach (.IfExp a b c pos :: es) env=(false,eval (.IfExp a b c pos) env) :: starEach es env:=rfl
theorem zae9 {a b pos}:starEach (.Attribute a b pos :: es) env=(false,eval (.Attribute a b pos) env) :: starEach es env:=rfl
theorem zabe {a b c pos}:starEach (.ListComp a b c pos :: es) env=(false,eval (.ListComp a b c pos) env) :: starEach es env:=rfl
end
end L2
namespace L2
open PySem
theorem Ch.own {W:List Addr}{H H':Hp}{p:Addr}{o:HO} (n:H p=none) (c:Ch W H H'):Ch W H (upd H' p o):=fun b u h k=>by
 rw [zaa0 (zaao h n)]
 exact c b u h k
theorem cut1 (x:V) (ys:List V):cutV (x :: ys) (some 1) none=ys:=by
 unfold cutV
 have e:HT.sIx (x :: ys).length 0 (some 1)=1:=by
  have z:=HT.sIx_nat (x :: ys).length 0 1
  rw [List.length_cons] at z ⊢
  refine z.trans ?_
  omega
 rw [e,HT.sIx_none,List.drop_succ_cons,List.drop_zero,List.take_of_length_le]
 simp
theorem zao1 (x:V) (ys:List V):¬ (HT.sIx (x :: ys).length 0 (some 1)=0∧HT.sIx (x :: ys).length (x :: ys).length none=(x :: ys).length):=by
 intro h
 have e:HT.sIx (x :: ys).length 0 (some 1)=1:=by
  have z:=HT.sIx_nat (x :: ys).length 0 1
  rw [List.length_cons] at z ⊢
  refine z.trans ?_
  omega
 rw [e] at h
 exact absurd h.1 (by decide)
end L2
namespace L2
open PySem
theorem Atx.head {α:Type}{x:α}{xs:List α}{R:α→Prop} (r:R x):Atx (x :: xs) 0 R:=⟨x,zacb (j:=0) rfl,r⟩
end L2

namespace L2
open PySem PySem.Spec PyProof.Rows
inductive SK where
 | list | tuple
def SIt (k:SK) (h:Heap) (it l:Addr) (i:Nat):Prop:=match k with
 | .list=>h.IsListIter it l i
 | .tuple=>h.IsTupleIter it l i
def SIs (k:SK) (h:Heap) (l:Addr) (items:Array Value):Prop:=match k with
 | .list=>h.IsList l items
 | .tuple=>h.IsTuple l items
def Sq (k:SK) (K:PySem.W.Frag) (H:Hp) (a:Addr) (xs:List V):Prop:=match k with
 | .list=>SqL K H a xs
 | .tuple=>SqT K H a xs
theorem SIt.at {k:SK}{h h':Heap}{a l i} (x:SIt k h a l i) (e:∀ o,h.get? a=some o→h'.get? a=some o):SIt k h' a l i:=by
 cases k with
 | list=>exact Heap.IsListIter.at x e
 | tuple=>exact Heap.IsTupleIter.at x e
theorem SIt.obj {k:SK}{h:Heap}{a l i} (x:SIt k h a l i):∃ o,h.get? a=some o∧∀ v,o.data≠.cell v:=by
 cases k with
 | list=>obtain ⟨o,e,c,d⟩:=(show h.IsListIter a l i from x); exact ⟨o,e,fun v z=>by rw [d] at z; cases z⟩
 | tuple=>obtain ⟨o,e,c,d⟩:=(show h.IsTupleIter a l i from x); exact ⟨o,e,fun v z=>by rw [d] at z; cases z⟩
theorem SIs.at {k:SK}{h h':Heap}{a items} (x:SIs k h a items) (e:∀ o,h.get? a=some o→h'.get? a=some o):SIs k h' a items:=by
 cases k with
 | list=>exact Heap.IsList.at x e
 | tuple=>obtain ⟨o,ho,r⟩:=(show h.IsTuple a items from x); exact ⟨o,e _ ho,r⟩
theorem SIs.lt {k:SK}{h:Heap}{a items} (x:SIs k h a items):a < h.objs.size:=by
 cases k with
 | list=>obtain ⟨_,e,_⟩:=(show h.IsList a items from x); exact Heap.lt_size e
 | tuple=>obtain ⟨_,e,_⟩:=(show h.IsTuple a items from x); exact Heap.lt_size e
section
variable {prog:Program}{w:World}{A:Around}{E:Value→Shared→Prop}{s:Shared}
theorem zaep {it l:Addr}{i:Nat}{items}{x:Value}{Q:Value→Shared→Prop} (hit:s.heap.IsTupleIter it l i)
  (hl:s.heap.IsTuple l items) (hx:items[i]?=some x)
  (hQ:∀ h',h'.IsTupleIter it l (i + 1)→Heap.SameBut it s.heap h'→Q x { s with heap:=h' }) :
  wpAny (model prog w) A (Builtin.SmallTypes.nextOf (.ref it)) Q E s:=by
 obtain ⟨o,ho,hc,hd⟩:=id hit
 obtain ⟨ol,hol,_,nl,hdl⟩:=hl
 unfold Builtin.SmallTypes.nextOf
 refine wpAny_bind (wpAny_callSpecial?_slot (name:=Str.ofString "__next__") hit.typeIs F.slot_tuple_iterator_next
  (wpAny_call_entry F.slot_tuple_iterator_next hit.typeIs F.entry_tuple_iterator_next ?_ (F.args_tuple_iterator_next_1 _)))
 show wpAny _ _ (field (.ref it) 0 >>= _) _ _ s
 refine wpAny_bind (wpAny_field ho hd (x:=.ref l) rfl ?_)
 show wpAny _ _ (if (Value.ref l == Value.none)=true then _ else _) _ _ s
 rw [if_neg (show ¬ ((Value.ref l == Value.none)=true) from Bool.false_ne_true)]
 show wpAny _ _ (field (.ref it) 1 >>= _) _ _ s
 refine wpAny_bind (wpAny_field ho hd (x:=.int i 0) rfl ?_)
 show wpAny _ _ (seqItems? (.ref l) >>= _) _ _ s
 refine wpAny_bind (wpAny_seqItems hol hdl ?_)
 simp only [Int.toNat_natCast,hx]
 refine wpAny_bind (wpAny_setField ho hd (by simp) (wpAny_pure ⟨x,rfl,wpAny_pure (hQ _ ?_ (Heap.SameBut.update ..))⟩))
 exact ⟨_,Heap.get?_update_self _ ho (Obj.isFreed_of_fields (Obj.data_mapFields hd _)),(Obj.cls_mapFields ..).trans hc,by
  rw [Obj.data_mapFields hd]; simp [rawInt]⟩
theorem zafc {it l:Addr}{i:Nat}{items}{Q:Value→Shared→Prop} (hh:A.handled=none)
  (hit:s.heap.IsTupleIter it l i) (hl:s.heap.IsTuple l items) (hx:items[i]?=none)
  (hE:∀ h' e,Heap.ExtBut it s.heap h'→(∃ o,h'.get? e=some o∧o.cls=.type "StopIteration")→E (.ref e) { s with heap:=h' }) :
  wpAny (model prog w) A (Builtin.SmallTypes.nextOf (.ref it)) Q E s:=by
 obtain ⟨o,ho,hc,hd⟩:=id hit
 obtain ⟨ol,hol,_,nl,hdl⟩:=hl
 unfold Builtin.SmallTypes.nextOf
 refine wpAny_bind (wpAny_callSpecial?_slot (name:=Str.ofString "__next__") hit.typeIs F.slot_tuple_iterator_next
  (wpAny_call_entry F.slot_tuple_iterator_next hit.typeIs F.entry_tuple_iterator_next ?_ (F.args_tuple_iterator_next_1 _)))
 show wpAny _ _ (field (.ref it) 0 >>= _) _ _ s
 refine wpAny_bind (wpAny_field ho hd (x:=.ref l) rfl ?_)
 show wpAny _ _ (if (Value.ref l == Value.none)=true then _ else _) _ _ s
 rw [if_neg (show ¬ ((Value.ref l == Value.none)=true) from Bool.false_ne_true)]
 show wpAny _ _ (field (.ref it) 1 >>= _) _ _ s
 refine wpAny_bind (wpAny_field ho hd (x:=.int i 0) rfl ?_)
 show wpAny _ _ (seqItems? (.ref l) >>= _) _ _ s
 refine wpAny_bind (wpAny_seqItems hol hdl ?_)
 simp only [Int.toNat_natCast,hx]
 refine wpAny_bind (wpAny_rule (wpAny_bind (wpAny_setField ho hd (by simp) ?_)))
 show wpAny _ _ (newExc (.type "StopIteration") [] >>= _) _ _ _
 refine wpAny_bind ?_
 simp only [newExc,newTuple]
 refine wpAny_bind (wpAny_newObj_type ?_ (by size_fits))
 refine wpAny_bind (m:=firstArgMember _ _) (wpAny_of_eq (a:=Value.none) (by first | rfl | (simp only [firstArgMember]; rfl)) ?_)
 refine wpAny_newObj_type ?_ (by size_fits)
 simp only [raiseNew]
 refine wpAny_bind (wpAny_handled ?_)
 first | rw [show A.in1.handled=none from hh] | rw [hh]
 refine wpAny_bind (wpAny_pure (wpAny_throw ?_))
 exact hE _ _ (((Heap.SameBut.update ..).extBut.push _).push _) ⟨_,Heap.get?_push_size _ rfl,rfl⟩
theorem zadi {k:SK}{it l:Addr}{i:Nat}{items}{x:Value}{Q:Value→Shared→Prop} (hit:SIt k s.heap it l i) (hl:SIs k s.heap l items) (hx:items[i]?=some x)
  (hQ:∀ h',SIt k h' it l (i + 1)→Heap.SameBut it s.heap h'→Q x { s with heap:=h' }):wpAny (model prog w) A (Builtin.SmallTypes.nextOf (.ref it)) Q E s:=by
 cases k with
 | list=>exact wpAny_nextOf_list_item hit hl hx hQ
 | tuple=>exact zaep hit hl hx hQ
theorem zaeq {k:SK}{it l:Addr}{i:Nat}{items}{Q:Value→Shared→Prop} (hh:A.handled=none) (hit:SIt k s.heap it l i) (hl:SIs k s.heap l items) (hx:items[i]?=none)
  (hE:∀ h' e,Heap.ExtBut it s.heap h'→(∃ o,h'.get? e=some o∧o.cls=.type "StopIteration")→E (.ref e) { s with heap:=h' }) :
  wpAny (model prog w) A (Builtin.SmallTypes.nextOf (.ref it)) Q E s:=by
 cases k with
 | list=>exact wpAny_nextOf_list_end hh hit hl hx hE
 | tuple=>exact zafc hh hit hl hx hE
theorem SIt.ext {k:SK}{h h':Heap}{a b l i} (x:SIt k h a l i) (hs:Heap.ExtBut b h h') (hab:a≠b):SIt k h' a l i:=x.at fun o e=>hs _ _ hab e
theorem SIs.ext {k:SK}{h h':Heap}{a b items} (x:SIs k h a items) (hs:Heap.ExtBut b h h') (hab:a≠b):SIs k h' a items:=x.at fun o e=>hs _ _ hab e
theorem zamh {k1 k2:SK}{z TI TO i1 i2 l1 l2:Addr}{n1 n2:Nat}{xs ys:Array Value}{x y a b:Value}{Q:Value→Shared→Prop} (D:ZipApart z TI TO i1 i2 l1 l2)
  (hz:IsZip s.heap z TI TO .none) (hTI:IsPair s.heap TI (.ref i1) (.ref i2)) (hTO:IsPair s.heap TO a b)
  (h1:SIt k1 s.heap i1 l1 n1) (h2:SIt k2 s.heap i2 l2 n2) (hl1:SIs k1 s.heap l1 xs) (hl2:SIs k2 s.heap l2 ys) (hx:xs[n1]?=some x) (hy:ys[n2]?=some y)
  (hQ:∀ h',IsZip h' z TI TO (rawInt s.heap.objs.size)→IsPair h' TO x y→SIt k1 h' i1 l1 (n1 + 1)→SIt k2 h' i2 l2 (n2 + 1)→IsPair h' s.heap.objs.size x y→h'.objs.size=s.heap.objs.size + 1 →
   (∀ c o,c≠z→c≠TO→c≠i1→c≠i2→s.heap.get? c=some o→h'.get? c=some o)→Q (.ref s.heap.objs.size) { s with heap:=h' }) :
  wpAny (model prog w) A (Builtin.«zip.__next__» ⟨[.ref z],[]⟩) (fun fin s'=>∃ v,fin=.done (.ret v)∧Q v s') E s:=by
 show wpAny _ _ (field (.ref z) 2 >>= _) _ _ _
 refine wpAny_bind (wpAny_field hz rfl (x:=.bool false) rfl ?_)
 show wpAny _ _ (field (.ref z) 3 >>= _) _ _ _
 refine wpAny_bind (wpAny_field hz rfl (x:=.ref TI) rfl ?_)
 refine wpAny_bind (wpAny_seqItems hTI rfl ?_)
 show wpAny _ _ (Builtin.SmallTypes.ownedTupleIsFree (.ref z) >>= _) _ _ _
 refine wpAny_bind ?_
 unfold Builtin.SmallTypes.ownedTupleIsFree
 refine wpAny_bind (wpAny_field hz rfl (x:=.none) rfl (wpAny_pure ?_))
 simp only [if_true]
 refine wpAny_bind (wpAny_rule ?_)
 refine wpAny_bind (wpAny_field hz rfl (x:=.ref TO) rfl ?_)
 refine wpAny_bind (wpAny_setField_rec hz (by simp) fun h₁ hz₁ hs₁=>?_)
 replace hz₁:IsZip h₁ z TI TO .ellipsis:=hz₁
 refine wpAny_bind ?_
 simp only [List.zipIdx_cons,List.zipIdx_nil,List.forIn_cons,List.forIn_nil]
 refine wpAny_bind (wpAny_bind (wpAny_onRaise ?_))
 show wpAny _ _ (Builtin.SmallTypes.nextOf (.ref i1) >>= _) _ _ _
 refine wpAny_bind (zadi (h1.ext hs₁.extBut D.i1z) (hl1.ext hs₁.extBut D.l1z) hx fun h₂ h1₂ hs₂=>wpAny_pure ?_)
 have hTO₂:IsPair h₂ TO a b:=hs₂.extBut _ _ D.TOi1 (hs₁.extBut _ _ D.TOz hTO)
 refine wpAny_bind (wpAny_seqItems hTO₂ rfl ?_)
 refine wpAny_bind (wpAny_updateSeq_pair hTO₂ fun h₃ hTO₃ hs₃=>?_)
 replace hTO₃:IsPair h₃ TO x b:=hTO₃
 refine wpAny_bind (wpAny_letGo (wpAny_pure ?_))
 refine wpAny_bind (wpAny_bind (wpAny_onRaise ?_))
 show wpAny _ _ (Builtin.SmallTypes.nextOf (.ref i2) >>= _) _ _ _
 refine wpAny_bind (zadi (((h2.ext hs₁.extBut D.i2z).ext hs₂.extBut D.i12.symm).ext hs₃.extBut D.TOi2.symm)
  (((hl2.ext hs₁.extBut D.l2z).ext hs₂.extBut D.l2i1).ext hs₃.extBut D.l2TO) hy fun h₄ h2₄ hs₄=>wpAny_pure ?_)
 have hTO₄:IsPair h₄ TO x b:=hs₄.extBut _ _ D.TOi2 hTO₃
 refine wpAny_bind (wpAny_seqItems hTO₄ rfl ?_)
 refine wpAny_bind (wpAny_updateSeq_pair hTO₄ fun h₅ hTO₅ hs₅=>?_)
 replace hTO₅:IsPair h₅ TO x y:=hTO₅
 refine wpAny_bind (wpAny_letGo (wpAny_pure (wpAny_pure ?_)))
 refine wpAny_bind (wpAny_seqItems hTO₅ rfl ?_)
 refine wpAny_bind (wpAny_newTuple ?_)
 have hsz:h₅.objs.size=s.heap.objs.size:=by rw [hs₅.1,hs₄.1,hs₃.1,hs₂.1,hs₁.1]
 have hz₅:IsZip h₅ z TI TO .ellipsis:=hs₅.extBut _ _ D.TOz.symm (hs₄.extBut _ _ D.i2z.symm (hs₃.extBut _ _ D.TOz.symm (hs₂.extBut _ _ D.i1z.symm hz₁)))
 have hk₅:∀ c o,c≠z→c≠TO→c≠i1→c≠i2→s.heap.get? c=some o→h₅.get? c=some o:=fun c o c1 c2 c3 c4 e =>
  hs₅.extBut _ _ c2 (hs₄.extBut _ _ c4 (hs₃.extBut _ _ c2 (hs₂.extBut _ _ c3 (hs₁.extBut _ _ c1 e))))
 have h1₅:SIt k1 h₅ i1 l1 (n1 + 1):=((h1₂.ext hs₃.extBut D.TOi1.symm).ext hs₄.extBut D.i12).ext hs₅.extBut D.TOi1.symm
 have h2₅:SIt k2 h₅ i2 l2 (n2 + 1):=h2₄.ext hs₅.extBut D.TOi2.symm
 have hzlt:z < h₅.objs.size:=Heap.lt_size hz₅
 show wpAny _ _ (Builtin.SmallTypes.ownedTupleHandOut (.ref z) (.ref h₅.objs.size) >>= _) _ _ _
 refine wpAny_bind ?_
 unfold Builtin.SmallTypes.ownedTupleHandOut
 have hz₆:IsZip (h₅.push { cls:=.type "tuple",data:=.seq #[x,y] }) z TI TO .ellipsis:=Heap.get?_push_of_some _ hz₅
 refine wpAny_bind (wpAny_setField_rec hz₆ (by simp) fun h₇ hz₇ hs₇=>?_)
 replace hz₇:IsZip h₇ z TI TO (rawInt h₅.objs.size):=hz₇
 refine wpAny_setField_rec hz₇ (by simp) fun h₈ hz₈ hs₈=>?_
 replace hz₈:IsZip h₈ z TI TO (rawInt h₅.objs.size):=hz₈
 have up:∀ c o,c≠z→h₅.get? c=some o→h₈.get? c=some o:=fun c o c1 e=>hs₈.extBut _ _ c1 (hs₇.extBut _ _ c1 (Heap.get?_push_of_some _ e))
 have hT₈:IsPair h₈ h₅.objs.size x y:=hs₈.extBut _ _ (Nat.ne_of_gt hzlt) (hs₇.extBut _ _ (Nat.ne_of_gt hzlt) (Heap.get?_push_size _ rfl))
 have hz8:h₈.objs.size=h₅.objs.size + 1:=by rw [hs₈.1,hs₇.1,Heap.size_push]
 rw [hsz] at hz₈ hT₈ hz8
 refine wpAny_pure ⟨_,rfl,?_⟩
 show Q (.ref h₅.objs.size) _
 rw [hsz]
 exact hQ h₈ hz₈ (up _ _ D.TOz hTO₅) (h1₅.at fun o e=>up _ o D.i1z e) (h2₅.at fun o e=>up _ o D.i2z e) hT₈ hz8 fun c o c1 c2 c3 c4 e=>up c o c1 (hk₅ c o c1 c2 c3 c4 e)
theorem zao2 {k1 k2:SK}{z TI TO i1 i2 l1 l2:Addr}{n1 n2:Nat}{xs ys:Array Value}{a b:Value}{Q:Fin→Shared→Prop} (hh:A.handled=none) (D:ZipApart z TI TO i1 i2 l1 l2)
  (hz:IsZip s.heap z TI TO .none) (hTI:IsPair s.heap TI (.ref i1) (.ref i2)) (hTO:IsPair s.heap TO a b)
  (h1:SIt k1 s.heap i1 l1 n1) (h2:SIt k2 s.heap i2 l2 n2) (hl1:SIs k1 s.heap l1 xs) (hl2:SIs k2 s.heap l2 ys) (hend:xs[n1]?=none∨ys[n2]?=none)
  (hE:∀ h' e,(∀ c o,c≠z→c≠TO→c≠i1→c≠i2→s.heap.get? c=some o→h'.get? c=some o)→(∃ o,h'.get? e=some o∧o.cls=.type "StopIteration")→E (.ref e) { s with heap:=h' }) :
  wpAny (model prog w) A (Builtin.«zip.__next__» ⟨[.ref z],[]⟩) Q E s:=by
 show wpAny _ _ (field (.ref z) 2 >>= _) _ _ _
 refine wpAny_bind (wpAny_field hz rfl (x:=.bool false) rfl ?_)
 show wpAny _ _ (field (.ref z) 3 >>= _) _ _ _
 refine wpAny_bind (wpAny_field hz rfl (x:=.ref TI) rfl ?_)
 refine wpAny_bind (wpAny_seqItems hTI rfl ?_)
 show wpAny _ _ (Builtin.SmallTypes.ownedTupleIsFree (.ref z) >>= _) _ _ _
 refine wpAny_bind ?_
 unfold Builtin.SmallTypes.ownedTupleIsFree
 refine wpAny_bind (wpAny_field hz rfl (x:=.none) rfl (wpAny_pure ?_))
 simp only [if_true]
 refine wpAny_bind (wpAny_rule ?_)
 refine wpAny_bind (wpAny_field hz rfl (x:=.ref TO) rfl ?_)
 refine wpAny_bind (wpAny_setField_rec hz (by simp) fun h₁ hz₁ hs₁=>?_)
 replace hz₁:IsZip h₁ z TI TO .ellipsis:=hz₁
 refine wpAny_bind ?_
 simp only [List.zipIdx_cons,List.zipIdx_nil,List.forIn_cons,List.forIn_nil]
 refine wpAny_bind (wpAny_bind (wpAny_onRaise ?_))
 show wpAny _ _ (Builtin.SmallTypes.nextOf (.ref i1) >>= _) _ _ _
 cases hx:xs[n1]? with
 | none =>
  refine wpAny_bind (zaeq hh (h1.ext hs₁.extBut D.i1z) (hl1.ext hs₁.extBut D.l1z) hx fun h₂ e hs₂ he=>?_)
  obtain ⟨oe,hoe,hce⟩:=he
  have hz₂:IsZip h₂ z TI TO .ellipsis:=hs₂ _ _ D.i1z.symm hz₁
  have hez:e≠z:=fun x=>by subst x; rw [hz₂] at hoe; cases hoe; simp at hce
  refine wpAny_setField_rec hz₂ (by simp) fun h₃ _ hs₃=>hE h₃ e (fun c o c1 _ c3 _ x=>hs₃.extBut _ _ c1 (hs₂ _ _ c3 (hs₁.extBut _ _ c1 x))) ⟨oe,hs₃.extBut _ _ hez hoe,hce⟩
 | some x =>
  have hy:ys[n2]?=none:=by rcases hend with h | h; rw [hx] at h; cases h; exact h
  refine wpAny_bind (zadi (h1.ext hs₁.extBut D.i1z) (hl1.ext hs₁.extBut D.l1z) hx fun h₂ h1₂ hs₂=>wpAny_pure ?_)
  have hTO₂:IsPair h₂ TO a b:=hs₂.extBut _ _ D.TOi1 (hs₁.extBut _ _ D.TOz hTO)
  refine wpAny_bind (wpAny_seqItems hTO₂ rfl ?_)
  refine wpAny_bind (wpAny_updateSeq_pair hTO₂ fun h₃ hTO₃ hs₃=>?_)
  refine wpAny_bind (wpAny_letGo (wpAny_pure ?_))
  refine wpAny_bind (wpAny_bind (wpAny_onRaise ?_))
  show wpAny _ _ (Builtin.SmallTypes.nextOf (.ref i2) >>= _) _ _ _
  refine wpAny_bind (zaeq hh (((h2.ext hs₁.extBut D.i2z).ext hs₂.extBut D.i12.symm).ext hs₃.extBut D.TOi2.symm)
   (((hl2.ext hs₁.extBut D.l2z).ext hs₂.extBut D.l2i1).ext hs₃.extBut D.l2TO) hy fun h₄ e hs₄ he=>?_)
  obtain ⟨oe,hoe,hce⟩:=he
  have hz₄:IsZip h₄ z TI TO .ellipsis:=hs₄ _ _ D.i2z.symm (hs₃.extBut _ _ D.TOz.symm (hs₂.extBut _ _ D.i1z.symm hz₁))
  have hez:e≠z:=fun x=>by subst x; rw [hz₄] at hoe; cases hoe; simp at hce
  refine wpAny_setField_rec hz₄ (by simp) fun h₅ _ hs₅=>hE h₅ e (fun c o c1 c2 c3 c4 x=>hs₅.extBut _ _ c1 (hs₄ _ _ c4 (hs₃.extBut _ _ c2 (hs₂.extBut _ _ c3 (hs₁.extBut _ _ c1 x))))) ⟨oe,hs₅.extBut _ _ hez hoe,hce⟩
end
section
variable {X:Cx}{pins:List (Addr × Obj)}{σ:List (Option V)}{H H':Hp}{s:Shared}{h':Heap}
theorem Inv.turnedL {t':Nat}{its:List Addr} (I:Inv X pins σ H s) (k:∀ b o,b ∉ its→s.heap.get? b=some o→h'.get? b=some o) (hf:∀ b∈its,FpOk X pins H b):Inv X pins σ H { s with heap:=h',toks:=t' }:=by
 have nit:∀ b u,H b=some u→b ∉ its:=fun b u e z=>by rw [(hf b z).1] at e; cases e
 refine I.step (g':=s.gens) (d':=s.drawn) (ch:=its) (fun b hb=>?_) (fun b o _ _ hc e _=>k b o hc e) (fun b o _ _ hc e _=>⟨o.slots,k b o hc e⟩) (fun _ _ _ _ n=>n)
  (fun b o hc e=>⟨o,k b o hc e⟩) (fun _ _ e=>e) (fun _ _ _ e=>e) (fun b ps e=>⟨#[],by rw [e]; simp⟩) (fun m hm=>?_) (fun b u e=>?_) I.bare
 ·obtain ⟨f0,f1,f2,f3,f4,f5⟩:=hf b hb
  exact ⟨f3,f1,f4,f5⟩
 ·obtain ⟨o,es,ep,ho,r⟩:=hm
  exact ⟨o,es,ep,k _ o (fun z=>(hf _ z).2.1 rfl) ho,r⟩
 ·refine (I.hok b u e).stay (fun c v hc q=>k c v ?_ q) (fun _ q=>q) fun _ _ q=>q
  rcases hc with z | z
  ·rw [z]; exact nit b u e
  ·exact nit c _ z
theorem Inv.turnedNew {t':Nat}{its:List Addr}{T:Addr}{o:HO} (I:Inv X pins σ H s) (k:∀ b ob,b ∉ its→s.heap.get? b=some ob→h'.get? b=some ob) (hf:∀ b∈its,FpOk X pins H b)
  (hT:s.heap.objs.size≤T) (new:ObjOk X.prog X.w (upd H T o) h' T o):Inv X pins σ (upd H T o) { s with heap:=h',toks:=t' }:=by
 have nit:∀ b u,H b=some u→b ∉ its:=fun b u e z=>by rw [(hf b z).1] at e; cases e
 have hn:H T=none:=I.hok.fresh hT
 have neT:∀ b ob,s.heap.get? b=some ob→b≠T:=fun b ob e=>Nat.ne_of_lt (Nat.lt_of_lt_of_le (Heap.lt_size e) hT)
 have up:∀ b u,H b=some u→upd H T o b=some u:=fun b u e=>by rw [zaa0 (zaao e hn)]; exact e
 refine I.step (g':=s.gens) (d':=s.drawn) (ch:=its) (fun b hb=>?_) (fun b ob _ _ hc e _=>k b ob hc e) (fun b ob _ _ hc e _=>⟨ob.slots,k b ob hc e⟩) (fun b ob _ e n=>by rw [zaa0 (neT b ob e)]; exact n)
  (fun b ob hc e=>⟨ob,k b ob hc e⟩) (fun b _ e=>up b _ e) (fun b _ _ e=>up b _ e) (fun b ps e=>⟨#[],by rw [up b _ e]; simp⟩) (fun m hm=>?_) (fun b u e=>?_) I.bare
 ·obtain ⟨f0,f1,f2,f3,f4,f5⟩:=hf b hb
  exact ⟨f3,f1,f4,f5⟩
 ·obtain ⟨ob,es,ep,ho,r⟩:=hm
  exact ⟨ob,es,ep,k _ ob (fun z=>(hf _ z).2.1 rfl) ho,r⟩
 ·by_cases hb:b=T
  ·subst hb; rw [zaac] at e; cases e; exact new
  ·rw [zaa0 hb] at e
   refine (I.hok b u e).stay (fun c v hc q=>k c v ?_ q) (fun c q=>up c _ q) fun c xs q=>up c _ q
   rcases hc with z | z
   ·rw [z]; exact nit b u e
   ·exact nit c _ z
end
theorem Inv.sis {X:Cx}{pins:List (Addr × Obj)}{σ:St}{H:Hp}{s:Shared}{k:SK}{a:Addr}{xs:List V} (I:Inv X pins σ H s) (h:Sq k X.K H a xs):∃ its:List Value,Vals xs its∧SIs k s.heap a its.toArray:=by
 cases k with
 | list=>obtain ⟨its,r,p,_⟩:=I.list h; exact ⟨its,r,p.isList⟩
 | tuple=>obtain ⟨its,r,p,_⟩:=I.tuple h; exact ⟨its,r,(show s.heap.IsTuple a its.toArray from p)⟩
theorem Inv.sq_inj {X:Cx}{pins:List (Addr × Obj)}{σ:St}{H:Hp}{s:Shared}{k:SK}{a:Addr}{xs ys:List V} (I:Inv X pins σ H s) (h:Sq k X.K H a xs) (h':Sq k X.K H a ys):xs=ys:=by
 cases k with
 | list=>exact I.list_inj h h'
 | tuple=>exact I.tuple_inj h h'
def Itz (K:PySem.W.Frag) (k1 k2:SK) (a b:Addr):It :=
 ⟨fun i H=>∃ xs ys x y,Sq k1 K H a xs∧Sq k2 K H b ys∧xs[i]?=some x∧ys[i]?=some y,
  fun i H v H'=>∃ T,H T=none∧v=.ref T∧∀ xs ys,Sq k1 K H a xs→Sq k2 K H b ys→∃ x y,xs[i]?=some x∧ys[i]?=some y∧H'=upd H T (.tup [x,y]),
  fun i H=>∃ xs ys,Sq k1 K H a xs∧Sq k2 K H b ys∧(xs.length≤i∨ys.length≤i)⟩
theorem zao3 {P:Program}{w:World}{K:PySem.W.Frag}{elts:List Expr}{kk:Nat}{tpos:Pos}{k1 k2:SK}{z TI TO i1 i2 a b:Addr} (D:ZipApart z TI TO i1 i2 a b) :
  Turn P w K (.Tuple elts kk tpos) (Itz K k1 k2 a b) [z,TI,TO,i1,i2] z (fun i h=>IsZip h z TI TO .none∧IsPair h TI (.ref i1) (.ref i2)∧(∃ c d,IsPair h TO c d)∧SIt k1 h i1 a i∧SIt k2 h i2 b i) where
 mem:=by simp
 obj:=fun i h st b hb=>by
  obtain ⟨hz,hTI,⟨c,d,hTO⟩,h1,h2⟩:=st
  simp only [List.mem_cons,List.not_mem_nil,or_false] at hb
  rcases hb with rfl | rfl | rfl | rfl | rfl
  ·exact ⟨_,hz,fun v q=>nomatch q⟩
  ·exact ⟨_,hTI,fun v q=>nomatch q⟩
  ·exact ⟨_,hTO,fun v q=>nomatch q⟩
  ·exact h1.obj
  ·exact h2.obj
 keep:=fun i h h' st k=>by
  obtain ⟨hz,hTI,⟨c,d,hTO⟩,h1,h2⟩:=st
  exact ⟨k _ (by simp) _ hz,k _ (by simp) _ hTI,⟨c,d,k _ (by simp) _ hTO⟩,h1.at fun o e=>k _ (by simp) o e,h2.at fun o e=>k _ (by simp) o e⟩
 item:=by
  intro X hP hw hK hc i pins s σ H E I hf st hg
  subst hP hw hK
  obtain ⟨hz,hTI,⟨c,d,hTO⟩,h1,h2⟩:=st
  obtain ⟨xs,ys,x,y,q1,q2,hx,hy⟩:=hg
  obtain ⟨ix,rx,px⟩:=I.sis q1
  obtain ⟨iy,ry,py⟩:=I.sis q2
  obtain ⟨u,hu,ru⟩:=rx.get hx
  obtain ⟨v,hv,rv⟩:=ry.get hy
  have hT:s.TypeIs (.ref z) "zip" := ⟨_,hz,rfl⟩
  unfold pyNext
  refine wpAny_bind (wpAny_attempt (wpAny_callSpecial?_slot (name:=Str.ofString "__next__") hT F.slot_zip_next
   (wpAny_call_entry F.slot_zip_next hT F.entry_zip_next
    (zamh D hz hTI hTO h1 h2 px py (x:=u) (y:=v) (by simpa using hu) (by simpa using hv) fun h' a1 a2 a3 a4 a5 a6 a7=>wpAny_pure ?_) (F.args_zip_next_1 _))))
  refine ⟨_,rfl,wpAny_letOwnedTupleGo_zip (s:={ s with heap:=h' }) a1 fun h'' b1 b2=>?_⟩
  have zlt:z < s.heap.objs.size:=Heap.lt_size hz
  have k2:∀ c o,c ∉ [z,TI,TO,i1,i2]→s.heap.get? c=some o→h''.get? c=some o:=fun c o hc e=>by
   simp only [List.mem_cons,List.not_mem_nil,or_false,not_or] at hc
   exact b2.extBut _ _ hc.1 (a7 c o hc.1 hc.2.2.1 hc.2.2.2.1 hc.2.2.2.2 e)
  have hT2:IsPair h'' s.heap.objs.size u v:=b2.extBut _ _ (Nat.ne_of_gt zlt) a5
  refine ⟨.ref s.heap.objs.size,upd H s.heap.objs.size (.tup [x,y]),I.turnedNew (t':=s.toks) (o:=.tup [x,y]) k2 hf (Nat.le_refl _) ⟨by show 2≤sizeLine; decide,[u,v],.cons ru (.cons rv .nil),⟨_,hT2,rfl,_,rfl⟩⟩,rfl,
   ⟨_,I.hok.fresh (Nat.le_refl _),rfl,fun xs' ys' e1 e2=>?_⟩,⟨b1,?_,⟨_,_,b2.extBut _ _ D.TOz a2⟩,a3.at fun o e=>b2.extBut _ _ D.i1z e,a4.at fun o e=>b2.extBut _ _ D.i2z e⟩,fun b hb=>?_⟩
  ·rw [I.sq_inj e1 q1,I.sq_inj e2 q2]
   exact ⟨x,y,hx,hy,rfl⟩
  ·exact b2.extBut _ _ D.TIz (a7 _ _ D.TIz D.TITO D.TIi1 D.TIi2 hTI)
  ·have blt:b < s.heap.objs.size:=by
    simp only [List.mem_cons,List.not_mem_nil,or_false] at hb
    rcases hb with rfl | rfl | rfl | rfl | rfl
    ·exact zlt
    ·exact Heap.lt_size hTI
    ·exact Heap.lt_size hTO
    ·obtain ⟨o,e,_⟩:=h1.obj; exact Heap.lt_size e
    ·obtain ⟨o,e,_⟩:=h2.obj; exact Heap.lt_size e
   rw [zaa0 (Nat.ne_of_lt blt)]
   exact (hf b hb).1
 done:=by
  intro X hP hw hK hc i pins s σ H E I hf st hg
  subst hP hw hK
  obtain ⟨hz,hTI,⟨c,d,hTO⟩,h1,h2⟩:=st
  obtain ⟨xs,ys,q1,q2,hl⟩:=hg
  obtain ⟨ix,rx,px⟩:=I.sis q1
  obtain ⟨iy,ry,py⟩:=I.sis q2
  have l1:=rx.length
  have l2:=ry.length
  have hend:ix.toArray[i]?=none∨iy.toArray[i]?=none:=by
   rcases hl with h | h
   ·exact .inl (by simp; omega)
   ·exact .inr (by simp; omega)
  have hT:s.TypeIs (.ref z) "zip" := ⟨_,hz,rfl⟩
  unfold pyNext
  refine wpAny_bind (wpAny_attempt (wpAny_callSpecial?_slot (name:=Str.ofString "__next__") hT F.slot_zip_next
   (wpAny_call_entry F.slot_zip_next hT F.entry_zip_next (zao2 (I.ok.hd hc) D hz hTI hTO h1 h2 px py hend fun h' e hk he=>?_) (F.args_zip_next_1 _))))
  obtain ⟨o,ho,hc'⟩:=he
  refine wpAny_bind (wpAny_isInstance (T := "StopIteration") (b:=true) ⟨o,ho,hc'⟩ isSubtype_stop ?_)
  refine wpAny_pure ⟨rfl,I.turnedL (t':=s.toks) (its:=[z,TI,TO,i1,i2]) (fun b o hb e=>?_) hf⟩
  simp only [List.mem_cons,List.not_mem_nil,or_false,not_or] at hb
  exact hk b o hb.1 hb.2.2.1 hb.2.2.2.1 hb.2.2.2.2 e
 self:=fun _ _ _ _ _ st h=>wpAny_pyIter_zip st.1 h
def itObj (k:SK) (l:Addr):Obj:=match k with
 | .list=>{ cls:=.type "list_iterator",data:=.fields #[.ref l,.int 0 0] }
 | .tuple=>{ cls:=.type "tuple_iterator",data:=.fields #[.ref l,.int 0 0] }
theorem zahe {k:SK}{l it:Addr}{h:Heap} (e:h.get? it=some (itObj k l)):SIt k h it l 0:=by
 cases k with
 | list=>exact ⟨_,e,rfl,rfl⟩
 | tuple=>exact ⟨_,e,rfl,rfl⟩
abbrev zS1 (h:Heap) (k1:SK) (l1:Addr):Heap:=h.push (itObj k1 l1)
abbrev zS2 (h:Heap) (k1 k2:SK) (l1 l2:Addr):Heap:=(zS1 h k1 l1).push (itObj k2 l2)
abbrev zS3 (h:Heap) (k1 k2:SK) (l1 l2:Addr):Heap:=(zS2 h k1 k2 l1 l2).push { cls:=.type "tuple",data:=.seq #[.ref h.objs.size,.ref (zS1 h k1 l1).objs.size] }
abbrev zS4 (h:Heap) (k1 k2:SK) (l1 l2:Addr):Heap:=(zS3 h k1 k2 l1 l2).push { cls:=.type "tuple",data:=.seq #[.none,.none] }
abbrev zS5 (h:Heap) (k1 k2:SK) (l1 l2:Addr):Heap:=(zS4 h k1 k2 l1 l2).push { cls:=.type "zip",data:=.fields #[.none,.bool false,.bool false,.ref (zS2 h k1 k2 l1 l2).objs.size,.ref (zS3 h k1 k2 l1 l2).objs.size] }
set_option maxHeartbeats 4000000 in
theorem zagr (k1 k2:SK) (l1 l2:Addr) (xs ys:Array Value) :
  Meets (Builtin.«zip.__new__» ⟨[.type "zip",.ref l1,.ref l2],[]⟩) (fun _ R s=>SIs k1 s.heap l1 xs∧SIs k2 s.heap l2 ys ∧
   R (.ok (.ret (.ref (zS4 s.heap k1 k2 l1 l2).objs.size))) { s with heap:=zS5 s.heap k1 k2 l1 l2 }):=by
 cases k1 with
 | list =>
  cases k2 with
  | list =>
   exact .of_wp fun prog w A R s h=>by
    obtain ⟨hp,g,d,tk,os⟩:=s; obtain ⟨hl1,hl2,h⟩:=h
    have hsub:=sub_zip
    have hL1:Heap.IsList (Shared.heap ⟨hp,g,d,tk,os⟩) l1 xs:=hl1
    have hL2:Heap.IsList (Shared.heap ⟨hp.push { cls:=.type "list_iterator",data:=.fields #[.ref l1,.int 0 0] },g,d,tk,os⟩) l2 ys:=Heap.IsList.push hl2 _
    wp_walk using wpAny_pyIter_list hL1,wpAny_pyIter_list hL2
    exact ⟨_,rfl,h⟩
  | tuple =>
   exact .of_wp fun prog w A R s h=>by
    obtain ⟨hp,g,d,tk,os⟩:=s; obtain ⟨hl1,hl2,h⟩:=h
    have hsub:=sub_zip
    have hL1:Heap.IsList (Shared.heap ⟨hp,g,d,tk,os⟩) l1 xs:=hl1
    have hL2:Heap.IsTuple (Shared.heap ⟨hp.push { cls:=.type "list_iterator",data:=.fields #[.ref l1,.int 0 0] },g,d,tk,os⟩) l2 ys:=SIs.at (k:=.tuple) hl2 fun o e=>Heap.get?_push_of_some _ e
    wp_walk using wpAny_pyIter_list hL1,wpAny_pyIter_tuple hL2
    exact ⟨_,rfl,h⟩
 | tuple =>
  cases k2 with
  | list =>
   exact .of_wp fun prog w A R s h=>by
    obtain ⟨hp,g,d,tk,os⟩:=s; obtain ⟨hl1,hl2,h⟩:=h
    have hsub:=sub_zip
    have hL1:Heap.IsTuple (Shared.heap ⟨hp,g,d,tk,os⟩) l1 xs:=hl1
    have hL2:Heap.IsList (Shared.heap ⟨hp.push { cls:=.type "tuple_iterator",data:=.fields #[.ref l1,.int 0 0] },g,d,tk,os⟩) l2 ys:=SIs.at (k:=.list) hl2 fun o e=>Heap.get?_push_of_some _ e
    wp_walk using wpAny_pyIter_tuple hL1,wpAny_pyIter_list hL2
    exact ⟨_,rfl,h⟩
  | tuple =>
   exact .of_wp fun prog w A R s h=>by
    obtain ⟨hp,g,d,tk,os⟩:=s; obtain ⟨hl1,hl2,h⟩:=h
    have hsub:=sub_zip
    have hL1:Heap.IsTuple (Shared.heap ⟨hp,g,d,tk,os⟩) l1 xs:=hl1
    have hL2:Heap.IsTuple (Shared.heap ⟨hp.push { cls:=.type "tuple_iterator",data:=.fields #[.ref l1,.int 0 0] },g,d,tk,os⟩) l2 ys:=SIs.at (k:=.tuple) hl2 fun o e=>Heap.get?_push_of_some _ e
    wp_walk using wpAny_pyIter_tuple hL1,wpAny_pyIter_tuple hL2
    exact ⟨_,rfl,h⟩
section
variable {prog:Program}{w:World}{A:Around}{E:Value→Shared→Prop}{s:Shared}
theorem zami {k1 k2:SK}{l1 l2:Addr}{xs ys:Array Value}{Q:Value→Shared→Prop} (hl1:SIs k1 s.heap l1 xs) (hl2:SIs k2 s.heap l2 ys)
  (h:∀ h',IsZip h' (s.heap.objs.size + 4) (s.heap.objs.size + 2) (s.heap.objs.size + 3) .none→IsPair h' (s.heap.objs.size + 2) (.ref s.heap.objs.size) (.ref (s.heap.objs.size + 1)) →
   IsPair h' (s.heap.objs.size + 3) .none .none→SIt k1 h' s.heap.objs.size l1 0→SIt k2 h' (s.heap.objs.size + 1) l2 0 →
   (∀ c o,s.heap.get? c=some o→h'.get? c=some o)→Q (.ref (s.heap.objs.size + 4)) { s with heap:=h' }) :
  wpAny (model prog w) A (call (.type "zip") [.ref l1,.ref l2]) Q E s:=by
 refine callType_new F.called_zip (by decide) (F.typeCall_zip_2 _ _) (F.newCall_zip_2 _ _) (fun obj=>F.args_object_init_3 obj _ _) F.entry_zip_new
  (zagr k1 k2 l1 l2 xs ys) ⟨hl1,hl2,?_⟩
 have z1:(zS1 s.heap k1 l1).objs.size=s.heap.objs.size + 1:=Heap.size_push ..
 have z2:(zS2 s.heap k1 k2 l1 l2).objs.size=s.heap.objs.size + 2:=by rw [Heap.size_push,z1]
 have z3:(zS3 s.heap k1 k2 l1 l2).objs.size=s.heap.objs.size + 3:=by rw [Heap.size_push,z2]
 have z4:(zS4 s.heap k1 k2 l1 l2).objs.size=s.heap.objs.size + 4:=by rw [Heap.size_push,z3]
 have r1:(itObj k1 l1).isFreed=false:=by cases k1 <;> rfl
 have r2:(itObj k2 l2).isFreed=false:=by cases k2 <;> rfl
 have g5:(zS5 s.heap k1 k2 l1 l2).get? (zS4 s.heap k1 k2 l1 l2).objs.size=some _:=Heap.get?_push_size _ rfl
 have g4:(zS5 s.heap k1 k2 l1 l2).get? (zS3 s.heap k1 k2 l1 l2).objs.size=some _:=Heap.get?_push_of_some _ (Heap.get?_push_size _ rfl)
 have g3:(zS5 s.heap k1 k2 l1 l2).get? (zS2 s.heap k1 k2 l1 l2).objs.size=some _:=Heap.get?_push_of_some _ (Heap.get?_push_of_some _ (Heap.get?_push_size _ rfl))
 have g2:(zS5 s.heap k1 k2 l1 l2).get? (zS1 s.heap k1 l1).objs.size=some _:=Heap.get?_push_of_some _ (Heap.get?_push_of_some _ (Heap.get?_push_of_some _ (Heap.get?_push_size _ r2)))
 have g1:(zS5 s.heap k1 k2 l1 l2).get? s.heap.objs.size=some _:=Heap.get?_push_of_some _ (Heap.get?_push_of_some _ (Heap.get?_push_of_some _ (Heap.get?_push_of_some _ (Heap.get?_push_size _ r1))))
 show _∧_
 rw [z2,z3,z4] at g5
 rw [z1,z2] at g3
 rw [z3] at g4
 rw [z1] at g2
 rw [z4]
 exact ⟨⟨_,g5,rfl⟩,h _ g5 g3 g4 (zahe g1) (zahe g2) fun c o x =>
  Heap.get?_push_of_some _ (Heap.get?_push_of_some _ (Heap.get?_push_of_some _ (Heap.get?_push_of_some _ (Heap.get?_push_of_some _ x))))⟩
end
section
variable {X:Cx}{elts:List Expr}{kk:Nat}{tpos:Pos}
def iZip (K:PySem.W.Frag) (k1 k2:SK) (ta:TA):TI:=fun σ H R=>ta σ H fun vs H1=>∃ a b,vs=[.ref a,.ref b]∧(∃ xs,Sq k1 K H1 a xs)∧(∃ ys,Sq k2 K H1 b ys)∧R (Itz K k1 k2 a b) H1
theorem zatv (k1 k2:SK) {a b:Expr}{ta:TA}{p pos:Pos} (hg:Gl X "zip") (hm:X.mg "zip" = none) (ha:PA X [a,b] ta) (hs:starEach [a,b] X.env=[(false,eval a X.env),(false,eval b X.env)]:=by rfl) (hs2:starEach [b] X.env=[(false,eval b X.env)]:=by rfl) :
  PI X (.Tuple elts kk tpos) (.Call (.Name "zip" p) [a,b] [] pos) (iZip X.K k1 k2 ta):=by
 intro pins s σ H R I h
 refine Call_ (zad9 I hg hm boot_zip (PyProof.Rows.callWith_type1 (thn (ha pos pins s σ H _ I h) fun us s1 ⟨vs,H1,I1,r1,q1⟩=>?_) (by rw [hs,hs2]) (by rw [hs2]; rfl)))
 obtain ⟨a',b',e,⟨xs,qx⟩,⟨ys,qy⟩,q⟩:=q1
 subst e
 obtain ⟨u,v,rfl,ru,rv⟩:=vals2 r1
 cases ru
 cases rv
 obtain ⟨ix,rx,px⟩:=I1.sis qx
 obtain ⟨iy,ry,py⟩:=I1.sis qy
 refine zami px py fun h' b1 b2 b3 b4 b5 b6=>wpAny_pyIter_zip (s:={ s1 with heap:=h' }) b1 ?_
 have nn:∀ b,s1.heap.objs.size≤b→FpOk X pins H1 b:=fun b hb=>I1.fpOk hb (I1.hok.fresh hb)
 refine ⟨_,[s1.heap.objs.size + 4,s1.heap.objs.size + 2,s1.heap.objs.size + 3,s1.heap.objs.size,s1.heap.objs.size + 1],_,_,H1,rfl,I1.kept (t':=s1.toks) b6,zao3 (k1:=k1) (k2:=k2) (zipApart_new px.lt py.lt),⟨b1,b2,⟨_,_,b3⟩,b4,b5⟩,fun b hb=>?_,q⟩
 simp only [List.mem_cons,List.not_mem_nil,or_false] at hb
 rcases hb with rfl | rfl | rfl | rfl | rfl
 ·exact nn _ (Nat.le_add_right _ _)
 ·exact nn _ (Nat.le_add_right _ _)
 ·exact nn _ (Nat.le_add_right _ _)
 ·exact nn _ (Nat.le_refl _)
 ·exact nn _ (Nat.le_add_right _ _)
end
end L2

namespace L2
open PySem PySem.Spec PyProof.Rows PySem.Builtin PySem.Builtin.Str
section
variable {X:Cx}
def rIsT (K:PySem.W.Frag):List V→Hp→VK→Prop:=fun xs H Q=>∃ x T t b,xs=[x,.ty T]∧TyOf K H x t∧PySem.W.kitOne K t (.type T)=some b∧Q (.bl b) H
theorem zaax:CallR X (.builtin "isinstance") (rIsT X.K):=by
 intro pins s σ H xs us Q I r h
 obtain ⟨x,T,t,b,rfl,ty,e,q⟩:=h
 obtain ⟨u,v,rfl,ru,rv⟩:=vals2 r
 cases rv
 exact zal0 I ru ty e fun tk=>⟨.bl b,H,I.tok _,rfl,q⟩
example (K:PySem.W.Frag):PySem.W.kitOne K (.type "int") (.type "int")=some true:=rfl
example (K:PySem.W.Frag):PySem.W.kitOne K (.type "str") (.type "int")=some false:=rfl
example (K:PySem.W.Frag):PySem.W.kitOne K (.type "tuple") (.type "int")=some false:=rfl
example (K:PySem.W.Frag):PySem.W.kitOne K (.type "bool") (.type "int")=some true:=rfl
end
def ent (w:World) (x:Str × Tok × Value):DictEntry:=⟨hashStr w x.1,.str x.1 x.2.1,x.2.2⟩
structure KD (P:Program) (w:World) (K:PySem.W.Frag) (a:Addr) (kvs:List (Key × V)):Prop where
 ex:∃ (o:Obj) (es:Array DictEntry) (ep:Nat) (vs:List (Key × Value)),K.lookup a=some o∧o.ExactDict∧o.data=.dict es ep∧KeysOf (mixKind P w) es∧Pairs (mixKind P w) es.toList vs∧(vs.map (·.1)).Nodup∧KV kvs vs
 ns:(a == sysModules)=false
def DK (P:Program) (w:World) (K:PySem.W.Frag) (H:Hp) (a:Addr) (kvs:List (Key × V)):Prop:=Rd H a (.dK kvs)∨KD P w K a kvs
theorem Inv.dict {X:Cx}{pins:List (Addr × Obj)}{σ:St}{H:Hp}{s:Shared}{a:Addr}{kvs:List (Key × V)} (I:Inv X pins σ H s) (h:DK X.prog X.w X.K H a kvs) :
  (a == sysModules)=false∧∃ vs,KV kvs vs∧s.heap.DictOf (mixKind X.prog X.w) a vs:=by
 rcases h with h | h
 ·obtain ⟨_,b,c⟩:=zaif I.hok h
  exact ⟨b,c⟩
 ·obtain ⟨o,es,ep,vs,h1,h2,h3,h4,h5,h6,h7⟩:=h.ex
  exact ⟨h.ns,vs,h7,o,es,ep,I.kIn a o h1,h2,h3,h4,h5,h6⟩
theorem zajk {P:Program}{w:World}{s:Shared}{a:Addr}{vs:List (Key × Value)} (d:s.heap.DictOf (mixKind P w) a vs):s.TypeIs (.ref a) "dict" := by
 obtain ⟨o,es,ep,h1,h2,_⟩:=d
 exact ⟨o,h1,h2.1⟩
section
variable {X:Cx}
def rIxD (X:Cx):R2:=fun x y H Q=>∃ a kvs k v,x=.ref a∧y=kV k∧DK X.prog X.w X.K H a kvs∧valV kvs k=some v∧Q v H
theorem zatw {o i:Expr}{td ty:TE}{pos:Pos} (ho:PE X o td) (hi:PE X i ty) (hs:NoSl i):PE X (.Subscript o i pos) (tOp (rIxD X) td ty):=by
 intro pins s σ H Q I h
 refine zame PySem.F.slot_dict_getitem.lookup hs (thn (ho pins s σ H _ I h) fun u s1 ⟨x,H1,I1,rx,q1⟩=>thn (hi pins s1 σ H1 _ I1 q1) fun iv s2 ⟨y,H2,I2,ry,q2⟩=>?_)
 obtain ⟨a,kvs,k,v,rfl,rfl,dk,hv,q⟩:=q2
 obtain rfl:u=Value.ref a:=rx
 obtain ⟨_,vs,rel,dd⟩:=I2.dict dk
 obtain ⟨w',hw,rw'⟩:=RelO.some_of (v:=v) (o:=valueAt vs k) (by rw [← hv]; exact rel.val k)
 exact ⟨zajk dd,wpAny_getItem_of (zafs ry) dd.mapOf hw ⟨v,H2,I2.tok _,rw',q⟩⟩
def rInD (X:Cx) (neg:Bool):R2:=fun x y H Q=>∃ a kvs k,y=.ref a∧x=kV k∧DK X.prog X.w X.K H a kvs∧Q (.bl (if neg then !(valV kvs k).isSome else (valV kvs k).isSome)) H
theorem zahf:OpR X (compareOp .NotIn) (rInD X true):=by
 intro pins s σ H x y v u Q I rx ry h
 obtain ⟨a,kvs,k,rfl,rfl,dk,q⟩:=h
 obtain rfl:u=Value.ref a:=ry
 obtain ⟨hd,vs,rel,dd⟩:=I.dict dk
 refine wpAny_notIn_of (zafs rx) hd dd.mapOf ?_
 rw [← (rel.val k).isSome_eq]
 exact ⟨.bl (!(valV kvs k).isSome),H,I.tok _,rfl,q⟩
end
theorem zava {P:Program}{w:World}{K:PySem.W.Frag}{a:Addr}{od:Option Addr}{ep:Nat}{sl:Array (Option Value)}{es:Array DictEntry} (xs:List (Str × Tok × Value)) (vs:List V)
  (l:K.lookup a=some ⟨.type "dict",od,.dict es ep,sl⟩) (he:es.toList=xs.map (ent w)) (hx:(⟨.type "dict",od,.dict es ep,sl⟩:Obj).ExactDict) (ns:(a == sysModules)=false)
  (nd:(xs.map (·.1)).Nodup) (hv:Vals vs (xs.map (·.2.2))):KD P w K a ((xs.map fun x=>(Sum.inr x.1:Key)).zip vs):=by
 refine ⟨⟨_,es,ep,xs.map fun x=>(Sum.inr x.1,x.2.2),l,hx,rfl,?_,?_,?_,?_⟩,ns⟩
 ·intro e h
  rw [← Array.mem_toList_iff,he] at h
  obtain ⟨x,hx,rfl⟩:=List.mem_map.mp h
  exact ⟨Sum.inr x.1,zafj x.1 x.2.1,rfl⟩
 ·rw [he]
  clear he nd hv l hx
  induction xs with
  | nil=>exact .nil
  | cons x xs ih=>exact .cons (zafj x.1 x.2.1) rfl ih
 ·rw [List.map_map]
  have e:(xs.map (fun x=>(Sum.inr x.1:Key)))=(xs.map (·.1)).map Sum.inr:=by rw [List.map_map]; rfl
  show (xs.map (fun x=>(Sum.inr x.1:Key))).Nodup
  rw [e]
  exact List.Pairwise.map _ (fun a b h z=>h (Sum.inr.inj z)) nd
 ·clear he nd l hx
  induction xs generalizing vs with
  | nil=>cases hv; exact .nil
  | cons x xs ih =>
   cases hv with
   | cons r rr=>exact .cons ⟨rfl,r⟩ (ih _ rr)
end L2

namespace L2
open PySem PySem.Spec PyProof.Rows
structure Pr (p:Prop):Prop where
 h:p
section
variable {X:Cx}
theorem zamj {i:Nat}{x:Str}{pos:Pos} (hN:X.N[i]?=some x) (hv:Vis X.env.scope x) (hd:(x == ("__debug__" : Str))=false:=by decide) (hcd:(x == ("__classdict__" : Str))=false:=by decide):Pr (PE X (.Name x pos) (tVar i)):=⟨zas2 hN hv hd hcd⟩
theorem zaad {i j pos}:Pr (PE X (.Constant (.int i) j pos) (tC (.int i))):=⟨zas3⟩
theorem zab1 {b j pos}:Pr (PE X (.Constant (.bool b) j pos) (tC (.bl b))):=⟨zau0⟩
theorem zacr {j pos}:Pr (PE X (.Constant .none j pos) (tC .non)):=⟨zas4⟩
theorem zaa1 {x j pos}:Pr (PE X (.Constant (.str x) j pos) (tC (.str x))):=⟨zas5⟩
theorem zacv {x:Str}{v:V}{u:Value}{pos:Pos} (hg:Gl X x) (hm:X.mg x=some u) (r:RelV v u) (hd:(x == ("__debug__" : Str))=false:=by decide):Pr (PE X (.Name x pos) (tC v)):=⟨zaqx hg hm r hd⟩
theorem zaay {x:Str}{v:V}{u:Value}{pos:Pos} (hg:Gl X x) (hm:X.mg x=none) (hv:bootBuiltins x=some u) (r:RelV v u) (hn:x ≠ "__name__" := by decide) (hd:(x == ("__debug__" : Str))=false:=by decide):Pr (PE X (.Name x pos) (tC v)):=⟨zaqy hg hm hv r hn hd⟩
end
section
variable {X:Cx}{a b c:Expr}{ta tb tc:TE}{pos:Pos}
theorem zaan {op:Operator}{r:R2} (ho:OpR X (binaryOp op) r) (ha:Pr (PE X a ta)) (hb:Pr (PE X b tb)):Pr (PE X (.BinOp a op b pos) (tOp r ta tb)):=⟨zau3 ho ha.h hb.h⟩
theorem zamk {op:UnaryOp}{r:V→Hp→VK→Prop} (ho:UnR X (unaryOp op) r) (ha:Pr (PE X a ta)):Pr (PE X (.UnaryOp op a pos) (tUn r ta)):=⟨zau4 ho ha.h⟩
theorem zabu {op:CmpOp}{r:R2} (ho:OpR X (compareOp op) r) (ha:Pr (PE X a ta)) (hb:Pr (PE X b tb)) (hm:behindInMarks op b=false):Pr (PE X (.Compare a [op] [b] pos) (tOp r ta tb)):=⟨zaq8 ho ha.h hb.h hm⟩
theorem zaml {op op':CmpOp}{r r':R2} (ho:OpR X (compareOp op) r) (ho':OpR X (compareOp op') r') (ha:Pr (PE X a ta)) (hb:Pr (PE X b tb)) (hc:Pr (PE X c tc)) (hm:lastMarks [op,op'] [b,c]=false:=by with_unfolding_all rfl):Pr (PE X (.Compare a [op,op'] [b,c] pos) (tChain r r' ta tb tc)):=⟨zaok ho ho' ha.h hb.h hc.h hm⟩
end
section
variable {X:Cx}
variable {a b:Expr}{ta tb:TE}{pos:Pos}
variable {tA tB':TT}{rest:List Expr}
theorem zaca (ha:Pr (PE X a ta)) (hb:Pr (PE X (.BoolOp .And (b :: rest) pos) tb)):Pr (PE X (.BoolOp .And (a :: b :: rest) pos) (tAndV ta tb)):=⟨zatb ha.h hb.h⟩
end
section
variable {X:Cx}
variable {a b:Expr}{ta tb:TE}{pos:Pos}
variable {tA tB':TT}{rest:List Expr}
theorem zact {op}{t:TE} (h:Pr (PE X a t)):Pr (PE X (.BoolOp op [a] pos) t):=⟨zata h.h⟩
end
section
variable {X:Cx}
variable {a b:Expr}{ta tb:TE}{pos:Pos}
variable {tA tB':TT}{rest:List Expr}
theorem zaft (ha:Pr (PE X a ta)):Pr (PE X (.UnaryOp .Not a pos) (tNotV ta)):=⟨zatc ha.h⟩
end
section
variable {X:Cx}
variable {a b:Expr}{ta tb:TE}{pos:Pos}
variable {tA tB':TT}{rest:List Expr}
theorem zadb {c:Expr} (hc:Pr (PT X c tA)) (ha:Pr (PE X a ta)) (hb:Pr (PE X b tb)):Pr (PE X (.IfExp c a b pos) (tIf tA ta tb)):=⟨zaod hc.h ha.h hb.h⟩
end
section
variable {X:Cx}{e:Expr}{es:List Expr}{te:TE}{t:TA}{pos:Pos}
theorem zabh {x1} (h:Pr (PA X es t)):Pr (PE X (.Tuple es x1 pos) (tTup t)):=⟨zatl h.h⟩
theorem zabc (h:Pr (PA X es t)):Pr (PE X (.List es pos) (tLst t)):=⟨zatm h.h⟩
end
section
variable {X:Cx}{e:Expr}{te:TE}{lo hi:Option Expr}{tl th:TO}{pos p2:Pos}
theorem zac3 {r:V→Option Int→Option Int→Hp→VK→Prop} (hr:SlR X r) (he:Pr (PE X e te)) (hl:Pr (PO X lo tl)) (hu:Pr (PO X hi th)):Pr (PE X (.Subscript e (.Slice lo hi none p2) pos) (tSl r te tl th)):=⟨zaor hr he.h hl.h hu.h⟩
end
section
variable {X:Cx}{a b:Expr}{ta tb:TE}{pos:Pos}
theorem zaa2 {r:R2} (hr:IxR X r) (ha:Pr (PE X a ta)) (hb:Pr (PE X b tb)) (hs:PlainIx b):Pr (PE X (.Subscript a b pos) (tOp r ta tb)):=⟨zau6 hr ha.h hb.h hs⟩
end
section
variable {X:Cx}
theorem zaru {o i:Expr}{td ty:TE}{pos:Pos} (ho:Pr (PE X o td)) (hi:Pr (PE X i ty)) (hs:NoSl i):Pr (PE X (.Subscript o i pos) (tOp (rIxD X) td ty)):=⟨zatw ho.h hi.h hs⟩
end
section
variable {X:Cx}{o e value:Expr}{f:Str}{pos pos' tpos:Pos}{ta tv:TE}
theorem zabt (he:Pr (PE X e ta)) (hb:attributeBase e f X.env (eval e X.env)=eval e X.env):Pr (PE X (.Attribute e f pos) (tFld X.K ta f)):=⟨zap4 he.h hb⟩
end
section
variable {X:Cx}{CX:CXT}{k:Nat}{ps:List Str}{sp:Sp}{E:XK}{x:Str}{p pos:Pos}{e:Expr}{es:List Expr}{t:TA}
theorem zaap (D:DefOk X.prog X.w X.K X.mg X.base CX k x ps sp) (hr:Room k X.A) (hg:Gl X x) (hx:Passes CX X E) (ha:Pr (PA X (e :: es) t)) (hdb:(x == ("__debug__" : Str))=false:=by decide) (he:starEach (e :: es) X.env=(false,eval e X.env) :: starEach es X.env:=by rfl) (hpl:(backTo pos (starEach es X.env)).any (·.1)=false:=by rfl):Pr (PE X (.Call (.Name x p) (e :: es) [] pos) (tCall sp [] E t)):=⟨zaoz D hr hg hx ha.h hdb he hpl⟩
end
section
variable {X:Cx}{x:Str}{p pos:Pos}{e:Expr}{es:List Expr}{t:TA}{id T:String}{r:List V→Hp→VK→Prop}
theorem zaaf (hc:CallR X (.builtin id) r) (hg:Gl X x) (hm:X.mg x=none) (hv:bootBuiltins x=some (.builtin id)) (ha:Pr (PA X (e :: es) t)) (hn:x ≠ "__name__" := by decide) (hdb:(x == ("__debug__" : Str))=false:=by decide) (he:starEach (e :: es) X.env=(false,eval e X.env) :: starEach es X.env:=by rfl) (hpl:(backTo pos (starEach es X.env)).any (·.1)=false:=by rfl):Pr (PE X (.Call (.Name x p) (e :: es) [] pos) (tCB r t)):=⟨zaop hc hg hm hv ha.h hn hdb he hpl⟩
theorem zabp (hc:CallR X (.type T) r) (hg:Gl X x) (hm:X.mg x=none) (hv:bootBuiltins x=some (.type T)) (ha:Pr (PA X (e :: es) t)) (hn:x ≠ "__name__" := by decide) (hdb:(x == ("__debug__" : Str))=false:=by decide) (he:starEach (e :: es) X.env=(false,eval e X.env) :: starEach es X.env:=by rfl) (hpl:(backTo pos (starEach es X.env)).any (·.1)=false:=by rfl):Pr (PE X (.Call (.Name x p) (e :: es) [] pos) (tCB r t)):=⟨zal3 hc hg hm hv ha.h hn hdb he hpl⟩
end
section
variable {X:Cx}{a b:Expr}{ta tb:TE}{pos:Pos}
variable {o e:Expr}{es:List Expr}{to:TE}{t:TA}{name:Str}{apos cpos:Pos}{T id:String}{r:V→List V→Hp→VK→Prop}
theorem zacf (pa:PlainAttrs T) (slot:Slot T name id) (hty:typeOf (.builtin id)=pure (.type "method_descriptor")) (hm:MtR X id r) (ho:Pr (PE X o to)) (ha:Pr (PA X (e :: es) t)) (hbase:attributeBase o name X.env (eval o X.env)=eval o X.env:=by rfl) (hfew:((backTo cpos (starEach (e :: es) X.env)).all (fun x=>!x.1) && (backToKw cpos (keywordEach [] X.env)).all (fun x=>x.1.isSome)
   && decide ((e :: es).length + ([]:List Keyword).length + (if ([]:List Keyword).isEmpty then 0 else 1) < 30))=true:=by rfl) (hline:(apos.endLine == cpos.line)=true:=by rfl) (hs:starEach (e :: es) X.env=(false,eval e X.env) :: starEach es X.env:=by rfl) (hplain:(backTo cpos (starEach es X.env)).any (·.1)=false:=by rfl):Pr (PE X (.Call (.Attribute o name apos) (e :: es) [] cpos) (tBM X.K T r to t)):=⟨zau7 pa slot hty hm ho.h ha.h hbase hfew hline hs hplain⟩
end
section
variable {X:Cx}{a b c:Expr}{ta tb tc:TE}{pos:Pos}
theorem zaaq {op:CmpOp}{r:R2} (ho:OpR X (compareOp op) r) (ha:Pr (PE X a ta)) (hb:Pr (PE X b tb)) (hm:behindInMarks op b=false):Pr (PT X (.Compare a [op] [b] pos) (tTest (tOp r ta tb))):=⟨zaq9 ho ha.h hb.h hm⟩
end
section
variable {X:Cx}
variable {a b:Expr}{ta tb:TE}{pos:Pos}
variable {tA tB':TT}{rest:List Expr}
theorem zadx (ha:Pr (PT X a tA)):Pr (PT X (.UnaryOp .Not a pos) (tNot tA)):=⟨zas9 ha.h⟩
end
section
variable {X:Cx}
variable {a b:Expr}{ta tb:TE}{pos:Pos}
theorem zabj {e:Expr}{t:TE} (h:Pr (PE X e t)) (he:∀ whole,isTrue e X.env whole=(do let v ← whole; standAt e.pos; holding [v] (truthy v)):=by intro _; rfl):Pr (PT X e (tB t)):=⟨zas6 h.h he⟩
end
section
theorem zacg {X:Cx}{e:Expr}{t:TT} (h:Pr (PW X e t)):Pr (PT X e t):=⟨PW.pt h.h⟩
end
section
variable {X:Cx}
variable {a b:Expr}{ta tb:TE}{pos:Pos}
variable {tA tB':TT}{rest:List Expr}
theorem zad7 (ha:Pr (PT X a tA)) (hb:Pr (PW X (.BoolOp .And (b :: rest) pos) tB')):Pr (PW X (.BoolOp .And (a :: b :: rest) pos) (tAnd tA tB')):=⟨zas8 ha.h hb.h⟩
end
section
variable {X:Cx}
variable {a b:Expr}{ta tb:TE}{pos:Pos}
variable {tA tB':TT}{rest:List Expr}
theorem zadj (ha:Pr (PT X a tA)):Pr (PW X (.BoolOp .And [a] pos) tA):=⟨zaqz ha.h⟩
end
section
variable {X:Cx}
variable {a b:Expr}{ta tb:TE}{pos:Pos}
variable {tA tB':TT}{rest:List Expr}
theorem zac6 (ha:Pr (PT X a tA)) (hb:Pr (PW X (.BoolOp .Or (b :: rest) pos) tB')):Pr (PW X (.BoolOp .Or (a :: b :: rest) pos) (tOr tA tB')):=⟨zau1 ha.h hb.h⟩
end
section
variable {X:Cx}
variable {a b:Expr}{ta tb:TE}{pos:Pos}
variable {tA tB':TT}{rest:List Expr}
theorem zacs (ha:Pr (PT X a tA)):Pr (PW X (.BoolOp .Or [a] pos) tA):=⟨zas7 ha.h⟩
end
section
variable {X:Cx}{e:Expr}{es:List Expr}{te:TE}{t:TA}{pos:Pos}
theorem zaab  : Pr (PA X [] tNil):=⟨zatk⟩
theorem zaaa (ha:Pr (PE X e te)) (hr:Pr (PA X es t)) (hs:starEach (e :: es) X.env=(false,eval e X.env) :: starEach es X.env:=by rfl):Pr (PA X (e :: es) (tCons te t)):=⟨zard ha.h hr.h hs⟩
end
section
variable {X:Cx}{e:Expr}{te:TE}{lo hi:Option Expr}{tl th:TO}{pos p2:Pos}
theorem zadk  : Pr (PO X none tNoPart):=⟨zarh⟩
theorem zadl (h:Pr (PE X e te)):Pr (PO X (some e) (tPart te)):=⟨zari h.h⟩
end
section
variable {X:Cx}{tg:Expr}
theorem zabq {l:Expr}{tl:TE} (hl:Pr (PE X l tl)):Pr (PI X tg l (iList X.K tl)):=⟨zaln hl.h⟩
theorem zafu {l:Expr}{tl:TE} (hl:Pr (PE X l tl)):Pr (PI X tg l (iTup X.K tl)):=⟨zap2 hl.h⟩
theorem zabx {a:Expr}{ta:TA}{p pos:Pos} (hg:Gl X "range") (hm:X.mg "range" = none) (ha:Pr (PA X [a] ta)) (hs:starEach [a] X.env=[(false,eval a X.env)]:=by rfl):Pr (PI X tg (.Call (.Name "range" p) [a] [] pos) (iRng1 ta)):=⟨zalo hg hm ha.h hs⟩
theorem zalc {a b:Expr}{ta:TA}{p pos:Pos} (hg:Gl X "range") (hm:X.mg "range" = none) (ha:Pr (PA X [a,b] ta)) (hs:starEach [a,b] X.env=[(false,eval a X.env),(false,eval b X.env)]:=by rfl) (hs2:starEach [b] X.env=[(false,eval b X.env)]:=by rfl):Pr (PI X tg (.Call (.Name "range" p) [a,b] [] pos) (iRng2 ta)):=⟨zalp hg hm ha.h hs hs2⟩
end
section
variable {X:Cx}{elts:List Expr}{kk:Nat}{tpos:Pos}
theorem zajl (k1 k2:SK) {a b:Expr}{ta:TA}{p pos:Pos} (hg:Gl X "zip") (hm:X.mg "zip" = none) (ha:Pr (PA X [a,b] ta)) (hs:starEach [a,b] X.env=[(false,eval a X.env),(false,eval b X.env)]:=by rfl) (hs2:starEach [b] X.env=[(false,eval b X.env)]:=by rfl):Pr (PI X (.Tuple elts kk tpos) (.Call (.Name "zip" p) [a,b] [] pos) (iZip X.K k1 k2 ta)):=⟨zatv k1 k2 hg hm ha.h hs hs2⟩
end
section
variable {X:Cx}{pos:Pos}
theorem zaar {i:Nat}{x:Str} (hN:X.N.Nodup) (hi:X.N[i]?=some x) (hx:Loc X.env.scope x) (hf:X.fn x=true∨X.env.scope.names.lookup x=some .local:=by first | exact .inl rfl | exact .inr rfl | assumption):Pr (PG X (.Name x pos) (gName i)):=⟨zaq4 hN hi hx hf⟩
theorem zac7  : Pr (PGs X [] gNil):=⟨zaq5⟩
theorem zabk {e:Expr}{es:List Expr}{t:TG}{u:TGs} (h1:Pr (PG X e t)) (h2:Pr (PGs X es u)) (hs:(assignEach (e :: es) X.env).map (·.2)=assign e X.env :: (assignEach es X.env).map (·.2):=by rfl):Pr (PGs X (e :: es) (gCons t u)):=⟨zaof h1.h h2.h hs⟩
theorem zafv {es:List Expr}{k:Nat}{t:TGs}{n:Nat} (hc:X.calm=true) (h:Pr (PGs X es t)) (hn:(assignEach es X.env).length=n:=by rfl) (hst:(assignEach es X.env).findIdx? (·.1)=none:=by rfl):Pr (PG X (.Tuple es k pos) (gTup X.K n t)):=⟨zap1 hc h.h hn hst⟩
theorem zajm {o i:Expr}{to ti:TE}{t:TSet} (ho:Pr (PE X o to)) (hi:Pr (PE X i ti)) (hs:PSet X t) (ha:∀ v,assign (.Subscript o i pos) X.env v=(do
   let ov ← holding [v] (eval o X.env)
   let iv ← holding [v,ov] (eval i X.env)
   standAt pos
   holding [v,ov,iv] (setItem ov iv v)
   release [v,ov,iv] []):=by intro _; rfl):Pr (PG X (.Subscript o i pos) (gSub to ti t)):=⟨zate ho.h hi.h hs ha⟩
end
section
variable {X:Cx}{st:Stmt}{rest:List Stmt}{t u:TS}{e:Expr}{te:TE}{pos:Pos}
theorem zaas (he:Pr (PE X e te)):Pr (PS X (.Return (some e) pos) (tRet te)):=⟨zatd he.h⟩
theorem zao4  : Pr (PS X (.Return none pos) tRetN):=⟨zaq3⟩
end
section
variable {X:Cx}{pos:Pos}
theorem zaat {i:Nat}{x:Str}{e:Expr}{te:TE}{pos':Pos} (hN:X.N.Nodup) (hi:X.N[i]?=some x) (hx:Loc X.env.scope x) (he:Pr (PE X e te)) (hs:swapsWith e (some (.Name x pos')) pos.line X.env=pure false:=by rfl) (hf:X.fn x=true∨X.env.scope.names.lookup x=some .local:=by first | exact .inl rfl | exact .inr rfl | assumption):Pr (PS X (.Assign [.Name x pos'] e pos) (tAsg te (gName i))):=⟨zatg hN hi hx he.h hs hf⟩
theorem zafw {tg e:Expr}{te:TE}{g:TG} (he:Pr (PE X e te)) (hg:Pr (PG X tg g)) (hs:swapsWithSole [tg] e pos.line X.env=pure false:=by rfl) (hw:swappedStores [tg] e X.env=pure none:=by rfl) (h1:(assignEach [tg] X.env).map (·.2)=[assign tg X.env]:=by rfl):Pr (PS X (.Assign [tg] e pos) (tAsg te g)):=⟨zatf he.h hg.h hs hw h1⟩
end
section
variable {X:Cx}{st:Stmt}{rest:List Stmt}{t u:TS}{e:Expr}{te:TE}{pos:Pos}
theorem zaa4 {c:Expr}{a b:List Stmt}{tc:TT} (hc:Pr (PT X c tc)) (ha:Pr (PSs X a t)) (hb:Pr (PSs X b u)):Pr (PS X (.If c a b pos) (tIfS tc t u)):=⟨zau2 hc.h ha.h hb.h⟩
end
section
theorem zabf {X:Cx}{tg iter:Expr}{body:List Stmt}{wi:TI}{g:TG}{tb:TS}{pos:Pos} (hp:PassesOwn (model X.prog X.w) X.A X.env X.xe) (hc:X.calm=true) (hi:Pr (PI X tg iter wi)) (hg:Pr (PG X tg g)) (hb:Pr (PSs X body tb)) (hs:∀ x,foldedSetIterable iter X.env x=pure x:=by intro _; rfl):Pr (PS X (.For tg iter body [] pos) (tLoop wi g tb)):=⟨zars hp hc hi.h hg.h hb.h hs⟩
end
section
variable {X:Cx}{pos:Pos}
theorem zady {c:Expr}{body:List Stmt}{tc:TT}{tb:TS} (hp:PassesOwn (model X.prog X.w) X.A X.env X.xe) (hc:Pr (PT X c tc)) (hb:Pr (PSs X body tb)):Pr (PS X (.While c body [] pos) (tWhile tc tb)):=⟨zaog hp hc.h hb.h⟩
end
section
variable {X:Cx}{st:Stmt}{rest:List Stmt}{t u:TS}{e:Expr}{te:TE}{pos:Pos}
theorem zabg (he:Pr (PE X e te)) (hs:swapsWith e none pos.line X.env=pure false:=by rfl):Pr (PS X (.Expr e pos) (tDrop te)):=⟨zaq2 he.h hs⟩
theorem zaau  : Pr (PSs X [] tNext):=⟨zaq0⟩
theorem zaag (h1:Pr (PS X st t)):Pr (PSs X [st] t):=⟨zaq1 h1.h⟩
theorem zaah (h1:Pr (PS X st t)) (h2:Pr (PSs X rest u)):Pr (PSs X (st :: rest) (tSeq t u)):=⟨zake h1.h h2.h⟩
end
section
theorem zaav {X:Cx}{st:Stmt}{rest:List Stmt}{t u:TS} (h1:Pr (PS X st t)) (h2:Pr (PSs X rest u)):Pr (PSs X (st :: rest) (tCut t u)):=⟨zart h1.h h2.h⟩
end
section
variable {X:Cx}{o e value:Expr}{f:Str}{pos pos' tpos:Pos}{ta tv:TE}
theorem zaer (ha:Pr (PE X o ta)) (hv:Pr (PE X value tv)) (hs:swapsWith value (some (.Attribute o f pos')) pos.line X.env=pure false):Pr (PS X (.Assign [.Attribute o f pos'] value pos) (sFld X.K ta tv f)):=⟨zatj ha.h hv.h hs⟩
end
end L2

namespace L2
open PySem PySem.Spec PyProof.Rows
def relab (sc outer:Scope):Scope :=
 { sc with names:=sc.names.map fun (n,k)=>if (k == .free && outer.kind == .function && outer.names.lookup n == some .cell) then (n,.cell) else (n,k) }
structure CompOk (sc outer:Scope) (own:List Str) (N:List Str) (fr:List Nat) (N':List Str):Prop where
 kind:sc.kind=.function
 nocell:∀ y∈sc.names,y.2≠.cell
 loc:∀ y∈sc.names,y.2=.local→sc.names.lookup y.1=some .local
 fre:∀ y∈sc.names,y.2=.free→outer.names.lookup y.1=some .cell∨outer.names.lookup y.1=some .free
 nd:N'.Nodup
 all:N'.map some=own.map some++fr.map fun j=>N[j]?
 frk:∀ j∈fr,∀ x,N[j]?=some x→sc.names.lookup x=some .free∧(outer.names.lookup x=some .cell∨outer.names.lookup x=some .free)
def cst (n:Nat) (fr:List Nat) (σ:St):St:=List.replicate n none++fr.map fun j=>(σ[j]?).join
theorem zajn {env:Env}{sc:Scope} (h:∀ y∈sc.names,y.2=.free→∃ c,env.cells.lookup y.1=some c) :
  ∃ cl,closureFor sc env=pure cl∧(∀ x c,cl.lookup x=some c→env.cells.lookup x=some c)∧∀ y∈sc.names,y.2=.free→∃ c,cl.lookup y.1=some c:=by
 have key:∀ (l:List (Str × NameKind)) (cs:List (Str × Addr)),(∀ y∈l,y.2=.free→∃ c,env.cells.lookup y.1=some c)→(∀ x c,cs.lookup x=some c→env.cells.lookup x=some c) →
   ∃ cl,(forIn l cs fun x r=>if (x.2 == NameKind.free)=true then do let a ← cellOf env x.1; pure (ForInStep.yield ((x.1,a) :: r)) else pure (ForInStep.yield r))=(pure cl:Sem _)∧(∀ x c,cl.lookup x=some c→env.cells.lookup x=some c) ∧
    (∀ x,(∃ c,cs.lookup x=some c)→∃ c,cl.lookup x=some c)∧∀ y∈l,y.2=.free→∃ c,cl.lookup y.1=some c:=by
  intro l
  induction l with
  | nil=>intro cs _ h2; exact ⟨cs,rfl,h2,fun _ z=>z,fun y hy=>nomatch hy⟩
  | cons y l ih =>
   intro cs h1 h2
   obtain ⟨n,k⟩:=y
   by_cases hk:k=.free
   ·subst hk
    obtain ⟨c,hc⟩:=h1 (n,.free) List.mem_cons_self rfl
    obtain ⟨cl,e,a,b,d⟩:=ih ((n,c) :: cs) (fun y hy=>h1 y (List.mem_cons_of_mem _ hy)) (fun x c' hx=>by
     rw [List.lookup_cons] at hx
     split at hx
     ·rename_i q
      have:x=n:=by simpa using q
      cases hx; subst this; exact hc
     ·exact h2 x c' hx)
    refine ⟨cl,?_,a,fun x ⟨c',hx⟩=>b x ?_,fun y hy hf=>?_⟩
    ·rw [List.forIn_cons]
     have e1:cellOf env n=pure c:=by unfold cellOf; rw [hc]
     simp only [beq_self_eq_true,if_true,e1,pure_bind]
     exact e
    ·rw [List.lookup_cons]
     split
     ·exact ⟨_,rfl⟩
     ·exact ⟨c',hx⟩
    ·rcases List.mem_cons.mp hy with rfl | hy
     ·exact b n ⟨c,by simp [List.lookup_cons]⟩
     ·exact d y hy hf
   ·obtain ⟨cl,e,a,b,d⟩:=ih cs (fun y hy=>h1 y (List.mem_cons_of_mem _ hy)) h2
    refine ⟨cl,?_,a,b,fun y hy hf=>?_⟩
    ·rw [List.forIn_cons]
     have hb:(k == NameKind.free)=false:=by simpa using hk
     simp only [hb,Bool.false_eq_true,if_false,pure_bind]
     exact e
    ·rcases List.mem_cons.mp hy with rfl | hy
     ·exact absurd hf hk
     ·exact d y hy hf
 obtain ⟨cl,e,a,_,d⟩:=key sc.names [] h (fun x c hx=>by simp at hx)
 refine ⟨cl,?_,a,d⟩
 unfold closureFor
 simp only [e,pure_bind]
def cxC (X:Cx) (sc:Scope) (cl:List (Str × Addr)) (N':List Str) (C:Addr) (s:Shared) (H:Hp) (fp:List Addr):Cx :=
 { X with N:=N',s₀:=s,H₀:=H,env:=compEnvC sc cl C X.env,outer:=X.stack,stack:=X.stack,ex:=fp,fn:=fun _=>false,pn:=[],xe:=fun _ _=>False }
theorem zac8 {outer:Scope}:∀ {names:List (Str × NameKind)}{x:Str}{k:NameKind},
  (names.map fun (n,k)=>if (k == NameKind.free && outer.kind == .function && outer.names.lookup n == some .cell) then (n,NameKind.cell) else (n,k)).lookup x=some k →
   names.lookup x=some k∨(names.lookup x=some .free∧k=.cell)
 | [],x,k,h=>by simp at h
 | (n,k') :: r,x,k,h=>by
  rw [List.map_cons] at h
  by_cases hc:(k' == NameKind.free && outer.kind == .function && outer.names.lookup n == some .cell)=true
  ·simp only [hc,if_true] at h
   rw [List.lookup_cons] at h ⊢
   cases hx:x == n with
   | true =>
    rw [hx] at h
    simp only [Option.some.injEq] at h
    have hf:k'=.free:=by
     have:=(Bool.and_eq_true_iff.mp (Bool.and_eq_true_iff.mp hc).1).1
     simpa using this
    exact .inr ⟨by simp [hf],h.symm⟩
   | false=>rw [hx] at h; exact zac8 h
  ·simp only [hc,Bool.false_eq_true,if_false] at h
   rw [List.lookup_cons] at h ⊢
   cases hx:x == n with
   | true=>rw [hx] at h; exact .inl (by simpa using h)
   | false=>rw [hx] at h; exact zac8 h
theorem zaes {outer:Scope}:∀ {names:List (Str × NameKind)}{x:Str},names.lookup x=some .free →
  (names.map fun (n,k)=>if (k == NameKind.free && outer.kind == .function && outer.names.lookup n == some .cell) then (n,NameKind.cell) else (n,k)).lookup x=some .cell ∨
  (names.map fun (n,k)=>if (k == NameKind.free && outer.kind == .function && outer.names.lookup n == some .cell) then (n,NameKind.cell) else (n,k)).lookup x=some .free
 | [],x,h=>by simp at h
 | (n,k') :: r,x,h=>by
  rw [List.lookup_cons] at h
  rw [List.map_cons]
  by_cases hc:(k' == NameKind.free && outer.kind == .function && outer.names.lookup n == some .cell)=true
  ·simp only [hc,if_true]
   rw [List.lookup_cons]
   cases hx:x == n with
   | true=>exact .inl rfl
   | false=>rw [hx] at h; exact zaes h
  ·simp only [hc,Bool.false_eq_true,if_false]
   rw [List.lookup_cons]
   cases hx:x == n with
   | true=>rw [hx] at h; exact .inr h
   | false=>rw [hx] at h; exact zaes h
theorem zadm {α:Type}:∀ {l:List (Str × α)}{x:Str}{k:α},l.lookup x=some k→(x,k)∈l
 | [],_,_,h=>by simp at h
 | (n,k') :: r,x,k,h=>by
  rw [List.lookup_cons] at h
  cases hx:x == n with
  | true =>
   rw [hx] at h
   have e:x=n:=by simpa using hx
   have e2:k'=k:=by simpa using h
   rw [e,e2]; exact List.mem_cons_self
  | false=>rw [hx] at h; exact List.mem_cons_of_mem _ (zadm h)
section
variable {X:Cx}{pins:List (Addr × Obj)}{σ:St}{H:Hp}{s:Shared}{sc:Scope}{own:List Str}{fr:List Nat}{N':List Str}{cl:List (Str × Addr)}
theorem zajo (I:Inv X pins σ H s) (cs:CompOk sc X.env.scope own X.N fr N') (h1:∀ x c,cl.lookup x=some c→X.env.cells.lookup x=some c) (h2:∀ y∈sc.names,y.2=.free→∃ c,cl.lookup y.1=some c)
  {fp:List Addr} (hf:∀ b∈fp,FpOk X pins H b∧∃ o,s.heap.get? b=some o) {h':Heap}{t':Nat}{C D:Addr}{o:Obj} (hC:s.heap.objs.size≤C) (hD:s.heap.objs.size≤D) (hDC:D≠C)
  (k:∀ b u,s.heap.get? b=some u→h'.get? b=some u) (hn:h'.Ns C fun _=>none) (hDo:h'.get? D=some o) (hd:∀ v,o.data≠.cell v) :
  Inv (cxC X sc cl N' C s H fp) [(D,o)] (cst own.length fr σ) H { s with heap:=h',toks:=t' }:=by
 have lt:∀ b u,s.heap.get? b=some u→b < s.heap.objs.size:=fun b u e=>Heap.lt_size e
 have fpC:∀ b∈fp,b≠C:=fun b hb z=>by
  obtain ⟨_,o,e⟩:=hf b hb
  have:=lt b o e
  rw [z] at this
  exact absurd (Nat.lt_of_lt_of_le this hC) (Nat.lt_irrefl _)
 have lenN:N'.length=own.length + fr.length:=by
  have:=congrArg List.length cs.all
  simpa using this
 refine ⟨⟨I.ok.mod,cs.kind,I.ok.glob,I.ok.blt,hC,fun x y c e1 e2=>I.ok.inj x y c (h1 x c e1) (h1 y c e2),fun x hx=>?_,fun x c z=>absurd z Bool.false_ne_true,I.ok.hd,I.ok.frames,.inl rfl,fun b hb=>⟨fpC b hb,fun x c e=>(hf b hb).1.2.2.2.2.1 x c (h1 x c e)⟩,
   I.bs,Nat.le_trans I.ok.bsz I.sz,fun b o' e hb=>?_,fun b hb z=>?_,I.stack,I.stkFree⟩,
  rfl,I.bare,Un.kept k,⟨_,hn,fun i x v e1 e2 e3=>?_⟩,fun x c e=>?_,I.hok.fresh hC,fun x c e=>I.freeC x c (h1 x c e),fun p hp=>?_,I.hok.kept k,?_⟩
 ·have hx':(relab sc X.env.scope).names.lookup x=some .cell∨(relab sc X.env.scope).names.lookup x=some .free:=hx
  have hfree:sc.names.lookup x=some .free:=by
   rcases hx' with z | z
   ·rcases zac8 z with q | q
    ·exact absurd rfl (cs.nocell _ (zadm q))
    ·exact q.1
   ·rcases zac8 z with q | q
    ·exact q
    ·exact q.1
  exact h2 (x,.free) (zadm hfree) rfl
 ·have q:=(hf b hb).1.2.2.2.1
  rcases q with q | q
  ·exact I.ok.noex b o' e q
  ·exact absurd (Nat.lt_of_lt_of_le (Heap.lt_size (I.ok.bs b o' e).1) q) (Nat.lt_irrefl _)
 ·have z':b∈frs X.stack:=z
  rcases List.mem_cons.mp (I.stkSub b z') with q | q
  ·exact (hf b hb).1.2.1 q
  ·exact (hf b hb).1.2.2.1 q
 ·-- a name of the block at its entry is one of the def's
  have hi:own.length≤i:=by
   by_cases hi:i < own.length
   ·have e2':(cst own.length fr σ)[i]?=some none:=by
     unfold cst
     rw [List.getElem?_append_left (by simpa using hi),List.getElem?_replicate,if_pos hi]
    rw [e2'] at e2; cases e2
   ·omega
  have e2':(fr.map fun j=>(σ[j]?).join)[i - own.length]?=some (some v):=by
   unfold cst at e2
   rwa [List.getElem?_append_right (by simpa using hi),List.length_replicate] at e2
  rw [List.getElem?_map] at e2'
  have e1a:(N'.map some)[i]?=some (some x):=by
   have e1:N'[i]?=some x:=e1
   rw [List.getElem?_map,e1]; rfl
  rw [cs.all,List.getElem?_append_right (by simpa using hi),List.length_map,List.getElem?_map] at e1a
  cases ej:fr[i - own.length]? with
  | none=>rw [ej] at e2'; cases e2'
  | some j =>
   rw [ej] at e2' e1a
   have hj:j∈fr:=List.mem_of_getElem? ej
   have nj:X.N[j]?=some x:=by simpa using e1a
   have sj:σ[j]?=some (some v):=by
    have:(σ[j]?).join=some v:=by simpa using e2'
    cases q:σ[j]? with
    | none=>rw [q] at this; cases this
    | some y=>rw [q] at this; simp at this; rw [this]
   obtain ⟨kf,ko⟩:=cs.frk j hj x nj
   obtain ⟨m,hm,hl⟩:=I.loc
   obtain ⟨u,r,l⟩:=hl j x v nj sj (.inr ko)
   refine ⟨u,r,.inr ?_⟩
   have lk:X.env.kindOf x=some .cell∨X.env.kindOf x=some .free:=ko
   rcases l with ⟨z,_⟩ | ⟨_,c,ec,ic⟩
   ·rcases lk with q | q <;> rw [z] at q <;> cases q
   ·obtain ⟨c',hc'⟩:=h2 (x,.free) (zadm kf) rfl
    have:c'=c:=by
     have:=h1 x c' hc'
     rw [ec] at this; exact (Option.some.inj this).symm
    subst this
    refine ⟨zaes kf,c',hc',?_⟩
    obtain ⟨oc,hoc,hcd⟩:=ic
    exact ⟨oc,k c' oc hoc,hcd⟩
 ·obtain ⟨v,oc,hoc,hcd⟩:=I.cell x c (h1 x c e)
  exact ⟨v,oc,k c oc hoc,hcd⟩
 ·have hp':p∈[(D,o)]:=hp
  have e:p=(D,o):=by simpa using hp'
  subst e
  refine ⟨hDo,I.hok.fresh hD,hDC,fun z=>?_,hd⟩
  have z':D∈frs X.stack:=z
  obtain ⟨_,o2,ho2,_⟩:=I.stack.mem z'
  exact absurd (Nat.lt_of_lt_of_le (Heap.lt_size ho2) hD) (Nat.lt_irrefl _)
 ·show (cst own.length fr σ).length=N'.length
  unfold cst
  rw [List.length_append,List.length_replicate,List.length_map,lenN]
theorem zamm (I:Inv X pins σ H s) {fp:List Addr} (hf:∀ b∈fp,FpOk X pins H b∧∃ o,s.heap.get? b=some o) {C D:Addr}{its:List Value}{ys:List V}{n:Nat}{σ':St}{H':Hp}{s':Shared}
  (hD:s.heap.objs.size≤D) (J:Inv (cxC X sc cl N' C s H fp) [(D,{ cls:=.type "list",data:=.seq its.toArray n })] σ' H' s') (r:Vals ys its) (hz:ys.length≤sizeLine):Inv X pins σ (upd H' D (.lst ys)) s':=by
 obtain ⟨hDo,hDn,hDC,hDf,hDc⟩:=J.pin (D,{ cls:=.type "list",data:=.seq its.toArray n }) (List.mem_append_right _ List.mem_cons_self)
 have u:Un (frs X.stack) fp H H' s.heap s'.heap:=J.base
 have os:s'.os=s.os:=J.os
 have lt:∀ b ob,s.heap.get? b=some ob→b≠D:=fun b ob e z=>by
  have:=Heap.lt_size e
  rw [z] at this
  exact absurd (Nat.lt_of_lt_of_le this hD) (Nat.lt_irrefl _)
 refine I.call' (ch:=fp) os ⟨u.keep,u.slot,fun b ob e n hx=>?_,u.there,fun b xs e=>?_,fun b ob x e=>?_,fun b ps e=>?_⟩ ?_ J.bare (fun b hb=>?_)
 ·rw [zaa0 (lt b ob e)]; exact u.free b ob e n hx
 ·have:=u.tups b xs e
  rw [zaa0 (zaao this hDn)]; exact this
 ·have:=u.frzs b ob x e
  rw [zaa0 (zaao this hDn)]; exact this
 ·obtain ⟨m,q⟩:=u.tbls b ps e
  exact ⟨m,by rw [zaa0 (zaao q hDn)]; exact q⟩
 ·intro b ob e
  by_cases hb:b=D
  ·subst hb
   rw [zaac] at e; cases e
   exact ⟨hz,its,n,r,hDo⟩
  ·rw [zaa0 hb] at e
   exact (J.hok b ob e).stay (fun c v _ q=>q) (fun c q=>by rw [zaa0 (zaao q hDn)]; exact q) fun c xs q=>by rw [zaa0 (zaao q hDn)]; exact q
 ·obtain ⟨_,f1,_,f3,f4,f5⟩:=(hf b hb).1
  exact ⟨f3,f1,f4,f5⟩
end
def PIf (X:Cx) (ifs:List Expr) (t:TT):Prop :=
 ∀ (pins:List (Addr × Obj)) (s:Shared) (σ:St) (H:Hp) (Q:Bool→Hp→Prop),Inv X pins σ H s→t σ H Q →
  wpAny (model X.prog X.w) X.A (forIn ifs true fun c r=>if r=true then do let ok ← isTrue c X.env (eval c X.env); pure (ForInStep.yield ok) else pure (ForInStep.yield r)) (TP X pins σ Q) X.xe s
def tYes:TT:=fun _ H Q=>Q true H
theorem zarv {X:Cx}:PIf X [] tYes:=fun _ _ _ H _ I h=>wpAny_tests_nil ⟨H,I,h⟩
theorem zarw {X:Cx}{c:Expr}{t:TT} (h:PT X c t):PIf X [c] t:=fun pins s σ H Q I q=>wpAny_tests_one (h pins s σ H Q I q)
structure Comp (J:It) (g:TG) (tt:TT) (te:TE) (Q:List V→Hp→Prop) (σ:St) (H:Hp):Prop where
 ex:∃ W:Nat→Nat→List V→St→Hp→Prop,(∃ m,W 0 m [] σ H)∧∀ i m ys σ H,W i m ys σ H→ys.length < sizeLine ∧
  ((J.stop i H∧Q ys H)∨(J.go i H∧∃ N:List V→St→Hp→Prop,(∀ ys' σ' H',N ys' σ' H'→∃ m',m' < m∧W (i + 1) m' ys' σ' H') ∧
    ∀ x H',J.yld i H x H'→g x σ H' fun σ2 H2=>tt σ2 H2 fun b H3=>if b=true then te σ2 H3 fun y H4=>N (ys++[y]) σ2 H4 else N ys σ2 H3))
section
variable {prog:Program}{w:World}{A:Around}{R:Result→Shared→Prop}{s:Shared}
theorem zaih {elt target iter:Expr}{ifs:List Expr}{scope:Scope}{pos:Pos}{it acc:Value}{env:Env} (I:Nat→Shared→Prop)
  (turn:∀ n s,I n s→wpAny (model prog w) A (pyNext it) (fun r s₁=>match r with
   | none=>R (.ok .next) s₁
   | some v=>wpAny (model prog w) A (letOwnedTupleGo target it v) (fun _ s₁=>wpAny (model prog w) A (assign target env v) (fun _ s₂ =>
     wpAny (model prog w) A (forIn ifs true fun c r=>if r=true then do let ok ← isTrue c env (eval c env); pure (ForInStep.yield ok) else pure (ForInStep.yield r)) (fun ok s₃ =>
      if ok=true then wpAny (model prog w) A (eval elt env) (fun x s₄ =>
       wpAny (model prog w) A (call (.builtin "list.append") [acc,x]) (fun _ s₅=>∃ m,m < n∧I m s₅) (fun _ _=>False) s₄) (fun _ _=>False) s₃
      else ∃ m,m < n∧I m s₃) (fun _ _=>False) s₂) (fun _ _=>False) s₁) (fun _ _=>False) s₁) (fun _ _=>False) s)
  (n:Nat) (h:I n s):codeAny (model prog w) A (.compLoop (.ListComp elt [⟨target,iter,ifs,0⟩] scope pos) 0 it acc env) R s:=by
 refine codeAny_loop rfl I (fun n s hI=>?_) n h
 show wpAny _ A ((compTurn (.ListComp elt [⟨target,iter,ifs,0⟩] scope pos) 0 it acc env).onRaise (fun x=>do noteFrame x env; theTreesLotGoes x)) _ _ s
 refine wpAny_noted (wpAny_noRaise ?_)
 rw [compTurn_list]
 refine wpAny_bind (wpAny_standAt (wpAny_bind (wpAny_mono (turn n s hI) (fun r s₁ h₁=>?_) fun _ _ h'=>h')))
 cases r with
 | none=>exact wpAny_pure h₁
 | some v =>
  refine wpAny_bind (wpAny_mono h₁ (fun _ s₁ h₁=>?_) fun _ _ h'=>h')
  refine wpAny_bind (wpAny_mono h₁ (fun _ s₂ h₂=>wpAny_bind (wpAny_mono h₂ (fun ok s₃ h₃=>?_) fun _ _ h'=>h')) fun _ _ h'=>h')
  cases ok with
  | false=>exact wpAny_pure ⟨rfl,h₃⟩
  | true =>
   exact wpAny_bind (wpAny_bind (wpAny_mono h₃ (fun x s₄ h₄=>wpAny_bind (wpAny_mono h₄ (fun _ s₅ h₅=>wpAny_pure (wpAny_pure ⟨rfl,h₅⟩)) fun _ _ h'=>h')) fun _ _ h'=>h'))
end
end L2

namespace L2
open PySem PySem.Spec PyProof.Rows
structure TurnX (G:Cx→Prop) (P:Program) (w:World) (K:PySem.W.Frag) (tg:Expr) (J:It) (fp:List Addr) (it:Addr) (tn:Nat→Heap→Prop):Prop where
 obj:∀ i h,tn i h→∀ b∈fp,∃ o,h.get? b=some o∧∀ v,o.data≠.cell v
 keep:∀ i h h',tn i h→(∀ b∈fp,∀ o,h.get? b=some o→h'.get? b=some o)→tn i h'
 item:∀ (X:Cx),X.prog=P→X.w=w→X.K=K→G X→∀ (i:Nat) (pins:List (Addr × Obj)) (s:Shared) (σ:St) (H:Hp) (E:Value→Shared→Prop),Inv X pins σ H s→(∀ b∈fp,FpOk X pins H b)→tn i s.heap→J.go i H →
  wpAny (model P w) X.A (pyNext (.ref it)) (fun r s1=>∃ u,r=some u ∧
   wpAny (model P w) X.A (letOwnedTupleGo tg (.ref it) u) (fun _ s2=>∃ x H',Inv X pins σ H' s2∧RelV x u∧J.yld i H x H'∧tn (i + 1) s2.heap∧∀ b∈fp,H' b=none) E s1) E s
 done:∀ (X:Cx),X.prog=P→X.w=w→X.K=K→G X→∀ (i:Nat) (pins:List (Addr × Obj)) (s:Shared) (σ:St) (H:Hp) (E:Value→Shared→Prop),Inv X pins σ H s→(∀ b∈fp,FpOk X pins H b)→tn i s.heap→J.stop i H →
  wpAny (model P w) X.A (pyNext (.ref it)) (fun r s1=>r=none∧Inv X pins σ H s1) E s
 self:∀ (A:Around) (i:Nat) (s:Shared) (Q:Value→Shared→Prop) (E:Value→Shared→Prop),tn i s.heap→Q (.ref it) s→wpAny (model P w) A (pyIter (.ref it)) Q E s
theorem Turn.x {P:Program}{w:World}{K:PySem.W.Frag}{tg:Expr}{J:It}{fp:List Addr}{it:Addr}{tn:Nat→Heap→Prop} (T:Turn P w K tg J fp it tn):TurnX (fun X=>X.calm=true) P w K tg J fp it tn:=⟨T.obj,T.keep,T.item,T.done,T.self⟩
section
variable {X:Cx}{sc:Scope}{own:List Str}{fr:List Nat}{N':List Str}{tg elt iter:Expr}{ifs:List Expr}{g:TG}{tt:TT}{te:TE}{wi:TI}{pos:Pos}
theorem zald {G:Cx→Prop}{pins:List (Addr × Obj)}{σ:St}{H:Hp}{s2:Shared}{it:Addr}{fp:List Addr}{tn:Nat→Heap→Prop}{J:It}{QQ:List V→Hp→Prop}{cl:List (Str × Addr)}{RR:Value→Addr→Result→Shared→Prop}{E:Value→Shared→Prop}
  (I2:Inv X pins σ H s2) (hc:∀ cl C s H fp,G (cxC X sc cl N' C s H fp)) (T:TurnX G X.prog X.w X.K tg J fp it tn) (st:tn 0 s2.heap) (f2:∀ b∈fp,FpOk X pins H b) (cs:CompOk sc X.env.scope own X.N fr N')
  (h1:∀ x c,cl.lookup x=some c→X.env.cells.lookup x=some c) (h2:∀ y∈sc.names,y.2=.free→∃ c,cl.lookup y.1=some c)
  (hg:∀ cl C s H fp,PG (cxC X sc cl N' C s H fp) tg g) (hif:∀ cl C s H fp,PIf (cxC X sc cl N' C s H fp) ifs tt) (he:∀ cl C s H fp,PE (cxC X sc cl N' C s H fp) elt te)
  (KK:Comp J g tt te QQ (cst own.length fr σ) H)
  (hRR:∀ D C m H' ys s',s2.heap.objs.size≤C→s'.heap.Ns C m→H' D=none→(upd H' D (.lst ys)) C=none→QQ ys H'→Inv X pins σ (upd H' D (.lst ys)) s'→RR (.ref D) C (.ok .next) s') :
  wpAny (model X.prog X.w) X.A (newList []) (fun acc s₃=>wpAny (model X.prog X.w) X.A (newFunctionEnv sc X.env.globals cl [] X.env.qual none .none (some X.env)) (fun cenv s₄ =>
   codeAny (model X.prog X.w) X.A (.compStart (.ListComp elt [⟨tg,iter,ifs,0⟩] sc pos) 0 (.ref it) acc { cenv with scope:=relabel sc X.env }) (RR acc cenv.locals) s₄) E s₃) E s2:=by
 refine wpAny_newObj_type (wpAny_newFunctionEnv cs.nocell (by intro y hy; simp at hy) (fun h₁ hns₁ hsb₁=>?_) cs.kind)
 dsimp only at hns₁ hsb₁ ⊢
 generalize hH2:s2.heap.push { cls:=.type "list",dict:=none,data:=.seq ([]:List Value).toArray }=H2 at hns₁ hsb₁ ⊢
 have hC:H2.objs.size=s2.heap.objs.size + 1:=by rw [← hH2,Heap.size_push]
 have hDC:s2.heap.objs.size≠H2.objs.size:=by rw [hC]; exact Nat.ne_of_lt (Nat.lt_succ_self _)
 have hCle:s2.heap.objs.size≤H2.objs.size:=by rw [hC]; exact Nat.le_succ _
 have below:∀ b,b < s2.heap.objs.size→b≠H2.objs.size∧b≠s2.heap.objs.size:=fun b hb=>⟨by rw [hC]; exact Nat.ne_of_lt (Nat.lt_succ_of_lt hb),Nat.ne_of_lt hb⟩
 have old:∀ b o,s2.heap.get? b=some o→h₁.get? b=some o:=fun b o e=>hsb₁.extBut b o (below b (Heap.lt_size e)).1 (Heap.get?_push_of_some _ (hH2 ▸ Heap.get?_push_of_some _ e))
 have hacc:h₁.get? s2.heap.objs.size=some { cls:=.type "list",data:=.seq ([]:List Value).toArray 0 }:=hsb₁.extBut _ _ hDC (Heap.get?_push_of_some _ (hH2 ▸ Heap.get?_push_size _ rfl))
 have fpo:∀ b∈fp,FpOk X pins H b∧∃ o,s2.heap.get? b=some o:=fun b hb=>⟨f2 b hb,let ⟨o,e,_⟩:=T.obj 0 _ st b hb; ⟨o,e⟩⟩
 have st1:tn 0 h₁:=T.keep _ _ _ st fun b hb o e=>old b o e
 have hns:h₁.Ns H2.objs.size fun _=>none:=by simpa using hns₁
 obtain ⟨W,⟨m0,w0⟩,turn⟩:=KK.ex
 have loop:∀ s₃:Shared,s₃={ s2 with heap:=h₁,toks:=s2.toks + ([]:List (Str × Value)).length } →
   codeAny (model X.prog X.w) X.A (.compLoop (.ListComp elt [⟨tg,iter,ifs,0⟩] sc pos) 0 (.ref it) (.ref s2.heap.objs.size) (compEnvC sc cl H2.objs.size X.env)) (RR (.ref s2.heap.objs.size) H2.objs.size) s₃:=by
  rintro s₃ rfl
  have J0:Inv (cxC X sc cl N' H2.objs.size s2 H fp) [(s2.heap.objs.size,{ cls:=.type "list",data:=.seq ([]:List Value).toArray 0 })] (cst own.length fr σ) H { s2 with heap:=h₁,toks:=s2.toks + ([]:List (Str × Value)).length } :=
   zajo I2 cs h1 h2 fpo hCle (Nat.le_refl _) hDC old hns hacc (fun v z=>by cases z)
  have stat:∀ {pl:List (Addr × Obj)}{H':Hp},(∀ p∈pl,p.1=s2.heap.objs.size)→(∀ b∈fp,H' b=none)→∀ b∈fp,FpOk (cxC X sc cl N' H2.objs.size s2 H fp) pl H' b:=fun {pl H'} hpl hn b hb=>by
   obtain ⟨f,ob,e⟩:=fpo b hb
   refine ⟨hn b hb,(below b (Heap.lt_size e)).1,fun z=>?_,.inl hb,fun x c ec=>f.2.2.2.2.1 x c (h1 x c ec),fun p hp=>?_⟩
   ·have z':b∈frs X.stack:=z
    rcases List.mem_cons.mp (I2.stkSub b z') with q | q
    ·exact f.2.1 q
    ·exact f.2.2.1 q
   ·have hp':p∈pl:=hp
    rw [hpl p hp']
    exact Ne.symm (below b (Heap.lt_size e)).2
  have one:∀ (o:Obj),∀ p∈[(s2.heap.objs.size,o)],p.1=s2.heap.objs.size:=fun o p hp=>by
   have:p=(s2.heap.objs.size,o):=by simpa using hp
   rw [this]
  refine zaih (env:=compEnvC sc cl H2.objs.size X.env) (fun n s'=>∃ i ys its k σ' H',Inv (cxC X sc cl N' H2.objs.size s2 H fp) [(s2.heap.objs.size,{ cls:=.type "list",data:=.seq (its:List Value).toArray k })] σ' H' s'∧tn i s'.heap∧(∀ b∈fp,H' b=none)∧Vals ys its∧W i n ys σ' H')
   ?_ m0 ⟨0,[],[],0,_,H,J0,st1,fun b hb=>(f2 b hb).1,.nil,w0⟩
  rintro n s3 ⟨i,ys,its,k,σ3,H3,I3,st3,fr3,rv,w3⟩
  obtain ⟨hlen,alt⟩:=turn i n ys σ3 H3 w3
  rcases alt with ⟨stop,qn⟩ | ⟨go,N,hN,step⟩
  ·refine wpAny_mono (T.done (cxC X sc cl N' H2.objs.size s2 H fp) rfl rfl rfl (hc _ _ _ _ _) i _ s3 σ3 H3 (fun _ _=>False) I3 (stat (one _) fr3) st3 stop) (fun r s4 ⟨hr,I4⟩=>?_) fun _ _ z=>z
   subst hr
   obtain ⟨m,hm,_⟩:=I4.loc
   have hDn:H3 s2.heap.objs.size=none:=(I4.pin (s2.heap.objs.size,{ cls:=.type "list",data:=.seq its.toArray k }) (List.mem_append_right _ List.mem_cons_self)).2.1
   exact hRR _ _ m H3 ys s4 hCle hm hDn (by rw [zaa0 (Ne.symm hDC)]; exact I4.free) qn (zamm I2 fpo (Nat.le_refl _) I4 rv (Nat.le_of_lt hlen))
  ·refine wpAny_mono (T.item (cxC X sc cl N' H2.objs.size s2 H fp) rfl rfl rfl (hc _ _ _ _ _) i _ s3 σ3 H3 (fun _ _=>False) I3 (stat (one _) fr3) st3 go) (fun r s4 ⟨u,hr,h4⟩=>?_) fun _ _ z=>z
   subst hr
   refine wpAny_mono h4 (fun _ s5 ⟨x,H5,I5,r5,y5,st5,fr5⟩=>?_) fun _ _ z=>z
   have I5':=I5.pinned (stat (one _) fr5) (T.obj _ _ st5)
   refine wpAny_mono (hg cl H2.objs.size s2 H fp _ s5 σ3 H5 x u _ I5' r5 (step x H5 y5)) (fun _ s6 ⟨σ6,H6,I6,q6⟩=>?_) fun _ _ z=>z
   refine wpAny_mono (hif cl H2.objs.size s2 H fp _ s6 σ6 H6 _ I6 q6) (fun b s7 ⟨H7,I7,q7⟩=>?_) fun _ _ z=>z
   have fps:∀ {σ8:St}{H8:Hp}{s8:Shared},Inv (cxC X sc cl N' H2.objs.size s2 H fp) ([(s2.heap.objs.size,{ cls:=.type "list",data:=.seq its.toArray k })]++pinsAt fp s5.heap) σ8 H8 s8 →
     tn (i + 1) s8.heap∧∀ b∈fp,H8 b=none:=fun {σ8 H8 s8} I8=>by
    refine ⟨T.keep _ _ _ st5 fun b hb o e=>(I8.pin (b,o) (List.mem_append_right _ (List.mem_append_right _ (zad5 hb e)))).1,fun b hb=>?_⟩
    obtain ⟨o,e,d⟩:=T.obj _ _ st5 b hb
    exact (I8.pin (b,o) (List.mem_append_right _ (List.mem_append_right _ (zad5 hb e)))).2.1
   cases b with
   | false =>
    obtain ⟨m',hm,w7⟩:=hN ys σ6 H7 q7
    exact ⟨m',hm,i + 1,ys,its,k,σ6,H7,I7.unpinned,(fps I7).1,(fps I7).2,rv,w7⟩
   | true =>
    have q7':te σ6 H7 fun y H4=>N (ys++[y]) σ6 H4:=q7
    refine wpAny_mono (he cl H2.objs.size s2 H fp _ s7 σ6 H7 _ I7 q7') (fun uy s8 ⟨y,H8,I8,r8,n8⟩=>?_) fun _ _ z=>z
    obtain ⟨m',hm,w8⟩:=hN _ _ _ n8
    obtain ⟨hDo,hDn,hDL,hDf,_⟩:=I8.pin (s2.heap.objs.size,{ cls:=.type "list",data:=.seq its.toArray k }) (List.mem_append_right _ (List.mem_append_left _ List.mem_cons_self))
    have hys:its.toArray.size≤sizeLine:=by rw [List.size_toArray,← rv.length]; exact Nat.le_of_lt hlen
    refine wpAny_list_append_plain (hsz:=hys) (⟨k,hDo⟩:s8.heap.PlainList s2.heap.objs.size its.toArray) fun h9 ⟨k',hl9⟩ hs9=>?_
    have hDp:∀ p∈(cxC X sc cl N' H2.objs.size s2 H fp).pn++pinsAt fp s5.heap,p.1≠s2.heap.objs.size:=fun p hp=>by
     have hp':p∈pinsAt fp s5.heap:=by
      have hp2:p∈([]:List (Addr × Obj))++pinsAt fp s5.heap:=hp
      simpa using hp2
     obtain ⟨hb,_⟩:=zah4 hp'
     obtain ⟨_,ob,e⟩:=fpo p.1 hb
     exact (below p.1 (Heap.lt_size e)).2
    have I8':Inv (cxC X sc cl N' H2.objs.size s2 H fp) (pinsAt fp s5.heap) σ6 H8 s8:=I8.pins_of fun p hp=>I8.pin p (List.mem_append_right _ (List.mem_append_right _ hp))
    have I9:Inv (cxC X sc cl N' H2.objs.size s2 H fp) (pinsAt fp s5.heap) σ6 H8 { s8 with heap:=h9 }:=I8'.turned (t':=s8.toks) (it:=s2.heap.objs.size) (fun b o hb e=>(hs9.2 b hb).trans e) hDn hDL (.inr (Nat.le_refl _))
     (fun x c e z=>by
      obtain ⟨v,q⟩:=I2.cell x c (h1 x c e)
      have:=q.lt
      rw [z] at this
      exact absurd this (Nat.lt_irrefl _)) hDp
    have key:=fps I8
    refine ⟨m',hm,i + 1,ys++[y],its++[uy],k',σ6,H8,I9.pins_of fun p hp=>?_,T.keep _ _ _ key.1 fun b hb o e=>?_,key.2,rv.append (.cons r8 .nil),w8⟩
    ·have e:p=(s2.heap.objs.size,{ cls:=.type "list",data:=.seq (its++[uy]).toArray k' }):=by simpa using hp
     subst e
     refine ⟨?_,hDn,hDL,hDf,fun v z=>by cases z⟩
     have:(its++[uy]).toArray=its.toArray.push uy:=by simp
     rw [this]; exact hl9
    ·obtain ⟨_,ob,e2⟩:=fpo b hb
     exact (hs9.2 b (below b (Heap.lt_size e2)).2).trans e
 exact codeAny_compStart_list (loop _ rfl) (wpAny_mono (T.self X.A 0 _ (fun it' s'=>it'=.ref it∧s'={ s2 with heap:=h₁,toks:=s2.toks + ([]:List (Str × Value)).length }) _ st1 ⟨rfl,rfl⟩) (fun it' s' ⟨e1,e2⟩=>by subst e1 e2; exact loop _ rfl) fun _ _ z=>z)
def tComp (n:Nat) (fr:List Nat) (wi:TI) (g:TG) (tt:TT) (te:TE):TE:=fun σ H Q=>wi σ H fun J H1=>Comp J g tt te (fun ys H2=>∀ D,H2 D=none→Q (.ref D) (upd H2 D (.lst ys))) (cst n fr σ) H1
theorem zarx (hc:X.calm=true) (cs:CompOk sc X.env.scope own X.N fr N') (hi:PI X tg iter wi) (hg:∀ cl C s H fp,PG (cxC X sc cl N' C s H fp) tg g) (hif:∀ cl C s H fp,PIf (cxC X sc cl N' C s H fp) ifs tt)
  (he:∀ cl C s H fp,PE (cxC X sc cl N' C s H fp) elt te) (hs:∀ x,foldedSetIterable iter X.env x=pure x:=by intro _; rfl):PE X (.ListComp elt [⟨tg,iter,ifs,0⟩] sc pos) (tComp own.length fr wi g tt te):=by
 intro pins s σ H Q I h
 obtain ⟨cl,ecl,h1,h2⟩:=zajn (env:=X.env) (sc:=sc) fun y hy hf=>I.ok.has y.1 (cs.fre y hy hf)
 rw [eval_ListComp]
 refine wpAny_comprehension_free (use:=none) rfl hs ecl cs.kind cs.loc (thn (hi pins s σ H _ I h) fun v s1 q1=>thn q1 fun itv s2 q2=>?_)
 obtain ⟨it,fp,tn,J,H2,rfl,I2,T,st,f2,KK⟩:=q2
 refine zald (RR:=fun acc C=>compPost (model X.prog X.w) X.A X.xe none (EP X pins σ Q) acc C) I2 (fun _ _ _ _ _=>hc) T.x st f2 cs h1 h2 hg hif he KK fun D C m H' ys s' hC hn hD hCn hq I'=>?_
 refine ⟨m,hn,fun h' hs'=>⟨.ref D,upd H' D (.lst ys),?_,rfl,hq D hD⟩⟩
 obtain ⟨f0,f1,f2,f3,f4,f5⟩:=I2.fpOk hC hCn
 exact I'.turned (t':=s'.toks) (it:=C) (fun b o hb e=>(hs'.2 b hb).trans e) f0 (Ne.symm (Ne.symm f1)) f3 f4 f5
end
theorem zahg {J:It}{g:TG}{tt:TT}{te:TE}{Q:List V→Hp→Prop}{σ:St}{H:Hp} (n:Nat) (Pv:Nat→List V→St→Hp→Prop) (h0:Pv 0 [] σ H) (hl:∀ i ys σ H,i≤n→Pv i ys σ H→ys.length < sizeLine)
  (go:∀ i ys σ H,i < n→Pv i ys σ H→J.go i H) (stop:∀ ys σ H,Pv n ys σ H→J.stop n H)
  (turn:∀ i ys σ H,i < n→Pv i ys σ H→∀ x H',J.yld i H x H'→g x σ H' fun σ2 H2=>tt σ2 H2 fun b H3=>if b=true then te σ2 H3 fun y H4=>Pv (i + 1) (ys++[y]) σ2 H4 else Pv (i + 1) ys σ2 H3)
  (after:∀ ys σ H,Pv n ys σ H→Q ys H):Comp J g tt te Q σ H:=by
 refine ⟨fun i m ys σ H=>i≤n∧m=n - i∧Pv i ys σ H,⟨n,Nat.zero_le _,rfl,h0⟩,fun i m ys σ H ⟨hi,hm,p⟩=>⟨hl i ys σ H hi p,?_⟩⟩
 rcases Nat.lt_or_ge i n with h | h
 ·exact .inr ⟨go i ys σ H h p,Pv (i + 1),fun ys' σ' H' q=>⟨n - (i + 1),by omega,h,rfl,q⟩,turn i ys σ H h p⟩
 ·have e:i=n:=Nat.le_antisymm hi h
  subst e
  exact .inl ⟨stop ys σ H p,after ys σ H p⟩
theorem zacm {K:PySem.W.Frag}{a:Addr} (xs:List V) {g:TG}{tt:TT}{te:TE}{Q:List V→Hp→Prop}{σ:St}{H:Hp} (Pv:Nat→List V→St→Hp→Prop) (hn:xs.length < sizeLine) (h0:Pv 0 [] σ H) (hl:∀ i ys σ H,i≤xs.length→Pv i ys σ H→ys.length≤i∧SqL K H a xs)
  (turn:∀ i ys σ H x,xs[i]?=some x→Pv i ys σ H→g x σ H fun σ2 H2=>tt σ2 H2 fun b H3=>if b=true then te σ2 H3 fun y H4=>Pv (i + 1) (ys++[y]) σ2 H4 else Pv (i + 1) ys σ2 H3)
  (after:∀ ys σ H,Pv xs.length ys σ H→Q ys H):Comp (Itl K a) g tt te Q σ H :=
 zahg xs.length Pv h0 (fun i ys σ H hi p=>Nat.lt_of_le_of_lt (Nat.le_trans (hl i ys σ H hi p).1 hi) hn) (fun i ys σ H hi p=>⟨xs,xs[i],(hl i ys σ H (Nat.le_of_lt hi) p).2,List.getElem?_eq_getElem hi⟩)
  (fun ys σ H p=>⟨xs,(hl _ ys σ H (Nat.le_refl _) p).2,Nat.le_refl _⟩) (fun i ys σ H hi p x H' y=>by obtain ⟨rfl,y⟩:=y; exact turn i ys σ _ x (y xs (hl i ys σ _ (Nat.le_of_lt hi) p).2) p) after
theorem zafg {K:PySem.W.Frag}{a:Addr} (xs:List V) {g:TG}{tt:TT}{te:TE}{Q:List V→Hp→Prop}{σ:St}{H:Hp} (Pv:Nat→List V→St→Hp→Prop) (hn:xs.length < sizeLine) (h0:Pv 0 [] σ H) (hl:∀ i ys σ H,i≤xs.length→Pv i ys σ H→ys.length≤i∧SqT K H a xs)
  (turn:∀ i ys σ H x,xs[i]?=some x→Pv i ys σ H→g x σ H fun σ2 H2=>tt σ2 H2 fun b H3=>if b=true then te σ2 H3 fun y H4=>Pv (i + 1) (ys++[y]) σ2 H4 else Pv (i + 1) ys σ2 H3)
  (after:∀ ys σ H,Pv xs.length ys σ H→Q ys H):Comp (Itt K a) g tt te Q σ H :=
 zahg xs.length Pv h0 (fun i ys σ H hi p=>Nat.lt_of_le_of_lt (Nat.le_trans (hl i ys σ H hi p).1 hi) hn) (fun i ys σ H hi p=>⟨xs,xs[i],(hl i ys σ H (Nat.le_of_lt hi) p).2,List.getElem?_eq_getElem hi⟩)
  (fun ys σ H p=>⟨xs,(hl _ ys σ H (Nat.le_refl _) p).2,Nat.le_refl _⟩) (fun i ys σ H hi p x H' y=>by obtain ⟨rfl,y⟩:=y; exact turn i ys σ _ x (y xs (hl i ys σ _ (Nat.le_of_lt hi) p).2) p) after
end L2

namespace L2
open PySem PySem.Spec PyProof.Rows
open AutoSeq1 (wpAny_loadPart') in
set_option maxHeartbeats 4000000 in
theorem zafx (k:SK) (l:Addr) (xs:Array Value) :
  Meets (Builtin.«enumerate.__new__» ⟨[.type "enumerate",.ref l],[]⟩) (fun _ R s=>SIs k s.heap l xs ∧
   R (.ok (.ret (.ref (s.heap.push (itObj k l)).objs.size))) { s with heap:=(s.heap.push (itObj k l)).push { cls:=.type "enumerate",data:=.fields #[.none,.bool false,.ref s.heap.objs.size,rawInt 0,.none,.none] } }):=by
 cases k with
 | list =>
  exact .of_wp fun prog w A R s h=>by
   obtain ⟨hp,g,d,tk,os⟩:=s; obtain ⟨hL,h⟩:=h
   have hsub:=sub_enumerate
   have hL:Heap.IsList (Shared.heap ⟨hp,g,d,tk,os⟩) l xs:=hL
   obtain ⟨ol,hl,hlc,nl,hld⟩:=id hL
   wp_walk using wpAny_loadPart' hl
   refine wpAny_stack_any fun st=>wpAny_pure ?_
   split
   ·rename_i c _ _ _ _ _
    cases (c == Value.type "enumerate")
    ·wp_walk using wpAny_loadPart' hl,wpAny_pyIter_list hL
     exact ⟨_,rfl,h⟩
    ·wp_walk using wpAny_loadPart' hl,wpAny_pyIter_list hL
     exact ⟨_,rfl,h⟩
   ·wp_walk using wpAny_loadPart' hl,wpAny_pyIter_list hL
    exact ⟨_,rfl,h⟩
 | tuple =>
  exact .of_wp fun prog w A R s h=>by
   obtain ⟨hp,g,d,tk,os⟩:=s; obtain ⟨hL,h⟩:=h
   have hsub:=sub_enumerate
   have hL:Heap.IsTuple (Shared.heap ⟨hp,g,d,tk,os⟩) l xs:=hL
   obtain ⟨ol,hl,hlc,nl,hld⟩:=id hL
   wp_walk using wpAny_loadPart' hl
   refine wpAny_stack_any fun st=>wpAny_pure ?_
   split
   ·rename_i c _ _ _ _ _
    cases (c == Value.type "enumerate")
    ·wp_walk using wpAny_loadPart' hl,wpAny_pyIter_tuple hL
     exact ⟨_,rfl,h⟩
    ·wp_walk using wpAny_loadPart' hl,wpAny_pyIter_tuple hL
     exact ⟨_,rfl,h⟩
   ·wp_walk using wpAny_loadPart' hl,wpAny_pyIter_tuple hL
    exact ⟨_,rfl,h⟩
section
variable {prog:Program}{w:World}{A:Around}{E:Value→Shared→Prop}{s:Shared}
theorem zale {k:SK}{l:Addr}{xs:Array Value}{Q:Value→Shared→Prop} (hL:SIs k s.heap l xs)
  (h:∀ h',IsEnum h' (s.heap.objs.size + 1) s.heap.objs.size 0 .none→SIt k h' s.heap.objs.size l 0→(∀ b o,s.heap.get? b=some o→h'.get? b=some o)→Q (.ref (s.heap.objs.size + 1)) { s with heap:=h' }) :
  wpAny (model prog w) A (call (.type "enumerate") [.ref l]) Q E s:=by
 refine callType_new F.called_enumerate (by decide) (F.typeCall_enumerate_1 _) (F.newCall_enumerate_1 _) (fun obj=>F.args_object_init_2 obj _) F.entry_enumerate_new (zafx k l xs) ⟨hL,?_⟩
 have hz:(s.heap.push (itObj k l)).objs.size=s.heap.objs.size + 1:=Heap.size_push ..
 have r1:(itObj k l).isFreed=false:=by cases k <;> rfl
 have he:=Heap.get?_push_size (s.heap.push (itObj k l)) (o:={ cls:=.type "enumerate",data:=.fields #[.none,.bool false,.ref s.heap.objs.size,rawInt 0,.none,.none] }) rfl
 rw [hz] at he
 show _∧_
 rw [hz]
 exact ⟨⟨_,he,rfl⟩,h _ he (zahe (Heap.get?_push_of_some _ (Heap.get?_push_size _ r1))) fun b o x=>Heap.get?_push_of_some _ (Heap.get?_push_of_some _ x)⟩
theorem zalf {k:SK}{e it l:Addr}{i:Nat}{items:Array Value}{x old:Value}{Q:Value→Shared→Prop}
  (he:IsEnum s.heap e it i old) (hit:SIt k s.heap it l i) (hl:SIs k s.heap l items) (hx:items[i]?=some x) (hne:e≠it)
  (hQ:∀ h',IsEnumOut h' e it ((i:Int) + 1) x s.heap.objs.size→SIt k h' it l (i + 1) →
   h'.get? s.heap.objs.size=some { cls:=.type "tuple",data:=.seq #[.int i s.toks,x] }→h'.objs.size=s.heap.objs.size + 1 →
   (∀ b o,b≠e→b≠it→s.heap.get? b=some o→h'.get? b=some o)→Q (.ref s.heap.objs.size) { s with heap:=h',toks:=s.toks + 1 }) :
  wpAny (model prog w) A (Builtin.«enumerate.__next__» ⟨[.ref e],[]⟩) (fun fin s'=>∃ v,fin=.done (.ret v)∧Q v s') E s:=by
 obtain ⟨hp,g,d,tk,os⟩:=s
 show wpAny _ _ (field (.ref e) 2 >>= _) _ _ _
 refine wpAny_bind (wpAny_field he rfl (x:=.ref it) rfl ?_)
 refine wpAny_bind (zadi hit hl hx fun h₁ hit₁ hs₁=>?_)
 replace hs₁:Heap.SameBut it hp h₁:=hs₁
 have he₁:IsEnum h₁ e it i old:=(hs₁.2 e hne).trans he
 show wpAny _ _ (field (.ref e) 3 >>= _) _ _ ⟨h₁,g,d,tk,os⟩
 refine wpAny_bind (wpAny_field he₁ rfl (x:=rawInt i) rfl ?_)
 show wpAny _ _ (field (.ref e) 4 >>= _) _ _ ⟨h₁,g,d,tk,os⟩
 refine wpAny_bind (wpAny_field he₁ rfl (x:=.none) rfl ?_)
 show wpAny _ _ (mkInt i >>= _) _ _ ⟨h₁,g,d,tk,os⟩
 refine wpAny_bind (wpAny_mkInt ?_)
 show wpAny _ _ (setField (.ref e) 3 (rawInt ((i:Int) + 1)) >>= _) _ _ ⟨h₁,g,d,tk + 1,os⟩
 refine wpAny_bind (wpAny_setField_rec he₁ (by simp) fun h₂ he₂ hs₂=>?_)
 replace hs₂:Heap.SameBut e h₁ h₂:=hs₂
 replace he₂:IsEnum h₂ e it ((i:Int) + 1) old:=he₂
 show wpAny _ _ (setField (.ref e) 4 .none >>= _) _ _ ⟨h₂,g,d,tk + 1,os⟩
 refine wpAny_bind (wpAny_setField_rec he₂ (by simp) fun h₃ he₃ hs₃=>?_)
 replace hs₃:Heap.SameBut e h₂ h₃:=hs₃
 replace he₃:IsEnum h₃ e it ((i:Int) + 1) old:=he₃
 show wpAny _ _ (newTuple [.int i tk,x] >>= _) _ _ ⟨h₃,g,d,tk + 1,os⟩
 refine wpAny_bind (wpAny_newTuple ?_)
 have he₄:IsEnum (h₃.push { cls:=.type "tuple",data:=.seq #[.int i tk,x] }) e it ((i:Int) + 1) old:=Heap.get?_push_of_some _ he₃
 generalize hh₄:h₃.push { cls:=.type "tuple",data:=.seq #[.int i tk,x] }=h₄ at he₄
 have hsz:h₃.objs.size=hp.objs.size:=by rw [hs₃.1,hs₂.1,hs₁.1]
 have hel:e < hp.objs.size:=Heap.lt_size he
 have ht₄:h₄.get? hp.objs.size=some { cls:=.type "tuple",data:=.seq #[.int i tk,x] }:=by rw [← hh₄,← hsz]; exact Heap.get?_push_size _ rfl
 have hz₄:h₄.objs.size=hp.objs.size + 1:=by rw [← hh₄,Heap.size_push,hsz]
 have hk₄:∀ b o,b≠e→b≠it→hp.get? b=some o→h₄.get? b=some o:=fun b o hbe hbi hb=>by
  rw [← hh₄]; exact Heap.get?_push_of_some _ (hs₃.extBut b o hbe (hs₂.extBut b o hbe (hs₁.extBut b o hbi hb)))
 have hit₄:SIt k h₄ it l (i + 1):=by
  rw [← hh₄]; exact ((hit₁.ext hs₂.extBut (Ne.symm hne)).ext hs₃.extBut (Ne.symm hne)).at fun o ho=>Heap.get?_push_of_some _ ho
 show wpAny _ _ (Builtin.SmallTypes.ownedTupleIsFree (.ref e) >>= _) _ _ ⟨h₄,g,d,tk + 1,os⟩
 rw [hsz]
 clear hh₄ he₃ hs₃ he₂ hs₂ he₁ hs₁ hit₁ hsz h₃ h₂ h₁
 refine wpAny_bind ?_
 ·unfold Builtin.SmallTypes.ownedTupleIsFree
  refine wpAny_bind (wpAny_field he₄ rfl (x:=.none) rfl (wpAny_pure ?_))
  simp only [if_true]
  refine wpAny_bind (wpAny_rule ?_)
  refine wpAny_bind (wpAny_field he₄ rfl (x:=old) rfl ?_)
  refine wpAny_bind (wpAny_setField_rec he₄ (by simp) fun h₅ he₅ hs₅=>?_)
  replace hs₅:Heap.SameBut e h₄ h₅:=hs₅
  replace he₅:IsEnum h₅ e it ((i:Int) + 1) x:=he₅
  show wpAny _ _ (Builtin.SmallTypes.ownedTupleHandOut (.ref e) (.ref hp.objs.size) >>= _) _ _ ⟨h₅,g,d,tk + 1,os⟩
  refine wpAny_bind ?_
  ·unfold Builtin.SmallTypes.ownedTupleHandOut
   refine wpAny_bind (wpAny_setField_rec he₅ (by simp) fun h₆ he₆ hs₆=>?_)
   replace hs₆:Heap.SameBut e h₅ h₆:=hs₆
   replace he₆:IsEnumOut h₆ e it ((i:Int) + 1) x hp.objs.size:=he₆
   refine wpAny_setField_rec he₆ (by simp) fun h₇ he₇ hs₇=>?_
   replace hs₇:Heap.SameBut e h₆ h₇:=hs₇
   replace he₇:IsEnumOut h₇ e it ((i:Int) + 1) x hp.objs.size:=he₇
   refine wpAny_bind (wpAny_letGo (wpAny_pure ⟨_,rfl,hQ h₇ he₇ ?_ ?_ ?_ ?_⟩))
   ·exact ((hit₄.ext hs₅.extBut (Ne.symm hne)).ext hs₆.extBut (Ne.symm hne)).ext hs₇.extBut (Ne.symm hne)
   ·exact hs₇.extBut _ _ (Nat.ne_of_gt hel) (hs₆.extBut _ _ (Nat.ne_of_gt hel) (hs₅.extBut _ _ (Nat.ne_of_gt hel) ht₄))
   ·rw [hs₇.1,hs₆.1,hs₅.1,hz₄]
   ·exact fun b o hbe hbi hb=>hs₇.extBut b o hbe (hs₆.extBut b o hbe (hs₅.extBut b o hbe (hk₄ b o hbe hbi hb)))
theorem zaet {k:SK}{e it l:Addr}{i:Nat}{items:Array Value}{x old:Value}{Q:Option Value→Shared→Prop}
  (he:IsEnum s.heap e it i old) (hit:SIt k s.heap it l i) (hl:SIs k s.heap l items) (hx:items[i]?=some x) (hne:e≠it)
  (hQ:∀ h',IsEnumOut h' e it ((i:Int) + 1) x s.heap.objs.size→SIt k h' it l (i + 1) →
   h'.get? s.heap.objs.size=some { cls:=.type "tuple",data:=.seq #[.int i s.toks,x] }→h'.objs.size=s.heap.objs.size + 1 →
   (∀ b o,b≠e→b≠it→s.heap.get? b=some o→h'.get? b=some o)→Q (some (.ref s.heap.objs.size)) { s with heap:=h',toks:=s.toks + 1 }) :
  wpAny (model prog w) A (pyNext (.ref e)) Q E s:=by
 have hT:s.TypeIs (.ref e) "enumerate" := ⟨_,he,rfl⟩
 unfold pyNext
 exact wpAny_bind (wpAny_attempt (wpAny_callSpecial?_slot (name:=Str.ofString "__next__") hT F.slot_enumerate_next
  (wpAny_call_entry F.slot_enumerate_next hT F.entry_enumerate_next
   (zalf he hit hl hx hne fun h' a b c d k=>wpAny_pure (hQ h' a b c d k)) (F.args_enumerate_next_1 _))))
theorem zafd {k:SK}{e it l:Addr}{i:Nat}{items:Array Value}{old:Value}{Q:Option Value→Shared→Prop} (hh:A.handled=none)
  (he:IsEnum s.heap e it i old) (hit:SIt k s.heap it l i) (hl:SIs k s.heap l items) (hx:items[i]?=none)
  (hQ:∀ h',Heap.ExtBut it s.heap h'→Q none { s with heap:=h' }):wpAny (model prog w) A (pyNext (.ref e)) Q E s:=by
 have hT:s.TypeIs (.ref e) "enumerate" := ⟨_,he,rfl⟩
 unfold pyNext
 refine wpAny_bind (wpAny_attempt (wpAny_callSpecial?_slot (name:=Str.ofString "__next__") hT F.slot_enumerate_next
  (wpAny_call_entry F.slot_enumerate_next hT F.entry_enumerate_next ?_ (F.args_enumerate_next_1 _))))
 show wpAny _ _ (field (.ref e) 2 >>= _) _ _ _
 refine wpAny_bind (wpAny_field he rfl (x:=.ref it) rfl ?_)
 refine wpAny_bind (zaeq hh hit hl hx fun h' x he' hx'=>?_)
 obtain ⟨o,ho,hc⟩:=hx'
 refine wpAny_bind (wpAny_isInstance (T := "StopIteration") (b:=true) ⟨o,ho,hc⟩ isSubtype_stop ?_)
 exact wpAny_pure (hQ _ he')
end
def Itn (K:PySem.W.Frag) (k:SK) (a:Addr):It :=
 ⟨fun i H=>∃ xs x,Sq k K H a xs∧xs[i]?=some x,
  fun i H v H'=>∃ T,H T=none∧v=.ref T∧∀ xs,Sq k K H a xs→∃ x,xs[i]?=some x∧H'=upd H T (.tup [.int i,x]),
  fun i H=>∃ xs,Sq k K H a xs∧xs.length≤i⟩
theorem zamn {P:Program}{w:World}{K:PySem.W.Frag}{elts:List Expr}{kk:Nat}{tpos:Pos}{k:SK}{e it a:Addr} (hne:e≠it) :
  Turn P w K (.Tuple elts kk tpos) (Itn K k a) [e,it] e (fun i h=>(∃ old,IsEnum h e it i old)∧SIt k h it a i) where
 mem:=by simp
 obj:=fun i h st b hb=>by
  obtain ⟨⟨old,he⟩,h1⟩:=st
  simp only [List.mem_cons,List.not_mem_nil,or_false] at hb
  rcases hb with rfl | rfl
  ·exact ⟨_,he,fun v q=>nomatch q⟩
  ·exact h1.obj
 keep:=fun i h h' st k=>by
  obtain ⟨⟨old,he⟩,h1⟩:=st
  exact ⟨⟨old,k _ (by simp) _ he⟩,h1.at fun o e=>k _ (by simp) o e⟩
 item:=by
  intro X hP hw hK hc i pins s σ H E I hf st hg
  subst hP hw hK
  obtain ⟨⟨old,he⟩,h1⟩:=st
  obtain ⟨xs,x,q1,hx⟩:=hg
  obtain ⟨ix,rx,px⟩:=I.sis q1
  obtain ⟨u,hu,ru⟩:=rx.get hx
  refine zaet he h1 px (x:=u) (by simpa using hu) hne fun h' a1 a2 a3 a4 a5=>?_
  refine ⟨_,rfl,wpAny_letOwnedTupleGo_enum (s:={ s with heap:=h',toks:=s.toks + 1 }) a1 fun h'' b1 b2=>?_⟩
  have elt:e < s.heap.objs.size:=Heap.lt_size he
  have ilt:it < s.heap.objs.size:=by obtain ⟨o,ho,_⟩:=h1.obj; exact Heap.lt_size ho
  have k2:∀ c o,c ∉ [e,it]→s.heap.get? c=some o→h''.get? c=some o:=fun c o hc ec=>by
   simp only [List.mem_cons,List.not_mem_nil,or_false,not_or] at hc
   exact b2.extBut _ _ hc.1 (a5 c o hc.1 hc.2 ec)
  have hT2:h''.get? s.heap.objs.size=some { cls:=.type "tuple",data:=.seq #[.int i s.toks,u] }:=b2.extBut _ _ (Nat.ne_of_gt elt) a3
  refine ⟨.ref s.heap.objs.size,upd H s.heap.objs.size (.tup [.int i,x]),I.turnedNew (t':=s.toks + 1) (o:=.tup [.int i,x]) k2 hf (Nat.le_refl _)
   ⟨by show 2≤sizeLine; decide,[.int i s.toks,u],.cons ⟨_,rfl⟩ (.cons ru .nil),⟨_,hT2,rfl,_,rfl⟩⟩,rfl,
   ⟨_,I.hok.fresh (Nat.le_refl _),rfl,fun xs' e1=>?_⟩,⟨⟨u,by simpa using b1⟩,a2.at fun o eo=>b2.extBut _ _ (Ne.symm hne) eo⟩,fun b hb=>?_⟩
  ·rw [I.sq_inj e1 q1]
   exact ⟨x,hx,rfl⟩
  ·have blt:b < s.heap.objs.size:=by
    simp only [List.mem_cons,List.not_mem_nil,or_false] at hb
    rcases hb with rfl | rfl
    ·exact elt
    ·exact ilt
   rw [zaa0 (Nat.ne_of_lt blt)]
   exact (hf b hb).1
 done:=by
  intro X hP hw hK hc i pins s σ H E I hf st hg
  subst hP hw hK
  obtain ⟨⟨old,he⟩,h1⟩:=st
  obtain ⟨xs,q1,hl⟩:=hg
  obtain ⟨ix,rx,px⟩:=I.sis q1
  have l1:=rx.length
  refine zafd (I.ok.hd hc) he h1 px (by simp; omega) fun h' hk=>⟨rfl,I.turnedL (t':=s.toks) (its:=[e,it]) (fun b o hb eb=>?_) hf⟩
  simp only [List.mem_cons,List.not_mem_nil,or_false,not_or] at hb
  exact hk b o hb.2 eb
 self:=fun _ _ _ _ _ st h=>by
  obtain ⟨⟨old,he⟩,_⟩:=st
  exact wpAny_pyIter_enum he h
section
variable {X:Cx}{elts:List Expr}{kk:Nat}{tpos:Pos}
def iEnum (K:PySem.W.Frag) (k:SK) (ta:TA):TI:=fun σ H R=>ta σ H fun vs H1=>∃ a,vs=[.ref a]∧(∃ xs,Sq k K H1 a xs)∧R (Itn K k a) H1
theorem zary (k:SK) {a:Expr}{ta:TA}{p pos:Pos} (hg:Gl X "enumerate") (hm:X.mg "enumerate" = none) (ha:PA X [a] ta) (hs:starEach [a] X.env=[(false,eval a X.env)]:=by rfl) :
  PI X (.Tuple elts kk tpos) (.Call (.Name "enumerate" p) [a] [] pos) (iEnum X.K k ta):=by
 intro pins s σ H R I h
 refine Call_ (zad9 I hg hm PyProof.Rows.Boot.«enumerate» (PyProof.Rows.callWith_type1 (thn (ha pos pins s σ H _ I h) fun us s1 ⟨vs,H1,I1,r1,q1⟩=>?_) hs rfl))
 obtain ⟨a',e,⟨xs,qx⟩,q⟩:=q1
 subst e
 cases r1 with
 | cons r rr =>
  cases rr
  cases r
  obtain ⟨ix,rx,px⟩:=I1.sis qx
  refine zale px fun h' b1 b2 b3=>wpAny_pyIter_enum (s:={ s1 with heap:=h' }) b1 ?_
  have nn:∀ b,s1.heap.objs.size≤b→FpOk X pins H1 b:=fun b hb=>I1.fpOk hb (I1.hok.fresh hb)
  refine ⟨_,[s1.heap.objs.size + 1,s1.heap.objs.size],_,_,H1,rfl,I1.kept (t':=s1.toks) b3,zamn (k:=k) (Nat.ne_of_gt (Nat.lt_succ_self _)),⟨⟨_,b1⟩,b2⟩,fun b hb=>?_,q⟩
  simp only [List.mem_cons,List.not_mem_nil,or_false] at hb
  rcases hb with rfl | rfl
  ·exact nn _ (Nat.le_succ _)
  ·exact nn _ (Nat.le_refl _)
end
theorem zafy {K:PySem.W.Frag}{k:SK}{a:Addr}{xs:List V}{g:TG}{tb:TS}{D:Ends}{σ:St}{H:Hp} (Pv:Nat→St→Hp→Prop) (h0:Pv 0 σ H)
  (hl:∀ i σ H,i≤xs.length→Pv i σ H→Sq k K H a xs)
  (hs:∀ i x σ H T,xs[i]?=some x→Pv i σ H→H T=none→g (.ref T) σ (upd H T (.tup [.int i,x])) fun σ2 H2=>tb { D with nx:=Pv (i + 1),ct:=Pv (i + 1),bk:=D.nx } σ2 H2)
  (hd:∀ σ H,Pv xs.length σ H→D.nx σ H):Loop (Itn K k a) g tb D σ H:=by
 refine ⟨fun i m σ H=>m=xs.length - i∧i≤xs.length∧Pv i σ H,⟨xs.length,by simp,Nat.zero_le _,h0⟩,?_⟩
 rintro i m σ H ⟨rfl,hi,p⟩
 have q1:=hl i σ H hi p
 by_cases hlt:i < xs.length
 ·refine .inr ⟨⟨xs,xs[i],q1,by simp [hlt]⟩,Pv (i + 1),fun σ' H' p'=>⟨xs.length - (i + 1),by omega,rfl,hlt,p'⟩,fun x H' y=>?_⟩
  obtain ⟨T,hT,rfl,y⟩:=y
  obtain ⟨u,e1,rfl⟩:=y xs q1
  exact hs i u σ H T e1 p hT
 ·have e:i=xs.length:=by omega
  refine .inl ⟨⟨xs,q1,by omega⟩,?_⟩
  subst e
  exact hd σ H p
theorem zakm {K:PySem.W.Frag}{k1 k2:SK}{a b:Addr} (xs zs:List V) {g:TG}{tt:TT}{te:TE}{Q:List V→Hp→Prop}{σ:St}{H:Hp} (Pv:Nat→List V→St→Hp→Prop) (hn:xs.length < sizeLine) (hz:xs.length=zs.length) (h0:Pv 0 [] σ H) (hl:∀ i ys σ H,i≤xs.length→Pv i ys σ H→ys.length≤i∧Sq k1 K H a xs∧Sq k2 K H b zs)
  (turn:∀ i ys σ H x z T,xs[i]?=some x→zs[i]?=some z→Pv i ys σ H→H T=none→g (.ref T) σ (upd H T (.tup [x,z])) fun σ2 H2=>tt σ2 H2 fun b H3=>if b=true then te σ2 H3 fun y H4=>Pv (i + 1) (ys++[y]) σ2 H4 else Pv (i + 1) ys σ2 H3)
  (after:∀ ys σ H,Pv xs.length ys σ H→Q ys H):Comp (Itz K k1 k2 a b) g tt te Q σ H :=
 zahg xs.length Pv h0 (fun i ys σ H hi p=>Nat.lt_of_le_of_lt (Nat.le_trans (hl i ys σ H hi p).1 hi) hn)
  (fun i ys σ H hi p=>⟨xs,zs,xs[i],zs[i]'(hz ▸ hi),(hl i ys σ H (Nat.le_of_lt hi) p).2.1,(hl i ys σ H (Nat.le_of_lt hi) p).2.2,List.getElem?_eq_getElem hi,List.getElem?_eq_getElem (hz ▸ hi)⟩)
  (fun ys σ H p=>⟨xs,zs,(hl _ ys σ H (Nat.le_refl _) p).2.1,(hl _ ys σ H (Nat.le_refl _) p).2.2,.inl (Nat.le_refl _)⟩) (fun i ys σ H hi p x H' y=>by
   obtain ⟨T,hT,rfl,y⟩:=y
   obtain ⟨u,v,e1,e2,rfl⟩:=y xs zs (hl i ys σ _ (Nat.le_of_lt hi) p).2.1 (hl i ys σ _ (Nat.le_of_lt hi) p).2.2
   exact turn i ys σ _ u v T e1 e2 p hT) after
end L2

namespace L2
open PySem PySem.Spec PyProof.Rows
theorem zaeu:typeLookup (.type "list") "__getattr__" = pure none:=by rw [typeLookup_type,builtinLookup_eq_fast]; kernel_rfl
theorem zags:typeLookup (.type "list") "keys" = pure none:=by rw [typeLookup_type,builtinLookup_eq_fast]; kernel_rfl
set_option maxHeartbeats 4000000 in
theorem zafz (a:Addr) (its:Array Value) (n:Nat) (name:Str) (u:Tok) (hmiss:typeLookup (.type "list") name=pure none) (hns:[Str.ofString "__module__",Str.ofString "__name__",Str.ofString "__qualname__",Str.ofString "__doc__",Str.ofString "__annotations__"].contains name=false) (hsz:name.length + 100≤sizeLine:=by size_fits) :
  Meets (Builtin.«object.__getattribute__» ⟨[.ref a,.str name u],[]⟩) (fun A R s=>s.heap.get? a=some { cls:=.type "list",data:=.seq its n }∧raisesAttr (.ref a) name A R s) :=
 Meets.of_wp fun prog w A R s hs=>by
  obtain ⟨hp,g,d,tk,os⟩:=s
  obtain ⟨ha,hs⟩:=hs
  have hT:(⟨hp,g,d,tk,os⟩:Shared).TypeIs (.ref a) "list" := ⟨_,ha,rfl⟩
  unfold Builtin.«object.__getattribute__»
  repeat (any_goals (first | assumption | wp_step))
  rw [if_neg (by rw [hns]; exact Bool.false_ne_true)]
  repeat (any_goals (first | assumption | wp_step))
  exact wpAny_raiseAttrError hs.1 hs.2 (attrMsg_fits (by decide +kernel) hsz)
section
variable {prog:Program}{w:World}{A:Around}{E:Value→Shared→Prop}{s:Shared}
set_option maxHeartbeats 4000000 in
theorem zagt {a:Addr}{its:Array Value}{n:Nat}{name:Str}{Q:Option Value→Shared→Prop} (hmiss:typeLookup (.type "list") name=pure none) (hns:[Str.ofString "__module__",Str.ofString "__name__",Str.ofString "__qualname__",Str.ofString "__doc__",Str.ofString "__annotations__"].contains name=false) (hA:A.handled=none) (ha:s.heap.get? a=some { cls:=.type "list",data:=.seq its n })
  (h:∀ h' tk,(∀ b o,s.heap.get? b=some o→h'.get? b=some o)→Q none { s with heap:=h',toks:=tk }) (hsz:name.length + 100≤sizeLine:=by size_fits) :
  wpAny (model prog w) A (getAttr? (.ref a) name) Q E s:=by
 obtain ⟨hp,g,d,tk,os⟩:=s
 have hT:∀ t',(⟨hp,g,d,t',os⟩:Shared).TypeIs (.ref a) "list" := fun _=>⟨_,ha,rfl⟩
 have f1:=sub_AttributeError
 have f3:=F.slot_list_getattribute.lookup
 have f4:=F.slot_list_getattribute.bind (.ref a)
 have f5:=zaeu
 unfold getAttr? getAttrBy? getAttrBy
 repeat (any_goals (first | assumption | exact hT _ | ((with_reducible show wpAny _ _ (call (Value.builtin "list.__getattribute__") _ _) _ _ _); refine call_meets F.slot_list_getattribute (hT _) F.entry_list_ga (F.args_list_getattribute_2 _ _) (zafz a its n name _ hmiss hns hsz) ⟨ha,hA,fun h' tk' e hx=>?_⟩) | wp_step))
 obtain ⟨t',u',he⟩:=hx.there
 show wpAny _ _ (getattributeRaised _ _ _ _ _ _ _) _ _ _
 unfold getattributeRaised
 repeat (any_goals (first | assumption | wp_step))
 exact h _ _ fun b o hb=>hx.keeps b o hb
end
theorem zaii:entryFor table "dict.update.loop" = some Builtin.«dict.update.loop»:=entryFor_of_tree (by kernel_rfl)
theorem zaeg:plainId "dict.update.loop" = true:=by decide +kernel
section
variable {prog:Program}{w:World}{K:Type} [DecidableEq K] {knd:KeyKind prog w K}{A:Around}{R:Result→Shared→Prop}
theorem zamo {d I l:Addr}{items:Array Value}{ps:List (K × Value)} (hh:A.handled=none) (hdI:d≠I) (hld:l≠d) (hlI:l≠I) (hn:items.size=ps.length) (hsz:ps.length≤sizeLine) :
  ∀ (k i:Nat) (s:Shared) (acc:List (K × Value)),ps.length - i=k→i≤ps.length→acc.length≤i→s.heap.IsListIter I l i→s.heap.IsList l items→s.heap.DictOf knd d acc →
  (∀ (j:Nat) (kv:K × Value),ps[j]?=some kv→∃ (t:Addr) (key:Value),items[j]?=some (Value.ref t)∧s.heap.IsTuple t #[key,kv.2]∧knd.is kv.1 key=true∧t≠d∧t≠I) →
  (∀ h' tk,h'.DictOf knd d (merged acc (ps.drop i))→(∀ b o,b≠d→b≠I→s.heap.get? b=some o→h'.get? b=some o)→R (.ok (.ret .none)) { s with heap:=h',toks:=tk }) →
  codeAny (model prog w) A (.builtin "dict.update.loop" ⟨[.ref d,.ref I,rawInt i,.none],[]⟩) R s:=by
 intro k
 induction k with
 | zero =>
  intro i s acc hk hi hacc hit hl hd hp hR
  refine codeAny_builtin zaii ?_
  rw [Around.under_plainId zaeg _]
  show wpAny _ A.in1 (pyNext (.ref I) >>= _) _ _ s
  refine wpAny_bind (wpAny_pyNext_list_end (A:=A.in1) hh hit hl (by simp; omega) fun h₁ he₁=>?_)
  show wpAny _ _ (Builtin.Dict.addKeywords d [] >>= _) _ _ _
  refine wpAny_bind (wpAny_pure (wpAny_pure ?_))
  have:=hR h₁ s.toks (by rw [List.drop_of_length_le (by omega)]; exact hd.extBut he₁ hdI) (fun b o hb hbI e=>he₁ b o hbI e)
  exact this
 | succ k ih =>
  intro i s acc hk hi hacc hit hl hd hp hR
  have hlt:i < ps.length:=by omega
  obtain ⟨t,key,hx,ht,hkey,htd,htI⟩:=hp i ps[i] (List.getElem?_eq_getElem hlt)
  refine codeAny_builtin zaii ?_
  rw [Around.under_plainId zaeg _]
  show wpAny _ A.in1 (pyNext (.ref I) >>= _) _ _ s
  refine wpAny_bind (wpAny_pyNext_list_item hit hl hx fun h₁ hit₁ hs₁=>?_)
  have ht₁:h₁.IsTuple t #[key,ps[i].2]:=let ⟨o,ho,r⟩:=ht; ⟨o,(hs₁.2 t htI).trans ho,r⟩
  have hd₁:h₁.DictOf knd d acc:=hd.sameBut hs₁ hdI
  refine wpAny_bind (wpAny_holding ?_)
  obtain ⟨ot,hot,hotc,nt,hotd⟩:=id ht₁
  refine wpAny_bind (wpAny_tryCatch ?_)
  unfold Builtin.Dict.pairItems
  refine wpAny_bind (wpAny_typeOf (T := "tuple") (⟨ot,hot,hotc⟩:Shared.TypeIs _ (.ref t) "tuple") ?_)
  rw [if_pos (by decide)]
  refine wpAny_bind (wpAny_seqItems hot hotd (wpAny_pure ?_))
  show wpAny _ _ (holding [key,ps[i].2] (dictSet d key ps[i].2)) _ _ _
  refine wpAny_holding (wpAny_dictSet_pairs (hsz:=by omega) hkey hd₁ fun h₂ hd₂ hs₂=>wpAny_pure ?_)
  refine ⟨plainId_quiet zaeg _,?_⟩
  have up:∀ b o,b≠d→b≠I→s.heap.get? b=some o→h₂.get? b=some o:=fun b o hb hbI e=>(hs₂.2 b hb).trans ((hs₁.2 b hbI).trans e)
  have e1:(i:Int) + 1=((i + 1:Nat):Int):=by omega
  have:=ih (i + 1) { s with heap:=h₂,toks:=s.toks + 1 } (stored acc ps[i].1 ps[i].2) (by omega) hlt (Nat.le_trans (stored_length_le ..) (by omega)) (hit₁.extBut hs₂.extBut (Ne.symm hdI))
   (let ⟨o,ho,r⟩:=hl; ⟨o,up l o hld hlI ho,r⟩) hd₂ (fun j kv hj=>by
    obtain ⟨t',key',a1,⟨o,ho,r⟩,a3,a4,a5⟩:=hp j kv hj
    exact ⟨t',key',a1,⟨o,up t' o a4 a5 ho,r⟩,a3,a4,a5⟩) (fun h' tk hm hk'=>by
    have:=hR h' tk (by
     rw [List.drop_eq_getElem_cons hlt]
     exact hm) fun b o hb hbI e=>hk' b o hb hbI (up b o hb hbI e)
    exact this)
  rw [← e1] at this
  exact this
end
section
variable {prog:Program}{w:World}{K:Type} [DecidableEq K] {knd:KeyKind prog w K}{A:Around}{E:Value→Shared→Prop}{s:Shared}
theorem zaf0 {l:Addr}{items:List Value}{n:Nat}{ps:List (K × Value)}{Q:Value→Shared→Prop} (hh:A.handled=none) (hl:s.heap.get? l=some { cls:=.type "list",data:=.seq items.toArray n })
  (hn:items.length=ps.length) (hsz:ps.length≤sizeLine) (hp:∀ (j:Nat) (kv:K × Value),ps[j]?=some kv→∃ (t:Addr) (key:Value),items[j]?=some (Value.ref t)∧s.heap.IsTuple t #[key,kv.2]∧knd.is kv.1 key=true)
  (h:∀ h' tk,h'.DictOf knd s.heap.objs.size (merged [] ps)→(∀ b o,s.heap.get? b=some o→h'.get? b=some o)→Q (.ref s.heap.objs.size) { s with heap:=h',toks:=tk }) :
  wpAny (model prog w) A (call (.type "dict") [.ref l]) Q E s:=by
 refine callType_codes (Q₁:=fun obj s₁=>obj=.ref s.heap.objs.size∧s₁={ s with heap:=s.heap.push { cls:=.type "dict",data:=.dict #[] } }) F.kt_called_dict (F.kt_typeCall_dict_1 _) F.entry_dict_init (kt_code_dict_new _ ⟨rfl,rfl⟩) ?_
 rintro obj s₁ ⟨rfl,rfl⟩
 have hnew:(s.heap.push { cls:=.type "dict",data:=.dict #[] }).DictOf knd s.heap.objs.size []:=Heap.DictOf.new s.heap
 have hl':(s.heap.push { cls:=.type "dict",data:=.dict #[] }).get? l=some { cls:=.type "list",data:=.seq items.toArray n }:=Heap.get?_push_of_some _ hl
 refine ⟨hnew.typeIs,F.args_dict_init_2 _ _,?_⟩
 unfold Builtin.«dict.__init__»
 refine wpAny_bind ?_
 unfold Builtin.Dict.selfAndRest
 refine wpAny_bind (wpAny_notOrdered_dict hnew.typeIs ?_)
 show wpAny _ _ (pure (s.heap.objs.size,[Value.ref l])) _ _ _
 refine wpAny_pure ?_
 show wpAny _ _ (Builtin.Dict.updateFrom "dict.__init__" s.heap.objs.size (.ref l) [] .none) _ _ _
 unfold Builtin.Dict.updateFrom
 refine wpAny_bind (wpAny_typeOf (T := "list") (⟨_,hl',rfl⟩:Shared.TypeIs _ (.ref l) "list") ?_)
 rw [if_pos (by decide)]
 refine wpAny_bind (zagt (name := "keys") zags (by decide +kernel) ?_ hl' fun h₁ tk₁ k₁=>?_)
 ·first | exact hh | (show A.in1.handled=none; exact hh)
 rw [if_pos (show (none:Option Value).isNone=true from rfl)]
 refine wpAny_bind (wpAny_rule ?_)
 have hl₁:h₁.IsList l items.toArray:=⟨_,k₁ _ _ hl',rfl,n,rfl⟩
 refine wpAny_bind (wpAny_pyIter_list (s:={ s with heap:=h₁,toks:=tk₁ }) hl₁ ?_)
 have szd:s.heap.objs.size < h₁.objs.size:=by
  obtain ⟨o,_,_,ho,_⟩:=hnew
  exact Heap.lt_size (k₁ _ _ ho)
 have lsz:l < s.heap.objs.size:=Heap.lt_size hl
 have old:∀ b o,s.heap.get? b=some o→(h₁.push { cls:=.type "list_iterator",data:=.fields #[.ref l,.int 0 0] }).get? b=some o:=fun b o e=>Heap.get?_push_of_some _ (k₁ b o (Heap.get?_push_of_some _ e))
 refine wpAny_pure ⟨plainId_quiet zaeg _,?_⟩
 refine zamo (knd:=knd) (d:=s.heap.objs.size) (I:=h₁.objs.size) (l:=l) (items:=items.toArray) (ps:=ps) (A:=A.in1) hh (Nat.ne_of_lt szd) (Nat.ne_of_lt lsz) (Nat.ne_of_lt (Nat.lt_trans lsz szd)) (by simpa using hn) hsz ps.length 0 _ [] rfl (Nat.zero_le _) (Nat.le_refl _)
  ⟨_,Heap.get?_push_size _ rfl,rfl,rfl⟩ ⟨_,Heap.get?_push_of_some _ (k₁ _ _ hl'),rfl,n,rfl⟩ (let ⟨o,es,ep,ho,r⟩:=hnew; ⟨o,es,ep,Heap.get?_push_of_some _ (k₁ _ _ ho),r⟩) (fun j kv hj=>?_) (fun h' tk hm hk=>?_)
 ·obtain ⟨t,key,a1,⟨o,ho,r⟩,a3⟩:=hp j kv hj
  have tlt:=Heap.lt_size ho
  exact ⟨t,key,by simpa using a1,⟨o,old t o ho,r⟩,a3,Nat.ne_of_lt tlt,Nat.ne_of_lt (Nat.lt_trans tlt szd)⟩
 ·exact ⟨rfl,h h' tk hm fun b o e=>hk b o (Nat.ne_of_lt (Heap.lt_size e)) (Nat.ne_of_lt (Nat.lt_trans (Heap.lt_size e) szd)) (old b o e)⟩
end
end L2

namespace L2
open PySem PySem.Spec PyProof.Rows
section
variable {X:Cx}
theorem zamp {P:Program}{w:World}{k:Key}{u:Value} (r:RelV (kV k) u):(mixKind P w).is k u=true:=zafs r
theorem zaf1 {prog:Program}{w:World}{A:Around}{bs:List Bool}:TruthOf prog w A (fun i v=>(bs.map fun b=>Value.bool b).toArray[i]?=some v) (fun i=>bs.getD i false):=by
 intro i v s Q E hP hQ
 have hP':(bs.map fun b=>Value.bool b)[i]?=some v:=by simpa using hP
 rw [List.getElem?_map] at hP'
 cases e:bs[i]? with
 | none=>rw [e] at hP'; cases hP'
 | some b =>
  rw [e] at hP'
  cases hP'
  have:bs.getD i false=b:=by rw [List.getD_eq_getElem?_getD,e]; rfl
  have hQ:Q (bs.getD i false) s:=hQ
  rw [this] at hQ
  exact wpAny_pure hQ
theorem zamq (bs:List Bool):((List.range bs.length).all fun i=>bs.getD i false)=bs.all id:=by
 rw [Bool.eq_iff_iff,List.all_eq_true,List.all_eq_true]
 constructor
 ·intro h b hb
  obtain ⟨i,hi,rfl⟩:=List.mem_iff_getElem.mp hb
  have:=h i (List.mem_range.mpr hi)
  rw [List.getD_eq_getElem?_getD,List.getElem?_eq_getElem hi] at this
  exact this
 ·intro h i hi
  have hi:=List.mem_range.mp hi
  rw [List.getD_eq_getElem?_getD,List.getElem?_eq_getElem hi]
  exact h _ (List.getElem_mem hi)
theorem zamr (bs:List Bool):((List.range bs.length).any fun i=>bs.getD i false)=bs.any id:=by
 rw [Bool.eq_iff_iff,List.any_eq_true,List.any_eq_true]
 constructor
 ·rintro ⟨i,hi,h⟩
  have hi:=List.mem_range.mp hi
  rw [List.getD_eq_getElem?_getD,List.getElem?_eq_getElem hi] at h
  exact ⟨bs[i],List.getElem_mem hi,h⟩
 ·rintro ⟨b,hb,h⟩
  obtain ⟨i,hi,rfl⟩:=List.mem_iff_getElem.mp hb
  refine ⟨i,List.mem_range.mpr hi,?_⟩
  rw [List.getD_eq_getElem?_getD,List.getElem?_eq_getElem hi]
  exact h
theorem zaev:∀ {bs:List Bool}{its:List Value},Vals (bs.map V.bl) its→its=bs.map fun b=>Value.bool b
 | [],_,.nil=>rfl
 | b :: bs,_,.cons r t=>by rw [List.map_cons,zaev t]; cases r; rfl
theorem zadn (hc:X.calm=true):CallR X (.builtin "all") (fun xs H Q=>∃ (p:Addr) (bs:List Bool),xs=[.ref p]∧H p=some (.lst (bs.map V.bl))∧Q (.bl (bs.all id)) H):=by
 intro pins s σ H xs us Q I r h
 obtain ⟨p,bs,rfl,hp,q⟩:=h
 obtain ⟨u,rfl,ru⟩:=vals1 r
 cases ru
 obtain ⟨z,its,n,rv,e⟩:=I.hok p _ hp
 have ei:=zaev rv
 subst ei
 have hl:s.heap.IsList p (bs.map fun b=>Value.bool b).toArray:=⟨_,e,rfl,n,rfl⟩
 refine call_all_walk (wpAny_pyIter_list hl ?_)
 have hne:p≠s.heap.objs.size:=Nat.ne_of_lt (Heap.lt_size e)
 refine ⟨s.heap.objs.size,_,_,_,_,_,_,rfl,Walks.list (by first | exact I.ok.hd hc | (show X.A.in1.handled=none; exact I.ok.hd hc)) s.heap.objs.size p hne (bs.map fun b=>Value.bool b).toArray,
  ⟨⟨_,Heap.get?_push_size _ rfl,rfl,rfl⟩,⟨_,Heap.get?_push_of_some _ e,rfl,n,rfl⟩⟩,zaf1,fun h' tk hk=>?_⟩
 have sz:(bs.map fun b=>Value.bool b).toArray.size=bs.length:=by simp
 rw [sz,zamq]
 exact ⟨.bl (bs.all id),H,I.kept (t':=tk) fun b o eb=>hk b o (by simp; exact Nat.ne_of_lt (Heap.lt_size eb)) (Heap.get?_push_of_some _ eb),rfl,q⟩
theorem zakn (hc:X.calm=true):CallR X (.builtin "any") (fun xs H Q=>∃ (p:Addr) (bs:List Bool),xs=[.ref p]∧H p=some (.lst (bs.map V.bl))∧Q (.bl (bs.any id)) H):=by
 intro pins s σ H xs us Q I r h
 obtain ⟨p,bs,rfl,hp,q⟩:=h
 obtain ⟨u,rfl,ru⟩:=vals1 r
 cases ru
 obtain ⟨z,its,n,rv,e⟩:=I.hok p _ hp
 have ei:=zaev rv
 subst ei
 have hl:s.heap.IsList p (bs.map fun b=>Value.bool b).toArray:=⟨_,e,rfl,n,rfl⟩
 refine call_any_walk (wpAny_pyIter_list hl ?_)
 have hne:p≠s.heap.objs.size:=Nat.ne_of_lt (Heap.lt_size e)
 refine ⟨s.heap.objs.size,_,_,_,_,_,_,rfl,Walks.list (by first | exact I.ok.hd hc | (show X.A.in1.handled=none; exact I.ok.hd hc)) s.heap.objs.size p hne (bs.map fun b=>Value.bool b).toArray,
  ⟨⟨_,Heap.get?_push_size _ rfl,rfl,rfl⟩,⟨_,Heap.get?_push_of_some _ e,rfl,n,rfl⟩⟩,zaf1,fun h' tk hk=>?_⟩
 have sz:(bs.map fun b=>Value.bool b).toArray.size=bs.length:=by simp
 rw [sz,zamr]
 exact ⟨.bl (bs.any id),H,I.kept (t':=tk) fun b o eb=>hk b o (by simp; exact Nat.ne_of_lt (Heap.lt_size eb)) (Heap.get?_push_of_some _ eb),rfl,q⟩
end
end L2

namespace L2
open PySem PySem.Spec PyProof.Rows
example (K:PySem.W.Frag):PySem.W.kitAny K (.type "list") [.type "list",.type "tuple"]=some true:=rfl
example (K:PySem.W.Frag):PySem.W.kitAny K (.type "tuple") [.type "list",.type "tuple"]=some true:=rfl
example (K:PySem.W.Frag):PySem.W.kitAny K (.type "int") [.type "list",.type "tuple"]=some false:=rfl
end L2

namespace L2
open PySem PySem.Spec PyProof.Rows
structure MethOk (P:Program) (w:World) (K:PySem.W.Frag) (mg:Str→Option Value) (base:Heap) (CX:CXT) (k:Nat) (C:Addr) (m:Str) (ps:List Str) (sp:Sp):Prop where
 cl:Cls K C
 ex:∃ (f:Addr) (fd:FuncData),FnOk P w K mg base CX k f fd ps sp∧Binds K fd ps []∧Meth K C m f
theorem MethOk.mono {P:Program}{w:World}{K:PySem.W.Frag}{mg:Str→Option Value}{base:Heap}{CX:CXT}{j k:Nat}{C:Addr}{m:Str}{ps:List Str}{sp:Sp} (D:MethOk P w K mg base CX j C m ps sp) (h:j≤k):MethOk P w K mg base CX k C m ps sp:=by
 obtain ⟨f,fd,F,b⟩:=D.ex
 exact ⟨D.cl,f,fd,F.mono h,b⟩
structure MakeOk (P:Program) (w:World) (K:PySem.W.Frag) (mg:Str→Option Value) (base:Heap) (CX:CXT) (k:Nat) (C:Addr) (x:Str) (ps:List Str) (sp:Sp):Prop where
 ex:∃ (f:Addr) (fd:FuncData),FnOk P w K mg base CX k f fd ps sp∧Binds K fd ps []∧Mk K C f∧mg x=some (.ref C)
theorem MakeOk.mono {P:Program}{w:World}{K:PySem.W.Frag}{mg:Str→Option Value}{base:Heap}{CX:CXT}{j k:Nat}{C:Addr}{x:Str}{ps:List Str}{sp:Sp} (D:MakeOk P w K mg base CX j C x ps sp) (h:j≤k):MakeOk P w K mg base CX k C x ps sp:=by
 obtain ⟨f,fd,F,b⟩:=D.ex
 exact ⟨f,fd,F.mono h,b⟩
section
variable {X:Cx}{CX:CXT}{k:Nat}{C:Addr}{ps:List Str}{sp:Sp}{E:XK}{x m:Str}{p pos apos:Pos}{e o:Expr}{es:List Expr}{ta:TE}{t:TA}
theorem zaf2 {pl:Sem Bool} (he:Pr (PE X o ta)) (D:MethOk X.prog X.w X.K X.mg X.base CX k C m ps sp) (hr:Room k X.A) (hx:Passes CX X E) (ha:Pr (PA X (e :: es) t))
  (hst:starEach (e :: es) X.env=(false,eval e X.env) :: starEach es X.env:=by rfl) (hpl:(backTo pos (starEach es X.env)).any (·.1)=false:=by rfl)
  (ht:eval (.Call (.Attribute o m apos) (e :: es) [] pos) X.env=(do
   let ov ← eval o X.env
   standAt apos.atName
   let (f,first) ← holding [ov] (getMethod ov m pl)
   callWith pos f first (backTo pos (starEach (e :: es) X.env)) (backToKw pos (keywordEach [] X.env))):=by rfl) :
  Pr (PE X (.Call (.Attribute o m apos) (e :: es) [] pos) (tMeth C m sp [] E ta t)):=by
 obtain ⟨f,fd,F,b,hm⟩:=D.ex
 exact ⟨zarf he.h D.cl hm F hr b .nil hx ha.h hst hpl ht⟩
theorem zaew {pl:Sem Bool} (he:Pr (PE X o ta)) (D:MethOk X.prog X.w X.K X.mg X.base CX k C m ps sp) (hr:Room k X.A) (hx:Passes CX X E)
  (ht:eval (.Call (.Attribute o m apos) [] [] pos) X.env=(do
   let ov ← eval o X.env
   standAt apos.atName
   let (f,first) ← holding [ov] (getMethod ov m pl)
   callWith pos f first (backTo pos (starEach [] X.env)) (backToKw pos (keywordEach [] X.env))):=by rfl) :
  Pr (PE X (.Call (.Attribute o m apos) [] [] pos) (tMeth C m sp [] E ta tNil)):=by
 obtain ⟨f,fd,F,b,hm⟩:=D.ex
 exact ⟨zaon he.h D.cl hm F hr b .nil hx ht⟩
theorem zaf3 (D:MakeOk X.prog X.w X.K X.mg X.base CX k C x ps sp) (hr:Room (k + 1) X.A) (hg:Gl X x) (hx:Passes CX X E)
  (ha:Pr (PA X (e :: es) t)) (hdb:(x == ("__debug__" : Str))=false:=by decide) (he:starEach (e :: es) X.env=(false,eval e X.env) :: starEach es X.env:=by rfl) (hpl:(backTo pos (starEach es X.env)).any (·.1)=false:=by rfl) :
  Pr (PE X (.Call (.Name x p) (e :: es) [] pos) (tMake C sp [] E t)):=by
 obtain ⟨f,fd,F,b,M,hm⟩:=D.ex
 exact ⟨zarg M F hr hg hm b .nil hx ha.h hdb he hpl⟩
end
section
variable {X:Cx}{sc:Scope}{own:List Str}{fr:List Nat}{N':List Str}{tg elt iter:Expr}{ifs:List Expr}{g:TG}{tt:TT}{te:TE}{wi:TI}{pos:Pos}
theorem zab0:Pr (PIf X [] tYes):=⟨zarv⟩
theorem zaeh {c:Expr}{t:TT} (h:Pr (PT X c t)):Pr (PIf X [c] t):=⟨zarw h.h⟩
theorem zabl (hc:X.calm=true) (cs:CompOk sc X.env.scope own X.N fr N') (hi:Pr (PI X tg iter wi)) (hg:∀ cl C s H fp,Pr (PG (cxC X sc cl N' C s H fp) tg g)) (hif:∀ cl C s H fp,Pr (PIf (cxC X sc cl N' C s H fp) ifs tt))
  (he:∀ cl C s H fp,Pr (PE (cxC X sc cl N' C s H fp) elt te)) (hs:∀ x,foldedSetIterable iter X.env x=pure x:=by intro _; rfl):Pr (PE X (.ListComp elt [⟨tg,iter,ifs,0⟩] sc pos) (tComp own.length fr wi g tt te)) :=
 ⟨zarx hc cs hi.h (fun a b c d e=>(hg a b c d e).h) (fun a b c d e=>(hif a b c d e).h) (fun a b c d e=>(he a b c d e).h) hs⟩
theorem zahh (k:SK) {elts:List Expr}{kk:Nat}{tpos:Pos}{a:Expr}{ta:TA}{p pos:Pos} (hg:Gl X "enumerate") (hm:X.mg "enumerate" = none) (ha:Pr (PA X [a] ta)) (hs:starEach [a] X.env=[(false,eval a X.env)]:=by rfl) :
  Pr (PI X (.Tuple elts kk tpos) (.Call (.Name "enumerate" p) [a] [] pos) (iEnum X.K k ta)):=⟨zary k hg hm ha.h hs⟩
theorem zafh:Pr (PPs X pos [] [] []):=⟨zarq⟩
theorem zac4 {k v:Expr}{ks:List (Option Expr)}{vs:List Expr}{tk tv:TE}{trs:List (TE × TE)} (hk:Pr (PE X k tk)) (hv:Pr (PE X v tv)) (hr:Pr (PPs X pos ks vs trs)):Pr (PPs X pos (some k :: ks) (v :: vs) ((tk,tv) :: trs)):=⟨zaow hk.h hv.h hr.h⟩
theorem zafi {keys:List (Option Expr)}{values:List Expr}{trs:List (TE × TE)} (h:Pr (PPs X pos keys values trs)) (hall:keys.all (·.isSome)=true) (hl:keys.length=values.length) (h0:keys≠[])
  (h15:keys.length≤15):Pr (PE X (.Dict keys values pos) (tDisp trs)):=⟨zarr h.h hall hl h0 h15⟩
theorem zaei:Pr (PE X (.Dict [] [] pos) tDNewK):=⟨zaov⟩
theorem zams {o e f:Expr}{td ty tx:TE}{apos cpos:Pos} (hu:X.A.units + 1 < cLine) (ho:Pr (PE X o td)) (he:Pr (PE X e ty)) (hf:Pr (PE X f tx)) (m:M2 X o "get" apos e f cpos):Pr (PE X (.Call (.Attribute o "get" apos) [e,f] [] cpos) (tDGet2 td ty tx)):=⟨zaox hu ho.h he.h hf.h m⟩
theorem zaij {st:Stmt}:Pr (PS X st tNever):=⟨zaoe⟩
theorem compOk {sc outer:Scope}{own N:List Str}{fr:List Nat}{N':List Str} (h1:sc.kind=.function) (h2:∀ y∈sc.names,y.2≠.cell) (h3:∀ y∈sc.names,y.2=.local→sc.names.lookup y.1=some .local)
  (h4:∀ y∈sc.names,y.2=.free→outer.names.lookup y.1=some .cell∨outer.names.lookup y.1=some .free) (h5:N'.Nodup) (h6:N'.map some=own.map some++fr.map fun j=>N[j]?)
  (h7:∀ x∈fr.filterMap (fun j=>N[j]?),sc.names.lookup x=some .free∧(outer.names.lookup x=some .cell∨outer.names.lookup x=some .free)):CompOk sc outer own N fr N' :=
 ⟨h1,h2,h3,h4,h5,h6,fun j hj x hx=>h7 x (List.mem_filterMap.mpr ⟨j,hj,hx⟩)⟩
end
theorem iteD {c:Prop} [Decidable c] {A B:Prop} (hc:c) (h:A):if decide c=true then A else B:=by rw [if_pos (decide_eq_true hc)]; exact h
theorem iteNn {c:Prop} [Decidable c] {A B:Prop} (hc:c) (h:B):if (!decide c)=true then A else B:=by rw [if_neg (by simp [hc])]; exact h
def Tu (H H':Hp):Prop:=∀ b xs,H b=some (.tup xs)→H' b=some (.tup xs)
theorem Tu.same {H H':Hp} (c:Ch [] H H'):Tu H H':=fun b xs h=>c b _ h (by simp)
theorem Tu.ch {H H':Hp}{b:Addr}{o:HO} (c:Ch [b] H H') (hb:H b=some o) (ho:∀ xs,o≠.tup xs):Tu H H':=fun d xs h=>c d _ h (by
 intro z
 have e:d=b:=by simpa using z
 subst e
 rw [hb] at h
 exact ho xs (Option.some.inj h))
theorem Tu.lst {H H':Hp}{b:Addr}{ys:List V} (c:Ch [b] H H') (hb:H b=some (.lst ys)):Tu H H':=Tu.ch c hb (fun xs z=>by cases z)
end L2

namespace L2
open PySem PySem.Spec PyProof.Rows
section
variable {X:Cx}{a b o e value:Expr}{es:List Expr}{f:Str}{ta tb te:TE}{pos:Pos}{tg l:Expr}
theorem zacn (K:PySem.W.Frag) (hK:X.K=K):IxR X (aIxL K):=hK ▸ zabi
theorem zahi (K:PySem.W.Frag) (hK:X.K=K):IxR X (aIxT K):=hK ▸ zabo
theorem zahj (K:PySem.W.Frag) (hK:X.K=K):CallR X (.builtin "len") (fun xs H Q=>∃ p ys,xs=[.ref p]∧(SqL K H p ys∨SqT K H p ys)∧Q (.int ys.length) H):=hK ▸ zaai
theorem zaex (K:PySem.W.Frag) (hK:X.K=K):OpR X (compareOp .In) (rIn K false):=hK ▸ zaed
theorem zao5 (K:PySem.W.Frag) (hK:X.K=K) (he:Pr (PE X e ta)) (hb:attributeBase e f X.env (eval e X.env)=eval e X.env):Pr (PE X (.Attribute e f pos) (tFld K ta f)):=hK ▸ ⟨zap4 he.h hb⟩
theorem zamt (K:PySem.W.Frag) (hK:X.K=K) {tl:TE} (hl:Pr (PE X l tl)):Pr (PI X tg l (iList K tl)):=hK ▸ ⟨zaln hl.h⟩
theorem zao6 (K:PySem.W.Frag) (hK:X.K=K) {tl:TE} (hl:Pr (PE X l tl)):Pr (PI X tg l (iTup K tl)):=hK ▸ ⟨zap2 hl.h⟩
theorem zahk (K:PySem.W.Frag) (n:Nat) (hK:X.K=K) {k:Nat}{t:TGs} (hc:X.calm=true) (h:Pr (PGs X es t)) (hn:(assignEach es X.env).length=n:=by rfl) (hst:(assignEach es X.env).findIdx? (·.1)=none:=by rfl) :
  Pr (PG X (.Tuple es k pos) (gTup K n t)):=hK ▸ ⟨zap1 hc h.h hn hst⟩
end
end L2

namespace L2
open PySem PySem.Spec PyProof.Rows PySem.SeqAt
section
variable {X:Cx}{tg:Expr}
theorem zahl:bootBuiltins "reversed" = some (.type "reversed"):=by decide +kernel
end
end L2

namespace L2
open PySem PySem.Spec PyProof.Rows PySem.SeqAt
def Sca (x:V):Prop:=(∃ i,x=.int i)∨∃ t,x=.str t
structure ScaL (xs:List V):Prop where
 h:∀ z∈xs,Sca z
theorem zarz {α:Type} [BEq α] [LawfulBEq α] [DecidableEq α] (a b:α):(a == b)=decide (a=b):=by
 by_cases h:a=b
 ·subst h; simp
 ·rw [decide_eq_false h]; exact beq_eq_false_iff_ne.mpr h
theorem zatx {A:Around}{s:Shared}{x y:V}{u v:Value} (hx:Sca x) (hy:Sca y) (ru:RelV x u) (rv:RelV y v):EqAt A s u v (decide (x=y)):=by
 rcases hx with ⟨i,rfl⟩ | ⟨i,rfl⟩ <;> rcases hy with ⟨j,rfl⟩ | ⟨j,rfl⟩ <;> obtain ⟨t,rfl⟩:=ru <;> obtain ⟨t',rfl⟩:=rv
 ·have:=EqAt.int_int (A:=A) (s:=s) i t j t'
  rw [zarz] at this
  rwa [show decide (V.int i=V.int j)=decide (i=j) from by by_cases h:i=j <;> simp [h]]
 ·rw [show decide (V.int i=V.str j)=false from by simp]
  exact EqAt.int_str i t j t'
 ·rw [show decide (V.str i=V.int j)=false from by simp]
  exact EqAt.str_int i t j t'
 ·have:=EqAt.str_str (A:=A) (s:=s) i t j t'
  rw [show decide (V.str i=V.str j)=(i == j) from by
   by_cases h:i=j
   ·subst h; simp
   ·rw [decide_eq_false (fun z=>h (V.str.inj z))]; exact (beq_eq_false_iff_ne.mpr h).symm]
  exact this
theorem zaty {xs ys:List V}:((List.range (min xs.length ys.length)).all (fun j=>decide (xs[j]?=ys[j]?)) && xs.length == ys.length)=decide (xs=ys):=by
 by_cases h:xs=ys
 ·subst h
  simp
 ·rw [decide_eq_false h]
  by_cases hl:xs.length=ys.length
  ·rw [Bool.and_eq_false_iff]
   refine .inl ?_
   rw [List.all_eq_false]
   refine Classical.byContradiction fun z=>h (List.ext_getElem? fun j=>?_)
   by_cases hj:j < xs.length
   ·refine Classical.byContradiction fun y=>z ⟨j,List.mem_range.mpr (by omega),by simpa using y⟩
   ·rw [List.getElem?_eq_none (by omega),List.getElem?_eq_none (by omega)]
  ·rw [Bool.and_eq_false_iff]
   exact .inr (beq_eq_false_iff_ne.mpr hl)
theorem zao7 {A:Around}{s:Shared}{xs ys:List V}{us vs:List Value} (hx:ScaL xs) (hy:ScaL ys) (ru:Vals xs us) (rv:Vals ys vs) (j:Nat) (h1:j < us.toArray.size) (h2:j < vs.toArray.size) :
  EqAt A s us.toArray[j] vs.toArray[j] (decide (xs[j]?=ys[j]?)):=by
 have l1:=ru.length
 have l2:=rv.length
 have h1':j < us.length:=by simpa using h1
 have h2':j < vs.length:=by simpa using h2
 have gx:xs[j]?=some (xs[j]'(by omega)):=List.getElem?_eq_getElem (by omega)
 have gy:ys[j]?=some (ys[j]'(by omega)):=List.getElem?_eq_getElem (by omega)
 obtain ⟨w1,hw1,r1⟩:=ru.get gx
 obtain ⟨w2,hw2,r2⟩:=rv.get gy
 have k1:us.toArray[j]=w1:=by
  have:=List.getElem?_eq_getElem h1'
  rw [hw1] at this
  simpa using (Option.some.inj this).symm
 have k2:vs.toArray[j]=w2:=by
  have:=List.getElem?_eq_getElem h2'
  rw [hw2] at this
  simpa using (Option.some.inj this).symm
 rw [k1,k2,gx,gy]
 have e:decide (some (xs[j]'(by omega))=some (ys[j]'(by omega)))=decide (xs[j]'(by omega)=ys[j]'(by omega)):=by
  by_cases h:(xs[j]'(by omega))=(ys[j]'(by omega)) <;> simp [h]
 rw [e]
 exact zatx (hx.h _ (List.getElem_mem _)) (hy.h _ (List.getElem_mem _)) r1 r2
section
variable {X:Cx}
def rEqT:R2:=fun x y H Q=>∃ (a b:Addr) (xs ys:List V),x=.ref a∧y=.ref b∧H a=some (.tup xs)∧H b=some (.tup ys)∧ScaL xs∧ScaL ys∧Q (.bl (decide (xs=ys))) H
theorem zap9 (hu:X.A.units + 64 < cLine):OpR X (compareOp .Eq) rEqT:=by
 intro pins s σ H x y v u Q I rx ry h
 obtain ⟨a,b,xs,ys,rfl,rfl,ha,hb,hx,hy,q⟩:=h
 cases rx
 cases ry
 obtain ⟨z,its,rv,t1⟩:=I.hok a _ ha
 obtain ⟨z2,its2,rv2,t2⟩:=I.hok b _ hb
 have key:=RcAt.tuples (A:=X.A) (s:=s) t1 t2 (by omega) (zao7 hx hy rv rv2)
 have e:((List.range (min its.toArray.size its2.toArray.size)).all (fun j=>decide (xs[j]?=ys[j]?)) && its.toArray.size == its2.toArray.size)=decide (xs=ys):=by
  rw [← zaty,List.size_toArray,List.size_toArray,← rv.length,← rv2.length]
 rw [e] at key
 exact key X.prog X.w X.xe _ ⟨.bl _,H,I,rfl,q⟩
end
end L2


namespace L2
open PySem PySem.W PyProof.Rows
section
variable {n:Nat}{L:Nat→Nat→Prop} [DecidableRel L] {cmp:Nat→Nat→(Bool→Shared→Prop)→Shared→Prop}{s:Shared}
end
end L2

namespace L2
open PySem PySem.W PyProof.Rows PySem.Calls
def KeptBut (a:Addr) (h h':Heap):Prop:=∀ b o,b≠a→h.get? b=some o→h'.get? b=some o
end L2

namespace L2
open PySem PySem.W PyProof.Rows
structure DAt (h:Heap) (d:Addr) (es:Array DictEntry) (ep:Nat):Prop where
 ex:∃ o,h.get? d=some o∧o.ExactDict∧o.data=.dict es ep
theorem DAt.at {h h':Heap}{d:Addr}{es:Array DictEntry}{ep:Nat} (m:DAt h d es ep) (k:∀ o,h.get? d=some o→h'.get? d=some o):DAt h' d es ep:=let ⟨o,e,r⟩:=m.ex; ⟨o,k o e,r⟩
theorem DAt.ty {s:Shared}{d:Addr}{es:Array DictEntry}{ep:Nat} (m:DAt s.heap d es ep):s.TypeIs (.ref d) "dict" := let ⟨o,e,r,_⟩:=m.ex; ⟨o,e,r.1⟩
def kitO (d:Addr) (i n ep:Nat):Obj:={ cls:=.type "dict_keyiterator",data:=.fields #[.ref d,.int i 0,.int n 0,.int ep 0] }
section
variable {prog:Program}{w:World}{A:Around}{E:Value→Shared→Prop}{s:Shared}{d it:Addr}{es:Array DictEntry}{ep i:Nat}
theorem zamu {Q:Value→Shared→Prop} (hd:(d == sysModules)=false) (m:DAt s.heap d es ep) (q:Q (.ref s.heap.objs.size) { s with heap:=s.heap.push (kitO d 0 es.size ep) }):wpAny (model prog w) A (pyIter (.ref d)) Q E s:=by
 obtain ⟨o,ho,hc,hdat⟩:=m.ex
 refine wpAny_pyIter_slot m.ty F.slot_dict_iter (wpAny_call_entry F.slot_dict_iter m.ty F.entry_dict_iter ?_ (F.args_dict_iter_1 _))
 unfold Builtin.«dict.__iter__» Builtin.Dict.dictSlotNone Builtin.Dict.showsAll
 refine wpAny_bind (wpAny_bind (wpAny_notOrdered_dict m.ty (wpAny_pure ?_)))
 refine wpAny_bind (m:=Builtin.Dict.addrOf (.ref d)) (wpAny_pure ?_)
 rw [if_neg (by rw [hd]; simp)]
 refine wpAny_bind (wpAny_pure (wpAny_bind (wpAny_dictEntries ho hdat (wpAny_bind (wpAny_dictEpoch ho hdat ?_)))))
 exact wpAny_bind (wpAny_newObj_type (wpAny_pure ⟨_,rfl, "dict_keyiterator",_,⟨_,Heap.get?_push_size _ rfl,rfl⟩,F.slot_dict_keyiterator_next.lookup,by simpa [rawInt,kitO] using q⟩))
theorem zamv (hit:s.heap.get? it=some (kitO d i es.size ep)):s.TypeIs (.ref it) "dict_keyiterator" := ⟨_,hit,rfl⟩
theorem zamw {Q:Option Value→Shared→Prop} (hit:s.heap.get? it=some (kitO d i es.size ep)) (m:DAt s.heap d es ep) (hi:i < es.size)
  (q:∀ h',h'.get? it=some (kitO d (i + 1) es.size ep)→Heap.SameBut it s.heap h'→Q (some (es[i]).key) { s with heap:=h' }):wpAny (model prog w) A (pyNext (.ref it)) Q E s:=by
 obtain ⟨od,hod,hcd,hdd⟩:=m.ex
 have T:=zamv hit
 unfold pyNext
 refine wpAny_bind (wpAny_attempt (wpAny_callSpecial?_slot (name:=Str.ofString "__next__") T F.slot_dict_keyiterator_next (wpAny_call_entry F.slot_dict_keyiterator_next T F.entry_dict_keyiterator_next ?_ (F.args_dict_keyiterator_next_1 _))))
 refine wpAny_bind (wpAny_pure (wpAny_bind (wpAny_bind ?_)))
 refine wpAny_bind (wpAny_typeNameOfWhole_keyiter T (wpAny_pure (wpAny_bind (wpAny_fieldsOf hit rfl ?_))))
 simp only [show Builtin.Dict_items.ownsTuple "dict_keyiterator" = false from by decide,Bool.false_eq_true,if_false]
 show wpAny _ _ (if (Value.ref d == Value.none)=true then _ else _) _ _ s
 rw [if_neg (by intro z; cases z)]
 refine wpAny_bind (wpAny_pure (wpAny_bind (wpAny_dictEntries hod hdd ?_)))
 rw [if_neg (by simp)]
 refine wpAny_bind (wpAny_pure (wpAny_bind (wpAny_dictEpoch hod hdd ?_)))
 rw [if_neg (by simp)]
 refine wpAny_pure ?_
 simp only [show ¬ ((i:Int) < 0) from by omega,if_false,Int.toNat_natCast,Array.getElem?_eq_getElem hi]
 refine wpAny_bind (wpAny_bind (wpAny_typeNameOfWhole_keyiter T (wpAny_pure (wpAny_bind (wpAny_isOneOf_keyiter T ?_)))))
 show wpAny _ _ (setField (.ref it) 1 (rawInt ((i:Int) + 1)) >>= _) _ _ s
 refine wpAny_bind (wpAny_setField hit rfl (by simp) ?_)
 have g2:(s.heap.update it (Obj.mapFields (·.setIfInBounds 1 (rawInt ((i:Int) + 1))))).get? it=some (kitO d (i + 1) es.size ep):=by
  rw [Heap.get?_update_self _ hit (Obj.isFreed_of_fields (Obj.data_mapFields rfl _))]
  rfl
 refine wpAny_bind (wpAny_holding (wpAny_bind (wpAny_isOneOf_keyiter (s:={ s with heap:=s.heap.update it (Obj.mapFields (·.setIfInBounds 1 (rawInt ((i:Int) + 1)))) }) (zamv g2) ?_)))
 exact wpAny_pure (wpAny_pure ⟨_,rfl,wpAny_pure (q _ g2 (Heap.SameBut.update ..))⟩)
theorem zaqa {Q:Option Value→Shared→Prop} (hh:A.handled=none) (hit:s.heap.get? it=some (kitO d es.size es.size ep)) (m:DAt s.heap d es ep)
  (q:∀ h',Heap.ExtBut it s.heap h'→Q none { s with heap:=h' }):wpAny (model prog w) A (pyNext (.ref it)) Q E s:=by
 obtain ⟨od,hod,hcd,hdd⟩:=m.ex
 have T:=zamv hit
 unfold pyNext
 refine wpAny_bind (wpAny_attempt (wpAny_callSpecial?_slot (name:=Str.ofString "__next__") T F.slot_dict_keyiterator_next (wpAny_call_entry F.slot_dict_keyiterator_next T F.entry_dict_keyiterator_next ?_ (F.args_dict_keyiterator_next_1 _))))
 refine wpAny_bind (wpAny_pure (wpAny_bind (wpAny_bind ?_)))
 refine wpAny_bind (wpAny_typeNameOfWhole_keyiter T (wpAny_pure (wpAny_bind (wpAny_fieldsOf hit rfl ?_))))
 simp only [show Builtin.Dict_items.ownsTuple "dict_keyiterator" = false from by decide,Bool.false_eq_true,if_false]
 show wpAny _ _ (if (Value.ref d == Value.none)=true then _ else _) _ _ s
 rw [if_neg (by intro z; cases z)]
 refine wpAny_bind (wpAny_pure (wpAny_bind (wpAny_dictEntries hod hdd ?_)))
 rw [if_neg (by simp)]
 refine wpAny_bind (wpAny_pure (wpAny_bind (wpAny_dictEpoch hod hdd ?_)))
 rw [if_neg (by simp)]
 refine wpAny_pure ?_
 simp only [show ¬ ((es.size:Int) < 0) from by omega,if_false,Int.toNat_natCast,Array.getElem?_eq_none (Nat.le_refl es.size)]
 refine wpAny_bind (wpAny_bind (wpAny_typeNameOfWhole_keyiter T (wpAny_pure ?_)))
 show wpAny _ _ (setField (.ref it) 0 .none >>= _) _ _ s
 refine wpAny_bind (wpAny_setField hit rfl (by simp) ?_)
 show wpAny _ _ (newExc (.type "StopIteration") [] >>= _) _ _ _
 simp only [newExc,newTuple]
 refine wpAny_bind (wpAny_bind (wpAny_newObj_type ?_ (by size_fits)))
 refine wpAny_bind (m:=firstArgMember _ _) (wpAny_of_eq (a:=Value.none) (by first | rfl | (simp only [firstArgMember]; rfl)) (wpAny_newObj_type ?_ (by size_fits)))
 simp only [raiseNew]
 refine wpAny_bind (wpAny_handled ?_)
 rw [show A.in1.handled=none from hh]
 refine wpAny_bind (wpAny_pure (wpAny_throw ?_))
 refine wpAny_bind (wpAny_isInstance (T := "StopIteration") (b:=true) ⟨_,Heap.get?_push_size _ rfl,rfl⟩ isSubtype_stop ?_)
 exact wpAny_pure (q _ (((Heap.SameBut.update ..).extBut.push _).push _))
end
section
variable {prog:Program}{w:World}{A:Around}{R:Result→Shared→Prop}{d it S:Addr}{es:Array DictEntry}{ep:Nat}
theorem zao8 (hh:A.handled=none) (n1:S≠it) (n2:S≠d) (n3:it≠d) (hsz:es.size≤sizeLine) (res:Value) (g:Heap):∀ (k i:Nat) (s:Shared) (c:Nat),es.size - i=k→i≤es.size →
  s.heap.get? it=some (kitO d i es.size ep)→DAt s.heap d es ep→s.heap.get? S=some { cls:=.type "list",data:=.seq ((es.toList.take i).map (·.key)).toArray c } →
  (∀ b o,b≠it→b≠S→g.get? b=some o→s.heap.get? b=some o) →
  (∀ (h':Heap) (c':Nat),h'.get? S=some { cls:=.type "list",data:=.seq (es.toList.map (·.key)).toArray c' }→(∀ b o,b≠it→b≠S→g.get? b=some o→h'.get? b=some o)→R (.ok (.ret res)) { s with heap:=h' }) →
  codeAny (model prog w) A (.builtin "list.extend.loop" ⟨[.ref S,.ref it,res],[]⟩) R s:=by
 intro k
 induction k with
 | zero =>
  intro i s c hk hi hit m hS hg hR
  have e:i=es.size:=by omega
  subst e
  refine codeAny_builtin F.entry_extend_loop ?_
  rw [Around.under_plainId F.plain_extend_loop _]
  show wpAny _ A.in1 (pyNext (.ref it) >>= _) _ _ s
  refine wpAny_bind (zaqa (by exact hh) hit m fun h' x=>wpAny_pure (hR h' c ?_ fun b o b1 b2 e=>x b o b1 (hg b o b1 b2 e)))
  rw [x S _ n1 hS,List.take_of_length_le (by simp)]
 | succ k ih =>
  intro i s c hk hi hit m hS hg hR
  have hlt:i < es.size:=by omega
  refine codeAny_builtin F.entry_extend_loop ?_
  rw [Around.under_plainId F.plain_extend_loop _]
  show wpAny _ A.in1 (pyNext (.ref it) >>= _) _ _ s
  refine wpAny_bind (zamw hit m hlt fun h' a b=>?_)
  have hS':h'.get? S=some { cls:=.type "list",data:=.seq ((es.toList.take i).map (·.key)).toArray c }:=(b.2 S n1).trans hS
  refine wpAny_bind (wpAny_updateSeq hS' rfl (wpAny_pure ⟨plainId_quiet F.plain_extend_loop _,?_⟩) (by simp; omega) (by simp; omega))
  have oth:∀ b o,b≠S→h'.get? b=some o→(h'.update S (Obj.mapSeq (·.push es[i].key))).get? b=some o:=fun b o hb e=>(Heap.get?_update_other _ _ (Ne.symm hb)).trans e
  have hS2:=Heap.get?_update_self (Obj.mapSeq (·.push es[i].key)) hS' rfl
  have ea:((es.toList.take (i + 1)).map (·.key)).toArray=((es.toList.take i).map (·.key)).toArray.push es[i].key:=by
   rw [List.take_add_one,show es.toList[i]?=some es[i] from by simp [hlt]]
   simp
  refine ih (i + 1) _ _ (by omega) hlt (oth _ _ (Ne.symm n1) a) (m.at fun o e=>oth _ o (Ne.symm n2) ((b.2 d (Ne.symm n3)).trans e)) (by rw [ea]; exact hS2) (fun x o x1 x2 e=>oth x o x2 ((b.2 x x1).trans (hg x o x1 x2 e))) hR
end
end L2

namespace L2
open PySem PySem.W PyProof.Rows
section
variable {prog:Program}{w:World}{A:Around}{E:Value→Shared→Prop}{s:Shared}{d:Addr}{es:Array DictEntry}{ep:Nat}
theorem zao9 {Q:List Value→Shared→Prop} (hh:A.handled=none) (hd:(d == sysModules)=false) (m:DAt s.heap d es ep) (hsz:es.size≤sizeLine)
  (q:∀ h',(∀ b o,s.heap.get? b=some o→h'.get? b=some o)→s.heap.objs.size < h'.objs.size→Q (es.toList.map (·.key)) { s with heap:=h' }):wpAny (model prog w) A (collect (.ref d)) Q E s:=by
 have dlt:d < s.heap.objs.size:=let ⟨o,e,_⟩:=m.ex; Heap.lt_size e
 have nSd:s.heap.objs.size≠d:=Nat.ne_of_gt dlt
 have nSI:s.heap.objs.size≠s.heap.objs.size + 1:=Nat.ne_of_lt (Nat.lt_succ_self _)
 have nId:s.heap.objs.size + 1≠d:=Nat.ne_of_gt (Nat.lt_succ_of_lt dlt)
 unfold collect
 refine wpAny_bind (wpAny_runValue (codeAny_builtin entry_proto_collect' ?_))
 show wpAny _ _ (do again (.builtin "list.__iadd__" ⟨[← newList [],.ref d],[]⟩)) _ _ s
 refine wpAny_bind (wpAny_newList (wpAny_pure ⟨Code.quiet_builtin _ (by decide +kernel),codeAny_builtin entry_list_iadd' ?_⟩))
 show wpAny _ _ (Builtin.List.listExtendWith (.ref s.heap.objs.size) (.ref d) (.ref s.heap.objs.size)) _ _ { s with heap:=s.heap.push (seqObj "list" #[] 0) }
 unfold Builtin.List.listExtendWith
 have k1:∀ b o,s.heap.get? b=some o→(s.heap.push (seqObj "list" #[] 0)).get? b=some o:=fun b o e=>Heap.get?_push_of_some _ e
 have S1:(s.heap.push (seqObj "list" #[] 0)).get? s.heap.objs.size=some (seqObj "list" #[] 0):=Heap.get?_push_size _ rfl
 have z1:(s.heap.push (seqObj "list" #[] 0)).objs.size=s.heap.objs.size + 1:=size_push' _ _
 generalize hg1:s.heap.push (seqObj "list" #[] 0)=g1 at k1 S1 z1 ⊢
 have m1:DAt g1 d es ep:=m.at fun o e=>k1 d o e
 refine wpAny_bind (wpAny_typeOf (T := "dict") (DAt.ty (s:={ s with heap:=g1 }) m1) ?_)
 have e1:Builtin.List.listSameRef (.ref s.heap.objs.size) (.ref d)=false:=by simp [Builtin.List.listSameRef,nSd]
 have e2:(Value.type "dict" == Value.type "list")=false:=by decide
 have e3:(Value.type "dict" == Value.type "tuple")=false:=by decide
 simp only [e1,e2,e3,Bool.or_false,Bool.false_eq_true,if_false]
 refine wpAny_bind (zamu (s:={ s with heap:=g1 }) hd m1 ?_)
 have k2:∀ b o,g1.get? b=some o→(g1.push (kitO d 0 es.size ep)).get? b=some o:=fun b o e=>Heap.get?_push_of_some _ e
 have I2:(g1.push (kitO d 0 es.size ep)).get? g1.objs.size=some (kitO d 0 es.size ep):=Heap.get?_push_size _ rfl
 show wpAny _ _ (holding [Value.ref g1.objs.size] _ >>= _) _ _ { s with heap:=g1.push (kitO d 0 es.size ep) }
 rw [z1] at I2 ⊢
 generalize g1.push (kitO d 0 es.size ep)=g2 at k2 I2 ⊢
 have m2:DAt g2 d es ep:=m1.at fun o e=>k2 d o e
 refine wpAny_bind (wpAny_holding (kdl_hint_dict (DAt.ty (s:={ s with heap:=g2 }) m2) ?_))
 show wpAny _ _ (rule "list.extend.makes-room" >>= fun _=>Builtin.List.listTouch (.ref s.heap.objs.size) >>= fun _=>again (.builtin "list.extend.loop" ⟨[.ref s.heap.objs.size,.ref (s.heap.objs.size + 1),.ref s.heap.objs.size],[]⟩)) _ _ _
 refine wpAny_bind (wpAny_rule (wpAny_bind ?_))
 have S2:=k2 _ _ S1
 refine wpAny_bind (listUpdate_at S2 rfl ?_ (Nat.zero_le _) (by simp [sizeLine_eq]))
 obtain ⟨c3,S3⟩:∃ c3,(g2.update s.heap.objs.size (Obj.mapSeq (·.push Value.none))).get? s.heap.objs.size=some (seqObj "list" #[Value.none] c3):=⟨_,get?_update_seq S2 (·.push Value.none)⟩
 refine listUpdate_at S3 rfl ?_ (by simp [sizeLine_eq]) (by simp [sizeLine_eq])
 obtain ⟨c4,S4⟩:∃ c4,((g2.update s.heap.objs.size (Obj.mapSeq (·.push Value.none))).update s.heap.objs.size (Obj.mapSeq (·.pop))).get? s.heap.objs.size=some (seqObj "list" #[] c4):=⟨_,get?_update_seq S3 (·.pop)⟩
 have k4:∀ b o,b≠s.heap.objs.size→g2.get? b=some o→((g2.update s.heap.objs.size (Obj.mapSeq (·.push Value.none))).update s.heap.objs.size (Obj.mapSeq (·.pop))).get? b=some o :=
  fun b o nb e=>(Heap.get?_update_other _ _ (Ne.symm nb)).trans ((Heap.get?_update_other _ _ (Ne.symm nb)).trans e)
 generalize (g2.update s.heap.objs.size (Obj.mapSeq (·.push Value.none))).update s.heap.objs.size (Obj.mapSeq (·.pop))=g4 at S4 k4 ⊢
 refine wpAny_pure ⟨plainId_quiet F.plain_extend_loop _,?_⟩
 refine zao8 (S:=s.heap.objs.size) (it:=s.heap.objs.size + 1) (d:=d) (es:=es) (ep:=ep) (by exact hh) nSI nSd nId hsz _ s.heap es.size 0 _ c4 rfl (Nat.zero_le _) (k4 _ _ (Ne.symm nSI) I2) (m2.at fun o e=>k4 d o (Ne.symm nSd) e) S4
  (fun b o b1 b2 e=>k4 b o b2 (k2 b o (k1 b o e))) fun h' c' hS hk=>?_
 refine wpAny_bind (wpAny_load hS ?_)
 exact wpAny_pure (q h' (fun b o e=>hk b o (Nat.ne_of_lt (Nat.lt_succ_of_lt (Heap.lt_size e))) (Nat.ne_of_lt (Heap.lt_size e)) e) (Heap.lt_size hS))
end
end L2

namespace L2
open PySem PySem.W PyProof.Rows
section
variable {X:Cx}{o e f:Expr}{apos cpos:Pos}{td ty tx:TE}
theorem zamx {i:Expr}{pos:Pos} (hu:X.A.units + 1 < cLine) (hi:Pr (PE X i ty)) (ho:Pr (PE X o td)) (h1:behindInMarks .In o=false:=by rfl):Pr (PT X (.Compare i [.In] [o] pos) (tB (tDIn ty td))):=⟨zap0 (zatt hu hi.h ho.h) h1⟩
theorem zach {i:Expr}{pos:Pos} (hu:X.A.units + 1 < cLine) (hi:Pr (PE X i ty)) (ho:Pr (PE X o td)) (h1:behindInMarks .NotIn o=false:=by rfl):Pr (PT X (.Compare i [.NotIn] [o] pos) (tB (tDNotIn ty td))):=⟨zap0 (zamf hu hi.h ho.h) h1⟩
theorem zab2 {i:Expr}{pos:Pos} (hu:X.A.units + 1 < cLine) (ho:Pr (PE X o td)) (hi:Pr (PE X i ty)) (hs:NoSl i):Pr (PE X (.Subscript o i pos) (tDGet td ty)):=⟨zaro hu ho.h hi.h hs⟩
theorem zacw {i value:Expr}{tv:TE}{pos pos':Pos} (hu:X.A.units + 1 < cLine) (ho:Pr (PE X o td)) (hi:Pr (PE X i ty)) (hv:Pr (PE X value tv)) (hs:swapsWith value (some (.Subscript o i pos')) pos.line X.env=pure false) :
  Pr (PS X (.Assign [.Subscript o i pos'] value pos) (sDPut td ty tv)):=⟨zarp hu ho.h hi.h hv.h hs⟩
theorem zajp (ho:Pr (PE X o td)) (hbase:attributeBase o "pop" X.env (eval o X.env)=eval o X.env:=by rfl) (hline:(apos.endLine == cpos.line)=true:=by rfl):Pr (PE X (.Call (.Attribute o "pop" apos) [] [] cpos) (tBM0 X.K "list" rPop td)) :=
 ⟨zatq PySem.F.plainAttrs_list PySem.F.slot_list_pop PySem.F.type_list_pop zatr ho.h hbase hline⟩
end
end L2

namespace L2
open PySem PySem.W PyProof.Rows
def sqO (k:SK) (xs:List V):HO:=match k with
 | .list=>.lst xs
 | .tuple=>.tup xs
def ItK (K:PySem.W.Frag) (k:SK) (a:Addr):It:=match k with
 | .list=>Itl K a
 | .tuple=>Itt K a
def iSq (K:PySem.W.Frag) (k:SK) (tl:TE):TI:=fun σ H R=>tl σ H fun x H1=>∃ a,x=.ref a∧(∃ xs,Sq k K H1 a xs)∧R (ItK K k a) H1
section
variable {X:Cx}{tg l:Expr}
theorem zar0 (K:PySem.W.Frag) (hK:X.K=K) (k:SK) {tl:TE} (hl:Pr (PE X l tl)):Pr (PI X tg l (iSq K k tl)):=by
 cases k with
 | list=>exact zamt K hK hl
 | tuple=>exact zao6 K hK hl
end
theorem zar1 {K:PySem.W.Frag}{k:SK}{a:Addr} (xs:List V) {g:TG}{tt:TT}{te:TE}{Q:List V→Hp→Prop}{σ:St}{H:Hp} (Pv:Nat→List V→St→Hp→Prop) (hn:xs.length < sizeLine) (h0:Pv 0 [] σ H) (hl:∀ i ys σ H,i≤xs.length→Pv i ys σ H→ys.length≤i∧Sq k K H a xs)
  (turn:∀ i ys σ H x,xs[i]?=some x→Pv i ys σ H→g x σ H fun σ2 H2=>tt σ2 H2 fun b H3=>if b=true then te σ2 H3 fun y H4=>Pv (i + 1) (ys++[y]) σ2 H4 else Pv (i + 1) ys σ2 H3)
  (after:∀ ys σ H,Pv xs.length ys σ H→Q ys H):Comp (ItK K k a) g tt te Q σ H:=by
 cases k with
 | list=>exact zacm xs Pv hn h0 hl turn after
 | tuple=>exact zafg xs Pv hn h0 hl turn after
end L2

namespace L2
open PySem PySem.Spec PyProof.Rows PySem.SeqAt
theorem zapa:typeLookup (.type "list_reverseiterator") "__len__" = pure none:=by rw [typeLookup_type,builtinLookup_eq_fast]; kernel_rfl
theorem zar2:typeLookup (.type "list_reverseiterator") "__length_hint__" = pure (some (.builtin "list_reverseiterator.__length_hint__")):=by rw [typeLookup_type,builtinLookup_eq_fast]; kernel_rfl
theorem zar3:isSubtype (.type "list_reverseiterator") (.type "list_reverseiterator")=pure true:=by rw [isSubtype_type]; kernel_rfl
theorem zapb:splitId "list_reverseiterator.__length_hint__" = some ("list_reverseiterator", "__length_hint__"):=by decide +kernel
section
variable {prog:Program}{w:World}{A:Around}{E:Value→Shared→Prop}{s:Shared}{I:Addr}{fp wr:List Addr}{G:Array GenState→Array GenState→Prop}{n:Nat}{P:Nat→Value→Prop}{St:Nat→Shared→Prop}
theorem zajq {Q:Bool→Shared→Prop} (hT:s.TypeIs (.ref I) "list_reverseiterator") (q:Q false s):wpAny (model prog w) A (Builtin.List.listLengthHint (.ref I)) Q E s:=by
 unfold Builtin.List.listLengthHint
 refine wpAny_bind (wpAny_specialOf hT zapa ?_)
 show wpAny _ A (specialOf (Value.ref I) (Str.ofString "__length_hint__") >>= _) _ _ _
 refine wpAny_bind (wpAny_specialOf hT zar2 ?_)
 dsimp only
 rw [zapb]
 refine wpAny_bind (wpAny_isInstance (b:=true) hT zar3 ?_)
 exact wpAny_pure q
end
section
variable {X:Cx}
theorem zaik:∀ {ps:List Addr}{us:List Value},Vals (ps.map V.ref) us→us=ps.map Value.ref
 | [],_,.nil=>rfl
 | p :: ps,_,.cons r t=>by
  cases r
  rw [List.map_cons,zaik t]
theorem zaf4 {α β:Type}{R:α→β→Prop}:∀ {xs:List α}{ys:List β},Paired R xs ys→∀ (j:Nat) (h1:j < xs.length) (h2:j < ys.length),R xs[j] ys[j]
 | _,_,.nil,j,h1,_=>absurd h1 (Nat.not_lt_zero _)
 | _,_,.cons a t,0,_,_=>a
 | _,_,.cons a t,j + 1,h1,h2=>by
  have:=zaf4 t j (by simpa using h1) (by simpa using h2)
  simpa using this
end
end L2

namespace L2
open PySem PySem.Spec PyProof.Rows PySem.SeqAt
theorem zadc {H:Hp}{a:Addr}{kvs:List (Key × V)}{x:Str}{v:V} (e:H a=some (.dK kvs)) (h:valV kvs (.inr x)=some v):DGet H a (.str x) (some v):=h ▸ DGet.k (k:=.inr x) e
theorem zacy {H:Hp}{a:Addr}{kvs:List (Key × V)}{i:Int}{v:V} (e:H a=some (.dK kvs)) (h:valV kvs (.inl i)=some v):DGet H a (.int i) (some v):=h ▸ DGet.k (k:=.inl i) e
theorem zadd {H:Hp}{a:Addr}{kvs:List (Key × V)}{i:Int} (e:H a=some (.dK kvs)) (h:valV kvs (.inl i)=none):DGet H a (.int i) none:=h ▸ DGet.k (k:=.inl i) e
theorem dputI {H:Hp}{a:Addr}{kvs:List (Key × V)}{i:Int}{v:V} (e:H a=some (.dK kvs)) (hl:kvs.length < sizeLine):DPut H a (.int i) v (upd H a (.dK (putK kvs (.inl i) v))):=DPut.k (k:=.inl i) e hl
end L2

namespace L2
open PySem
structure AF (sc:Scope) (N:List Str):Prop where
 h:∀ x∈N,(sc.names.lookup x=some .local∨sc.names.lookup x=some .cell)∧(x == ("__debug__" : Str))=false∧(x == ("__classdict__" : Str))=false
structure AV (sc:Scope) (N:List Str):Prop where
 h:∀ x∈N,(sc.names.lookup x=some .local∨sc.names.lookup x=some .cell∨sc.names.lookup x=some .free)∧(x == ("__debug__" : Str))=false∧(x == ("__classdict__" : Str))=false
structure AK (sc:Scope) (N:List Str):Prop where
 h:∀ x∈N,sc.names.lookup x=some .local
structure AG (sc:Scope) (N:List Str):Prop where
 h:∀ x∈N,sc.names.lookup x=some .globalImplicit
theorem AF.l {sc:Scope}{N:List Str} (A:AF sc N) (i:Nat) {x:Str} (e:N[i]?=some x):sc.names.lookup x=some .local∨sc.names.lookup x=some .cell:=(A.h x (List.mem_of_getElem? e)).1
theorem AK.k {sc:Scope}{N:List Str} (A:AK sc N) (i:Nat) {x:Str} (e:N[i]?=some x):sc.names.lookup x=some .local:=A.h x (List.mem_of_getElem? e)
theorem AG.g {sc:Scope}{N:List Str} (A:AG sc N) (i:Nat) {x:Str} (e:N[i]?=some x):sc.names.lookup x=some .globalImplicit:=A.h x (List.mem_of_getElem? e)
theorem qv {X:Cx}{x:Str}{pos:Pos} (A:AF X.env.scope X.N) (i:Nat) (e:X.N[i]?=some x):Pr (PE X (.Name x pos) (tVar i)) :=
 have a:=A.h x (List.mem_of_getElem? e)
 zamj e (a.1.elim .inl fun h=>.inr (.inl h)) a.2.1 a.2.2
theorem qw {X:Cx}{x:Str}{pos:Pos} (A:AV X.env.scope X.N) (i:Nat) (e:X.N[i]?=some x):Pr (PE X (.Name x pos) (tVar i)) :=
 have a:=A.h x (List.mem_of_getElem? e)
 zamj e a.1 a.2.1 a.2.2
end L2

namespace L2
open PySem PySem.W PyProof.Rows
def gal':Bool→Keyed→Array Keyed→Nat→Nat→Nat→StateT SortSt Sem (Option Nat):=sortPriv% PySem.Builtin.gallop
section
variable {prog:Program}{w:World}{A:Around}{E:Value→Shared→Prop}{s:Shared}
def KI (x:Keyed):Prop:=∃ n t,x.1=Value.int n t
theorem zaey {st:SortSt}{x y:Keyed}{Q:Option Bool→SortSt→Prop} (hk:kindOf st=oneType') (hx:KI x) (hy:KI y) (h:∀ b,Q (some b) st):wpS (model prog w) A E s (lt' x y) Q st:=by
 obtain ⟨a,t,ex⟩:=hx
 obtain ⟨b,u,ey⟩:=hy
 rw [lt'_eq,ex,ey]
 exact wpS_bind (wpS_get (by rw [hk,keyLt'_oneType]; exact wpS_bind (wpS_lift (wpAny_attempt (oneLt_int ⟨rfl,wpS_pure (h _)⟩)))))
theorem zaa5 {st:SortSt}{xs:Array Keyed}{i:Nat}{Q:Keyed→SortSt→Prop} (hi:i < xs.size) (h:Q xs[i] st):wpS (model prog w) A E s (elem' xs i) Q st:=by
 rw [elem'_eq,getElem?_pos xs i hi]
 exact wpS_pure h
theorem zadz {st:SortSt}{left:Bool}{key:Keyed}{xs:Array Keyed}{b n hint:Nat}{Q:Option Nat→SortSt→Prop} (hk:kindOf st=oneType') (ik:KI key) (ix:∀ i (h:i < xs.size),KI xs[i]) (hb:b + n≤xs.size) (hh:hint < n) (h:∀ k,k≤n→Q (some k) st):wpS (model prog w) A E s (gal' left key xs b n hint) Q st:=by
 have bn:∀ i,i < n→b + i < xs.size:=fun i hi=>by omega
 refine wpS_bind (wpS_mono (Q:=fun r st'=>st'=st∧∃ c,r=some c) ?_ ?_)
 ·refine wpS_bind (zaa5 (bn _ hh) ?_)
  split
  ·exact zaey hk (ix _ _) ik fun c=>⟨rfl,c,rfl⟩
  ·exact wpS_bind (zaey hk ik (ix _ _) fun c=>wpS_pure ⟨rfl,_,rfl⟩)
 rintro r st1 ⟨rfl,c,rfl⟩
 dsimp only
 split
 ·refine wpS_bind (wpS_mono (wpS_forRange (I:=fun _ c st'=>st'=st1∧∃ x y:Nat,c=(none,x,y)) (Q:=fun c st'=>st'=st1∧∃ x y:Nat,c=(none,x,y)) ?_ (fun c st' h=>h) ⟨rfl,_,_,rfl⟩) ?_)
  ·rintro i c st2 _ _ ⟨rfl,x,y,rfl⟩
   dsimp only
   split
   ·exact wpS_pure ⟨rfl,_,_,rfl⟩
   ·refine wpS_bind (wpS_mono (Q:=fun r st'=>st'=st2∧∃ c,r=some c) ?_ ?_)
    ·refine wpS_bind (zaa5 (bn _ (by omega)) ?_)
     split
     ·exact zaey hk (ix _ _) ik fun c=>⟨rfl,c,rfl⟩
     ·exact wpS_bind (zaey hk ik (ix _ _) fun c=>wpS_pure ⟨rfl,_,rfl⟩)
    rintro r st3 ⟨rfl,c,rfl⟩
    dsimp only
    split
    ·exact wpS_pure ⟨rfl,_,_,rfl⟩
    ·exact wpS_pure ⟨rfl,_,_,rfl⟩
  rintro c st2 ⟨rfl,x,y,rfl⟩
  dsimp only
  have hh2:hint + min y (n - hint)≤n:=by omega
  refine wpS_bind (wpS_mono (wpS_forRange (I:=fun _ c st'=>st'=st2∧∃ x y:Nat,c=(none,x,y)∧y≤n) (Q:=fun c st'=>st'=st2∧∃ x y:Nat,c=(none,x,y)∧y≤n) ?_ (fun c st' h=>h) ⟨rfl,_,_,rfl,hh2⟩) ?_)
  ·rintro i c st3 _ _ ⟨rfl,x,y,rfl,hy⟩
   dsimp only
   split
   ·exact wpS_pure ⟨rfl,_,_,rfl,hy⟩
   ·refine wpS_bind (wpS_mono (Q:=fun r st'=>st'=st3∧∃ c,r=some c) ?_ ?_)
    ·refine wpS_bind (zaa5 (bn _ (by omega)) ?_)
     split
     ·exact zaey hk (ix _ _) ik fun c=>⟨rfl,c,rfl⟩
     ·exact wpS_bind (zaey hk ik (ix _ _) fun c=>wpS_pure ⟨rfl,_,rfl⟩)
    rintro r st4 ⟨rfl,c,rfl⟩
    dsimp only
    split
    ·exact wpS_pure ⟨rfl,_,_,rfl,hy⟩
    ·exact wpS_pure ⟨rfl,_,_,rfl,by omega⟩
  ·rintro c st3 ⟨rfl,x,y,rfl,hy⟩
   exact wpS_pure (h _ hy)
 ·refine wpS_bind (wpS_mono (wpS_forRange (I:=fun _ c st'=>st'=st1∧∃ x y:Nat,c=(none,x,y)) (Q:=fun c st'=>st'=st1∧∃ x y:Nat,c=(none,x,y)) ?_ (fun c st' h=>h) ⟨rfl,_,_,rfl⟩) ?_)
  ·rintro i c st2 _ _ ⟨rfl,x,y,rfl⟩
   dsimp only
   split
   ·exact wpS_pure ⟨rfl,_,_,rfl⟩
   ·refine wpS_bind (wpS_mono (Q:=fun r st'=>st'=st2∧∃ c,r=some c) ?_ ?_)
    ·refine wpS_bind (zaa5 (bn _ (by omega)) ?_)
     split
     ·exact zaey hk (ix _ _) ik fun c=>⟨rfl,c,rfl⟩
     ·exact wpS_bind (zaey hk ik (ix _ _) fun c=>wpS_pure ⟨rfl,_,rfl⟩)
    rintro r st3 ⟨rfl,c,rfl⟩
    dsimp only
    split
    ·exact wpS_pure ⟨rfl,_,_,rfl⟩
    ·exact wpS_pure ⟨rfl,_,_,rfl⟩
  rintro c st2 ⟨rfl,x,y,rfl⟩
  dsimp only
  have hh2:hint - x≤n:=by omega
  refine wpS_bind (wpS_mono (wpS_forRange (I:=fun _ c st'=>st'=st2∧∃ x y:Nat,c=(none,x,y)∧y≤n) (Q:=fun c st'=>st'=st2∧∃ x y:Nat,c=(none,x,y)∧y≤n) ?_ (fun c st' h=>h) ⟨rfl,_,_,rfl,hh2⟩) ?_)
  ·rintro i c st3 _ _ ⟨rfl,x,y,rfl,hy⟩
   dsimp only
   split
   ·exact wpS_pure ⟨rfl,_,_,rfl,hy⟩
   ·refine wpS_bind (wpS_mono (Q:=fun r st'=>st'=st3∧∃ c,r=some c) ?_ ?_)
    ·refine wpS_bind (zaa5 (bn _ (by omega)) ?_)
     split
     ·exact zaey hk (ix _ _) ik fun c=>⟨rfl,c,rfl⟩
     ·exact wpS_bind (zaey hk ik (ix _ _) fun c=>wpS_pure ⟨rfl,_,rfl⟩)
    rintro r st4 ⟨rfl,c,rfl⟩
    dsimp only
    split
    ·exact wpS_pure ⟨rfl,_,_,rfl,hy⟩
    ·exact wpS_pure ⟨rfl,_,_,rfl,by omega⟩
  ·rintro c st3 ⟨rfl,x,y,rfl,hy⟩
   exact wpS_pure (h _ hy)
end
end L2

namespace L2
open PySem PySem.W PyProof.Rows
def mlo':Array Keyed→Array Keyed→StateT SortSt Sem (Array Keyed):=sortPriv% PySem.Builtin.mergeLo
def mhi':Array Keyed→Array Keyed→StateT SortSt Sem (Array Keyed):=sortPriv% PySem.Builtin.mergeHi
structure MG (a b out:Array Keyed) (ia ib:Nat):Prop where
 pm:(out.toList++(a.toList.drop ia++b.toList.drop ib)).Perm (a.toList++b.toList)
theorem MG.a {a b out:Array Keyed}{ia ib:Nat} (m:MG a b out ia ib) (h:ia < a.size):MG a b (out.push a[ia]) (ia + 1) ib:=by
 refine ⟨List.Perm.trans (List.Perm.of_eq ?_) m.pm⟩
 rw [List.drop_eq_getElem_cons (show ia < a.toList.length by simpa using h)]
 simp
theorem MG.b {a b out:Array Keyed}{ia ib:Nat} (m:MG a b out ia ib) (h:ib < b.size):MG a b (out.push b[ib]) ia (ib + 1):=by
 refine ⟨List.Perm.trans ?_ m.pm⟩
 rw [List.drop_eq_getElem_cons (show ib < b.toList.length by simpa using h)]
 simp only [Array.toList_push,List.append_assoc,Array.getElem_toList]
 refine List.Perm.append_left _ ?_
 rw [List.singleton_append]
 exact (List.perm_middle (a:=b[ib])).symm
theorem MG.ak {a b out:Array Keyed}{ia ib:Nat} (m:MG a b out ia ib) (k:Nat):MG a b (out++a.extract ia (ia + k)) (ia + k) ib:=by
 refine ⟨List.Perm.trans (List.Perm.of_eq ?_) m.pm⟩
 simp only [Array.toList_append,Array.toList_extract,List.append_assoc,List.extract_eq_take_drop,Nat.add_sub_cancel_left]
 rw [← List.append_assoc (List.take k _),← List.drop_drop,List.take_append_drop]
theorem MG.bk {a b out:Array Keyed}{ia ib:Nat} (m:MG a b out ia ib) (k:Nat):MG a b (out++b.extract ib (ib + k)) ia (ib + k):=by
 refine ⟨List.Perm.trans ?_ m.pm⟩
 simp only [Array.toList_append,Array.toList_extract,List.append_assoc,List.extract_eq_take_drop,Nat.add_sub_cancel_left]
 refine List.Perm.append_left _ ?_
 rw [← List.append_assoc]
 refine (List.Perm.append_right _ List.perm_append_comm).trans ?_
 rw [List.append_assoc,← List.drop_drop,List.take_append_drop]
theorem MG.done {a b out:Array Keyed}{ia ib:Nat} (m:MG a b out ia ib):(out++a.extract ia a.size++b.extract ib b.size).toList.Perm (a.toList++b.toList):=by
 refine List.Perm.trans (List.Perm.of_eq ?_) m.pm
 simp [List.extract_eq_take_drop,List.take_of_length_le]
theorem MG.last {a b out:Array Keyed}{ia ib:Nat} (m:MG a b out ia ib):(out++b.extract ib b.size++a.extract ia a.size).toList.Perm (a.toList++b.toList):=by
 refine List.Perm.trans ?_ m.pm
 simp only [Array.toList_append,Array.toList_extract,List.append_assoc,List.extract_eq_take_drop]
 refine List.Perm.append_left _ (List.perm_append_comm.trans (List.Perm.of_eq ?_))
 simp [List.take_of_length_le]
structure SG (st st':SortSt):Prop where
 arr:arrOf st'=arrOf st
 kind:kindOf st'=kindOf st
 pend:pendingOf st'=pendingOf st
 fail:failedOf st'=failedOf st
theorem SG.put {st st':SortSt} (h:SG st st') (g:Nat):SG st (SortSt.mk' (kindOf st') (arrOf st') (pendingOf st') g (failedOf st')):=⟨h.arr,h.kind,h.pend,h.fail⟩
theorem SG.refl (st:SortSt):SG st st:=⟨rfl,rfl,rfl,rfl⟩
section
variable {prog:Program}{w:World}{A:Around}{E:Value→Shared→Prop}{s:Shared}
theorem zaf5 {st:SortSt}{x:String}{Q:Unit→SortSt→Prop} (h:Q () st):wpS (model prog w) A E s (liftM (rule x):StateT SortSt Sem Unit) Q st:=wpS_lift (wpAny_rule ⟨rfl,h⟩)
theorem zaa3 {α:Type}{c:Prop} [Decidable c] {t e:StateT SortSt Sem α}{st:SortSt}{Q:α→SortSt→Prop} (h1:c→wpS (model prog w) A E s t Q st) (h2:¬ c→wpS (model prog w) A E s e Q st):wpS (model prog w) A E s (if c then t else e) Q st:=by
 split
 ·exact h1 ‹_›
 ·exact h2 ‹_›
theorem zar4 {st:SortSt}{a b:Array Keyed}{Q:Array Keyed→SortSt→Prop} (hk:kindOf st=oneType') (ia:∀ i (h:i < a.size),KI a[i]) (ib:∀ i (h:i < b.size),KI b[i]) (ha:0 < a.size) (hb:0 < b.size)
  (h:∀ out st',out.toList.Perm (a.toList++b.toList)→SG st st'→Q out st'):wpS (model prog w) A E s (mlo' a b) Q st:=by
 refine wpS_bind (zaf5 ?_)
 refine wpS_bind (zaa5 hb ?_)
 have m0:MG a b #[b[0]] 0 1:=by
  refine ⟨?_⟩
  have e:b.toList=b[0] :: b.toList.drop 1:=by
   have:=List.drop_eq_getElem_cons (l:=b.toList) (i:=0) (by simpa using hb)
   simpa using this
  rw [List.drop_zero]
  conv=>rhs; rw [e]
  show (b[0] :: (a.toList++b.toList.drop 1)).Perm _
  exact (List.perm_middle (a:=b[0])).symm
 have rt:∀ out st',out.toList.Perm (a.toList++b.toList)→SG st st'→wpS (model prog w) A E s (pure out:StateT SortSt Sem (Array Keyed)) Q st':=fun out st' p g=>wpS_pure (h out st' p g)
 refine zaa3 (fun _=>rt _ _ m0.done (SG.refl _)) (fun n1=>?_)
 refine zaa3 (fun _=>rt _ _ m0.last (SG.refl _)) (fun n2=>?_)
 have n1:1 < b.size:=by simp at n1; omega
 have n2:1 < a.size:=by simp at n2; omega
 refine wpS_bind (wpS_get ?_)
 refine wpS_bind (wpS_mono (wpS_forRange (I:=fun x c st'=>SG st st'∧∃ out ja jb g,c=(none,out,ja,jb,g)∧MG a b out ja jb∧ja + 1 < a.size∧jb < b.size∧x + (a.size - ja) + (b.size - jb) + 1≤a.size + b.size) (Q:=fun c st'=>SG st st'∧∃ out,c.1=some out∧out.toList.Perm (a.toList++b.toList)) ?_ ?_ ⟨SG.refl _,_,0,1,_,rfl,m0,n2,n1,by omega⟩) ?_)
 ·rintro x c st1 _ hx ⟨sg,out,ja,jb,g,rfl,m,ha1,hb1,hr⟩
  have hk1:kindOf st1=oneType':=sg.kind.trans hk
  refine wpS_bind (wpS_mono (wpS_forRange (I:=fun y c st'=>st'=st1∧∃ out ja' jb' p q,c=(none,out,ja',jb',p,q)∧MG a b out ja' jb'∧ja' + 1 < a.size∧jb' < b.size∧y + (a.size - ja') + (b.size - jb')≤(a.size - ja) + (b.size - jb))
   (Q:=fun c st'=>st'=st1∧((∃ out,c.1=some out∧out.toList.Perm (a.toList++b.toList))∨∃ out ja' jb' p q,c=(none,out,ja',jb',p,q)∧MG a b out ja' jb'∧ja' + 1 < a.size∧jb' < b.size∧1 + (a.size - ja') + (b.size - jb')≤(a.size - ja) + (b.size - jb))) ?_ ?_ ⟨rfl,out,ja,jb,0,0,rfl,m,ha1,hb1,by omega⟩) ?_)
  ·rintro y c st2 _ hy ⟨rfl,out,ja',jb',p,q,rfl,m,ha2,hb2,hr2⟩
   refine wpS_bind (zaa5 hb2 (wpS_bind (zaa5 (show ja' < a.size by omega) (wpS_bind (zaey hk1 (ib _ _) (ia _ _) fun c=>?_)))))
   refine zaa3 (fun _=>wpS_bind (zaa5 hb2 ?_)) (fun _=>wpS_bind (zaa5 (show ja' < a.size by omega) ?_))
   ·have mb:=m.b hb2
    refine zaa3 (fun _=>wpS_pure ⟨rfl,.inl ⟨_,rfl,mb.done⟩⟩) (fun ne=>?_)
    have ne:jb' + 1 < b.size:=by simp at ne; omega
    exact zaa3 (fun _=>wpS_pure ⟨rfl,.inr ⟨_,ja',jb' + 1,_,_,rfl,mb,ha2,ne,by omega⟩⟩) (fun _=>wpS_pure ⟨rfl,_,ja',jb' + 1,_,_,rfl,mb,ha2,ne,by omega⟩)
   ·have ma:=m.a (show ja' < a.size by omega)
    refine zaa3 (fun _=>wpS_pure ⟨rfl,.inl ⟨_,rfl,ma.last⟩⟩) (fun ne=>?_)
    have ne:ja' + 1 + 1 < a.size:=by simp at ne; omega
    exact zaa3 (fun _=>wpS_pure ⟨rfl,.inr ⟨_,ja' + 1,jb',_,_,rfl,ma,ne,hb2,by omega⟩⟩) (fun _=>wpS_pure ⟨rfl,_,ja' + 1,jb',_,_,rfl,ma,ne,hb2,by omega⟩)
  ·rintro c st2 ⟨rfl,out,ja',jb',p,q,rfl,m,ha2,hb2,hr2⟩
   exact ⟨rfl,.inr ⟨_,_,_,_,_,rfl,m,ha2,hb2,by omega⟩⟩
  rintro c st2 ⟨rfl,hc⟩
  rcases hc with ⟨out,hc,pm⟩ | ⟨out,ja',jb',p,q,rfl,m,ha2,hb2,hr2⟩
  ·obtain ⟨c1,c2⟩:=c
   dsimp only at hc
   subst hc
   exact wpS_pure ⟨sg,_,rfl,pm⟩
  refine wpS_bind (zaf5 ?_)
  refine wpS_bind (wpS_mono (wpS_forRange (I:=fun y c st'=>SG st st'∧∃ out ja2 jb2 mg p q,c=(none,out,ja2,jb2,mg,p,q)∧MG a b out ja2 jb2∧ja2 + 1 < a.size∧jb2 < b.size∧(a.size - ja2) + (b.size - jb2)≤(a.size - ja') + (b.size - jb'))
   (Q:=fun c st'=>SG st st'∧((∃ out,c.1=some out∧out.toList.Perm (a.toList++b.toList))∨∃ out ja2 jb2 mg p q,c=(none,out,ja2,jb2,mg,p,q)∧MG a b out ja2 jb2∧ja2 + 1 < a.size∧jb2 < b.size∧(a.size - ja2) + (b.size - jb2)≤(a.size - ja') + (b.size - jb'))) ?_ ?_ ⟨sg,out,ja',jb',g + 1,p,q,rfl,m,ha2,hb2,by omega⟩) ?_)
  ·rintro y c st3 _ hy ⟨sg3,out,ja2,jb2,mg,p,q,rfl,m,ha3,hb3,hr3⟩
   refine zaa3 (fun _=>wpS_bind (wpS_modify ?_)) (fun _=>wpS_bind (wpS_modify ?_))
   all_goals
    have sgn:=sg3.put
    have hk3:=sg3.kind.trans hk
    refine wpS_bind (zaa5 hb3 ?_)
    refine wpS_bind (zadz (b:=ja2) (n:=a.size - ja2) (hint:=0) hk3 (ib _ _) ia (by omega) (by omega) fun k1 hk1=>?_)
    refine zaa3 (fun kp=>zaa3 (fun _=>wpS_pure ⟨sgn _,.inl ⟨_,rfl,(m.ak k1).last⟩⟩) (fun n3=>zaa3 (fun _=>wpS_pure ⟨sgn _,.inl ⟨_,rfl,(m.ak k1).done⟩⟩) (fun n4=>?_))) (fun kp=>?_)
    ·have n4:ja2 + k1 + 1 < a.size:=by
      have n3:¬ (ja2 + k1 + 1 == a.size)=true:=n3
      have n4:¬ (ja2 + k1 == a.size)=true:=n4
      simp at n3 n4; omega
     refine wpS_bind (zaa5 hb3 ?_)
     have mb:=MG.b (m.ak k1) hb3
     refine zaa3 (fun _=>wpS_pure ⟨sgn _,.inl ⟨_,rfl,mb.done⟩⟩) (fun ne=>?_)
     have ne:jb2 + 1 < b.size:=by
      have ne:¬ (jb2 + 1 == b.size)=true:=ne
      simp at ne; omega
     refine wpS_bind (zaa5 (show (ja2 + k1) < a.size by omega) ?_)
     refine wpS_bind (zadz (b:=jb2 + 1) (n:=b.size - (jb2 + 1)) (hint:=0) hk3 (ia _ _) ib (by omega) (by omega) fun k2 hk2=>?_)
     refine zaa3 (fun kp2=>zaa3 (fun _=>wpS_pure ⟨sgn _,.inl ⟨_,rfl,(mb.bk k2).done⟩⟩) (fun ne2=>?_)) (fun kp2=>?_)
     ·have ne2:jb2 + 1 + k2 < b.size:=by
       have ne2:¬ (jb2 + 1 + k2 == b.size)=true:=ne2
       simp at ne2; omega
      refine wpS_bind (zaa5 (show (ja2 + k1) < a.size by omega) ?_)
      have ma:=(mb.bk k2).a (show (ja2 + k1) < a.size by omega)
      refine zaa3 (fun _=>wpS_pure ⟨sgn _,.inl ⟨_,rfl,ma.last⟩⟩) (fun ne3=>?_)
      have ne3:(ja2 + k1) + 1 + 1 < a.size:=by
       have ne3:¬ ((ja2 + k1) + 1 + 1 == a.size)=true:=ne3
       simp at ne3; omega
      exact zaa3 (fun _=>wpS_pure ⟨sgn _,.inr ⟨_,(ja2 + k1) + 1,jb2 + 1 + k2,_,_,_,rfl,ma,ne3,ne2,by omega⟩⟩) (fun _=>wpS_pure ⟨sgn _,_,(ja2 + k1) + 1,jb2 + 1 + k2,_,_,_,rfl,ma,ne3,ne2,by omega⟩)
     ·refine wpS_bind (zaa5 (show (ja2 + k1) < a.size by omega) ?_)
      have ma:=mb.a (show (ja2 + k1) < a.size by omega)
      refine zaa3 (fun _=>wpS_pure ⟨sgn _,.inl ⟨_,rfl,ma.last⟩⟩) (fun ne3=>?_)
      have ne3:(ja2 + k1) + 1 + 1 < a.size:=by
       have ne3:¬ ((ja2 + k1) + 1 + 1 == a.size)=true:=ne3
       simp at ne3; omega
      exact zaa3 (fun _=>wpS_pure ⟨sgn _,.inr ⟨_,(ja2 + k1) + 1,jb2 + 1,_,_,_,rfl,ma,ne3,ne,by omega⟩⟩) (fun _=>wpS_pure ⟨sgn _,_,(ja2 + k1) + 1,jb2 + 1,_,_,_,rfl,ma,ne3,ne,by omega⟩)
    ·skip
     refine wpS_bind (zaa5 hb3 ?_)
     have mb:=MG.b m hb3
     refine zaa3 (fun _=>wpS_pure ⟨sgn _,.inl ⟨_,rfl,mb.done⟩⟩) (fun ne=>?_)
     have ne:jb2 + 1 < b.size:=by
      have ne:¬ (jb2 + 1 == b.size)=true:=ne
      simp at ne; omega
     refine wpS_bind (zaa5 (show ja2 < a.size by omega) ?_)
     refine wpS_bind (zadz (b:=jb2 + 1) (n:=b.size - (jb2 + 1)) (hint:=0) hk3 (ia _ _) ib (by omega) (by omega) fun k2 hk2=>?_)
     refine zaa3 (fun kp2=>zaa3 (fun _=>wpS_pure ⟨sgn _,.inl ⟨_,rfl,(mb.bk k2).done⟩⟩) (fun ne2=>?_)) (fun kp2=>?_)
     ·have ne2:jb2 + 1 + k2 < b.size:=by
       have ne2:¬ (jb2 + 1 + k2 == b.size)=true:=ne2
       simp at ne2; omega
      refine wpS_bind (zaa5 (show ja2 < a.size by omega) ?_)
      have ma:=(mb.bk k2).a (show ja2 < a.size by omega)
      refine zaa3 (fun _=>wpS_pure ⟨sgn _,.inl ⟨_,rfl,ma.last⟩⟩) (fun ne3=>?_)
      have ne3:ja2 + 1 + 1 < a.size:=by
       have ne3:¬ (ja2 + 1 + 1 == a.size)=true:=ne3
       simp at ne3; omega
      exact zaa3 (fun _=>wpS_pure ⟨sgn _,.inr ⟨_,ja2 + 1,jb2 + 1 + k2,_,_,_,rfl,ma,ne3,ne2,by omega⟩⟩) (fun _=>wpS_pure ⟨sgn _,_,ja2 + 1,jb2 + 1 + k2,_,_,_,rfl,ma,ne3,ne2,by omega⟩)
     ·refine wpS_bind (zaa5 (show ja2 < a.size by omega) ?_)
      have ma:=mb.a (show ja2 < a.size by omega)
      refine zaa3 (fun _=>wpS_pure ⟨sgn _,.inl ⟨_,rfl,ma.last⟩⟩) (fun ne3=>?_)
      have ne3:ja2 + 1 + 1 < a.size:=by
       have ne3:¬ (ja2 + 1 + 1 == a.size)=true:=ne3
       simp at ne3; omega
      exact zaa3 (fun _=>wpS_pure ⟨sgn _,.inr ⟨_,ja2 + 1,jb2 + 1,_,_,_,rfl,ma,ne3,ne,by omega⟩⟩) (fun _=>wpS_pure ⟨sgn _,_,ja2 + 1,jb2 + 1,_,_,_,rfl,ma,ne3,ne,by omega⟩)
  ·rintro c st3 ⟨sg3,out,ja2,jb2,mg,p,q,rfl,m,ha3,hb3,hr3⟩
   exact ⟨sg3,.inr ⟨_,_,_,_,_,_,rfl,m,ha3,hb3,hr3⟩⟩
  rintro c st3 ⟨sg3,hc⟩
  rcases hc with ⟨out,hc,pm⟩ | ⟨out,ja2,jb2,mg,p,q,rfl,m,ha3,hb3,hr3⟩
  ·obtain ⟨c1,c2⟩:=c
   dsimp only at hc
   subst hc
   exact wpS_pure ⟨sg3,_,rfl,pm⟩
  refine wpS_bind (wpS_modify (wpS_pure ⟨⟨sg3.arr,sg3.kind,sg3.pend,sg3.fail⟩,_,ja2,jb2,_,rfl,m,ha3,hb3,by omega⟩))
 ·rintro c st1 ⟨sg,out,ja,jb,g,rfl,m,ha1,hb1,hr⟩
  omega
 ·rintro c st1 ⟨sg,out,hc,pm⟩
  obtain ⟨c1,c2⟩:=c
  dsimp only at hc
  subst hc
  exact rt _ _ pm sg
end
end L2

namespace L2
open PySem PySem.W PyProof.Rows
structure MH (a b out:Array Keyed) (na nb:Nat):Prop where
 pm:(a.toList.take na++(b.toList.take nb++out.toList.reverse)).Perm (a.toList++b.toList)
theorem MH.a {a b out:Array Keyed}{na nb:Nat} (m:MH a b out (na + 1) nb) (h:na < a.size):MH a b (out.push a[na]) na nb:=by
 refine ⟨List.Perm.trans ?_ m.pm⟩
 rw [List.take_add_one,List.getElem?_eq_getElem (show na < a.toList.length by simpa using h)]
 simp only [Array.toList_push,List.reverse_append,List.reverse_cons,List.reverse_nil,List.nil_append,List.append_assoc,Option.toList_some,Array.getElem_toList]
 refine List.Perm.append_left _ ?_
 show (b.toList.take nb++a[na] :: out.toList.reverse).Perm (a[na] :: (b.toList.take nb++out.toList.reverse))
 exact List.perm_middle
theorem MH.a' {a b out:Array Keyed}{na nb:Nat} (m:MH a b out na nb) (h1:1≤na) (h:na - 1 < a.size):MH a b (out.push a[na - 1]) (na - 1) nb:=by
 obtain ⟨u,rfl⟩:∃ u,na=u + 1:=⟨na - 1,by omega⟩
 exact m.a h
theorem MH.b {a b out:Array Keyed}{na nb:Nat} (m:MH a b out na (nb + 1)) (h:nb < b.size):MH a b (out.push b[nb]) na nb:=by
 refine ⟨List.Perm.trans (List.Perm.of_eq ?_) m.pm⟩
 rw [List.take_add_one,List.getElem?_eq_getElem (show nb < b.toList.length by simpa using h)]
 simp
theorem zako {l:List Keyed}{i n:Nat} (h:i≤n):l.take n=l.take i++(l.drop i).take (n - i):=by
 conv=>lhs; rw [show n=i + (n - i) by omega]
 rw [List.take_add]
theorem MH.ak {a b out:Array Keyed}{na nb i:Nat} (m:MH a b out na nb) (h:i≤na):MH a b (out++(a.extract i na).reverse) i nb:=by
 refine ⟨List.Perm.trans ?_ m.pm⟩
 rw [zako h]
 simp only [Array.toList_append,Array.toList_reverse,Array.toList_extract,List.extract_eq_take_drop,List.reverse_append,List.reverse_reverse,List.append_assoc]
 refine List.Perm.append_left _ ?_
 rw [← List.append_assoc,← List.append_assoc]
 exact List.Perm.append_right _ List.perm_append_comm
theorem MH.bk {a b out:Array Keyed}{na nb i:Nat} (m:MH a b out na nb) (h:i≤nb):MH a b (out++(b.extract i nb).reverse) na i:=by
 refine ⟨List.Perm.trans (List.Perm.of_eq ?_) m.pm⟩
 rw [zako h]
 simp only [Array.toList_append,Array.toList_reverse,Array.toList_extract,List.extract_eq_take_drop,List.reverse_append,List.reverse_reverse,List.append_assoc]
theorem MH.done {a b out:Array Keyed}{na nb:Nat} (m:MH a b out na nb):(a.extract 0 na++b.extract 0 nb++out.reverse).toList.Perm (a.toList++b.toList):=by
 refine List.Perm.trans (List.Perm.of_eq ?_) m.pm
 simp [List.extract_eq_take_drop]
theorem MH.first {a b out:Array Keyed}{na nb:Nat} (m:MH a b out na nb):(b.extract 0 nb++a.extract 0 na++out.reverse).toList.Perm (a.toList++b.toList):=by
 refine List.Perm.trans ?_ m.pm
 simp only [Array.toList_append,Array.toList_reverse,Array.toList_extract,List.extract_eq_take_drop,List.drop_zero,Nat.sub_zero,List.append_assoc]
 rw [← List.append_assoc,← List.append_assoc]
 exact List.Perm.append_right _ List.perm_append_comm
section
variable {prog:Program}{w:World}{A:Around}{E:Value→Shared→Prop}{s:Shared}
theorem zar5 {st:SortSt}{a b:Array Keyed}{Q:Array Keyed→SortSt→Prop} (hk:kindOf st=oneType') (ia:∀ i (h:i < a.size),KI a[i]) (ib:∀ i (h:i < b.size),KI b[i]) (ha:0 < a.size) (hb:0 < b.size)
  (h:∀ out st',out.toList.Perm (a.toList++b.toList)→SG st st'→Q out st'):wpS (model prog w) A E s (mhi' a b) Q st:=by
 have la:a.size - 1 < a.size:=by omega
 refine wpS_bind (zaf5 (wpS_bind (zaa5 la ?_)))
 have m0:MH a b #[a[a.size - 1]] (a.size - 1) b.size:=by
  have m:MH a b #[] (a.size - 1 + 1) b.size:=by
   refine ⟨List.Perm.of_eq ?_⟩
   rw [show a.size - 1 + 1=a.size by omega]
   simp [List.take_of_length_le]
  exact m.a la
 have rt:∀ out st',out.toList.Perm (a.toList++b.toList)→SG st st'→wpS (model prog w) A E s (pure out:StateT SortSt Sem (Array Keyed)) Q st':=fun out st' p g=>wpS_pure (h out st' p g)
 refine zaa3 (fun _=>rt _ _ m0.done (SG.refl _)) (fun n1=>?_)
 refine zaa3 (fun _=>rt _ _ m0.first (SG.refl _)) (fun n2=>?_)
 have n1:1≤a.size - 1:=by simp at n1; omega
 have n2:2≤b.size:=by simp at n2; omega
 refine wpS_bind (wpS_get ?_)
 refine wpS_bind (wpS_mono (wpS_forRange (I:=fun x c st'=>SG st st'∧∃ out na nb g,c=(none,na,nb,out,g)∧MH a b out na nb∧1≤na∧2≤nb∧na≤a.size∧nb≤b.size∧x + na + nb + 1≤a.size + b.size) (Q:=fun c st'=>SG st st'∧∃ out,c.1=some out∧out.toList.Perm (a.toList++b.toList)) ?_ ?_ ⟨SG.refl _,_,a.size - 1,b.size,_,rfl,m0,n1,n2,by omega,by omega,by omega⟩) ?_)
 ·rintro x c st1 _ hx ⟨sg,out,na,nb,g,rfl,m,ha1,hb1,la1,lb1,hr⟩
  have hk1:kindOf st1=oneType':=sg.kind.trans hk
  refine wpS_bind (wpS_mono (wpS_forRange (I:=fun y c st'=>st'=st1∧∃ out u v p q,c=(none,u,v,out,p,q)∧MH a b out u v∧1≤u∧2≤v∧u≤a.size∧v≤b.size∧y + u + v≤na + nb)
   (Q:=fun c st'=>st'=st1∧((∃ out,c.1=some out∧out.toList.Perm (a.toList++b.toList))∨∃ out u v p q,c=(none,u,v,out,p,q)∧MH a b out u v∧1≤u∧2≤v∧u≤a.size∧v≤b.size∧1 + u + v≤na + nb)) ?_ ?_ ⟨rfl,out,na,nb,0,0,rfl,m,ha1,hb1,la1,lb1,by omega⟩) ?_)
  ·rintro y c st2 _ hy ⟨rfl,out,u,v,p,q,rfl,m,ha2,hb2,la2,lb2,hr2⟩
   obtain ⟨u,rfl⟩:∃ u',u=u' + 1:=⟨u - 1,by omega⟩
   obtain ⟨v,rfl⟩:∃ v',v=v' + 1:=⟨v - 1,by omega⟩
   have lu:u < a.size:=by omega
   have lv:v < b.size:=by omega
   refine wpS_bind (zaa5 (i:=v) lv (wpS_bind (zaa5 (i:=u) lu (wpS_bind (zaey hk1 (ib _ _) (ia _ _) fun c=>?_)))))
   refine zaa3 (fun _=>wpS_bind (zaa5 (i:=u) lu ?_)) (fun _=>wpS_bind (zaa5 (i:=v) lv ?_))
   ·have ma:=m.a lu
    refine zaa3 (fun _=>wpS_pure ⟨rfl,.inl ⟨_,rfl,ma.done⟩⟩) (fun ne=>?_)
    have ne:1≤u:=by
     have ne:¬ (u == 0)=true:=ne
     simp at ne; omega
    exact zaa3 (fun _=>wpS_pure ⟨rfl,.inr ⟨_,u,v + 1,_,_,rfl,ma,ne,hb2,by omega,lb2,by omega⟩⟩) (fun _=>wpS_pure ⟨rfl,_,u,v + 1,_,_,rfl,ma,ne,hb2,by omega,lb2,by omega⟩)
   ·have mb:=m.b lv
    refine zaa3 (fun _=>wpS_pure ⟨rfl,.inl ⟨_,rfl,mb.first⟩⟩) (fun ne=>?_)
    have ne:2≤v:=by
     have ne:¬ (v == 1)=true:=ne
     simp at ne; omega
    exact zaa3 (fun _=>wpS_pure ⟨rfl,.inr ⟨_,u + 1,v,_,_,rfl,mb,ha2,ne,la2,by omega,by omega⟩⟩) (fun _=>wpS_pure ⟨rfl,_,u + 1,v,_,_,rfl,mb,ha2,ne,la2,by omega,by omega⟩)
  ·rintro c st2 ⟨rfl,out,u,v,p,q,rfl,m,ha2,hb2,la2,lb2,hr2⟩
   exact ⟨rfl,.inr ⟨_,u,v,_,_,rfl,m,ha2,hb2,la2,lb2,by omega⟩⟩
  rintro c st2 ⟨rfl,hc⟩
  rcases hc with ⟨out,hc,pm⟩ | ⟨out,u,v,p,q,rfl,m,ha2,hb2,la2,lb2,hr2⟩
  ·obtain ⟨c1,c2⟩:=c
   dsimp only at hc
   subst hc
   exact wpS_pure ⟨sg,_,rfl,pm⟩
  refine wpS_bind (zaf5 ?_)
  refine wpS_bind (wpS_mono (wpS_forRange (I:=fun y c st'=>SG st st'∧∃ out u2 v2 mg p q,c=(none,u2,v2,out,mg,p,q)∧MH a b out u2 v2∧1≤u2∧2≤v2∧u2≤a.size∧v2≤b.size∧u2 + v2≤u + v)
   (Q:=fun c st'=>SG st st'∧((∃ out,c.1=some out∧out.toList.Perm (a.toList++b.toList))∨∃ out u2 v2 mg p q,c=(none,u2,v2,out,mg,p,q)∧MH a b out u2 v2∧1≤u2∧2≤v2∧u2≤a.size∧v2≤b.size∧u2 + v2≤u + v)) ?_ ?_ ⟨sg,out,u,v,g + 1,p,q,rfl,m,ha2,hb2,la2,lb2,by omega⟩) ?_)
  ·rintro y c st3 _ hy ⟨sg3,out,u2,v2,mg,p,q,rfl,m,ha3,hb3,la3,lb3,hr3⟩
   obtain ⟨v2,rfl⟩:∃ v',v2=v' + 1:=⟨v2 - 1,by omega⟩
   have lv:v2 < b.size:=by omega
   refine zaa3 (fun _=>wpS_bind (wpS_modify ?_)) (fun _=>wpS_bind (wpS_modify ?_))
   all_goals
    have sgn:=sg3.put
    have hk3:=sg3.kind.trans hk
    refine wpS_bind (zaa5 (i:=v2) lv ?_)
    refine wpS_bind (zadz (b:=0) (n:=u2) (hint:=u2 - 1) hk3 (ib _ _) ia (by omega) (by omega) fun i1 hi1=>?_)
    refine zaa3 (fun kp=>zaa3 (fun _=>wpS_pure ⟨sgn _,.inl ⟨_,rfl,(m.ak hi1).done⟩⟩) (fun n3=>?_)) (fun kp=>?_)
    ·have n3:1≤i1:=by
      have n3:¬ (i1 == 0)=true:=n3
      simp at n3; omega
     have lx:i1≤a.size:=by omega
     have lx2:i1≤u2:=hi1
     refine wpS_bind (zaa5 (i:=v2) lv ?_)
     have mb:=MH.b (m.ak hi1) lv
     refine zaa3 (fun _=>wpS_pure ⟨sgn _,.inl ⟨_,rfl,mb.first⟩⟩) (fun ne=>?_)
     have ne:2≤v2:=by
      have ne:¬ (v2 == 1)=true:=ne
      simp at ne; omega
     obtain ⟨w1,ew1⟩:∃ w1,i1=w1 + 1:=⟨i1 - 1,by omega⟩
     have lw:i1 - 1 < a.size:=by omega
     refine wpS_bind (zaa5 (i:=i1 - 1) lw ?_)
     refine wpS_bind (zadz (b:=0) (n:=v2) (hint:=v2 - 1) hk3 (ia _ _) ib (by omega) (by omega) fun i2 hi2=>?_)
     refine zaa3 (fun kp2=>zaa3 (fun _=>wpS_pure ⟨sgn _,.inl ⟨_,rfl,(mb.bk hi2).first⟩⟩) (fun n5=>zaa3 (fun _=>wpS_pure ⟨sgn _,.inl ⟨_,rfl,(mb.bk hi2).done⟩⟩) (fun n6=>?_))) (fun kp2=>?_)
     ·have n6:2≤i2:=by
       have n5:¬ (i2 == 1)=true:=n5
       have n6:¬ (i2 == 0)=true:=n6
       simp at n5 n6; omega
      refine wpS_bind (zaa5 (i:=i1 - 1) lw ?_)
      have ma:=(mb.bk hi2).a' n3 lw
      refine zaa3 (fun _=>wpS_pure ⟨sgn _,.inl ⟨_,rfl,ma.done⟩⟩) (fun ne3=>?_)
      have ne3:1≤i1 - 1:=by
       have ne3:¬ (i1 - 1 == 0)=true:=ne3
       simp at ne3; omega
      exact zaa3 (fun _=>wpS_pure ⟨sgn _,.inr ⟨_,i1 - 1,i2,_,_,_,rfl,ma,ne3,n6,by omega,by omega,by omega⟩⟩) (fun _=>wpS_pure ⟨sgn _,_,i1 - 1,i2,_,_,_,rfl,ma,ne3,n6,by omega,by omega,by omega⟩)
     ·refine wpS_bind (zaa5 (i:=i1 - 1) lw ?_)
      have ma:=mb.a' n3 lw
      refine zaa3 (fun _=>wpS_pure ⟨sgn _,.inl ⟨_,rfl,ma.done⟩⟩) (fun ne3=>?_)
      have ne3:1≤i1 - 1:=by
       have ne3:¬ (i1 - 1 == 0)=true:=ne3
       simp at ne3; omega
      exact zaa3 (fun _=>wpS_pure ⟨sgn _,.inr ⟨_,i1 - 1,v2,_,_,_,rfl,ma,ne3,ne,by omega,by omega,by omega⟩⟩) (fun _=>wpS_pure ⟨sgn _,_,i1 - 1,v2,_,_,_,rfl,ma,ne3,ne,by omega,by omega,by omega⟩)
    ·skip
     have n3:1≤u2:=ha3
     have lx:u2≤a.size:=la3
     have lx2:u2≤u2:=Nat.le_refl _
     refine wpS_bind (zaa5 (i:=v2) lv ?_)
     have mb:=MH.b m lv
     refine zaa3 (fun _=>wpS_pure ⟨sgn _,.inl ⟨_,rfl,mb.first⟩⟩) (fun ne=>?_)
     have ne:2≤v2:=by
      have ne:¬ (v2 == 1)=true:=ne
      simp at ne; omega
     obtain ⟨w1,ew1⟩:∃ w1,u2=w1 + 1:=⟨u2 - 1,by omega⟩
     have lw:u2 - 1 < a.size:=by omega
     refine wpS_bind (zaa5 (i:=u2 - 1) lw ?_)
     refine wpS_bind (zadz (b:=0) (n:=v2) (hint:=v2 - 1) hk3 (ia _ _) ib (by omega) (by omega) fun i2 hi2=>?_)
     refine zaa3 (fun kp2=>zaa3 (fun _=>wpS_pure ⟨sgn _,.inl ⟨_,rfl,(mb.bk hi2).first⟩⟩) (fun n5=>zaa3 (fun _=>wpS_pure ⟨sgn _,.inl ⟨_,rfl,(mb.bk hi2).done⟩⟩) (fun n6=>?_))) (fun kp2=>?_)
     ·have n6:2≤i2:=by
       have n5:¬ (i2 == 1)=true:=n5
       have n6:¬ (i2 == 0)=true:=n6
       simp at n5 n6; omega
      refine wpS_bind (zaa5 (i:=u2 - 1) lw ?_)
      have ma:=(mb.bk hi2).a' n3 lw
      refine zaa3 (fun _=>wpS_pure ⟨sgn _,.inl ⟨_,rfl,ma.done⟩⟩) (fun ne3=>?_)
      have ne3:1≤u2 - 1:=by
       have ne3:¬ (u2 - 1 == 0)=true:=ne3
       simp at ne3; omega
      exact zaa3 (fun _=>wpS_pure ⟨sgn _,.inr ⟨_,u2 - 1,i2,_,_,_,rfl,ma,ne3,n6,by omega,by omega,by omega⟩⟩) (fun _=>wpS_pure ⟨sgn _,_,u2 - 1,i2,_,_,_,rfl,ma,ne3,n6,by omega,by omega,by omega⟩)
     ·refine wpS_bind (zaa5 (i:=u2 - 1) lw ?_)
      have ma:=mb.a' n3 lw
      refine zaa3 (fun _=>wpS_pure ⟨sgn _,.inl ⟨_,rfl,ma.done⟩⟩) (fun ne3=>?_)
      have ne3:1≤u2 - 1:=by
       have ne3:¬ (u2 - 1 == 0)=true:=ne3
       simp at ne3; omega
      exact zaa3 (fun _=>wpS_pure ⟨sgn _,.inr ⟨_,u2 - 1,v2,_,_,_,rfl,ma,ne3,ne,by omega,by omega,by omega⟩⟩) (fun _=>wpS_pure ⟨sgn _,_,u2 - 1,v2,_,_,_,rfl,ma,ne3,ne,by omega,by omega,by omega⟩)
  ·rintro c st3 ⟨sg3,out,u2,v2,mg,p,q,rfl,m,ha3,hb3,la3,lb3,hr3⟩
   exact ⟨sg3,.inr ⟨_,_,_,_,_,_,rfl,m,ha3,hb3,la3,lb3,hr3⟩⟩
  rintro c st3 ⟨sg3,hc⟩
  rcases hc with ⟨out,hc,pm⟩ | ⟨out,u2,v2,mg,p,q,rfl,m,ha3,hb3,la3,lb3,hr3⟩
  ·obtain ⟨c1,c2⟩:=c
   dsimp only at hc
   subst hc
   exact wpS_pure ⟨sg3,_,rfl,pm⟩
  exact wpS_bind (wpS_modify (wpS_pure ⟨⟨sg3.arr,sg3.kind,sg3.pend,sg3.fail⟩,_,u2,v2,_,rfl,m,ha3,hb3,la3,lb3,by omega⟩))
 ·rintro c st1 ⟨sg,out,na,nb,g,rfl,m,ha1,hb1,_,_,hr⟩
  omega
 ·rintro c st1 ⟨sg,out,hc,pm⟩
  obtain ⟨c1,c2⟩:=c
  dsimp only at hc
  subst hc
  exact rt _ _ pm sg
end
end L2

namespace L2
open PySem PySem.W PyProof.Rows
structure SPm (a0:Array Keyed) (st:SortSt):Prop where
 pm:(arrOf st).Perm a0
 kind:kindOf st=oneType'
 fail:failedOf st=none
theorem SPm.size {a0:Array Keyed}{st:SortSt} (h:SPm a0 st):(arrOf st).size=a0.size:=h.pm.size_eq
theorem SPm.ki {a0:Array Keyed}{st:SortSt} (h:SPm a0 st) (k0:∀ x∈a0.toList,KI x) {i:Nat} (hi:i < (arrOf st).size):KI (arrOf st)[i]:=k0 _ ((Array.perm_iff_toList_perm.mp h.pm).mem_iff.mp (by simp))
theorem SPm.arr {a0:Array Keyed}{st:SortSt} (h:SPm a0 st) {xs:Array Keyed} (p:xs.Perm (arrOf st)):SPm a0 (setArr st xs):=⟨p.trans h.pm,h.kind,h.fail⟩
section
variable {prog:Program}{w:World}{A:Around}{E:Value→Shared→Prop}{s:Shared}
theorem zaco {st:SortSt}{a0:Array Keyed}{i j:Nat}{Q:Option Bool→SortSt→Prop} (hs:SPm a0 st) (k0:∀ x∈a0.toList,KI x) (hi:i < a0.size) (hj:j < a0.size) (h:∀ b,Q (some b) st):wpS (model prog w) A E s (ltAt' i j) Q st:=by
 have li:i < (arrOf st).size:=by rw [hs.size]; exact hi
 have lj:j < (arrOf st).size:=by rw [hs.size]; exact hj
 exact wpS_bind (wpS_get (wpS_bind (zaa5 li (wpS_bind (zaa5 lj (zaey hs.kind (hs.ki k0 li) (hs.ki k0 lj) h))))))
theorem zado {st:SortSt}{a0:Array Keyed}{i j:Nat}{Q:Unit→SortSt→Prop} (hs:SPm a0 st) (h:∀ st',SPm a0 st'→pendingOf st'=pendingOf st→Q () st'):wpS (model prog w) A E s (reverseSlice' i j) Q st:=by
 rw [reverseSlice'_eq]
 exact wpS_modify (h _ (hs.arr (mirror_perm _ _ _ _)) rfl)
theorem zapc {st:SortSt}{a0:Array Keyed}{i j:Nat}{Q:Unit→SortSt→Prop} (hs:SPm a0 st) (h:∀ st',SPm a0 st'→pendingOf st'=pendingOf st→Q () st'):wpS (model prog w) A E s (moveDown' i j) Q st:=by
 rw [moveDown'_eq]
 exact wpS_modify (h _ (hs.arr (bubble_perm _ _ _)) rfl)
theorem zar6 {st:SortSt}{a0:Array Keyed}{lo n ok:Nat}{Q:Bool→SortSt→Prop} (hs:SPm a0 st) (k0:∀ x∈a0.toList,KI x) (hn:lo + n≤a0.size) (h:∀ st',SPm a0 st'→pendingOf st'=pendingOf st→Q true st'):wpS (model prog w) A E s (binarySort' lo n ok) Q st:=by
 refine wpS_bind (wpS_mono (wpS_forRange (I:=fun x c st'=>c=(none,())∧SPm a0 st'∧pendingOf st'=pendingOf st) (Q:=fun c st'=>c=(none,())∧SPm a0 st'∧pendingOf st'=pendingOf st) ?_ (fun c st' h=>h) ⟨rfl,hs,rfl⟩) ?_)
 ·rintro x c st1 _ hx ⟨rfl,s1,p1⟩
  refine wpS_bind (wpS_mono (wpS_forRange (I:=fun y c st'=>st'=st1∧∃ u v:Nat,c=(none,u,v)∧v≤x) (Q:=fun c st'=>st'=st1∧∃ u v:Nat,c=(none,u,v)∧v≤x) ?_ (fun c st' h=>h) ⟨rfl,0,x,rfl,Nat.le_refl _⟩) ?_)
  ·rintro y c st2 _ hy ⟨rfl,u,v,rfl,hv⟩
   refine zaa3 (fun _=>wpS_pure ⟨rfl,u,v,rfl,hv⟩) (fun ne=>?_)
   have ne:¬ u ≥ v:=ne
   refine wpS_bind (zaco (i:=lo + x) (j:=lo + (u + v) / 2) s1 k0 (by omega) (by omega) fun b=>?_)
   exact zaa3 (fun _=>wpS_pure ⟨rfl,u,(u + v) / 2,rfl,by omega⟩) (fun _=>wpS_pure ⟨rfl,(u + v) / 2 + 1,v,rfl,hv⟩)
  ·rintro c st2 ⟨rfl,u,v,rfl,hv⟩
   exact wpS_bind (zapc s1 fun st3 s3 p3=>wpS_pure ⟨rfl,s3,p3.trans p1⟩)
 ·rintro c st1 ⟨rfl,s1,p1⟩
  exact wpS_pure (h _ s1 p1)
theorem zar7 {st:SortSt}{a0:Array Keyed}{lo n:Nat}{Q:Option Nat→SortSt→Prop} (hs:SPm a0 st) (k0:∀ x∈a0.toList,KI x) (hn:lo + n≤a0.size) (h1:1≤n) (h:∀ m st',1≤m→m≤n→SPm a0 st'→pendingOf st'=pendingOf st→Q (some m) st'):wpS (model prog w) A E s (countRun' lo n) Q st:=by
 refine wpS_bind (wpS_mono (wpS_forRange (I:=fun x c st'=>st'=st∧c=(none,x)) (Q:=fun c st'=>st'=st∧∃ m:Nat,c=(none,m)∧1≤m∧m≤n) ?_ ?_ ⟨rfl,rfl⟩) ?_)
 ·rintro x c st1 hx1 hx ⟨rfl,rfl⟩
  refine wpS_bind (zaco (i:=lo + x) (j:=lo + x - 1) hs k0 (by omega) (by omega) fun b=>?_)
  exact zaa3 (fun _=>wpS_pure ⟨rfl,x,rfl,hx1,by omega⟩) (fun _=>wpS_pure ⟨rfl,rfl⟩)
 ·rintro c st1 ⟨rfl,rfl⟩
  exact ⟨rfl,_,rfl,by omega,by omega⟩
 rintro c st1 ⟨rfl,m,rfl,hm,hmn⟩
 refine zaa3 (fun _=>wpS_pure (h m _ hm hmn hs rfl)) (fun ne=>?_)
 have ne:m < n:=by
  have ne:¬ (m == n)=true:=ne
  simp at ne; omega
 refine zaa3 (fun m1=>wpS_bind (zaco (i:=lo) (j:=lo + m - 1) hs k0 (by omega) (by omega) fun b=>zaa3 (fun _=>wpS_pure (h m _ hm hmn hs rfl)) (fun _=>wpS_bind (zado hs fun st2 s2 p2=>?_)))) (fun _=>?_)
 ·skip
  refine wpS_bind (zaf5 ?_)
  refine wpS_bind (wpS_mono (wpS_forRange (I:=fun x c st'=>SPm a0 st'∧pendingOf st'=pendingOf st1∧∃ e:Nat,c=(none,x,e)) (Q:=fun c st'=>SPm a0 st'∧pendingOf st'=pendingOf st1∧∃ r e:Nat,c=(none,r,e)∧1≤r∧r≤n) ?_ ?_ ⟨s2,p2,0,rfl⟩) ?_)
  ·rintro x c st3 hx1 hx ⟨s3,p3,e,rfl⟩
   have hx1:m + 1≤x:=hx1
   refine wpS_bind (zaco (i:=lo + x) (j:=lo + x - 1) s3 k0 (by omega) (by omega) fun b=>?_)
   refine zaa3 (fun _=>zaa3 (fun _=>wpS_bind (zado s3 fun st4 s4 p4=>wpS_pure ⟨s4,p4.trans p3,0,rfl⟩)) (fun _=>wpS_pure ⟨s3,p3,0,rfl⟩)) (fun _=>?_)
   refine wpS_bind (zaco (i:=lo + x - 1) (j:=lo + x) s3 k0 (by omega) (by omega) fun b=>?_)
   exact zaa3 (fun _=>wpS_pure ⟨s3,p3,x,e,rfl,by omega,by omega⟩) (fun _=>wpS_pure ⟨s3,p3,e + 1,rfl⟩)
  ·rintro c st3 ⟨s3,p3,e,rfl⟩
   exact ⟨s3,p3,_,e,rfl,by omega,by have:m + 1≤n:=ne; show max (m + 1) n≤n; omega⟩
  rintro c st3 ⟨s3,p3,r0,e,rfl,hr0,hrn0⟩
  refine zaa3 (fun _=>wpS_bind (zado s3 fun st4 s4 p4=>?_)) (fun _=>?_)
  ·have p4:=p4.trans p3
   refine wpS_bind (zado s4 fun st5 s5 p5=>?_)
   refine wpS_bind (wpS_mono (wpS_forRange (I:=fun x c st'=>st'=st5∧c=(none,x)) (Q:=fun c st'=>st'=st5∧∃ r:Nat,c=(none,r)∧1≤r∧r≤n) ?_ ?_ ⟨rfl,rfl⟩) ?_)
   ·rintro x c st6 hx1 hx ⟨rfl,rfl⟩
    have hx1:r0≤x:=hx1
    refine wpS_bind (zaco (i:=lo + x) (j:=lo + x - 1) s5 k0 (by omega) (by omega) fun b=>?_)
    exact zaa3 (fun _=>wpS_pure ⟨rfl,x,rfl,by omega,by omega⟩) (fun _=>wpS_pure ⟨rfl,rfl⟩)
   ·rintro c st6 ⟨rfl,rfl⟩
    exact ⟨rfl,_,rfl,by show 1≤max r0 n; omega,by show max r0 n≤n; omega⟩
   rintro c st6 ⟨rfl,r,rfl,hr,hrn⟩
   exact wpS_pure (h r _ hr hrn s5 (p5.trans p4))
  ·have s4:=s3
   have p4:=p3
   refine wpS_bind (zado s4 fun st5 s5 p5=>?_)
   refine wpS_bind (wpS_mono (wpS_forRange (I:=fun x c st'=>st'=st5∧c=(none,x)) (Q:=fun c st'=>st'=st5∧∃ r:Nat,c=(none,r)∧1≤r∧r≤n) ?_ ?_ ⟨rfl,rfl⟩) ?_)
   ·rintro x c st6 hx1 hx ⟨rfl,rfl⟩
    have hx1:r0≤x:=hx1
    refine wpS_bind (zaco (i:=lo + x) (j:=lo + x - 1) s5 k0 (by omega) (by omega) fun b=>?_)
    exact zaa3 (fun _=>wpS_pure ⟨rfl,x,rfl,by omega,by omega⟩) (fun _=>wpS_pure ⟨rfl,rfl⟩)
   ·rintro c st6 ⟨rfl,rfl⟩
    exact ⟨rfl,_,rfl,by show 1≤max r0 n; omega,by show max r0 n≤n; omega⟩
   rintro c st6 ⟨rfl,r,rfl,hr,hrn⟩
   exact wpS_pure (h r _ hr hrn s5 (p5.trans p4))
 ·have s2:=hs
  have p2:pendingOf st1=pendingOf st1:=rfl
  refine wpS_bind (zaf5 ?_)
  refine wpS_bind (wpS_mono (wpS_forRange (I:=fun x c st'=>SPm a0 st'∧pendingOf st'=pendingOf st1∧∃ e:Nat,c=(none,x,e)) (Q:=fun c st'=>SPm a0 st'∧pendingOf st'=pendingOf st1∧∃ r e:Nat,c=(none,r,e)∧1≤r∧r≤n) ?_ ?_ ⟨s2,p2,0,rfl⟩) ?_)
  ·rintro x c st3 hx1 hx ⟨s3,p3,e,rfl⟩
   have hx1:m + 1≤x:=hx1
   refine wpS_bind (zaco (i:=lo + x) (j:=lo + x - 1) s3 k0 (by omega) (by omega) fun b=>?_)
   refine zaa3 (fun _=>zaa3 (fun _=>wpS_bind (zado s3 fun st4 s4 p4=>wpS_pure ⟨s4,p4.trans p3,0,rfl⟩)) (fun _=>wpS_pure ⟨s3,p3,0,rfl⟩)) (fun _=>?_)
   refine wpS_bind (zaco (i:=lo + x - 1) (j:=lo + x) s3 k0 (by omega) (by omega) fun b=>?_)
   exact zaa3 (fun _=>wpS_pure ⟨s3,p3,x,e,rfl,by omega,by omega⟩) (fun _=>wpS_pure ⟨s3,p3,e + 1,rfl⟩)
  ·rintro c st3 ⟨s3,p3,e,rfl⟩
   exact ⟨s3,p3,_,e,rfl,by omega,by have:m + 1≤n:=ne; show max (m + 1) n≤n; omega⟩
  rintro c st3 ⟨s3,p3,r0,e,rfl,hr0,hrn0⟩
  refine zaa3 (fun _=>wpS_bind (zado s3 fun st4 s4 p4=>?_)) (fun _=>?_)
  ·have p4:=p4.trans p3
   refine wpS_bind (zado s4 fun st5 s5 p5=>?_)
   refine wpS_bind (wpS_mono (wpS_forRange (I:=fun x c st'=>st'=st5∧c=(none,x)) (Q:=fun c st'=>st'=st5∧∃ r:Nat,c=(none,r)∧1≤r∧r≤n) ?_ ?_ ⟨rfl,rfl⟩) ?_)
   ·rintro x c st6 hx1 hx ⟨rfl,rfl⟩
    have hx1:r0≤x:=hx1
    refine wpS_bind (zaco (i:=lo + x) (j:=lo + x - 1) s5 k0 (by omega) (by omega) fun b=>?_)
    exact zaa3 (fun _=>wpS_pure ⟨rfl,x,rfl,by omega,by omega⟩) (fun _=>wpS_pure ⟨rfl,rfl⟩)
   ·rintro c st6 ⟨rfl,rfl⟩
    exact ⟨rfl,_,rfl,by show 1≤max r0 n; omega,by show max r0 n≤n; omega⟩
   rintro c st6 ⟨rfl,r,rfl,hr,hrn⟩
   exact wpS_pure (h r _ hr hrn s5 (p5.trans p4))
  ·have s4:=s3
   have p4:=p3
   refine wpS_bind (zado s4 fun st5 s5 p5=>?_)
   refine wpS_bind (wpS_mono (wpS_forRange (I:=fun x c st'=>st'=st5∧c=(none,x)) (Q:=fun c st'=>st'=st5∧∃ r:Nat,c=(none,r)∧1≤r∧r≤n) ?_ ?_ ⟨rfl,rfl⟩) ?_)
   ·rintro x c st6 hx1 hx ⟨rfl,rfl⟩
    have hx1:r0≤x:=hx1
    refine wpS_bind (zaco (i:=lo + x) (j:=lo + x - 1) s5 k0 (by omega) (by omega) fun b=>?_)
    exact zaa3 (fun _=>wpS_pure ⟨rfl,x,rfl,by omega,by omega⟩) (fun _=>wpS_pure ⟨rfl,rfl⟩)
   ·rintro c st6 ⟨rfl,rfl⟩
    exact ⟨rfl,_,rfl,by show 1≤max r0 n; omega,by show max r0 n≤n; omega⟩
   rintro c st6 ⟨rfl,r,rfl,hr,hrn⟩
   exact wpS_pure (h r _ hr hrn s5 (p5.trans p4))
end
end L2

namespace L2
open PySem PySem.W PyProof.Rows
structure RN (p:Array (Nat × Nat × Nat)) (top:Nat):Prop where
 ok:∀ (i:Nat) (x:Nat × Nat × Nat),p[i]?=some x→1≤x.2.1∧x.1 + x.2.1≤top
 nx:∀ (i:Nat) (x y:Nat × Nat × Nat),p[i]?=some x→p[i + 1]?=some y→y.1=x.1 + x.2.1
 la:∀ x:Nat × Nat × Nat,p[p.size - 1]?=some x→x.1 + x.2.1=top
theorem zakp:∀ (L:List Keyed) (xs:Array Keyed) (b k:Nat),b + k + L.length≤xs.size→((L.zipIdx k).foldl (fun (a:Array Keyed) (p:Keyed × Nat)=>a.setIfInBounds (b + p.2) p.1) xs).toList=xs.toList.take (b + k)++(L++xs.toList.drop (b + k + L.length))
 | [],xs,b,k,_=>by simp
 | x :: L,xs,b,k,h=>by
  have h:b + k + (L.length + 1)≤xs.size:=h
  have ih:=zakp L (xs.setIfInBounds (b + k) x) b (k + 1) (by simp; omega)
  rw [List.zipIdx_cons,List.foldl_cons]
  show ((L.zipIdx (k + 1)).foldl _ (xs.setIfInBounds (b + k) x)).toList=_
  rw [ih]
  have hl:b + k < xs.toList.length:=by simp; omega
  simp only [Array.toList_setIfInBounds,← Nat.add_assoc,List.length_cons]
  rw [List.take_add_one,List.take_set_of_le (Nat.le_refl _),List.getElem?_set_self hl,List.drop_set_of_lt (by omega),show b + k + 1 + L.length=b + k + L.length + 1 by omega]
  simp
theorem zapd {xs m:Array Keyed}{b e:Nat} (hbe:b≤e) (he:e≤xs.size) (p:m.toList.Perm ((xs.toList.drop b).take (e - b))):(m.toList.zipIdx.foldl (fun (a:Array Keyed) (p:Keyed × Nat)=>a.setIfInBounds (b + p.2) p.1) xs).Perm xs:=by
 have hl:m.toList.length=e - b:=by
  rw [p.length_eq,List.length_take,List.length_drop]; simp; omega
 rw [Array.perm_iff_toList_perm,zakp m.toList xs b 0 (by rw [hl]; omega),hl]
 have e1:xs.toList=xs.toList.take b++((xs.toList.drop b).take (e - b)++xs.toList.drop e):=by
  conv=>lhs; rw [← List.take_append_drop b xs.toList,← List.take_append_drop (e - b) (xs.toList.drop b)]
  rw [List.drop_drop,show b + (e - b)=e by omega]
 conv=>rhs; rw [e1]
 rw [Nat.add_zero,show b + (e - b)=e by omega]
 exact List.Perm.append_left _ (List.Perm.append_right _ p)
theorem RN.join {p:Array (Nat × Nat × Nat)}{top i sa na pw sb nb pv:Nat} (r:RN p top) (hi:i + 1 < p.size) (e1:p[i]?=some (sa,na,pw)) (e2:p[i + 1]?=some (sb,nb,pv)):RN ((p.setIfInBounds i (sa,na + nb,pw)).eraseIdxIfInBounds (i + 1)) top:=by
 have o1:=r.ok _ _ e1
 have o2:=r.ok _ _ e2
 have n1:=r.nx _ _ _ e1 e2
 dsimp only at o1 o2 n1
 have hz:((p.setIfInBounds i (sa,na + nb,pw)).eraseIdxIfInBounds (i + 1)).size=p.size - 1:=by
  rw [Array.eraseIdxIfInBounds,dif_pos (by simpa using hi),Array.size_eraseIdx,Array.size_setIfInBounds]
 have g:∀ j:Nat,((p.setIfInBounds i (sa,na + nb,pw)).eraseIdxIfInBounds (i + 1))[j]?=if j < i then p[j]? else if j=i then some (sa,na + nb,pw) else p[j + 1]?:=fun j=>by
  rw [Array.eraseIdxIfInBounds,dif_pos (by simpa using hi),Array.getElem?_eraseIdx,Array.getElem?_setIfInBounds,Array.getElem?_setIfInBounds]
  by_cases h1:j < i
  ·rw [if_pos (by omega),if_neg (by omega),if_pos h1]
  by_cases h2:j=i
  ·subst h2
   rw [if_pos (by omega),if_pos rfl,if_pos (by omega),if_neg h1,if_pos rfl]
  ·rw [if_neg (by omega),if_neg (by omega),if_neg h1,if_neg h2]
 refine ⟨fun j x e=>?_,fun j x y ex ey=>?_,fun x e=>?_⟩
 ·rw [g] at e
  split at e
  ·exact r.ok _ _ e
  split at e
  ·cases e
   exact ⟨by show 1≤na + nb; omega,by show sa + (na + nb)≤top; omega⟩
  ·exact r.ok _ _ e
 ·rw [g] at ex ey
  by_cases h1:j + 1 < i
  ·rw [if_pos (by omega)] at ex
   rw [if_pos h1] at ey
   exact r.nx _ _ _ ex ey
  by_cases h2:j + 1=i
  ·rw [if_pos (by omega)] at ex
   rw [if_neg h1,if_pos h2] at ey
   cases ey
   rw [h2.symm] at e1
   exact r.nx _ _ (sa,na,pw) ex e1
  by_cases h3:j=i
  ·subst h3
   rw [if_neg (by omega),if_pos rfl] at ex
   rw [if_neg h1,if_neg h2] at ey
   cases ex
   have:=r.nx _ _ _ e2 ey
   dsimp only at this ⊢
   omega
  ·rw [if_neg (by omega),if_neg h3] at ex
   rw [if_neg h1,if_neg h2] at ey
   exact r.nx _ _ _ ex ey
 ·rw [hz,g] at e
  by_cases h1:p.size - 1 - 1=i
  ·rw [if_neg (by omega),if_pos h1] at e
   cases e
   have:=r.la _ (show p[p.size - 1]?=some (sb,nb,pv) by rw [show p.size - 1=i + 1 by omega]; exact e2)
   dsimp only at this ⊢
   omega
  ·rw [if_neg (by omega),if_neg h1,show p.size - 1 - 1 + 1=p.size - 1 by omega] at e
   exact r.la _ e
section
variable {prog:Program}{w:World}{A:Around}{E:Value→Shared→Prop}{s:Shared}
theorem zavb {st x:SortSt}{Q:PUnit→SortSt→Prop} (h:Q ⟨⟩ x):wpS (model prog w) A E s (set x:StateT SortSt Sem PUnit) Q st:=by
 unfold wpS
 rw [StateT.run_set]
 exact wpAny_pure ⟨rfl,h⟩
theorem zajr {st:SortSt}{a0:Array Keyed}{i top:Nat}{Q:Bool→SortSt→Prop} (hs:SPm a0 st) (k0:∀ x∈a0.toList,KI x) (hr:RN (pendingOf st) top) (ht:top≤a0.size) (hi:i + 1 < (pendingOf st).size) (h:∀ st',SPm a0 st'→RN (pendingOf st') top→Q true st'):wpS (model prog w) A E s (mergeAt' i) Q st:=by
 obtain ⟨⟨sa,na,pw⟩,e1⟩:∃ x,(pendingOf st)[i]?=some x:=⟨_,getElem?_pos _ i (by omega)⟩
 obtain ⟨⟨sb,nb,pv⟩,e2⟩:∃ x,(pendingOf st)[i + 1]?=some x:=⟨_,getElem?_pos _ (i + 1) hi⟩
 have o1:=hr.ok _ _ e1
 have o2:=hr.ok _ _ e2
 have n1:=hr.nx _ _ _ e1 e2
 dsimp only at o1 o2 n1
 have rn:=hr.join hi e1 e2
 refine wpS_bind (wpS_get ?_)
 simp only [e1,e2]
 refine wpS_bind (zavb ?_)
 have hz:=hs.size
 have s1:SPm a0 (setPending st (((pendingOf st).setIfInBounds i (sa,na + nb,pw)).eraseIdxIfInBounds (i + 1))):=⟨hs.pm,hs.kind,hs.fail⟩
 have ks:∀ j (h:j < (arrOf st).size),KI (arrOf st)[j]:=fun j h=>hs.ki k0 h
 refine wpS_bind (zaa5 (i:=sb) (show sb < (arrOf st).size by rw [hz]; omega) ?_)
 refine wpS_bind (zadz (b:=sa) (n:=na) (hint:=0) hs.kind (ks _ _) ks (show sa + na≤(arrOf st).size by rw [hz]; omega) (by omega) fun k hk=>?_)
 refine zaa3 (fun _=>wpS_pure (h _ s1 rn)) (fun ne=>?_)
 have ne:k < na:=by
  have ne:¬ (na - k == 0)=true:=ne
  simp at ne; omega
 refine wpS_bind (zaa5 (i:=sa + k + (na - k) - 1) (show sa + k + (na - k) - 1 < (arrOf st).size by rw [hz]; omega) ?_)
 refine wpS_bind (zadz (b:=sb) (n:=nb) (hint:=nb - 1) hs.kind (ks _ _) ks (show sb + nb≤(arrOf st).size by rw [hz]; omega) (by omega) fun m hm=>?_)
 refine zaa3 (fun _=>wpS_pure (h _ s1 rn)) (fun ne2=>?_)
 have ne2:0 < m:=by
  have ne2:¬ (m == 0)=true:=ne2
  simp at ne2; omega
 have zx:((arrOf st).extract (sa + k) sb).size=sb - (sa + k):=by rw [Array.size_extract,hz]; omega
 have zy:((arrOf st).extract sb (sb + m)).size=m:=by rw [Array.size_extract,hz]; omega
 have kx:∀ j (h:j < ((arrOf st).extract (sa + k) sb).size),KI ((arrOf st).extract (sa + k) sb)[j]:=fun j h=>by rw [Array.getElem_extract]; exact ks _ _
 have ky:∀ j (h:j < ((arrOf st).extract sb (sb + m)).size),KI ((arrOf st).extract sb (sb + m))[j]:=fun j h=>by rw [Array.getElem_extract]; exact ks _ _
 have fin:∀ (out:Array Keyed) (st2:SortSt),out.toList.Perm (((arrOf st).extract (sa + k) sb).toList++((arrOf st).extract sb (sb + m)).toList)→SG (setPending st (((pendingOf st).setIfInBounds i (sa,na + nb,pw)).eraseIdxIfInBounds (i + 1))) st2 →
   Q (failedOf st2).isNone (setArr st2 (out.toList.zipIdx.foldl (fun (a:Array Keyed) (p:Keyed × Nat)=>a.setIfInBounds (sa + k + p.2) p.1) (arrOf st2))):=fun out st2 pm sg=>by
  have hf:failedOf st2=none:=sg.fail.trans hs.fail
  have ea:arrOf st2=arrOf st:=sg.arr
  rw [hf]
  refine h _ ⟨?_,sg.kind.trans hs.kind,hf⟩ (by show RN (pendingOf st2) top; rw [sg.pend]; exact rn)
  show (out.toList.zipIdx.foldl (fun (a:Array Keyed) (p:Keyed × Nat)=>a.setIfInBounds (sa + k + p.2) p.1) (arrOf st2)).Perm a0
  rw [ea]
  refine (zapd (b:=sa + k) (e:=sb + m) (by omega) (by rw [hz]; omega) (pm.trans (List.Perm.of_eq ?_))).trans hs.pm
  simp only [Array.toList_extract,List.extract_eq_take_drop]
  rw [show sb + m - sb=m by omega,show sb + m - (sa + k)=(sb - (sa + k)) + m by omega,List.take_add,List.drop_drop,show sa + k + (sb - (sa + k))=sb by omega]
 refine zaa3 (fun _=>?_) (fun _=>?_)
 ·exact wpS_bind (zar4 hs.kind kx ky (by rw [zx]; omega) (by rw [zy]; omega) fun out st2 pm sg=>wpS_bind (wpS_modify (wpS_bind (wpS_get (wpS_pure (fin out st2 pm sg))))))
 ·exact wpS_bind (zar5 hs.kind kx ky (by rw [zx]; omega) (by rw [zy]; omega) fun out st2 pm sg=>wpS_bind (wpS_modify (wpS_bind (wpS_get (wpS_pure (fin out st2 pm sg))))))
end
end L2

namespace L2
open PySem PySem.W PyProof.Rows
theorem RN.nil {p:Array (Nat × Nat × Nat)} (e:p=#[]):RN p 0:=by
 subst e
 exact ⟨fun i x h=>by simp at h,fun i x y h=>by simp at h,fun x h=>by simp at h⟩
theorem zatz {c:Prop} [Decidable c] {a b k:Nat} (h1:a≤k) (h2:b≤k):(if c then a else b)≤k:=by split <;> assumption
theorem zat0 {i n:Nat} (h:i≤n - 2) (hn:1 < n):i + 1 < n:=by omega
theorem RN.push {p:Array (Nat × Nat × Nat)}{lo n:Nat} (r:RN p lo) (hn:1≤n):RN (p.push (lo,n,0)) (lo + n):=by
 refine ⟨fun i x e=>?_,fun i x y ex ey=>?_,fun x e=>?_⟩
 ·rw [Array.getElem?_push] at e
  split at e
  ·cases e
   exact ⟨hn,Nat.le_refl _⟩
  ·have:=r.ok _ _ e
   exact ⟨this.1,by omega⟩
 ·rw [Array.getElem?_push] at ex ey
  by_cases h:i + 1=p.size
  ·rw [if_pos h] at ey
   rw [if_neg (by omega)] at ex
   cases ey
   exact (r.la _ (by rw [show p.size - 1=i by omega]; exact ex)).symm
  ·rw [if_neg h] at ey
   by_cases h2:i=p.size
   ·rw [getElem?_neg p (i + 1) (by omega)] at ey
    cases ey
   ·rw [if_neg h2] at ex
    exact r.nx _ _ _ ex ey
 ·rw [Array.size_push,Nat.add_sub_cancel,Array.getElem?_push,if_pos rfl] at e
  cases e
  rfl
theorem RN.mod {p:Array (Nat × Nat × Nat)}{lo k:Nat}{f:Nat × Nat × Nat→Nat × Nat × Nat} (r:RN p lo) (hf:∀ x,(f x).1=x.1∧(f x).2.1=x.2.1):RN (p.modify k f) lo:=by
 have g:∀ (i:Nat) x,(p.modify k f)[i]?=some x→∃ y,p[i]?=some y∧x.1=y.1∧x.2.1=y.2.1:=fun i x e=>by
  rw [Array.getElem?_modify] at e
  split at e
  ·obtain ⟨y,e1,e2⟩:=Option.map_eq_some_iff.mp e
   exact ⟨y,e1,by rw [← e2]; exact (hf y).1,by rw [← e2]; exact (hf y).2⟩
  ·exact ⟨x,e,rfl,rfl⟩
 refine ⟨fun i x e=>?_,fun i x y ex ey=>?_,fun x e=>?_⟩
 ·obtain ⟨y,e1,e2,e3⟩:=g _ _ e
  rw [e2,e3]
  exact r.ok _ _ e1
 ·obtain ⟨x',a1,a2,a3⟩:=g _ _ ex
  obtain ⟨y',b1,b2,b3⟩:=g _ _ ey
  rw [b2,a2,a3]
  exact r.nx _ _ _ a1 b1
 ·rw [Array.size_modify] at e
  obtain ⟨y,e1,e2,e3⟩:=g _ _ e
  rw [e2,e3]
  exact r.la _ e1
section
variable {prog:Program}{w:World}{A:Around}{E:Value→Shared→Prop}{s:Shared}
theorem zape {st:SortSt}{a0:Array Keyed}{Q:Unit→SortSt→Prop} (hs:SPm a0 st) (k0:∀ x∈a0.toList,KI x) (hp:pendingOf st=#[]) (h:∀ st',SPm a0 st'→Q () st'):wpS (model prog w) A E s sortRuns' Q st:=by
 have hz:=hs.size
 refine wpS_bind (wpS_get ?_)
 obtain ⟨n,en⟩:∃ n,(arrOf st).size=n:=⟨_,rfl⟩
 refine wpS_bind (wpS_mono (wpS_forRange (I:=fun x c st'=>SPm a0 st'∧∃ lo:Nat,c=(none,lo)∧RN (pendingOf st') lo∧lo≤a0.size) (Q:=fun c st'=>SPm a0 st'∧∃ lo:Nat,c=(none,lo)∧RN (pendingOf st') lo∧lo≤a0.size) ?_ (fun c st' h=>h) ⟨hs,0,rfl,RN.nil hp,Nat.zero_le _⟩) ?_)
 ·rintro x c st1 _ hx ⟨s1,lo,rfl,r1,hlo⟩
  refine zaa3 (fun _=>wpS_pure ⟨s1,lo,rfl,r1,hlo⟩) (fun ne=>?_)
  have ne:lo < a0.size:=by
   have ne:¬ lo ≥ (arrOf st).size:=ne
   omega
  refine wpS_bind (zar7 (lo:=lo) (n:=(arrOf st).size - lo) s1 k0 (by omega) (by omega) fun m st2 hm hmn s2 p2=>?_)
  refine zaa3 (fun lt=>wpS_bind (zaf5 (wpS_bind (zar6 (lo:=lo) (n:=min ((arrOf st).size - lo) (minRun' (arrOf st).size (arrOf st).size 0)) s2 k0 (by omega) fun st3 s3 p3=>zaa3 (fun z=>by cases z) (fun _=>?_))))) (fun _=>?_)
  ·have lt:m < minRun' (arrOf st).size (arrOf st).size 0:=lt
   have hN:1≤min ((arrOf st).size - lo) (minRun' (arrOf st).size (arrOf st).size 0):=by omega
   have hL:lo + min ((arrOf st).size - lo) (minRun' (arrOf st).size (arrOf st).size 0)≤a0.size:=by omega
   have r3:RN (pendingOf st3) lo:=by rw [p3,p2]; exact r1
   refine wpS_bind (wpS_get ?_)
   split
   ·refine wpS_bind (wpS_mono (wpS_forRange (I:=fun x c st'=>c=(none,())∧SPm a0 st'∧RN (pendingOf st') lo) (Q:=fun c st'=>c=(none,())∧SPm a0 st'∧RN (pendingOf st') lo) ?_ (fun c st' h=>h) ⟨rfl,s3,r3⟩) ?_)
    ·rintro y c st4 _ hy ⟨rfl,s4,r4⟩
     refine wpS_bind (wpS_get ?_)
     dsimp only
     split
     ·rename_i eq
      have hsz:1 < (pendingOf st4).size:=by
       split at eq
       ·assumption
       ·cases eq
      refine zaa3 (fun _=>wpS_pure ⟨rfl,s4,r4⟩) (fun _=>wpS_bind (zajr (i:=(pendingOf st4).size - 2) s4 k0 r4 hlo (by omega) fun st5 s5 r5=>?_))
      exact zaa3 (fun z=>by cases z) (fun _=>wpS_pure ⟨rfl,s5,r5⟩)
     ·exact wpS_pure ⟨rfl,s4,r4⟩
    ·rintro c st4 ⟨rfl,s4,r4⟩
     exact wpS_bind (wpS_modify (wpS_bind (wpS_modify (wpS_pure ⟨⟨s4.pm,s4.kind,s4.fail⟩,lo + min ((arrOf st).size - lo) (minRun' (arrOf st).size (arrOf st).size 0),rfl,RN.push (by dsimp only; refine RN.mod r4 ?_; intro x; obtain ⟨a,b,c⟩:=x; exact ⟨rfl,rfl⟩) hN,hL⟩))))
   ·exact wpS_bind (wpS_modify (wpS_pure ⟨⟨s3.pm,s3.kind,s3.fail⟩,lo + min ((arrOf st).size - lo) (minRun' (arrOf st).size (arrOf st).size 0),rfl,RN.push r3 hN,hL⟩))
  ·have s3:=s2
   have hN:1≤m:=hm
   have hL:lo + m≤a0.size:=by omega
   have r3:RN (pendingOf st2) lo:=by rw [p2]; exact r1
   refine wpS_bind (wpS_get ?_)
   split
   ·refine wpS_bind (wpS_mono (wpS_forRange (I:=fun x c st'=>c=(none,())∧SPm a0 st'∧RN (pendingOf st') lo) (Q:=fun c st'=>c=(none,())∧SPm a0 st'∧RN (pendingOf st') lo) ?_ (fun c st' h=>h) ⟨rfl,s3,r3⟩) ?_)
    ·rintro y c st4 _ hy ⟨rfl,s4,r4⟩
     refine wpS_bind (wpS_get ?_)
     dsimp only
     split
     ·rename_i eq
      have hsz:1 < (pendingOf st4).size:=by
       split at eq
       ·assumption
       ·cases eq
      refine zaa3 (fun _=>wpS_pure ⟨rfl,s4,r4⟩) (fun _=>wpS_bind (zajr (i:=(pendingOf st4).size - 2) s4 k0 r4 hlo (by omega) fun st5 s5 r5=>?_))
      exact zaa3 (fun z=>by cases z) (fun _=>wpS_pure ⟨rfl,s5,r5⟩)
     ·exact wpS_pure ⟨rfl,s4,r4⟩
    ·rintro c st4 ⟨rfl,s4,r4⟩
     exact wpS_bind (wpS_modify (wpS_bind (wpS_modify (wpS_pure ⟨⟨s4.pm,s4.kind,s4.fail⟩,lo + m,rfl,RN.push (by dsimp only; refine RN.mod r4 ?_; intro x; obtain ⟨a,b,c⟩:=x; exact ⟨rfl,rfl⟩) hN,hL⟩))))
   ·exact wpS_bind (wpS_modify (wpS_pure ⟨⟨s3.pm,s3.kind,s3.fail⟩,lo + m,rfl,RN.push r3 hN,hL⟩))
 ·rintro c st1 ⟨s1,lo,rfl,r1,hlo⟩
  refine wpS_bind (wpS_mono (wpS_forRange (I:=fun x c st'=>c=(none,())∧SPm a0 st'∧RN (pendingOf st') lo) (Q:=fun c st'=>c=(none,())∧SPm a0 st'∧RN (pendingOf st') lo) ?_ (fun c st' h=>h) ⟨rfl,s1,r1⟩) ?_)
  ·rintro y c st4 _ hy ⟨rfl,s4,r4⟩
   refine wpS_bind (wpS_get ?_)
   refine zaa3 (fun _=>wpS_pure ⟨rfl,s4,r4⟩) (fun np=>?_)
   have np:1 < (pendingOf st4).size:=by
    have np:¬ (pendingOf st4).size≤1:=np
    omega
   refine wpS_bind (zajr s4 k0 r4 hlo (zat0 (n:=(pendingOf st4).size) (zatz (Nat.sub_le _ _) (Nat.le_refl _)) np) fun st5 s5 r5=>?_)
   exact zaa3 (fun z=>by cases z) (fun _=>wpS_pure ⟨rfl,s5,r5⟩)
  ·rintro c st4 ⟨rfl,s4,r4⟩
   exact wpS_pure (h _ s4)
end
end L2

namespace L2
open PySem PySem.Spec PyProof.Rows
section
variable {X:Cx}{pins:List (Addr × Obj)}{σ:St}{H:Hp}{s:Shared}{d:Addr}
theorem Inv.swap (I:Inv X pins σ H s) {o o':HO} (e:H d=some o) (nt:∀ xs,o≠.tup xs) (no:∀ x,o≠.own x) (nb:∀ ps,o≠.tbl ps) (nf:(∀ b u,o≠.frz b u)∨∀ b u,X.H₀ d≠some (.frz b u)) (new:ObjOk X.prog X.w (upd H d o') s.heap d o'):Inv X pins σ (upd H d o') s:=by
 have ne:∀ b,H b=none→b≠d:=fun b h z=>by rw [z,e] at h; cases h
 refine ⟨I.ok,I.os,I.bare,⟨I.base.keep,I.base.slot,fun b u q n hx=>?_,I.base.there,fun b xs q=>?_,fun b u v q=>?_,fun b ps q=>?_⟩,I.loc,I.cell,?_,fun x c q=>?_,fun p hp=>?_,fun b u q=>?_,I.len⟩
 ·have z:=I.base.free b u q n hx
  rw [zaa0 (ne b z)]; exact z
 ·have z:=I.base.tups b xs q
  have nd:b≠d:=fun w=>by rw [w,e] at z; exact nt xs (Option.some.inj z)
  rw [zaa0 nd]; exact z
 ·have z:=I.base.frzs b u v q
  have nd:b≠d:=fun w=>by
   rcases nf with nf | nf
   ·rw [w,e] at z; exact nf u v (Option.some.inj z)
   ·rw [w] at q; exact nf u v q
  rw [zaa0 nd]; exact z
 ·obtain ⟨more,z⟩:=I.base.tbls b ps q
  have nd:b≠d:=fun w=>by rw [w,e] at z; exact nb _ (Option.some.inj z)
  exact ⟨more,by rw [zaa0 nd]; exact z⟩
 ·rw [zaa0 (ne _ I.free)]; exact I.free
 ·rw [zaa0 (ne _ (I.freeC x c q))]; exact I.freeC x c q
 ·obtain ⟨q1,q2,q3⟩:=I.pin p hp
  exact ⟨q1,by rw [zaa0 (ne _ q2)]; exact q2,q3⟩
 ·by_cases hb:b=d
  ·subst hb; rw [zaac] at q; cases q; exact new
  ·rw [zaa0 hb] at q
   exact (I.hok b u q).stay (fun _ _ _ z=>z) (fun c z=>by rw [zaa0 (fun w=>by rw [w,e] at z; exact no _ (Option.some.inj z))]; exact z) fun c xs z=>by rw [zaa0 (fun w=>by rw [w,e] at z; exact nt xs (Option.some.inj z))]; exact z
theorem Inv.freeze (I:Inv X pins σ H s) {kvs:List (Key × V)}{ob:Obj} (e:H d=some (.dK kvs)) (ho:s.heap.get? d=some ob):Inv X pins σ (upd H d (.frz ob (.dK kvs))) s :=
 I.swap e (fun _ z=>by cases z) (fun _ z=>by cases z) (fun _ z=>by cases z) (.inl fun _ _ z=>by cases z) ⟨ho,(I.hok d _ e:ObjOk X.prog X.w H s.heap d (.dK kvs))⟩
theorem Inv.thaw (I:Inv X pins σ H s) {kvs:List (Key × V)}{ob:Obj} (e:H d=some (.frz ob (.dK kvs))) (nf:∀ b u,X.H₀ d≠some (.frz b u)):Inv X pins σ (upd H d (.dK kvs)) s :=
 I.swap e (fun _ z=>by cases z) (fun _ z=>by cases z) (fun _ z=>by cases z) (.inr nf) ((I.hok d _ e:ObjOk X.prog X.w H s.heap d (.frz ob (.dK kvs))).2:ObjOk X.prog X.w H s.heap d (.dK kvs))
end
def Itd (d:Addr) (ob:Obj) (kvs:List (Key × V)):It:=⟨fun i H=>H d=some (.frz ob (.dK kvs))∧i < kvs.length,fun i H x H'=>H'=H∧∃ kv:Key × V,kvs[i]?=some kv∧x=kV kv.1,fun i H=>H d=some (.frz ob (.dK kvs))∧kvs.length≤i⟩
theorem zajs {k:Key}{v:Value} (h:keyIs k v=true):RelV (kV k) v:=by
 rcases zabr h with ⟨i,t,rfl,rfl⟩ | ⟨x,t,rfl,rfl⟩
 ·exact ⟨t,rfl⟩
 ·exact ⟨t,rfl⟩
theorem zamy {P:Program}{w:World}:∀ {kvs:List (Key × V)}{vs:List (Key × Value)}{es:List DictEntry},KV kvs vs→Pairs (mixKind P w) es vs→es.length=kvs.length∧∀ (i:Nat) (kv:Key × V),kvs[i]?=some kv→∃ e:DictEntry,es[i]?=some e∧RelV (kV kv.1) e.key
 | _,_,_,.nil,.nil=>⟨rfl,fun i kv h=>by simp at h⟩
 | _,_,_,.cons a t,.cons b _ r=>by
  obtain ⟨l,g⟩:=zamy t r
  refine ⟨by simp [l],fun i kv h=>?_⟩
  cases i with
  | zero =>
   cases h
   exact ⟨_,rfl,zajs (by rw [a.1]; exact b)⟩
  | succ i=>exact g i kv (by simpa using h)
theorem Inv.frzd {X:Cx}{pins:List (Addr × Obj)}{σ:St}{H:Hp}{s:Shared}{d:Addr}{kvs:List (Key × V)}{ob:Obj}{es:Array DictEntry}{ep:Nat} (I:Inv X pins σ H s) (e:H d=some (.frz ob (.dK kvs))) (hd:ob.data=.dict es ep):DAt s.heap d es ep∧es.size=kvs.length∧∀ (i:Nat) (kv:Key × V),kvs[i]?=some kv→∃ en:DictEntry,es[i]?=some en∧RelV (kV kv.1) en.key:=by
 obtain ⟨g1,_,_,vs,kv,o,es',ep',g2,g3,g4,_,g5,_⟩:=(I.hok d _ e:ObjOk X.prog X.w H s.heap d (.frz ob (.dK kvs)))
 rw [g1] at g2
 cases g2
 rw [hd] at g4
 cases g4
 obtain ⟨l,g⟩:=zamy kv g5
 exact ⟨⟨_,g1,g3,hd⟩,by rw [← l]; simp,fun i kv h=>by obtain ⟨en,e1,e2⟩:=g i kv h; exact ⟨en,by simpa using e1,e2⟩⟩
theorem zamz {P:Program}{w:World}{K:PySem.W.Frag}{tg:Expr} (d it:Addr) {ob:Obj}{kvs:List (Key × V)}{es:Array DictEntry}{ep:Nat} (hd:ob.data=.dict es ep):Turn P w K tg (Itd d ob kvs) [it] it (fun i h=>h.get? it=some (kitO d i es.size ep)∧i≤es.size) where
 mem:=by simp
 obj:=fun i h st b hb=>by
  have e:b=it:=by simpa using hb
  subst e
  exact ⟨_,st.1,fun v z=>by cases z⟩
 keep:=fun i h h' st k=>⟨k it (by simp) _ st.1,st.2⟩
 item:=by
  intro X hP hw hK hc i pins s σ H E I hf st hg
  subst hP hw hK
  obtain ⟨hq,hi⟩:=hg
  obtain ⟨m,l,g⟩:=I.frzd hq hd
  obtain ⟨f0,f1,f2,f3,f4,f5⟩:=hf it (by simp)
  obtain ⟨en,e1,r⟩:=g i kvs[i] (List.getElem?_eq_getElem hi)
  have hi2:i < es.size:=by omega
  have e2:en=es[i]:=by rw [Array.getElem?_eq_getElem hi2] at e1; exact (Option.some.inj e1).symm
  subst e2
  refine zamw st.1 m hi2 fun h' st' sb=>?_
  have I1:Inv X pins σ H { s with heap:=h' }:=I.turned (t':=s.toks) (fun b o hb e=>(sb.2 b hb).trans e) f0 f1 f3 f4 f5
  exact ⟨_,rfl,zaoh (s:={ s with heap:=h' }) st' rfl rfl (by decide) ⟨kV kvs[i].1,H,I1,r,⟨rfl,_,List.getElem?_eq_getElem hi,rfl⟩,⟨st',by omega⟩,fun b hb=>(hf b hb).1⟩⟩
 done:=by
  intro X hP hw hK hc i pins s σ H E I hf st hg
  subst hP hw hK
  obtain ⟨hq,hi⟩:=hg
  obtain ⟨m,l,g⟩:=I.frzd hq hd
  obtain ⟨f0,f1,f2,f3,f4,f5⟩:=hf it (by simp)
  have e:i=es.size:=by have:=st.2; omega
  subst e
  exact zaqa (I.ok.hd hc) st.1 m fun h' eb=>⟨rfl,I.turned (t':=s.toks) (fun b o hb e=>eb b o hb e) f0 f1 f3 f4 f5⟩
 self:=fun _ _ _ _ _ st h=>wpAny_pyIter_keyiter ⟨_,st.1,rfl,rfl⟩ h
def iDict (tl:TE):TI:=fun σ H R=>tl σ H fun x H1=>∃ d kvs,x=.ref d∧H1 d=some (.dK kvs)∧∀ ob,R (Itd d ob kvs) (upd H1 d (.frz ob (.dK kvs)))
theorem zakq {X:Cx}{tg:Expr}{l:Expr}{tl:TE} (hl:Pr (PE X l tl)):Pr (PI X tg l (iDict tl)):=by
 refine ⟨?_⟩
 intro pins s σ H R I h
 refine thn (hl.h pins s σ H _ I h) fun v s1 ⟨x,H1,I1,r1,q1⟩=>?_
 obtain ⟨d,kvs,e,hq,q⟩:=q1
 subst e
 cases r1
 obtain ⟨_,nS,vs,kv,o,es,ep,g2,g3,g4,_⟩:=(I1.hok d _ hq:ObjOk X.prog X.w H1 s1.heap d (.dK kvs))
 have I2:=I1.freeze hq g2
 refine zamu nS ⟨o,g2,g3,g4⟩ ?_
 refine ⟨s1.heap.objs.size,[s1.heap.objs.size],_,_,_,rfl,I2.kept (t':=s1.toks) fun b o e=>Heap.get?_push_of_some _ e,zamz d _ g4,⟨Heap.get?_push_size _ rfl,Nat.zero_le _⟩,fun b hb=>?_,q o⟩
 have e:b=s1.heap.objs.size:=by simpa using hb
 subst e
 exact I2.fpOk (Nat.le_refl _) (I2.hok.fresh (Nat.le_refl _))
theorem zam0 {d:Addr}{ob:Obj}{kvs:List (Key × V)}{g:TG}{tb:TS}{D:Ends}{σ:St}{H:Hp} (Pv:Nat→St→Hp→Prop) (h0:Pv 0 σ H) (hl:∀ i σ H,i≤kvs.length→Pv i σ H→H d=some (.frz ob (.dK kvs)))
  (hs:∀ i kv σ H,kvs[i]?=some kv→Pv i σ H→g (kV kv.1) σ H fun σ2 H2=>tb { D with nx:=Pv (i + 1),ct:=Pv (i + 1),bk:=D.nx } σ2 H2) (hd:∀ σ H,Pv kvs.length σ H→D.nx σ H):Loop (Itd d ob kvs) g tb D σ H:=by
 refine ⟨fun i m σ H=>i + m=kvs.length∧Pv i σ H,⟨kvs.length,by omega,h0⟩,fun i m σ H ⟨e,p⟩=>?_⟩
 by_cases hi:i < kvs.length
 ·refine .inr ⟨⟨hl i σ H (by omega) p,hi⟩,Pv (i + 1),fun σ' H' p'=>⟨m - 1,by omega,by omega,p'⟩,fun x H' ⟨e1,kv,e2,e3⟩=>?_⟩
  subst e1
  subst e3
  exact hs i kv σ H' e2 p
 ·have e':i=kvs.length:=by omega
  subst e'
  exact .inl ⟨⟨hl _ σ H (Nat.le_refl _) p,Nat.le_refl _⟩,hd σ H p⟩
theorem zam1 {d:Addr}{ob:Obj} (kvs:List (Key × V)) {g:TG}{tt:TT}{te:TE}{Q:List V→Hp→Prop}{σ:St}{H:Hp} (Pv:Nat→List V→St→Hp→Prop) (hn:kvs.length < sizeLine) (h0:Pv 0 [] σ H) (hl:∀ i ys σ H,i≤kvs.length→Pv i ys σ H→ys.length≤i∧H d=some (.frz ob (.dK kvs)))
  (turn:∀ i ys σ H kv,kvs[i]?=some kv→Pv i ys σ H→g (kV kv.1) σ H fun σ2 H2=>tt σ2 H2 fun b H3=>if b=true then te σ2 H3 fun y H4=>Pv (i + 1) (ys++[y]) σ2 H4 else Pv (i + 1) ys σ2 H3)
  (after:∀ ys σ H,Pv kvs.length ys σ H→Q ys H):Comp (Itd d ob kvs) g tt te Q σ H :=
 zahg kvs.length Pv h0 (fun i ys σ H hi p=>Nat.lt_of_le_of_lt (Nat.le_trans (hl i ys σ H hi p).1 hi) hn) (fun i ys σ H hi p=>⟨(hl i ys σ H (Nat.le_of_lt hi) p).2,hi⟩)
  (fun ys σ H p=>⟨(hl _ ys σ H (Nat.le_refl _) p).2,Nat.le_refl _⟩) (fun i ys σ H hi p x H' y=>by obtain ⟨rfl,kv,e,rfl⟩:=y; exact turn i ys σ _ kv e p) after
def Thaw (H0:Hp) (q:Hp→Prop) (H:Hp):Prop:=∃ d ob kvs,H d=some (.frz ob (.dK kvs))∧(∀ b u,H0 d≠some (.frz b u))∧q (upd H d (.dK kvs))
def tThaw (H0:Hp) (t:TS):TS:=fun D σ H=>t { nx:=fun σ' H'=>Thaw H0 (D.nx σ') H',rt:=fun v H'=>Thaw H0 (D.rt v) H',bk:=fun σ' H'=>Thaw H0 (D.bk σ') H',ct:=fun σ' H'=>Thaw H0 (D.ct σ') H' } σ H
def eThaw (H0:Hp) (t:TE):TE:=fun σ H Q=>t σ H fun v H'=>Thaw H0 (Q v) H'
theorem zapf {X:Cx}{st:Stmt}{t:TS} (h:Pr (PS X st t)):Pr (PS X st (tThaw X.H₀ t)):=by
 refine ⟨?_⟩
 intro pins s σ H D I q
 refine thn (h.h pins s σ H _ I q) fun f s1 q1=>?_
 cases f with
 | next=>obtain ⟨σ1,H1,I1,d,ob,kvs,e,nf,z⟩:=q1; exact ⟨σ1,_,I1.thaw e nf,z⟩
 | brk=>obtain ⟨σ1,H1,I1,d,ob,kvs,e,nf,z⟩:=q1; exact ⟨σ1,_,I1.thaw e nf,z⟩
 | cont=>obtain ⟨σ1,H1,I1,d,ob,kvs,e,nf,z⟩:=q1; exact ⟨σ1,_,I1.thaw e nf,z⟩
 | ret v=>obtain ⟨x,σ1,H1,I1,r,d,ob,kvs,e,nf,z⟩:=q1; exact ⟨x,σ1,_,I1.thaw e nf,r,z⟩
theorem zapg {X:Cx}{ex:Expr}{t:TE} (h:Pr (PE X ex t)):Pr (PE X ex (eThaw X.H₀ t)):=by
 refine ⟨?_⟩
 intro pins s σ H Q I q
 refine thn (h.h pins s σ H _ I q) fun v s1 q1=>?_
 obtain ⟨x,H1,I1,r,d,ob,kvs,e,nf,z⟩:=q1
 exact ⟨x,_,I1.thaw e nf,r,z⟩
end L2

namespace L2
open PySem PySem.W PyProof.Rows PySem.Calls
theorem zail {h:Heap}{a:Addr}{xs:Array Value}{n:Nat} (hO:h.get? a=some (seqObj "list" xs n)) (vs:List Value) (out:Array Value):KeptBut a h (sortedHeap h a vs out)∧∃ c,(sortedHeap h a vs out).get? a=some (seqObj "list" out c):=by
 obtain ⟨e1,hO1⟩:∃ e1,(h.update a (Obj.mapSeq fun _=>(#[]:Array Value))).get? a=some (seqObj "list" #[] e1):=⟨_,get?_update_seq hO fun _=>#[]⟩
 have na:=Heap.get?_push_of_some (seqObj "list" #[] 0) (Heap.get?_push_of_some (seqObj "tuple" vs.toArray 0) hO1)
 refine ⟨fun b o nb e=>?_,_,get?_update_seq na fun _=>out⟩
 unfold sortedHeap
 rw [Heap.get?_update_ne _ _ _ _ nb]
 exact Heap.get?_push_of_some _ (Heap.get?_push_of_some _ (by rw [Heap.get?_update_ne _ _ _ _ nb]; exact e))
theorem zaf6:∀ {vs:List Value}{ns:List Int},IntsAre vs ns→Vals (ns.map V.int) vs
 | _,_,.nil=>.nil
 | _,_,.cons _ u t=>.cons ⟨u,rfl⟩ (zaf6 t)
theorem zam2 {P:Program}{w:World}:∀ {kvs:List (Key × V)}{vs:List (Key × Value)}{es:List DictEntry}{ns:List Int},KV kvs vs→Pairs (mixKind P w) es vs→kvs.map (·.1)=ns.map Sum.inl→IntsAre (es.map (·.key)) ns
 | _,_,_,ns,.nil,.nil,e=>by
  cases ns with
  | nil=>exact .nil
  | cons n r=>cases e
 | _,_,_,ns,.cons a t,.cons b _ r,e=>by
  cases ns with
  | nil=>cases e
  | cons n r' =>
   simp only [List.map_cons,List.cons.injEq] at e
   have ih:=zam2 t r e.2
   have kr:=zajs b
   rw [← a.1,e.1] at kr
   obtain ⟨u,eu⟩:=kr
   rw [List.map_cons,eu]
   exact .cons _ _ ih
end L2

namespace L2
open PySem PySem.W PyProof.Rows PySem.Calls PySem.SeqAt
theorem zaph {vs:List Value}{ns:List Int} (hI:IntsAre vs ns) {xs:Array Keyed} (p:xs.Perm (pairsOf vs)):∃ ns',IntsAre (xs.map (·.2)).toList ns'∧ns'.Perm ns:=by
 have q:(xs.map (·.2)).toList.Perm vs:=by
  rw [Array.toList_map]
  have:=(Array.perm_iff_toList_perm.mp p).map (·.2)
  rw [pairsOf_toList] at this
  have e:(vs.zip vs).map (·.2)=vs:=by
   have:=List.map_snd_zip (l₁:=vs) (l₂:=vs) (Nat.le_refl _)
   exact this
  rwa [e] at this
 refine ⟨_,intsAre_map _ fun v hv=>hI.all v (q.mem_iff.mp hv),?_⟩
 have:=q.map numOf
 rwa [hI.nums] at this
section
variable {prog:Program}{w:World}{A:Around}{E:Value→Shared→Prop}{s:Shared}
theorem zam3 {n:Nat}{a:Addr}{vs:List Value}{ns:List Int}{P:PySem.Fin→Shared→Prop} (hO:s.heap.get? a=some (seqObj "list" vs.toArray n)) (hI:IntsAre vs ns) (n2:2≤vs.length) (nz:vs.length≤sizeLine)
  (k:∀ (out:Array Value) (ns':List Int) (c:Nat) (h':Heap),IntsAre out.toList ns'→ns'.Perm ns→KeptBut a s.heap h'→h'.get? a=some (seqObj "list" out c)→P (.done (.ret .none)) { s with heap:=h' }) :
  wpAny (model prog w) A (Builtin.«list.sort» ⟨[.ref a],[]⟩) P E s:=by
 obtain ⟨e1,hO1⟩:∃ e1,(s.heap.update a (Obj.mapSeq fun _=>(#[]:Array Value))).get? a=some (seqObj "list" #[] e1):=⟨_,get?_update_seq hO fun _=>#[]⟩
 have kb:KeptBut a s.heap (((s.heap.update a (Obj.mapSeq fun _=>(#[]:Array Value))).push (seqObj "tuple" vs.toArray 0)).push (seqObj "list" #[] 0)):=fun b o nb e =>
  Heap.get?_push_of_some _ (Heap.get?_push_of_some _ (by rw [Heap.get?_update_ne _ _ _ _ nb]; exact e))
 have na:=Heap.get?_push_of_some (seqObj "list" #[] 0) (Heap.get?_push_of_some (seqObj "tuple" vs.toArray 0) hO1)
 generalize hh:((s.heap.update a (Obj.mapSeq fun _=>(#[]:Array Value))).push (seqObj "tuple" vs.toArray 0)).push (seqObj "list" #[] 0)=g at kb na
 rw [list_sort_plain]
 refine wpAny_bind (listItems_at hO rfl (wpAny_bind (listUpdate_at hO rfl (wpAny_bind (seqEpoch_at hO1 rfl (wpAny_bind (wpAny_newTuple (wpAny_bind (wpAny_newList (wpAny_holding ?_) (Nat.zero_le _))) (by show vs.length≤_; omega))))) (by rw [List.size_toArray]; omega) (Nat.zero_le _))))
 show wpAny (model prog w) A _ P E { s with heap:=((s.heap.update a (Obj.mapSeq fun _=>(#[]:Array Value))).push (seqObj "tuple" vs.toArray 0)).push (seqObj "list" #[] 0) }
 rw [hh]
 dsimp only
 have hn2:¬ vs.toArray.size < 2:=by rw [List.size_toArray]; omega
 rw [if_neg hn2,if_neg hn2]
 have hk:keyKind' vs.toArray=pure oneType':=by
  match vs,n2,hI with
  | v1 :: v2 :: r,_,hI=>exact keyKind_ints hI
 rw [hk]
 refine wpAny_bind (wpAny_pure ?_)
 have ik:=hI.intKeys
 have run:=zape (prog:=prog) (w:=w) (A:=A) (E:=E) (s:={ s with heap:=g }) (a0:=pairsOf vs) (st:=SortSt.mk' oneType' (vs.toArray.zip vs.toArray) #[] 7 none) (Q:=fun _ st'=>SPm (pairsOf vs) st') ⟨Array.Perm.refl _,rfl,rfl⟩ (fun x hx=>ik x hx) rfl fun st' h=>h
 refine wpAny_bind (wpAny_mono run ?_ fun _ _ e=>e)
 rintro ⟨⟨⟩,st'⟩ s' ⟨rfl,sp⟩
 dsimp only
 obtain ⟨ns',i1,i2⟩:=zaph hI sp.pm
 have zs:((arrOf st').map (·.2)).size≤sizeLine:=by rw [Array.size_map,sp.size,pairsOf_size]; exact nz
 obtain ⟨c2,hc2⟩:∃ c2,(g.update a (Obj.mapSeq fun _=>(arrOf st').map (·.2))).get? a=some (seqObj "list" ((arrOf st').map (·.2)) c2):=⟨_,get?_update_seq na fun _=>(arrOf st').map (·.2)⟩
 refine wpAny_bind (seqEpoch_at na rfl (wpAny_bind (listUpdate_at na rfl ?_ (Nat.zero_le _) (Nat.le_succ_of_le zs))))
 rw [sp.fail]
 simp only [bne_self_eq_false,Bool.false_eq_true,if_false]
 refine wpAny_pure (k _ ns' c2 _ i1 i2 (fun b ob nb e=>?_) hc2)
 rw [Heap.get?_update_ne _ _ _ _ nb]
 exact kb b ob nb e
end
def rSrtP:List V→Hp→VK→Prop:=fun xs H Q=>∃ (a:Addr) (kvs:List (Key × V)) (ns:List Int),xs=[.ref a]∧H a=some (.dK kvs)∧kvs.map (·.1)=ns.map Sum.inl∧ns.length≤5000∧∀ (p:Addr) (ns':List Int),ns'.Perm ns→H p=none→Q (.ref p) (upd H p (.lst (ns'.map V.int)))
theorem zaim {X:Cx} (hc:X.calm=true):CallR X (.builtin "sorted") rSrtP:=by
 intro pins s σ H xs us Q I r h
 obtain ⟨a,kvs,ns,rfl,ha,ek,hz5,q⟩:=h
 obtain ⟨u,rfl,ru⟩:=vals1 r
 cases ru
 obtain ⟨hz,nS,vs,kv,o,es,ep,h1,h2,h3,h4,h5,_⟩:=(I.hok a _ ha:ObjOk X.prog X.w H s.heap a (.dK kvs))
 have m:DAt s.heap a es ep:=⟨o,h1,h2,h3⟩
 have hI:=zam2 kv h5 ek
 have hlen:es.size=ns.length:=by have:=hI.length; simpa using this
 have hh:X.A.handled=none:=I.ok.hd hc
 refine call_function_entry kind_sorted plain_sorted entry_sorted (args_sorted1 _) ?_
 unfold Builtin.«sorted»
 refine wpAny_bind (m:=checkCount "sorted" 1 1 _) (wpAny_pure (wpAny_bind (zao9 (by exact hh) nS m (by rw [sizeLine_eq]; omega) fun h' kp lt=>?_)))
 generalize hvs:es.toList.map (·.key)=us at hI
 have lv:us.length=ns.length:=by rw [← hvs]; simpa using hlen
 refine wpAny_bind (wpAny_newList ?_ (by rw [sizeLine_eq]; omega))
 have hD:(h'.push (seqObj "list" us.toArray 0)).get? h'.objs.size=some (seqObj "list" us.toArray 0):=Heap.get?_push_size _ rfl
 have kD:∀ b o,s.heap.get? b=some o→b≠h'.objs.size∧(h'.push (seqObj "list" us.toArray 0)).get? b=some o:=fun b o e=>⟨Nat.ne_of_lt (Heap.lt_size (kp b o e)),Heap.get?_push_of_some _ (kp b o e)⟩
 have szD:s.heap.objs.size≤h'.objs.size:=Nat.le_of_lt lt
 have fin:∀ (out:List Value) (ns':List Int) (c:Nat) (h3:Heap),IntsAre out ns'→ns'.Perm ns→KeptBut h'.objs.size (h'.push (seqObj "list" us.toArray 0)) h3→h3.get? h'.objs.size=some (seqObj "list" out.toArray c)→∃ v H',Inv X pins σ H' { s with heap:=h3 }∧RelV v (.ref h'.objs.size)∧Q v H':=fun out ns' c h3 i1 i2 kb ec=>by
  have ln:ns'.length≤5000:=by rw [i2.length_eq]; exact hz5
  exact ⟨.ref h'.objs.size,_,I.laid (t':=s.toks) (fun b o e'=>kb b o (kD b o e').1 (kD b o e').2) szD (show ObjOk X.prog X.w _ _ _ (.lst (ns'.map V.int)) from ⟨by rw [sizeLine_eq,List.length_map]; omega,out,c,zaf6 i1,ec⟩),rfl,q _ ns' i2 (I.hok.fresh szD)⟩
 by_cases n2:2≤us.length
 ·refine wpAny_bind (wpAny_holding (wpAny_call_entry slot_list_sort ⟨_,hD,rfl⟩ entry_list_sort (zam3 hD hI n2 (by rw [sizeLine_eq]; omega) fun out ns' c h3 i1 i2 kb ec=>⟨_,rfl,wpAny_pure ⟨_,rfl,?_⟩⟩) (args_list_sort _)))
  exact fin out.toList ns' c h3 i1 i2 kb (by simpa using ec)
 ·refine wpAny_bind (wpAny_holding (wpAny_call_entry slot_list_sort ⟨_,hD,rfl⟩ entry_list_sort (list_sort_tree hD hI (by omega) fun out ns' a1 a2 a3=>⟨_,rfl,wpAny_pure ⟨_,rfl,?_⟩⟩) (args_list_sort _)))
  obtain ⟨kb,c,ec⟩:=zail hD us out
  exact fin out.toList ns' c _ a1 a2 kb (by simpa using ec)
end L2

namespace L2
open PySem PySem.Spec PyProof.Rows
theorem zahm {X:Cx} (K:PySem.W.Frag) (hK:X.K=K):CallR X (.type "list") (fun xs H Q=>∃ p ys,xs=[V.ref p]∧(SqL K H p ys∨SqT K H p ys)∧∀ (l:Addr),H l=none→Q (V.ref l) (upd H l (HO.lst ys))):=by subst hK; exact zadv
end L2

namespace L2
open PySem PySem.W PyProof.Rows PySem.Calls
section
variable {X:Cx}
theorem dputS {H:Hp}{a:Addr}{kvs:List (Key × V)}{x:Str}{v:V} (e:H a=some (.dK kvs)) (hl:kvs.length < sizeLine):DPut H a (.str x) v (upd H a (.dK (putK kvs (.inr x) v))):=DPut.k (k:=.inr x) e hl
end
end L2

namespace L2
open PySem PySem.W PyProof.Rows PySem.Calls
def mrg:List (Key × V)→List (Key × V)→List (Key × V):=fun acc l=>l.foldl (fun a kv=>putK a kv.1 kv.2) acc
theorem zakr:∀ {kvs:List (Key × V)}{ps:List (Key × Value)}{acc:List (Key × V)}{ac:List (Key × Value)},KV kvs ps→KV acc ac→KV (mrg acc kvs) (merged ac ps)
 | _,_,_,_,.nil,h=>h
 | x :: l,y :: ps,acc,ac,.cons a t,h=>by
  have e:KV (putK acc x.1 x.2) (stored ac y.1 y.2):=by rw [← a.1]; exact h.put x.1 a.2
  exact zakr (kvs:=l) (ps:=ps) t e
theorem zam4:∀ (l acc:List (Key × V)),(mrg acc l).length≤acc.length + l.length
 | [],acc=>by simp [mrg]
 | kv :: l,acc=>by
  have:=zam4 l (putK acc kv.1 kv.2)
  have:=zac0 acc kv.1 kv.2
  show (mrg (putK acc kv.1 kv.2) l).length≤_
  simp only [List.length_cons]
  omega
variable {X:Cx}
def rDictQ:List V→Hp→VK→Prop:=fun xs H Q=>∃ (p:Addr) (ts:List Addr) (kvs:List (Key × V)),xs=[.ref p]∧H p=some (.lst (ts.map V.ref))∧Paired (fun kv t=>H t=some (.tup [kV kv.1,kv.2])) kvs ts∧kvs.length≤5000∧∀ d,H d=none→Q (.ref d) (upd H d (.dK (mrg [] kvs)))
theorem zag0 (hc:X.calm=true):CallR X (.type "dict") rDictQ:=by
 intro pins s σ H xs us Q I r h
 obtain ⟨p,ts,kvs,rfl,hp,hts,hz,q⟩:=h
 obtain ⟨u,rfl,ru⟩:=vals1 r
 cases ru
 obtain ⟨z,its,n,rv,e⟩:=I.hok p _ hp
 have ei:=zaik rv
 have mk:∀ {kvs:List (Key × V)}{ts:List Addr},Paired (fun kv t=>H t=some (.tup [kV kv.1,kv.2])) kvs ts→∃ ps:List (Key × Value),KV kvs ps∧ps.length=ts.length ∧
   ∀ (i:Nat) (kv:Key × Value),ps[i]?=some kv→∃ (t:Addr) (key:Value),(ts.map Value.ref)[i]?=some (.ref t)∧s.heap.IsTuple t #[key,kv.2]∧(mixKind X.prog X.w).is kv.1 key=true:=by
  intro kvs ts h
  induction h with
  | nil=>exact ⟨[],.nil,rfl,fun i kv e=>by simp at e⟩
  | @cons kv t kvs ts a _ ih =>
   obtain ⟨ps,h1,h2,h3⟩:=ih
   obtain ⟨_,us,r2,o,ho,hoc,no,hod⟩:=I.hok _ _ a
   obtain ⟨ku,vu,rfl,rk,rvv⟩:=vals2 r2
   refine ⟨(kv.1,vu) :: ps,.cons ⟨rfl,rvv⟩ h1,by simp [h2],fun i kv' e=>?_⟩
   cases i with
   | zero =>
    simp at e
    subst e
    exact ⟨t,ku,rfl,⟨o,ho,hoc,no,hod⟩,zamp rk⟩
   | succ i =>
    obtain ⟨t',key,f1,f2,f3⟩:=h3 i kv' (by simpa using e)
    exact ⟨t',key,by simpa using f1,f2,f3⟩
 obtain ⟨ps,kv,lp,hps⟩:=mk hts
 have lps:kvs.length=ps.length:=Paired.length kv
 subst ei
 refine zaf0 (knd:=mixKind X.prog X.w) (ps:=ps) (I.ok.hd hc) e (by simp [lp]) (by rw [sizeLine_eq]; omega) (fun j kv' ej=>hps j kv' ej) fun h' tk hd hk=>?_
 have hf:H s.heap.objs.size=none:=I.hok.fresh (Nat.le_refl _)
 have ml:=zam4 kvs []
 refine ⟨.ref s.heap.objs.size,upd H s.heap.objs.size (.dK (mrg [] kvs)),I.laid (t':=tk) hk (Nat.le_refl _) ?_,rfl,q _ hf⟩
 exact ⟨by rw [sizeLine_eq]; simp at ml; omega,beq_eq_false_iff_ne.mpr (Ne.symm (Nat.ne_of_lt I.big)),_,zakr kv .nil,hd⟩
theorem zag1:∀ {kvs:List (Key × V)}{vs:List (Key × Value)} (l:List Value),KV kvs vs→l.length=vs.length→(∀ (j:Nat) (v:Value),l[j]?=some v→∃ k x,vs[j]?=some (k,x)∧keyIs k v=true)→Vals (kvs.map fun kv=>kV kv.1) l
 | _,_,[],.nil,_,_=>.nil
 | _,_,_ :: _,.nil,h,_=>by simp at h
 | _,_,[],.cons _ _,h,_=>by simp at h
 | _,_,v :: l,.cons a t,h,g=>by
  obtain ⟨k,x,e,ek⟩:=g 0 v rfl
  simp at e
  have:=zajs ek
  refine .cons ?_ (zag1 l t (by simpa using h) fun j w e=>by simpa using g (j + 1) w (by simpa using e))
  show RelV (kV _) v
  rw [a.1,e]
  exact this
def rListK:List V→Hp→VK→Prop:=fun xs H Q=>∃ (a:Addr) (kvs:List (Key × V)),xs=[.ref a]∧H a=some (.dK kvs)∧∀ l,H l=none→Q (.ref l) (upd H l (.lst (kvs.map fun kv=>kV kv.1)))
theorem zaez (hc:X.calm=true):CallR X (.type "list") rListK:=by
 intro pins s σ H xs us Q I r h
 obtain ⟨a,kvs,rfl,ha,q⟩:=h
 obtain ⟨u,rfl,ru⟩:=vals1 r
 cases ru
 obtain ⟨hz,nS,vs,kv,hd⟩:=(I.hok a _ ha:ObjOk X.prog X.w H s.heap a (.dK kvs))
 have lv:vs.length=kvs.length:=(Paired.length kv).symm
 obtain ⟨ep,hat⟩:=hd.dictAt
 refine PySem.W.kdl_call (PySem.W.kdl_dict (knd:=mixKind X.prog X.w) (kvs:=vs) (ep:=ep) nS) (I.ok.hd hc) hat (by omega) fun h' tk acc c kp e it=>?_
 have vl:=zag1 acc.toList kv (by simpa using it.1) fun j w hw=>it.2 j w (by simpa using hw)
 exact ⟨.ref s.heap.objs.size,_,I.laid (t':=tk) kp (Nat.le_refl _) (show ObjOk X.prog X.w _ h' _ (.lst (kvs.map fun kv=>kV kv.1)) from ⟨by simpa using hz,_,_,vl,by simpa using e⟩),rfl,q _ (I.hok.fresh (Nat.le_refl _))⟩
theorem zag2:∀ {ns:List Int}{vs:List Value},Vals (ns.map V.int) vs→IntsAre vs ns
 | [],_,.nil=>.nil
 | n :: ns,_,.cons a t=>by
  obtain ⟨u,eu⟩:=a
  rw [eu]
  exact .cons _ _ (zag2 t)
def rSrtI:List V→Hp→VK→Prop:=fun xs H Q=>∃ (a:Addr) (ns:List Int),xs=[.ref a]∧H a=some (.lst (ns.map V.int))∧ns.length < 64∧∀ (p:Addr) (ns':List Int),ns'.Perm ns→ns'.Pairwise (·≤·)→H p=none→Q (.ref p) (upd H p (.lst (ns'.map V.int)))
theorem zain:CallR X (.builtin "sorted") rSrtI:=by
 intro pins s σ H xs us Q I r h
 obtain ⟨a,ns,rfl,ha,h64,q⟩:=h
 obtain ⟨u,rfl,ru⟩:=vals1 r
 cases ru
 obtain ⟨z,its,n,rv,e⟩:=(show ObjOk _ _ _ _ _ (.lst _) from I.hok a _ ha)
 have hI:=zag2 rv
 have lv:its.length=ns.length:=hI.length
 have lz:its.length≤sizeLine:=by rw [sizeLine_eq]; omega
 refine call_function_entry kind_sorted plain_sorted entry_sorted (args_sorted1 _) ?_
 unfold Builtin.«sorted»
 refine wpAny_bind (m:=checkCount "sorted" 1 1 _) (wpAny_pure (wpAny_bind (collect_list ⟨_,e,rfl,n,rfl⟩ ?_ lz)))
 have kp:∀ b o,s.heap.get? b=some o→((s.heap.push (seqObj "list" #[] 0)).update s.heap.objs.size (Obj.mapSeq (·++its.toArray))).get? b=some o:=fun b o e=>by
  rw [Heap.get?_update_ne _ _ _ _ (Nat.ne_of_lt (Heap.lt_size e))]
  exact Heap.get?_push_of_some _ e
 have szD:s.heap.objs.size≤((s.heap.push (seqObj "list" #[] 0)).update s.heap.objs.size (Obj.mapSeq (·++its.toArray))).objs.size:=by rw [Heap.size_update,size_push']; exact Nat.le_succ _
 generalize (s.heap.push (seqObj "list" #[] 0)).update s.heap.objs.size (Obj.mapSeq (·++its.toArray))=h' at kp szD
 refine wpAny_bind (wpAny_newList ?_ lz)
 have hD:(h'.push (seqObj "list" its.toArray 0)).get? h'.objs.size=some (seqObj "list" its.toArray 0):=Heap.get?_push_size _ rfl
 have kD:∀ b o,s.heap.get? b=some o→b≠h'.objs.size∧(h'.push (seqObj "list" its.toArray 0)).get? b=some o:=fun b o e=>⟨Nat.ne_of_lt (Heap.lt_size (kp b o e)),Heap.get?_push_of_some _ (kp b o e)⟩
 refine wpAny_bind (wpAny_holding (wpAny_call_entry slot_list_sort ⟨_,hD,rfl⟩ entry_list_sort (list_sort_tree hD hI (by omega) fun out ns' a1 a2 a3=>⟨_,rfl,wpAny_pure ⟨_,rfl,?_⟩⟩) (args_list_sort _)))
 obtain ⟨kb,c,ec⟩:=zail hD its out
 exact ⟨.ref h'.objs.size,_,I.laid (t':=s.toks) (fun b o e'=>kb b o (kD b o e').1 (kD b o e').2) szD (show ObjOk X.prog X.w _ _ _ (.lst (ns'.map V.int)) from ⟨by rw [sizeLine_eq,List.length_map,a2.length_eq]; omega,out.toList,c,zaf6 a1,by simpa using ec⟩),rfl,q _ ns' a2 a3 (I.hok.fresh szD)⟩
end L2

namespace L2
def indB (b:Bool):Int:=if b then 1 else 0
theorem zajt {α:Type} [DecidableEq α] {f g:α→Int}{a:α}:∀ {V:List α},V.Nodup→a∈V→(∀ v,v≠a→g v=f v)→(V.map g).sum=(V.map f).sum + (g a - f a)
 | [],_,m,_=>(nomatch m)
 | v :: V,nd,m,h=>by
  obtain ⟨n1,n2⟩:=List.nodup_cons.mp nd
  rw [List.map_cons,List.map_cons,List.sum_cons,List.sum_cons]
  by_cases e:v=a
  ·subst e
   have:V.map g=V.map f:=List.map_congr_left fun x hx=>h x fun z=>n1 (z ▸ hx)
   rw [this]; omega
  ·have m':a∈V:=by
    rcases List.mem_cons.mp m with z | z
    ·exact absurd z.symm e
    ·exact z
   rw [zajt n2 m' h,h v e]; omega
section
variable {α:Type} [DecidableEq α]
def outS (V:List α) (W:α→List α) (S:α→Bool):Int:=(V.map fun v=>if S v then (((W v).countP fun x=>!S x:Nat):Int) else 0).sum
def rev1 (W:α→List α) (a b:α):α→List α:=fun u=>if u=a then (W a).erase b else if u=b then W b++[a] else W u
theorem zam5 {l:List α}{b:α} (p:α→Bool) (m:b∈l):((l.erase b).countP p:Int)=(l.countP p:Int) - indB (p b):=by
 have:=(List.perm_cons_erase m).countP_eq p
 rw [this,List.countP_cons]
 unfold indB
 split <;> simp <;> omega
theorem zapi {V:List α}{W:α→List α}{a b:α} (nd:V.Nodup) (ha:a∈V) (hb:b∈V) (ne:a≠b) (m:b∈W a) (S:α→Bool) :
  outS V (rev1 W a b) S=outS V W S - indB (S a) + indB (S b):=by
 have h1:=zajt (V:=V) (a:=a) (f:=fun v=>if S v then (((W v).countP fun x=>!S x:Nat):Int) else 0)
  (g:=fun v=>if S v then ((((if v=a then (W a).erase b else W v)).countP fun x=>!S x:Nat):Int) else 0) nd ha (fun v e=>by simp only [if_neg e])
 have h2:=zajt (V:=V) (a:=b) (f:=fun v=>if S v then ((((if v=a then (W a).erase b else W v)).countP fun x=>!S x:Nat):Int) else 0)
  (g:=fun v=>if S v then (((rev1 W a b v).countP fun x=>!S x:Nat):Int) else 0) nd hb (fun v e=>by
   unfold rev1
   by_cases z:v=a
   ·subst z; simp
   ·simp only [if_neg z,if_neg e])
 unfold outS
 rw [h2,h1]
 have e1:rev1 W a b b=W b++[a]:=by unfold rev1; rw [if_neg (Ne.symm ne),if_pos rfl]
 rw [e1]
 simp only [if_pos rfl,if_neg (Ne.symm ne),List.countP_append,List.countP_singleton]
 have:=zam5 (fun x=>!S x) m
 cases sa:S a <;> cases sb:S b <;> simp [sa,sb,indB] at this ⊢ <;> omega
structure OriS (A:α→α→Prop) (W:α→List α):Prop where
 nd:∀ u,(W u).Nodup
 of:∀ u v,v∈W u→A u v∨A v u
 to:∀ u v,A u v→v∈W u∨u∈W v
 one:∀ u v,v∈W u→u ∉ W v
theorem OriS.ne {A:α→α→Prop}{W:α→List α} (h:OriS A W) {a b:α} (m:b∈W a):a≠b:=by
 intro e; subst e; exact h.one _ _ m m
theorem zaju {W:α→List α}{a b u v:α} (nd:(W a).Nodup) (ne:a≠b):v∈rev1 W a b u↔(v∈W u∧¬ (u=a∧v=b))∨(u=b∧v=a):=by
 unfold rev1
 by_cases e:u=a
 ·subst e
  rw [if_pos rfl,List.Nodup.mem_erase_iff nd]
  constructor
  ·rintro ⟨h1,h2⟩; exact .inl ⟨h2,fun z=>h1 z.2⟩
  ·rintro (⟨h1,h2⟩ | ⟨h1,h2⟩)
   ·exact ⟨fun z=>h2 ⟨rfl,z⟩,h1⟩
   ·exact absurd h1 ne
 ·rw [if_neg e]
  by_cases e2:u=b
  ·subst e2
   rw [if_pos rfl,List.mem_append,List.mem_singleton]
   constructor
   ·rintro (h | h)
    ·exact .inl ⟨h,fun z=>e z.1⟩
    ·exact .inr ⟨rfl,h⟩
   ·rintro (h | h)
    ·exact .inl h.1
    ·exact .inr h.2
  ·rw [if_neg e2]
   constructor
   ·intro h; exact .inl ⟨h,fun z=>e z.1⟩
   ·rintro (h | h)
    ·exact h.1
    ·exact absurd h.1 e2
theorem OriS.rev {A:α→α→Prop}{W:α→List α} (h:OriS A W) {a b:α} (m:b∈W a):OriS A (rev1 W a b) where
 nd u:=by
  unfold rev1
  split
  ·exact (h.nd a).erase b
  ·split
   ·rw [List.nodup_append]
    refine ⟨h.nd b,by simp,?_⟩
    intro x hx y hy e
    rw [List.mem_singleton] at hy
    subst hy; subst e
    exact h.one _ _ m hx
   ·exact h.nd u
 of u v k:=by
  rcases (zaju (h.nd a) (h.ne m)).mp k with k | ⟨rfl,rfl⟩
  ·exact h.of _ _ k.1
  ·exact (h.of _ _ m).symm
 to u v k:=by
  simp only [zaju (h.nd a) (h.ne m)]
  rcases h.to u v k with z | z
  ·by_cases e:u=a∧v=b
   ·exact .inr (.inr ⟨e.2,e.1⟩)
   ·exact .inl (.inl ⟨z,e⟩)
  ·by_cases e:v=a∧u=b
   ·exact .inl (.inr ⟨e.2,e.1⟩)
   ·exact .inr (.inl ⟨z,e⟩)
 one u v k k2:=by
  rw [zaju (h.nd a) (h.ne m)] at k k2
  rcases k with ⟨k,kn⟩ | ⟨rfl,rfl⟩
  ·rcases k2 with ⟨k2,_⟩ | ⟨rfl,rfl⟩
   ·exact h.one _ _ k k2
   ·exact kn ⟨rfl,rfl⟩
  ·rcases k2 with ⟨k2,kn⟩ | ⟨e,_⟩
   ·exact kn ⟨rfl,rfl⟩
   ·exact h.ne m e
structure TnS (A:α→α→Prop) (V:List α) (W0:α→List α) (rk:α→Nat) (e:α) (W:α→List α) (v:α):Prop where
 ori:OriS A W
 cut:∀ S,outS V W S=outS V W0 S - indB (S v) + indB (S e)
 low:∀ u,rk u < rk v→W u=W0 u
theorem TnS.first {A:α→α→Prop}{V:List α}{W0:α→List α}{rk:α→Nat}{e:α} (h:OriS A W0):TnS A V W0 rk e W0 e :=
 ⟨h,fun S=>by omega,fun _ _=>rfl⟩
theorem TnS.step {A:α→α→Prop}{V:List α}{W0 W:α→List α}{rk:α→Nat}{e v p:α} (h:TnS A V W0 rk e W v) (nd:V.Nodup) (hp:p∈V) (hv:v∈V) (r:rk p < rk v) (m:v∈W0 p) :
  v∈W p∧p ∉ W v∧TnS A V W0 rk e (rev1 W p v) p:=by
 have m':v∈W p:=by rw [h.low p r]; exact m
 refine ⟨m',h.ori.one _ _ m',h.ori.rev m',fun S=>?_,fun u k=>?_⟩
 ·rw [zapi nd hp hv (h.ori.ne m') m',h.cut S]; omega
 ·have e1:u≠p:=by intro z; subst z; omega
  have e2:u≠v:=by intro z; subst z; omega
  unfold rev1
  rw [if_neg e1,if_neg e2]
  exact h.low u (by omega)
structure FlS (A:α→α→Prop) (V:List α) (st:α→Bool) (e:α) (W0:α→List α) (k:Nat) (W:α→List α):Prop where
 ori:OriS A W
 cut:∀ S:α→Bool,(∀ s,st s=true→S s=true)→S e=false→outS V W S=outS V W0 S - k
 inn:∀ v,st v=false→v≠e→outS V W (fun u=>!decide (u=v))=outS V W0 (fun u=>!decide (u=v))
theorem FlS.first {A:α→α→Prop}{V:List α}{st:α→Bool}{e:α}{W0:α→List α} (h:OriS A W0):FlS A V st e W0 0 W0 :=
 ⟨h,fun S _ _=>by simp,fun _ _ _=>rfl⟩
theorem FlS.turn {A:α→α→Prop}{V:List α}{st:α→Bool}{e:α}{W0 W W':α→List α}{k:Nat}{rk:α→Nat}{s:α} (h:FlS A V st e W0 k W) (t:TnS A V W rk e W' s) (hs:st s=true):FlS A V st e W0 (k + 1) W' where
 ori:=t.ori
 cut S h1 h2:=by
  have:=t.cut S
  rw [h.cut S h1 h2,h1 s hs,h2] at this
  rw [this]; simp [indB]; omega
 inn v h1 h2:=by
  have:=t.cut (fun u=>!decide (u=v))
  have e1:decide (s=v)=false:=by
   apply decide_eq_false; intro z; subst z; rw [hs] at h1; cases h1
  have e2:decide (e=v)=false:=decide_eq_false (Ne.symm h2)
  rw [h.inn v h1 h2] at this
  simp only [e1,e2] at this
  rw [this]; simp [indB]
theorem zam6 {f:α→Int} (h:∀ v,0≤f v):∀ V:List α,0≤(V.map f).sum
 | []=>by simp
 | v :: V=>by rw [List.map_cons,List.sum_cons]; have:=zam6 h V; have:=h v; omega
theorem zahn {f:α→Int} (nn:∀ v,0≤f v):∀ {T V:List α},T.Nodup→(∀ x∈T,x∈V∧1≤f x)→(T.length:Int)≤(V.map f).sum
 | [],V,_,_=>by have:=zam6 nn V; simpa using this
 | x :: T,V,nd,h=>by
  obtain ⟨n1,n2⟩:=List.nodup_cons.mp nd
  obtain ⟨a,b,rfl⟩:=List.append_of_mem (h x (by simp)).1
  have:=zahn nn (T:=T) (V:=a++b) n2 fun y hy=>by
   have ne:y≠x:=fun z=>n1 (z ▸ hy)
   obtain ⟨k1,k2⟩:=h y (by simp [hy])
   refine ⟨?_,k2⟩
   rcases List.mem_append.mp k1 with z | z
   ·exact List.mem_append_left _ z
   ·rcases List.mem_cons.mp z with z | z
    ·exact absurd z ne
    ·exact List.mem_append_right _ z
  have h1:=(h x (by simp)).2
  simp only [List.map_append,List.sum_append,List.map_cons,List.sum_cons,List.length_cons] at this ⊢
  omega
theorem zajv {f:α→Int}{T:α→Bool}:∀ {V:List α},(∀ x∈V,f x≤indB (T x))→(V.map f).sum≤((V.filter T).length:Int)
 | [],_=>by simp
 | x :: V,h=>by
  have:=zajv (V:=V) fun y hy=>h y (List.mem_cons_of_mem _ hy)
  have h1:=h x (by simp)
  rw [List.map_cons,List.sum_cons,List.filter_cons]
  unfold indB at h1
  split at h1 <;> rename_i k
  ·rw [if_pos k]; simp only [List.length_cons]; omega
  ·rw [if_neg k]; omega
theorem zapj {V:List α}{W:α→List α}{v a b:α} (h:outS V W (fun u=>!decide (u=v))≤1) (ha:a∈V) (hb:b∈V) (na:a≠v) (nb:b≠v) (ma:v∈W a) (mb:v∈W b):a=b:=by
 apply Classical.byContradiction
 intro ne
 unfold outS at h
 have nn:∀ x,(0:Int)≤(if (fun u=>!decide (u=v)) x then (((W x).countP fun y=>!(fun u=>!decide (u=v)) y:Nat):Int) else 0):=by
  intro x; split <;> omega
 have:=zahn (T:=[a,b]) (V:=V) nn (by simp [ne]) (by
  intro x hx
  have key:∀ c,c≠v→v∈W c→(1:Int)≤(if (fun u=>!decide (u=v)) c then (((W c).countP fun y=>!(fun u=>!decide (u=v)) y:Nat):Int) else 0):=by
   intro c nc mc
   rw [if_pos (by simp [nc])]
   have:0 < (W c).countP fun y=>!(fun u=>!decide (u=v)) y:=List.countP_pos_iff.mpr ⟨v,mc,by simp⟩
   omega
  rcases List.mem_cons.mp hx with rfl | hx
  ·exact ⟨ha,key _ na ma⟩
  ·rw [List.mem_singleton] at hx; subst hx; exact ⟨hb,key _ nb mb⟩)
 simp only [List.length_cons,List.length_nil] at this h
 omega
end
end L2

namespace L2
theorem zab6 {α:Type}:∀ {l m:List α},l.Nodup→(∀ x∈l,x∈m)→l.length≤m.length
 | [],_,_,_=>Nat.zero_le _
 | x :: l,m,nd,h=>by
  obtain ⟨n1,n2⟩:=List.nodup_cons.mp nd
  obtain ⟨a,b,rfl⟩:=List.append_of_mem (h x (by simp))
  have:=zab6 (l:=l) (m:=a++b) n2 fun y hy=>by
   have ne:y≠x:=fun z=>n1 (z ▸ hy)
   rcases List.mem_append.mp (h y (by simp [hy])) with z | z
   ·exact List.mem_append_left _ z
   ·rcases List.mem_cons.mp z with z | z
    ·exact absurd z ne
    ·exact List.mem_append_right _ z
  simp at this ⊢
  omega
theorem zajw (b:Bool):0≤indB b:=by unfold indB; split <;> omega
structure StG (g:Nat) (ab:List Nat) (fd:Nat→List Nat) (low src:Nat→Bool):Prop where
 nd:ab.Nodup
 gm:g∈ab
 lo:∀ n,low n=true→n∈ab∧n≠g
 lt:∀ n∈ab,∀ f∈fd n,f < n∧f∈ab
 up:∀ n∈ab,n≠g→∃ m∈ab,n∈fd m
 le:∀ n∈ab,n≤g
 sr:∀ n∈ab,src n=true→low n=true∧fd n=[]
 mo:∀ n∈ab,low n=true→∀ f∈fd n,low f=true
inductive Arc (ab:List Nat) (fd:Nat→List Nat) (low:Nat→Bool):Option Nat→Option Nat→Prop
 | thr (n:Nat):low n=true→Arc ab fd low (some (2 * n)) (some (2 * n + 1))
 | fed (f n:Nat):low f=true→low n=true→f∈fd n→Arc ab fd low (some (2 * f + 1)) (some (2 * n))
 | fin (f h:Nat):low f=true→low h=false→h∈ab→f∈fd h→Arc ab fd low (some (2 * f + 1)) none
def stV (ab:List Nat) (low:Nat→Bool):List (Option Nat):=none :: (ab.filter low).flatMap fun n=>[some (2 * n),some (2 * n + 1)]
theorem zac9 {ab:List Nat}{low:Nat→Bool}{x:Option Nat}:x∈stV ab low↔x=none∨∃ n,n∈ab∧low n=true∧(x=some (2 * n)∨x=some (2 * n + 1)):=by
 unfold stV
 simp only [List.mem_cons,List.mem_flatMap,List.mem_filter,List.not_mem_nil,or_false]
 constructor
 ·rintro (h | ⟨n,⟨h1,h2⟩,h3⟩)
  ·exact .inl h
  ·exact .inr ⟨n,h1,h2,h3⟩
 ·rintro (h | ⟨n,h1,h2,h3⟩)
  ·exact .inl h
  ·exact .inr ⟨n,⟨h1,h2⟩,h3⟩
theorem zam7:∀ {l:List Nat},l.Nodup→(l.flatMap fun n=>[some (2 * n),some (2 * n + 1)]).Nodup
 | [],_=>by simp
 | n :: l,nd=>by
  obtain ⟨n1,n2⟩:=List.nodup_cons.mp nd
  rw [List.flatMap_cons,List.nodup_append]
  refine ⟨by simp,zam7 n2,?_⟩
  intro a ha b hb e
  subst e
  rw [List.mem_flatMap] at hb
  obtain ⟨m,hm,hb⟩:=hb
  simp only [List.mem_cons,List.not_mem_nil,or_false] at ha hb
  have:n=m:=by
   rcases ha with ha | ha <;> subst ha <;> rcases hb with hb | hb <;> simp only [Option.some.injEq] at hb <;> omega
  exact n1 (this ▸ hm)
theorem zam8 {ab:List Nat}{low:Nat→Bool} (h:ab.Nodup):(stV ab low).Nodup:=by
 unfold stV
 rw [List.nodup_cons]
 refine ⟨?_,zam7 (h.filter _)⟩
 simp [List.mem_flatMap]
section
variable {g:Nat}{ab:List Nat}{fd:Nat→List Nat}{low src:Nat→Bool}
theorem Arc.asym (G:StG g ab fd low src) {u v:Option Nat} (h:Arc ab fd low u v):¬ Arc ab fd low v u:=by
 intro k
 have L:∀ n,low n=true→∀ f∈fd n,f < n:=fun n l f m=>(G.lt n (G.lo n l).1 f m).1
 generalize eu:u=u' at k
 generalize ev:v=v' at k
 cases h <;> cases k <;> simp only [Option.some.injEq,reduceCtorEq] at eu ev
 ·omega
 ·rename_i n l f m lf lm mm
  have:=L _ lm _ mm; omega
 ·rename_i f n l lf mm m lm
  have:=L _ lf _ mm; omega
 ·omega
theorem Arc.ori (G:StG g ab fd low src) {W0:Option Nat→List (Option Nat)} (nd:∀ u,(W0 u).Nodup) (h:∀ u v,v∈W0 u↔Arc ab fd low u v):OriS (Arc ab fd low) W0 :=
 ⟨nd,fun u v k=>.inl ((h u v).mp k),fun u v k=>.inl ((h u v).mpr k),fun u v k k2=>Arc.asym G ((h u v).mp k) ((h v u).mp k2)⟩
def stS (low src:Nat→Bool):Option Nat→Bool
 | some m=>m % 2 == 0 && low (m / 2) && src (m / 2)
 | none=>false
theorem zam9 {n:Nat}:stS low src (some (2 * n + 1))=false:=by
 show ((2 * n + 1) % 2 == 0 && low ((2 * n + 1) / 2) && src ((2 * n + 1) / 2))=false
 have:(2 * n + 1) % 2=1:=by omega
 rw [this]; rfl
theorem zaks {n:Nat}:stS low src (some (2 * n))=(low n && src n):=by
 show ((2 * n) % 2 == 0 && low ((2 * n) / 2) && src ((2 * n) / 2))=_
 have h1:(2 * n) % 2=0:=by omega
 have h2:(2 * n) / 2=n:=by omega
 rw [h1,h2]; simp
theorem zat1 {W0:Option Nat→List (Option Nat)} (G:StG g ab fd low src) (nd:∀ u,(W0 u).Nodup) (h:∀ u v,v∈W0 u↔Arc ab fd low u v) (n:Nat):outS (stV ab low) W0 (fun u=>!decide (u=some (2 * n + 1)))≤1:=by
 unfold outS
 refine Int.le_trans (zajv (T:=fun x=>decide (x=some (2 * n))) ?_) ?_
 ·intro x hx
  split
  ·rename_i k
   have e:(W0 x).countP (fun y=>!(fun u=>!decide (u=some (2 * n + 1))) y)=(W0 x).count (some (2 * n + 1)):=by
    unfold List.count
    apply List.countP_congr
    intro y _
    simp
   have e2:=List.nodup_iff_count.mp (nd x) (some (2 * n + 1))
   by_cases z:x=some (2 * n)
   ·rw [decide_eq_true z]; show _≤(1:Int)
    rw [e]; omega
   ·rw [decide_eq_false z]; show _≤(0:Int)
    have:(W0 x).count (some (2 * n + 1))=0:=by
     rw [List.count_eq_zero]
     intro m
     have a:=(h x _).mp m
     generalize ev:some (2 * n + 1)=v at a
     cases a <;> simp only [Option.some.injEq,reduceCtorEq] at ev
     ·apply z; rw [Option.some.injEq]; omega
     ·omega
    rw [e,this]; exact Int.le_refl _
  ·unfold indB; split <;> omega
 ·have:=zab6 (l:=(stV ab low).filter fun x=>decide (x=some (2 * n))) (m:=[some (2 * n)]) ((zam8 G.nd).filter _) (by
   intro x hx
   rw [List.mem_filter] at hx
   rw [List.mem_singleton]
   exact of_decide_eq_true hx.2)
  simp only [List.length_singleton] at this
  omega
theorem FlS.one {W0 W:Option Nat→List (Option Nat)}{k:Nat} (F:FlS (Arc ab fd low) (stV ab low) (stS low src) none W0 k W) (G:StG g ab fd low src) (nd:∀ u,(W0 u).Nodup) (h:∀ u v,v∈W0 u↔Arc ab fd low u v)
  {n:Nat}{a b:Option Nat} (ha:a∈stV ab low) (hb:b∈stV ab low) (ma:some (2 * n + 1)∈W a) (mb:some (2 * n + 1)∈W b):a=b:=by
 refine zapj (v:=some (2 * n + 1)) ?_ ha hb (F.ori.ne ma) (F.ori.ne mb) ma mb
 rw [F.inn _ zam9 (by simp)]
 exact zat1 G nd h n
theorem Arc.mem (G:StG g ab fd low src) {u v:Option Nat} (h:Arc ab fd low u v):u∈stV ab low∧v∈stV ab low:=by
 cases h with
 | thr n l=>exact ⟨zac9.mpr (.inr ⟨n,(G.lo n l).1,l,.inl rfl⟩),zac9.mpr (.inr ⟨n,(G.lo n l).1,l,.inr rfl⟩)⟩
 | fed f n l l2 m=>exact ⟨zac9.mpr (.inr ⟨f,(G.lo f l).1,l,.inr rfl⟩),zac9.mpr (.inr ⟨n,(G.lo n l2).1,l2,.inl rfl⟩)⟩
 | fin f h l l2 m m2=>exact ⟨zac9.mpr (.inr ⟨f,(G.lo f l).1,l,.inr rfl⟩),zac9.mpr (.inl rfl)⟩
theorem FlS.mem {W0 W:Option Nat→List (Option Nat)}{k:Nat} (F:FlS (Arc ab fd low) (stV ab low) (stS low src) none W0 k W) (G:StG g ab fd low src) {u v:Option Nat} (m:v∈W u):u∈stV ab low∧v∈stV ab low:=by
 rcases F.ori.of _ _ m with z | z
 ·exact z.mem G
 ·exact (z.mem G).symm
theorem zana {W0 W:Option Nat→List (Option Nat)}{k:Nat}{S:Option Nat→Bool}{op:Nat→Bool} (F:FlS (Arc ab fd low) (stV ab low) (stS low src) none W0 k W) (G:StG g ab fd low src) (nd:∀ u,(W0 u).Nodup) (h:∀ u v,v∈W0 u↔Arc ab fd low u v)
  (s1:∀ u,stS low src u=true→S u=true) (s2:S none=false) (s3:∀ u,S u=true→∀ v∈W u,S v=true) (s4:∀ v,S v=true→stS low src v=true∨∃ p,S p=true∧v∈W p)
  (ho:∀ n∈ab,op n=true→¬ (low n=true∧S (some (2 * n))=true∧S (some (2 * n + 1))=false)∧(src n=true∨∃ f∈fd n,op f=true)) :
  ((ab.filter fun n=>low n && S (some (2 * n)) && !S (some (2 * n + 1))).length≤k)∧∀ f∈fd g,op f=false:=by
 have out0:outS (stV ab low) W S=0:=by
  unfold outS
  have:∀ v∈stV ab low,(if S v then (((W v).countP fun x=>!S x:Nat):Int) else 0)=(fun _=>(0:Int)) v:=by
   intro v _
   split
   ·rename_i sv
    have:(W v).countP (fun x=>!S x)=0:=by
     rw [List.countP_eq_zero]
     intro x hx
     rw [s3 v sv x hx]; simp
    rw [this]; rfl
   ·rfl
  rw [List.map_congr_left this]
  clear this
  generalize stV ab low=V
  induction V with
  | nil=>rfl
  | cons a V ih=>rw [List.map_cons,List.sum_cons,ih]; rfl
 have outk:=F.cut S s1 s2
 rw [out0] at outk
 constructor
 ·have nn:∀ x,(0:Int)≤(if S x then (((W0 x).countP fun y=>!S y:Nat):Int) else 0):=by
   intro x; split <;> omega
  have:=zahn (T:=(ab.filter fun n=>low n && S (some (2 * n)) && !S (some (2 * n + 1))).map fun n=>some (2 * n)) (V:=stV ab low) nn
   (by
    have q:=G.nd.filter fun n=>low n && S (some (2 * n)) && !S (some (2 * n + 1))
    rw [List.nodup_iff_pairwise_ne,List.pairwise_map]
    refine List.Pairwise.imp ?_ q
    intro a b ne e
    rw [Option.some.injEq] at e
    exact ne (by omega))
   (by
    intro x hx
    rw [List.mem_map] at hx
    obtain ⟨n,hn,rfl⟩:=hx
    rw [List.mem_filter] at hn
    simp only [Bool.and_eq_true,Bool.not_eq_true'] at hn
    obtain ⟨h1,⟨h2,h3⟩,h4⟩:=hn
    refine ⟨zac9.mpr (.inr ⟨n,h1,h2,.inl rfl⟩),?_⟩
    rw [if_pos h3]
    have:0 < (W0 (some (2 * n))).countP fun y=>!S y:=List.countP_pos_iff.mpr ⟨some (2 * n + 1),(h _ _).mpr (.thr n h2),by rw [h4]; rfl⟩
    omega)
  rw [List.length_map] at this
  unfold outS at outk
  omega
 ·-- the arcs out of an upper node that is come to
  have arc:∀ f x,S (some (2 * f + 1))=true→Arc ab fd low (some (2 * f + 1)) x→S x=true:=by
   intro f x sf a
   rcases F.ori.to _ _ a with z | z
   ·exact s3 _ sf _ z
   ·rcases s4 _ sf with y | ⟨p,sp,mp⟩
    ·rw [zam9] at y; cases y
    ·have:=F.one G nd h (F.mem G z).1 (F.mem G mp).1 z mp
     rw [this]; exact sp
  have key:∀ n,n∈ab→n≠g→op n=true→low n=true∧S (some (2 * n + 1))=true:=by
   intro n
   induction n using Nat.strongRecOn with
   | ind n ih =>
    intro hn ne on
    obtain ⟨k1,k2⟩:=ho n hn on
    have ft:∀ f∈fd n,op f=true→low f=true∧S (some (2 * f + 1))=true:=by
     intro f hf of
     obtain ⟨l1,l2⟩:=G.lt n hn f hf
     have:=G.le n hn
     exact ih f l1 l2 (by omega) of
    have ln:low n=true:=by
     rcases k2 with z | ⟨f,hf,of⟩
     ·exact (G.sr n hn z).1
     ·cases e:low n
      ·obtain ⟨f1,f2⟩:=ft f hf of
       have:=arc f none f2 (.fin f n f1 e hn hf)
       rw [s2] at this; cases this
      ·rfl
    refine ⟨ln,?_⟩
    have s2n:S (some (2 * n))=true:=by
     rcases k2 with z | ⟨f,hf,of⟩
     ·exact s1 _ (by rw [zaks,ln,z]; rfl)
     ·obtain ⟨f1,f2⟩:=ft f hf of
      exact arc f _ f2 (.fed f n f1 ln hf)
    cases e:S (some (2 * n + 1))
    ·exact absurd ⟨ln,s2n,e⟩ k1
    ·rfl
  intro f hf
  cases e:op f
  ·rfl
  ·exfalso
   obtain ⟨l1,l2⟩:=G.lt g G.gm f hf
   obtain ⟨f1,f2⟩:=key f l2 (by omega) e
   have lg:low g=false:=by
    cases z:low g
    ·rfl
    ·exact absurd rfl (G.lo g z).2
   have:=arc f none f2 (.fin f g f1 lg G.gm hf)
   rw [s2] at this; cases this
theorem zalg {W0 W:Option Nat→List (Option Nat)}{k:Nat}{op:Nat→Bool}{T:List Nat} (F:FlS (Arc ab fd low) (stV ab low) (stS low src) none W0 k W) (G:StG g ab fd low src) (nd:∀ u,(W0 u).Nodup) (h:∀ u v,v∈W0 u↔Arc ab fd low u v)
  (tk:T.length < k) (tl:∀ n∈T,low n=true)
  (ho:∀ n∈ab,n≠g→n ∉ T→(src n=true∨∃ f∈fd n,op f=true)→op n=true) (hT:∀ n∈ab,op n=true→src n=true∨∃ f∈fd n,op f=true) :
  ∃ f∈fd g,op f=true:=by
 apply Classical.byContradiction
 intro no
 have high:∀ d m,m∈ab→g - m≤d→low m=false→¬ ∃ f∈fd m,op f=true:=by
  intro d
  induction d with
  | zero =>
   intro m hm hd lm k
   have:=G.le m hm
   have e:m=g:=by omega
   subst e; exact no k
  | succ d ih =>
   intro m hm hd lm k
   by_cases e:m=g
   ·subst e; exact no k
   ·have om:=ho m hm e (fun z=>by rw [tl m z] at lm; cases lm) (.inr k)
    obtain ⟨p,hp,mp⟩:=G.up m hm e
    have lp:low p=false:=by
     cases z:low p
     ·rfl
     ·have:=G.mo p hp z m mp
      rw [lm] at this; cases this
    have:=(G.lt p hp m mp).1
    have:=G.le p hp
    exact ih p hp (by omega) lp ⟨m,mp,om⟩
 let S:Option Nat→Bool:=fun x=>match x with
  | none=>false
  | some m=>low (m / 2) && (if m % 2=0 then src (m / 2) || (fd (m / 2)).any op else op (m / 2))
 have Se:∀ n,S (some (2 * n))=(low n && (src n || (fd n).any op)):=by
  intro n
  have h1:(2 * n) % 2=0:=by omega
  have h2:(2 * n) / 2=n:=by omega
  simp only [S,h1,h2,if_pos]
 have So:∀ n,S (some (2 * n + 1))=(low n && op n):=by
  intro n
  have h1:¬ (2 * n + 1) % 2=0:=by omega
  have h2:(2 * n + 1) / 2=n:=by omega
  simp only [S,h2,if_neg h1]
 have c:=F.cut S (by
  intro u hu
  cases u with
  | none=>cases hu
  | some m =>
   unfold stS at hu
   simp only [Bool.and_eq_true,beq_iff_eq] at hu
   obtain ⟨⟨h1,h2⟩,h3⟩:=hu
   simp only [S,h1,h2,h3,if_pos,Bool.true_or,Bool.and_self]) rfl
 have c0:0≤outS (stV ab low) W S:=by
  unfold outS
  apply zam6
  intro x; split <;> omega
 have c1:outS (stV ab low) W0 S≤(T.length:Int):=by
  unfold outS
  refine Int.le_trans (zajv (T:=fun x=>match x with | none=>false | some m=>m % 2 == 0 && T.contains (m / 2)) ?_) ?_
  ·intro x hx
   split
   ·rename_i sx
    rcases zac9.mp hx with rfl | ⟨n,hn,ln,rfl | rfl⟩
    ·cases sx
    ·have e1:(2 * n) % 2=0:=by omega
     have e2:(2 * n) / 2=n:=by omega
     simp only [e1,e2]
     by_cases ct:n∈T
     ·have:T.contains n=true:=List.contains_iff_mem.mpr ct
      rw [this]
      show _≤(1:Int)
      have le:(W0 (some (2 * n))).length≤1:=zab6 (m:=[some (2 * n + 1)]) (nd _) (by
       intro y hy
       have a:=(h _ _).mp hy
       generalize eu:some (2 * n)=u at a
       cases a <;> simp only [Option.some.injEq,reduceCtorEq] at eu
       ·rw [List.mem_singleton,Option.some.injEq]; omega
       ·omega
       ·omega)
      have:=List.countP_le_length (p:=fun y=>!S y) (l:=W0 (some (2 * n)))
      omega
     ·have z:(W0 (some (2 * n))).countP (fun y=>!S y)=0:=by
       rw [List.countP_eq_zero]
       intro y hy
       have a:=(h _ _).mp hy
       generalize eu:some (2 * n)=u at a
       cases a <;> simp only [Option.some.injEq,reduceCtorEq] at eu
       ·rename_i m lm
        have:m=n:=by omega
        subst this
        rw [Se,ln] at sx
        simp only [Bool.true_and,Bool.or_eq_true,List.any_eq_true] at sx
        rw [So,ln,ho m hn (G.lo m ln).2 ct sx]; simp
       ·omega
       ·omega
      rw [z]; exact zajw _
    ·have z:(W0 (some (2 * n + 1))).countP (fun y=>!S y)=0:=by
      rw [List.countP_eq_zero]
      intro y hy
      have a:=(h _ _).mp hy
      rw [So,ln] at sx
      generalize eu:some (2 * n + 1)=u at a
      cases a <;> simp only [Option.some.injEq,reduceCtorEq] at eu
      ·omega
      ·rename_i f m lf lm mf
       have:f=n:=by omega
       subst this
       have:(fd m).any op=true:=List.any_eq_true.mpr ⟨f,mf,by simpa using sx⟩
       rw [Se,lm,this]; simp
      ·rename_i f m lf lm hm mf
       have:f=n:=by omega
       subst this
       exact absurd ⟨f,mf,by simpa using sx⟩ (high _ m hm (Nat.le_refl _) lm)
     rw [z]; exact zajw _
   ·exact zajw _
  ·have:=zab6 (l:=(stV ab low).filter fun x=>match x with | none=>false | some m=>m % 2 == 0 && T.contains (m / 2)) (m:=T.map fun n=>some (2 * n)) ((zam8 G.nd).filter _) (by
    intro x hx
    rw [List.mem_filter] at hx
    obtain ⟨h1,h2⟩:=hx
    cases x with
    | none=>cases h2
    | some m =>
     simp only [Bool.and_eq_true,beq_iff_eq,List.contains_iff_mem] at h2
     rw [List.mem_map]
     refine ⟨m / 2,h2.2,?_⟩
     rw [Option.some.injEq]; omega)
   rw [List.length_map] at this
   omega
 omega
end
end L2

namespace L2
section
variable {α:Type} [DecidableEq α]
structure CmT (W:α→List α) (st:List α) (C:List (α × Option α)) (wt:List α):Prop where
 nd:(C.map Prod.fst).Nodup
 sts:∀ s∈st,(s,none)∈C
 nn:∀ x,(x,none)∈C→x∈st
 pr:∀ (i:Nat) (x p:α),C[i]?=some (x,some p)→x∈W p∧∃ (j:Nat) (q:Option α),j < i∧C[j]?=some (p,q)
 wts:∀ x∈wt,x∈C.map Prod.fst
def ClT (W:α→List α) (C:List (α × Option α)) (wt:List α):Prop:=∀ x∈C.map Prod.fst,x ∉ wt→∀ y∈W x,y∈C.map Prod.fst
theorem CmT.first {W:α→List α}{st:List α} (nd:st.Nodup):CmT W st (st.map fun s=>(s,none)) st where
 nd:=by rw [List.map_map]; simpa [Function.comp_def] using nd
 sts s hs:=List.mem_map.mpr ⟨s,hs,rfl⟩
 nn x hx:=by
  obtain ⟨s,hs,e⟩:=List.mem_map.mp hx
  cases e; exact hs
 pr i x p h:=by
  rw [List.getElem?_map] at h
  cases e:st[i]? with
  | none=>rw [e] at h; cases h
  | some y=>rw [e] at h; cases h
 wts x hx:=by rw [List.map_map]; simpa [Function.comp_def] using hx
theorem ClT.first {W:α→List α}{st:List α}:ClT W (st.map fun s=>(s,none)) st:=by
 intro x hx hn
 rw [List.map_map] at hx
 exact absurd (by simpa [Function.comp_def] using hx) hn
theorem CmT.more {W:α→List α}{st wt:List α}{C:List (α × Option α)} (h:CmT W st C wt) {v y:α} (hv:v∈C.map Prod.fst) (hy:y∈W v) (ny:y ∉ C.map Prod.fst):CmT W st (C++[(y,some v)]) (wt++[y]) where
 nd:=by
  rw [List.map_append,List.nodup_append]
  refine ⟨h.nd,by simp,?_⟩
  intro a ha b hb e
  simp only [List.map_cons,List.map_nil,List.mem_singleton] at hb
  subst hb; subst e; exact ny ha
 sts s hs:=List.mem_append_left _ (h.sts s hs)
 nn x hx:=by
  rcases List.mem_append.mp hx with z | z
  ·exact h.nn x z
  ·simp at z
 pr i x p e:=by
  by_cases l:i < C.length
  ·rw [List.getElem?_append_left l] at e
   obtain ⟨a,j,q,jl,k⟩:=h.pr i x p e
   exact ⟨a,j,q,jl,by rw [List.getElem?_append_left (by omega)]; exact k⟩
  ·rw [List.getElem?_append_right (by omega)] at e
   cases hi:i - C.length with
   | zero =>
    rw [hi] at e
    simp only [List.getElem?_cons_zero,Option.some.injEq,Prod.mk.injEq] at e
    obtain ⟨rfl,rfl⟩:=e
    obtain ⟨⟨a,q⟩,m,rfl⟩:=List.mem_map.mp hv
    obtain ⟨j,jl,k⟩:=List.getElem_of_mem m
    exact ⟨hy,j,q,by omega,by rw [List.getElem?_append_left jl,List.getElem?_eq_getElem jl,k]⟩
   | succ n=>rw [hi] at e; simp at e
 wts x hx:=by
  rw [List.map_append]
  rcases List.mem_append.mp hx with z | z
  ·exact List.mem_append_left _ (h.wts x z)
  ·rw [List.mem_singleton] at z; subst z; simp
theorem CmT.drop {W:α→List α}{st wt:List α}{v:α}{C:List (α × Option α)} (h:CmT W st C (wt++[v])):CmT W st C wt∧v∈C.map Prod.fst :=
 ⟨⟨h.nd,h.sts,h.nn,h.pr,fun x hx=>h.wts x (List.mem_append_left _ hx)⟩,h.wts v (by simp)⟩
theorem zaqb {l:List α} (nd:l.Nodup) {i j:Nat} (hi:i < l.length) (hj:j < l.length) (e:l[i]=l[j]):i=j:=by
 have p:=List.pairwise_iff_getElem.mp nd
 rcases Nat.lt_trichotomy i j with z | z | z
 ·exact absurd e (p i j hi hj z)
 ·exact z
 ·exact absurd e.symm (p j i hj hi z)
def rkT (C:List (α × Option α)) (x:α):Nat:=(C.map Prod.fst).findIdx fun y=>decide (y=x)
theorem zaqc {C:List (α × Option α)} (nd:(C.map Prod.fst).Nodup) {i:Nat}{x:α}{q:Option α} (h:C[i]?=some (x,q)):rkT C x=i:=by
 have l:i < (C.map Prod.fst).length:=by
  rw [List.length_map]; exact (List.getElem?_eq_some_iff.mp h).1
 have e:(C.map Prod.fst)[i]=x:=by
  have:=congrArg (Option.map Prod.fst) h
  rw [← List.getElem?_map] at this
  rw [List.getElem?_eq_getElem l] at this
  simpa using this
 unfold rkT
 rw [List.findIdx_eq l]
 refine ⟨by rw [e]; simp,fun j jl=>?_⟩
 apply decide_eq_false
 intro z
 have:j=i:=zaqb nd (by omega) l (by rw [z,e])
 omega
theorem CmT.rank {W:α→List α}{st wt:List α}{C:List (α × Option α)} (h:CmT W st C wt) {x p:α} (m:(x,some p)∈C):x∈W p∧p∈C.map Prod.fst∧rkT C p < rkT C x:=by
 obtain ⟨i,il,e⟩:=List.getElem_of_mem m
 have e1:C[i]?=some (x,some p):=by rw [List.getElem?_eq_getElem il,e]
 obtain ⟨a,j,q,jl,k⟩:=h.pr i x p e1
 refine ⟨a,List.mem_map.mpr ⟨(p,q),List.mem_of_getElem? k,rfl⟩,?_⟩
 rw [zaqc h.nd e1,zaqc h.nd k]
 exact jl
theorem CmT.all {W:α→List α}{st:List α}{C:List (α × Option α)} (h:CmT W st C []) (c:ClT W C []) :
  (∀ u∈st,u∈C.map Prod.fst)∧(∀ u,u∈C.map Prod.fst→∀ v∈W u,v∈C.map Prod.fst)∧(∀ v,v∈C.map Prod.fst→v∈st∨∃ p,p∈C.map Prod.fst∧v∈W p):=by
 refine ⟨fun u hu=>List.mem_map.mpr ⟨_,h.sts u hu,rfl⟩,fun u hu v hv=>c u hu (by simp) v hv,fun v hv=>?_⟩
 obtain ⟨⟨x,q⟩,m,rfl⟩:=List.mem_map.mp hv
 cases q with
 | none=>exact .inl (h.nn x m)
 | some p =>
  obtain ⟨a,b,_⟩:=h.rank m
  exact .inr ⟨p,b,a⟩
end
def setsN (l:List Nat):List (List Nat):=l.foldl (fun f x=>f++(f.filter fun s=>decide (s.length < 4)).map fun s=>s++[x]) [[]]
theorem zaej (l:List Nat):∀ s,s∈setsN l↔s.Sublist l∧s.length≤4:=by
 have key:∀ (l a:List Nat) (f:List (List Nat)),(∀ s,s∈f↔s.Sublist a∧s.length≤4)→∀ s,s∈l.foldl (fun f x=>f++(f.filter fun s=>decide (s.length < 4)).map fun s=>s++[x]) f↔s.Sublist (a++l)∧s.length≤4:=by
  intro l
  induction l with
  | nil=>intro a f h s; rw [List.append_nil]; exact h s
  | cons x l ih =>
   intro a f h s
   rw [List.foldl_cons,ih (a++[x]) _ ?_ s,List.append_assoc]; rfl
   intro s
   rw [List.mem_append,List.mem_map,h]
   constructor
   ·rintro (⟨h1,h2⟩ | ⟨t,ht,rfl⟩)
    ·exact ⟨h1.trans (List.sublist_append_left _ _),h2⟩
    ·rw [List.mem_filter,h] at ht
     obtain ⟨⟨h1,_⟩,h3⟩:=ht
     refine ⟨h1.append (List.Sublist.refl _),?_⟩
     have:=of_decide_eq_true h3
     simp; omega
   ·rintro ⟨h1,h2⟩
    obtain ⟨t,u,rfl,ht,hu⟩:=List.sublist_append_iff.mp h1
    rcases u with _ | ⟨y,u⟩
    ·rw [List.append_nil] at h2 ⊢; exact .inl ⟨ht,h2⟩
    ·have hu':=hu.length_le
     have:u=[]:=by
      cases u with
      | nil=>rfl
      | cons z u=>simp at hu'
     subst this
     have:=hu.subset (List.mem_singleton.mpr rfl)
     rw [List.mem_singleton] at this
     subst this
     refine .inr ⟨t,?_,rfl⟩
     rw [List.mem_filter,h]
     simp at h2
     exact ⟨⟨ht,by omega⟩,decide_eq_true (by omega)⟩
 intro s
 have:=key l [] [[]] (by
  intro s
  rw [List.mem_singleton]
  constructor
  ·rintro rfl; exact ⟨List.Sublist.refl _,by simp⟩
  ·rintro ⟨h,_⟩; exact List.sublist_nil.mp h) s
 rw [List.nil_append] at this
 exact this
end L2

namespace L2
open PySem PySem.W PyProof.Rows
theorem zanb {X:Cx}{o e:Expr}{apos cpos:Pos}{td ty:TE} (ho:Pr (PE X o td)) (he:Pr (PE X e ty)) (m:M1 X o "pop" apos e cpos:=by exact ⟨rfl,rfl,rfl,rfl⟩):Pr (PE X (.Call (.Attribute o "pop" apos) [e] [] cpos) (tDPop1 td ty)):=⟨zaoy ho.h he.h m⟩
end L2

namespace L2
open PySem PySem.Spec PyProof.Rows PySem.SeqAt
section
variable {prog:Program}{w:World}{A:Around}{E:Value→Shared→Prop}{s:Shared}{I:Addr}{fp wr:List Addr}{G:Array GenState→Array GenState→Prop}{n:Nat}{P:Nat→Value→Prop}{St:Nat→Shared→Prop}{R:Result→Shared→Prop}
theorem zar8 (Wk:WalksS prog w A.in1 I fp wr G n P St) (hT:∀ i s,St i s→s.TypeIs (.ref I) "list_reverseiterator") (S:Addr) (c0:Nat) (hst:St 0 s) (nS:S ∉ fp) (hI:I∈fp) (hS:s.heap.get? S=some { cls:=.type "list",data:=.seq #[] c0 }) (hn:n≤sizeLine)
  (q:∀ s' acc c',Moved (S :: wr) G s s'→s'.heap.get? S=some { cls:=.type "list",dict:=none,data:=.seq acc c',slots:=#[] }→ItemsOf P acc n→R (.ok (.ret .none)) s') :
  wpAny (model prog w) A.in1 (Builtin.List.listExtendWith (.ref S) (.ref I) .none)
   (fun fin t=>match fin with | .done f=>R (.ok f) t | .again c'=>c'.quiet=true∧codeAny (model prog w) A c' R t) (fun e t=>R (.error e) t) s:=by
 have nI:S≠I:=fun e=>nS (e ▸ hI)
 unfold Builtin.List.listExtendWith
 refine wpAny_bind (wpAny_typeOf (hT 0 _ hst) ?_)
 have e1:Builtin.List.listSameRef (.ref S) (.ref I)=false:=by simp [Builtin.List.listSameRef,nI]
 have e2:(Value.type "list_reverseiterator" == Value.type "list")=false:=by decide
 have e3:(Value.type "list_reverseiterator" == Value.type "tuple")=false:=by decide
 simp only [e1,e2,e3,Bool.or_false,Bool.false_eq_true,if_false]
 refine wpAny_bind (Wk.self 0 _ _ _ hst ?_)
 refine wpAny_bind (wpAny_holding (zajq (hT 0 _ hst) ?_))
 (try rw [if_neg (by decide)])
 refine wpAny_pure ⟨plainId_quiet F.plain_extend_loop _,codeAny_extend_loopS Wk hn _ nS _ n 0 _ _ _ rfl (Nat.zero_le _) hst hS (ItemsOf.nil P) fun s' acc c' hm hS' ha=>?_⟩
 exact q s' acc c' hm hS' ha
theorem zapk (Wk:WalksS prog w A.in1 I fp wr G n P St) (hT:∀ i s,St i s→s.TypeIs (.ref I) "list_reverseiterator") (S:Addr) (hst:St 0 s) (nS:S ∉ fp) (hI:I∈fp) (hS:s.heap.get? S=some { cls:=.type "list",data:=.seq #[] }) (hn:n≤sizeLine)
  (q:∀ s' acc c',Moved (S :: wr) G s s'→s'.heap.get? S=some { cls:=.type "list",dict:=none,data:=.seq acc c',slots:=#[] }→ItemsOf P acc n→R (.ok (.ret .none)) s') :
  wpAny (model prog w) A.in1 (Builtin.«list.__init__» ⟨[.ref S,.ref I],[]⟩)
   (fun fin t=>match fin with | .done f=>R (.ok f) t | .again c'=>c'.quiet=true∧codeAny (model prog w) A c' R t) (fun e t=>R (.error e) t) s:=by
 refine wpAny_bind (?_:wpAny _ A.in1 (Builtin.List.listItems (.ref S)) _ _ s)
 unfold Builtin.List.listItems
 refine wpAny_bind (wpAny_seqItems hS rfl (wpAny_pure ?_))
 refine wpAny_bind (?_:wpAny _ A.in1 (updateSeq S (fun _=>#[])) _ _ s)
 refine wpAny_updateSeq hS rfl ?_
 have h2:=Heap.get?_update_self (Obj.mapSeq (fun _=>(#[]:Array Value))) hS rfl
 have oth:∀ d o,d≠S→s.heap.get? d=some o→(s.heap.update S (Obj.mapSeq (fun _=>(#[]:Array Value)))).get? d=some o:=fun d o hd e=>(Heap.get?_update_other _ _ (Ne.symm hd)).trans e
 refine wpAny_bind (wpAny_letGo ?_)
 refine zar8 Wk hT S _ (Wk.frame 0 s _ s.toks hst (Nat.le_refl _) fun d hd o e=>oth d o (fun z=>nS (z ▸ hd)) e) nS hI h2 hn fun s' acc c' hm hS' ha=>?_
 exact q s' acc c' (Moved.trans Wk.gtrans ((Moved.refl Wk.grefl).then_heap (Nat.le_refl _) fun d o hd e=>oth d o (fun z=>hd (z ▸ List.mem_cons_self)) e) hm) hS' ha
theorem zaho {Q:Value→Shared→Prop} (Wk:WalksS prog w A.in1.in1 I fp wr G n P St) (hT:∀ i s,St i s→s.TypeIs (.ref I) "list_reverseiterator") (hst:St 0 s) (hfp:∀ b∈fp,b < s.heap.objs.size) (hI:I∈fp) (hn:n≤sizeLine)
  (q:∀ s' acc c',Moved (s.heap.objs.size :: wr) G { s with heap:=s.heap.push { cls:=.type "list",data:=.seq #[] } } s'→s'.heap.get? s.heap.objs.size=some { cls:=.type "list",dict:=none,data:=.seq acc c',slots:=#[] }→ItemsOf P acc n→Q (.ref s.heap.objs.size) s') :
  wpAny (model prog w) A (call (.type "list") [.ref I]) Q E s:=by
 have nS:s.heap.objs.size ∉ fp:=fun z=>Nat.lt_irrefl _ (hfp _ z)
 refine callType_codes (Q₁:=fun ob t=>ob=.ref s.heap.objs.size∧t={ s with heap:=s.heap.push { cls:=.type "list",data:=.seq #[] } }) F.called_list (F.typeCall_list_1 _) F.entry_list_init (code_list_new _ ⟨rfl,rfl⟩) fun ob t z=>?_
 obtain ⟨rfl,rfl⟩:=z
 have g:(s.heap.push { cls:=.type "list",data:=.seq #[] }).get? s.heap.objs.size=some { cls:=.type "list",data:=.seq #[] }:=Heap.get?_push_size _ rfl
 refine ⟨⟨_,g,rfl⟩,F.args_list_init_2 _ _,zapk Wk hT _ (Wk.frame 0 s _ s.toks hst (Nat.le_refl _) fun d _ o e=>Heap.get?_push_of_some _ e) nS hI g hn fun s' acc c' hm hS' ha=>⟨rfl,q s' acc c' hm hS' ha⟩⟩
end
section
variable {X:Cx}
def tLRv (K:PySem.W.Frag) (ta:TA):TE:=fun σ H Q=>ta σ H fun vs H1=>∃ a xs,vs=[.ref a]∧SqL K H1 a xs∧∀ D,H1 D=none→Q (.ref D) (upd H1 D (.lst xs.reverse))
theorem zajx {a:Expr}{ta:TA}{p1 p2 p3 p4:Pos} (hc:X.calm=true) (hgt:Gl X "list") (hmt:X.mg "list" = none) (hgr:Gl X "reversed") (hmr:X.mg "reversed" = none) (ha:Pr (PA X [a] ta))
  (hs:starEach [a] X.env=[(false,eval a X.env)]:=by rfl) (hsz:starEach [.Call (.Name "reversed" p2) [a] [] p3] X.env=[(false,eval (.Call (.Name "reversed" p2) [a] [] p3) X.env)]:=by rfl) :
  Pr (PE X (.Call (.Name "list" p1) [.Call (.Name "reversed" p2) [a] [] p3] [] p4) (tLRv X.K ta)):=by
 refine ⟨?_⟩
 intro pins s σ H Q I h
 refine Call_ (zad9 I hgt hmt PyProof.Rows.Boot.«list» (PyProof.Rows.callWith_type1 ?_ hsz rfl))
 rw [hsz]
 refine Calls.spliced_cons ?_
 refine Call_ (zad9 I hgr hmr zahl (PyProof.Rows.callWith_type1 (thn (ha.h p3 pins s σ H _ I h) fun us s1 ⟨vs,H1,I1,r1,q1⟩=>?_) hs rfl))
 obtain ⟨a',xs,e,qx,q⟩:=q1
 subst e
 obtain ⟨u,rfl,ru⟩:=vals1 r1
 cases ru
 obtain ⟨its,rv,p,hz⟩:=I1.list qx
 have hl:=rv.length
 have hh:X.A.handled=none:=I.ok.hd hc
 refine call_reversed_list p.isList (Calls.spliced_nil ?_)
 have lt:a' < s1.heap.objs.size:=by obtain ⟨_,e,_⟩:=p.isList; exact Heap.lt_size e
 have ne:a'≠s1.heap.objs.size:=Nat.ne_of_lt lt
 have k1:∀ b o,s1.heap.get? b=some o→(s1.heap.push (revObj a' ((its.toArray.size:Int) - 1))).get? b=some o:=fun b o e=>Heap.get?_push_of_some _ e
 have g0:(s1.heap.push (revObj a' ((its.toArray.size:Int) - 1))).IsRevIter s1.heap.objs.size a' ((its.toArray.size:Int) - 1):=⟨_,Heap.get?_push_size _ rfl,rfl,rfl⟩
 have gl:(s1.heap.push (revObj a' ((its.toArray.size:Int) - 1))).IsList a' its.toArray:=p.isList.at fun o e=>k1 a' o e
 have sz:=Heap.lt_size (show (s1.heap.push (revObj a' ((its.toArray.size:Int) - 1))).get? s1.heap.objs.size=some _ from Heap.get?_push_size _ rfl)
 refine zaho (s:={ s1 with heap:=s1.heap.push (revObj a' ((its.toArray.size:Int) - 1)) }) (Walks.listRev (A:=X.A.in1.in1) hh s1.heap.objs.size a' ne its.toArray).toS (fun i t st=>st.2.1.typeIs) ⟨Nat.zero_le _,?_,gl⟩ ?_ (by simp) (by simp; omega) fun s' acc c' hm hS' ha=>?_
 ·have e0:(its.toArray.size:Int) - 1 - ((0:Nat):Int)=(its.toArray.size:Int) - 1:=by omega
  rw [e0]
  exact g0
 ·intro b hb
  rcases List.mem_cons.mp hb with e | e
  ·rw [e]; exact sz
  ·rw [List.mem_singleton.mp e]; exact Nat.lt_trans lt sz
 ·have es:s'={ s1 with heap:=s'.heap,toks:=s'.toks }:=by
   obtain ⟨x1,x2,x3,x4,x5⟩:=s'
   have z1:=hm.gens
   have z2:=hm.drawn
   have z3:=hm.os
   simp only at z1 z2 z3
   subst z1 z2 z3
   rfl
  have kp:∀ b o,s1.heap.get? b=some o→s'.heap.get? b=some o:=fun b o e=>hm.heap b o (by
   intro z
   have l1:=Heap.lt_size e
   rcases List.mem_cons.mp z with z | z
   ·exact absurd z (Nat.ne_of_lt (Nat.lt_trans l1 sz))
   ·exact absurd (List.mem_singleton.mp z) (Nat.ne_of_lt l1)) (Heap.get?_push_of_some _ (k1 b o e))
  have ea:acc.toList=its.reverse:=by
   refine List.ext_getElem? fun i=>?_
   by_cases hi:i < its.length
   ·have hi2:i < acc.size:=by rw [ha.1]; simpa using hi
    have g:=ha.2 i _ (Array.getElem?_eq_getElem hi2)
    rw [List.getElem?_reverse hi,Array.getElem?_toList,Array.getElem?_eq_getElem hi2,← g]
    simp
   ·have h0:acc.toList.length=its.length:=by rw [Array.length_toList,ha.1]; simp
    rw [List.getElem?_eq_none (by omega),List.getElem?_eq_none (by rw [List.length_reverse]; omega)]
  have ev:acc=its.reverse.toArray:=by rw [← ea]
  rw [es]
  have le:s1.heap.objs.size≤(s1.heap.push (revObj a' ((its.toArray.size:Int) - 1))).objs.size:=Nat.le_of_lt sz
  refine ⟨.ref _,_,I1.laid (t':=s'.toks) kp le (show ObjOk X.prog X.w _ s'.heap _ (.lst xs.reverse) from ⟨by simpa using hz,its.reverse,c',rv.reverse,?_⟩),rfl,q _ (I1.hok.fresh le)⟩
  rw [← ev]
  exact hS'
end
end L2

namespace B17
open PySem L2 PyProof PyProof.Rows
section
variable {prog:Program}{w:World}{A:Around}{R:Result→Shared→Prop}{I l S:Addr}{its:Array Value}{ns:Nat→Int}{kw:List (Str × Value)}
theorem zat2 {s:Shared}{Q:Value→Shared→Prop}{E:Value→Shared→Prop}{x M:Int}{t u:Tok} (h:Q (.bool (decide (x > M))) s):wpAny (model prog w) A (richCompare .Gt (.int x t) (.int M u)) Q E s :=
 CmpOf.ints_gt (P:=fun i v=>∃ t,v=.int ([x,M].getD i 0) t) (fun i=>[x,M].getD i 0) (fun _ _ h=>h) 0 1 _ _ s Q E ⟨t,rfl⟩ ⟨u,rfl⟩ h
theorem zahp:(toString "max" ++ toString ".loop" : String) = "max.loop" := by decide
theorem zar9 (hh:A.handled=none) (hlI:l≠I) (sI:S≠I) (sl:S≠l) (hv:∀ i v,its[i]?=some v→∃ t,v=Value.int (ns i) t) :
  ∀ (r j:Nat) (s:Shared) (M:Int) (t u:Tok) (c:Nat),its.size - j=r→j≤its.size→s.heap.IsListIter I l j∧s.heap.IsList l its →
   s.heap.get? S=some { cls:=.type "list",dict:=none,data:=.seq #[.int M t,.int M u] c,slots:=#[] }→(∃ i,i < j∧ns i=M)→(∀ i,i < j→ns i≤M) →
   (∀ (N:Int) (t:Tok) h' tk,(∃ i,i < its.size∧ns i=N)→(∀ i,i < its.size→ns i≤N)→(∀ b o,b≠I→b≠S→s.heap.get? b=some o→h'.get? b=some o)→R (.ok (.ret (.int N t))) { s with heap:=h',toks:=tk }) →
   codeAny (model prog w) A (.builtin "max.loop" ⟨[.ref I,.none,.ref S],kw⟩) R s:=by
 have W:=Walks.list (prog:=prog) (w:=w) (A:=A.in1) hh I l hlI its
 intro r
 induction r with
 | zero =>
  intro j s M t u c hr hj st gS ex le q
  have ej:j=its.size:=by omega
  subst ej
  refine codeAny_builtin PySem.F.entry_max_loop ?_
  rw [Around.under_plainId PySem.F.plain_max_loop _]
  show wpAny (model prog w) A.in1 (seqItems? (.ref S) >>= _) _ _ s
  refine wpAny_bind (wpAny_seqItems gS rfl ?_)
  show wpAny (model prog w) A.in1 (tryCatch (pyNext (.ref I)) _ >>= _) _ _ s
  refine wpAny_bind (wpAny_tryCatch (W.done s _ _ st fun h' tk k=>?_))
  have g1:=k S _ (by simpa using sI) gS
  show wpAny (model prog w) A.in1 (updateSeq S (fun _=>#[]) >>= _) _ _ _
  refine wpAny_bind (wpAny_updateSeq g1 rfl (wpAny_bind (wpAny_letGo (wpAny_pure ?_))))
  exact q M t _ tk ex le fun b o n1 n2 e=>(Heap.get?_update_other _ _ (Ne.symm n2)).trans (k b o (by simpa using n1) e)
 | succ r ih =>
  intro j s M t u c hr hj st gS ex le q
  have lt:j < its.size:=by omega
  refine codeAny_builtin PySem.F.entry_max_loop ?_
  rw [Around.under_plainId PySem.F.plain_max_loop _]
  show wpAny (model prog w) A.in1 (seqItems? (.ref S) >>= _) _ _ s
  refine wpAny_bind (wpAny_seqItems gS rfl ?_)
  show wpAny (model prog w) A.in1 (tryCatch (pyNext (.ref I)) _ >>= _) _ _ s
  refine wpAny_bind (wpAny_tryCatch (W.item j s _ _ lt st fun v h' tk hP st' k=>?_))
  obtain ⟨t1,rfl⟩:=hv j v hP
  have g1:=k S _ (by simpa using sI) gS
  show wpAny (model prog w) A.in1 (tryCatch (holding [Value.int (ns j) t1,Value.int (ns j) t1] (richCompare .Gt (.int (ns j) t1) (.int M u) >>= _)) _ >>= _) _ _ _
  refine wpAny_bind (wpAny_tryCatch (wpAny_holding (wpAny_bind (zat2 ?_))))
  refine wpAny_bind (wpAny_holding (wpAny_truthy_bool ?_))
  refine wpAny_bind (wpAny_letGo (wpAny_pure ?_))
  by_cases gt:ns j > M
  ·rw [decide_eq_true gt]
   simp only [if_true]
   refine wpAny_bind (wpAny_updateSeq g1 rfl (wpAny_bind (wpAny_letGo ?_)))
   rw [zahp]
   refine wpAny_pure ⟨plainId_quiet PySem.F.plain_max_loop _,ih (j + 1) _ (ns j) t1 t1 _ (by omega) lt (W.frame _ _ _ st' fun b hb o e=>?_) (Heap.get?_update_self _ g1 rfl) ⟨j,by omega,rfl⟩ (fun i hi=>?_) fun N t2 h2 tk2 a1 a2 k2=>?_⟩
   ·refine (Heap.get?_update_other _ _ ?_).trans e
    rintro rfl
    simp at hb
    exact hb.elim sI sl
   ·by_cases z:i=j
    ·rw [z]; exact Int.le_refl _
    ·have:=le i (by omega); omega
   ·exact q N t2 h2 tk2 a1 a2 fun b o n1 n2 e=>k2 b o n1 n2 ((Heap.get?_update_other _ _ (Ne.symm n2)).trans (k b o (by simpa using n1) e))
  ·rw [decide_eq_false gt]
   simp only [Bool.false_eq_true,if_false]
   refine wpAny_bind (wpAny_letGo ?_)
   rw [zahp]
   refine wpAny_pure ⟨plainId_quiet PySem.F.plain_max_loop _,ih (j + 1) _ M t u c (by omega) lt st' g1 (ex.imp fun i h=>⟨by omega,h.2⟩) (fun i hi=>?_) fun N t2 h2 tk2 a1 a2 k2=>?_⟩
   ·by_cases z:i=j
    ·rw [z]; omega
    ·exact le i (by omega)
   ·exact q N t2 h2 tk2 a1 a2 fun b o n1 n2 e=>k2 b o n1 n2 (k b o (by simpa using n1) e)
theorem zapl (hh:A.handled=none) (hlI:l≠I) (sI:S≠I) (sl:S≠l) (hv:∀ i v,its[i]?=some v→∃ t,v=Value.int (ns i) t) (hn:0 < its.size) {s:Shared}{c:Nat} (st:s.heap.IsListIter I l 0∧s.heap.IsList l its)
  (gS:s.heap.get? S=some { cls:=.type "list",dict:=none,data:=.seq #[] c,slots:=#[] })
  (q:∀ (N:Int) (t:Tok) h' tk,(∃ i,i < its.size∧ns i=N)→(∀ i,i < its.size→ns i≤N)→(∀ b o,b≠I→b≠S→s.heap.get? b=some o→h'.get? b=some o)→R (.ok (.ret (.int N t))) { s with heap:=h',toks:=tk }) :
  codeAny (model prog w) A (.builtin "max.loop" ⟨[.ref I,.none,.ref S],kw⟩) R s:=by
 have W:=Walks.list (prog:=prog) (w:=w) (A:=A.in1) hh I l hlI its
 refine codeAny_builtin PySem.F.entry_max_loop ?_
 rw [Around.under_plainId PySem.F.plain_max_loop _]
 show wpAny (model prog w) A.in1 (seqItems? (.ref S) >>= _) _ _ s
 refine wpAny_bind (wpAny_seqItems gS rfl ?_)
 show wpAny (model prog w) A.in1 (tryCatch (pyNext (.ref I)) _ >>= _) _ _ s
 refine wpAny_bind (wpAny_tryCatch (W.item 0 s _ _ hn st fun v h' tk hP st' k=>?_))
 obtain ⟨t1,rfl⟩:=hv 0 v hP
 have g1:=k S _ (by simpa using sI) gS
 show wpAny (model prog w) A.in1 (updateSeq S (fun _=>#[Value.int (ns 0) t1,Value.int (ns 0) t1]) >>= _) _ _ _
 refine wpAny_bind (wpAny_updateSeq g1 rfl ?_)
 rw [zahp]
 refine wpAny_pure ⟨plainId_quiet PySem.F.plain_max_loop _,zar9 hh hlI sI sl hv _ 1 _ (ns 0) t1 t1 _ rfl hn (W.frame _ _ _ st' fun b hb o e=>?_) (Heap.get?_update_self _ g1 rfl) ⟨0,by omega,rfl⟩ (fun i hi=>?_) fun N t2 h2 tk2 a1 a2 k2=>?_⟩
 ·refine (Heap.get?_update_other _ _ ?_).trans e
  rintro rfl
  simp at hb
  exact hb.elim sI sl
 ·have:i=0:=by omega
  rw [this]; exact Int.le_refl _
 ·exact q N t2 h2 tk2 a1 a2 fun b o n1 n2 e=>k2 b o n1 n2 ((Heap.get?_update_other _ _ (Ne.symm n2)).trans (k b o (by simpa using n1) e))
variable {E:Value→Shared→Prop}{s:Shared}{Q:Value→Shared→Prop}{d:Value}
theorem zapm (hn:0 < its.size) (hh:A.handled=none) (hl:s.heap.IsList l its) (hv:∀ i v,its[i]?=some v→∃ t,v=Value.int (ns i) t)
  (q1:∀ (N:Int) (t:Tok) h' tk,(∃ i,i < its.size∧ns i=N)→(∀ i,i < its.size→ns i≤N)→(∀ b o,s.heap.get? b=some o→h'.get? b=some o)→Q (.int N t) { s with heap:=h',toks:=tk }) :
  wpAny (model prog w) A (call (.builtin "max") [.ref l]) Q E s:=by
 obtain ⟨ol,hol,_⟩:=id hl
 have hll:l < s.heap.objs.size:=Heap.lt_size hol
 refine kmk_tree PySem.F.kind_max PySem.F.plain_max PySem.F.entry_max (PySem.F.args_max1 _) ?_
 show wpAny (model prog w) A.in1 (Builtin.Builtins.bindParams "max" ["key", "default"] 0 ⟨[],[]⟩ >>= _) _ _ s
 refine wpAny_bind (wpAny_of_eq (show Builtin.Builtins.bindParams "max" ["key", "default"] 0 ⟨[],[]⟩=pure [none,none] from rfl) (wpAny_bind (wpAny_pure (wpAny_bind (wpAny_pyIter_list hl (wpAny_bind (wpAny_newList ?_ (Nat.zero_le _))))))))
 rw [zahp]
 refine wpAny_pure ⟨plainId_quiet PySem.F.plain_max_loop _,?_⟩
 have hS:(s.heap.push { cls:=.type "list_iterator",data:=.fields #[.ref l,.int 0 0] }).objs.size=s.heap.objs.size + 1:=Heap.size_push ..
 have hlI:l≠s.heap.objs.size:=Nat.ne_of_lt hll
 have sI:(s.heap.push { cls:=.type "list_iterator",data:=.fields #[.ref l,.int 0 0] }).objs.size≠s.heap.objs.size:=by rw [hS]; omega
 have sl:(s.heap.push { cls:=.type "list_iterator",data:=.fields #[.ref l,.int 0 0] }).objs.size≠l:=by rw [hS]; exact Nat.ne_of_gt (Nat.lt_succ_of_lt hll)
 have keep:∀ b o,s.heap.get? b=some o→b≠s.heap.objs.size∧b≠(s.heap.push { cls:=.type "list_iterator",data:=.fields #[.ref l,.int 0 0] }).objs.size∧((s.heap.push { cls:=.type "list_iterator",data:=.fields #[.ref l,.int 0 0] }).push { cls:=.type "list",data:=.seq #[] }).get? b=some o:=fun b o e=>by
  have lt:=Heap.lt_size e
  refine ⟨Nat.ne_of_lt lt,by rw [hS]; exact Nat.ne_of_lt (Nat.lt_succ_of_lt lt),Heap.get?_push_of_some _ (Heap.get?_push_of_some _ e)⟩
 have st:((s.heap.push { cls:=.type "list_iterator",data:=.fields #[.ref l,.int 0 0] }).push { cls:=.type "list",data:=.seq #[] }).IsListIter s.heap.objs.size l 0∧((s.heap.push { cls:=.type "list_iterator",data:=.fields #[.ref l,.int 0 0] }).push { cls:=.type "list",data:=.seq #[] }).IsList l its :=
  ⟨⟨_,Heap.get?_push_of_some _ (Heap.get?_push_size _ rfl),rfl,rfl⟩,(hl.push _).push _⟩
 exact zapl hh hlI sI sl hv hn st (Heap.get?_push_size _ rfl) fun N t h' tk a1 a2 k=>q1 N t h' tk a1 a2 fun b o hb=>k b o (keep b o hb).1 (keep b o hb).2.1 (keep b o hb).2.2
end
def gr (ns:List Int):Int:=ns.foldr max 0
theorem zanc:∀ {ns:List Int}{a:Int},a∈ns→a≤gr ns
 | x :: xs,a,h=>by
  show a≤max x (gr xs)
  rcases List.mem_cons.mp h with rfl | h
  ·omega
  ·have:=zanc h; omega
theorem zasa:∀ {ns:List Int}{N:Int},0≤N→(∀ a∈ns,a≤N)→gr ns≤N
 | [],N,h,_=>h
 | x :: xs,N,h0,h=>by
  show max x (gr xs)≤N
  have h1:=h x (by simp)
  have h2:=zasa (ns:=xs) h0 fun a ha=>h a (by simp [ha])
  omega
theorem zavc {ns:List Int}{N:Int} (m:N∈ns) (h:∀ a∈ns,a≤N) (h0:∀ a∈ns,0≤a):N=gr ns:=by
 have:=zanc m
 have:=zasa (h0 N m) h
 omega
theorem zaf7:∀ {ns:List Int}{its:List Value},Vals (ns.map V.int) its→∀ (i:Nat) (v:Value),its[i]?=some v→∃ t,v=Value.int (ns.getD i 0) t
 | [],_,.nil,i,v,h=>by simp at h
 | x :: ns,_,.cons r t,0,v,h=>by obtain ⟨tk,rfl⟩:=r; exact ⟨tk,by simpa using h.symm⟩
 | x :: ns,_,.cons r t,i + 1,v,h=>zaf7 t i v (by simpa using h)
theorem zavd {ns:List Int} (h0:∀ a∈ns,0≤a) {n i:Nat} (en:n=ns.length) (hi:i < n) (a2:∀ j,j < n→ns.getD j 0≤ns.getD i 0):ns.getD i 0=gr ns:=by
 have m:ns.getD i 0∈ns:=by rw [List.getD_eq_getElem?_getD,List.getElem?_eq_getElem (by omega)]; exact List.getElem_mem _
 refine zavc m (fun a ha=>?_) h0
 obtain ⟨j,hj⟩:=List.getElem?_of_mem ha
 have h2:=a2 j (by have:=(List.getElem?_eq_some_iff.mp hj).1; omega)
 rw [List.getD_eq_getElem?_getD,hj] at h2
 exact h2
def rMax1:List V→Hp→VK→Prop:=fun xs H Q=>∃ (p:Addr) (ns:List Int),xs=[.ref p]∧H p=some (.lst (ns.map V.int))∧0 < ns.length∧(∀ a∈ns,0≤a)∧Q (.int (gr ns)) H
theorem zand {X:Cx} (hc:X.calm=true):CallR X (.builtin "max") rMax1:=by
 intro pins s σ H xs us Q I r h
 obtain ⟨p,ns,rfl,hp,hn,h0,q⟩:=h
 obtain ⟨u,rfl,ru⟩:=vals1 r
 cases ru
 obtain ⟨z,its,n,rv,e⟩:=I.hok p _ hp
 have el:its.toArray.size=ns.length:=by rw [List.size_toArray,← rv.length,List.length_map]
 refine zapm (its:=its.toArray) (ns:=fun i=>ns.getD i 0) (by omega) (I.ok.hd hc) ⟨_,e,rfl,n,rfl⟩ (fun i v hv=>zaf7 rv i v (by simpa using hv)) (fun N t h' tk a1 a2 k=>?_)
 obtain ⟨i,hi,rfl⟩:=a1
 exact ⟨.int (gr ns),H,I.kept (t':=tk) k,⟨t,by rw [← zavd h0 el hi a2]⟩,q⟩
end B17

set_option maxHeartbeats 4000000
namespace B17
open PySem L2
abbrev Vs (sc:Scope) (x:Str):Prop:=sc.names.lookup x=some NameKind.local∨sc.names.lookup x=some NameKind.cell∨sc.names.lookup x=some NameKind.free
abbrev Lc (sc:Scope) (x:Str):Prop:=sc.names.lookup x=some NameKind.local∨sc.names.lookup x=some NameKind.cell
abbrev Gi (sc:Scope) (x:Str):Prop:=sc.names.lookup x=some NameKind.globalImplicit
abbrev Nd (x:Str):Prop:=(x == ("__debug__" : Str))=false
abbrev Nc (x:Str):Prop:=(x == ("__classdict__" : Str))=false
local macro_rules | `(tactic| walk_at "few")=>`(tactic| (with_reducible show (List.length (α:=Str × V) _) < 1000); first | exact (by decide:0 < 1000) | exact (by decide:1 < 1000) | exact (by decide:2 < 1000) | exact (by decide:3 < 1000) | exact (by decide:4 < 1000) | exact (by decide:5 < 1000) | exact (by decide:6 < 1000))
local macro_rules | `(tactic| walk_at "get")=>`(tactic| first
 | with_reducible assumption
 | exact zaac
 | (apply zab5; (focus with_reducible assumption); (focus walk_at "get"))
 | (apply zabs; (focus walk_at "ne"); (focus walk_at "get"))
 | (apply Ch.get; (focus with_reducible assumption); (focus walk_at "get"); (focus walk_at "notin")))
local macro_rules | `(tactic| walk_at "ne")=>`(tactic| first | with_reducible assumption | (apply Ne.symm; with_reducible assumption) | (apply zacz; (focus with_reducible assumption); (focus with_reducible assumption); (focus (intro z; cases z))))
local macro_rules | `(tactic| walk_at "notin")=>`(tactic| first | exact List.not_mem_nil | (simp only [List.mem_cons,List.not_mem_nil,or_false,not_or,not_false_eq_true]; first | walk_at "ne" | trivial))
local macro_rules | `(tactic| walk_at "scr")=>`(tactic| first
 | with_reducible assumption
 | (apply Scr.ch; (focus with_reducible assumption); (focus with_reducible assumption); (focus walk_at "ch"))
 | (apply Scr.same; (focus with_reducible assumption); (focus walk_at "ch")))
local macro_rules | `(tactic| walk_at "ch")=>`(tactic| first
 | with_reducible assumption
 | exact Ch.refl _ _
 | exact Ch.put
 | (apply Ch.new; with_reducible assumption)
 | (apply Ch.wk; with_reducible assumption)
 | (apply Ch.own; (focus with_reducible assumption); (focus walk_at "ch"))
 | (apply Ch.trans; (rotate_left; focus with_reducible assumption); (focus walk_at "ch"))
 | (apply Ch.trans; (rotate_left; focus (apply Ch.wk; with_reducible assumption)); (focus walk_at "ch"))
 | (apply Ch.trans; (rotate_left; focus exact Ch.put); (focus walk_at "ch"))
 | (apply Ch.trans; (rotate_left; focus (apply Ch.new; with_reducible assumption)); (focus walk_at "ch")))
local macro_rules | `(tactic| walk_at "sq")=>`(tactic| first
 | (apply Scr.sq; walk_at "scr")
 | (apply Exists.intro; walk_at "sq")
 | (refine (‹∀ H:Hp,SqT _ H _ _›) _)
 | (apply SqL.of; walk_at "get")
 | (apply SqT.of; walk_at "get")
 | (apply Or.inl; apply Scr.sq; walk_at "scr")
 | (apply Or.inl; apply SqL.of; walk_at "get")
 | (apply Or.inr; apply SqT.of; walk_at "get"))
local macro_rules | `(tactic| walk_at "arith")=>`(tactic| first
 | omega
 | (simp only [List.length_map,List.length_cons,List.length_nil,List.length_append,List.length_singleton,List.length_replicate]; done)
 | ((try dsimp only); (try simp only [List.length_map,List.length_cons,List.length_nil,List.length_append,List.length_singleton,List.length_replicate,sizeLine_eq]); omega)
 | ((try dsimp only); (try simp only [List.length_map,List.length_cons,List.length_nil,List.length_append,List.length_singleton,List.length_replicate,sizeLine_eq] at *); omega))
local macro_rules | `(tactic| walk_at "cond")=>`(tactic| first
 | (refine Or.inl (And.intro ?_ ?_) <;> walk_at "arith")
 | (refine Or.inr (And.intro ?_ ?_) <;> walk_at "arith")
 | (refine And.intro ?_ (And.intro ?_ ?_) <;> walk_at "arith")
 | (refine And.intro ?_ ?_ <;> walk_at "arith"))
local macro_rules | `(tactic| walk_at "len")=>`(tactic| first
 | with_reducible assumption
 | exact len_one
 | (apply len_slice; walk_at "len")
 | (apply len_app; (focus walk_at "len"); (focus walk_at "len"))
 | exact Nat.le_refl _)
local macro_rules | `(tactic| walk_at "lens")=>`(tactic| first
 | (apply len_sum; (focus walk_at "len"); (focus walk_at "len"); (focus first | decide +kernel | walk_at "arith"))
 | (apply len_top; (focus walk_at "len"); (focus first | decide +kernel | walk_at "arith")))
local macro_rules | `(tactic| walk_at "side")=>`(tactic| first
 | with_reducible rfl | with_reducible assumption | walk_at "sq" | walk_at "get" | walk_at "scr" | walk_at "ch" | walk_at "ty" | exact TyOf.int _ | exact TyOf.str _ | (apply TyOf.tup; walk_at "get") | (apply TyOf.lst; walk_at "get") | exact TyOf.bl _ | exact TyOf.non | walk_at "few" | decide | omega | walk_at "arith" | walk_at "cond" | ((try simp only [List.length_map]); with_reducible assumption) | walk_at "lens" | (apply Or.inr; with_reducible assumption) | walk_at "user" | exact rfl | assumption)
local macro_rules | `(tactic| walk_at "ty")=>`(tactic| (refine Or.inl (And.intro rfl ?_); apply Exists.intro; walk_at "sq"))
local macro_rules | `(tactic| walk_at "user")=>`(tactic| fail)
local macro_rules | `(tactic| walk_at "rd1")=>`(tactic| first
 | apply Exists.intro
 | (refine And.intro rfl ?_)
 | (refine And.intro (show V.str _=L2.kV (Sum.inr _) from rfl) ?_)
 | (refine And.intro (show V.int _=L2.kV (Sum.inl _) from rfl) ?_)
 | (refine And.intro (L2.zao1 _ _) ?_)
 | (apply And.intro; (focus (walk_at "side"; done)))
 | apply Atx.head
 | (apply Atx.of; (focus first | exact rfl | with_reducible assumption | ((try simp only [List.length_map]); with_reducible assumption)))
 | (apply Or.inl; apply Exists.intro; (refine And.intro rfl ?_))
 | (apply Or.inr; apply Exists.intro; (refine And.intro rfl ?_))
 | (apply Or.inl; apply And.intro; (focus walk_at "sq"))
 | (apply Or.inr; apply And.intro; (focus walk_at "sq"))
 | (intro _)
 | walk_at "fin")
local macro_rules | `(tactic| walk_at "fin")=>`(tactic| first | exact rfl | (walk_at "get"; done))
local macro_rules | `(tactic| walk_at "rd")=>`(tactic| repeat walk_at "rd1")
section
def top (i:Nat):Stmt:=PySem.Challenge.pw_bitfloor_k30_layers_least.main.body.getD i (.Pass ⟨0,0,0,0⟩)
def SqX (k:SK) (H:Hp) (a:Addr) (xs:List V):Prop:=match k with
 | .list=>H a=some (.lst xs)
 | .tuple=>H a=some (.tup xs)
section
variable {P:Program}{w:World}{K:PySem.W.Frag}{mg:Str→Option Value}{base:Heap}{f:Addr}{fd:FuncData}{k:Nat}
theorem zaak:bootBuiltins "isinstance" = some (.builtin "isinstance"):=by decide +kernel
theorem zahq:bootBuiltins "bool" = some (.type "bool"):=by decide +kernel
theorem zahr:("bool" : Str) ≠ "__name__" := by decide +kernel
theorem zahs:Nd "bool" := by decide +kernel
theorem zaal:("isinstance" : Str) ≠ "__name__" := by decide +kernel
theorem zaam:Nd "isinstance" := by decide +kernel
theorem zaio:bootBuiltins "int" = some (.type "int"):=by decide +kernel
theorem zaip:("int" : Str) ≠ "__name__" := by decide +kernel
theorem zaiq:Nd "int" := by decide +kernel
theorem zajy:Nd "is_whole" := by decide +kernel
theorem zaf8:bootBuiltins "str" = some (.type "str"):=by decide +kernel
theorem zaf9:("str" : Str) ≠ "__name__" := by decide +kernel
theorem zaga:Nd "str" := by decide +kernel
theorem zaa6:("len" : Str) ≠ "__name__" := by decide +kernel
theorem zaa7:Nd "len" := by decide +kernel
theorem zab7:bootBuiltins "tuple" = some (.type "tuple"):=by decide +kernel
theorem zab8:("tuple" : Str) ≠ "__name__" := by decide +kernel
theorem zab9:Nd "tuple" := by decide +kernel
theorem zadp:Nd "is_below" := by decide +kernel
theorem zad6:Nd "FEED_COUNTS" := by decide +kernel
theorem zagb:bootBuiltins "all" = some (.builtin "all"):=by decide +kernel
theorem zagc:("all" : Str) ≠ "__name__" := by decide +kernel
theorem zagd:Nd "all" := by decide +kernel
theorem zacc:bootBuiltins "list" = some (.type "list"):=by decide +kernel
theorem zacd:("list" : Str) ≠ "__name__" := by decide +kernel
theorem zace:Nd "list" := by decide +kernel
theorem zalh:Nd "is_gate" := by decide +kernel
theorem gl4:AG (defScope (top 4)) ["isinstance", "bool", "int"]:=⟨by decide +kernel⟩
theorem av4:AF (defScope (top 4)) ["thing"]:=⟨by decide +kernel⟩
def spWhole:Sp:=fun vs H Q _=>∃ i:Int,vs=[.int i]∧Q (.bl true) H
theorem scWhole:FnScope ["thing"] ["thing"] (defScope (top 4)):=⟨rfl,rfl,rfl,by decide +kernel,rfl,by decide +kernel,by decide +kernel⟩
theorem zapn (F:Fun K "is_whole" "is_whole" (top 4) f fd) (z_isinstance:mg "isinstance" = none) (z_int:mg "int" = none) (z_bool:mg "bool" = none):FnOk P w K mg base CX0 (k + 1) f fd ["thing"] spWhole:=by
 have nd:=scWhole.nd
 refine F.ok scWhole (fun vs H Q E h=>by obtain ⟨i,rfl,_⟩:=h; rfl) (fun cdv A outer s H vs Q E hr h=>?_)
 obtain ⟨i,rfl,q⟩:=h
 refine ⟨_,(Pr.h (zaag (zaas (zaca (zaaf zaax (gl4.g 0 rfl) z_isinstance zaak (zaaa (qv av4 0 rfl) (zaaa (zaay (v:=.ty "int") (gl4.g 2 rfl) z_int zaio rfl zaip zaiq) zaab)) zaal zaam) (zact (zaft (zaaf zaax (gl4.g 0 rfl) z_isinstance zaak (zaaa (qv av4 0 rfl) (zaaa (zaay (v:=.ty "bool") (gl4.g 1 rfl) z_bool zahq rfl zahr zahs) zaab)) zaal zaam))))))),?_⟩
 (try dsimp only [cxOf])
 walk_at "rd"
 exact q
theorem av5:AF (defScope (top 5)) ["thing", "bound"]:=⟨by decide +kernel⟩
theorem gl5:AG (defScope (top 5)) ["is_whole"]:=⟨by decide +kernel⟩
def spBelow:Sp:=fun vs H Q _=>∃ i b:Int,vs=[.int i,.int b]∧0≤i∧i < b∧Q (.bl true) H
theorem scBelow:FnScope ["thing", "bound"] ["thing", "bound"] (defScope (top 5)):=⟨rfl,rfl,rfl,by decide +kernel,rfl,by decide +kernel,by decide +kernel⟩
theorem zapo (F:Fun K "is_below" "is_below" (top 5) f fd) (Dis_whole:DefOk P w K mg base CX0 k "is_whole" ["thing"] spWhole):FnOk P w K mg base CX0 (k + 1) f fd ["thing", "bound"] spBelow:=by
 have nd:=scBelow.nd
 refine F.ok scBelow (fun vs H Q E h=>by obtain ⟨i,b,rfl,_⟩:=h; rfl) (fun cdv A outer s H vs Q E hr h=>?_)
 obtain ⟨i,b,rfl,h0,h1,q⟩:=h
 refine ⟨_,(Pr.h (zaag (zaas (zaca (zaap Dis_whole hr (gl5.g 0 rfl) pass0 (zaaa (qv av5 0 rfl) zaab zaae) zajy) (zact (zaml zati zaoj zaad (qv av5 0 rfl) (qv av5 1 rfl))))))),?_⟩
 (try dsimp only [cxOf])
 walk_at "rd"
 refine iteD h0 ?_
 walk_at "rd"
 show Q (.bl (decide (i < b))) H
 rw [decide_eq_true h1]
 exact q
end
inductive Gt where
 | inp | zero | one
 | keep (f:Int) (a:Nat)
 | not (a:Nat)
 | and (a b:Nat)
 | or (a b:Nat)
 | xor (a b:Nat)
 | pick (a b c:Nat)
deriving DecidableEq
def Gt.vs:Gt→List V
 | .inp=>[.str "in"]
 | .zero=>[.str "zero"]
 | .one=>[.str "one"]
 | .keep f a=>[.str "keep",.int f,.int a]
 | .not a=>[.str "not",.int a]
 | .and a b=>[.str "and",.int a,.int b]
 | .or a b=>[.str "or",.int a,.int b]
 | .xor a b=>[.str "xor",.int a,.int b]
 | .pick a b c=>[.str "pick",.int a,.int b,.int c]
def Gt.ok (i n:Nat):Gt→Prop
 | .inp=>True
 | .zero=>True
 | .one=>True
 | .keep f a=>0≤f∧f < 2∧a < n
 | .not a=>a < i
 | .and a b=>a < i∧b < i
 | .or a b=>a < i∧b < i
 | .xor a b=>a < i∧b < i
 | .pick a b c=>a < i∧b < i∧c < i
structure Gs (H:Hp) (gs:List Gt) (xs:List V):Prop where
 len:xs.length=gs.length
 at_:∀ (i:Nat) (g:Gt),gs[i]?=some g→∃ p,xs[i]?=some (.ref p)∧H p=some (.tup g.vs)
theorem Gs.tu {H H':Hp}{gs:List Gt}{xs:List V} (h:Gs H gs xs) (t:Tu H H'):Gs H' gs xs:=⟨h.len,fun i g e=>let ⟨p,a,b⟩:=h.at_ i g e; ⟨p,a,t p _ b⟩⟩
def Oks (gs:List Gt):Prop:=∀ (i:Nat) (g:Gt),gs[i]?=some g→g.ok i gs.length
def FC:List (Str × Int):=[("in",0),("zero",0),("one",0),("not",1),("and",2),("or",2),("xor",2),("pick",3)]
theorem zaci {K:PySem.W.Frag}{pt:Addr}{zs:List Int}{i:Int}{H:Hp}{Q':List V→Hp→Prop} (hz:∀ z∈zs,0≤z∧z < i) (hp:H pt=some (.tup (zs.map V.int))) (hl:zs.length < 100)
  (h:∀ ys H',Ch [] H H'→ys=List.replicate zs.length (V.bl true)→Q' ys H'):Comp (Itt K pt) (gName 0) tYes (tCall spBelow [] E0 (tCons (tVar 0) (tCons (tVar 1) tNil))) Q' [none,some (.int i)] H:=by
 refine zafg (zs.map V.int) (fun j ys σ H'=>H'=H∧ys=List.replicate j (V.bl true)∧∃ u,σ=[u,some (.int i)]) (by rw [List.length_map,sizeLine_eq]; omega) ⟨rfl,rfl,_,rfl⟩ ?_ ?_ ?_
 ·rintro j ys σ H' hj ⟨rfl,rfl,u,rfl⟩
  exact ⟨by simp,SqT.of hp⟩
 ·rintro j ys σ H' x hx ⟨rfl,rfl,u,rfl⟩
  obtain ⟨z,hz',rfl⟩:∃ z∈zs,x=.int z:=by
   rw [List.getElem?_map] at hx
   obtain ⟨z,h1,h2⟩:=Option.map_eq_some_iff.mp hx
   exact ⟨z,List.mem_of_getElem? h1,h2.symm⟩
  obtain ⟨h0,h1⟩:=hz z hz'
  exact ⟨_,rfl,_,rfl,z,i,rfl,h0,h1,rfl,by rw [← List.replicate_succ'],_,rfl⟩
 ·rintro ys σ H' ⟨rfl,rfl,_⟩
  exact h _ _ (Ch.refl _ _) (by rw [List.length_map])
section
variable {P:Program}{w:World}{K:PySem.W.Frag}{mg:Str→Option Value}{base:Heap}{f:Addr}{fd:FuncData}{k:Nat}
theorem gl8:AG (defScope (top 8)) ["isinstance", "str", "len", "tuple", "is_below", "FEED_COUNTS", "all"]:=⟨by decide +kernel⟩
theorem av8:AF (defScope (top 8)) ["thing", "ahead", "total"]:=⟨by decide +kernel⟩
def zakt:Scope:={ kind:=PySem.ScopeKind.function,names:=[ (PySem.Str.ofString ".0",PySem.NameKind.local),(PySem.Str.ofString "feed",PySem.NameKind.local),(PySem.Str.ofString "is_below",PySem.NameKind.globalImplicit),(PySem.Str.ofString "ahead",PySem.NameKind.free)],isGenerator:=false,isCoroutine:=false,more:=[]:PySem.Scope }
theorem zaqd:CompOk zakt (defScope (top 8)) (["feed"]:List Str) (["thing", "ahead", "total"]:List Str) [1] (["feed", "ahead"]:List Str):=compOk rfl (by decide +kernel) (by decide +kernel) (by decide +kernel) (by decide +kernel) rfl (by decide +kernel)
theorem zaqe:AK (relab zakt (defScope (top 8))) ["feed"]:=⟨by decide +kernel⟩
theorem zat3:AG (relab zakt (defScope (top 8))) ["is_below"]:=⟨by decide +kernel⟩
theorem zaqf:AV (relab zakt (defScope (top 8))) ["feed", "ahead"]:=⟨by decide +kernel⟩
def spGate:Sp:=fun vs H Q _=>∃ (p:Addr) (g:Gt) (i n:Nat) (i' n':Int),vs=[.ref p,.int i',.int n']∧H p=some (.tup g.vs)∧i'=(i:Int)∧n'=(n:Int)∧g.ok i n∧∀ H',Ch [] H H'→Q (.bl true) H'
theorem scGate:FnScope ["thing", "ahead", "total"] ["thing", "ahead", "total"] (defScope (top 8)):=⟨rfl,rfl,rfl,by decide +kernel,rfl,by decide +kernel,by decide +kernel⟩
theorem zasb {fa:Addr}{kvs:List (Key × V)} (F:Fun K "is_gate" "is_gate" (top 8) f fd) (Dis_below:DefOk P w K mg base CX0 k "is_below" ["thing", "bound"] spBelow)
  (m_FEED_COUNTS:mg "FEED_COUNTS" = some (.ref fa)) (hKD:KD P w K fa kvs) (hF:∀ w n,(w,n)∈FC→valV kvs (Sum.inr w)=some (.int n))
  (z_isinstance:mg "isinstance" = none) (z_tuple:mg "tuple" = none) (z_str:mg "str" = none) (z_len:mg "len" = none) (z_all:mg "all" = none):FnOk P w K mg base CX0 (k + 1) f fd ["thing", "ahead", "total"] spGate:=by
 have nd:=scGate.nd
 refine F.ok scGate (fun vs H Q E h=>by obtain ⟨p,g,i,n,i',n',rfl,_⟩:=h; rfl) (fun cdv A outer s H vs Q E hr h=>?_)
 obtain ⟨p,g,i,n,i',n',rfl,hp,rfl,rfl,hok,q⟩:=h
 refine ⟨_,(Pr.h (zaah (zaa4 (zacg (zac6 (zadx (zabj (zaaf zaax (gl8.g 0 rfl) z_isinstance zaak (zaaa (qv av8 0 rfl) (zaaa (zaay (v:=.ty "tuple") (gl8.g 3 rfl) z_tuple zab7 rfl zab8 zab9) zaab)) zaal zaam))) (zac6 (zaaq zada (zaaf zaai (gl8.g 2 rfl) z_len PySem.boot_len (zaaa (qv av8 0 rfl) zaab zaae) zaa6 zaa7) zaad (nomark _)) (zacs (zadx (zabj (zaaf zaax (gl8.g 0 rfl) z_isinstance zaak (zaaa (zaa2 zabo (qv av8 0 rfl) zaad (fun _ _=>rfl)) (zaaa (zaay (v:=.ty "str") (gl8.g 1 rfl) z_str zaf8 rfl zaf9 zaga) zaab)) zaal zaam))))))) (zaag (zaas zab1)) zaau) (zaah (zaa4 (zaaq zada (zaa2 zabo (qv av8 0 rfl) zaad (fun _ _=>rfl)) zaa1 (nomark _)) (zaag (zaas (zaca (zabu zada (zaaf zaai (gl8.g 2 rfl) z_len PySem.boot_len (zaaa (qv av8 0 rfl) zaab zaae) zaa6 zaa7) zaad (nomark _)) (zaca (zaap Dis_below hr (gl8.g 4 rfl) pass0 (zaaa (zaa2 zabo (qv av8 0 rfl) zaad (fun _ _=>rfl)) (zaaa zaad zaab zaaj) zaaw) zadp) (zact (zaap Dis_below hr (gl8.g 4 rfl) pass0 (zaaa (zaa2 zabo (qv av8 0 rfl) zaad (fun _ _=>rfl)) (zaaa (qv av8 2 rfl) zaab zaae) zaaw) zadp)))))) zaau) (zaah (zaa4 (zacg (zac6 (zaaq zahf (zaa2 zabo (qv av8 0 rfl) zaad (fun _ _=>rfl)) (zacv (v:=.ref _) (gl8.g 5 rfl) m_FEED_COUNTS rfl zad6) rfl) (zacs (zaaq zaeb (zaaf zaai (gl8.g 2 rfl) z_len PySem.boot_len (zaaa (qv av8 0 rfl) zaab zaae) zaa6 zaa7) (zaan zabv zaad (zaru (zacv (v:=.ref _) (gl8.g 5 rfl) m_FEED_COUNTS rfl zad6) (zaa2 zabo (qv av8 0 rfl) zaad (fun _ _=>rfl)) (fun _ _=>rfl))) (nomark _))))) (zaag (zaas zab1)) zaau) (zaag (zaas (zaaf (zadn rfl) (gl8.g 6 rfl) z_all zagb (zaaa (zabl rfl zaqd (zafu (zac3 zah9 (qv av8 0 rfl) (zadl zaad) zadk)) (fun _ _ _ _ _=>(zaar (i:=0) zaqd.nd rfl (Or.inl (zaqe.k 0 rfl)) (Or.inr (zaqe.k 0 rfl)))) (fun _ _ _ _ _=>zab0) (fun _ _ _ _ _=>(zaap Dis_below hr (zat3.g 0 rfl) pass0 (zaaa (qw zaqf 0 rfl) (zaaa (qw zaqf 1 rfl) zaab zaae) zaae) zadp))) zaab zabe) zagc zagd))))))),?_⟩
 (try dsimp only [cxOf])
 cases g with
 | inp =>
  have hv:=hF "in" 0 (by decide +kernel)
  have hp:H p=some (.tup [.str "in"]):=hp
  walk_at "rd"
  rw [hv]
  refine iteF ?_
  walk_at "rd"
  rename_i pt hpt
  refine zaci (zs:=[]) (by simp <;> omega) (by rw [zaac,cut1]; rfl) (by simp) fun ys H' c e=>?_
  subst e
  intro D hD
  exact ⟨D,[],rfl,zaac,q _ (((Ch.new hpt _).trans c).trans (Ch.new hD _))⟩
 | zero =>
  have hv:=hF "zero" 0 (by decide +kernel)
  have hp:H p=some (.tup [.str "zero"]):=hp
  walk_at "rd"
  rw [hv]
  refine iteF ?_
  walk_at "rd"
  rename_i pt hpt
  refine zaci (zs:=[]) (by simp <;> omega) (by rw [zaac,cut1]; rfl) (by simp) fun ys H' c e=>?_
  subst e
  intro D hD
  exact ⟨D,[],rfl,zaac,q _ (((Ch.new hpt _).trans c).trans (Ch.new hD _))⟩
 | one =>
  have hv:=hF "one" 0 (by decide +kernel)
  have hp:H p=some (.tup [.str "one"]):=hp
  walk_at "rd"
  rw [hv]
  refine iteF ?_
  walk_at "rd"
  rename_i pt hpt
  refine zaci (zs:=[]) (by simp <;> omega) (by rw [zaac,cut1]; rfl) (by simp) fun ys H' c e=>?_
  subst e
  intro D hD
  exact ⟨D,[],rfl,zaac,q _ (((Ch.new hpt _).trans c).trans (Ch.new hD _))⟩
 | not a =>
  have hv:=hF "not" 1 (by decide +kernel)
  have hp:H p=some (.tup [.str "not",.int a]):=hp
  have ha:a < i:=hok
  walk_at "rd"
  rw [hv]
  refine iteF ?_
  walk_at "rd"
  rename_i pt hpt
  refine zaci (zs:=[(a:Int)]) (by simp <;> omega) (by rw [zaac,cut1]; rfl) (by simp) fun ys H' c e=>?_
  subst e
  intro D hD
  exact ⟨D,[true],rfl,zaac,q _ (((Ch.new hpt _).trans c).trans (Ch.new hD _))⟩
 | and a b =>
  have hv:=hF "and" 2 (by decide +kernel)
  have hp:H p=some (.tup [.str "and",.int a,.int b]):=hp
  obtain ⟨ha,hb⟩:a < i∧b < i:=hok
  walk_at "rd"
  rw [hv]
  refine iteF ?_
  walk_at "rd"
  rename_i pt hpt
  refine zaci (zs:=[(a:Int),(b:Int)]) (by simp <;> omega) (by rw [zaac,cut1]; rfl) (by simp) fun ys H' c e=>?_
  subst e
  intro D hD
  exact ⟨D,[true,true],rfl,zaac,q _ (((Ch.new hpt _).trans c).trans (Ch.new hD _))⟩
 | or a b =>
  have hv:=hF "or" 2 (by decide +kernel)
  have hp:H p=some (.tup [.str "or",.int a,.int b]):=hp
  obtain ⟨ha,hb⟩:a < i∧b < i:=hok
  walk_at "rd"
  rw [hv]
  refine iteF ?_
  walk_at "rd"
  rename_i pt hpt
  refine zaci (zs:=[(a:Int),(b:Int)]) (by simp <;> omega) (by rw [zaac,cut1]; rfl) (by simp) fun ys H' c e=>?_
  subst e
  intro D hD
  exact ⟨D,[true,true],rfl,zaac,q _ (((Ch.new hpt _).trans c).trans (Ch.new hD _))⟩
 | xor a b =>
  have hv:=hF "xor" 2 (by decide +kernel)
  have hp:H p=some (.tup [.str "xor",.int a,.int b]):=hp
  obtain ⟨ha,hb⟩:a < i∧b < i:=hok
  walk_at "rd"
  rw [hv]
  refine iteF ?_
  walk_at "rd"
  rename_i pt hpt
  refine zaci (zs:=[(a:Int),(b:Int)]) (by simp <;> omega) (by rw [zaac,cut1]; rfl) (by simp) fun ys H' c e=>?_
  subst e
  intro D hD
  exact ⟨D,[true,true],rfl,zaac,q _ (((Ch.new hpt _).trans c).trans (Ch.new hD _))⟩
 | pick a b c =>
  have hv:=hF "pick" 3 (by decide +kernel)
  have hp:H p=some (.tup [.str "pick",.int a,.int b,.int c]):=hp
  obtain ⟨ha,hb,hc⟩:a < i∧b < i∧c < i:=hok
  walk_at "rd"
  rw [hv]
  refine iteF ?_
  walk_at "rd"
  rename_i pt hpt
  refine zaci (zs:=[(a:Int),(b:Int),(c:Int)]) (by simp <;> omega) (by rw [zaac,cut1]; rfl) (by simp) fun ys H' c e=>?_
  subst e
  intro D hD
  exact ⟨D,[true,true,true],rfl,zaac,q _ (((Ch.new hpt _).trans c).trans (Ch.new hD _))⟩
 | keep ff a =>
  have hp:H p=some (.tup [.str "keep",.int ff,.int a]):=hp
  obtain ⟨h1,h2,h3⟩:0≤ff∧ff < 2∧a < n:=hok
  walk_at "rd"
  exact q _ (Ch.refl _ _)
theorem av10:AF (defScope (top 10)) ["gate"]:=⟨by decide +kernel⟩
theorem gl10:AG (defScope (top 10)) ["list"]:=⟨by decide +kernel⟩
def Gt.feeds:Gt→List Nat
 | .inp=>[]
 | .zero=>[]
 | .one=>[]
 | .keep f a=>[a]
 | .not a=>[a]
 | .and a b=>[a,b]
 | .or a b=>[a,b]
 | .xor a b=>[a,b]
 | .pick a b c=>[a,b,c]
theorem freeN {H:Hp}{p r:Addr}{o:HO} (hp:H p=none) (hr:upd H p o r=none):H r=none:=by
 by_cases e:r=p
 ·rw [e]; exact hp
 ·rw [zaa0 e] at hr; exact hr
def nV (a:Nat):V:=.int (a:Int)
def spFeeds:Sp:=fun vs H Q _=>∃ (p:Addr) (g:Gt),vs=[.ref p]∧H p=some (.tup g.vs)∧∀ r H',Ch [] H H'→H r=none→H' r=some (.lst (g.feeds.map nV))→Q (.ref r) H'
theorem scFeeds:FnScope ["gate"] ["gate"] (defScope (top 10)):=⟨rfl,rfl,rfl,by decide +kernel,rfl,by decide +kernel,by decide +kernel⟩
theorem zapp (F:Fun K "feeds_of" "feeds_of" (top 10) f fd) (z_list:mg "list" = none):FnOk P w K mg base CX0 (k + 1) f fd ["gate"] spFeeds:=by
 have nd:=scFeeds.nd
 refine F.ok scFeeds (fun vs H Q E h=>by obtain ⟨p,g,rfl,_⟩:=h; rfl) (fun cdv A outer s H vs Q E hr h=>?_)
 obtain ⟨p,g,rfl,hp,q⟩:=h
 refine ⟨_,(Pr.h (zaah (zaa4 (zaaq zada (zaa2 zabo (qv av10 0 rfl) zaad (fun _ _=>rfl)) zaa1 (nomark _)) (zaag (zaas (zabc (zaaa (zaa2 zabo (qv av10 0 rfl) zaad (fun _ _=>rfl)) zaab zaaw)))) zaau) (zaag (zaas (zabp zadv (gl10.g 0 rfl) z_list zacc (zaaa (zac3 zah9 (qv av10 0 rfl) (zadl zaad) zadk) zaab zaaw) zacd zace))))),?_⟩
 (try dsimp only [cxOf])
 cases g with
 | keep ff a =>
  have hp:H p=some (.tup [.str "keep",.int ff,.int a]):=hp
  walk_at "rd"
  exact q _ _ (Ch.new (by assumption) _) (by assumption) zaac
 | inp =>
  have hp:H p=some (.tup [.str "in"]):=hp
  walk_at "rd"
  rename_i pt hpt r hr1
  exact q _ _ ((Ch.new hpt _).trans (Ch.new hr1 _)) (freeN hpt hr1) (by rw [zaac,cut1]; rfl)
 | zero =>
  have hp:H p=some (.tup [.str "zero"]):=hp
  walk_at "rd"
  rename_i pt hpt r hr1
  exact q _ _ ((Ch.new hpt _).trans (Ch.new hr1 _)) (freeN hpt hr1) (by rw [zaac,cut1]; rfl)
 | one =>
  have hp:H p=some (.tup [.str "one"]):=hp
  walk_at "rd"
  rename_i pt hpt r hr1
  exact q _ _ ((Ch.new hpt _).trans (Ch.new hr1 _)) (freeN hpt hr1) (by rw [zaac,cut1]; rfl)
 | not a =>
  have hp:H p=some (.tup [.str "not",.int a]):=hp
  walk_at "rd"
  rename_i pt hpt r hr1
  exact q _ _ ((Ch.new hpt _).trans (Ch.new hr1 _)) (freeN hpt hr1) (by rw [zaac,cut1]; rfl)
 | and a b =>
  have hp:H p=some (.tup [.str "and",.int a,.int b]):=hp
  walk_at "rd"
  rename_i pt hpt r hr1
  exact q _ _ ((Ch.new hpt _).trans (Ch.new hr1 _)) (freeN hpt hr1) (by rw [zaac,cut1]; rfl)
 | or a b =>
  have hp:H p=some (.tup [.str "or",.int a,.int b]):=hp
  walk_at "rd"
  rename_i pt hpt r hr1
  exact q _ _ ((Ch.new hpt _).trans (Ch.new hr1 _)) (freeN hpt hr1) (by rw [zaac,cut1]; rfl)
 | xor a b =>
  have hp:H p=some (.tup [.str "xor",.int a,.int b]):=hp
  walk_at "rd"
  rename_i pt hpt r hr1
  exact q _ _ ((Ch.new hpt _).trans (Ch.new hr1 _)) (freeN hpt hr1) (by rw [zaac,cut1]; rfl)
 | pick a b c =>
  have hp:H p=some (.tup [.str "pick",.int a,.int b,.int c]):=hp
  walk_at "rd"
  rename_i pt hpt r hr1
  exact q _ _ ((Ch.new hpt _).trans (Ch.new hr1 _)) (freeN hpt hr1) (by rw [zaac,cut1]; rfl)
def Gt.isIn:Gt→Bool
 | .inp=>true
 | _=>false
def Gt.isKeep:Gt→Bool
 | .keep _ _=>true
 | _=>false
end
theorem chFree {H H':Hp} (c:Ch [] H H') {r:Addr} (h:H' r=none):H r=none:=by
 cases e:H r with
 | none=>rfl
 | some o=>rw [c r o e (by simp)] at h; cases h
def fldsNet (gp op:Addr):List (Str × V):=[("gates",.ref gp),("outs",.ref op)]
theorem zadq (gp op:Addr):List.lookup (Str.ofString "gates") (fldsNet gp op)=some (.ref gp):=rfl
structure NetAt (C:Addr) (H:Hp) (nt gp op:Addr) (gs:List Gt) (xs:List V) (os:List Nat):Prop where
 ob:∃ dx,H nt=some (.ins C dx (fldsNet gp op))
 gt:H gp=some (.tup xs)
 gg:Gs H gs xs
 ot:H op=some (.tup (os.map nV))
section
variable {P:Program}{w:World}{K:PySem.W.Frag}{mg:Str→Option Value}{base:Heap}{f:Addr}{fd:FuncData}{k:Nat}
theorem gl9m0:AG (defScope (inClass (top 9) 0)) ["enumerate", "is_gate", "len", "is_below", "tuple"]:=⟨by decide +kernel⟩
theorem av9m0:AF (defScope (inClass (top 9) 0)) ["self", "gates", "outs", "number", "gate", "out"]:=⟨by decide +kernel⟩
def spNet (C:Addr):Sp:=fun vs H Q _=>∃ (nt dx gl ol:Addr) (gs:List Gt) (xs:List V) (os:List Nat),vs=[.ref nt,.ref gl,.ref ol]∧H nt=some (.ins C dx [])∧H gl=some (.lst xs)∧Gs H gs xs∧Oks gs∧gs.length≤1000 ∧
 H ol=some (.lst (os.map nV))∧(∀ o∈os,o < gs.length)∧os.length≤1000∧∀ gp op H',Ch [nt] H H'→NetAt C H' nt gp op gs xs os→Q .non H'
theorem scNet:FnScope ["self", "gates", "outs", "number", "gate", "out"] ["self", "gates", "outs"] (defScope (inClass (top 9) 0)):=⟨rfl,rfl,rfl,by decide +kernel,rfl,by decide +kernel,by decide +kernel⟩
theorem zat4 {C:Addr} (F:Fun K "__init__" "Net.__init__" (inClass (top 9) 0) f fd) (cl:Cls K C) (nG:NoAttr K C "gates") (nO:NoAttr K C "outs") (Dis_gate:DefOk P w K mg base CX0 k "is_gate" ["thing", "ahead", "total"] spGate)
  (Dis_below:DefOk P w K mg base CX0 k "is_below" ["thing", "bound"] spBelow) (z_enumerate:mg "enumerate" = none) (z_len:mg "len" = none) (z_tuple:mg "tuple" = none):FnOk P w K mg base CX0 (k + 1) f fd ["self", "gates", "outs"] (spNet C):=by
 have nd:=scNet.nd
 refine F.ok scNet (fun vs H Q E h=>by obtain ⟨nt,dx,gl,ol,gs,xs,os,rfl,_⟩:=h; rfl) (fun cdv A outer s H vs Q E hr h=>?_)
 obtain ⟨nt,dx,gl,ol,gs,xs,os,rfl,hn,hg,hgs,hok,hlen,ho,hos,hol,q⟩:=h
 refine ⟨_,(Pr.h (zaah (zabf PassesOwn.never rfl (zahh .list (gl9m0.g 0 rfl) z_enumerate (zaaa (qv av9m0 1 rfl) zaab zaae)) (zafv rfl (zabk (zaar (i:=3) nd rfl (av9m0.l 3 rfl)) (zabk (zaar (i:=4) nd rfl (av9m0.l 4 rfl)) zac7))) (zaag (zaa4 (zadx (zabj (zaap Dis_gate hr (gl9m0.g 1 rfl) pass0 (zaaa (qv av9m0 4 rfl) (zaaa (qv av9m0 3 rfl) (zaaa (zaaf zaai (gl9m0.g 2 rfl) z_len PySem.boot_len (zaaa (qv av9m0 1 rfl) zaab zaae) zaa6 zaa7) zaab zac2) zaae) zaae) zalh))) (zaag zaij) zaau))) (zaah (zabf PassesOwn.never rfl (zabq (qv av9m0 2 rfl)) (zaar (i:=5) nd rfl (av9m0.l 5 rfl)) (zaag (zaa4 (zadx (zabj (zaap Dis_below hr (gl9m0.g 3 rfl) pass0 (zaaa (qv av9m0 5 rfl) (zaaa (zaaf zaai (gl9m0.g 2 rfl) z_len PySem.boot_len (zaaa (qv av9m0 1 rfl) zaab zaae) zaa6 zaa7) zaab zac2) zaae) zadp))) (zaag zaij) zaau))) (zaah (zaer (qv av9m0 0 rfl) (zabp zadh (gl9m0.g 4 rfl) z_tuple zab7 (zaaa (qv av9m0 1 rfl) zaab zaae) zab8 zab9) rfl) (zaag (zaer (qv av9m0 0 rfl) (zabp zadh (gl9m0.g 4 rfl) z_tuple zab7 (zaaa (qv av9m0 2 rfl) zaab zaae) zab8 zab9) rfl)))))),?_⟩
 (try dsimp only [cxOf])
 have hx:=hgs.len
 walk_at "rd"
 refine zafy (xs:=xs) (fun i σ H'=>Ch [] H H'∧∃ u v r,σ=[some (.ref nt),some (.ref gl),some (.ref ol),u,v,r]) ⟨Ch.refl _ _,_,_,_,rfl⟩ ?_ ?_ ?_
 ·rintro i σ H' hi ⟨c,_⟩
  exact SqL.of (c.get hg (by simp))
 ·rintro i x σ H' T hx' ⟨c,u,v,r,rfl⟩ hT
  have hi:i < gs.length:=by rw [← hx]; exact (List.getElem?_eq_some_iff.mp hx').1
  obtain ⟨g,hgi⟩:∃ g,gs[i]?=some g:=⟨_,List.getElem?_eq_getElem hi⟩
  obtain ⟨p,ep,hp⟩:=hgs.at_ i g hgi
  rw [hx'] at ep
  cases ep
  have hp1:H' p=some (.tup g.vs):=c.get hp (by simp)
  have hg1:H' gl=some (.lst xs):=c.get hg (by simp)
  have hok1:g.ok i xs.length:=by rw [hx]; exact hok i g hgi
  walk_at "rd"
 ·rintro σ H1 ⟨c1,u,v,r,rfl⟩
  have ho1:H1 ol=some (.lst (os.map nV)):=c1.get ho (by simp)
  have hg1:H1 gl=some (.lst xs):=c1.get hg (by simp)
  walk_at "rd"
  refine zac1 (xs:=os.map nV) (fun i σ H'=>Ch [] H H'∧∃ u v r,σ=[some (.ref nt),some (.ref gl),some (.ref ol),u,v,r]) ⟨c1,_,_,_,rfl⟩ ?_ ?_ ?_
  ·rintro i σ H' hi ⟨c,_⟩
   exact SqL.of (c.get ho (by simp))
  ·rintro i x σ H' hx' ⟨c,u,v,r,rfl⟩
   obtain ⟨o,ho',rfl⟩:∃ o∈os,x=nV o:=by
    rw [List.getElem?_map] at hx'
    obtain ⟨z,h1,h2⟩:=Option.map_eq_some_iff.mp hx'
    exact ⟨z,List.mem_of_getElem? h1,h2.symm⟩
   have:=hos o ho'
   have hg2:H' gl=some (.lst xs):=c.get hg (by simp)
   unfold nV
   walk_at "rd"
  ·rintro σ H2 ⟨c2,u,v,r,rfl⟩
   have ho2:H2 ol=some (.lst (os.map nV)):=c2.get ho (by simp)
   have hg2:H2 gl=some (.lst xs):=c2.get hg (by simp)
   have hn2:H2 nt=some (.ins C dx []):=c2.get hn (by simp)
   walk_at "rd"
   rename_i l1 hl1 l2 hl2
   (try refine ⟨by show 1 < 1000; decide,?_⟩)
   have n1:l1≠nt:=(zaao hn2 hl1).symm
   have n2:l2≠nt:=by
    intro z
    rw [z,zaac] at hl2
    cases hl2
   have cF:Ch [nt] H (upd (upd (upd (upd H2 l1 (.tup xs)) nt (.ins C dx (putF "gates" (.ref l1) []))) l2 (.tup (os.map nV))) nt (.ins C dx (putF "outs" (.ref l2) (putF "gates" (.ref l1) [])))) :=
    ((((Ch.wk c2).trans (Ch.new hl1 _)).trans Ch.put).trans (Ch.new hl2 _)).trans Ch.put
   refine q l1 l2 _ cF ⟨⟨dx,zaac⟩,?_,hgs.tu (Tu.ch cF hn (fun xs z=>by cases z)),?_⟩
   ·exact zabs n1 (zab5 hl2 (zabs n1 zaac))
   ·exact zabs n2 zaac
end
end

section
def spNext (K:PySem.W.Frag):Sp:=fun vs H Q _=>∃ (a b:Addr) (ns:List Int) (c:Int),vs=[.ref a,.ref b]∧Scr K H a ns∧H b=some (.lst [.int c])∧0≤c∧c < 2 ^ 60 ∧
 ∀ (n:Int) (H':Hp),0≤n→n < 2147483629→Ch [b] H H'→H' b=some (.lst [.int (c + 1)])→Q (.int n) H'
theorem zaku {α:Type} (x:α):∀ n:Nat,(List.replicate n [x]).flatten=List.replicate n x
 | 0=>rfl
 | n + 1=>by rw [List.replicate_succ,List.flatten_cons,zaku x n,List.replicate_succ]; rfl
section
variable {P:Program}{w:World}{K:PySem.W.Frag}{mg:Str→Option Value}{base:Heap}{f:Addr}{fd:FuncData}{k:Nat}
theorem av23:AF (defScope (top 23)) ["_law_script", "_law_at", "_law_cell", "_law_figures", "_law_k", "_law_m"]:=⟨by decide +kernel⟩
theorem gl23:AG (defScope (top 23)) ["len", "range"]:=⟨by decide +kernel⟩
theorem scNext:FnScope ["_law_script", "_law_at", "_law_cell", "_law_figures", "_law_k", "_law_m"] ["_law_script", "_law_at"] (defScope (top 23)):=⟨rfl,rfl,rfl,by decide +kernel,rfl,by decide +kernel,by decide +kernel⟩
theorem zasc (F:Fun K "_law_next" "_law_next" (top 23) f fd) (z_len:mg "len" = none) (z_range:mg "range" = none) :
  FnOk P w K mg base CX0 (k + 1) f fd ["_law_script", "_law_at"] (spNext K):=by
 have nd:=scNext.nd
 refine F.ok scNext (fun vs H Q E h=>?_) (fun cdv A outer s H vs Q E hr h=>?_)
 ·obtain ⟨a,b,ns,c,rfl,_⟩:=h
  rfl
 obtain ⟨a,b,ns,c,rfl,hS,hb,h0,h1,q⟩:=h
 refine ⟨_,(Pr.h (zaah (zafw (zaan zabv (zaa2 zabi (qv av23 1 rfl) zaad (fun _ _=>rfl)) zaad) (zajm (qv av23 1 rfl) zaad zag9)) (zaah (zaat (i:=2) nd rfl (av23.l 2 rfl) zaad) (zaav (zaa4 (zaaq zafk (zaaf zaai (gl23.g 0 rfl) z_len PySem.boot_len (zaaa (qv av23 0 rfl) zaab zaae) zaa6 zaa7) zaad (nomark _)) (zaag (zaat (i:=2) nd rfl (av23.l 2 rfl) (zaa2 zabi (qv av23 0 rfl) (zaan zaa8 (zaa2 zabi (qv av23 1 rfl) zaad (fun _ _=>rfl)) (zaaf zaai (gl23.g 0 rfl) z_len PySem.boot_len (zaaa (qv av23 0 rfl) zaab zaae) zaa6 zaa7)) (fun _ _=>rfl)))) zaau) (zaav (zaa4 (zacg (zad7 (zaaq zafk (zaaf zaai (gl23.g 0 rfl) z_len PySem.boot_len (zaaa (qv av23 0 rfl) zaab zaae) zaa6 zaa7) zaad (nomark _)) (zadj (zaaq zada (zaan zaa8 (zaa2 zabi (qv av23 0 rfl) zaad (fun _ _=>rfl)) zaad) zaad (nomark _))))) (zaah (zaat (i:=3) nd rfl (av23.l 3 rfl) (qv av23 2 rfl)) (zaah (zabf PassesOwn.never rfl (zabx (gl23.g 1 rfl) z_range (zaaa (zaan zaa8 (zaan zaba (zaa2 zabi (qv av23 1 rfl) zaad (fun _ _=>rfl)) (zaaf zaai (gl23.g 0 rfl) z_len PySem.boot_len (zaaa (qv av23 0 rfl) zaab zaae) zaa6 zaa7)) zaad) zaab zaaz)) (zaar (i:=4) nd rfl (av23.l 4 rfl)) (zaag (zaat (i:=3) nd rfl (av23.l 3 rfl) (zaan zaba (qv av23 3 rfl) zaad)))) (zaag (zaa4 (zacg (zac6 (zaaq zae8 (qv av23 3 rfl) (zabh (zaaa zaad (zaaa (zamk zalr zaad) zaab zala) zaaj)) rfl) (zacs (zaaq zaoj (zaa2 zabi (qv av23 1 rfl) zaad (fun _ _=>rfl)) (zaaf zaai (gl23.g 0 rfl) z_len PySem.boot_len (zaaa (qv av23 0 rfl) zaab zaae) zaa6 zaa7) (nomark _))))) (zaag (zaas (zaan zaa8 (qv av23 3 rfl) zaad))) zaau)))) zaau) (zaah (zaat (i:=5) nd rfl (av23.l 5 rfl) (zaan zaa8 (zaan zack (zaan zabv (zaan zabv (zaan zaa8 (qv av23 2 rfl) zaad) (zaan zack (zaan zack (zaa2 zabi (qv av23 1 rfl) zaad (fun _ _=>rfl)) (zaa2 zabi (qv av23 1 rfl) zaad (fun _ _=>rfl))) zaad)) zaad) zaad) zaad)) (zaah (zaat (i:=5) nd rfl (av23.l 5 rfl) (zaan zaa8 (zaan zack (qv av23 5 rfl) (qv av23 5 rfl)) zaad)) (zaag (zaas (zaan zaa8 (zaan zack (zaan zabv (qv av23 5 rfl) (zaan zack (zaa2 zabi (qv av23 1 rfl) zaad (fun _ _=>rfl)) zaad)) zaad) zaad)))))))))),?_⟩
 have h63:ns.length≤63:=hS.1
 (try dsimp only [cxOf])
 walk_at "rd"
 refine zaa9 (fun σ H'=>∃ n:Int,σ=[some (.ref a),some (.ref b),some (.int n),none,none,none]∧Ch [b] H H'∧H' b=some (.lst [.int (c + 1)])) ?_ ?_
 ·walk_at "rd"
  refine ite2 (fun hc=>?_) (fun hc=>?_)
  ·have hc':0 < (ns.length:Int):=by simpa using hc
   have e1:0≤(c + 1) % (ns.length:Int):=Int.emod_nonneg _ (by omega)
   have e2:(c + 1) % (ns.length:Int) < (ns.length:Int):=Int.emod_lt_of_pos _ hc'
   obtain ⟨n,hn⟩:=zakl e1 e2
   walk_at "rd"
  ·walk_at "rd"
 ·rintro σ H1 ⟨n,rfl,c1,b1⟩
  have hS1:Scr K H1 a ns:=hS.ch hb c1
  refine zaa9 (fun σ H'=>∃ u v w,σ=[some (.ref a),some (.ref b),some (.int n),u,v,w]∧Ch [b] H H'∧H' b=some (.lst [.int (c + 1)])) ?_ ?_
  ·walk_at "rd"
   refine ite2 (fun hc=>?_) (fun hc=>iteF ?_)
   ·have hc':0 < (ns.length:Int):=by simpa using hc
    obtain ⟨n0,hn0⟩:=zakl (ns:=ns) (i:=0) (by omega) hc'
    walk_at "rd"
    refine ite2 (fun hd=>?_) (fun hd=>?_)
    ·walk_at "rd"
     refine zabw (fun i σ H'=>H'=H1∧∃ g kk,σ=[some (.ref a),some (.ref b),some (.int n),some (.int g),kk,none]) ⟨rfl,_,_,rfl⟩ ?_ ?_
     ·rintro i σ H' hi ⟨rfl,g,kk,rfl⟩
      walk_at "rd"
     ·rintro σ H' ⟨rfl,g,kk,rfl⟩
      walk_at "rd"
      refine ite2 (fun hd=>iteT ?_) (fun hd=>?_)
      ·walk_at "rd"
       exact q _ _ (Int.emod_nonneg _ (by decide)) (Int.lt_of_lt_of_le (Int.emod_lt_of_pos _ (by decide)) (by decide)) (c1.trans (Ch.new (by assumption) _)) (by walk_at "get")
      ·walk_at "rd"
       refine ite2 (fun he=>?_) (fun he=>?_)
       ·walk_at "rd"
        exact q _ _ (Int.emod_nonneg _ (by decide)) (Int.lt_of_lt_of_le (Int.emod_lt_of_pos _ (by decide)) (by decide)) (c1.trans (Ch.new (by assumption) _)) (by walk_at "get")
       ·walk_at "rd"
    ·walk_at "rd"
   ·walk_at "rd"
  ·rintro σ H2 ⟨u,v,w,rfl,c2,b2⟩
   walk_at "rd"
   exact q _ _ (Int.emod_nonneg _ (by decide)) (Int.emod_lt_of_pos _ (by decide)) c2 b2
end
theorem Gs.push {H:Hp}{gs:List Gt}{xs:List V}{gl p:Addr}{g:Gt}{ys:List V} (h:Gs H gs xs) (hg:H gl=some (.lst ys)) (hp:H p=some (.tup g.vs)):Gs (upd H gl (.lst (xs++[.ref p]))) (gs++[g]) (xs++[.ref p]):=by
 have t:Tu H (upd H gl (.lst (xs++[.ref p]))):=Tu.lst Ch.put hg
 refine ⟨by simp [h.len],fun i g' e=>?_⟩
 by_cases hi:i < gs.length
 ·rw [List.getElem?_append_left hi] at e
  obtain ⟨p',h1,h2⟩:=h.at_ i g' e
  exact ⟨p',by rw [List.getElem?_append_left (by rw [h.len]; exact hi)]; exact h1,t _ _ h2⟩
 ·rw [List.getElem?_append_right (by omega)] at e
  have hi0:i - gs.length=0:=by
   rcases Nat.eq_zero_or_pos (i - gs.length) with z | z
   ·exact z
   ·rw [List.getElem?_eq_none (by simp; omega)] at e; cases e
  rw [hi0] at e
  cases e
  refine ⟨p,?_,t _ _ hp⟩
  rw [List.getElem?_append_right (by rw [h.len]; omega),h.len,hi0]; rfl
theorem Gs.set {H:Hp}{gs:List Gt}{xs:List V}{gl p:Addr}{g:Gt}{ys:List V}{j:Nat} (h:Gs H gs xs) (hg:H gl=some (.lst ys)) (hp:H p=some (.tup g.vs)):Gs (upd H gl (.lst (xs.set j (.ref p)))) (gs.set j g) (xs.set j (.ref p)):=by
 have t:Tu H (upd H gl (.lst (xs.set j (.ref p)))):=Tu.lst Ch.put hg
 refine ⟨by simp [h.len],fun i g' e=>?_⟩
 rw [List.getElem?_set] at e ⊢
 split at e
 ·split at e
  ·cases e
   rename_i h1 h2
   refine ⟨p,?_,t _ _ hp⟩
   rw [if_pos h1,if_pos (by rw [h.len]; exact h2)]
  ·cases e
 ·rename_i h1
  obtain ⟨p',h2,h3⟩:=h.at_ i g' e
  exact ⟨p',by rw [if_neg h1]; exact h2,t _ _ h3⟩
theorem Gt.ok_mono {g:Gt}{i n m:Nat} (h:g.ok i n) (hm:n≤m):g.ok i m:=by
 cases g <;> simp only [Gt.ok] at * <;> first | trivial | omega
theorem Oks.push {gs:List Gt}{g:Gt} (h:Oks gs) (hg:g.ok gs.length (gs.length + 1)):Oks (gs++[g]):=by
 intro i g' e
 rw [List.length_append,List.length_singleton]
 by_cases hi:i < gs.length
 ·rw [List.getElem?_append_left hi] at e
  exact Gt.ok_mono (h i g' e) (by omega)
 ·rw [List.getElem?_append_right (by omega)] at e
  have hi0:i - gs.length=0:=by
   rcases Nat.eq_zero_or_pos (i - gs.length) with z | z
   ·exact z
   ·rw [List.getElem?_eq_none (by simp; omega)] at e; cases e
  rw [hi0] at e
  cases e
  rw [show i=gs.length by omega]; exact hg
theorem Oks.set {gs:List Gt}{g:Gt}{j:Nat} (h:Oks gs) (hg:g.ok j gs.length):Oks (gs.set j g):=by
 intro i g' e
 rw [List.length_set]
 rw [List.getElem?_set] at e
 split at e
 ·split at e
  ·cases e
   rename_i h1 _
   rw [← h1]; exact hg
  ·cases e
 ·exact h i g' e
theorem zag3 {t:Gt→Bool}{g g':Gt}:∀ {gs:List Gt}{j:Nat},gs[j]?=some g→t g=t g'→(gs.set j g').countP t=gs.countP t
 | [],_,h,_=>by simp at h
 | a :: gs,0,h,e=>by
  simp at h
  subst h
  simp [List.countP_cons,e]
 | a :: gs,j + 1,h,e=>by
  have:=zag3 (gs:=gs) (j:=j) (by simpa using h) e
  simp [List.countP_cons,this]
def WS:List Str:=["and", "or", "xor", "pick", "not", "and", "xor", "or", "zero", "one"]
def arW (x:Str):Nat:=if x = "zero" then 0 else if x = "one" then 0 else if x = "not" then 1 else if x = "pick" then 3 else 2
theorem mkG {x:Str} (hx:x∈WS) {fs:List Nat} (hl:fs.length=arW x) {i:Nat} (hf:∀ a∈fs,a < i):∃ g:Gt,g.vs=.str x :: fs.map nV∧g.ok i (i + 1)∧g.isIn=false∧g.isKeep=false:=by
 have two:∀ {fs:List Nat},fs.length=2→∃ a b,fs=[a,b]:=fun {fs} h=>by
  match fs,h with
  | [a,b],_=>exact ⟨a,b,rfl⟩
 have d2:∀ {y:Str},arW y=2→fs.length=arW y→∃ a b,fs=[a,b]:=fun h1 h2=>two (h2.trans h1)
 simp only [WS,List.mem_cons,List.not_mem_nil,or_false] at hx
 rcases hx with rfl | rfl | rfl | rfl | rfl | rfl | rfl | rfl | rfl | rfl
 ·obtain ⟨a,b,rfl⟩:=d2 (by decide +kernel) hl
  exact ⟨.and a b,rfl,⟨hf a (by simp),hf b (by simp)⟩,rfl,rfl⟩
 ·obtain ⟨a,b,rfl⟩:=d2 (by decide +kernel) hl
  exact ⟨.or a b,rfl,⟨hf a (by simp),hf b (by simp)⟩,rfl,rfl⟩
 ·obtain ⟨a,b,rfl⟩:=d2 (by decide +kernel) hl
  exact ⟨.xor a b,rfl,⟨hf a (by simp),hf b (by simp)⟩,rfl,rfl⟩
 ·have hl:fs.length=3:=hl.trans (by decide +kernel)
  match fs,hl with
  | [a,b,c],_=>exact ⟨.pick a b c,rfl,⟨hf a (by simp),hf b (by simp),hf c (by simp)⟩,rfl,rfl⟩
 ·have hl:fs.length=1:=hl.trans (by decide +kernel)
  match fs,hl with
  | [a],_=>exact ⟨.not a,rfl,hf a (by simp),rfl,rfl⟩
 ·obtain ⟨a,b,rfl⟩:=d2 (by decide +kernel) hl
  exact ⟨.and a b,rfl,⟨hf a (by simp),hf b (by simp)⟩,rfl,rfl⟩
 ·obtain ⟨a,b,rfl⟩:=d2 (by decide +kernel) hl
  exact ⟨.xor a b,rfl,⟨hf a (by simp),hf b (by simp)⟩,rfl,rfl⟩
 ·obtain ⟨a,b,rfl⟩:=d2 (by decide +kernel) hl
  exact ⟨.or a b,rfl,⟨hf a (by simp),hf b (by simp)⟩,rfl,rfl⟩
 ·have hl:fs.length=0:=hl.trans (by decide +kernel)
  match fs,hl with
  | [],_=>exact ⟨.zero,rfl,trivial,rfl,rfl⟩
 ·have hl:fs.length=0:=hl.trans (by decide +kernel)
  match fs,hl with
  | [],_=>exact ⟨.one,rfl,trivial,rfl,rfl⟩
end

section
section
variable {P:Program}{w:World}{K:PySem.W.Frag}{mg:Str→Option Value}{base:Heap}{f:Addr}{fd:FuncData}{k:Nat}
theorem zabb:Nd "_law_next" := by decide +kernel
theorem zaqg:bootBuiltins "max" = some (.builtin "max"):=by decide +kernel
theorem zaqh:("max" : Str) ≠ "__name__" := by decide +kernel
theorem zaqi:Nd "max" := by decide +kernel
theorem zat5:bootBuiltins "min" = some (.builtin "min"):=by decide +kernel
theorem zat6:("min" : Str) ≠ "__name__" := by decide +kernel
theorem zat7:Nd "min" := by decide +kernel
structure NS (H0 H':Hp) (b gl:Addr) (c B:Int) (gs:List Gt) (xs:List V) (ins:Nat):Prop where
 ch:Ch [b] H0 H'
 at_:∃ c',H' b=some (.lst [.int c'])∧c≤c'∧c'≤c + B
 gl:H' gl=some (.lst xs)
 gg:Gs H' gs xs
 ok:Oks gs
 ci:gs.countP Gt.isIn=ins
 lo:∀ i,i < ins→gs[i]?=some .inp
theorem NS.bump {H0 H' H1:Hp}{b gl:Addr}{c c' B:Int}{gs:List Gt}{xs:List V}{ins:Nat} (n:NS H0 H' b gl c B gs xs ins) (nb:gl≠b) (hb:H' b=some (.lst [.int c'])) (c1:Ch [b] H' H1) (hb1:H1 b=some (.lst [.int (c' + 1)])):NS H0 H1 b gl c (B + 1) gs xs ins:=by
 obtain ⟨c'',h1,h2,h3⟩:=n.at_
 rw [hb] at h1
 injection h1 with h1; injection h1 with h1; injection h1 with h1 _; injection h1 with h1
 subst h1
 exact ⟨n.ch.trans c1,⟨c' + 1,hb1,by omega,by omega⟩,c1.get n.gl (by simpa using nb),n.gg.tu (Tu.lst c1 hb),n.ok,n.ci,n.lo⟩
theorem NS.wk {H0 H':Hp}{b gl:Addr}{c B B':Int}{gs:List Gt}{xs:List V}{ins:Nat} (n:NS H0 H' b gl c B gs xs ins) (h:B≤B'):NS H0 H' b gl c B' gs xs ins:=by
 obtain ⟨c'',h1,h2,h3⟩:=n.at_
 exact ⟨n.ch,⟨c'',h1,h2,by omega⟩,n.gl,n.gg,n.ok,n.ci,n.lo⟩
theorem NS.same {H0 H' H1:Hp}{b gl:Addr}{c B:Int}{gs:List Gt}{xs:List V}{ins:Nat} (n:NS H0 H' b gl c B gs xs ins) (c1:Ch [] H' H1):NS H0 H1 b gl c B gs xs ins:=by
 obtain ⟨c'',h1,h2,h3⟩:=n.at_
 exact ⟨n.ch.trans (Ch.wk c1),⟨c'',c1.get h1 (by simp),h2,h3⟩,c1.get n.gl (by simp),n.gg.tu (Tu.same c1),n.ok,n.ci,n.lo⟩
theorem NS.push {H0 H':Hp}{b gl p:Addr}{c B:Int}{gs:List Gt}{xs:List V}{ins:Nat}{g:Gt} (n:NS H0 H' b gl c B gs xs ins) (nb:gl≠b) (fg:H0 gl=none) (hp:H' p=some (.tup g.vs)) (hg:g.ok gs.length (gs.length + 1)) (hi:g.isIn=false):NS H0 (upd H' gl (.lst (xs++[.ref p]))) b gl c B (gs++[g]) (xs++[.ref p]) ins:=by
 obtain ⟨c'',h1,h2,h3⟩:=n.at_
 refine ⟨Ch.own fg n.ch,⟨c'',zabs nb.symm h1,h2,h3⟩,zaac,n.gg.push n.gl hp,n.ok.push hg,?_,fun i h=>?_⟩
 ·rw [List.countP_append,n.ci]; simp [hi]
 ·have:=n.lo i h
  rw [List.getElem?_append_left (List.getElem?_eq_some_iff.mp this).1]; exact this
theorem NS.set {H0 H':Hp}{b gl p:Addr}{c B:Int}{gs:List Gt}{xs:List V}{ins j:Nat}{g g0:Gt} (n:NS H0 H' b gl c B gs xs ins) (nb:gl≠b) (fg:H0 gl=none) (hp:H' p=some (.tup g.vs)) (hj:gs[j]?=some g0) (hg:g.ok j gs.length) (hi:g0.isIn=g.isIn) (hl:ins≤j):NS H0 (upd H' gl (.lst (xs.set j (.ref p)))) b gl c B (gs.set j g) (xs.set j (.ref p)) ins:=by
 obtain ⟨c'',h1,h2,h3⟩:=n.at_
 refine ⟨Ch.own fg n.ch,⟨c'',zabs nb.symm h1,h2,h3⟩,zaac,n.gg.set n.gl hp,n.ok.set hg,?_,fun i h=>?_⟩
 ·rw [zag3 hj hi,n.ci]
 ·rw [List.getElem?_set_ne (by omega)]; exact n.lo i h
theorem NS.own {H0 H':Hp}{b gl p:Addr}{c B:Int}{gs:List Gt}{xs ys zs:List V}{ins:Nat} (n:NS H0 H' b gl c B gs xs ins) (f:H0 p=none) (pb:p≠b) (pg:p≠gl) (hp:H' p=some (.lst ys)):NS H0 (upd H' p (.lst zs)) b gl c B gs xs ins:=by
 obtain ⟨c'',h1,h2,h3⟩:=n.at_
 exact ⟨Ch.own f n.ch,⟨c'',zabs pb.symm h1,h2,h3⟩,zabs pg.symm n.gl,n.gg.tu (Tu.lst Ch.put hp),n.ok,n.ci,n.lo⟩
theorem NS.fresh {H0 H':Hp}{b gl p:Addr}{c B c0:Int}{gs:List Gt}{xs:List V}{ins:Nat} (n:NS H0 H' b gl c B gs xs ins) (hb:H0 b=some (.lst [.int c0])) (h:H' p=none):H0 p=none∧p≠b∧p≠gl:=by
 have f:H0 p=none:=by
  cases e:H0 p with
  | none=>rfl
  | some o =>
   by_cases z:p=b
   ·obtain ⟨c9,h9,_⟩:=n.at_
    rw [z,h9] at h; cases h
   ·have:=n.ch.get e (by simpa using z)
    rw [this] at h; cases h
 exact ⟨f,(zaao hb f).symm,(zaao n.gl h).symm⟩
structure KP (gs:List Gt) (lo hi:Nat):Prop where
 of:∀ j,lo≤j→j < hi→∃ ff a,gs[j]?=some (.keep ff a)
theorem KP.push {gs:List Gt}{lo hi:Nat} (h:KP gs lo hi) (g:Gt):KP (gs++[g]) lo hi:=.mk fun j a b=>by
 obtain ⟨ff,x,e⟩:=h.of j a b
 exact ⟨ff,x,by rw [List.getElem?_append_left (List.getElem?_eq_some_iff.mp e).1]; exact e⟩
theorem KP.more {gs:List Gt}{lo:Nat}{ff:Int}{x:Nat} (h:KP gs lo gs.length):KP (gs++[.keep ff x]) lo (gs.length + 1):=.mk fun j a b=>by
 by_cases e:j < gs.length
 ·exact (h.push _).of j a e
 ·refine ⟨ff,x,?_⟩
  rw [List.getElem?_append_right (by omega),show j - gs.length=0 by omega]; rfl
theorem KP.set {gs:List Gt}{lo hi i:Nat}{ff:Int}{x:Nat} (h:KP gs lo hi):KP (gs.set i (.keep ff x)) lo hi:=.mk fun j a b=>by
 obtain ⟨ff',x',e⟩:=h.of j a b
 rw [List.getElem?_set]
 split
 ·rw [if_pos (by rename_i z; rw [z]; exact (List.getElem?_eq_some_iff.mp e).1)]; exact ⟨_,_,rfl⟩
 ·exact ⟨_,_,e⟩
theorem zave {m:Int} (h0:0≤m) (h1:m < 10):∃ x∈WS,atI (WS.map V.str) m=some (.str x):=by
 have hk:m.toNat < WS.length:=by show m.toNat < 10; omega
 have e:m=((m.toNat:Nat):Int):=by omega
 refine ⟨WS[m.toNat],List.getElem_mem hk,?_⟩
 have:=zacb (xs:=WS.map V.str) (j:=m.toNat) (v:=.str WS[m.toNat]) (by rw [List.getElem?_map,List.getElem?_eq_getElem hk]; simp)
 rw [← e] at this
 exact this
structure Below (fs:List Nat) (n:Nat):Prop where
 of:∀ a∈fs,a < n
theorem Below.nil {n:Nat}:Below [] n:=⟨fun a h=>by cases h⟩
theorem Below.snoc {fs:List Nat}{n a:Nat} (h:Below fs n) (ha:a < n):Below (fs++[a]) n:=⟨fun b hb=>by
 rcases List.mem_append.mp hb with h1 | h1
 ·exact h.of b h1
 ·rw [List.mem_singleton.mp h1]; exact ha⟩
def DD:List (Key × V):=[(Sum.inr "zero",.int 0),(Sum.inr "one",.int 0),(Sum.inr "not",.int 1),(Sum.inr "pick",.int 3)]
theorem zat8 {x:Str} (hx:x∈WS):(valV (mergeK [] DD) (Sum.inr x)).getD (.int 2)=.int (arW x:Int):=by
 simp only [WS,List.mem_cons,List.not_mem_nil,or_false] at hx
 rcases hx with rfl | rfl | rfl | rfl | rfl | rfl | rfl | rfl | rfl | rfl <;> decide +kernel
theorem zat9 {x:Str} (hx:x∈WS):arW x≤3:=by
 simp only [WS,List.mem_cons,List.not_mem_nil,or_false] at hx
 rcases hx with rfl | rfl | rfl | rfl | rfl | rfl | rfl | rfl | rfl | rfl <;> decide +kernel
theorem zavf {m:Int} (h0:0≤m) (h1:m < 2):∃ x∈WS,arW x=0∧atI [V.str "zero",V.str "one"] m=some (.str x):=by
 have:m=0∨m=1:=by omega
 rcases this with rfl | rfl
 ·exact ⟨"zero",by decide +kernel,by decide +kernel,rfl⟩
 ·exact ⟨"one",by decide +kernel,by decide +kernel,rfl⟩
theorem av24:AF (defScope (top 24)) ["_law_script", "_law_at", "_law_ins", "_law_keeps", "_law_many", "_law_gates", "_law_k", "_law_m", "_law_word", "_law_feeds", "_law_j", "_law_outs"]:=⟨by decide +kernel⟩
theorem gl24:AG (defScope (top 24)) ["range", "_law_next", "len", "max", "tuple", "min"]:=⟨by decide +kernel⟩
def spLNet (K:PySem.W.Frag):Sp:=fun vs H Q _=>∃ (a b:Addr) (ns:List Int) (c ins' keeps' many':Int) (ins keeps many:Nat),vs=[.ref a,.ref b,.int ins',.int keeps',.int many']∧ins'=(ins:Int)∧keeps'=(keeps:Int)∧many'=(many:Int)∧ins≤12∧keeps≤12∧many≤24 ∧
 Scr K H a ns∧H b=some (.lst [.int c])∧0≤c∧c < 2 ^ 59 ∧
 ∀ (R gl ol:Addr) (gs:List Gt) (xs:List V) (os:List Nat) (H':Hp),NS H H' b gl c 1000 gs xs ins→H' R=some (.tup [.ref gl,.ref ol])→(gs.length≤48∧many≤gs.length)→H' ol=some (.lst (os.map nV))→(∀ o∈os,o < gs.length)→os.length≤4→H gl=none→H ol=none→Q (.ref R) H'
theorem scLNet:FnScope ["_law_script", "_law_at", "_law_ins", "_law_keeps", "_law_many", "_law_gates", "_law_k", "_law_m", "_law_word", "_law_feeds", "_law_j", "_law_outs"] ["_law_script", "_law_at", "_law_ins", "_law_keeps", "_law_many"] (defScope (top 24)):=⟨rfl,rfl,rfl,by decide +kernel,rfl,by decide +kernel,by decide +kernel⟩
theorem zasd (F:Fun K "_law_net" "_law_net" (top 24) f fd) (D_law_next:DefOk P w K mg base CX0 k "_law_next" ["_law_script", "_law_at"] (spNext K)) (z_len:mg "len" = none) (z_range:mg "range" = none) (z_max:mg "max" = none) (z_min:mg "min" = none) (z_tuple:mg "tuple" = none) :
  FnOk P w K mg base CX0 (k + 1) f fd ["_law_script", "_law_at", "_law_ins", "_law_keeps", "_law_many"] (spLNet K):=by
 have nd:=scLNet.nd
 refine F.ok scLNet (fun vs H Q E h=>by obtain ⟨a,b,ns,c,ins',keeps',many',ins,keeps,many,rfl,_⟩:=h; rfl) (fun cdv A outer s H vs Q E hr h=>?_)
 obtain ⟨a,b,ns,c,ins',keeps',many',ins,keeps,many,rfl,rfl,rfl,rfl,hi,hk,hm,hS,hb,h0,h1,q⟩:=h
 have hu:=zadw hr
 refine ⟨_,(Pr.h (zaah (zaat (i:=5) nd rfl (av24.l 5 rfl) (zaan zap7 (zabc (zaaa (zabh (zaaa zaa1 zaab zaaj)) zaab zacl)) (qv av24 2 rfl))) (zaah (zabf PassesOwn.never rfl (zabx (gl24.g 0 rfl) z_range (zaaa (qv av24 3 rfl) zaab zaae)) (zaar (i:=6) nd rfl (av24.l 6 rfl)) (zaag (zabg (zacf PySem.F.plainAttrs_list PySem.F.slot_list_append PySem.F.type_list_append zabd (qv av24 5 rfl) (zaaa (zabh (zaaa zaa1 (zaaa (zaan zaa8 (zaap D_law_next hr (gl24.g 1 rfl) pass0 (zaaa (qv av24 0 rfl) (zaaa (qv av24 1 rfl) zaab zaae) zaae) zabb) zaad) (zaaa zaad zaab zaaj) zaaz) zaaj)) zaab zacl))))) (zaah (zabf PassesOwn.never rfl (zabx (gl24.g 0 rfl) z_range (zaaa (qv av24 4 rfl) zaab zaae)) (zaar (i:=6) nd rfl (av24.l 6 rfl)) (zaah (zaat (i:=7) nd rfl (av24.l 7 rfl) (zaap D_law_next hr (gl24.g 1 rfl) pass0 (zaaa (qv av24 0 rfl) (zaaa (qv av24 1 rfl) zaab zaae) zaae) zabb)) (zaah (zaat (i:=8) nd rfl (av24.l 8 rfl) (zaa2 zabi (zabc (zaaa zaa1 (zaaa zaa1 (zaaa zaa1 (zaaa zaa1 (zaaa zaa1 (zaaa zaa1 (zaaa zaa1 (zaaa zaa1 (zaaa zaa1 (zaaa zaa1 zaab zaaj) zaaj) zaaj) zaaj) zaaj) zaaj) zaaj) zaaj) zaaj) zaaj)) (zaan zaa8 (qv av24 7 rfl) zaad) (fun _ _=>rfl))) (zaav (zaa4 (zacg (zad7 (zaaq zada (zaaf zaai (gl24.g 2 rfl) z_len PySem.boot_len (zaaa (qv av24 5 rfl) zaab zaae) zaa6 zaa7) zaad (nomark _)) (zadj (zaaq zae8 (qv av24 8 rfl) (zabh (zaaa zaa1 (zaaa zaa1 zaab zaaj) zaaj)) rfl)))) (zaag (zaat (i:=8) nd rfl (av24.l 8 rfl) (zaa2 zabi (zabc (zaaa zaa1 (zaaa zaa1 zaab zaaj) zaaj)) (zaan zaa8 (zaan zaba (qv av24 7 rfl) zaad) zaad) (fun _ _=>rfl)))) zaau) (zaah (zaat (i:=9) nd rfl (av24.l 9 rfl) (zabc zaab)) (zaah (zabf PassesOwn.never rfl (zabx (gl24.g 0 rfl) z_range (zaaa (zams hu (zafi (zac4 zaa1 zaad (zac4 zaa1 zaad (zac4 zaa1 zaad (zac4 zaa1 zaad zafh)))) rfl rfl (by intro z; cases z) (by decide)) (qv av24 8 rfl) zaad ⟨rfl,rfl,rfl,rfl⟩) zaab zac2)) (zaar (i:=10) nd rfl (av24.l 10 rfl)) (zaah (zaat (i:=7) nd rfl (av24.l 7 rfl) (zaap D_law_next hr (gl24.g 1 rfl) pass0 (zaaa (qv av24 0 rfl) (zaaa (qv av24 1 rfl) zaab zaae) zaae) zabb)) (zaag (zabg (zacf PySem.F.plainAttrs_list PySem.F.slot_list_append PySem.F.type_list_append zabd (qv av24 9 rfl) (zaaa (zadb (zaaq zada (zaan zaa8 (qv av24 7 rfl) zaad) zaad (nomark _)) (zaan zaa8 (zaan zaba (qv av24 7 rfl) zaad) (zaaf zaai (gl24.g 2 rfl) z_len PySem.boot_len (zaaa (qv av24 5 rfl) zaab zaae) zaa6 zaa7)) (zaaf (zalv rfl) (gl24.g 3 rfl) z_max zaqg (zaaa zaad (zaaa (zaan zaea (zaan zaea (zaaf zaai (gl24.g 2 rfl) z_len PySem.boot_len (zaaa (qv av24 5 rfl) zaab zaae) zaa6 zaa7) zaad) (zaan zaa8 (zaan zaba (qv av24 7 rfl) zaad) zaad)) zaab zaaz) zaaj) zaqh zaqi)) zaab zahd)))))) (zaag (zabg (zacf PySem.F.plainAttrs_list PySem.F.slot_list_append PySem.F.type_list_append zabd (qv av24 5 rfl) (zaaa (zabp zadh (gl24.g 4 rfl) z_tuple zab7 (zaaa (zaan zafq (zabc (zaaa (qv av24 8 rfl) zaab zaae)) (qv av24 9 rfl)) zaab zaaz) zab8 zab9) zaab zac2)))))))))) (zaah (zabf PassesOwn.never rfl (zalc (gl24.g 0 rfl) z_range (zaaa (qv av24 2 rfl) (zaaa (zaan zabv (qv av24 2 rfl) (qv av24 3 rfl)) zaab zaaz) zaae)) (zaar (i:=6) nd rfl (av24.l 6 rfl)) (zaag (zafw (zabh (zaaa zaa1 (zaaa (zaa2 zabo (zaa2 zabi (qv av24 5 rfl) (qv av24 6 rfl) (fun _ _=>rfl)) zaad (fun _ _=>rfl)) (zaaa (zaan zaa8 (zaap D_law_next hr (gl24.g 1 rfl) pass0 (zaaa (qv av24 0 rfl) (zaaa (qv av24 1 rfl) zaab zaae) zaae) zabb) (zaaf zaai (gl24.g 2 rfl) z_len PySem.boot_len (zaaa (qv av24 5 rfl) zaab zaae) zaa6 zaa7)) zaab zaaz) zaaw) zaaj)) (zajm (qv av24 5 rfl) (qv av24 6 rfl) zag9)))) (zaah (zaat (i:=11) nd rfl (av24.l 11 rfl) (zabc zaab)) (zaah (zabf PassesOwn.never rfl (zabx (gl24.g 0 rfl) z_range (zaaa (zaan zabv zaad (zaan zaa8 (zaap D_law_next hr (gl24.g 1 rfl) pass0 (zaaa (qv av24 0 rfl) (zaaa (qv av24 1 rfl) zaab zaae) zaae) zabb) zaad)) zaab zaaz)) (zaar (i:=6) nd rfl (av24.l 6 rfl)) (zaag (zaa4 (zaaq zafk (zaaf zaai (gl24.g 2 rfl) z_len PySem.boot_len (zaaa (qv av24 5 rfl) zaab zaae) zaa6 zaa7) zaad (nomark _)) (zaah (zaat (i:=7) nd rfl (av24.l 7 rfl) (zaap D_law_next hr (gl24.g 1 rfl) pass0 (zaaa (qv av24 0 rfl) (zaaa (qv av24 1 rfl) zaab zaae) zaae) zabb)) (zaag (zabg (zacf PySem.F.plainAttrs_list PySem.F.slot_list_append PySem.F.type_list_append zabd (qv av24 11 rfl) (zaaa (zadb (zaaq zada (zaan zaa8 (qv av24 7 rfl) zaad) zaad (nomark _)) (zaan zaa8 (zaan zaba (qv av24 7 rfl) zaad) (zaaf zaai (gl24.g 2 rfl) z_len PySem.boot_len (zaaa (qv av24 5 rfl) zaab zaae) zaa6 zaa7)) (zaan zaea (zaan zaea (zaaf zaai (gl24.g 2 rfl) z_len PySem.boot_len (zaaa (qv av24 5 rfl) zaab zaae) zaa6 zaa7) zaad) (zaan zaa8 (zaan zaba (qv av24 7 rfl) zaad) (zaaf (zalw rfl) (gl24.g 5 rfl) z_min zat5 (zaaa zaad (zaaa (zaaf zaai (gl24.g 2 rfl) z_len PySem.boot_len (zaaa (qv av24 5 rfl) zaab zaae) zaa6 zaa7) zaab zac2) zaaj) zat6 zat7)))) zaab zahd))))) zaau))) (zaag (zaas (zabh (zaaa (qv av24 5 rfl) (zaaa (qv av24 11 rfl) zaab zaae) zaae))))))))))),?_⟩
 (try dsimp only [cxOf])
 walk_at "rd"
 rename_i p1 hp1 p2 hp2 gl hgl
 have fg:H gl=none:=freeN hp1 (freeN hp2 hgl)
 have nb:gl≠b:=(zaao hb fg).symm
 have st0:NS H (upd (upd (upd H p1 (HO.tup [V.str (Str.ofString "in")])) p2 (HO.lst [V.ref p1])) gl (HO.lst (List.replicate ((ins:Int)).toNat [V.ref p1]).flatten)) b gl c 0 (List.replicate ins .inp) (List.replicate ins (.ref p1)) ins:=by
  have cc:Ch [] H (upd (upd (upd H p1 (HO.tup [V.str (Str.ofString "in")])) p2 (HO.lst [V.ref p1])) gl (HO.lst (List.replicate ((ins:Int)).toNat [V.ref p1]).flatten)):=((Ch.new hp1 _).trans (Ch.new hp2 _)).trans (Ch.new hgl _)
  refine ⟨Ch.wk cc,⟨c,cc.get hb (by simp),by omega,by omega⟩,by rw [zaac,zaku]; simp,⟨by simp,fun i g e=>?_⟩,fun i g e=>?_,by rw [List.countP_replicate]; rfl,fun i h=>by rw [List.getElem?_replicate,if_pos h]⟩
  ·rw [List.getElem?_replicate] at e
   split at e
   ·cases e
    rename_i hi2
    exact ⟨p1,by rw [List.getElem?_replicate,if_pos hi2],zab5 hgl (zab5 hp2 zaac)⟩
   ·cases e
  ·rw [List.getElem?_replicate] at e
   split at e
   ·cases e
    exact True.intro
   ·cases e
 generalize (upd (upd (upd H p1 (HO.tup [V.str (Str.ofString "in")])) p2 (HO.lst [V.ref p1])) gl (HO.lst (List.replicate ((ins:Int)).toNat [V.ref p1]).flatten))=H0 at st0 ⊢
 clear hgl hp2 hp1
 refine zabw (fun i σ H'=>∃ gs xs u,σ=[some (.ref a),some (.ref b),some (.int (ins:Int)),some (.int (keeps:Int)),some (.int (many:Int)),some (.ref gl),u,none,none,none,none,none]∧NS H H' b gl c (i:Int) gs xs ins∧gs.length=ins + i∧KP gs ins gs.length) ⟨_,_,_,rfl,st0,by simp,.mk fun j h1 h2=>?_⟩ ?_ ?_
 ·simp at h2; omega
 ·rintro i σ H' hi' ⟨gs,xs,u,rfl,n,hl,kp⟩
  have hi2:i < keeps:=by simpa using hi'
  obtain ⟨c',hb1,hc1,hc2⟩:=n.at_
  have hS1:Scr K H' a ns:=hS.ch hb n.ch
  have hxl:=n.gg.len
  have gl1:=n.gl
  have nc:=n.ch
  walk_at "rd"
  rename_i z H2 hz0 hz1 c2 hb2 p hp
  have n2:=(n.bump nb hb1 c2 hb2).same (Ch.new hp (HO.tup [V.str (Str.ofString "keep"),V.int (z % 2),V.int 0]))
  have n3:=n2.push (g:=.keep (z % 2) 0) nb fg zaac ⟨by omega,by omega,by omega⟩ rfl
  have gl2:=n2.gl
  walk_at "rd"
  rw [List.length_append]; exact kp.more
 ·rintro σ H' ⟨gs,xs,u,rfl,n,hl,kp⟩
  have hl:gs.length=ins + keeps:=by simpa using hl
  rw [hl] at kp
  walk_at "rd"
  refine zabw (fun i σ H'=>∃ gs xs u1 u2 u3 u4 u5,σ=[some (.ref a),some (.ref b),some (.int (ins:Int)),some (.int (keeps:Int)),some (.int (many:Int)),some (.ref gl),u1,u2,u3,u4,u5,none]∧NS H H' b gl c (12 + 4 * i:Int) gs xs ins∧gs.length=ins + keeps + i∧KP gs ins (ins + keeps)) ⟨_,_,_,_,_,_,_,rfl,n.wk (by simp; omega),by omega,kp⟩ ?_ ?_
  ·skip
   rintro i σ H' hi' ⟨gs,xs,u1,u2,u3,u4,u5,rfl,n,hl,kp⟩
   have hi2:i < many:=by simpa using hi'
   obtain ⟨c',hb1,hc1,hc2⟩:=n.at_
   have hS1:Scr K H' a ns:=hS.ch hb n.ch
   have hxl:=n.gg.len
   have gl1:=n.gl
   have nc:=n.ch
   walk_at "rd"
   rename_i m H2 hm0 hm1 c2 hb2 p hp
   obtain ⟨x,hx,hat⟩:=zave (m:=m % 10) (by omega) (by omega)
   refine Atx.of hat ?_
   have n2:=(n.bump nb hb1 c2 hb2).same (Ch.new hp (HO.lst (WS.map V.str)))
   have gl2:=n2.gl
   walk_at "rd"
   refine zaa9 (fun σ H3=>∃ x2,x2∈WS∧(gs.length=0→arW x2=0)∧σ=[some (.ref a),some (.ref b),some (.int (ins:Int)),some (.int (keeps:Int)),some (.int (many:Int)),some (.ref gl),some (.int (0 + (i:Int))),some (.int m),some (.str x2),u4,u5,none]∧NS H H3 b gl c (12 + 4 * i + 1:Int) gs xs ins) ?_ ?_
   ·walk_at "rd"
    refine ite2 (fun hc=>?_) (fun hc=>iteF ?_)
    ·walk_at "rd"
     rename_i pz hpz
     refine ite2 (fun hd=>?_) (fun hd=>?_)
     ·obtain ⟨x2,hx2,hx3,hat2⟩:=zavf (m:=m / 10 % 2) (by omega) (by omega)
      walk_at "rd"
      exact (n2.same (Ch.new hpz _)).same (Ch.new (by assumption) _)
     ·have hz:arW x=0:=by
       clear hat
       simp only [WS,List.mem_cons,List.not_mem_nil,or_false] at hx
       rcases hx with rfl | rfl | rfl | rfl | rfl | rfl | rfl | rfl | rfl | rfl <;> first | decide +kernel | (exfalso; revert hd; decide +kernel)
      exact ⟨x,hx,fun _=>hz,rfl,n2.same (Ch.new hpz _)⟩
    ·refine ⟨x,hx,fun z=>?_,rfl,n2⟩
     rw [← hxl] at z
     exact absurd (by rw [z]; decide) hc
   ·rintro σ H3 ⟨x2,hx2,hx0,rfl,n3⟩
    walk_at "rd"
    rename_i fl hfl dp hdp
    refine ⟨(rfl:_=List.map (fun kv=>(kV kv.1,kv.2)) DD),by decide,?_⟩
    have hal:=zat9 hx2
    have hdg:=zat8 hx2
    have n4:=(n3.same (Ch.new hfl (HO.lst []))).same (Ch.own (o:=HO.dK (mergeK [] DD)) hdp (Ch.new hdp (HO.dK [])))
    have fl4:upd (upd (upd H3 fl (HO.lst [])) dp (HO.dK [])) dp (HO.dK (mergeK [] DD)) fl=some (HO.lst []):=Ch.get (W:=[]) (Ch.own hdp (Ch.new hdp (HO.dK []))) zaac (by simp)
    have ffl:H fl=none:=by
     cases e:H fl with
     | none=>rfl
     | some o =>
      by_cases z:fl=b
      ·obtain ⟨c9,h9,_⟩:=n3.at_
       rw [z,h9] at hfl; cases hfl
      ·have:=n3.ch.get e (by simpa using z)
       rw [this] at hfl; cases hfl
    have nfb:fl≠b:=(zaao hb ffl).symm
    have nfg:fl≠gl:=(zaao n3.gl hfl).symm
    refine ⟨dp,rfl,Or.inl ⟨_,Or.inl zaac⟩,_,rfl,_,DGet.k (k:=Sum.inr x2) zaac,?_⟩
    rw [hdg]
    generalize upd (upd (upd H3 fl (HO.lst [])) dp (HO.dK [])) dp (HO.dK (mergeK [] DD))=H4 at n4 fl4 ⊢
    walk_at "rd"
    refine zabw (fun j σ H5=>∃ fs u2 u5,σ=[some (.ref a),some (.ref b),some (.int (ins:Int)),some (.int (keeps:Int)),some (.int (many:Int)),some (.ref gl),some (.int (0 + (i:Int))),u2,some (.str x2),some (.ref fl),u5,none]∧NS H H5 b gl c (12 + 4 * i + 1 + j:Int) gs xs ins∧H5 fl=some (.lst (List.map nV fs))∧fs.length=j∧Below fs gs.length) ⟨[],_,_,rfl,n4.wk (by simp),fl4,rfl,.nil⟩ ?_ ?_
    ·rintro j σ H5 hj ⟨fs,v2,v5,rfl,n5,gf5,lf5,bf5⟩
     have hj2:j < arW x2:=by simpa using hj
     have hgp:0 < gs.length:=by
      rcases Nat.eq_zero_or_pos gs.length with z | z
      ·have:=hx0 z; omega
      ·exact z
     obtain ⟨c5,hb5,hc5,hd5⟩:=n5.at_
     have hS5:Scr K H5 a ns:=hS.ch hb n5.ch
     have gl5:=n5.gl
     walk_at "rd"
     rename_i z H6 hz0 hz1 c6 hb6
     have n6:=n5.bump nb hb5 c6 hb6
     have gl6:=n6.gl
     have gf6:H6 fl=some (.lst (List.map nV fs)):=c6.get gf5 (by simpa using nfb)
     refine ite2 (fun he=>?_) (fun he=>?_)
     ·obtain ⟨q1,hq1,hq2⟩:∃ q1:Nat,z / 2 % (xs.length:Int)=(q1:Int)∧q1 < gs.length:=by
       have h1:0≤z / 2 % (xs.length:Int):=Int.emod_nonneg _ (by omega)
       have h2:z / 2 % (xs.length:Int) < (xs.length:Int):=Int.emod_lt_of_pos _ (by omega)
       exact ⟨(z / 2 % (xs.length:Int)).toNat,by omega,by omega⟩
      walk_at "rd"
      refine ⟨(n6.own ffl nfb nfg gf6).wk (by omega),(by rw [zaac]; (try dsimp only); rw [hq1]; simp [nV]:_=some (HO.lst (List.map nV (fs++[q1])))),by simp [lf5],bf5.snoc hq2⟩
     ·obtain ⟨q1,hq1,hq2⟩:∃ q1:Nat,(if (xs.length:Int) - 1 - z / 2 % 4 > 0 then (xs.length:Int) - 1 - z / 2 % 4 else 0)=(q1:Int)∧q1 < gs.length:=by
       refine ⟨(if (xs.length:Int) - 1 - z / 2 % 4 > 0 then (xs.length:Int) - 1 - z / 2 % 4 else 0).toNat,?_,?_⟩ <;> split <;> omega
      walk_at "rd"
      refine ⟨(n6.own ffl nfb nfg gf6).wk (by omega),(by rw [zaac]; (try dsimp only); rw [hq1]; simp [nV]:_=some (HO.lst (List.map nV (fs++[q1])))),by simp [lf5],bf5.snoc hq2⟩
    ·rintro σ H5 ⟨fs,v2,v5,rfl,n5,gf5,lf5,bf5⟩
     have lf5:fs.length=arW x2:=by simpa using lf5
     have gl5:=n5.gl
     obtain ⟨g,eg,g1,g2,g3⟩:=mkG hx2 lf5 bf5.of
     walk_at "rd"
     rename_i e1 he1 e2 he2 e3 he3
     have n7:=((n5.same (Ch.new he1 (HO.lst [V.str x2]))).same (Ch.new he2 (HO.lst ([V.str x2]++List.map nV fs)))).same (Ch.new he3 (HO.tup ([V.str x2]++List.map nV fs)))
     have n8:=n7.push (g:=g) nb fg (by rw [zaac,eg]; rfl) g1 g2
     exact ⟨n8.wk (by omega),by simp; omega,kp.push _⟩
  ·skip
   rintro σ H' ⟨gs,xs,u1,u2,u3,u4,u5,rfl,n,hl,kp⟩
   have hl:gs.length=ins + keeps + many:=by simpa using hl
   have n:=n.wk (B':=108) (by simp; omega)
   walk_at "rd"
   refine zabw (fun i σ H'=>∃ gs xs u1,σ=[some (.ref a),some (.ref b),some (.int (ins:Int)),some (.int (keeps:Int)),some (.int (many:Int)),some (.ref gl),u1,u2,u3,u4,u5,none]∧NS H H' b gl c (108 + i:Int) gs xs ins∧gs.length=ins + keeps + many∧KP gs ins (ins + keeps)) ⟨_,_,_,rfl,n.wk (by simp),hl,kp⟩ ?_ ?_
   ·skip
    rintro i σ H' hi' ⟨gs,xs,u1,rfl,n,hl,kp⟩
    have hi2:i < keeps:=by omega
    obtain ⟨ff,a0,hj⟩:=kp.of (ins + i) (by omega) (by omega)
    obtain ⟨f0,f1,_⟩:0≤ff∧ff < 2∧_:=n.ok _ _ hj
    obtain ⟨p,ep,hp⟩:=n.gg.at_ _ _ hj
    have hp:H' p=some (.tup [.str "keep",.int ff,.int a0]):=hp
    obtain ⟨c',hb1,hc1,hc2⟩:=n.at_
    have hS1:Scr K H' a ns:=hS.ch hb n.ch
    have hxl:=n.gg.len
    have gl1:=n.gl
    have hat:atI xs ((ins:Int) + (i:Int))=some (.ref p):=by
     have:=zacb ep
     rwa [Int.natCast_add] at this
    have hix:ixN xs.length ((ins:Int) + (i:Int))=some (ins + i):=by
     unfold ixN; rw [if_pos (by omega),if_pos (by omega)]; congr 1
    walk_at "rd"
    rename_i z H2 hz0 hz1 c2 hb2 tp htp
    have n2:=n.bump nb hb1 c2 hb2
    have h1:0≤z % (xs.length:Int):=Int.emod_nonneg _ (by omega)
    have h2:z % (xs.length:Int) < (xs.length:Int):=Int.emod_lt_of_pos _ (by omega)
    have n3:=n2.same (Ch.new htp (HO.tup [V.str (Str.ofString "keep"),V.int ff,V.int (z % (xs.length:Int))]))
    have gl3:=n3.gl
    have n4:=n3.set (g:=.keep ff (z % (xs.length:Int)).toNat) nb fg (by rw [zaac]; show _=some (HO.tup [_,_,V.int (((z % (xs.length:Int)).toNat:Nat):Int)]); rw [show (((z % (xs.length:Int)).toNat:Nat):Int)=z % (xs.length:Int) by omega]) hj ⟨f0,f1,by omega⟩ rfl (by omega)
    exact ⟨n4.wk (by omega),by simp [hl],kp.set⟩
   ·skip
    rintro σ H' ⟨gs,xs,u1,rfl,n,hl,kp⟩
    have n:=n.wk (B':=120) (by omega)
    obtain ⟨c',hb1,hc1,hc2⟩:=n.at_
    have hS1:Scr K H' a ns:=hS.ch hb n.ch
    have hxl:=n.gg.len
    walk_at "rd"
    rename_i ol hol z H2 hz0 hz1 c2 hb2
    obtain ⟨fol,ob,og⟩:=n.fresh hb hol
    have n2:=(n.same (Ch.new hol (HO.lst []))).bump nb (zab5 hol hb1) c2 hb2
    have o2:H2 ol=some (.lst (List.map nV [])):=c2.get zaac (by simpa using ob)
    refine zabw (fun j σ H5=>∃ os u6 u7,σ=[some (.ref a),some (.ref b),some (.int (ins:Int)),some (.int (keeps:Int)),some (.int (many:Int)),some (.ref gl),u6,u7,u3,u4,u5,some (.ref ol)]∧NS H H5 b gl c (121 + j:Int) gs xs ins∧H5 ol=some (.lst (List.map nV os))∧os.length≤j∧Below os gs.length) ⟨[],_,_,rfl,n2.wk (by omega),o2,by simp,.nil⟩ ?_ ?_
    ·rintro j σ H5 hj ⟨os,v2,v5,rfl,n5,gf5,lf5,bf5⟩
     have hj2:j < 4:=by omega
     obtain ⟨c5,hb5,hc5,hd5⟩:=n5.at_
     have hS5:Scr K H5 a ns:=hS.ch hb n5.ch
     have gl5:=n5.gl
     walk_at "rd"
     refine ite2 (fun hc=>?_) (fun hc=>?_)
     ·have hgp:0 < gs.length:=by
       have:0 < (xs.length:Int):=by simpa using hc
       omega
      walk_at "rd"
      rename_i z H6 hz0 hz1 c6 hb6
      have n6:=n5.bump nb hb5 c6 hb6
      have gl6:=n6.gl
      have gf6:H6 ol=some (.lst (List.map nV os)):=c6.get gf5 (by simpa using ob)
      refine ite2 (fun he=>?_) (fun he=>?_)
      ·obtain ⟨q1,hq1,hq2⟩:∃ q1:Nat,z / 2 % (xs.length:Int)=(q1:Int)∧q1 < gs.length:=by
        have h1:0≤z / 2 % (xs.length:Int):=Int.emod_nonneg _ (by omega)
        have h2:z / 2 % (xs.length:Int) < (xs.length:Int):=Int.emod_lt_of_pos _ (by omega)
        exact ⟨(z / 2 % (xs.length:Int)).toNat,by omega,by omega⟩
       walk_at "rd"
       refine ⟨(n6.own fol ob og gf6).wk (by omega),(by rw [zaac]; (try dsimp only); rw [hq1]; simp [nV]:_=some (HO.lst (List.map nV (os++[q1])))),by simp; omega,bf5.snoc hq2⟩
      ·obtain ⟨q1,hq1,hq2⟩:∃ q1:Nat,(xs.length:Int) - 1 - z / 2 % (if (xs.length:Int) < 3 then (xs.length:Int) else 3)=(q1:Int)∧q1 < gs.length:=by
        have h1:0≤z / 2 % (if (xs.length:Int) < 3 then (xs.length:Int) else 3):=Int.emod_nonneg _ (by split <;> omega)
        have h2:z / 2 % (if (xs.length:Int) < 3 then (xs.length:Int) else 3) < (if (xs.length:Int) < 3 then (xs.length:Int) else 3):=Int.emod_lt_of_pos _ (by split <;> omega)
        have h3:(if (xs.length:Int) < 3 then (xs.length:Int) else 3)≤(xs.length:Int):=by split <;> omega
        refine ⟨((xs.length:Int) - 1 - z / 2 % (if (xs.length:Int) < 3 then (xs.length:Int) else 3)).toNat,?_,?_⟩ <;> (generalize (if (xs.length:Int) < 3 then (xs.length:Int) else 3)=W3 at *; generalize z / 2 % W3=Y3 at *; omega)
       walk_at "rd"
       refine ⟨(n6.own fol ob og gf6).wk (by omega),(by rw [zaac]; (try dsimp only); rw [hq1]; simp [nV]:_=some (HO.lst (List.map nV (os++[q1])))),by simp; omega,bf5.snoc hq2⟩
     ·refine ⟨os,_,_,rfl,n5.wk (by omega),gf5,by omega,bf5⟩
    ·rintro σ H5 ⟨os,v2,v5,rfl,n5,gf5,lf5,bf5⟩
     walk_at "rd"
     rename_i R hR
     exact q R gl ol gs xs os _ ((n5.same (Ch.new hR _)).wk (by omega)) zaac (by omega) (zab5 hR gf5) bf5.of (by omega) fg fol
end
end

section
def Gt.src:Gt→Bool
 | .inp=>true
 | .keep _ _=>true
 | _=>false
end

section
theorem zakv (g:Gt):∃ (wd:Str) (rs:List V),g.vs=.str wd :: rs∧inV (.str wd) [.str "in",.str "keep"]=g.src:=by
 cases g <;> refine ⟨_,_,rfl,?_⟩ <;> first | (show inV _ _=true; decide +kernel) | (show inV _ _=false; decide +kernel)
section
variable {P:Program}{w:World}{K:PySem.W.Frag}{mg:Str→Option Value}{base:Heap}{f:Addr}{fd:FuncData}{k:Nat}
theorem zad0:Nd "is_source" := by decide +kernel
theorem zajz:Nd "feeds_of" := by decide +kernel
theorem av12:AF (defScope (top 12)) ["gate"]:=⟨by decide +kernel⟩
def spSrc:Sp:=fun vs H Q _=>∃ (p:Addr) (g:Gt),vs=[.ref p]∧H p=some (.tup g.vs)∧∀ H',Ch [] H H'→Q (.bl g.src) H'
theorem scSrc:FnScope ["gate"] ["gate"] (defScope (top 12)):=⟨rfl,rfl,rfl,by decide +kernel,rfl,by decide +kernel,by decide +kernel⟩
theorem zaua (F:Fun K "is_source" "is_source" (top 12) f fd):FnOk P w K mg base CX0 (k + 1) f fd ["gate"] spSrc:=by
 have nd:=scSrc.nd
 refine F.ok scSrc (fun vs H Q E h=>by obtain ⟨p,g,rfl,_⟩:=h; rfl) (fun cdv A outer s0 H vs Q E hr h=>?_)
 obtain ⟨p,g,rfl,hp,q⟩:=h
 refine ⟨_,(Pr.h (zaag (zaas (zabu zaed (zaa2 zabo (qv av12 0 rfl) zaad (fun _ _=>rfl)) (zabh (zaaa zaa1 (zaaa zaa1 zaab zaaj) zaaj)) rfl)))),?_⟩
 (try dsimp only [cxOf])
 obtain ⟨wd,rs,ev,hs⟩:=zakv g
 rw [ev] at hp
 walk_at "rd"
 rename_i T hT
 rw [hs]
 exact q _ (Ch.new hT _)
theorem av13:AF (defScope (top 13)) ["net", "number", "gate"]:=⟨by decide +kernel⟩
theorem gl13:AG (defScope (top 13)) ["is_source", "feeds_of"]:=⟨by decide +kernel⟩
def fwn (g:Gt):List Nat:=if g.src then [] else g.feeds
def spFw (CN:Addr):Sp:=fun vs H Q _=>∃ (nt gp op:Addr) (gs:List Gt) (xs:List V) (os:List Nat) (n:Nat) (g:Gt),vs=[.ref nt,.int (n:Int)]∧NetAt CN H nt gp op gs xs os∧gs[n]?=some g∧∀ (r:Addr) (H':Hp),Ch [] H H'→H r=none→H' r=some (.lst ((fwn g).map nV))→Q (.ref r) H'
theorem scFw:FnScope ["net", "number", "gate"] ["net", "number"] (defScope (top 13)):=⟨rfl,rfl,rfl,by decide +kernel,rfl,by decide +kernel,by decide +kernel⟩
theorem zavg {CN:Addr} (F:Fun K "feeds_within" "feeds_within" (top 13) f fd) (cl:Cls K CN) (nG:NoAttr K CN "gates") (Dis_source:DefOk P w K mg base CX0 k "is_source" ["gate"] spSrc) (Dfeeds_of:DefOk P w K mg base CX0 k "feeds_of" ["gate"] spFeeds):FnOk P w K mg base CX0 (k + 1) f fd ["net", "number"] (spFw CN):=by
 have nd:=scFw.nd
 refine F.ok scFw (fun vs H Q E h=>by obtain ⟨nt,gp,op,gs,xs,os,n,g,rfl,_⟩:=h; rfl) (fun cdv A outer s0 H vs Q E hr h=>?_)
 obtain ⟨nt,gp,op,gs,xs,os,n,g,rfl,na,eg,q⟩:=h
 refine ⟨_,(Pr.h (zaah (zaat (i:=2) nd rfl (av13.l 2 rfl) (zaa2 zabo (zabt (qv av13 0 rfl) rfl) (qv av13 1 rfl) (fun _ _=>rfl))) (zaag (zaas (zadb (zabj (zaap Dis_source hr (gl13.g 0 rfl) pass0 (zaaa (qv av13 2 rfl) zaab zaae) zad0)) (zabc zaab) (zaap Dfeeds_of hr (gl13.g 1 rfl) pass0 (zaaa (qv av13 2 rfl) zaab zaae) zajz)))))),?_⟩
 (try dsimp only [cxOf])
 obtain ⟨⟨d1,ob⟩,gt,gg,_⟩:=id na
 have f1:=zadq gp op
 obtain ⟨p,ep,hp⟩:=gg.at_ n g eg
 have at1:=zacb ep
 walk_at "rd"
 rename_i H1 c1
 cases e:g.src with
 | true =>
  refine iteT ?_
  walk_at "rd"
  rename_i r hr1
  exact q r _ (c1.trans (Ch.new hr1 _)) (chFree c1 hr1) (by rw [zaac]; simp [fwn,e])
 | false =>
  have hp1:=c1.get hp (by simp)
  refine iteF ?_
  walk_at "rd"
  rename_i r H2 c2 fr hr2
  exact q r _ (c1.trans c2) (chFree c1 fr) (by rw [hr2]; simp [fwn,e])
end
end

section
local macro_rules | `(tactic| walk_at "user")=>`(tactic| first
 | (apply zacy; (focus walk_at "get"); (focus with_reducible assumption))
 | (apply zadd; (focus walk_at "get"); (focus with_reducible assumption))
 | (apply dputI; (focus walk_at "get"); (focus walk_at "arith")))
theorem SqX.ch {kd:SK}{H H':Hp}{a:Addr}{xs:List V} (h:SqX kd H a xs) (c:Ch [] H H'):SqX kd H' a xs:=by
 cases kd <;> exact c.get h (by simp)
theorem SqX.sq {kd:SK}{K:PySem.W.Frag}{H:Hp}{a:Addr}{xs:List V} (h:SqX kd H a xs):Sq kd K H a xs:=by
 cases kd with
 | list=>exact SqL.of h
 | tuple=>exact SqT.of h
theorem zacj {α β:Type}{R S:α→β→Prop} (h:∀ x y,R x y→S x y):∀ {xs:List α}{ys:List β},Paired R xs ys→Paired S xs ys
 | _,_,.nil=>.nil
 | _,_,.cons a t=>.cons (h _ _ a) (zacj h t)
theorem zadr {α β:Type}{R:α→β→Prop}{x:α}{y:β} (h:R x y):∀ {xs:List α}{ys:List β},Paired R xs ys→Paired R (xs++[x]) (ys++[y])
 | _,_,.nil=>.cons h .nil
 | _,_,.cons a t=>.cons a (zadr h t)
def kt (n:Nat):Key × V:=(.inl (n:Int),.bl true)
theorem zakw:∀ (ks:List Nat) (n:Nat),valV (ks.map kt) (.inl (n:Int))=if n∈ks then some (.bl true) else none
 | [],n=>rfl
 | k :: ks,n=>by
  have ih:=zakw ks n
  by_cases e:n=k
  ·subst e
   simp [valV,kt]
  ·have:¬ (k:Int)=(n:Int):=fun z=>e (by omega)
   rw [List.map_cons]
   simp [valV,kt,this,e,Ne.symm e] at ih ⊢
   first | exact ih | (rw [ih])
theorem zaqj {ks:List Nat}{n:Nat} (h:n ∉ ks):putK (ks.map kt) (.inl (n:Int)) (.bl true)=(ks++[n]).map kt:=by
 rw [zaff _ (by rw [zakw,if_neg h]),List.map_append]
 rfl
theorem zane:∀ (l:List Nat) (acc:List (Key × V)) (n:Nat),valV (mrg acc (l.map kt)) (.inl (n:Int))=if n∈l then some (.bl true) else valV acc (.inl (n:Int))
 | [],acc,n=>rfl
 | k :: l,acc,n=>by
  show valV (mrg (putK acc (.inl (k:Int)) (.bl true)) (l.map kt)) _=_
  rw [zane l,zaki]
  by_cases e:n∈l
  ·simp [e]
  ·by_cases e2:n=k
   ·subst e2; simp
   ·have:¬ ((Sum.inl (n:Int):Key)=Sum.inl (k:Int)):=fun z=>e2 (by have:=Sum.inl.inj z; omega)
    simp [e,e2,this]
theorem zage:∀ (N:Nat) (l:List Nat),l.Nodup→(∀ n∈l,n < N)→l.length≤N
 | 0,[],_,_=>Nat.le_refl _
 | 0,x :: l,_,h=>absurd (h x (by simp)) (by omega)
 | N + 1,l,nd,h=>by
  have h1:=zage N (l.filter (· != N)) (nd.filter _) fun n m=>by
   obtain ⟨m1,m2⟩:=List.mem_filter.mp m
   have:=h n m1
   simp at m2
   omega
  have h2:l.length≤(l.filter (· != N)).length + 1:=by
   clear h h1
   induction l with
   | nil=>simp
   | cons x l ih =>
    obtain ⟨a,b⟩:=List.nodup_cons.mp nd
    by_cases e:x=N
    ·subst e
     have:l.filter (· != x)=l:=List.filter_eq_self.mpr fun y hy=>by
      have:y≠x:=fun z=>a (z ▸ hy)
      simp [this]
     simp [List.filter_cons,this]
    ·have:=ih b
     simp [List.filter_cons,e]
     omega
  omega
inductive Dn (gs:List Gt) (st:List Nat) (g:Nat):Nat→Prop where
 | top:g ∉ st→Dn gs st g g
 | fed {n m:Nat}{h:Gt}:Dn gs st g m→gs[m]?=some h→n∈fwn h→n ∉ st→Dn gs st g n
structure Gy (gs:List Gt) (st:List Nat) (g:Nat) (ks vs:List Nat):Prop where
 nd:ks.Nodup
 lt:∀ n∈ks,n < gs.length
 top:g ∉ st→g∈ks∨g∈vs
 cl:∀ (n:Nat) (h:Gt) (a:Nat),n∈ks→gs[n]?=some h→a∈fwn h→a ∉ st→a∈ks∨a∈vs
 rc:∀ n∈ks,Dn gs st g n
 ws:∀ n∈vs,n < gs.length∧(n ∉ st→Dn gs st g n)
theorem Gy.start {gs:List Gt}{st:List Nat}{g:Nat} (h:g < gs.length):Gy gs st g [] [g] :=
 ⟨List.nodup_nil,by simp,fun _=>by simp,by simp,by simp,fun n m=>by rw [List.mem_singleton.mp m]; exact ⟨h,.top⟩⟩
theorem Gy.skip {gs:List Gt}{st:List Nat}{g n:Nat}{ks vs:List Nat} (h:Gy gs st g ks (vs++[n])) (hn:n∈ks∨n∈st):Gy gs st g ks vs:=by
 refine ⟨h.nd,h.lt,fun z=>?_,fun m b a x y z u=>?_,h.rc,fun m z=>h.ws m (List.mem_append_left _ z)⟩
 ·rcases h.top z with e | e
  ·exact .inl e
  ·rcases List.mem_append.mp e with e | e
   ·exact .inr e
   ·rw [List.mem_singleton.mp e] at z ⊢; exact .inl (hn.resolve_right z)
 ·rcases h.cl m b a x y z u with e | e
  ·exact .inl e
  ·rcases List.mem_append.mp e with e | e
   ·exact .inr e
   ·rw [List.mem_singleton.mp e] at u ⊢; exact .inl (hn.resolve_right u)
theorem Gy.take {gs:List Gt}{st:List Nat}{g n:Nat}{ks vs:List Nat}{b:Gt} (h:Gy gs st g ks (vs++[n])) (hk:n ∉ ks) (hs:n ∉ st) (hg:gs[n]?=some b) (hf:∀ a∈fwn b,a < gs.length):Gy gs st g (ks++[n]) (vs++fwn b):=by
 have dn:=(h.ws n (by simp)).2 hs
 refine ⟨?_,fun m z=>?_,fun z=>?_,fun m c a x y z u=>?_,fun m z=>?_,fun m z=>?_⟩
 ·exact List.nodup_append.mpr ⟨h.nd,by simp,fun x hx y hy=>by rw [List.mem_singleton.mp hy]; exact fun e=>hk (e ▸ hx)⟩
 ·rcases List.mem_append.mp z with e | e
  ·exact h.lt m e
  ·rw [List.mem_singleton.mp e]; exact (h.ws n (by simp)).1
 ·rcases h.top z with e | e
  ·exact .inl (List.mem_append_left _ e)
  ·rcases List.mem_append.mp e with e | e
   ·exact .inr (List.mem_append_left _ e)
   ·exact .inl (List.mem_append_right _ e)
 ·rcases List.mem_append.mp x with x | x
  ·rcases h.cl m c a x y z u with e | e
   ·exact .inl (List.mem_append_left _ e)
   ·rcases List.mem_append.mp e with e | e
    ·exact .inr (List.mem_append_left _ e)
    ·exact .inl (List.mem_append_right _ e)
  ·rw [List.mem_singleton.mp x,hg] at y
   cases y
   exact .inr (List.mem_append_right _ z)
 ·rcases List.mem_append.mp z with e | e
  ·exact h.rc m e
  ·rw [List.mem_singleton.mp e]; exact dn
 ·rcases List.mem_append.mp z with e | e
  ·exact h.ws m (List.mem_append_left _ e)
  ·exact ⟨hf m e,fun u=>.fed dn hg e u⟩
theorem Gy.done {gs:List Gt}{st:List Nat}{g:Nat}{ks:List Nat} (h:Gy gs st g ks []) (n:Nat):n∈ks↔Dn gs st g n:=by
 refine ⟨h.rc n,fun d=>?_⟩
 induction d with
 | top a=>exact (h.top a).resolve_right (by simp)
 | fed _ a b c ih=>exact (h.cl _ _ _ ih a b c).resolve_right (by simp)
theorem zakx {ns:List Int}{ks:List Nat} (h:ns.Perm (ks.map fun n:Nat=>(n:Int))):∃ ks':List Nat,ns=ks'.map (fun n:Nat=>(n:Int))∧ks'.Perm ks:=by
 refine ⟨ns.map Int.toNat,?_,?_⟩
 ·rw [List.map_map]
  refine (List.map_id ns).symm.trans (List.map_congr_left fun x hx=>?_)
  obtain ⟨k,_,rfl⟩:=List.mem_map.mp (h.mem_iff.mp hx)
  rfl
 ·have:=h.map Int.toNat
  rw [List.map_map] at this
  have e:(Int.toNat ∘ fun n:Nat=>(n:Int))=id:=funext fun n=>rfl
  rw [e,List.map_id] at this
  exact this
theorem zaj0 (g:Gt):(fwn g).length≤3:=by
 unfold fwn
 split
 ·simp
 ·cases g <;> simp [Gt.feeds]
section
variable {P:Program}{w:World}{K:PySem.W.Frag}{mg:Str→Option Value}{base:Heap}{f:Addr}{fd:FuncData}{k:Nat}
theorem zad1:bootBuiltins "dict" = some (.type "dict"):=by decide +kernel
theorem zad2:("dict" : Str) ≠ "__name__" := by decide +kernel
theorem zad3:Nd "dict" := by decide +kernel
theorem zac5:Nd "feeds_within" := by decide +kernel
theorem zair:bootBuiltins "sorted" = some (.builtin "sorted"):=by decide +kernel
theorem zais:("sorted" : Str) ≠ "__name__" := by decide +kernel
theorem zait:Nd "sorted" := by decide +kernel
theorem av14:AF (defScope (top 14)) ["net", "gate", "stops", "stopped", "seen", "waiting", "number"]:=⟨by decide +kernel⟩
theorem gl14:AG (defScope (top 14)) ["dict", "len", "feeds_within", "sorted"]:=⟨by decide +kernel⟩
def zaj1:Scope:={ kind:=PySem.ScopeKind.function,names:=[(PySem.Str.ofString ".0",PySem.NameKind.local),(PySem.Str.ofString "number",PySem.NameKind.local)],isGenerator:=false,isCoroutine:=false,more:=[]:PySem.Scope }
theorem zanf:CompOk zaj1 (defScope (top 14)) (["number"]:List Str) (["net", "gate", "stops", "stopped", "seen", "waiting", "number"]:List Str) [] (["number"]:List Str):=compOk rfl (by decide +kernel) (by decide +kernel) (by decide +kernel) (by decide +kernel) rfl (by decide +kernel)
theorem zang:AK (relab zaj1 (defScope (top 14))) ["number"]:=⟨by decide +kernel⟩
theorem zase:AV (relab zaj1 (defScope (top 14))) ["number"]:=⟨by decide +kernel⟩
def spGd (CN:Addr):Sp:=fun vs H Q _=>∃ (kd:SK) (nt gp op sp:Addr) (gs:List Gt) (xs:List V) (os st:List Nat) (g:Nat),vs=[.ref nt,.int (g:Int),.ref sp]∧NetAt CN H nt gp op gs xs os∧SqX kd H sp (st.map nV)∧g < gs.length∧(∀ (i:Nat) (b:Gt),gs[i]?=some b→∀ a∈fwn b,a < gs.length)∧gs.length≤200∧st.length≤100 ∧
 ∀ (r:Addr) (ks:List Nat) (H':Hp),Ch [] H H'→H r=none→H' r=some (.lst (ks.map nV))→ks.length≤gs.length→ks.Nodup→(∀ n,n∈ks↔Dn gs st g n)→Q (.ref r) H'
theorem scGd:FnScope ["net", "gate", "stops", "stopped", "seen", "waiting", "number"] ["net", "gate", "stops"] (defScope (top 14)):=⟨rfl,rfl,rfl,by decide +kernel,rfl,by decide +kernel,by decide +kernel⟩
theorem zavh {CN:Addr} (F:Fun K "gates_down" "gates_down" (top 14) f fd) (Dfeeds_within:DefOk P w K mg base CX0 k "feeds_within" ["net", "number"] (spFw CN)) (z_dict:mg "dict" = none) (z_sorted:mg "sorted" = none) (z_len:mg "len" = none):FnOk P w K mg base CX0 (k + 1) f fd ["net", "gate", "stops"] (spGd CN):=by
 have nd:=scGd.nd
 refine F.ok scGd (fun vs H Q E h=>by obtain ⟨kd,nt,gp,op,sp,gs,xs,os,st,g,rfl,_⟩:=h; rfl) (fun cdv A outer s0 H vs Q E hr h=>?_)
 obtain ⟨kd,nt,gp,op,sp,gs,xs,os,st,g,rfl,na,hs,hg,lf,zg,zs,q⟩:=h
 have hu:=zadw hr
 refine ⟨_,(Pr.h (zaav (zaat (i:=3) nd rfl (av14.l 3 rfl) (zabp (zag0 rfl) (gl14.g 0 rfl) z_dict zad1 (zaaa (zabl rfl zanf (zar0 K rfl kd (qv av14 2 rfl)) (fun _ _ _ _ _=>(zaar (i:=0) zanf.nd rfl (Or.inl (zang.k 0 rfl)) (Or.inr (zang.k 0 rfl)))) (fun _ _ _ _ _=>zab0) (fun _ _ _ _ _=>(zabh (zaaa (qw zase 0 rfl) (zaaa zab1 zaab zaaj) zaae)))) zaab zabe) zad2 zad3)) (zaah (zaat (i:=4) nd rfl (av14.l 4 rfl) zaei) (zaav (zaat (i:=5) nd rfl (av14.l 5 rfl) (zabc (zaaa (qv av14 1 rfl) zaab zaae))) (zaah (zady PassesOwn.never (zaaq zafk (zaaf zaai (gl14.g 1 rfl) z_len PySem.boot_len (zaaa (qv av14 5 rfl) zaab zaae) zaa6 zaa7) zaad (nomark _)) (zaah (zaat (i:=6) nd rfl (av14.l 6 rfl) (zajp (qv av14 5 rfl))) (zaag (zaa4 (zacg (zad7 (zach hu (qv av14 6 rfl) (qv av14 4 rfl)) (zadj (zach hu (qv av14 6 rfl) (qv av14 3 rfl))))) (zaah (zacw hu (qv av14 4 rfl) (qv av14 6 rfl) zab1 rfl) (zaag (zabg (zacf PySem.F.plainAttrs_list PySem.F.slot_list_extend PySem.F.type_list_extend zal8 (qv av14 5 rfl) (zaaa (zaap Dfeeds_within hr (gl14.g 2 rfl) pass0 (zaaa (qv av14 0 rfl) (zaaa (qv av14 6 rfl) zaab zaae) zaae) zac5) zaab zac2))))) zaau)))) (zaag (zaas (zaaf (zaim rfl) (gl14.g 3 rfl) z_sorted zair (zaaa (qv av14 4 rfl) zaab zaae) zais zait)))))))),?_⟩
 (try dsimp only [cxOf])
 refine zaa9 (fun σ H'=>∃ sd kvs,σ=[some (.ref nt),some (.int (g:Int)),some (.ref sp),some (.ref sd),none,none,none]∧Ch [] H H'∧H' sd=some (.dK kvs)∧∀ n:Nat,valV kvs (.inl (n:Int))=if n∈st then some (.bl true) else none) ?_ ?_
 ·walk_at "rd"
  refine ⟨⟨_,hs.sq⟩,?_⟩
  refine zar1 (st.map nV) (fun i ys σ H'=>∃ (ts:List Addr) (u:Option V),σ=[u]∧ys=ts.map V.ref∧Ch [] H H'∧ts.length=i∧Paired (fun kv t=>H' t=some (.tup [kV kv.1,kv.2])) ((st.take i).map kt) ts) (by rw [sizeLine_eq,List.length_map]; omega) ⟨[],_,rfl,rfl,Ch.refl _ _,rfl,.nil⟩ ?_ ?_ ?_
  ·rintro i ys σ H' hi ⟨ts,u,rfl,rfl,c,lt,_⟩
   exact ⟨by simp [lt],(hs.ch c).sq⟩
  ·rintro i ys σ H' x hx ⟨ts,u,rfl,rfl,c,lt,pr⟩
   rw [List.getElem?_map] at hx
   cases e:st[i]? with
   | none=>rw [e] at hx; cases hx
   | some n =>
    rw [e] at hx
    cases hx
    walk_at "rd"
    rename_i t ht
    refine ⟨(List.map_append (f:=V.ref) (l₁:=ts) (l₂:=[t])).symm,c.trans (Ch.new ht _),by simp [lt],?_⟩
    rw [List.take_add_one,e,List.map_append]
    exact zadr (x:=kt n) (y:=t) (by exact zaac) (zacj (fun _ _ z=>zab5 ht z) pr)
  rintro ys σ H' ⟨ts,u,rfl,rfl,c,lt,pr⟩
  rw [List.length_map,List.take_length] at pr
  intro D hD
  refine ⟨D,ts,st.map kt,rfl,zaac,zacj (fun _ _ z=>zab5 hD z) pr,by rw [List.length_map]; omega,fun d hd=>?_⟩
  exact ⟨d,_,rfl,(c.trans (Ch.new hD _)).trans (Ch.new hd _),zaac,fun n=>zane st [] n⟩
 rintro σ H1 ⟨sd,sk,rfl,c1,hs1,vs⟩
 walk_at "rd"
 rename_i d hd
 have fd0:H d=none:=chFree c1 hd
 refine zaa9 (fun σ H'=>∃ wl,σ=[some (.ref nt),some (.int (g:Int)),some (.ref sp),some (.ref sd),some (.ref d),some (.ref wl),none]∧Ch [] H H'∧Ch [d] H1 H'∧H' d=some (.dK [])∧H' wl=some (.lst ([g].map nV))∧H1 wl=none∧d≠wl) ?_ ?_
 ·walk_at "rd"
  rename_i wl hwl
  exact ⟨freeN hd hwl,zaao zaac hwl⟩
 rintro σ H2 ⟨wl,rfl,c2,c12,hd2,hw2,fwl1,ndw⟩
 have fwl:H wl=none:=chFree c1 fwl1
 have nsd:sd≠d:=zaao hs1 hd
 have nsw:sd≠wl:=zaao hs1 fwl1
 have hs2:=c12.get hs1 (by simpa using nsd)
 refine ⟨(fun m σ H'=>∃ (ks ws:List Nat) (u:Option V),σ=[some (.ref nt),some (.int (g:Int)),some (.ref sp),some (.ref sd),some (.ref d),some (.ref wl),u]∧Ch [] H H'∧H' d=some (.dK (ks.map kt))∧H' sd=some (.dK sk)∧Gy gs st g ks ws∧H' wl=some (.lst (ws.map nV))∧ks.length≤gs.length∧m=ws.length + 4 * (gs.length - ks.length)∧m≤1000),⟨_,[],[g],_,rfl,c2,hd2,hs2,Gy.start hg,hw2,Nat.zero_le _,rfl,by simp; omega⟩,?_⟩
 rintro m σ H1 ⟨ks,ws,u,rfl,c,hk,hsd,gy,hw,kl,rfl,hm⟩
 walk_at "rd"
 refine ite2 (fun hc=>?_) (fun hc=>?_)
 ·refine ⟨_,fun σ' H' z=>z,?_⟩
  have hne:ws≠[]:=by rintro rfl; simp at hc
  obtain ⟨ws,n,rfl⟩:∃ ws' n,ws=ws'++[n]:=⟨ws.dropLast,ws.getLast hne,(List.dropLast_concat_getLast hne).symm⟩
  have hla:((ws++[n]).map nV)[((ws++[n]).map nV).length - 1]?=some (nV n):=by simp
  have edl:((ws++[n]).map nV).dropLast=ws.map nV:=by rw [List.map_append]; exact List.dropLast_concat
  have cP:=Ch.own (o:=.lst (ws.map nV)) fwl c
  have hkP:upd H1 wl (.lst (ws.map nV)) d=some (.dK (ks.map kt)):=zabs ndw hk
  have hsP:upd H1 wl (.lst (ws.map nV)) sd=some (.dK sk):=zabs nsw hsd
  have hwP:upd H1 wl (.lst (ws.map nV)) wl=some (.lst (ws.map nV)):=zaac
  refine ⟨_,rfl,.inl ⟨rfl,_,SqL.of hw⟩,wl,_,_,rfl,rfl,hw,hla,?_⟩
  rw [edl]
  generalize upd H1 wl (.lst (ws.map nV))=H3 at cP hkP hwP hsP ⊢
  clear hk hw c c2 hd2 hw2 hsd hs2 c12 hs1 hd hs
  have nlt:=(gy.ws n (by simp)).1
  obtain ⟨b,egn⟩:∃ b,gs[n]?=some b:=⟨_,List.getElem?_eq_getElem nlt⟩
  have dv:=zakw ks n
  have sv:=vs n
  rw [List.length_append,List.length_singleton] at hm ⊢
  have kl9:(ks.map kt).length≤200:=by rw [List.length_map]; omega
  by_cases e1:n∈ks
  ·rw [if_pos e1] at dv
   unfold nV
   walk_at "rd"
   exact ⟨(by omega:ws.length + 4 * (gs.length - ks.length) < ws.length + 1 + 4 * (gs.length - ks.length)),ks,ws,_,rfl,cP,hkP,hsP,gy.skip (.inl e1),hwP,kl,rfl,by omega⟩
  ·rw [if_neg e1] at dv
   by_cases e2:n∈st
   ·rw [if_pos e2] at sv
    unfold nV
    walk_at "rd"
    exact ⟨(by omega:ws.length + 4 * (gs.length - ks.length) < ws.length + 1 + 4 * (gs.length - ks.length)),ks,ws,_,rfl,cP,hkP,hsP,gy.skip (.inr e2),hwP,kl,rfl,by omega⟩
   ·rw [if_neg e2] at sv
    have gy2:=gy.take e1 e2 egn (lf n b egn)
    have kl2:=zage _ _ gy2.nd gy2.lt
    rw [List.length_append,List.length_singleton] at kl2
    have fl3:=zaj0 b
    have cD:=Ch.own (o:=.dK (putK (ks.map kt) (.inl (n:Int)) (.bl true))) fd0 cP
    obtain ⟨H4,e4⟩:∃ H4,H4=upd H3 d (.dK (putK (ks.map kt) (.inl (n:Int)) (.bl true))):=⟨_,rfl⟩
    have na4:NetAt CN H4 nt gp op gs xs os:=by
     obtain ⟨⟨dx,ob⟩,gt,gg,ot⟩:=na
     rw [e4]
     exact ⟨⟨dx,cD.get ob (by simp)⟩,cD.get gt (by simp),gg.tu (Tu.same cD),cD.get ot (by simp)⟩
    rw [← e4] at cD
    have hw4:H4 wl=some (.lst (ws.map nV)):=by rw [e4]; exact zabs (Ne.symm ndw) hwP
    have hk4:H4 d=some (.dK ((ks++[n]).map kt)):=by rw [e4,zaac,zaqj e1]
    have hs4:H4 sd=some (.dK sk):=by rw [e4]; exact zabs nsd hsP
    unfold nV at hwP hw4 ⊢
    walk_at "rd"
    rw [← e4]
    refine ⟨na4,egn,fun r H5 c5 fr hr5=>?_⟩
    have hw5:=c5.get hw4 (by simp)
    unfold nV at hr5
    clear hkP hwP hsP e4 hw4 na4
    walk_at "rd"
    exact ⟨(by simp; omega:(ws++fwn b).length + 4 * (gs.length - (ks++[n]).length) < ws.length + 1 + 4 * (gs.length - ks.length)),ks++[n],ws++fwn b,_,rfl,Ch.own fwl (cD.trans c5),zabs ndw (c5.get hk4 (by simp)),zabs nsw (c5.get hs4 (by simp)),gy2,by rw [zaac,List.map_append],by simp; omega,rfl,by simp; omega⟩
 ·have hnil:ws=[]:=by
   cases ws with
   | nil=>rfl
   | cons _ _=>exact absurd hc (by simp)
  subst hnil
  walk_at "rd"
  refine ⟨(by simp [kt]:_=List.map Sum.inl (ks.map (fun n:Nat=>(n:Int)))),by rw [List.length_map]; omega,fun p ns' pm hp=>?_⟩
  obtain ⟨ks',rfl,pk⟩:=zakx pm
  exact q p ks' _ (c.trans (Ch.new hp _)) (chFree c hp) (by rw [zaac,List.map_map]; rfl) (by rw [pk.length_eq]; exact kl) (pk.nodup_iff.mpr gy.nd) fun n=>pk.mem_iff.trans (gy.done n)
end
end

section
structure GB (H0 H':Hp) (b gl:Addr) (c B:Int) (gs:List Gt) (xs:List V):Prop where
 ch:Ch [b] H0 H'
 at_:∃ c',H' b=some (.lst [.int c'])∧c≤c'∧c'≤c + B
 gl:H' gl=some (.lst xs)
 gg:Gs H' gs xs
 ok:Oks gs
theorem NS.gb {H0 H':Hp}{b gl:Addr}{c B:Int}{gs:List Gt}{xs:List V}{ins:Nat} (n:NS H0 H' b gl c B gs xs ins):GB H0 H' b gl c B gs xs:=⟨n.ch,n.at_,n.gl,n.gg,n.ok⟩
theorem GB.bump {H0 H' H1:Hp}{b gl:Addr}{c c' B:Int}{gs:List Gt}{xs:List V} (n:GB H0 H' b gl c B gs xs) (nb:gl≠b) (hb:H' b=some (.lst [.int c'])) (c1:Ch [b] H' H1) (hb1:H1 b=some (.lst [.int (c' + 1)])):GB H0 H1 b gl c (B + 1) gs xs:=by
 obtain ⟨c'',h1,h2,h3⟩:=n.at_
 rw [hb] at h1
 injection h1 with h1; injection h1 with h1; injection h1 with h1 _; injection h1 with h1
 subst h1
 exact ⟨n.ch.trans c1,⟨c' + 1,hb1,by omega,by omega⟩,c1.get n.gl (by simpa using nb),n.gg.tu (Tu.lst c1 hb),n.ok⟩
theorem GB.wk {H0 H':Hp}{b gl:Addr}{c B B':Int}{gs:List Gt}{xs:List V} (n:GB H0 H' b gl c B gs xs) (h:B≤B'):GB H0 H' b gl c B' gs xs:=by
 obtain ⟨c'',h1,h2,h3⟩:=n.at_
 exact ⟨n.ch,⟨c'',h1,h2,by omega⟩,n.gl,n.gg,n.ok⟩
theorem GB.same {H0 H' H1:Hp}{b gl:Addr}{c B:Int}{gs:List Gt}{xs:List V} (n:GB H0 H' b gl c B gs xs) (c1:Ch [] H' H1):GB H0 H1 b gl c B gs xs:=by
 obtain ⟨c'',h1,h2,h3⟩:=n.at_
 exact ⟨n.ch.trans (Ch.wk c1),⟨c'',c1.get h1 (by simp),h2,h3⟩,c1.get n.gl (by simp),n.gg.tu (Tu.same c1),n.ok⟩
theorem GB.push {H0 H':Hp}{b gl p:Addr}{c B:Int}{gs:List Gt}{xs:List V}{g:Gt} (n:GB H0 H' b gl c B gs xs) (nb:gl≠b) (fg:H0 gl=none) (hp:H' p=some (.tup g.vs)) (hg:g.ok gs.length (gs.length + 1)):GB H0 (upd H' gl (.lst (xs++[.ref p]))) b gl c B (gs++[g]) (xs++[.ref p]):=by
 obtain ⟨c'',h1,h2,h3⟩:=n.at_
 exact ⟨Ch.own fg n.ch,⟨c'',zabs nb.symm h1,h2,h3⟩,zaac,n.gg.push n.gl hp,n.ok.push hg⟩
theorem GB.new {H0 H':Hp}{b gl g2:Addr}{c B:Int}{gs gs2:List Gt}{xs xs2:List V} (n:GB H0 H' b gl c B gs xs) (h:H' g2=some (.lst xs2)) (g:Gs H' gs2 xs2) (o:Oks gs2):GB H0 H' b g2 c B gs2 xs2:=⟨n.ch,n.at_,h,g,o⟩
theorem GB.fresh {H0 H':Hp}{b gl p:Addr}{c B c0:Int}{gs:List Gt}{xs:List V} (n:GB H0 H' b gl c B gs xs) (hb:H0 b=some (.lst [.int c0])) (h:H' p=none):H0 p=none∧p≠b∧p≠gl:=by
 have f:H0 p=none:=by
  cases e:H0 p with
  | none=>rfl
  | some o =>
   by_cases z:p=b
   ·obtain ⟨c9,h9,_⟩:=n.at_
    rw [z,h9] at h; cases h
   ·have:=n.ch.get e (by simpa using z)
    rw [this] at h; cases h
 exact ⟨f,(zaao hb f).symm,(zaao n.gl h).symm⟩
theorem zaub {m:Int} (h0:0≤m) (h1:m < 3):∃ (x:Str) (mk:Nat→Nat→Gt),atI [V.str "and",V.str "or",V.str "xor"] m=some (.str x)∧(∀ a c,(mk a c).vs=[.str x,nV a,nV c])∧(∀ a c i n,a < i→c < i→(mk a c).ok i n)∧(∀ a c,(mk a c).feeds=[a,c])∧∀ a c,(mk a c).src=false:=by
 have:m=0∨m=1∨m=2:=by omega
 rcases this with rfl | rfl | rfl
 ·exact ⟨"and",.and,rfl,fun _ _=>rfl,fun _ _ _ _ h1 h2=>⟨h1,h2⟩,fun _ _=>rfl,fun _ _=>rfl⟩
 ·exact ⟨"or",.or,rfl,fun _ _=>rfl,fun _ _ _ _ h1 h2=>⟨h1,h2⟩,fun _ _=>rfl,fun _ _=>rfl⟩
 ·exact ⟨"xor",.xor,rfl,fun _ _=>rfl,fun _ _ _ _ h1 h2=>⟨h1,h2⟩,fun _ _=>rfl,fun _ _=>rfl⟩
theorem zaek (m:Int) {n:Nat} (h:0 < n):∃ q:Nat,m % (n:Int)=(q:Int)∧q < n:=by
 have h1:0≤m % (n:Int):=Int.emod_nonneg _ (by omega)
 have h2:m % (n:Int) < (n:Int):=Int.emod_lt_of_pos _ (by omega)
 exact ⟨(m % (n:Int)).toNat,by omega,by omega⟩
structure Pn (H H':Hp) (b R gl ol:Addr) (c B:Int) (N:Nat) (gs:List Gt) (xs:List V) (os:List Nat):Prop where
 gb:GB H H' b gl c B gs xs
 tu:H' R=some (.tup [.ref gl,.ref ol])
 len:gs.length≤N
 hol:H' ol=some (.lst (os.map nV))
 olt:∀ o∈os,o < gs.length
 ln:os.length≤N
 nb:gl≠b
 ob:ol≠b
theorem GB.set {H0 H':Hp}{b gl p:Addr}{c B:Int}{gs:List Gt}{xs:List V}{j:Nat}{g:Gt} (n:GB H0 H' b gl c B gs xs) (nb:gl≠b) (fg:H0 gl=none) (hp:H' p=some (.tup g.vs)) (hg:g.ok j gs.length):GB H0 (upd H' gl (.lst (xs.set j (.ref p)))) b gl c B (gs.set j g) (xs.set j (.ref p)):=by
 obtain ⟨c'',h1,h2,h3⟩:=n.at_
 exact ⟨Ch.own fg n.ch,⟨c'',zabs nb.symm h1,h2,h3⟩,zaac,n.gg.set n.gl hp,n.ok.set hg⟩
theorem zaiu {v:V} (n:Nat):(List.replicate n [v]).flatten=List.replicate n v:=by
 induction n with
 | zero=>rfl
 | succ n ih=>rw [List.replicate_succ,List.flatten_cons,ih]; rfl
theorem chFreeB {H H':Hp}{b p:Addr}{u u':HO} (c:Ch [b] H H') (hb:H b=some u) (hb':H' b=some u') (h:H' p=none):H p=none:=by
 cases e:H p with
 | none=>rfl
 | some o =>
  by_cases z:p=b
  ·rw [z,hb'] at h; cases h
  ·have:=c.get e (by simpa using z)
   rw [this] at h; cases h
section
variable {P:Program}{w:World}{K:PySem.W.Frag}{mg:Str→Option Value}{base:Heap}{f:Addr}{fd:FuncData}{k:Nat}
theorem av33:AF (defScope (top 33)) ["_law_script", "_law_at", "_law_many", "_law_gates", "_law_fresh", "_law_k", "_law_m", "_law_last", "_law_other"]:=⟨by decide +kernel⟩
theorem gl33:AG (defScope (top 33)) ["_law_next", "range", "len", "int"]:=⟨by decide +kernel⟩
def spBro (K:PySem.W.Frag):Sp:=fun vs H Q _=>∃ (a b:Addr) (ns:List Int) (c:Int),vs=[.ref a,.ref b]∧Scr K H a ns∧H b=some (.lst [.int c])∧0≤c∧c < 2 ^ 59 ∧
 ∀ (R gl ol:Addr) (gs:List Gt) (xs:List V) (os:List Nat) (H':Hp),Pn H H' b R gl ol c 1000 48 gs xs os→Q (.ref R) H'
theorem scBro:FnScope ["_law_script", "_law_at", "_law_many", "_law_gates", "_law_fresh", "_law_k", "_law_m", "_law_last", "_law_other"] ["_law_script", "_law_at"] (defScope (top 33)):=⟨rfl,rfl,rfl,by decide +kernel,rfl,by decide +kernel,by decide +kernel⟩
theorem zauc (F:Fun K "_law_broad" "_law_broad" (top 33) f fd) (D_law_next:DefOk P w K mg base CX0 k "_law_next" ["_law_script", "_law_at"] (spNext K)) (z_len:mg "len" = none) (z_range:mg "range" = none) (z_int:mg "int" = none) :
  FnOk P w K mg base CX0 (k + 1) f fd ["_law_script", "_law_at"] (spBro K):=by
 have nd:=scBro.nd
 refine F.ok scBro (fun vs H Q E h=>by obtain ⟨a,b,ns,c,rfl,_⟩:=h; rfl) (fun cdv A outer s H vs Q E hr h=>?_)
 obtain ⟨a,b,ns,c,rfl,hS,hb,h0,h1,q⟩:=h
 have hu:=zadw hr
 refine ⟨_,(Pr.h (zaav (zaat (i:=2) nd rfl (av33.l 2 rfl) (zaan zabv zaad (zaan zaa8 (zaap D_law_next hr (gl33.g 0 rfl) pass0 (zaaa (qv av33 0 rfl) (zaaa (qv av33 1 rfl) zaab zaae) zaae) zabb) zaad))) (zaav (zaat (i:=3) nd rfl (av33.l 3 rfl) (zaan zafq (zaan zap7 (zabc (zaaa (zabh (zaaa zaa1 zaab zaaj)) zaab zacl)) (zaan zaea (qv av33 2 rfl) zaad)) (zabc (zaaa (zabh (zaaa zaa1 (zaaa zaad (zaaa zaad zaab zaaj) zaaj) zaaj)) zaab zacl)))) (zaah (zaat (i:=4) nd rfl (av33.l 4 rfl) zaad) (zaah (zabf PassesOwn.never rfl (zabx (gl33.g 1 rfl) z_range (zaaa (zaan zabv zaad (zaan zaa8 (zaap D_law_next hr (gl33.g 0 rfl) pass0 (zaaa (qv av33 0 rfl) (zaaa (qv av33 1 rfl) zaab zaae) zaae) zabb) zaad)) zaab zaaz)) (zaar (i:=5) nd rfl (av33.l 5 rfl)) (zaav (zaat (i:=6) nd rfl (av33.l 6 rfl) (zaap D_law_next hr (gl33.g 0 rfl) pass0 (zaaa (qv av33 0 rfl) (zaaa (qv av33 1 rfl) zaab zaae) zaae) zabb)) (zaav (zaat (i:=7) nd rfl (av33.l 7 rfl) (zadb (zaaq zada (qv av33 5 rfl) zaad (nomark _)) zaad (zaan zaea (zaaf zaai (gl33.g 2 rfl) z_len PySem.boot_len (zaaa (qv av33 3 rfl) zaab zaae) zaa6 zaa7) zaad))) (zaav (zaat (i:=8) nd rfl (av33.l 8 rfl) (zadb (zaaq zafk (qv av33 5 rfl) zaad (nomark _)) (zaan zaa8 (qv av33 4 rfl) (qv av33 2 rfl)) zaad)) (zaav (zaa4 (zaaq zada (zaan zaa8 (qv av33 6 rfl) zaad) zaad (nomark _)) (zaag (zabg (zacf PySem.F.plainAttrs_list PySem.F.slot_list_append PySem.F.type_list_append zabd (qv av33 3 rfl) (zaaa (zabh (zaaa zaa1 (zaaa (zaan zaa8 (zaan zaba (qv av33 6 rfl) zaad) (zaaf zaai (gl33.g 2 rfl) z_len PySem.boot_len (zaaa (qv av33 3 rfl) zaab zaae) zaa6 zaa7)) (zaaa (qv av33 7 rfl) (zaaa (qv av33 8 rfl) zaab zaae) zaae) zaaz) zaaj)) zaab zacl)))) (zaag (zabg (zacf PySem.F.plainAttrs_list PySem.F.slot_list_append PySem.F.type_list_append zabd (qv av33 3 rfl) (zaaa (zabh (zaaa (zaa2 zabi (zabc (zaaa zaa1 (zaaa zaa1 (zaaa zaa1 zaab zaaj) zaaj) zaaj)) (zaan zaa8 (qv av33 6 rfl) zaad) (fun _ _=>rfl)) (zaaa (qv av33 7 rfl) (zaaa (zadb (zaaq zada (zaan zaa8 (qv av33 6 rfl) zaad) zaad (nomark _)) (zaan zaa8 (zaan zaba (qv av33 6 rfl) zaad) (zaaf zaai (gl33.g 2 rfl) z_len PySem.boot_len (zaaa (qv av33 3 rfl) zaab zaae) zaa6 zaa7)) (qv av33 8 rfl)) zaab zahd) zaae) zaaw)) zaab zacl))))) (zaag (zaat (i:=4) nd rfl (av33.l 4 rfl) (zaan zabv (qv av33 4 rfl) (zabp zalx (gl33.g 3 rfl) z_int zaio (zaaa (zabu zafk (qv av33 5 rfl) zaad (nomark _)) zaab zalb) zaip zaiq))))))))) (zaah (zafw (zabh (zaaa zaa1 (zaaa zaad (zaaa (zaan zaa8 (zaap D_law_next hr (gl33.g 0 rfl) pass0 (zaaa (qv av33 0 rfl) (zaaa (qv av33 1 rfl) zaab zaae) zaae) zabb) (zaaf zaai (gl33.g 2 rfl) z_len PySem.boot_len (zaaa (qv av33 3 rfl) zaab zaae) zaa6 zaa7)) zaab zaaz) zaaj) zaaj)) (zajm (qv av33 3 rfl) (zaan zaea (qv av33 2 rfl) zaad) zag9)) (zaag (zaas (zabh (zaaa (qv av33 3 rfl) (zaaa (zabc (zaaa (zaan zaea (zaaf zaai (gl33.g 2 rfl) z_len PySem.boot_len (zaaa (qv av33 3 rfl) zaab zaae) zaa6 zaa7) zaad) zaab zaaz)) zaab zahc) zaae)))))))))),?_⟩
 (try dsimp only [cxOf])
 refine zaa9 (fun σ H'=>∃ z:Int,0≤z∧σ=[some (.ref a),some (.ref b),some (.int (5 + z % 2)),none,none,none,none,none,none]∧Ch [b] H H'∧H' b=some (.lst [.int (c + 1)])) ?_ ?_
 ·walk_at "rd"
 rintro σ H1 ⟨z,z0,rfl,c1,hb1⟩
 obtain ⟨ins,em,hi⟩:∃ ins:Nat,5 + z % 2=((ins + 1:Nat):Int)∧4≤ins∧ins≤5:=⟨(4 + z % 2).toNat,by omega,by omega,by omega⟩
 rw [em]
 have et:(((ins + 1:Nat):Int) - 1).toNat=ins:=by omega
 refine zaa9 (fun σ H'=>∃ gl xs,σ=[some (.ref a),some (.ref b),some (.int ((ins + 1:Nat):Int)),some (.ref gl),none,none,none,none,none]∧GB H H' b gl c 1 (List.replicate ins .inp++[.keep 0 0]) xs∧H gl=none) ?_ ?_
 ·walk_at "rd"
  rename_i p1 hp1 p2 hp2 p3 hp3 p4 hp4 p5 hp5
  rw [et] at *
  refine ⟨by rw [zaiu,sizeLine_eq]; simp; omega,fun gl hgl=>⟨gl,(List.replicate ins [V.ref p1]).flatten++[V.ref p4],rfl,?_,?_⟩⟩
  ·have cc:=((((Ch.new hp1 (HO.tup [V.str (Str.ofString "in")])).trans (Ch.new hp2 _)).trans (Ch.new hp3 _)).trans (Ch.new hp4 _)).trans (Ch.new (W:=[]) hp5 (HO.lst [V.ref p4]))
   have e1:=((((Ch.new hp2 _).trans (Ch.new hp3 _)).trans (Ch.new hp4 _)).trans (Ch.new (W:=[]) hp5 (HO.lst [V.ref p4]))).get (zaac (H:=H1) (a:=p1) (o:=HO.tup [V.str (Str.ofString "in")])) (by simp)
   have cG:=Ch.new (W:=[]) hgl (HO.lst ((List.replicate ins [V.ref p1]).flatten++[V.ref p4]))
   refine ⟨c1.trans (Ch.wk (cc.trans cG)),⟨c + 1,(cc.trans cG).get hb1 (by simp),by omega,by omega⟩,zaac,?_,?_⟩
   ·have f1:=cG.get e1 (by simp)
    have f4:=cG.get (zab5 hp5 (zaac (a:=p4) (o:=HO.tup [V.str (Str.ofString "keep"),V.int 0,V.int 0]))) (by simp)
    generalize upd _ gl _=HF at f1 f4 ⊢
    rw [zaiu]
    refine ⟨by simp,fun i g e=>?_⟩
    by_cases z:i < ins
    ·rw [List.getElem?_append_left (by simpa using z),List.getElem?_replicate,if_pos z] at e
     cases e
     exact ⟨p1,by rw [List.getElem?_append_left (by simpa using z),List.getElem?_replicate,if_pos (by simpa using z)],f1⟩
    ·have z2:i=ins:=by have:=(List.getElem?_eq_some_iff.mp e).1; simp at this; omega
     subst z2
     rw [List.getElem?_append_right (by simp)] at e
     simp at e
     subst e
     exact ⟨p4,by rw [List.getElem?_append_right (by simp)]; simp,f4⟩
   ·intro i g e
    by_cases z:i < ins
    ·rw [List.getElem?_append_left (by simpa using z),List.getElem?_replicate,if_pos z] at e
     cases e
     exact True.intro
    ·have z2:i=ins:=by have:=(List.getElem?_eq_some_iff.mp e).1; simp at this; omega
     subst z2
     rw [List.getElem?_append_right (by simp)] at e
     simp at e
     subst e
     exact ⟨by omega,by omega,by simp⟩
  ·exact chFreeB c1 hb hb1 (freeN hp1 (freeN hp2 (freeN hp3 (freeN hp4 (freeN hp5 hgl)))))
 rintro σ H2 ⟨gl,xs,rfl,n,fg⟩
 have nb:gl≠b:=(zaao hb fg).symm
 have hS1:Scr K H2 a ns:=hS.ch hb n.ch
 obtain ⟨c2,hb2,hc1,hc2⟩:=n.at_
 walk_at "rd"
 rename_i y H3 y0 y1 c3 hb3
 obtain ⟨many,ey,hm⟩:∃ many:Nat,(4 + y % 3).toNat=many∧many≤6:=⟨_,rfl,by omega⟩
 rw [ey]
 have n:=n.bump nb hb2 c3 hb3
 clear hb2 hS1 hc1 hc2
 refine zabw (fun i σ H'=>∃ gs xs fr u1 u2 u3 u4,σ=[some (.ref a),some (.ref b),some (.int ((ins + 1:Nat):Int)),some (.ref gl),some (.int fr),u1,u2,u3,u4]∧0≤fr∧GB H H' b gl c (2 + i:Int) gs xs∧gs.length=ins + 1 + i) ⟨_,_,_,_,_,_,_,rfl,by omega,n.wk (by omega),by simp⟩ ?_ ?_
 ·rintro i σ H2 hi' ⟨gs,xs,fr,u1,u2,u3,u4,rfl,f0,n,hl⟩
  have hi2:i < many:=by simpa using hi'
  obtain ⟨c',hb1,hc1,hc2⟩:=n.at_
  have hS1:Scr K H2 a ns:=hS.ch hb n.ch
  have hxl:=n.gg.len
  walk_at "rd"
  refine zaa9 (fun σ H'=>∃ m,0≤m∧σ=[some (.ref a),some (.ref b),some (.int ((ins + 1:Nat):Int)),some (.ref gl),some (.int fr),some (.int (0 + (i:Int))),some (.int m),u3,u4]∧GB H H' b gl c (2 + i + 1:Int) gs xs) ?_ ?_
  ·walk_at "rd"
   rename_i m H3 m0 m1 c3 hb3
   exact n.bump nb hb1 c3 hb3
  rintro σ H3 ⟨m,m0,rfl,n3⟩
  have gl3:=n3.gl
  clear n hS1 hb1
  refine zaa9 (fun σ H'=>∃ l:Int,σ=[some (.ref a),some (.ref b),some (.int ((ins + 1:Nat):Int)),some (.ref gl),some (.int fr),some (.int (0 + (i:Int))),some (.int m),some (.int l),u4]∧H'=H3∧0≤l∧l < (gs.length:Int)) ?_ ?_
  ·walk_at "rd"
   refine ite2 (fun hc=>?_) (fun hc=>?_)
   ·walk_at "rd"
    all_goals (try omega)
   ·walk_at "rd"
    all_goals (try omega)
  rintro σ H4 ⟨l',rfl,rfl,l0,l1⟩
  obtain ⟨l,rfl⟩:∃ l:Nat,l'=(l:Int):=⟨l'.toNat,by omega⟩
  refine zaa9 (fun σ H'=>∃ o:Int,σ=[some (.ref a),some (.ref b),some (.int ((ins + 1:Nat):Int)),some (.ref gl),some (.int fr),some (.int (0 + (i:Int))),some (.int m),some (.int (l:Int)),some (.int o)]∧H'=H4∧0≤o∧o < (gs.length:Int)) ?_ ?_
  ·walk_at "rd"
   refine ite2 (fun hc=>?_) (fun hc=>?_)
   ·obtain ⟨o,eo,ho⟩:=zaek fr (n:=ins + 1) (by omega)
    walk_at "rd"
    all_goals (try (dsimp only; omega))
    all_goals (try omega)
   ·walk_at "rd"
    all_goals (try omega)
  rintro σ H5 ⟨o',rfl,rfl,o0,o1⟩
  obtain ⟨o,rfl⟩:∃ o:Nat,o'=(o:Int):=⟨o'.toNat,by omega⟩
  obtain ⟨t,et2,ht⟩:=zaek (m / 6) (n:=xs.length) (by omega)
  obtain ⟨x,mk,ax,mv,mo,_⟩:=zaub (m:=m % 3) (by omega) (by omega)
  refine zaa9 (fun σ H'=>∃ gs2 xs2,σ=[some (.ref a),some (.ref b),some (.int ((ins + 1:Nat):Int)),some (.ref gl),some (.int fr),some (.int (0 + (i:Int))),some (.int m),some (.int (l:Int)),some (.int (o:Int))]∧GB H H' b gl c (2 + i + 1:Int) gs2 xs2∧gs2.length=gs.length + 1) ?_ ?_
  ·walk_at "rd"
   refine ite2 (fun hc=>?_) (fun hc=>?_)
   ·walk_at "rd"
    rename_i p hp
    dsimp only
    rw [et2]
    have n4:=(n3.same (Ch.new hp (HO.tup (Gt.pick t l o).vs))).push (g:=.pick t l o) nb fg zaac ⟨by omega,by omega,by omega⟩
    exact ⟨n4,by simp⟩
   ·walk_at "rd"
    rename_i q1 hq1
    refine ite2 (fun hd=>?_) (fun hd=>?_)
    ·walk_at "rd"
     rename_i p hp
     dsimp only
     rw [et2]
     have n4:=((n3.same (Ch.new hq1 (HO.lst [V.str (Str.ofString "and"),V.str (Str.ofString "or"),V.str (Str.ofString "xor")]))).same (Ch.new hp (HO.tup (mk l t).vs))).push (g:=mk l t) nb fg zaac (mo l t _ _ (by omega) (by omega))
     rw [mv] at n4
     exact ⟨n4,by simp⟩
    ·walk_at "rd"
     rename_i p hp
     have n4:=((n3.same (Ch.new hq1 (HO.lst [V.str (Str.ofString "and"),V.str (Str.ofString "or"),V.str (Str.ofString "xor")]))).same (Ch.new hp (HO.tup (mk l o).vs))).push (g:=mk l o) nb fg zaac (mo l o _ _ (by omega) (by omega))
     rw [mv] at n4
     exact ⟨n4,by simp⟩
  rintro σ H6 ⟨gs2,xs2,rfl,n6,hl6⟩
  walk_at "rd"
  all_goals omega
 ·rintro σ H2 ⟨gs,xs,fr,u1,u2,u3,u4,rfl,f0,n,hl⟩
  obtain ⟨c',hb1,hc1,hc2⟩:=n.at_
  have hS1:Scr K H2 a ns:=hS.ch hb n.ch
  have hxl:=n.gg.len
  have gl1:=n.gl
  have hl:gs.length=ins + 1 + many:=by simpa using hl
  have hix:ixN xs.length (((ins + 1:Nat):Int) - 1)=some ins:=by
   unfold ixN; rw [if_pos (by omega),if_pos (by omega)]; congr 1
  walk_at "rd"
  rename_i z3 H3 z30 z31 c3 hb3 p1 hp1 ol hol R hR
  obtain ⟨r2,e2,hr2⟩:=zaek z3 (n:=xs.length) (by omega)
  obtain ⟨l,el⟩:∃ l:Nat,(xs.length:Int) - 1=(l:Int):=⟨xs.length - 1,by omega⟩
  dsimp only at hol hR ⊢
  rw [List.length_set,el] at hR ⊢
  rw [e2] at hol hR ⊢
  have n4:=((n.bump nb hb1 c3 hb3).same (Ch.new hp1 (HO.tup (Gt.keep 1 r2).vs))).set (j:=ins) (g:=.keep 1 r2) nb fg zaac ⟨by omega,by omega,by omega⟩
  have f4:=n4.fresh hb hol
  exact q R gl ol _ _ [l] _ ⟨((n4.same (Ch.new hol _)).same (Ch.new hR _)).wk (by omega),zaac,by rw [List.length_set]; omega,zab5 hR zaac,by intro o ho; rw [List.length_set]; simp at ho; omega,by simp,nb,f4.2.1⟩
end
end

section
theorem GB.pre {H0 H H':Hp}{b gl:Addr}{c c0 B B0:Int}{gs:List Gt}{xs:List V} (n:GB H H' b gl c B gs xs) (c1:Ch [b] H0 H) (h1:c0≤c) (h2:c≤c0 + B0):GB H0 H' b gl c0 (B0 + B) gs xs:=by
 obtain ⟨c',h3,h4,h5⟩:=n.at_
 exact ⟨c1.trans n.ch,⟨c',h3,by omega,by omega⟩,n.gl,n.gg,n.ok⟩
def spNo:Sp:=fun _ _ _ _=>False
section
variable {P:Program}{w:World}{K:PySem.W.Frag}{mg:Str→Option Value}{base:Heap}{f:Addr}{fd:FuncData}{k:Nat}
theorem zaht:Nd "_law_broad" := by decide +kernel
theorem zagf:Nd "_law_net" := by decide +kernel
theorem zagu:Nd "_law_ladder" := by decide +kernel
theorem scLad:FnScope ["_law_script", "_law_at", "_law_ins", "_law_many", "_law_gates", "_law_k", "_law_m", "_law_other", "_law_third", "_law_last"] ["_law_script", "_law_at", "_law_ins", "_law_many"] (defScope (top 30)):=⟨rfl,rfl,rfl,by decide +kernel,rfl,by decide +kernel,by decide +kernel⟩
theorem zaud (F:Fun K "_law_ladder" "_law_ladder" (top 30) f fd):FnOk P w K mg base CX0 (k + 1) f fd ["_law_script", "_law_at", "_law_ins", "_law_many"] spNo :=
 F.ok scLad (fun vs H Q E h=>h.elim) (fun cdv A outer s H vs Q E hr h=>h.elim)
theorem av31:AF (defScope (top 31)) ["_law_script", "_law_at", "_law_small", "_law_m"]:=⟨by decide +kernel⟩
theorem gl31:AG (defScope (top 31)) ["_law_next", "_law_broad", "_law_net", "_law_ladder"]:=⟨by decide +kernel⟩
def spFst (K:PySem.W.Frag):Sp:=fun vs H Q _=>∃ (a b:Addr) (ns:List Int) (c:Int),vs=[.ref a,.ref b,.bl true]∧Scr K H a ns∧H b=some (.lst [.int c])∧0≤c∧c < 2 ^ 58 ∧
 ∀ (R gl ol:Addr) (gs:List Gt) (xs:List V) (os:List Nat) (H':Hp),Pn H H' b R gl ol c 1001 48 gs xs os→Q (.ref R) H'
theorem scFst:FnScope ["_law_script", "_law_at", "_law_small", "_law_m"] ["_law_script", "_law_at", "_law_small"] (defScope (top 31)):=⟨rfl,rfl,rfl,by decide +kernel,rfl,by decide +kernel,by decide +kernel⟩
theorem zaue (F:Fun K "_law_first_net" "_law_first_net" (top 31) f fd) (D_law_next:DefOk P w K mg base CX0 k "_law_next" ["_law_script", "_law_at"] (spNext K)) (D_law_broad:DefOk P w K mg base CX0 k "_law_broad" ["_law_script", "_law_at"] (spBro K)) (D_law_ladder:DefOk P w K mg base CX0 k "_law_ladder" ["_law_script", "_law_at", "_law_ins", "_law_many"] spNo) (D_law_net:DefOk P w K mg base CX0 k "_law_net" ["_law_script", "_law_at", "_law_ins", "_law_keeps", "_law_many"] (spLNet K)) :
  FnOk P w K mg base CX0 (k + 1) f fd ["_law_script", "_law_at", "_law_small"] (spFst K):=by
 have nd:=scFst.nd
 refine F.ok scFst (fun vs H Q E h=>by obtain ⟨a,b,ns,c,rfl,_⟩:=h; rfl) (fun cdv A outer s H vs Q E hr h=>?_)
 obtain ⟨a,b,ns,c,rfl,hS,hb,h0,h1,q⟩:=h
 refine ⟨_,(Pr.h (zaav (zaat (i:=3) nd rfl (av31.l 3 rfl) (zaap D_law_next hr (gl31.g 0 rfl) pass0 (zaaa (qv av31 0 rfl) (zaaa (qv av31 1 rfl) zaab zaae) zaae) zabb)) (zaah (zaa4 (zacg (zad7 (zabj (qv av31 2 rfl)) (zadj (zaaq zada (zaan zaa8 (qv av31 3 rfl) zaad) zaad (nomark _))))) (zaag (zaas (zaap D_law_broad hr (gl31.g 1 rfl) pass0 (zaaa (qv av31 0 rfl) (zaaa (qv av31 1 rfl) zaab zaae) zaae) zaht))) zaau) (zaah (zaa4 (zabj (qv av31 2 rfl)) (zaag (zaas (zaap D_law_net hr (gl31.g 2 rfl) pass0 (zaaa (qv av31 0 rfl) (zaaa (qv av31 1 rfl) (zaaa (zaan zaa8 (zaan zaba (qv av31 3 rfl) zaad) zaad) (zaaa (zaan zaa8 (zaan zaba (qv av31 3 rfl) zaad) zaad) (zaaa (zaan zabv zaad (zaan zaa8 (zaan zaba (qv av31 3 rfl) zaad) zaad)) zaab zaaz) zaaz) zaaz) zaae) zaae) zagf))) zaau) (zaah (zaa4 (zaaq zada (zaan zaa8 (qv av31 3 rfl) zaad) zaad (nomark _)) (zaag (zaas (zaap D_law_ladder hr (gl31.g 3 rfl) pass0 (zaaa (qv av31 0 rfl) (zaaa (qv av31 1 rfl) (zaaa (zaan zabv zaad (zaan zaa8 (zaan zaba (qv av31 3 rfl) zaad) zaad)) (zaaa (zaan zabv zaad (zaan zaa8 (zaan zaba (qv av31 3 rfl) zaad) zaad)) zaab zaaz) zaaz) zaae) zaae) zagu))) zaau) (zaag (zaas (zaap D_law_net hr (gl31.g 2 rfl) pass0 (zaaa (qv av31 0 rfl) (zaaa (qv av31 1 rfl) (zaaa (zaan zaa8 (zaan zaba (qv av31 3 rfl) zaad) zaad) (zaaa (zaan zaa8 (zaan zaba (qv av31 3 rfl) zaad) zaad) (zaaa (zaan zabv zaad (zaan zaa8 (zaan zaba (qv av31 3 rfl) zaad) zaad)) zaab zaaz) zaaz) zaaz) zaae) zaae) zagf)))))))),?_⟩
 (try dsimp only [cxOf])
 refine zaa9 (fun σ H'=>∃ m,0≤m∧σ=[some (.ref a),some (.ref b),some (.bl true),some (.int m)]∧Ch [b] H H'∧H' b=some (.lst [.int (c + 1)])) ?_ ?_
 ·walk_at "rd"
 rintro σ H1 ⟨m,m0,rfl,c1,hb1⟩
 have hS1:Scr K H1 a ns:=hS.ch hb c1
 obtain ⟨i3,e3⟩:∃ i3:Nat,m / 2 % 6=(i3:Int):=⟨(m / 2 % 6).toNat,by omega⟩
 obtain ⟨i4,e4⟩:∃ i4:Nat,m / 12 % 3=(i4:Int):=⟨(m / 12 % 3).toNat,by omega⟩
 obtain ⟨i5,e5⟩:∃ i5:Nat,2 + m / 36 % 5=(i5:Int):=⟨(2 + m / 36 % 5).toNat,by omega⟩
 walk_at "rd"
 refine ite2 (fun hc=>?_) (fun hc=>?_)
 ·walk_at "rd"
  rename_i R gl ol gs xs os H2 pn
  exact q R gl ol gs xs os _ ⟨(pn.gb.pre (c0:=c) (B0:=1) c1 (by omega) (by omega)).wk (by omega),pn.tu,pn.len,pn.hol,pn.olt,pn.ln,pn.nb,pn.ob⟩
 ·walk_at "rd"
  rename_i R gl ol gs xs os H2 ns2 htu hln hol hos lno f1 f2
  exact q R gl ol gs xs os _ ⟨(ns2.gb.pre (c0:=c) (B0:=1) c1 (by omega) (by omega)).wk (by omega),htu,hln.1,hol,hos,by omega,(zaao hb1 f1).symm,(zaao hb1 f2).symm⟩
end
end

section
theorem cutN:∀ os:List Nat,cutV (os.map nV) (some 1) none=(os.drop 1).map nV
 | []=>rfl
 | x :: os=>by rw [List.map_cons,cut1]; rfl
section
variable {P:Program}{w:World}{K:PySem.W.Frag}{mg:Str→Option Value}{base:Heap}{f:Addr}{fd:FuncData}{k:Nat}
theorem zae0:Nd "_law_first_net" := by decide +kernel
theorem gl32:AG (defScope (top 32)) ["_law_first_net", "_law_next", "len", "range"]:=⟨by decide +kernel⟩
theorem av32:AF (defScope (top 32)) ["_law_script", "_law_at", "_law_small", "_law_gates", "_law_outs", "_law_m", "_law_place", "_law_k"]:=⟨by decide +kernel⟩
def spSom (K:PySem.W.Frag):Sp:=fun vs H Q _=>∃ (a b:Addr) (ns:List Int) (c:Int),vs=[.ref a,.ref b,.bl true]∧Scr K H a ns∧H b=some (.lst [.int c])∧0≤c∧c < 2 ^ 57 ∧
 ∀ (R gl ol:Addr) (gs:List Gt) (xs:List V) (os:List Nat) (H':Hp),Pn H H' b R gl ol c 2000 53 gs xs os→Q (.ref R) H'
theorem scSom:FnScope ["_law_script", "_law_at", "_law_small", "_law_gates", "_law_outs", "_law_m", "_law_place", "_law_k"] ["_law_script", "_law_at", "_law_small"] (defScope (top 32)):=⟨rfl,rfl,rfl,by decide +kernel,rfl,by decide +kernel,by decide +kernel⟩
theorem zauf (F:Fun K "_law_some_net" "_law_some_net" (top 32) f fd) (D_law_next:DefOk P w K mg base CX0 k "_law_next" ["_law_script", "_law_at"] (spNext K)) (D_law_first_net:DefOk P w K mg base CX0 k "_law_first_net" ["_law_script", "_law_at", "_law_small"] (spFst K)) (z_len:mg "len" = none) (z_range:mg "range" = none) :
  FnOk P w K mg base CX0 (k + 1) f fd ["_law_script", "_law_at", "_law_small"] (spSom K):=by
 have nd:=scSom.nd
 refine F.ok scSom (fun vs H Q E h=>by obtain ⟨a,b,ns,c,rfl,_⟩:=h; rfl) (fun cdv A outer s H vs Q E hr h=>?_)
 obtain ⟨a,b,ns,c,rfl,hS,hb,h0,h1,q⟩:=h
 have hu:=zadw hr
 refine ⟨_,(Pr.h (zaah (zafw (zaap D_law_first_net hr (gl32.g 0 rfl) pass0 (zaaa (qv av32 0 rfl) (zaaa (qv av32 1 rfl) (zaaa (qv av32 2 rfl) zaab zaae) zaae) zaae) zae0) (zafv rfl (zabk (zaar (i:=3) nd rfl (av32.l 3 rfl)) (zabk (zaar (i:=4) nd rfl (av32.l 4 rfl)) zac7)))) (zaav (zaat (i:=5) nd rfl (av32.l 5 rfl) (zaap D_law_next hr (gl32.g 1 rfl) pass0 (zaaa (qv av32 0 rfl) (zaaa (qv av32 1 rfl) zaab zaae) zaae) zabb)) (zaah (zaa4 (zaaq zafk (zaan zaa8 (qv av32 5 rfl) zaad) zaad (nomark _)) (zaag (zaas (zabh (zaaa (qv av32 3 rfl) (zaaa (qv av32 4 rfl) zaab zaae) zaae)))) zaau) (zaah (zaat (i:=6) nd rfl (av32.l 6 rfl) (zaaf zaai (gl32.g 2 rfl) z_len PySem.boot_len (zaaa (qv av32 3 rfl) zaab zaae) zaa6 zaa7)) (zaav (zaat (i:=3) nd rfl (av32.l 3 rfl) (zaan zafq (qv av32 3 rfl) (zabc (zaaa (zabh (zaaa zaa1 zaab zaaj)) (zaaa (zabh (zaaa zaa1 (zaaa (zaan zaa8 (zaan zaba (qv av32 5 rfl) zaad) zaad) (zaaa (zaan zaa8 (zaan zaba (qv av32 5 rfl) zaad) (zaan zabv (qv av32 6 rfl) zaad)) zaab zaaz) zaaz) zaaj)) zaab zacl) zacl)))) (zaah (zabf PassesOwn.never rfl (zabx (gl32.g 3 rfl) z_range (zaaa (zaan zabv zaad (zaan zaa8 (zaan zaba (qv av32 5 rfl) zaad) zaad)) zaab zaaz)) (zaar (i:=7) nd rfl (av32.l 7 rfl)) (zaav (zaat (i:=5) nd rfl (av32.l 5 rfl) (zaap D_law_next hr (gl32.g 1 rfl) pass0 (zaaa (qv av32 0 rfl) (zaaa (qv av32 1 rfl) zaab zaae) zaae) zabb)) (zaag (zabg (zacf PySem.F.plainAttrs_list PySem.F.slot_list_append PySem.F.type_list_append zabd (qv av32 3 rfl) (zaaa (zabh (zaaa (zaa2 zabi (zabc (zaaa zaa1 (zaaa zaa1 (zaaa zaa1 zaab zaaj) zaaj) zaaj)) (zaan zaa8 (qv av32 5 rfl) zaad) (fun _ _=>rfl)) (zaaa (zaan zabv (qv av32 6 rfl) (zaan zaa8 (zaan zaba (qv av32 5 rfl) zaad) zaad)) (zaaa (zaan zaa8 (zaan zaba (qv av32 5 rfl) zaad) (zaaf zaai (gl32.g 2 rfl) z_len PySem.boot_len (zaaa (qv av32 3 rfl) zaab zaae) zaa6 zaa7)) zaab zaaz) zaaz) zaaw)) zaab zacl)))))) (zaag (zaas (zabh (zaaa (qv av32 3 rfl) (zaaa (zaan zafq (zac3 zal7 (qv av32 4 rfl) (zadl zaad) zadk) (zabc (zaaa (zaan zaea (zaaf zaai (gl32.g 2 rfl) z_len PySem.boot_len (zaaa (qv av32 3 rfl) zaab zaae) zaa6 zaa7) zaad) (zaaa (zaan zabv (qv av32 6 rfl) (zaan zaa8 (zaan zaba (qv av32 5 rfl) zaad) zaad)) zaab zaaz) zaaz))) zaab zaaz) zaae))))))))))),?_⟩
 (try dsimp only [cxOf])
 walk_at "rd"
 rename_i R gl ol gs xs os H1 pn
 obtain ⟨n,tu,len,hol,olt,ln,nb,ob⟩:=pn
 obtain ⟨c1,hb1,hc1,hc2⟩:=n.at_
 have hS1:Scr K H1 a ns:=hS.ch hb n.ch
 walk_at "rd"
 refine zaa9 (fun σ H'=>∃ m,0≤m∧σ=[some (.ref a),some (.ref b),some (.bl true),some (.ref gl),some (.ref ol),some (.int m),none,none]∧GB H H' b gl c 1002 gs xs∧H' ol=some (.lst (os.map nV))) ?_ ?_
 ·walk_at "rd"
  rename_i m H3 m0 m1 c3 hb3
  exact ⟨n.bump nb hb1 c3 hb3,c3.get hol (by simpa using ob)⟩
 rintro σ H2 ⟨m,m0,rfl,n2,ho2⟩
 have gl2:=n2.gl
 have hxl:=n2.gg.len
 clear n tu hol hb1 hS1
 walk_at "rd"
 refine ite2 (fun hc=>?_) (fun hc=>?_)
 ·walk_at "rd"
  rename_i R2 hR2
  exact q R2 gl ol gs xs os _ ⟨(n2.same (Ch.new hR2 _)).wk (by omega),zaac,by omega,zab5 hR2 ho2,olt,by omega,nb,ob⟩
 obtain ⟨q1,e1,hq1⟩:=zaek (m / 6) (n:=xs.length + 2) (by omega)
 obtain ⟨f1,f2⟩:0≤m / 3 % 2∧m / 3 % 2 < 2:=by omega
 walk_at "rd"
 walk_at "rd"
 refine zaa9 (fun σ H'=>∃ g2 xs2,σ=[some (.ref a),some (.ref b),some (.bl true),some (.ref g2),some (.ref ol),some (.int m),some (.int (xs.length:Int)),none]∧GB H H' b g2 c 1002 (gs++[.inp,.keep (m / 3 % 2) q1]) xs2∧H' ol=some (.lst (os.map nV))∧H g2=none) ?_ ?_
 ·walk_at "rd"
  rename_i p1 hp1 p2 hp2 p3 hp3 g2 hg2
  dsimp only at hp3 hg2 ⊢
  have e1':m / 6 % ((xs.length:Int) + 2)=(q1:Int):=by rw [← e1]; rfl
  rw [e1'] at hp3 hg2 ⊢
  have cc:=(((Ch.new hp1 (HO.tup [V.str (Str.ofString "in")])).trans (Ch.new hp2 (HO.tup [V.str (Str.ofString "keep"),V.int (m / 3 % 2),V.int (q1:Int)]))).trans (Ch.new hp3 (HO.lst [V.ref p1,V.ref p2]))).trans (Ch.new (W:=[]) hg2 (HO.lst (xs++[V.ref p1,V.ref p2])))
  have k1:=zab5 (u:=HO.lst (xs++[V.ref p1,V.ref p2])) hg2 (zab5 (u:=HO.lst [V.ref p1,V.ref p2]) hp3 (zab5 (u:=HO.tup [V.str (Str.ofString "keep"),V.int (m / 3 % 2),V.int (q1:Int)]) hp2 (zaac (H:=H2) (a:=p1) (o:=HO.tup [V.str (Str.ofString "in")]))))
  have k2:=zab5 (u:=HO.lst (xs++[V.ref p1,V.ref p2])) hg2 (zab5 (u:=HO.lst [V.ref p1,V.ref p2]) hp3 (zaac (a:=p2) (o:=HO.tup [V.str (Str.ofString "keep"),V.int (m / 3 % 2),V.int (q1:Int)])))
  have fr:=(n2.fresh hb (freeN hp1 (freeN hp2 (freeN hp3 hg2)))).1
  have n9:=n2.same cc
  refine ⟨n9.new zaac ⟨by simp [hxl],fun i g e=>?_⟩ fun i g e=>?_,cc.get ho2 (by simp),fr⟩
  ·by_cases z:i < gs.length
   ·rw [List.getElem?_append_left z] at e
    obtain ⟨p',h1,h2⟩:=n9.gg.at_ i g e
    exact ⟨p',by rw [List.getElem?_append_left (by rw [hxl]; exact z)]; exact h1,h2⟩
   ·obtain ⟨j,rfl⟩:∃ j,i=gs.length + j:=⟨i - gs.length,by omega⟩
    rw [List.getElem?_append_right (by omega),show gs.length + j - gs.length=j by omega] at e
    rw [List.getElem?_append_right (by omega),show gs.length + j - xs.length=j by omega]
    match j,e with
    | 0,e=>cases e; exact ⟨p1,rfl,k1⟩
    | 1,e=>cases e; exact ⟨p2,rfl,k2⟩
    | j + 2,e=>simp at e
  ·rw [List.length_append,show ([Gt.inp,Gt.keep (m / 3 % 2) q1]).length=2 from rfl]
   by_cases z:i < gs.length
   ·rw [List.getElem?_append_left z] at e
    exact Gt.ok_mono (n2.ok i g e) (by omega)
   ·obtain ⟨j,rfl⟩:∃ j,i=gs.length + j:=⟨i - gs.length,by omega⟩
    rw [List.getElem?_append_right (by omega),show gs.length + j - gs.length=j by omega] at e
    match j,e with
    | 0,e=>cases e; exact True.intro
    | 1,e=>cases e; exact ⟨f1,f2,by omega⟩
    | j + 2,e=>simp at e
 rintro σ H3 ⟨g2,xs2,rfl,n3,ho3,fg2⟩
 have nb2:g2≠b:=(zaao hb fg2).symm
 have nol:ol≠g2:=by
  rintro rfl
  obtain ⟨p,ep,hp⟩:=n3.gg.at_ gs.length .inp (by simp)
  have h9:=n3.gl
  rw [ho3] at h9
  injection h9 with h9
  injection h9 with h9
  rw [← h9,List.getElem?_map] at ep
  cases e:os[gs.length]? <;> rw [e] at ep <;> cases ep
 clear n2 gl2 ho2
 walk_at "rd"
 refine zabw (fun i σ H'=>∃ gs3 xs3 u m,0≤m∧σ=[some (.ref a),some (.ref b),some (.bl true),some (.ref g2),some (.ref ol),some (.int m),some (.int (xs.length:Int)),u]∧GB H H' b g2 c (1002 + i:Int) gs3 xs3∧H' ol=some (.lst (os.map nV))∧gs3.length=gs.length + 2 + i) ⟨_,_,_,m,m0,rfl,n3.wk (by simp),ho3,by simp⟩ ?_ ?_
 ·rintro i σ H4 hi' ⟨gs3,xs3,u,m,m0,rfl,n,ho4,hl⟩
  have hi2:i < 3:=by omega
  obtain ⟨c',hb1,hc1,hc2⟩:=n.at_
  have hS1:Scr K H4 a ns:=hS.ch hb n.ch
  have hxl3:=n.gg.len
  walk_at "rd"
  refine zaa9 (fun σ H'=>∃ m,0≤m∧σ=[some (.ref a),some (.ref b),some (.bl true),some (.ref g2),some (.ref ol),some (.int m),some (.int (xs.length:Int)),some (.int (0 + (i:Int)))]∧GB H H' b g2 c (1002 + i + 1:Int) gs3 xs3∧H' ol=some (.lst (os.map nV))) ?_ ?_
  ·walk_at "rd"
   rename_i m H3 m0 m1 c3 hb3
   exact ⟨n.bump nb2 hb1 c3 hb3,c3.get ho4 (by simpa using ob)⟩
  rintro σ H5 ⟨m,m0,rfl,n5,ho5⟩
  have gl5:=n5.gl
  clear n hS1 hb1 ho4
  obtain ⟨o,eo,hoo⟩:=zaek (m / 6) (n:=xs3.length) (by omega)
  obtain ⟨l,el⟩:∃ l:Nat,(xs.length:Int) + m / 3 % 2=(l:Int):=⟨((xs.length:Int) + m / 3 % 2).toNat,by omega⟩
  obtain ⟨x,mk,ax,mv,mo,mf,ms⟩:=zaub (m:=m % 3) (by omega) (by omega)
  walk_at "rd"
  rename_i w1 hw1 p hp
  dsimp only
  rw [el,eo]
  have n6:=(n5.same (Ch.new hw1 (HO.lst [V.str (Str.ofString "and"),V.str (Str.ofString "or"),V.str (Str.ofString "xor")]))).same (Ch.new hp (HO.tup (mk l o).vs))
  have n7:=n6.push (g:=mk l o) nb2 fg2 zaac (mo l o _ _ (by omega) (by omega))
  rw [mv] at n7
  exact ⟨n7.wk (by omega),zabs nol (zab5 hp (zab5 hw1 ho5)),by simp; omega⟩
 ·rintro σ H4 ⟨gs3,xs3,u,m,m0,rfl,n,ho4,hl⟩
  have gl4:=n.gl
  have hxl3:=n.gg.len
  have hl4:gs3.length≤gs.length + 5:=by rw [hl]; omega
  walk_at "rd"
  rename_i s1 hs1 s2 hs2
  rw [cutN] at hs2 ⊢
  obtain ⟨o,eo⟩:∃ o:Nat,(xs3.length:Int) - 1=(o:Int):=⟨xs3.length - 1,by omega⟩
  obtain ⟨l,el⟩:∃ l:Nat,(xs.length:Int) + m / 60000 % 2=(l:Int):=⟨((xs.length:Int) + m / 60000 % 2).toNat,by omega⟩
  dsimp only
  rw [eo,el]
  refine ⟨by rw [sizeLine_eq]; simp; omega,fun s3 hs3=>?_⟩
  refine ⟨by rw [sizeLine_eq]; simp,fun R hR=>?_⟩
  have fr:=(n.fresh hb (freeN hs1 (freeN hs2 hs3))).2.1
  refine q R g2 s3 gs3 xs3 (os.drop 1++[o,l]) _ ⟨((((n.same (Ch.new hs1 _)).same (Ch.new hs2 _)).same (Ch.new hs3 _)).same (Ch.new hR _)).wk (by omega),zaac,by omega,?_,fun z hz=>?_,by simp; omega,nb2,fr⟩
  ·rw [zab5 hR zaac,List.map_append]; rfl
  ·rcases List.mem_append.mp hz with hz | hz
   ·have:=olt z (List.mem_of_mem_drop hz); omega
   ·simp at hz; omega
end
end

section
theorem NetAt.ch {C:Addr}{H H':Hp}{nt gp op:Addr}{gs:List Gt}{xs:List V}{os:List Nat} (n:NetAt C H nt gp op gs xs os) (c:Ch [] H H'):NetAt C H' nt gp op gs xs os:=by
 obtain ⟨⟨dx,ob⟩,gt,gg,ot⟩:=n
 exact ⟨⟨dx,c.get ob (by simp)⟩,c.get gt (by simp),gg.tu (Tu.same c),c.get ot (by simp)⟩
def sH (gs:List Gt) (n:Nat):Bool:=match gs[n]? with
 | some g=>g.src
 | none=>false
end

section
theorem zanh (n:Nat):∀ l:List Nat,inV (.int (n:Int)) (l.map nV)=decide (n∈l)
 | []=>rfl
 | m :: l=>by
  have ih:=zanh n l
  unfold inV at ih ⊢
  rw [List.map_cons,List.any_cons,ih]
  by_cases e:m=n
  ·subst e; simp [nV,eqV]
  ·have:¬ ((m:Int)=(n:Int)):=fun z=>e (by omega)
   simp [nV,eqV,this,Ne.symm e,e]
theorem zasf (l:List Nat):(l.map nV).all flatV=true:=by simp [List.all_map,nV,flatV]
theorem zagg (g:Gt):∃ (wd:Str) (rs:List V),g.vs=.str wd :: rs∧decide (V.str wd=V.str "in")=g.isIn∧decide (V.str wd=V.str "keep")=g.isKeep∧g.src=(g.isIn || g.isKeep)∧(g.src=false→rs=g.feeds.map nV):=by
 cases g <;> exact ⟨_,_,rfl,rfl,rfl,rfl,fun h=>by first | rfl | cases h⟩
structure Op (gs:List Gt) (st:List Nat) (i:Nat) (bs:List Bool):Prop where
 len:bs.length=i
 at_:∀ (j:Nat) (g:Gt),j < i→gs[j]?=some g→bs[j]?=some (if j∈st then false else if g.src then true else g.feeds.any fun a=>bs.getD a false)
theorem zael {g:Gt}{i n:Nat} (h:g.ok i n) (s:g.src=false):∀ a∈g.feeds,a < i:=by
 cases g <;> simp only [Gt.ok,Gt.src,Gt.feeds,List.mem_cons,List.not_mem_nil,or_false,List.mem_singleton] at * <;> first | (intro a m; omega) | (intro a m; exact m.elim) | (intro a m; cases m; done) | (cases s; done)
theorem zapq {bs cs:List Bool}{a:Nat} (h:a < bs.length):(bs++cs).getD a false=bs.getD a false:=by
 rw [List.getD_eq_getElem?_getD,List.getD_eq_getElem?_getD,List.getElem?_append_left h]
theorem zani {l:List Nat}{p q:Nat→Bool} (h:∀ a∈l,p a=q a):l.any p=l.any q:=by
 induction l with
 | nil=>rfl
 | cons x l ih=>rw [List.any_cons,List.any_cons,h x (by simp),ih fun a m=>h a (List.mem_cons_of_mem _ m)]
theorem Op.push {gs:List Gt}{st:List Nat}{i:Nat}{bs:List Bool}{g:Gt}{v:Bool} (h:Op gs st i bs) (ok:Oks gs) (e:gs[i]?=some g) (hv:v=if i∈st then false else if g.src then true else g.feeds.any fun a=>bs.getD a false):Op gs st (i + 1) (bs++[v]):=by
 refine ⟨by simp [h.len],fun j g' hj ej=>?_⟩
 have same:∀ (j:Nat) (g':Gt),j≤i→gs[j]?=some g'→(if j∈st then false else if g'.src then true else g'.feeds.any fun a=>(bs++[v]).getD a false)=if j∈st then false else if g'.src then true else g'.feeds.any fun a=>bs.getD a false:=fun j g' hj ej=>by
  cases s:g'.src with
  | true=>rfl
  | false =>
   have:(g'.feeds.any fun a=>(bs++[v]).getD a false)=g'.feeds.any fun a=>bs.getD a false:=zani fun a m=>zapq (by rw [h.len]; have:=zael (ok j g' ej) s a m; omega)
   rw [this]
 by_cases z:j < i
 ·rw [List.getElem?_append_left (by rw [h.len]; exact z),same j g' (by omega) ej]
  exact h.at_ j g' z ej
 ·have z:j=i:=by omega
  subst z
  rw [List.getElem?_append_right (by rw [h.len]; exact Nat.le_refl _),h.len,same j g' (by omega) ej]
  rw [e] at ej
  cases ej
  simp [hv]
theorem zaqk {bs:List Bool}{a:Nat} (h:a < bs.length):atI (bs.map V.bl) (a:Int)=some (.bl (bs.getD a false)):=by
 apply zacb
 rw [List.getElem?_map,List.getD_eq_getElem?_getD,List.getElem?_eq_getElem h]
 rfl
section
variable {P:Program}{w:World}{K:PySem.W.Frag}{mg:Str→Option Value}{base:Heap}{f:Addr}{fd:FuncData}{k:Nat}
theorem zaql:bootBuiltins "any" = some (.builtin "any"):=by decide +kernel
theorem zaqm:("any" : Str) ≠ "__name__" := by decide +kernel
theorem zaqn:Nd "any" := by decide +kernel
theorem zagv:Nd "_law_opened" := by decide +kernel
theorem av26:AF (defScope (top 26)) ["_law_gates", "_law_stops", "_law_found", "_law_number", "_law_gate"]:=⟨by decide +kernel⟩
theorem gl26:AG (defScope (top 26)) ["enumerate", "any"]:=⟨by decide +kernel⟩
def zaj2:Scope:={ kind:=PySem.ScopeKind.function,names:=[ (PySem.Str.ofString ".0",PySem.NameKind.local),(PySem.Str.ofString "_law_feed",PySem.NameKind.local),(PySem.Str.ofString "_law_found",PySem.NameKind.free)],isGenerator:=false,isCoroutine:=false,more:=[]:PySem.Scope }
theorem zanj:CompOk zaj2 (defScope (top 26)) (["_law_feed"]:List Str) (["_law_gates", "_law_stops", "_law_found", "_law_number", "_law_gate"]:List Str) [2] (["_law_feed", "_law_found"]:List Str):=compOk rfl (by decide +kernel) (by decide +kernel) (by decide +kernel) (by decide +kernel) rfl (by decide +kernel)
theorem zank:AK (relab zaj2 (defScope (top 26))) ["_law_feed"]:=⟨by decide +kernel⟩
theorem zanl:AV (relab zaj2 (defScope (top 26))) ["_law_feed", "_law_found"]:=⟨by decide +kernel⟩
def spOpn:Sp:=fun vs H Q _=>∃ (gl sp:Addr) (gs:List Gt) (xs:List V) (st:List Nat),vs=[.ref gl,.ref sp]∧H gl=some (.lst xs)∧Gs H gs xs∧Oks gs∧gs.length≤200∧H sp=some (.lst (st.map nV))∧st.length≤100 ∧
 ∀ (r:Addr) (bs:List Bool) (H':Hp),Ch [] H H'→H r=none→H' r=some (.lst (bs.map V.bl))→Op gs st gs.length bs→Q (.ref r) H'
theorem scOpn:FnScope ["_law_gates", "_law_stops", "_law_found", "_law_number", "_law_gate"] ["_law_gates", "_law_stops"] (defScope (top 26)):=⟨rfl,rfl,rfl,by decide +kernel,rfl,by decide +kernel,by decide +kernel⟩
theorem zaug (F:Fun K "_law_opened" "_law_opened" (top 26) f fd) (z_enumerate:mg "enumerate" = none) (z_any:mg "any" = none):FnOk P w K mg base CX0 (k + 1) f fd ["_law_gates", "_law_stops"] spOpn:=by
 have nd:=scOpn.nd
 refine F.ok scOpn (fun vs H Q E h=>by obtain ⟨gl,sp,gs,xs,st,rfl,_⟩:=h; rfl) (fun cdv A outer s0 H vs Q E hr h=>?_)
 obtain ⟨gl,sp,gs,xs,st,rfl,hg,gg,ok,zg,hs,zs,q⟩:=h
 have hu:=zadw hr
 refine ⟨_,(Pr.h (zaah (zaat (i:=2) nd rfl (av26.l 2 rfl) (zabc zaab)) (zaah (zabf PassesOwn.never rfl (zahh .list (gl26.g 0 rfl) z_enumerate (zaaa (qv av26 0 rfl) zaab zaae)) (zafv rfl (zabk (zaar (i:=3) nd rfl (av26.l 3 rfl)) (zabk (zaar (i:=4) nd rfl (av26.l 4 rfl)) zac7))) (zaag (zaa4 (zaaq zaed (qv av26 3 rfl) (qv av26 1 rfl) rfl) (zaag (zabg (zacf PySem.F.plainAttrs_list PySem.F.slot_list_append PySem.F.type_list_append zabd (qv av26 2 rfl) (zaaa zab1 zaab zaaj)))) (zaag (zaa4 (zacg (zac6 (zaaq zada (zaa2 zabo (qv av26 4 rfl) zaad (fun _ _=>rfl)) zaa1 (nomark _)) (zacs (zaaq zada (zaa2 zabo (qv av26 4 rfl) zaad (fun _ _=>rfl)) zaa1 (nomark _))))) (zaag (zabg (zacf PySem.F.plainAttrs_list PySem.F.slot_list_append PySem.F.type_list_append zabd (qv av26 2 rfl) (zaaa zab1 zaab zaaj)))) (zaag (zabg (zacf PySem.F.plainAttrs_list PySem.F.slot_list_append PySem.F.type_list_append zabd (qv av26 2 rfl) (zaaa (zaaf (zakn rfl) (gl26.g 1 rfl) z_any zaql (zaaa (zabl rfl zanj (zafu (zac3 zah9 (qv av26 4 rfl) (zadl zaad) zadk)) (fun _ _ _ _ _=>(zaar (i:=0) zanj.nd rfl (Or.inl (zank.k 0 rfl)) (Or.inr (zank.k 0 rfl)))) (fun _ _ _ _ _=>zab0) (fun _ _ _ _ _=>(zaa2 (zacn K rfl) (qw zanl 1 rfl) (qw zanl 0 rfl) (fun _ _=>rfl)))) zaab zabe) zaqm zaqn) zaab zac2))))))))) (zaag (zaas (qv av26 2 rfl)))))),?_⟩
 (try dsimp only [cxOf])
 have lx:=gg.len
 walk_at "rd"
 rename_i fl hfl
 refine zafy (xs:=xs) (fun i σ H'=>∃ bs u v,σ=[some (.ref gl),some (.ref sp),some (.ref fl),u,v]∧Ch [] H H'∧H' fl=some (.lst (bs.map V.bl))∧Op gs st i bs) ⟨[],_,_,rfl,Ch.new hfl _,zaac,⟨rfl,fun j g h=>by omega⟩⟩ ?_ ?_ ?_
 ·rintro i σ H' hi ⟨bs,u,v,rfl,c,_⟩
  exact SqL.of (c.get hg (by simp))
 ·rintro i x σ H' T hx ⟨bs,u,v,rfl,c,hf,op⟩ hT
  have hi:i < gs.length:=by rw [← lx]; exact (List.getElem?_eq_some_iff.mp hx).1
  obtain ⟨g,hgi⟩:∃ g,gs[i]?=some g:=⟨_,List.getElem?_eq_getElem hi⟩
  obtain ⟨p,ep,hp⟩:=gg.at_ i g hgi
  rw [hx] at ep
  cases ep
  have hp1:H' p=some (.tup g.vs):=c.get hp (by simp)
  have hs1:=c.get hs (by simp)
  obtain ⟨wd,rs,ev,h1,h2,h3,h4⟩:=zagg g
  rw [ev] at hp1
  have lb:bs.length=i:=op.len
  have iv:=zanh i st
  walk_at "rd"
  refine ⟨zasf st,_,rfl,?_⟩
  rw [iv]
  by_cases hm:i∈st
  ·rw [decide_eq_true hm]
   refine iteT ?_
   walk_at "rd"
   exact ⟨(by rw [zaac,List.map_append]; rfl:_=some (HO.lst (List.map V.bl (bs++[false])))),op.push ok hgi (by rw [if_pos hm])⟩
  ·rw [decide_eq_false hm]
   refine iteF ?_
   walk_at "rd"
   rw [h1]
   cases hI:g.isIn with
   | true =>
    refine iteT (iteT ?_)
    walk_at "rd"
    exact ⟨(by rw [zaac,List.map_append]; rfl:_=some (HO.lst (List.map V.bl (bs++[true])))),op.push ok hgi (by rw [if_neg hm,h3,hI]; rfl)⟩
   | false =>
    refine iteF ?_
    walk_at "rd"
    rw [h2]
    cases hK:g.isKeep with
    | true =>
     refine iteT ?_
     walk_at "rd"
     exact ⟨(by rw [zaac,List.map_append]; rfl:_=some (HO.lst (List.map V.bl (bs++[true])))),op.push ok hgi (by rw [if_neg hm,h3,hI,hK]; rfl)⟩
    | false =>
     refine iteF ?_
     have hsr:g.src=false:=by rw [h3,hI,hK]; rfl
     rw [h4 hsr] at hp1
     have fl9:=zael (ok i g hgi) hsr
     have f3:g.feeds.length≤3:=by cases g <;> simp [Gt.feeds]
     walk_at "rd"
     rename_i tp htp
     rw [cut1]
     have c9:Ch [] H' (upd (upd H' T (HO.tup [V.int ↑i,V.ref p])) tp (HO.tup (g.feeds.map nV))):=(Ch.new hT _).trans (Ch.new htp _)
     have ht9:upd (upd H' T (HO.tup [V.int ↑i,V.ref p])) tp (HO.tup (g.feeds.map nV)) tp=some (.tup (g.feeds.map nV)):=zaac
     generalize upd (upd H' T (HO.tup [V.int ↑i,V.ref p])) tp (HO.tup (g.feeds.map nV))=H9 at c9 ht9 ⊢
     have hf9:=c9.get hf (by simp)
     refine zafg (g.feeds.map nV) (fun j ys σ H'=>H'=H9∧ys=((g.feeds.take j).map fun a=>bs.getD a false).map V.bl∧∃ u,σ=[u,some (.ref fl)]) (by rw [sizeLine_eq,List.length_map]; omega) ⟨rfl,rfl,_,rfl⟩ ?_ ?_ ?_
     ·rintro j ys σ H' hj ⟨rfl,rfl,_⟩
      exact ⟨by simp; omega,SqT.of ht9⟩
     ·rintro j ys σ H' x hx ⟨rfl,rfl,u,rfl⟩
      rw [List.getElem?_map] at hx
      cases e:g.feeds[j]? with
      | none=>rw [e] at hx; cases hx
      | some n =>
       rw [e] at hx
       cases hx
       have at1:=zaqk (bs:=bs) (a:=n) (by rw [lb]; exact fl9 n (List.mem_of_getElem? e))
       unfold nV
       walk_at "rd"
       refine ⟨?_,_,rfl⟩
       rw [List.take_add_one,e]
       simp
     ·rintro ys σ H8 ⟨rfl,rfl,u,rfl⟩
      rw [List.length_map,List.take_length]
      intro D hD
      refine ⟨D,g.feeds.map (fun a=>bs.getD a false),rfl,zaac,?_⟩
      have c8:=c.trans c9
      walk_at "rd"
      exact ⟨(by rw [zaac,List.map_append]; rfl:_=some (HO.lst (List.map V.bl (bs++[(g.feeds.map (fun a=>bs.getD a false)).any id])))),op.push ok hgi (by rw [if_neg hm,hsr,List.any_map]; rfl)⟩
 ·rintro σ H1 ⟨bs,u,v,rfl,c,hf,op⟩
  walk_at "rd"
  exact q fl bs _ c hfl hf (by rw [← lx]; exact op)
theorem av28:AF (defScope (top 28)) ["_law_gates", "_law_number"]:=⟨by decide +kernel⟩
def spLSrc:Sp:=fun vs H Q _=>∃ (gl:Addr) (gs:List Gt) (xs:List V) (n:Nat) (g:Gt),vs=[.ref gl,.int (n:Int)]∧H gl=some (.lst xs)∧Gs H gs xs∧gs[n]?=some g∧∀ H',Ch [] H H'→Q (.bl g.src) H'
theorem scLSrc:FnScope ["_law_gates", "_law_number"] ["_law_gates", "_law_number"] (defScope (top 28)):=⟨rfl,rfl,rfl,by decide +kernel,rfl,by decide +kernel,by decide +kernel⟩
theorem zasg (F:Fun K "_law_is_source" "_law_is_source" (top 28) f fd):FnOk P w K mg base CX0 (k + 1) f fd ["_law_gates", "_law_number"] spLSrc:=by
 have nd:=scLSrc.nd
 refine F.ok scLSrc (fun vs H Q E h=>by obtain ⟨gl,gs,xs,n,g,rfl,_⟩:=h; rfl) (fun cdv A outer s0 H vs Q E hr h=>?_)
 obtain ⟨gl,gs,xs,n,g,rfl,hg,gg,eg,q⟩:=h
 refine ⟨_,(Pr.h (zaag (zaas (zabu zaed (zaa2 zabo (zaa2 zabi (qv av28 0 rfl) (qv av28 1 rfl) (fun _ _=>rfl)) zaad (fun _ _=>rfl)) (zabh (zaaa zaa1 (zaaa zaa1 zaab zaaj) zaaj)) rfl)))),?_⟩
 (try dsimp only [cxOf])
 obtain ⟨wd,rs,ev,hs⟩:=zakv g
 obtain ⟨p,ep,hp⟩:=gg.at_ n g eg
 have at1:=zacb ep
 rw [ev] at hp
 walk_at "rd"
 rename_i T hT
 show Q (V.bl (inV (V.str wd) _)) _
 rw [hs]
 exact q _ (Ch.new hT _)
theorem av27:AF (defScope (top 27)) ["_law_gates", "_law_stops", "_law_gate", "_law_opened_here"]:=⟨by decide +kernel⟩
theorem gl27:AG (defScope (top 27)) ["_law_opened", "any"]:=⟨by decide +kernel⟩
def zaj3:Scope:={ kind:=PySem.ScopeKind.function,names:=[ (PySem.Str.ofString ".0",PySem.NameKind.local),(PySem.Str.ofString "_law_feed",PySem.NameKind.local),(PySem.Str.ofString "_law_opened_here",PySem.NameKind.free)],isGenerator:=false,isCoroutine:=false,more:=[]:PySem.Scope }
theorem zanm:CompOk zaj3 (defScope (top 27)) (["_law_feed"]:List Str) (["_law_gates", "_law_stops", "_law_gate", "_law_opened_here"]:List Str) [3] (["_law_feed", "_law_opened_here"]:List Str):=compOk rfl (by decide +kernel) (by decide +kernel) (by decide +kernel) (by decide +kernel) rfl (by decide +kernel)
theorem zann:AK (relab zaj3 (defScope (top 27))) ["_law_feed"]:=⟨by decide +kernel⟩
theorem zano:AV (relab zaj3 (defScope (top 27))) ["_law_feed", "_law_opened_here"]:=⟨by decide +kernel⟩
def spShut:Sp:=fun vs H Q _=>∃ (gl sp:Addr) (gs:List Gt) (xs:List V) (st:List Nat) (n:Nat) (g:Gt),vs=[.ref gl,.ref sp,.int (n:Int)]∧H gl=some (.lst xs)∧Gs H gs xs∧Oks gs∧gs.length≤200∧H sp=some (.lst (st.map nV))∧st.length≤100∧gs[n]?=some g∧g.src=false ∧
 ∀ (bs:List Bool) (H':Hp),Ch [] H H'→Op gs st gs.length bs→Q (.bl (!(g.feeds.any fun a=>bs.getD a false))) H'
theorem scShut:FnScope ["_law_gates", "_law_stops", "_law_gate", "_law_opened_here"] ["_law_gates", "_law_stops", "_law_gate"] (defScope (top 27)):=⟨rfl,rfl,rfl,by decide +kernel,rfl,by decide +kernel,by decide +kernel⟩
theorem zash (F:Fun K "_law_shut" "_law_shut" (top 27) f fd) (D_law_opened:DefOk P w K mg base CX0 k "_law_opened" ["_law_gates", "_law_stops"] spOpn) (z_any:mg "any" = none):FnOk P w K mg base CX0 (k + 1) f fd ["_law_gates", "_law_stops", "_law_gate"] spShut:=by
 have nd:=scShut.nd
 refine F.ok scShut (fun vs H Q E h=>by obtain ⟨gl,sp,gs,xs,st,n,g,rfl,_⟩:=h; rfl) (fun cdv A outer s0 H vs Q E hr h=>?_)
 obtain ⟨gl,sp,gs,xs,st,n,g,rfl,hg,gg,ok,zg,hs,zs,egn,hsr,q⟩:=h
 have hu:=zadw hr
 refine ⟨_,(Pr.h (zaah (zaat (i:=3) nd rfl (av27.l 3 rfl) (zaap D_law_opened hr (gl27.g 0 rfl) pass0 (zaaa (qv av27 0 rfl) (zaaa (qv av27 1 rfl) zaab zaae) zaae) zagv)) (zaag (zaas (zaft (zaaf (zakn rfl) (gl27.g 1 rfl) z_any zaql (zaaa (zabl rfl zanm (zafu (zac3 zah9 (zaa2 zabi (qv av27 0 rfl) (qv av27 2 rfl) (fun _ _=>rfl)) (zadl zaad) zadk)) (fun _ _ _ _ _=>(zaar (i:=0) zanm.nd rfl (Or.inl (zann.k 0 rfl)) (Or.inr (zann.k 0 rfl)))) (fun _ _ _ _ _=>zab0) (fun _ _ _ _ _=>(zaa2 (zacn K rfl) (qw zano 1 rfl) (qw zano 0 rfl) (fun _ _=>rfl)))) zaab zabe) zaqm zaqn)))))),?_⟩
 (try dsimp only [cxOf])
 obtain ⟨wd,rs,ev,h1,h2,h3,h4⟩:=zagg g
 obtain ⟨p,ep,hp⟩:=gg.at_ n g egn
 have at1:=zacb ep
 rw [ev,h4 hsr] at hp
 have nl:n < gs.length:=(List.getElem?_eq_some_iff.mp egn).1
 have fl9:=zael (ok n g egn) hsr
 have f3:g.feeds.length≤3:=by cases g <;> simp [Gt.feeds]
 walk_at "rd"
 rename_i r bs H1 c1 fr hr1 op tp htp
 rw [cut1]
 have c9:Ch [] H1 (upd H1 tp (HO.tup (g.feeds.map nV))):=Ch.new htp _
 have ht9:upd H1 tp (HO.tup (g.feeds.map nV)) tp=some (.tup (g.feeds.map nV)):=zaac
 generalize upd H1 tp (HO.tup (g.feeds.map nV))=H9 at c9 ht9 ⊢
 have hf9:=c9.get hr1 (by simp)
 refine zafg (g.feeds.map nV) (fun j ys σ H'=>H'=H9∧ys=((g.feeds.take j).map fun a=>bs.getD a false).map V.bl∧∃ u,σ=[u,some (.ref r)]) (by rw [sizeLine_eq,List.length_map]; omega) ⟨rfl,rfl,_,rfl⟩ ?_ ?_ ?_
 ·rintro j ys σ H' hj ⟨rfl,rfl,_⟩
  exact ⟨by simp; omega,SqT.of ht9⟩
 ·rintro j ys σ H' x hx ⟨rfl,rfl,u,rfl⟩
  rw [List.getElem?_map] at hx
  cases e:g.feeds[j]? with
  | none=>rw [e] at hx; cases hx
  | some n2 =>
   rw [e] at hx
   cases hx
   have at1:=zaqk (bs:=bs) (a:=n2) (by rw [op.len]; have:=fl9 n2 (List.mem_of_getElem? e); omega)
   unfold nV
   walk_at "rd"
   refine ⟨?_,_,rfl⟩
   rw [List.take_add_one,e]
   simp
 ·rintro ys σ H8 ⟨rfl,rfl,u,rfl⟩
  rw [List.length_map,List.take_length]
  intro D hD
  refine ⟨D,g.feeds.map (fun a=>bs.getD a false),rfl,zaac,_,rfl,?_⟩
  have:=q bs _ ((c1.trans c9).trans (Ch.new hD (HO.lst ((g.feeds.map (fun a=>bs.getD a false)).map V.bl)))) op
  rw [List.any_map]
  exact this
end
theorem zapr {gs:List Gt}{st:List Nat}{bs:List Bool} (op:Op gs st gs.length bs) {n:Nat}{g:Gt} (e:gs[n]?=some g):bs.getD n false=if n∈st then false else if g.src then true else g.feeds.any fun a=>bs.getD a false:=by
 rw [List.getD_eq_getElem?_getD,op.at_ n g (List.getElem?_eq_some_iff.mp e).1 e]
 rfl
end

section
local macro_rules | `(tactic| walk_at "user")=>`(tactic| first
 | (apply zacy; (focus walk_at "get"); (focus with_reducible assumption))
 | (apply zadd; (focus walk_at "get"); (focus with_reducible assumption))
 | (apply dputI; (focus walk_at "get"); (focus walk_at "arith")))
structure Cm (gs:List Gt) (g:Nat) (ks ws:List Nat):Prop where
 nd:ks.Nodup
 le:∀ n∈ks,n≤g
 top:g∈ks
 ws:∀ n∈ws,n∈ks
 rc:∀ n∈ks,Dn gs [] g n
structure CC (gs:List Gt) (ks ws ex:List Nat):Prop where
 h:∀ (m:Nat) (b:Gt),m∈ks→m ∉ ws→m ∉ ex→gs[m]?=some b→∀ a∈fwn b,a∈ks
theorem Cm.pop {gs:List Gt}{g n:Nat}{ks ws:List Nat} (h:Cm gs g ks (ws++[n])):Cm gs g ks ws:=⟨h.nd,h.le,h.top,fun m z=>h.ws m (List.mem_append_left _ z),h.rc⟩
theorem Cm.push {gs:List Gt}{g n:Nat}{ks ws:List Nat} (h:Cm gs g ks ws) (hn:n ∉ ks) (l:n≤g) (d:Dn gs [] g n):Cm gs g (ks++[n]) (ws++[n]):=by
 refine ⟨List.nodup_append.mpr ⟨h.nd,by simp,fun x hx y hy=>by rw [List.mem_singleton.mp hy]; exact fun e=>hn (e ▸ hx)⟩,fun m z=>?_,List.mem_append_left _ h.top,fun m z=>?_,fun m z=>?_⟩
 ·rcases List.mem_append.mp z with e | e
  ·exact h.le m e
  ·rw [List.mem_singleton.mp e]; exact l
 ·rcases List.mem_append.mp z with e | e
  ·exact List.mem_append_left _ (h.ws m e)
  ·exact List.mem_append_right _ e
 ·rcases List.mem_append.mp z with e | e
  ·exact h.rc m e
  ·rw [List.mem_singleton.mp e]; exact d
theorem Cm.few {gs:List Gt}{g:Nat}{ks ws:List Nat} (h:Cm gs g ks ws) (hg:g < gs.length):ks.length≤gs.length:=zage gs.length ks h.nd fun n m=>by have:=h.le n m; omega
theorem Cm.last {gs:List Gt}{g:Nat}{ks ws rs:List Nat} (h:Cm gs g ks ws) (p:rs.Perm ks) (s:rs.Pairwise (·≤·)):∃ is:List Nat,rs=is++[g]∧g ∉ is:=by
 have hne:rs≠[]:=by rintro rfl; exact absurd (p.mem_iff.mpr h.top) (by simp)
 obtain ⟨is,l,rfl⟩:∃ is l,rs=is++[l]:=⟨rs.dropLast,rs.getLast hne,(List.dropLast_concat_getLast hne).symm⟩
 have l1:l≤g:=h.le l (p.mem_iff.mp (by simp))
 have l2:g≤l:=by
  rcases List.mem_append.mp (p.mem_iff.mpr h.top) with e | e
  ·exact (List.pairwise_append.mp s).2.2 g e l (by simp)
  ·rw [List.mem_singleton.mp e]; exact Nat.le_refl _
 have e:l=g:=by omega
 subst e
 refine ⟨is,rfl,fun z=>?_⟩
 have nd:=p.nodup_iff.mpr h.nd
 exact (List.nodup_append.mp nd).2.2 l z l (by simp) rfl
theorem Cm.all {gs:List Gt}{g:Nat}{ks:List Nat} (h:Cm gs g ks []) (c:CC gs ks [] []) (n:Nat):n∈ks↔Dn gs [] g n:=by
 refine ⟨h.rc n,fun d=>?_⟩
 induction d with
 | top _=>exact h.top
 | fed _ e m _ ih=>exact c.h _ _ ih (by simp) (by simp) e _ m
section
variable {P:Program}{w:World}{K:PySem.W.Frag}{mg:Str→Option Value}{base:Heap}{f:Addr}{fd:FuncData}{k:Nat}
theorem zade:Nd "_law_is_source" := by decide +kernel
theorem av29:AF (defScope (top 29)) ["_law_gates", "_law_gate", "_law_found", "_law_met", "_law_one", "_law_feed"]:=⟨by decide +kernel⟩
theorem gl29:AG (defScope (top 29)) ["len", "_law_is_source", "sorted", "list"]:=⟨by decide +kernel⟩
def spCone:Sp:=fun vs H Q _=>∃ (gl:Addr) (gs:List Gt) (xs:List V) (g:Nat),vs=[.ref gl,.int (g:Int)]∧H gl=some (.lst xs)∧Gs H gs xs∧Oks gs∧gs.length < 64∧g < gs.length ∧
 ∀ (r:Addr) (is:List Nat) (H':Hp),Ch [] H H'→H r=none→H' r=some (.lst ((is++[g]).map nV))→g ∉ is→is.length≤64→(is++[g]).Nodup→(∀ n,n∈is++[g]↔Dn gs [] g n)→Q (.ref r) H'
theorem scCone:FnScope ["_law_gates", "_law_gate", "_law_found", "_law_met", "_law_one", "_law_feed"] ["_law_gates", "_law_gate"] (defScope (top 29)):=⟨rfl,rfl,rfl,by decide +kernel,rfl,by decide +kernel,by decide +kernel⟩
theorem zasi (F:Fun K "_law_cone" "_law_cone" (top 29) f fd) (D_law_is_source:DefOk P w K mg base CX0 k "_law_is_source" ["_law_gates", "_law_number"] spLSrc) (z_len:mg "len" = none) (z_sorted:mg "sorted" = none) (z_list:mg "list" = none):FnOk P w K mg base CX0 (k + 1) f fd ["_law_gates", "_law_gate"] spCone:=by
 have nd:=scCone.nd
 refine F.ok scCone (fun vs H Q E h=>by obtain ⟨gl,gs,xs,g,rfl,_⟩:=h; rfl) (fun cdv A outer s0 H vs Q E hr h=>?_)
 obtain ⟨gl,gs,xs,g,rfl,hg,gg,ok,zg,gl64,q⟩:=h
 have hu:=zadw hr
 refine ⟨_,(Pr.h (zaav (zaat (i:=2) nd rfl (av29.l 2 rfl) (zabc (zaaa (qv av29 1 rfl) zaab zaae))) (zaav (zaat (i:=3) nd rfl (av29.l 3 rfl) (zafi (zac4 (qv av29 1 rfl) zab1 zafh) rfl rfl (by intro z; cases z) (by decide))) (zaah (zady PassesOwn.never (zaaq zafk (zaaf zaai (gl29.g 0 rfl) z_len PySem.boot_len (zaaa (qv av29 2 rfl) zaab zaae) zaa6 zaa7) zaad (nomark _)) (zaav (zaat (i:=4) nd rfl (av29.l 4 rfl) (zajp (qv av29 2 rfl))) (zaag (zaa4 (zadx (zabj (zaap D_law_is_source hr (gl29.g 1 rfl) pass0 (zaaa (qv av29 0 rfl) (zaaa (qv av29 4 rfl) zaab zaae) zaae) zade))) (zaag (zabf PassesOwn.never rfl (zafu (zac3 zah9 (zaa2 zabi (qv av29 0 rfl) (qv av29 4 rfl) (fun _ _=>rfl)) (zadl zaad) zadk)) (zaar (i:=5) nd rfl (av29.l 5 rfl)) (zaag (zaa4 (zach hu (qv av29 5 rfl) (qv av29 3 rfl)) (zaah (zacw hu (qv av29 3 rfl) (qv av29 5 rfl) zab1 rfl) (zaag (zabg (zacf PySem.F.plainAttrs_list PySem.F.slot_list_append PySem.F.type_list_append zabd (qv av29 2 rfl) (zaaa (qv av29 5 rfl) zaab zaae))))) zaau)))) zaau)))) (zaag (zaas (zaaf zain (gl29.g 2 rfl) z_sorted zair (zaaa (zabp (zaez rfl) (gl29.g 3 rfl) z_list zacc (zaaa (qv av29 3 rfl) zaab zaae) zacd zace) zaab zac2) zais zait))))))),?_⟩
 (try dsimp only [cxOf])
 refine zaa9 (fun σ H'=>∃ wl,σ=[some (.ref gl),some (.int (g:Int)),some (.ref wl),none,none,none]∧Ch [] H H'∧H' wl=some (.lst ([g].map nV))∧H wl=none) ?_ ?_
 ·walk_at "rd"
 rintro σ H1 ⟨wl,rfl,c1,hw1,fwl⟩
 refine zaa9 (fun σ H'=>∃ d,σ=[some (.ref gl),some (.int (g:Int)),some (.ref wl),some (.ref d),none,none]∧Ch [] H H'∧H' wl=some (.lst ([g].map nV))∧H' d=some (.dK ([g].map kt))∧H d=none) ?_ ?_
 ·walk_at "rd"
  rename_i d hd
  refine ⟨(rfl:_=List.map (fun kv=>(kV kv.1,kv.2)) ([g].map kt)),by simp,?_⟩
  have cd:=Ch.own (W:=[]) (o:=HO.dK (mergeK [] ([g].map kt))) hd (Ch.new hd (HO.dK []))
  exact ⟨d,rfl,c1.trans cd,cd.get hw1 (by simp),by rw [zaac]; rfl,chFree c1 hd⟩
 rintro σ H2 ⟨d,rfl,c2,hw2,hd2,fd0⟩
 have ndw:d≠wl:=zacz hd2 hw2 (by intro z; cases z)
 have cn0:Cm gs g [g] [g]:=⟨by simp,by simp,by simp,by simp,fun n m=>by rw [List.mem_singleton.mp m]; exact .top (by simp)⟩
 have cc0:CC gs [g] [g] []:=⟨fun m b h1 h2=>absurd h1 h2⟩
 refine ⟨(fun m σ H'=>∃ (ks ws:List Nat) (u v:Option V),σ=[some (.ref gl),some (.int (g:Int)),some (.ref wl),some (.ref d),u,v]∧Ch [] H H'∧H' d=some (.dK (ks.map kt))∧Cm gs g ks ws∧CC gs ks ws []∧H' wl=some (.lst (ws.map nV))∧m=ws.length + 2 * (gs.length - ks.length)∧m≤1000),⟨_,[g],[g],_,_,rfl,c2,hd2,cn0,cc0,hw2,rfl,by simp; omega⟩,?_⟩
 rintro m σ H1 ⟨ks,ws,u,v,rfl,c,hk,cn,cc,hw,rfl,hm⟩
 walk_at "rd"
 refine ite2 (fun hc=>?_) (fun hc=>?_)
 ·refine ⟨_,fun σ' H' z=>z,?_⟩
  have hne:ws≠[]:=by rintro rfl; simp at hc
  obtain ⟨ws,n,rfl⟩:∃ ws' n,ws=ws'++[n]:=⟨ws.dropLast,ws.getLast hne,(List.dropLast_concat_getLast hne).symm⟩
  have hla:((ws++[n]).map nV)[((ws++[n]).map nV).length - 1]?=some (nV n):=by simp
  have edl:((ws++[n]).map nV).dropLast=ws.map nV:=by rw [List.map_append]; exact List.dropLast_concat
  have cP:=Ch.own (o:=.lst (ws.map nV)) fwl c
  have hkP:upd H1 wl (.lst (ws.map nV)) d=some (.dK (ks.map kt)):=zabs ndw hk
  have hwP:upd H1 wl (.lst (ws.map nV)) wl=some (.lst (ws.map nV)):=zaac
  rw [List.length_append,List.length_singleton] at hm
  refine zaa9 (fun σ H'=>σ=[some (.ref gl),some (.int (g:Int)),some (.ref wl),some (.ref d),some (.int (n:Int)),v]∧Ch [] H H'∧H' d=some (.dK (ks.map kt))∧H' wl=some (.lst (ws.map nV))) ?_ ?_
  ·refine ⟨_,rfl,.inl ⟨rfl,_,SqL.of hw⟩,wl,_,_,rfl,rfl,hw,hla,?_⟩
   rw [edl]
   exact ⟨rfl,cP,hkP,hwP⟩
  clear hk hw cP hkP hwP
  rintro σ H3 ⟨rfl,c3,hk,hw⟩
  have nk:=cn.ws n (by simp)
  have ng:=cn.le n nk
  have nlt:n < gs.length:=by omega
  obtain ⟨b,egn⟩:∃ b,gs[n]?=some b:=⟨_,List.getElem?_eq_getElem nlt⟩
  have gg3:=gg.tu (Tu.same c3)
  have hg3:=c3.get hg (by simp)
  obtain ⟨wd,rs,ev,h1,h2,h3,h4⟩:=zagg b
  obtain ⟨p,ep,hp⟩:=gg.at_ n b egn
  have at1:=zacb ep
  have cn1:=cn.pop
  walk_at "rd"
  rename_i H4 c4
  have hk4:=c4.get hk (by simp)
  have hw4:=c4.get hw (by simp)
  have c04:=c3.trans c4
  have kf:=cn.few gl64
  clear hk hw c3 c4
  rw [List.length_append,List.length_singleton]
  cases hsr:b.src with
  | true =>
   refine iteF ?_
   have cc1:CC gs ks ws []:=⟨fun m b' h1 h2 _ e a ha=>by
    by_cases z:m=n
    ·subst z
     rw [egn] at e
     cases e
     unfold fwn at ha
     rw [if_pos hsr] at ha; cases ha
    ·exact cc.h m b' h1 (by simp [h2,z]) (by simp) e a ha⟩
   exact ⟨_,(by omega:ws.length + 2 * (gs.length - ks.length) < ws.length + 1 + 2 * (gs.length - ks.length)),ks,ws,_,_,rfl,c04,hk4,cn1,cc1,hw4,rfl,by omega⟩
  | false =>
   refine iteT ?_
   have efw:fwn b=b.feeds:=by unfold fwn; rw [if_neg (by rw [hsr]; simp)]
   have dnn:=cn.rc n nk
   have cc1:CC gs ks ws [n]:=⟨fun m b' h1 h2 h3 e a ha=>cc.h m b' h1 (by simp at h3; simp [h2,h3]) (by simp) e a ha⟩
   have hp4:=c04.get hp (by simp)
   rw [ev,h4 hsr] at hp4
   have hg4:=c04.get hg (by simp)
   have fl9:=zael (ok n b egn) hsr
   walk_at "rd"
   rename_i tp htp
   rw [cut1]
   have ht9:upd H4 tp (HO.tup (b.feeds.map nV)) tp=some (.tup (b.feeds.map nV)):=zaac
   have c9:Ch [] H4 (upd H4 tp (HO.tup (b.feeds.map nV))):=Ch.new htp _
   generalize upd H4 tp (HO.tup (b.feeds.map nV))=H9 at c9 ht9 ⊢
   refine zao0 (xs:=b.feeds.map nV) (fun j σ H'=>∃ ks' ws' v,σ=[some (.ref gl),some (.int (g:Int)),some (.ref wl),some (.ref d),some (.int (n:Int)),v]∧Ch [] H H'∧H' d=some (.dK (ks'.map kt))∧Cm gs g ks' ws'∧CC gs ks' ws' [n]∧(∀ a∈b.feeds.take j,a∈ks')∧H' wl=some (.lst (ws'.map nV))∧H' tp=some (.tup (b.feeds.map nV))∧ws'.length + 2 * (gs.length - ks'.length)≤ws.length + 2 * (gs.length - ks.length)) ⟨ks,ws,_,rfl,c04.trans c9,c9.get hk4 (by simp),cn1,cc1,by simp,c9.get hw4 (by simp),ht9,Nat.le_refl _⟩ ?_ ?_ ?_
   ·rintro j σ H' hj ⟨ks',ws',v',rfl,c5,hk5,cn5,cc5,tk5,hw5,ht5,le5⟩
    exact SqT.of ht5
   ·rintro j x σ H' hx ⟨ks',ws',v',rfl,c5,hk5,cn5,cc5,tk5,hw5,ht5,le5⟩
    rw [List.getElem?_map] at hx
    cases e:b.feeds[j]? with
    | none=>rw [e] at hx; cases hx
    | some a =>
     rw [e] at hx
     cases hx
     have la:=fl9 a (List.mem_of_getElem? e)
     have tk:b.feeds.take (j + 1)=b.feeds.take j++[a]:=by rw [List.take_add_one,e]; rfl
     have kv:=zakw ks' a
     have kf5:=cn5.few gl64
     have kl9:(ks'.map kt).length≤64:=by rw [List.length_map]; omega
     have wl9:ws'.length≤1000:=by omega
     by_cases ea:a∈ks'
     ·rw [if_pos ea] at kv
      unfold nV
      clear hk4 hw4 hg4 hp4
      walk_at "rd"
      refine ⟨fun z hz=>?_,hw5,ht5,le5⟩
      rw [tk] at hz
      rcases List.mem_append.mp hz with hz | hz
      ·exact tk5 z hz
      ·rw [List.mem_singleton.mp hz]; exact ea
     ·rw [if_neg ea] at kv
      have cn6:=cn5.push ea (by omega) (.fed dnn egn (by rw [efw]; exact List.mem_of_getElem? e) (by simp))
      have kf6:=cn6.few gl64
      rw [List.length_append,List.length_singleton] at kf6
      have cD:=Ch.own (o:=.dK (putK (ks'.map kt) (.inl (a:Int)) (.bl true))) fd0 c5
      have hw6:upd H' d (.dK (putK (ks'.map kt) (.inl (a:Int)) (.bl true))) wl=some (.lst (ws'.map nV)):=zabs (Ne.symm ndw) hw5
      have ntd:tp≠d:=zacz ht5 hk5 (by intro z; cases z)
      have ntw:tp≠wl:=zacz ht5 hw5 (by intro z; cases z)
      unfold nV at hw5 hw6 ⊢
      clear hk4 hw4 hg4 hp4
      walk_at "rd"
      have cc6:CC gs (ks'++[a]) (ws'++[a]) [n]:=⟨fun m b' h1 h2 h3 e' x hx=>by
       rw [List.mem_append,not_or] at h2
       rcases List.mem_append.mp h1 with h1 | h1
       ·exact List.mem_append_left _ (cc5.h m b' h1 h2.1 h3 e' x hx)
       ·exact absurd h1 h2.2⟩
      have tk6:∀ z∈b.feeds.take (j + 1),z∈ks'++[a]:=fun z hz=>by
       rw [tk] at hz
       rcases List.mem_append.mp hz with hz | hz
       ·exact List.mem_append_left _ (tk5 z hz)
       ·exact List.mem_append_right _ hz
      exact ⟨by rw [zabs ndw zaac,zaqj ea],cn6,cc6,tk6,by rw [zaac,List.map_append]; rfl,zabs ntw (zabs ntd ht5),by simp; omega⟩
   ·rintro σ H' ⟨ks',ws',v',rfl,c5,hk5,cn5,cc5,tk5,hw5,ht5,le5⟩
    rw [List.length_map,List.take_length] at tk5
    have cc7:CC gs ks' ws' []:=⟨fun m b' h1 h2 _ e a ha=>by
     by_cases z:m=n
     ·subst z
      rw [egn] at e
      cases e
      rw [efw] at ha
      exact tk5 a ha
     ·exact cc5.h m b' h1 h2 (by simp [z]) e a ha⟩
    exact ⟨_,(by omega:ws'.length + 2 * (gs.length - ks'.length) < ws.length + 1 + 2 * (gs.length - ks.length)),ks',ws',_,_,rfl,c5,hk5,cn5,cc7,hw5,rfl,by omega⟩
 ·have hnil:ws=[]:=by
   cases ws with
   | nil=>rfl
   | cons _ _=>exact absurd hc (by simp)
  subst hnil
  walk_at "rd"
  rename_i l hl
  have kf:=cn.few gl64
  refine ⟨(by rw [zaac]; simp [kt,kV]:_=some (HO.lst (List.map V.int (ks.map (fun n:Nat=>(n:Int)))))),by rw [List.length_map]; omega,fun p ns' pm ps hp=>?_⟩
  obtain ⟨ks',rfl,pk⟩:=zakx pm
  have pw:ks'.Pairwise (·≤·):=by
   rw [List.pairwise_map] at ps
   exact ps.imp fun h=>by omega
  obtain ⟨is,rfl,gi⟩:=cn.last pk pw
  have il:=pk.length_eq
  rw [List.length_append,List.length_singleton] at il
  have c9:=c.trans (Ch.new hl (HO.lst (List.map (fun kv=>kV kv.1) (ks.map kt))))
  exact q p is _ (c9.trans (Ch.new hp _)) (chFree c9 hp) (by rw [zaac,List.map_map]; rfl) gi (by omega) (pk.nodup_iff.mpr cn.nd) (fun n=>pk.mem_iff.trans (cn.all cc n))
end
end

section
structure LL (H:Hp) (fs:List (List Nat)) (xs:List V):Prop where
 h:∃ ps:List Addr,xs=ps.map V.ref∧Paired (fun (s:List Nat) (p:Addr)=>H p=some (.lst (s.map nV))) fs ps
theorem LL.len {H:Hp}{fs:List (List Nat)}{xs:List V} (l:LL H fs xs):xs.length=fs.length:=by
 obtain ⟨ps,rfl,p⟩:=l.h
 rw [List.length_map,← Paired.length p]
theorem LL.ch {H H':Hp}{fs:List (List Nat)}{xs:List V} (l:LL H fs xs) (c:Ch [] H H'):LL H' fs xs:=by
 obtain ⟨ps,e,p⟩:=l.h
 exact ⟨ps,e,zacj (fun _ _ z=>c.get z (by simp)) p⟩
theorem LL.snoc {H:Hp}{fs:List (List Nat)}{xs:List V}{s:List Nat}{p:Addr} (l:LL H fs xs) (h:H p=some (.lst (s.map nV))):LL H (fs++[s]) (xs++[.ref p]):=by
 obtain ⟨ps,rfl,q⟩:=l.h
 exact ⟨ps++[p],by simp,zadr (R:=fun (s:List Nat) (p:Addr)=>H p=some (.lst (s.map nV))) h q⟩
theorem LL.app {H:Hp}{fs gs:List (List Nat)}{xs ys:List V} (l:LL H fs xs) (m:LL H gs ys):LL H (fs++gs) (xs++ys):=by
 obtain ⟨ps,rfl,q⟩:=l.h
 obtain ⟨qs,rfl,r⟩:=m.h
 refine ⟨ps++qs,by simp,?_⟩
 clear l m
 induction q with
 | nil=>exact r
 | cons a t ih=>exact .cons a ih
theorem LL.nil {H:Hp}:LL H [] []:=⟨[],rfl,.nil⟩
theorem LL.at_ {H:Hp}{fs:List (List Nat)}{xs:List V} (l:LL H fs xs) {i:Nat}{x:V} (e:xs[i]?=some x):∃ (s:List Nat) (p:Addr),fs[i]?=some s∧x=.ref p∧H p=some (.lst (s.map nV)):=by
 obtain ⟨ps,rfl,q⟩:=l.h
 rw [List.getElem?_map] at e
 cases e2:ps[i]? with
 | none=>rw [e2] at e; cases e
 | some p =>
  rw [e2] at e
  cases e
  clear l
  induction q generalizing i with
  | nil=>simp at e2
  | cons a t ih =>
   cases i with
   | zero=>simp at e2; subst e2; exact ⟨_,_,rfl,rfl,a⟩
   | succ i=>simp at e2; exact ih e2
def sets1 (f:List (List Nat)) (x:Nat):List (List Nat):=f++(f.filter fun s=>decide (s.length < 4)).map fun s=>s++[x]
theorem zanp (f:List (List Nat)) (x:Nat):(sets1 f x).length≤2 * f.length:=by
 unfold sets1
 rw [List.length_append,List.length_map]
 have:=List.length_filter_le (fun s=>decide (s.length < 4)) f
 omega
theorem zag4 {l:List Nat}{i x:Nat} (e:l[i]?=some x):setsN (l.take (i + 1))=sets1 (setsN (l.take i)) x:=by
 unfold setsN
 rw [List.take_add_one,e,Option.toList_some,List.foldl_append]
 rfl
theorem zanq (l:List Nat):(setsN l).length≤2 ^ l.length:=by
 have:∀ i,i≤l.length→(setsN (l.take i)).length≤2 ^ i:=by
  intro i
  induction i with
  | zero=>intro _; simp [setsN]
  | succ i ih =>
   intro h
   have e:l[i]?=some l[i]:=List.getElem?_eq_getElem (by omega)
   rw [zag4 e]
   have:=zanp (setsN (l.take i)) l[i]
   have:=ih (by omega)
   rw [Nat.pow_succ]; omega
 have:=this l.length (Nat.le_refl _)
 rwa [List.take_length] at this
section
variable {P:Program}{w:World}{K:PySem.W.Frag}{mg:Str→Option Value}{base:Heap}{f:Addr}{fd:FuncData}{k:Nat}
theorem av34:AF (defScope (top 34)) ["_law_gates", "_law_found", "_law_one"]:=⟨by decide +kernel⟩
def zahu:Scope:={ kind:=PySem.ScopeKind.function,names:=[ (PySem.Str.ofString ".0",PySem.NameKind.local),(PySem.Str.ofString "_law_some",PySem.NameKind.local),(PySem.Str.ofString "len",PySem.NameKind.globalImplicit),(PySem.Str.ofString "_law_one",PySem.NameKind.free)],isGenerator:=false,isCoroutine:=false,more:=[]:PySem.Scope }
theorem zanr:CompOk zahu (defScope (top 34)) (["_law_some"]:List Str) (["_law_gates", "_law_found", "_law_one"]:List Str) [2] (["_law_some", "_law_one"]:List Str):=compOk rfl (by decide +kernel) (by decide +kernel) (by decide +kernel) (by decide +kernel) rfl (by decide +kernel)
theorem zans:AK (relab zahu (defScope (top 34))) ["_law_some"]:=⟨by decide +kernel⟩
theorem zasj:AG (relab zahu (defScope (top 34))) ["len"]:=⟨by decide +kernel⟩
theorem zaj4:AV (relab zahu (defScope (top 34))) ["_law_some", "_law_one"]:=⟨by decide +kernel⟩
def spSets:Sp:=fun vs H Q _=>∃ (gl:Addr) (ns:List Nat),vs=[.ref gl]∧H gl=some (.lst (ns.map nV))∧ns.length≤10 ∧
 ∀ (r:Addr) (xs:List V) (H':Hp),Ch [] H H'→H' r=some (.lst xs)→LL H' (setsN ns) xs→Q (.ref r) H'
theorem scSets:FnScope ["_law_gates", "_law_found", "_law_one"] ["_law_gates"] (defScope (top 34)):=⟨rfl,rfl,rfl,by decide +kernel,rfl,by decide +kernel,by decide +kernel⟩
theorem zask (F:Fun K "_law_sets" "_law_sets" (top 34) f fd) (z_len:mg "len" = none):FnOk P w K mg base CX0 (k + 1) f fd ["_law_gates"] spSets:=by
 have nd:=scSets.nd
 refine F.ok scSets (fun vs H Q E h=>by obtain ⟨gl,ns,rfl,_⟩:=h; rfl) (fun cdv A outer s0 H vs Q E hr h=>?_)
 obtain ⟨gl,ns,rfl,hg,hn,q⟩:=h
 have hu:=zadw hr
 refine ⟨_,(Pr.h (zaah (zaat (i:=1) nd rfl (av34.l 1 rfl) (zabc (zaaa (zabc zaab) zaab zahc))) (zaah (zabf PassesOwn.never rfl (zabq (qv av34 0 rfl)) (zaar (i:=2) nd rfl (av34.l 2 rfl)) (zaag (zaat (i:=1) nd rfl (av34.l 1 rfl) (zaan zafq (qv av34 1 rfl) (zabl rfl zanr (zabq (qv av34 1 rfl)) (fun _ _ _ _ _=>(zaar (i:=0) zanr.nd rfl (Or.inl (zans.k 0 rfl)) (Or.inr (zans.k 0 rfl)))) (fun _ _ _ _ _=>(zaeh (zaaq zaoj (zaaf (zahj K rfl) (zasj.g 0 rfl) z_len PySem.boot_len (zaaa (qw zaj4 0 rfl) zaab zaae) zaa6 zaa7) zaad (nomark _)))) (fun _ _ _ _ _=>(zaan zafq (qw zaj4 0 rfl) (zabc (zaaa (qw zaj4 1 rfl) zaab zaae))))))))) (zaag (zaas (qv av34 1 rfl)))))),?_⟩
 (try dsimp only [cxOf])
 walk_at "rd"
 rename_i p1 hp1 p2 hp2
 refine zac1 (xs:=ns.map nV) (fun i σ H'=>∃ fl xs u,σ=[some (.ref gl),some (.ref fl),u]∧Ch [] H H'∧H' fl=some (.lst xs)∧LL H' (setsN (ns.take i)) xs) ⟨_,_,_,rfl,(Ch.new hp1 _).trans (Ch.new hp2 _),zaac,LL.nil.snoc (s:=[]) (zab5 hp2 zaac)⟩ ?_ ?_ ?_
 ·rintro i σ H' hi ⟨fl,xs,u,rfl,c,hf,l⟩
  exact SqL.of (c.get hg (by simp))
 ·rintro i x σ H' hx ⟨fl,xs,u,rfl,c,hf,l⟩
  rw [List.getElem?_map] at hx
  cases e:ns[i]? with
  | none=>rw [e] at hx; cases hx
  | some n =>
   rw [e] at hx
   cases hx
   have hi:i < ns.length:=(List.getElem?_eq_some_iff.mp e).1
   have hl1:=l.len
   have hl2:=zanq (ns.take i)
   have hl3:2 ^ (ns.take i).length≤2 ^ 10:=Nat.pow_le_pow_right (by omega) (by rw [List.length_take]; omega)
   have hl4:xs.length≤1024:=by omega
   walk_at "rd"
   refine zacm xs (fun j ys σ H2=>Ch [] H' H2∧LL H2 ((((setsN (ns.take i)).take j).filter fun s=>decide (s.length < 4)).map fun s=>s++[n]) ys∧∃ u,σ=[u,some (nV n)]) (by rw [sizeLine_eq]; omega) ⟨Ch.refl _ _,LL.nil,_,rfl⟩ ?_ ?_ ?_
   ·rintro j ys σ H2 hj ⟨c2,l2,_⟩
    refine ⟨?_,SqL.of (c2.get hf (by simp))⟩
    rw [l2.len,List.length_map]
    refine Nat.le_trans (List.length_filter_le _ _) ?_
    rw [List.length_take]; omega
   ·rintro j ys σ H2 x hx ⟨c2,l2,u2,rfl⟩
    obtain ⟨t,p,et,rfl,hp⟩:=(l.ch c2).at_ hx
    have tk:(setsN (ns.take i)).take (j + 1)=(setsN (ns.take i)).take j++[t]:=by rw [List.take_add_one,et]; rfl
    have t4:=(zaej _ t).mp (List.mem_of_getElem? et) |>.2
    walk_at "rd"
    refine ite2 (fun hc=>?_) (fun hc=>?_)
    ·have hc2:t.length < 4:=by have h9:=hc; simp at h9; omega
     walk_at "rd"
     rename_i q1 hq1 q2 hq2
     refine ⟨?_,_,rfl⟩
     have e2:(([t]:List (List Nat)).filter fun s=>decide (s.length < 4))=[t]:=by rw [List.filter_cons,if_pos (decide_eq_true hc2)]; rfl
     rw [tk,List.filter_append,List.map_append,e2]
     exact ((l2.ch (Ch.new hq1 _)).ch (Ch.new hq2 _)).snoc (s:=t++[n]) (by rw [zaac,List.map_append]; rfl)
    ·have hc2:¬ t.length < 4:=by have h9:=hc; simp at h9; omega
     walk_at "rd"
     refine ⟨?_,_,rfl⟩
     have e2:(([t]:List (List Nat)).filter fun s=>decide (s.length < 4))=[]:=by rw [List.filter_cons,if_neg (by simpa using hc2)]; rfl
     rw [tk,List.filter_append,List.map_append,e2,List.map_nil,List.append_nil]
     exact l2
   ·rintro ys σ H2 ⟨c2,l2,u2,rfl⟩
    rw [l.len,List.take_length] at l2
    intro D hD
    have cD:=Ch.new (W:=[]) hD (HO.lst ys)
    have hfD:=cD.get (c2.get hf (by simp)) (by simp)
    have hDD:upd H2 D (.lst ys) D=some (.lst ys):=zaac
    have lx:=(l.ch c2).ch cD
    have ly:=l2.ch cD
    have cA:=(c.trans c2).trans cD
    have yl:ys.length≤xs.length:=by
     rw [l2.len,List.length_map,l.len]; exact List.length_filter_le _ _
    generalize upd H2 D (.lst ys)=H3 at hfD hDD lx ly cA ⊢
    walk_at "rd"
    rename_i r hr2
    rw [zag4 e]
    exact (lx.app ly).ch (Ch.new hr2 _)
 ·rintro σ H' ⟨fl,xs,u,rfl,c,hf,l⟩
  rw [List.length_map,List.take_length] at l
  walk_at "rd"
  exact q _ _ _ c hf l
end
end

section
def nk:Option Nat→Key
 | none=>.inr (Str.ofString "end")
 | some n=>.inl (n:Int)
theorem zaiv:∀ {a b:Option Nat},nk a=nk b→a=b
 | none,none,_=>rfl
 | none,some _,h=>by cases h
 | some _,none,h=>by cases h
 | some a,some b,h=>by have:=Sum.inl.inj h; congr 1; omega
def nkV (x:Option Nat):V:=kV (nk x)
def mkN (φ:Option Nat→V) (v:Option Nat):Key × V:=(nk v,φ v)
theorem zaiw (φ:Option Nat→V) (x:Option Nat):∀ l:List (Option Nat),valV (l.map (mkN φ)) (nk x)=if x∈l then some (φ x) else none
 | []=>rfl
 | v :: l=>by
  rw [List.map_cons]
  by_cases e:v=x
  ·subst e; rw [zab4 (p:=mkN φ v) (k:=nk v) rfl,if_pos (by simp)]; rfl
  ·rw [zabz (fun z=>e (zaiv z)),zaiw φ x l]
   by_cases m:x∈l
   ·rw [if_pos m,if_pos (by simp [m])]
   ·rw [if_neg m,if_neg (by simp [m,Ne.symm e])]
theorem zaqo (φ:Option Nat→V) {l:List (Option Nat)}{x:Option Nat} (h:x ∉ l) (v:V):putK (l.map (mkN φ)) (nk x) v=l.map (mkN φ)++[(nk x,v)]:=zaff _ (by rw [zaiw,if_neg h])
def wt:Option Nat→Key × V:=mkN fun _=>.bl true
def addN (l:List (Option Nat)) (x:Option Nat):List (Option Nat):=if x∈l then l else l++[x]
theorem zaps {l:List (Option Nat)}{x y:Option Nat}:y∈addN l x↔y∈l∨y=x:=by
 unfold addN
 split
 ·rename_i h
  exact ⟨.inl,fun z=>z.elim id fun e=>e ▸ h⟩
 ·simp
theorem zasl {l:List (Option Nat)}{x:Option Nat} (h:l.Nodup):(addN l x).Nodup:=by
 unfold addN
 split
 ·exact h
 ·rename_i n
  rw [List.nodup_append]
  refine ⟨h,by simp,fun a ha b hb e=>?_⟩
  rw [List.mem_singleton] at hb
  subst hb; subst e; exact n ha
theorem zaqp (l:List (Option Nat)) (x:Option Nat):putK (l.map wt) (nk x) (.bl true)=(addN l x).map wt:=by
 unfold addN
 split
 ·rename_i m
  unfold putK
  rw [if_pos]
  ·refine (List.map_congr_left (g:=id) fun kv hkv=>?_).trans (List.map_id _)
   obtain ⟨v,_,rfl⟩:=List.mem_map.mp hkv
   show (if nk v=nk x then (nk v,V.bl true) else _)=_
   split <;> rfl
  ·rw [List.any_eq_true]
   exact ⟨wt x,List.mem_map.mpr ⟨x,m,rfl⟩,by simp [wt,mkN]⟩
 ·rename_i m
  rw [show (l.map wt)=l.map (mkN fun _=>.bl true) from rfl,zaqo _ m,List.map_append]
  rfl
theorem zavi {α:Type} [DecidableEq α] (a:α) (l:List α):(a :: l).erase a=l:=List.erase_cons_head ..
theorem zavj {α:Type} [DecidableEq α] {a b:α} (h:a≠b) (l:List α):(a :: l).erase b=a :: l.erase b:=List.erase_cons_tail (by simpa using h)
theorem zant {x:Option Nat}:∀ {l:List (Option Nat)},l.Nodup→dropK (l.map wt) (nk x)=(@List.erase _ instBEqOfDecidableEq l x).map wt
 | [],_=>rfl
 | v :: l,nd=>by
  obtain ⟨n1,n2⟩:=List.nodup_cons.mp nd
  rw [List.map_cons]
  by_cases e:v=x
  ·subst e
   rw [zamg (p:=wt v) (k:=nk v) rfl,zavi]
   refine zakk fun z=>?_
   obtain ⟨p,hp,e⟩:=List.mem_map.mp z
   obtain ⟨u,hu,rfl⟩:=List.mem_map.mp hp
   exact n1 (zaiv e ▸ hu)
  ·rw [zaig (fun z=>e (zaiv z)),zavj e,List.map_cons,zant n2]
def qV:Option (Option Nat)→V
 | none=>.non
 | some p=>nkV p
def cm (c:Option Nat × Option (Option Nat)):Key × V:=(nk c.1,qV c.2)
theorem zagh {x:Option Nat}:∀ {C:List (Option Nat × Option (Option Nat))},x ∉ C.map Prod.fst→valV (C.map cm) (nk x)=none
 | [],_=>rfl
 | c :: C,h=>by
  rw [List.map_cons] at h ⊢
  rw [zabz (fun z=>h (by rw [← zaiv z]; simp))]
  exact zagh fun z=>h (List.mem_cons_of_mem _ z)
theorem zag5 {x:Option Nat}{q:Option (Option Nat)}:∀ {C:List (Option Nat × Option (Option Nat))},(C.map Prod.fst).Nodup→(x,q)∈C→valV (C.map cm) (nk x)=some (qV q)
 | c :: C,nd,m=>by
  rw [List.map_cons] at nd ⊢
  obtain ⟨n1,n2⟩:=List.nodup_cons.mp nd
  rcases List.mem_cons.mp m with rfl | m
  ·exact zab4 rfl
  ·rw [zabz (fun z=>n1 (by rw [zaiv z]; exact List.mem_map.mpr ⟨_,m,rfl⟩))]
   exact zag5 n2 m
theorem zauh {C:List (Option Nat × Option (Option Nat))}{x p:Option Nat} (h:x ∉ C.map Prod.fst):putK (C.map cm) (nk x) (nkV p)=(C++[(x,some p)]).map cm:=by
 rw [zaff _ (zagh h),List.map_append]; rfl
theorem zaui {C:List (Option Nat × Option (Option Nat))} (nd:(C.map Prod.fst).Nodup) (x:Option Nat):(valV (C.map cm) (nk x)).isSome=decide (x∈C.map Prod.fst):=by
 by_cases h:x∈C.map Prod.fst
 ·obtain ⟨⟨a,q⟩,m,rfl⟩:=List.mem_map.mp h
  rw [zag5 nd m,decide_eq_true h]; rfl
 ·rw [zagh h,decide_eq_false h]; rfl
def rV (r:Option Nat→Addr) (u:Option Nat):V:=.ref (r u)
structure WyAt (H:Hp) (wy:Addr) (V:List (Option Nat)) (r:Option Nat→Addr) (W:Option Nat→List (Option Nat)):Prop where
 d:H wy=some (.dK (V.map (mkN (rV r))))
 inj:∀ u∈V,∀ v∈V,r u=r v→u=v
 nw:∀ v∈V,r v≠wy
 at_:∀ v∈V,H (r v)=some (.dK ((W v).map wt))
theorem WyAt.ch {H H':Hp}{wy:Addr}{V:List (Option Nat)}{r:Option Nat→Addr}{W:Option Nat→List (Option Nat)}{X:List Addr} (h:WyAt H wy V r W) (c:Ch X H H') (n1:wy ∉ X) (n2:∀ v∈V,r v ∉ X):WyAt H' wy V r W :=
 ⟨c.get h.d n1,h.inj,h.nw,fun v m=>c.get (h.at_ v m) (n2 v m)⟩
theorem WyAt.set {H:Hp}{wy:Addr}{V:List (Option Nat)}{r:Option Nat→Addr}{W W':Option Nat→List (Option Nat)}{v:Option Nat} (h:WyAt H wy V r W) (hv:v∈V) (e:∀ u∈V,u≠v→W' u=W u):WyAt (upd H (r v) (.dK ((W' v).map wt))) wy V r W' :=
 ⟨by rw [zaa0 (h.nw v hv).symm]; exact h.d,h.inj,h.nw,fun u m=>by
  by_cases z:u=v
  ·subst z; exact zaac
  ·rw [zaa0 (fun y=>z (h.inj u m v hv y)),e u m z]; exact h.at_ u m⟩
theorem WyAt.add {H:Hp}{wy p:Addr}{V:List (Option Nat)}{r:Option Nat→Addr}{W:Option Nat→List (Option Nat)}{x:Option Nat} (h:WyAt H wy V r W) (hx:x ∉ V) (hp:H p=some (.dK ((W x).map wt))) (hn:∀ v∈V,r v≠p) (np:p≠wy) :
  WyAt (upd H wy (.dK (putK (V.map (mkN (rV r))) (nk x) (.ref p)))) wy (V++[x]) (fun u=>if u=x then p else r u) W:=by
 have er:∀ v∈V,(if v=x then p else r v)=r v:=fun v m=>if_neg (show ¬ v=x from fun z=>hx (z ▸ m))
 refine ⟨?_,fun u hu v hv e=>?_,fun v hv=>?_,fun v hv=>?_⟩
 ·rw [zaac,zaqo _ hx,List.map_append]
  congr 3
  ·refine List.map_congr_left fun v m=>?_
   simp only [mkN,rV,er v m]
  ·simp [mkN,rV]
 ·rcases List.mem_append.mp hu with hu1 | hu1 <;> rcases List.mem_append.mp hv with hv1 | hv1
  ·simp only [er u hu1,er v hv1] at e; exact h.inj u hu1 v hv1 e
  ·rw [List.mem_singleton] at hv1
   simp only [er u hu1,if_pos hv1] at e; exact absurd e (hn u hu1)
  ·rw [List.mem_singleton] at hu1
   simp only [er v hv1,if_pos hu1] at e; exact absurd e.symm (hn v hv1)
  ·rw [List.mem_singleton] at hu1 hv1; rw [hu1,hv1]
 ·rcases List.mem_append.mp hv with hv | hv
  ·simp only [er v hv]; exact h.nw v hv
  ·rw [List.mem_singleton] at hv; subst hv; simp only [if_pos]; exact np
 ·rcases List.mem_append.mp hv with hv | hv
  ·simp only [er v hv]; rw [zaa0 (h.nw v hv)]; exact h.at_ v hv
  ·rw [List.mem_singleton] at hv; subst hv; simp only [if_pos]; rw [zaa0 np]; exact hp
theorem zae1 {H:Hp}{a:Addr}{kvs:List (Key × V)}{x:Option Nat}{v:V} (e:H a=some (.dK kvs)) (h:valV kvs (nk x)=some v):DGet H a (nkV x) (some v):=h ▸ DGet.k (k:=nk x) e
theorem zae2 {H:Hp}{a:Addr}{kvs:List (Key × V)}{x:Option Nat} (e:H a=some (.dK kvs)) (h:valV kvs (nk x)=none):DGet H a (nkV x) none:=h ▸ DGet.k (k:=nk x) e
theorem zadf {H:Hp}{a:Addr}{kvs:List (Key × V)}{x:Str} (e:H a=some (.dK kvs)) (h:valV kvs (.inr x)=none):DGet H a (.str x) none:=h ▸ DGet.k (k:=.inr x) e
theorem dputK {H:Hp}{a:Addr}{kvs:List (Key × V)}{x:Option Nat}{v:V} (e:H a=some (.dK kvs)) (hl:kvs.length < sizeLine):DPut H a (nkV x) v (upd H a (.dK (putK kvs (nk x) v))):=DPut.k (k:=nk x) e hl
theorem Ch.owns {X:List Addr}{H H1 H2:Hp} (f:∀ a∈X,H a=none) (c1:Ch [] H H1) (c2:Ch X H1 H2):Ch [] H H2:=fun a o e _=>c2 a o (c1 a o e (by simp)) fun m=>by rw [f a m] at e; cases e
theorem Ch.thawX {X:List Addr}{H H':Hp}{d:Addr}{ob:Obj}{o:HO} (c:Ch X (upd H d (.frz ob o)) H') (h:H d=some o):Ch X H (upd H' d o):=fun b u e n=>by
 by_cases hb:b=d
 ·subst hb; rw [zaac,← h,e]
 ·rw [zaa0 hb]; exact c b u (by rw [zaa0 hb]; exact e) n
theorem Ch.putX {X:List Addr}{H H':Hp}{a:Addr}{o:HO} (c:Ch X H H') (m:a∈X):Ch X H (upd H' a o):=fun b u e n=>by
 have ne:b≠a:=fun z=>n (by rw [z]; exact m)
 rw [zaa0 ne]; exact c b u e n
theorem Ch.monoX {X Y:List Addr}{H H':Hp} (c:Ch X H H') (h:∀ x∈X,x∈Y):Ch Y H H':=fun a o e n=>c a o e fun z=>n (h a z)
def W1:Option Nat→List (Option Nat)
 | none=>[]
 | some m=>if m % 2=0 then [some (m + 1)] else []
def tgN (V:List (Option Nat)) (n:Nat):Option Nat:=if some (2 * n)∈V then some (2 * n) else none
def ldW (V:List (Option Nat)) (W:Option Nat→List (Option Nat)) (f n:Nat):Option Nat→List (Option Nat):=fun u=>if some (2 * f)∈V∧u=some (2 * f + 1) then addN (W u) (tgN V n) else W u
def lds (V:List (Option Nat)) (ps:List (Nat × Nat)):Option Nat→List (Option Nat):=ps.foldl (fun W p=>ldW V W p.2 p.1) W1
theorem zapt (V:List (Option Nat)) (ps:List (Nat × Nat)) (n f:Nat):lds V (ps++[(n,f)])=ldW V (lds V ps) f n:=by unfold lds; rw [List.foldl_append]; rfl
theorem zaj5 {V:List (Option Nat)}{W:Option Nat→List (Option Nat)}{f n:Nat}{u v:Option Nat}:v∈ldW V W f n u↔v∈W u∨(some (2 * f)∈V∧u=some (2 * f + 1)∧v=tgN V n):=by
 unfold ldW
 split
 ·rename_i h
  rw [zaps]
  exact ⟨fun z=>z.elim .inl fun e=>.inr ⟨h.1,h.2,e⟩,fun z=>z.elim .inl fun e=>.inr e.2.2⟩
 ·rename_i h
  exact ⟨.inl,fun z=>z.elim id fun e=>absurd ⟨e.1,e.2.1⟩ h⟩
theorem zanu {V:List (Option Nat)}{u v:Option Nat} (ps:List (Nat × Nat)):v∈lds V ps u↔v∈W1 u∨∃ p∈ps,some (2 * p.2)∈V∧u=some (2 * p.2 + 1)∧v=tgN V p.1:=by
 have key:∀ (ps:List (Nat × Nat)) (W:Option Nat→List (Option Nat)),v∈ps.foldl (fun W p=>ldW V W p.2 p.1) W u↔v∈W u∨∃ p∈ps,some (2 * p.2)∈V∧u=some (2 * p.2 + 1)∧v=tgN V p.1:=by
  intro ps
  induction ps with
  | nil=>intro W; simp
  | cons p ps ih =>
   intro W
   rw [List.foldl_cons,ih,zaj5]
   simp only [List.mem_cons,exists_eq_or_imp]
   rw [or_assoc]
 exact key ps W1
theorem zauj {V:List (Option Nat)} (ps:List (Nat × Nat)) (u:Option Nat):(lds V ps u).Nodup:=by
 have key:∀ (ps:List (Nat × Nat)) (W:Option Nat→List (Option Nat)),(∀ u,(W u).Nodup)→∀ u,(ps.foldl (fun W p=>ldW V W p.2 p.1) W u).Nodup:=by
  intro ps
  induction ps with
  | nil=>intro W h u; exact h u
  | cons p ps ih =>
   intro W h u
   rw [List.foldl_cons]
   refine ih _ (fun u=>?_) u
   unfold ldW
   split
   ·exact zasl (h u)
   ·exact h u
 refine key ps W1 (fun u=>?_) u
 cases u with
 | none=>exact List.nodup_nil
 | some m =>
  show (if m % 2=0 then [some (m + 1)] else []).Nodup
  split
  ·exact List.nodup_cons.mpr ⟨by simp,List.nodup_nil⟩
  ·exact List.nodup_nil
def prs (ab:List Nat) (fd:Nat→List Nat):List (Nat × Nat):=ab.flatMap fun n=>(fd n).map fun f=>(n,f)
theorem zaqq {u v:Option Nat}:v∈W1 u↔∃ n,u=some (2 * n)∧v=some (2 * n + 1):=by
 cases u with
 | none=>exact Iff.intro (fun h=>by cases h) (fun h=>by obtain ⟨n,h,_⟩:=h; cases h)
 | some m =>
  show v∈(if m % 2=0 then [some (m + 1)] else [])↔_
  split
  ·rename_i h
   rw [List.mem_singleton]
   constructor
   ·rintro rfl; exact ⟨m / 2,by congr 1; omega,by congr 1; omega⟩
   ·rintro ⟨n,h1,h2⟩; cases h1; exact h2
  ·rename_i h
   constructor
   ·intro z; cases z
   ·rintro ⟨n,h1,_⟩; cases h1; omega
section
variable {g:Nat}{ab:List Nat}{fd:Nat→List Nat}{low src:Nat→Bool}
theorem zacp (G:StG g ab fd low src) {n:Nat}:some (2 * n)∈stV ab low↔low n=true:=by
 rw [zac9]
 constructor
 ·rintro (h | ⟨m,h1,h2,h3 | h3⟩)
  ·cases h
  ·have:n=m:=by injection h3; omega
   subst this; exact h2
  ·injection h3; omega
 ·intro h; exact .inr ⟨n,(G.lo n h).1,h,.inl rfl⟩
def W0 (ab:List Nat) (fd:Nat→List Nat) (low:Nat→Bool):Option Nat→List (Option Nat):=fun u=>if u∈stV ab low then lds (stV ab low) (prs ab fd) u else []
theorem zapu (u:Option Nat):(W0 ab fd low u).Nodup:=by
 unfold W0
 split
 ·exact zauj _ _
 ·exact List.nodup_nil
theorem zanv (G:StG g ab fd low src) (u v:Option Nat):v∈W0 ab fd low u↔Arc ab fd low u v:=by
 unfold W0
 constructor
 ·intro h
  split at h
  ·rename_i hu
   rcases (zanu _).mp h with h | ⟨⟨n,f⟩,hp,h1,h2,h3⟩
   ·obtain ⟨n,rfl,rfl⟩:=zaqq.mp h
    exact .thr n ((zacp G).mp hu)
   ·obtain ⟨n',hn,hf⟩:=List.mem_flatMap.mp hp
    obtain ⟨f',hf,e⟩:=List.mem_map.mp hf
    cases e
    have lf:=(zacp G).mp h1
    subst h2
    unfold tgN at h3
    split at h3
    ·rename_i hm
     subst h3
     exact .fed f n lf ((zacp G).mp hm) hf
    ·rename_i hm
     subst h3
     refine .fin f n lf ?_ hn hf
     cases e:low n
     ·rfl
     ·exact absurd ((zacp G).mpr e) hm
  ·cases h
 ·intro h
  have hm:=(h.mem G).1
  rw [if_pos hm,zanu]
  cases h with
  | thr n l=>exact .inl (zaqq.mpr ⟨n,rfl,rfl⟩)
  | fed f n l l2 m =>
   refine .inr ⟨(n,f),List.mem_flatMap.mpr ⟨n,(G.lo n l2).1,List.mem_map.mpr ⟨f,m,rfl⟩⟩,(zacp G).mpr l,rfl,?_⟩
   unfold tgN; rw [if_pos ((zacp G).mpr l2)]
  | fin f n l l2 hn m =>
   refine .inr ⟨(n,f),List.mem_flatMap.mpr ⟨n,hn,List.mem_map.mpr ⟨f,m,rfl⟩⟩,(zacp G).mpr l,rfl,?_⟩
   unfold tgN; rw [if_neg (fun z=>by rw [(zacp G).mp z] at l2; cases l2)]
theorem zasm {W:Option Nat→List (Option Nat)}{k:Nat} (F:FlS (Arc ab fd low) (stV ab low) (stS low src) none (W0 ab fd low) k W) (G:StG g ab fd low src) {f:Nat}{x y:Option Nat} (hx:some (2 * f + 1)∈W x) (nx:x≠some (2 * f)) (hy:y∈W (some (2 * f))):∃ g,y=some (2 * g + 1)∧g < f∧low g=true:=by
 have o:=F.ori.of _ _ hy
 have hy':=hy
 rcases o with o | o
 ·generalize eu:some (2 * f)=u at o
  cases o with
  | thr n l =>
   have:n=f:=by injection eu; omega
   subst this
   exact absurd (F.one G (fun u=>zapu u) (zanv G) (F.mem G hx).1 (F.mem G hy).1 hx hy) nx
  | fed f' n l l2 m=>injection eu; omega
  | fin f' n l l2 hn m=>injection eu; omega
 ·generalize eu:some (2 * f)=u at o
  cases o with
  | thr n l=>injection eu; omega
  | fed f' n l l2 m =>
   have:n=f:=by injection eu; omega
   subst this
   exact ⟨f',rfl,(G.lt n (G.lo n l2).1 f' m).1,l⟩
  | fin f' n l l2 hn m=>cases eu
end
end

section
def fldsM (lo st wy en:Addr):List (Str × V):=[("low",.ref lo),("starts",.ref st),("ways",.ref wy),("ends",.ref en)]
theorem zauk (lo st wy en:Addr):List.lookup (Str.ofString "low") (fldsM lo st wy en)=some (.ref lo):=rfl
theorem zavk (lo st wy en:Addr):List.lookup (Str.ofString "starts") (fldsM lo st wy en)=some (.ref st):=rfl
theorem zali (lo st wy en:Addr):List.lookup (Str.ofString "ways") (fldsM lo st wy en)=some (.ref wy):=rfl
theorem zaul (lo st wy en:Addr):List.lookup (Str.ofString "ends") (fldsM lo st wy en)=some (.ref en):=rfl
structure FmN (lo st wy en:Addr):Prop where
 l:List.lookup (Str.ofString "lead") (fldsM lo st wy en)=none
 n:List.lookup (Str.ofString "nodes_come_to") (fldsM lo st wy en)=none
 t:List.lookup (Str.ofString "turn") (fldsM lo st wy en)=none
 p:List.lookup (Str.ofString "path_to") (fldsM lo st wy en)=none
 c:List.lookup (Str.ofString "cut_or_paths") (fldsM lo st wy en)=none
theorem fmn (lo st wy en:Addr):FmN lo st wy en:=⟨rfl,rfl,rfl,rfl,rfl⟩
theorem zahv (n:Nat):nk (some (2 * n))=.inl (2 * (n:Int)):=rfl
theorem zasn (n:Nat):nk (some (2 * n + 1))=.inl (2 * (n:Int) + 1):=rfl
theorem zahw {V:List (Option Nat)}{r:Option Nat→Addr}{x:Option Nat} (h:x∈V):valV (V.map (mkN (rV r))) (nk x)=some (.ref (r x)):=by rw [zaiw,if_pos h]; rfl
theorem zaum {V:List (Option Nat)}{r:Option Nat→Addr}{x:Option Nat} (h:x ∉ V):valV (V.map (mkN (rV r))) (nk x)=none:=by rw [zaiw,if_neg h]
def EnOk (W:Option Nat→List (Option Nat)) (ends:List (Key × V)):Prop:=∀ f:Nat,none∈W (some (2 * f + 1))→(valV ends (.inl (f:Int))).isSome=true
local macro_rules | `(tactic| walk_at "user")=>`(tactic| first
 | (apply zacy; (focus walk_at "get"); (focus with_reducible assumption))
 | (apply zadd; (focus walk_at "get"); (focus with_reducible assumption))
 | (apply dputI; (focus walk_at "get"); (focus walk_at "arith"))
 | (apply zadc; (focus walk_at "get"); (focus with_reducible assumption))
 | (apply zadf; (focus walk_at "get"); (focus with_reducible assumption))
 | (apply dputS; (focus walk_at "get"); (focus walk_at "arith")))
section
variable {P:Program}{w:World}{K:PySem.W.Frag}{mg:Str→Option Value}{base:Heap}{f:Addr}{fd:FuncData}{k:Nat}
theorem zag6:Nd "END" := by decide +kernel
theorem av18m1:AF (defScope (inClass (top 18) 1)) ["self", "feed", "number"]:=⟨by decide +kernel⟩
theorem gl18m1:AG (defScope (inClass (top 18) 1)) ["END"]:=⟨by decide +kernel⟩
def spLead (C:Addr):Sp:=fun vs H Q _=>∃ (y lo st wy en dy:Addr) (V:List (Option Nat)) (r:Option Nat→Addr) (W:Option Nat→List (Option Nat)) (ends:List (Key × L2.V)) (f n:Nat),vs=[.ref y,.int (f:Int),.int (n:Int)]∧H y=some (.ins C dy (fldsM lo st wy en))∧WyAt H wy V r W∧H en=some (.dK ends) ∧
 (some (2 * f)∈V→some (2 * f + 1)∈V)∧(W (some (2 * f + 1))).length≤1000∧ends.length≤1000∧wy≠en∧(∀ v∈V,r v≠en)∧EnOk W ends ∧
 ∀ H' ends',Ch (en :: V.map r) H H'→WyAt H' wy V r (ldW V W f n)→H' en=some (.dK ends')→ends'.length≤ends.length + 1→EnOk (ldW V W f n) ends'→Q .non H'
theorem scLead:FnScope ["self", "feed", "number"] ["self", "feed", "number"] (defScope (inClass (top 18) 1)):=⟨rfl,rfl,rfl,by decide +kernel,rfl,by decide +kernel,by decide +kernel⟩
theorem zaso {C:Addr}{tE:Tok} (F:Fun K "lead" "Stream.lead" (inClass (top 18) 1) f fd) (cl:Cls K C) (nW:NoAttr K C "ways") (nE:NoAttr K C "ends") (m_END:mg "END" = some (.str (Str.ofString "end") tE)):FnOk P w K mg base CX0 (k + 1) f fd ["self", "feed", "number"] (spLead C):=by
 have nd:=scLead.nd
 refine F.ok scLead (fun vs H Q E h=>by obtain ⟨y,lo,st,wy,en,dy,V,r,W,ends,f,n,rfl,_⟩:=h; rfl) (fun cdv A outer s0 H vs Q E hr h=>?_)
 obtain ⟨y,lo,st,wy,en,dy,V,r,W,ends,f,n,rfl,hy,hw,he,h1,hl1,hl2,nwe,nre,eo,q⟩:=h
 have hu:=zadw hr
 refine ⟨_,(Pr.h (zaah (zaa4 (zach hu (zaan zack zaad (qv av18m1 1 rfl)) (zabt (qv av18m1 0 rfl) rfl)) (zaag zao4) zaau) (zaag (zaa4 (zamx hu (zaan zack zaad (qv av18m1 2 rfl)) (zabt (qv av18m1 0 rfl) rfl)) (zaag (zacw hu (zab2 hu (zabt (qv av18m1 0 rfl) rfl) (zaan zabv (zaan zack zaad (qv av18m1 1 rfl)) zaad) (fun _ _=>rfl)) (zaan zack zaad (qv av18m1 2 rfl)) zab1 rfl)) (zaah (zacw hu (zab2 hu (zabt (qv av18m1 0 rfl) rfl) (zaan zabv (zaan zack zaad (qv av18m1 1 rfl)) zaad) (fun _ _=>rfl)) (zacv (v:=.str "end") (gl18m1.g 0 rfl) m_END ⟨_,rfl⟩ zag6) zab1 rfl) (zaag (zacw hu (zabt (qv av18m1 0 rfl) rfl) (qv av18m1 1 rfl) (qv av18m1 2 rfl) rfl))))))),?_⟩
 (try dsimp only [cxOf])
 have f1:=zali lo st wy en
 have f2:=zaul lo st wy en
 have hwd:=hw.d
 by_cases a1:some (2 * f)∈V
 ·have v1:=zahw (r:=r) a1
  rw [zahv] at v1
  have a3:=h1 a1
  have v3:=zahw (r:=r) a3
  rw [zasn] at v3
  have ha:=hw.at_ _ a3
  have n3:r (some (2 * f + 1))≠en:=nre _ a3
  have hw2:=hw.set (W':=ldW V W f n) a3 (fun u _ ne=>by unfold ldW; rw [if_neg fun z=>ne z.2])
  have eW:ldW V W f n (some (2 * f + 1))=addN (W (some (2 * f + 1))) (tgN V n):=by unfold ldW; rw [if_pos ⟨a1,rfl⟩]
  rw [eW,← zaqp] at hw2
  have lw:((W (some (2 * f + 1))).map wt).length≤1000:=by rw [List.length_map]; exact hl1
  by_cases a2:some (2 * n)∈V
  ·have v2:=zahw (r:=r) a2
   rw [zahv] at v2
   have et:tgN V n=some (2 * n):=by unfold tgN; rw [if_pos a2]
   rw [et,zahv] at hw2
   walk_at "rd"
   refine q _ ends (Ch.putX (Ch.refl _ _) (List.mem_cons_of_mem _ (List.mem_map.mpr ⟨_,a3,rfl⟩))) hw2 (zabs (nre _ a3).symm he) (by omega) (fun f' hf'=>?_)
   rcases zaj5.mp hf' with z | ⟨_,_,z⟩
   ·exact eo f' z
   ·rw [et] at z; cases z
  ·have v2:=zaum (r:=r) a2
   rw [zahv] at v2
   have et:tgN V n=none:=by unfold tgN; rw [if_neg a2]
   rw [et] at hw2
   walk_at "rd"
   refine q _ _ (Ch.putX (Ch.putX (Ch.refl _ _) (List.mem_cons_of_mem _ (List.mem_map.mpr ⟨_,a3,rfl⟩))) (by simp)) (hw2.ch (X:=[en]) Ch.put (by simpa using nwe) (fun v m=>by simpa using nre v m)) zaac (zac0 _ _ _) (fun f' hf'=>?_)
   rw [zaki]
   split
   ·rfl
   ·rename_i ne
    rcases zaj5.mp hf' with z | ⟨_,z,_⟩
    ·exact eo f' z
    ·refine absurd ?_ ne
     injection z with z
     have:f'=f:=by omega
     rw [this]
 ·have v1:=zaum (r:=r) a1
  rw [zahv] at v1
  have eW:ldW V W f n=W:=by
   funext u
   unfold ldW
   rw [if_neg fun z=>a1 z.1]
  walk_at "rd"
  exact q H ends (Ch.refl _ _) (by rw [eW]; exact hw) he (by omega) (by rw [eW]; exact eo)
end
end

section
theorem Ch.ownsX {X Y:List Addr}{H H1 H2:Hp} (f:∀ a∈X,H a=none) (c1:Ch Y H H1) (c2:Ch X H1 H2):Ch Y H H2:=fun a o e n=>c2 a o (c1 a o e n) fun m=>by rw [f a m] at e; cases e
theorem NetAt.chy {C C2 y dy:Addr}{H H':Hp}{nt gp op:Addr}{gs:List Gt}{xs:List V}{os:List Nat} (n:NetAt C H nt gp op gs xs os) (c:Ch [y] H H') (hy:H y=some (.ins C2 dy [])):NetAt C H' nt gp op gs xs os:=by
 obtain ⟨⟨dx,ob⟩,gt,gg,ot⟩:=n
 have n1:nt≠y:=fun z=>by rw [z,hy] at ob; injection ob with ob; injection ob with _ _ ob; cases ob
 have n2:gp≠y:=zacz gt hy (by intro z; cases z)
 have n3:op≠y:=zacz ot hy (by intro z; cases z)
 exact ⟨⟨dx,c.get ob (by simpa using n1)⟩,c.get gt (by simpa using n2),gg.tu (Tu.ch c hy (fun _ z=>by cases z)),c.get ot (by simpa using n3)⟩
structure StAt (C:Addr) (H:Hp) (y lo st wy en:Addr) (lows:List Nat) (sts V:List (Option Nat)) (r:Option Nat→Addr) (W:Option Nat→List (Option Nat)) (ends:List (Key × L2.V)):Prop where
 ob:∃ dy,H y=some (.ins C dy (fldsM lo st wy en))
 hlo:H lo=some (.lst (lows.map nV))
 hst:H st=some (.lst (sts.map nkV))
 hwy:WyAt H wy V r W
 hen:H en=some (.dK ends)
 we:wy≠en
 re:∀ v∈V,r v≠en
theorem zagi {H:Hp}{a:Addr}{o:HO}{X:List Addr} (h:H a=some o) (hX:∀ x∈X,∃ kvs,H x=some (.dK kvs)) (hn:∀ kvs,o≠.dK kvs):a ∉ X:=fun m=>by
 obtain ⟨kvs,e⟩:=hX a m
 rw [h] at e; injection e with e; exact hn kvs e
theorem StAt.dk {C:Addr}{H:Hp}{y lo st wy en:Addr}{lows:List Nat}{sts V:List (Option Nat)}{r:Option Nat→Addr}{W:Option Nat→List (Option Nat)}{ends:List (Key × L2.V)} (h:StAt C H y lo st wy en lows sts V r W ends):∀ x∈en :: V.map r,∃ kvs,H x=some (.dK kvs):=by
 intro x hx
 rcases List.mem_cons.mp hx with rfl | hx
 ·exact ⟨_,h.hen⟩
 ·obtain ⟨v,m,rfl⟩:=List.mem_map.mp hx
  exact ⟨_,h.hwy.at_ v m⟩
theorem StAt.led {C:Addr}{H H':Hp}{y lo st wy en:Addr}{lows:List Nat}{sts V:List (Option Nat)}{r:Option Nat→Addr}{W W':Option Nat→List (Option Nat)}{ends ends':List (Key × L2.V)} (h:StAt C H y lo st wy en lows sts V r W ends) (c:Ch (en :: V.map r) H H') (w:WyAt H' wy V r W') (e:H' en=some (.dK ends')):StAt C H' y lo st wy en lows sts V r W' ends':=by
 have dk:=h.dk
 obtain ⟨⟨dy,ob⟩,h1,h2,h3,h4,h5,h6⟩:=h
 exact ⟨⟨dy,c.get ob (zagi ob dk (fun _ z=>by cases z))⟩,c.get h1 (zagi h1 dk (fun _ z=>by cases z)),c.get h2 (zagi h2 dk (fun _ z=>by cases z)),w,e,h5,h6⟩
theorem StAt.ch {C:Addr}{H H':Hp}{y lo st wy en:Addr}{lows:List Nat}{sts V:List (Option Nat)}{r:Option Nat→Addr}{W:Option Nat→List (Option Nat)}{ends:List (Key × L2.V)} (h:StAt C H y lo st wy en lows sts V r W ends) (c:Ch [] H H'):StAt C H' y lo st wy en lows sts V r W ends:=by
 obtain ⟨⟨dy,ob⟩,h1,h2,h3,h4,h5,h6⟩:=h
 exact ⟨⟨dy,c.get ob (by simp)⟩,c.get h1 (by simp),c.get h2 (by simp),h3.ch c (by simp) (by simp),c.get h4 (by simp),h5,h6⟩
def fdn (gs:List Gt) (n:Nat):List Nat:=match gs[n]? with
 | some b=>fwn b
 | none=>[]
def lowB (ls:List Nat) (g:Nat) (bd:Int) (n:Nat):Bool:=decide (n≠g) && decide ((ls.getD n 0:Int) < bd)
def stsN (gs:List Gt) (lows:List Nat):List (Option Nat):=(lows.filter (sH gs)).map fun n=>some (2 * n)
theorem zasp (V:List (Option Nat)) (u:Option Nat):∀ ps:List (Nat × Nat),(lds V ps u).length≤ps.length + 1:=by
 have key:∀ (ps:List (Nat × Nat)) (W:Option Nat→List (Option Nat)),(ps.foldl (fun W p=>ldW V W p.2 p.1) W u).length≤ps.length + (W u).length:=by
  intro ps
  induction ps with
  | nil=>intro W; simp
  | cons p ps ih =>
   intro W
   rw [List.foldl_cons]
   refine Nat.le_trans (ih _) ?_
   have:(ldW V W p.2 p.1 u).length≤(W u).length + 1:=by
    unfold ldW
    split
    ·unfold addN; split <;> simp
    ·omega
   simp only [List.length_cons]; omega
 intro ps
 refine Nat.le_trans (key ps W1) ?_
 have:(W1 u).length≤1:=by
  cases u with
  | none=>simp [W1]
  | some m =>
   show (if m % 2=0 then [some (m + 1)] else []).length≤1
   split <;> simp
 omega
theorem zavl (n:Nat):W1 (some (2 * n))=[some (2 * n + 1)]:=by
 show (if (2 * n) % 2=0 then [some (2 * n + 1)] else [])=_
 rw [if_pos (by omega)]
theorem zaun (n:Nat):W1 (some (2 * n + 1))=[]:=by
 show (if (2 * n + 1) % 2=0 then [some (2 * n + 1 + 1)] else [])=_
 rw [if_neg (by omega)]
theorem StAt.add {C:Addr}{H:Hp}{y lo st wy en p:Addr}{lows:List Nat}{sts V:List (Option Nat)}{r:Option Nat→Addr}{W:Option Nat→List (Option Nat)}{ends:List (Key × L2.V)}{x:Option Nat} (h:StAt C H y lo st wy en lows sts V r W ends) (hx:x ∉ V) (hp:H p=some (.dK ((W x).map wt))) (hn:∀ v∈V,r v≠p) (np:p≠wy) (ne:p≠en) :
  StAt C (upd H wy (.dK (putK (V.map (mkN (rV r))) (nk x) (.ref p)))) y lo st wy en lows sts (V++[x]) (fun u=>if u=x then p else r u) W ends:=by
 obtain ⟨⟨dy,ob⟩,h1,h2,h3,h4,h5,h6⟩:=h
 refine ⟨⟨dy,zabs (zacz ob h3.d (by intro z; cases z)) ob⟩,zabs (zacz h1 h3.d (by intro z; cases z)) h1,zabs (zacz h2 h3.d (by intro z; cases z)) h2,h3.add hx hp hn np,zabs h5.symm h4,h5,fun v m=>?_⟩
 split
 ·exact ne
 ·rename_i z
  rcases List.mem_append.mp m with m | m
  ·exact h6 v m
  ·exact absurd (List.mem_singleton.mp m) z
def stL (lows:List Nat):List (Option Nat):=none :: lows.flatMap fun n=>[some (2 * n),some (2 * n + 1)]
theorem zahx (lows:List Nat):(stL lows).length=1 + 2 * lows.length:=by
 unfold stL
 induction lows with
 | nil=>rfl
 | cons a l ih=>simp at ih ⊢; omega
theorem zads {α:Type}{p:α→Bool}{l:List α}{i:Nat}{x:α} (e:l[i]?=some x):(l.take (i + 1)).filter p=(l.take i).filter p++if p x then [x] else []:=by
 rw [List.take_add_one,e,Option.toList_some,List.filter_append,List.filter_cons]
 split <;> rfl
theorem zaky {lows:List Nat}{i n:Nat} (e:lows[i]?=some n):stL (lows.take (i + 1))=stL (lows.take i)++[some (2 * n)]++[some (2 * n + 1)]:=by
 unfold stL
 rw [List.take_add_one,e,Option.toList_some,List.flatMap_append]
 simp
theorem zahy {lows:List Nat}{x:Option Nat}:x∈stL lows↔x=none∨∃ n∈lows,x=some (2 * n)∨x=some (2 * n + 1):=by
 unfold stL
 simp only [List.mem_cons,List.mem_flatMap,List.not_mem_nil,or_false]
local macro_rules | `(tactic| walk_at "user")=>`(tactic| first
 | (apply NetAt.chy; (focus with_reducible assumption); (focus with_reducible assumption); (focus with_reducible assumption))
 | (apply zacy; (focus walk_at "get"); (focus with_reducible assumption))
 | (apply zadd; (focus walk_at "get"); (focus with_reducible assumption))
 | (apply dputI; (focus walk_at "get"); (focus walk_at "arith"))
 | (apply zadc; (focus walk_at "get"); (focus with_reducible assumption))
 | (apply zadf; (focus walk_at "get"); (focus with_reducible assumption))
 | (apply dputS; (focus walk_at "get"); (focus walk_at "arith")))
section
variable {P:Program}{w:World}{K:PySem.W.Frag}{mg:Str→Option Value}{base:Heap}{f:Addr}{fd:FuncData}{k:Nat}
theorem zahz:Nd "gates_down" := by decide +kernel
theorem av18m0:AF (defScope (inClass (top 18) 0)) ["self", "net", "layers", "gate", "bound", "above", "number", "feed"]:=⟨by decide +kernel⟩
theorem gl18m0:AG (defScope (inClass (top 18) 0)) ["gates_down", "END", "feeds_within"]:=⟨by decide +kernel⟩
def zagj:Scope:={ kind:=PySem.ScopeKind.function,names:=[ (PySem.Str.ofString ".0",PySem.NameKind.local),(PySem.Str.ofString "number",PySem.NameKind.local),(PySem.Str.ofString "bound",PySem.NameKind.free),(PySem.Str.ofString "gate",PySem.NameKind.free),(PySem.Str.ofString "layers",PySem.NameKind.free)],isGenerator:=false,isCoroutine:=false,more:=[]:PySem.Scope }
theorem zaix:CompOk zagj (defScope (inClass (top 18) 0)) (["number"]:List Str) (["self", "net", "layers", "gate", "bound", "above", "number", "feed"]:List Str) [3,2,4] (["number", "gate", "layers", "bound"]:List Str):=compOk rfl (by decide +kernel) (by decide +kernel) (by decide +kernel) (by decide +kernel) rfl (by decide +kernel)
theorem zaiy:AK (relab zagj (defScope (inClass (top 18) 0))) ["number"]:=⟨by decide +kernel⟩
theorem zadg:AV (relab zagj (defScope (inClass (top 18) 0))) ["number", "gate", "layers", "bound"]:=⟨by decide +kernel⟩
def zaem:Scope:={ kind:=PySem.ScopeKind.function,names:=[ (PySem.Str.ofString ".0",PySem.NameKind.local),(PySem.Str.ofString "number",PySem.NameKind.local),(PySem.Str.ofString "is_source",PySem.NameKind.globalImplicit),(PySem.Str.ofString "net",PySem.NameKind.free)],isGenerator:=false,isCoroutine:=false,more:=[]:PySem.Scope }
theorem zaiz:CompOk zaem (defScope (inClass (top 18) 0)) (["number"]:List Str) (["self", "net", "layers", "gate", "bound", "above", "number", "feed"]:List Str) [1] (["number", "net"]:List Str):=compOk rfl (by decide +kernel) (by decide +kernel) (by decide +kernel) (by decide +kernel) rfl (by decide +kernel)
theorem zai0:AK (relab zaem (defScope (inClass (top 18) 0))) ["number"]:=⟨by decide +kernel⟩
theorem zanw:AG (relab zaem (defScope (inClass (top 18) 0))) ["is_source"]:=⟨by decide +kernel⟩
theorem zagk:AV (relab zaem (defScope (inClass (top 18) 0))) ["number", "net"]:=⟨by decide +kernel⟩
def spStr (CN C:Addr):Sp:=fun vs H Q _=>∃ (y dy nt gp op ll:Addr) (gs:List Gt) (xs:List V) (os ls:List Nat) (g:Nat) (bd:Int),vs=[.ref y,.ref nt,.ref ll,.int (g:Int),.int bd]∧H y=some (.ins C dy [])∧NetAt CN H nt gp op gs xs os∧H ll=some (.lst (ls.map nV)) ∧
 ls.length=g∧g < gs.length∧gs.length≤60∧(∀ (i:Nat) (b:Gt),gs[i]?=some b→∀ a∈fwn b,a < i) ∧
 ∀ (lo st wy en:Addr) (ab:List Nat) (r:Option Nat→Addr) (ends:List (Key × L2.V)) (H':Hp),Ch [y] H H'→ab.Nodup→(∀ n,n∈ab↔Dn gs [] g n)→(∀ v∈stV ab (lowB ls g bd),H (r v)=none)→ab.length≤gs.length→ends.length≤1000 →
  StAt C H' y lo st wy en (ab.filter (lowB ls g bd)) (stsN gs (ab.filter (lowB ls g bd))) (stV ab (lowB ls g bd)) r (lds (stV ab (lowB ls g bd)) (prs ab (fdn gs))) ends→EnOk (lds (stV ab (lowB ls g bd)) (prs ab (fdn gs))) ends→Q .non H'
theorem scStr:FnScope ["self", "net", "layers", "gate", "bound", "above", "number", "feed"] ["self", "net", "layers", "gate", "bound"] (defScope (inClass (top 18) 0)):=⟨rfl,rfl,rfl,by decide +kernel,rfl,by decide +kernel,by decide +kernel⟩
theorem zauo {CN C:Addr}{tE:Tok} (F:Fun K "__init__" "Stream.__init__" (inClass (top 18) 0) f fd) (clN:Cls K CN) (nNG:NoAttr K CN "gates") (cl:Cls K C) (nL:NoAttr K C "low") (nS:NoAttr K C "starts") (nW:NoAttr K C "ways") (nE:NoAttr K C "ends") (m_END:mg "END" = some (.str (Str.ofString "end") tE))
  (Dgates_down:DefOk P w K mg base CX0 k "gates_down" ["net", "gate", "stops"] (spGd CN)) (Dis_source:DefOk P w K mg base CX0 k "is_source" ["gate"] spSrc) (Dfeeds_within:DefOk P w K mg base CX0 k "feeds_within" ["net", "number"] (spFw CN)) (MStream_lead:MethOk P w K mg base CX0 k C "lead" ["self", "feed", "number"] (spLead C)) :
  FnOk P w K mg base CX0 (k + 1) f fd ["self", "net", "layers", "gate", "bound"] (spStr CN C):=by
 have nd:=scStr.nd
 refine F.ok scStr (fun vs H Q E h=>by obtain ⟨y,dy,nt,gp,op,ll,gs,xs,os,ls,g,bd,rfl,_⟩:=h; rfl) (fun cdv A outer s0 H vs Q E hr h=>?_)
 obtain ⟨y,dy,nt,gp,op,ll,gs,xs,os,ls,g,bd,rfl,hy,na,hll,lg,gg,zg,up,q⟩:=h
 have hu:=zadw hr
 refine ⟨_,(Pr.h (zaav (zaat (i:=5) nd rfl (av18m0.l 5 rfl) (zaap Dgates_down hr (gl18m0.g 0 rfl) pass0 (zaaa (qv av18m0 1 rfl) (zaaa (qv av18m0 3 rfl) (zaaa (zabc zaab) zaab zahc) zaae) zaae) zahz)) (zaav (zaer (qv av18m0 0 rfl) (zabl rfl zaix (zabq (qv av18m0 5 rfl)) (fun _ _ _ _ _=>(zaar (i:=0) zaix.nd rfl (Or.inl (zaiy.k 0 rfl)) (Or.inr (zaiy.k 0 rfl)))) (fun _ _ _ _ _=>(zaeh (zacg (zad7 (zaaq zaeb (qw zadg 0 rfl) (qw zadg 1 rfl) (nomark _)) (zadj (zaaq zaoj (zaa2 (zacn K rfl) (qw zadg 2 rfl) (qw zadg 0 rfl) (fun _ _=>rfl)) (qw zadg 3 rfl) (nomark _))))))) (fun _ _ _ _ _=>(qw zadg 0 rfl))) rfl) (zaav (zaer (qv av18m0 0 rfl) (zabl rfl zaiz (zabq (zabt (qv av18m0 0 rfl) rfl)) (fun _ _ _ _ _=>(zaar (i:=0) zaiz.nd rfl (Or.inl (zai0.k 0 rfl)) (Or.inr (zai0.k 0 rfl)))) (fun _ _ _ _ _=>(zaeh (zabj (zaap Dis_source hr (zanw.g 0 rfl) pass0 (zaaa (zaa2 (zahi K rfl) (zao5 K rfl (qw zagk 1 rfl) rfl) (qw zagk 0 rfl) (fun _ _=>rfl)) zaab zaaw) zad0)))) (fun _ _ _ _ _=>(zaan zack zaad (qw zagk 0 rfl)))) rfl) (zaav (zaer (qv av18m0 0 rfl) (zafi (zac4 (zacv (v:=.str "end") (gl18m0.g 1 rfl) m_END ⟨_,rfl⟩ zag6) zaei zafh) rfl rfl (by intro z; cases z) (by decide)) rfl) (zaav (zaer (qv av18m0 0 rfl) zaei rfl) (zaav (zabf PassesOwn.never rfl (zabq (zabt (qv av18m0 0 rfl) rfl)) (zaar (i:=6) nd rfl (av18m0.l 6 rfl)) (zaav (zacw hu (zabt (qv av18m0 0 rfl) rfl) (zaan zack zaad (qv av18m0 6 rfl)) (zafi (zac4 (zaan zabv (zaan zack zaad (qv av18m0 6 rfl)) zaad) zab1 zafh) rfl rfl (by intro z; cases z) (by decide)) rfl) (zaag (zacw hu (zabt (qv av18m0 0 rfl) rfl) (zaan zabv (zaan zack zaad (qv av18m0 6 rfl)) zaad) zaei rfl)))) (zaag (zabf PassesOwn.never rfl (zabq (qv av18m0 5 rfl)) (zaar (i:=6) nd rfl (av18m0.l 6 rfl)) (zaag (zabf PassesOwn.never rfl (zabq (zaap Dfeeds_within hr (gl18m0.g 2 rfl) pass0 (zaaa (qv av18m0 1 rfl) (zaaa (qv av18m0 6 rfl) zaab zaae) zaae) zac5)) (zaar (i:=7) nd rfl (av18m0.l 7 rfl)) (zaag (zabg (zaf2 (qv av18m0 0 rfl) MStream_lead hr pass0 (zaaa (qv av18m0 7 rfl) (zaaa (qv av18m0 6 rfl) zaab zaae) zaae))))))))))))))),?_⟩
 (try dsimp only [cxOf])
 refine zaa9 (fun σ H'=>∃ (al:Addr) (ab:List Nat),σ=[some (.ref y),some (.ref nt),some (.ref ll),some (.int (g:Int)),some (.int bd),some (.ref al),none,none]∧Ch [] H H'∧H' al=some (.lst (ab.map nV))∧ab.Nodup∧(∀ n,n∈ab↔Dn gs [] g n)∧ab.length≤gs.length) ?_ ?_
 ·walk_at "rd"
  rename_i p hp
  exact ⟨na.ch (Ch.new hp _),(show SqX .list (upd H p (HO.lst [])) p (List.map nV []) from zaac),gg,fun i b e a m=>Nat.lt_trans (up i b e a m) (List.getElem?_eq_some_iff.mp e).1,by omega,by simp,fun r ks H' c f h l nd m=>⟨r,ks,rfl,(Ch.new hp _).trans c,h,nd,m,l⟩⟩
 rintro σ H1 ⟨al,ab,rfl,c1,hal,abn,abm,abl⟩
 have dle:∀ n,Dn gs [] g n→n≤g:=by
  intro n d
  induction d with
  | top _=>exact Nat.le_refl _
  | fed _ e m _ ih=>have:=up _ _ e _ m; omega
 obtain ⟨low,elow⟩:∃ low,low=lowB ls g bd:=⟨_,rfl⟩
 have hy1:=c1.get hy (by simp)
 have hll1:=c1.get hll (by simp)
 refine zaa9 (fun σ H'=>∃ lo:Addr,σ=[some (.ref y),some (.ref nt),some (.ref ll),some (.int (g:Int)),some (.int bd),some (.ref al),none,none]∧Ch [y] H H'∧H' al=some (.lst (ab.map nV))∧H' lo=some (.lst ((ab.filter low).map nV))∧H' y=some (.ins C dy [("low",.ref lo)])) ?_ ?_
 ·walk_at "rd"
  refine zacm (ab.map nV) (fun i ys σ H2=>ys=((ab.take i).filter low).map nV∧Ch [] H1 H2∧∃ u,σ=[u,some (.int (g:Int)),some (.ref ll),some (.int bd)]) (by rw [sizeLine_eq,List.length_map]; omega) ⟨rfl,Ch.refl _ _,_,rfl⟩ ?_ ?_ ?_
  ·rintro j ys σ H2 hj ⟨rfl,c2,_⟩
   refine ⟨?_,SqL.of (c2.get hal (by simp))⟩
   rw [List.length_map]
   refine Nat.le_trans (List.length_filter_le _ _) ?_
   rw [List.length_take]; omega
  ·rintro j ys σ H2 x hx ⟨rfl,c2,u2,rfl⟩
   rw [List.getElem?_map] at hx
   cases e:ab[j]? with
   | none=>rw [e] at hx; cases hx
   | some n =>
    rw [e] at hx
    cases hx
    rw [zads e]
    have nle:=dle n ((abm n).mp (List.mem_of_getElem? e))
    unfold nV
    by_cases en:n=g
    ·have hl:low n=false:=by rw [elow]; unfold lowB; rw [decide_eq_false (by simpa using en)]; rfl
     rw [hl]
     walk_at "rd"
     refine ite2 (fun hc=>?_) (fun hc=>?_)
     ·exfalso; subst en; simp at hc
     ·walk_at "rd"
      exact ⟨by simp,c2,_,rfl⟩
    ·have hn:n < ls.length:=by omega
     have at1:atI (ls.map nV) (n:Int)=some (.int (ls.getD n 0:Int)):=zacb (by rw [List.getElem?_map,List.getD_eq_getElem?_getD,List.getElem?_eq_getElem hn]; rfl)
     walk_at "rd"
     refine ite2 (fun hc=>?_) (fun hc=>?_)
     ·walk_at "rd"
      refine ite2 (fun hd=>?_) (fun hd=>?_)
      ·have hl:low n=true:=by rw [elow]; unfold lowB; rw [decide_eq_true (by simpa using en)]; simpa using hd
       rw [hl]
       walk_at "rd"
       exact ⟨by simp,c2,_,rfl⟩
      ·have hl:low n=false:=by rw [elow]; unfold lowB; rw [decide_eq_true (by simpa using en)]; simpa using hd
       rw [hl]
       walk_at "rd"
       exact ⟨by simp,c2,_,rfl⟩
     ·exfalso; apply hc; simp; omega
  ·rintro ys σ H2 ⟨rfl,c2,u2,rfl⟩
   rw [List.length_map,List.take_length]
   have hy2:=c2.get hy1 (by simp)
   walk_at "rd"
   rename_i D hD
   have nDy:D≠y:=(zaao hy2 hD).symm
   exact ⟨zabs nDy zaac,by rw [zaac]; rfl⟩
 rintro σ H2 ⟨lo,rfl,c2,hal2,hlo2,hy2⟩
 have na2:=na.chy c2 hy
 refine zaa9 (fun σ H'=>∃ st:Addr,σ=[some (.ref y),some (.ref nt),some (.ref ll),some (.int (g:Int)),some (.int bd),some (.ref al),none,none]∧Ch [y] H H'∧H' al=some (.lst (ab.map nV))∧H' lo=some (.lst ((ab.filter low).map nV))∧H' st=some (.lst ((stsN gs (ab.filter low)).map nkV))∧H' y=some (.ins C dy [("low",.ref lo),("starts",.ref st)])) ?_ ?_
 ·obtain ⟨lows,elows⟩:∃ lows,lows=ab.filter low:=⟨_,rfl⟩
  have lowl:lows.length≤60:=by rw [elows]; exact Nat.le_trans (List.length_filter_le _ _) (by omega)
  have lowm:∀ n∈lows,n < gs.length:=by
   intro n m
   rw [elows] at m
   have:=dle n ((abm n).mp (List.mem_filter.mp m).1)
   omega
  rw [← elows] at hlo2 ⊢
  have fL:List.lookup (Str.ofString "low") [(Str.ofString "low",V.ref lo)]=some (.ref lo):=rfl
  walk_at "rd"
  refine zacm (lows.map nV) (fun i ys σ H3=>ys=(stsN gs (lows.take i)).map nkV∧Ch [] H2 H3∧∃ u,σ=[u,some (.ref nt)]) (by rw [sizeLine_eq,List.length_map]; omega) ⟨rfl,Ch.refl _ _,_,rfl⟩ ?_ ?_ ?_
  ·rintro j ys σ H3 hj ⟨rfl,c3,_⟩
   refine ⟨?_,SqL.of (c3.get hlo2 (by simp))⟩
   unfold stsN
   rw [List.length_map,List.length_map]
   refine Nat.le_trans (List.length_filter_le _ _) ?_
   rw [List.length_take]; omega
  ·rintro j ys σ H3 x hx ⟨rfl,c3,u3,rfl⟩
   rw [List.getElem?_map] at hx
   cases e:lows[j]? with
   | none=>rw [e] at hx; cases hx
   | some n =>
    rw [e] at hx
    cases hx
    have nlt:=lowm n (List.mem_of_getElem? e)
    obtain ⟨b,eb⟩:∃ b,gs[n]?=some b:=⟨_,List.getElem?_eq_getElem nlt⟩
    have hsb:sH gs n=b.src:=by unfold sH; rw [eb]
    have tk:stsN gs (lows.take (j + 1))=stsN gs (lows.take j)++if b.src then [some (2 * n)] else []:=by
     unfold stsN
     rw [zads e,List.map_append,hsb]
     split <;> rfl
    rw [tk]
    obtain ⟨⟨dx,ob⟩,gt,gg3,ot⟩:=na2.ch c3
    obtain ⟨p,ep,hp⟩:=gg3.at_ n b eb
    have at1:=zacb ep
    have f1:=zadq gp op
    unfold nV
    walk_at "rd"
    rename_i H4 c4
    cases hs:b.src with
    | true =>
     refine iteT ?_
     walk_at "rd"
     exact ⟨by simp [nkV,nk,kV],c3.trans c4,_,rfl⟩
    | false =>
     refine iteF ?_
     exact ⟨by simp,c3.trans c4,_,rfl⟩
  ·rintro ys σ H3 ⟨rfl,c3,u3,rfl⟩
   rw [List.length_map,List.take_length]
   have hy3:=c3.get hy2 (by simp)
   walk_at "rd"
   rename_i D hD
   have nDy:D≠y:=(zaao hy3 hD).symm
   exact ⟨zabs nDy zaac,by rw [zaac]; rfl⟩
 rintro σ H3 ⟨st,rfl,c3,hal3,hlo3,hst3,hy3⟩
 obtain ⟨sts,ests⟩:∃ sts,sts=stsN gs (ab.filter low):=⟨_,rfl⟩
 rw [← ests] at hst3
 have hsV:stV ab low=stL (ab.filter low):=rfl
 have q:=fun lo st wy en=>q lo st wy en ab
 rw [← elow] at q
 rw [← ests,hsV] at q
 obtain ⟨lows,elows⟩:∃ lows,lows=ab.filter low:=⟨_,rfl⟩
 rw [← elows] at hlo3 q
 have lowl:lows.length≤60:=by rw [elows]; exact Nat.le_trans (List.length_filter_le _ _) (by omega)
 have lown:lows.Nodup:=by rw [elows]; exact abn.filter _
 clear na2 hal2 hlo2 hy2 c2 hal hll1 hy1 c1
 refine zaa9 (fun σ H'=>∃ (wy p:Addr),σ=[some (.ref y),some (.ref nt),some (.ref ll),some (.int (g:Int)),some (.int bd),some (.ref al),none,none]∧Ch [y] H H'∧H' al=some (.lst (ab.map nV))∧H' lo=some (.lst (lows.map nV))∧H' st=some (.lst (sts.map nkV))∧H' y=some (.ins C dy [("low",.ref lo),("starts",.ref st),("ways",.ref wy)])∧H' wy=some (.dK [(nk none,.ref p)])∧H' p=some (.dK [])∧p≠wy∧H wy=none∧H p=none) ?_ ?_
 ·walk_at "rd"
  rename_i wy hwy p hp
  refine ⟨(rfl:_=List.map (fun kv=>(kV kv.1,kv.2)) [(nk none,V.ref p)]),by simp,?_⟩
  have npw:p≠wy:=fun z=>by rw [z,zaac] at hp; cases hp
  have hpH:H3 p=none:=freeN hwy hp
  have cH:Ch [] H3 (upd (upd (upd H3 wy (.dK [])) p (.dK [])) wy (.dK (mergeK [] [(nk none,V.ref p)]))):=Ch.own hwy ((Ch.new hwy _).trans (Ch.new hp _))
  have hp5:upd (upd (upd H3 wy (.dK [])) p (.dK [])) wy (.dK (mergeK [] [(nk none,V.ref p)])) p=some (.dK []):=zabs npw zaac
  have hwy5:upd (upd (upd H3 wy (.dK [])) p (.dK [])) wy (.dK (mergeK [] [(nk none,V.ref p)])) wy=some (.dK [(nk none,V.ref p)]):=zaac
  generalize upd (upd (upd H3 wy (.dK [])) p (.dK [])) wy (.dK (mergeK [] [(nk none,V.ref p)]))=H5 at cH hp5 hwy5 ⊢
  have hy5:=cH.get hy3 (by simp)
  have hal5:=cH.get hal3 (by simp)
  have hlo5:=cH.get hlo3 (by simp)
  have hst5:=cH.get hst3 (by simp)
  have nyw:wy≠y:=zacz hwy5 hy5 (by intro z; cases z)
  have nyp:p≠y:=zacz hp5 hy5 (by intro z; cases z)
  have fwy:=chFreeB c3 hy hy3 hwy
  have fp:=chFreeB c3 hy hy3 hpH
  have cF:Ch [y] H H5:=c3.trans (Ch.wk cH)
  clear cH hy3 hal3 hlo3 hst3 c3
  walk_at "rd"
 clear hy3 hlo3 hst3 hal3 c3
 rintro σ H3 ⟨wy,p,rfl,c3,hal3,hlo3,hst3,hy3,hwy3,hp3,npw,fwy,fp⟩
 refine zaa9 (fun σ H'=>∃ (en:Addr) (r:Option Nat→Addr),σ=[some (.ref y),some (.ref nt),some (.ref ll),some (.int (g:Int)),some (.int bd),some (.ref al),none,none]∧Ch [y] H H'∧H' al=some (.lst (ab.map nV))∧StAt C H' y lo st wy en lows sts [none] r W1 []∧H en=none∧H (r none)=none) ?_ ?_
 ·walk_at "rd"
  rename_i en hen
  have cE:Ch [y] H3 (upd (upd H3 en (.dK [])) y (HO.ins C dy (putF (Str.ofString "ends") (V.ref en) [(Str.ofString "low",V.ref lo),(Str.ofString "starts",V.ref st),(Str.ofString "ways",V.ref wy)]))):=(Ch.new hen _).trans Ch.put
  have n1:lo≠y:=zacz hlo3 hy3 (by intro z; cases z)
  have n2:st≠y:=zacz hst3 hy3 (by intro z; cases z)
  have n3:wy≠y:=zacz hwy3 hy3 (by intro z; cases z)
  have n4:p≠y:=zacz hp3 hy3 (by intro z; cases z)
  have n5:en≠y:=(zaao hy3 hen).symm
  refine ⟨(?_:StAt C _ y lo st wy en lows sts [none] (fun _=>p) W1 []),chFreeB c3 hy hy3 hen,fp⟩
  exact ⟨⟨dy,by rw [zaac]; rfl⟩,cE.get hlo3 (by simpa using n1),cE.get hst3 (by simpa using n2),⟨cE.get hwy3 (by simpa using n3),fun u hu v hv _=>by rw [List.mem_singleton.mp hu,List.mem_singleton.mp hv],fun _ _=>npw,fun v hv=>by rw [List.mem_singleton.mp hv]; exact cE.get hp3 (by simpa using n4)⟩,zabs n5 zaac,zaao hwy3 hen,fun _ _=>zaao hp3 hen⟩
 rintro σ H4 ⟨en,r,rfl,c4,hal4,s4,fen,fr0⟩
 refine zaa9 (fun σ H'=>∃ (r:Option Nat→Addr) (u:Option L2.V),σ=[some (.ref y),some (.ref nt),some (.ref ll),some (.int (g:Int)),some (.int bd),some (.ref al),u,none]∧Ch [y] H H'∧H' al=some (.lst (ab.map nV))∧StAt C H' y lo st wy en lows sts (stL lows) r W1 []∧∀ v∈stL lows,H (r v)=none) ?_ ?_
 ·have f1:=zauk lo st wy en
  have f2:=zali lo st wy en
  obtain ⟨dy4,hy4⟩:=s4.ob
  have hlo4:=s4.hlo
  walk_at "rd"
  refine zac1 (xs:=lows.map nV) (fun i σ H'=>∃ (r:Option Nat→Addr) (u:Option L2.V),σ=[some (.ref y),some (.ref nt),some (.ref ll),some (.int (g:Int)),some (.int bd),some (.ref al),u,none]∧Ch [y] H H'∧H' al=some (.lst (ab.map nV))∧StAt C H' y lo st wy en lows sts (stL (lows.take i)) r W1 []∧∀ v∈stL (lows.take i),H (r v)=none) ⟨r,_,rfl,c4,hal4,s4,?_⟩ ?_ ?_ ?_
  ·intro v m
   rw [List.mem_singleton.mp m]; exact fr0
  ·rintro i σ H' hi ⟨r,u,rfl,c5,hal5,s5,fr5⟩
   exact SqL.of s5.hlo
  ·rintro i x σ H' hx ⟨r,u,rfl,c5,hal5,s5,fr5⟩
   rw [List.getElem?_map] at hx
   cases e:lows[i]? with
   | none=>rw [e] at hx; cases hx
   | some n =>
    rw [e] at hx
    cases hx
    have nn:n ∉ lows.take i:=by
     intro m
     obtain ⟨j,jl,ej⟩:=List.getElem_of_mem m
     have jl2:j < i∧j < lows.length:=by rw [List.length_take] at jl; omega
     rw [List.getElem_take] at ej
     obtain ⟨il,ei⟩:=List.getElem?_eq_some_iff.mp e
     have:=zaqb lown jl2.2 il (by rw [ej,ei])
     omega
    have nev:some (2 * n) ∉ stL (lows.take i):=fun m=>by
     rcases zahy.mp m with z | ⟨m',hm,z | z⟩
     ·cases z
     ·injection z with z; exact nn (by rw [show n=m' by omega]; exact hm)
     ·injection z with z; omega
    have nod:some (2 * n + 1) ∉ stL (lows.take i)++[some (2 * n)]:=fun m=>by
     rcases List.mem_append.mp m with m | m
     ·rcases zahy.mp m with z | ⟨m',hm,z | z⟩
      ·cases z
      ·injection z with z; omega
      ·injection z with z; exact nn (by rw [show n=m' by omega]; exact hm)
     ·have:=List.mem_singleton.mp m; injection this; omega
    have lV:((stL (lows.take i)).map (mkN (rV r))).length≤200:=by rw [List.length_map,zahx,List.length_take]; omega
    obtain ⟨dy5,hy5⟩:=s5.ob
    clear hy4 hlo4 s4 hal4 c4 hy3 hlo3 hst3 hal3 c3
    unfold nV
    refine zaa9 (fun σ H'=>∃ (r:Option Nat→Addr),σ=[some (.ref y),some (.ref nt),some (.ref ll),some (.int (g:Int)),some (.int bd),some (.ref al),some (.int (n:Int)),none]∧Ch [y] H H'∧H' al=some (.lst (ab.map nV))∧StAt C H' y lo st wy en lows sts (stL (lows.take i)++[some (2 * n)]) r W1 []∧∀ v∈stL (lows.take i)++[some (2 * n)],H (r v)=none) ?_ ?_
    ·walk_at "rd"
     rename_i p hp
     refine ⟨(rfl:_=List.map (fun kv=>(kV kv.1,kv.2)) [(nk (some (2 * n + 1)),V.bl true)]),by simp,?_⟩
     have cH:Ch [] H' (upd (upd H' p (.dK [])) p (.dK (mergeK [] [(nk (some (2 * n + 1)),V.bl true)]))):=Ch.own hp (Ch.new hp _)
     have hp7:upd (upd H' p (.dK [])) p (.dK (mergeK [] [(nk (some (2 * n + 1)),V.bl true)])) p=some (.dK ((W1 (some (2 * n))).map wt)):=by rw [zaac,zavl]; rfl
     generalize upd (upd H' p (.dK [])) p (.dK (mergeK [] [(nk (some (2 * n + 1)),V.bl true)]))=H7 at cH hp7 ⊢
     have s7:=s5.ch cH
     have hal7:=cH.get hal5 (by simp)
     have c7:Ch [y] H H7:=c5.trans (Ch.wk cH)
     have fp:=chFreeB c5 hy hy5 hp
     have n1:=zaao s5.hwy.d hp
     have n2:=zaao s5.hen hp
     have n3:∀ v∈stL (lows.take i),r v≠p:=fun v m=>zaao (s5.hwy.at_ v m) hp
     clear hy5 s5 cH c5 hal5
     obtain ⟨dy7,hy7⟩:=s7.ob
     have hwd7:=s7.hwy.d
     have s8:=s7.add nev hp7 n3 n1.symm n2.symm
     rw [zahv] at s8
     have nal:al≠wy:=zacz hal7 hwd7 (by intro z; cases z)
     walk_at "rd"
     rename_i v m
     split
     ·exact fp
     ·rename_i z
      rcases List.mem_append.mp m with m | m
      ·exact fr5 v m
      ·exact absurd (List.mem_singleton.mp m) z
    rintro σ H6 ⟨r6,rfl,c6,hal6,s6,fr6⟩
    clear s5 hy5 c5 hal5
    have lV6:((stL (lows.take i)++[some (2 * n)]).map (mkN (rV r6))).length≤200:=by rw [List.length_map,List.length_append,zahx,List.length_take]; simp; omega
    obtain ⟨dy6,hy6⟩:=s6.ob
    have hwd6:=s6.hwy.d
    walk_at "rd"
    rename_i p hp
    have cH:Ch [] H6 (upd H6 p (.dK [])):=Ch.new hp _
    have hp7:upd H6 p (.dK []) p=some (.dK ((W1 (some (2 * n + 1))).map wt)):=by rw [zaac,zaun]; rfl
    have s7:=s6.ch cH
    have fp:=chFreeB c6 hy hy6 hp
    have n1:=zaao s6.hwy.d hp
    have n2:=zaao s6.hen hp
    have n3:∀ v∈stL (lows.take i)++[some (2 * n)],r6 v≠p:=fun v m=>zaao (s6.hwy.at_ v m) hp
    have s8:=s7.add nod hp7 n3 n1.symm n2.symm
    rw [zasn,← zaky e] at s8
    refine ⟨zabs (zacz hal6 hwd6 (by intro z; cases z)) (cH.get hal6 (by simp)),s8,fun v m=>?_⟩
    split
    ·exact fp
    ·rename_i z
     rw [zaky e] at m
     rcases List.mem_append.mp m with m | m
     ·exact fr6 v m
     ·exact absurd (List.mem_singleton.mp m) z
  ·rintro σ H' ⟨r,u,rfl,c5,hal5,s5,fr5⟩
   rw [List.length_map,List.take_length] at s5 fr5
   exact ⟨r,u,rfl,c5,hal5,s5,fr5⟩
 clear s4 hal4 c4 fr0 r
 rintro σ H5 ⟨r,u,rfl,c5,hal5,s5,fr5⟩
 have fX:∀ a∈en :: (stL lows).map r,H a=none:=by
  intro a m
  rcases List.mem_cons.mp m with rfl | m
  ·exact fen
  ·obtain ⟨v,m2,rfl⟩:=List.mem_map.mp m
   exact fr5 v m2
 have hlow:∀ f,some (2 * f)∈stL lows→some (2 * f + 1)∈stL lows:=by
  intro f m
  rcases zahy.mp m with z | ⟨m',hm,z | z⟩
  ·cases z
  ·injection z with z; exact zahy.mpr (.inr ⟨m',hm,.inr (by rw [show f=m' by omega])⟩)
  ·injection z with z; omega
 have fdl:∀ n,(fdn gs n).length≤3:=by
  intro n
  unfold fdn
  split
  ·exact zaj0 _
  ·simp
 have prl:∀ l:List Nat,(prs l (fdn gs)).length≤3 * l.length:=by
  intro l
  unfold prs
  induction l with
  | nil=>simp
  | cons a l ih=>rw [List.flatMap_cons,List.length_append,List.length_map,List.length_cons]; have:=fdl a; omega
 clear c3 hal3 hlo3 hst3 hy3 hwy3 hp3
 walk_at "rd"
 refine zac1 (xs:=ab.map nV) (fun i σ H'=>∃ (ends:List (Key × L2.V)) (u v:Option L2.V),σ=[some (.ref y),some (.ref nt),some (.ref ll),some (.int (g:Int)),some (.int bd),some (.ref al),u,v]∧Ch [y] H H'∧H' al=some (.lst (ab.map nV))∧StAt C H' y lo st wy en lows sts (stL lows) r (lds (stL lows) (prs (ab.take i) (fdn gs))) ends∧ends.length≤(prs (ab.take i) (fdn gs)).length∧EnOk (lds (stL lows) (prs (ab.take i) (fdn gs))) ends) ⟨[],_,_,rfl,c5,hal5,s5,Nat.zero_le _,?_⟩ ?_ ?_ ?_
 ·intro f m
  have:none∈W1 (some (2 * f + 1)):=m
  rw [zaun] at this; cases this
 ·rintro i σ H' hi ⟨ends,u,v,rfl,c6,hal6,s6,el6,eo6⟩
  exact SqL.of hal6
 ·rintro i x σ H' hx ⟨ends,u,v,rfl,c6,hal6,s6,el6,eo6⟩
  rw [List.getElem?_map] at hx
  cases e:ab[i]? with
  | none=>rw [e] at hx; cases hx
  | some n =>
   rw [e] at hx
   cases hx
   have nle:=dle n ((abm n).mp (List.mem_of_getElem? e))
   obtain ⟨b,eb⟩:∃ b,gs[n]?=some b:=⟨_,List.getElem?_eq_getElem (by omega)⟩
   have efd:fdn gs n=fwn b:=by unfold fdn; rw [eb]
   have na6:=na.chy c6 hy
   have ptk:prs (ab.take (i + 1)) (fdn gs)=prs (ab.take i) (fdn gs)++(fdn gs n).map fun f=>(n,f):=by
    unfold prs
    rw [List.take_add_one,e,Option.toList_some,List.flatMap_append]
    simp
   have hfl:=fdl n
   have hpl:=prl (ab.take i)
   rw [List.length_take] at hpl
   clear s5 hal5 c5
   unfold nV
   walk_at "rd"
   rename_i fl H7 c7 ffl hfl7
   have c67:Ch [y] H H7:=c6.trans (Ch.wk c7)
   have hal7:=c7.get hal6 (by simp)
   have s7:=s6.ch c7
   rw [← efd] at hfl7
   clear c6 hal6 s6 c7 na6 ffl
   refine zac1 (xs:=(fdn gs n).map nV) (fun j σ H'=>∃ (ends:List (Key × L2.V)) (v:Option L2.V),σ=[some (.ref y),some (.ref nt),some (.ref ll),some (.int (g:Int)),some (.int bd),some (.ref al),some (.int (n:Int)),v]∧Ch [y] H H'∧H' al=some (.lst (ab.map nV))∧H' fl=some (.lst ((fdn gs n).map nV))∧StAt C H' y lo st wy en lows sts (stL lows) r (lds (stL lows) (prs (ab.take i) (fdn gs)++((fdn gs n).take j).map fun f=>(n,f))) ends∧ends.length≤(prs (ab.take i) (fdn gs)).length + j∧EnOk (lds (stL lows) (prs (ab.take i) (fdn gs)++((fdn gs n).take j).map fun f=>(n,f))) ends) ⟨ends,_,rfl,c67,hal7,hfl7,by simpa using s7,by omega,by simpa using eo6⟩ ?_ ?_ ?_
   ·rintro j σ H' hj ⟨ends,v,rfl,c8,hal8,hfl8,s8,el8,eo8⟩
    exact SqL.of hfl8
   ·rintro j x σ H8 hx ⟨ends,v,rfl,c8,hal8,hfl8,s8,el8,eo8⟩
    rw [List.getElem?_map] at hx
    cases e2:(fdn gs n)[j]? with
    | none=>rw [e2] at hx; cases hx
    | some a =>
     rw [e2] at hx
     cases hx
     clear s7 hal7 c67 hfl7 eo6 el6
     have jl:j < (fdn gs n).length:=(List.getElem?_eq_some_iff.mp e2).1
     have tk:(((fdn gs n).take (j + 1)).map fun f=>(n,f))=(((fdn gs n).take j).map fun f=>(n,f))++[(n,a)]:=by
      rw [List.take_add_one,e2,Option.toList_some,List.map_append]; rfl
     rw [tk,← List.append_assoc,zapt]
     have hWl:=zasp (stL lows) (some (2 * a + 1)) (prs (ab.take i) (fdn gs)++((fdn gs n).take j).map fun f=>(n,f))
     rw [List.length_append,List.length_map,List.length_take] at hWl
     obtain ⟨W,eW⟩:∃ W,lds (stL lows) (prs (ab.take i) (fdn gs)++((fdn gs n).take j).map fun f=>(n,f))=W:=⟨_,rfl⟩
     rw [eW] at s8 eo8 hWl ⊢
     have hWl2:(W (some (2 * a + 1))).length≤1000:=by omega
     have hel:ends.length≤1000:=by omega
     have hla:=hlow a
     have dk:=s8.dk
     obtain ⟨⟨dy8,hy8⟩,x1,x2,hwy8,hen8,we8,re8⟩:=id s8
     have f1:=(fmn lo st wy en).l
     unfold nV
     walk_at "rd"
     rename_i H9 ends9 c9 w9 e9 l9 o9
     exact ⟨Ch.ownsX fX c8 c9,c9.get hal8 (zagi hal8 dk (fun _ z=>by cases z)),c9.get hfl8 (zagi hfl8 dk (fun _ z=>by cases z)),s8.led c9 w9 e9,by omega,o9⟩
   ·rintro σ H9 ⟨ends,v,rfl,c8,hal8,hfl8,s8,el8,eo8⟩
    rw [List.length_map,List.take_length] at s8 eo8
    rw [List.length_map] at el8
    rw [ptk]
    refine ⟨ends,_,v,rfl,c8,hal8,s8,?_,eo8⟩
    rw [List.length_append,List.length_map]; exact el8
 ·rintro σ H' ⟨ends,u,v,rfl,c6,hal6,s6,el6,eo6⟩
  rw [List.length_map,List.take_length] at s6 el6 eo6
  have:=prl ab
  exact q lo st wy en r ends H' c6 abn abm fr5 abl (by omega) s6 eo6
end
end

section
theorem zaqr:∀ (B A:List (Option Nat × Option (Option Nat))),((A++B).map Prod.fst).Nodup→mrg (A.map cm) (B.map cm)=(A++B).map cm
 | [],A,_=>by simp [mrg]
 | b :: B,A,nd=>by
  have h:b.1 ∉ A.map Prod.fst:=by
   rw [List.map_append,List.nodup_append] at nd
   intro m
   exact nd.2.2 _ m _ (by simp) rfl
  have e:putK (A.map cm) (cm b).1 (cm b).2=(A++[b]).map cm:=by
   show putK _ (nk b.1) _=_
   rw [zaff _ (zagh h),List.map_append]; rfl
  show mrg (putK (A.map cm) (cm b).1 (cm b).2) (B.map cm)=_
  rw [e,zaqr B (A++[b]) (by rw [List.append_assoc]; exact nd),List.append_assoc]; rfl
local macro_rules | `(tactic| walk_at "user")=>`(tactic| first
 | (apply zae1; (focus walk_at "get"); (focus with_reducible assumption))
 | (apply zae2; (focus walk_at "get"); (focus with_reducible assumption))
 | (apply dputK; (focus walk_at "get"); (focus walk_at "arith"))
 | (apply zadc; (focus walk_at "get"); (focus with_reducible assumption))
 | (apply zadf; (focus walk_at "get"); (focus with_reducible assumption)))
section
variable {P:Program}{w:World}{K:PySem.W.Frag}{mg:Str→Option Value}{base:Heap}{f:Addr}{fd:FuncData}{k:Nat}
theorem av18m2:AF (defScope (inClass (top 18) 2)) ["self", "came", "waiting", "node", "other"]:=⟨by decide +kernel⟩
theorem gl18m2:AG (defScope (inClass (top 18) 2)) ["dict", "list", "END", "len"]:=⟨by decide +kernel⟩
def zagl:Scope:={ kind:=PySem.ScopeKind.function,names:=[(PySem.Str.ofString ".0",PySem.NameKind.local),(PySem.Str.ofString "node",PySem.NameKind.local)],isGenerator:=false,isCoroutine:=false,more:=[]:PySem.Scope }
theorem zai1:CompOk zagl (defScope (inClass (top 18) 2)) (["node"]:List Str) (["self", "came", "waiting", "node", "other"]:List Str) [] (["node"]:List Str):=compOk rfl (by decide +kernel) (by decide +kernel) (by decide +kernel) (by decide +kernel) rfl (by decide +kernel)
theorem zai2:AK (relab zagl (defScope (inClass (top 18) 2))) ["node"]:=⟨by decide +kernel⟩
theorem zanx:AV (relab zagl (defScope (inClass (top 18) 2))) ["node"]:=⟨by decide +kernel⟩
def spNct (C:Addr):Sp:=fun vs H Q _=>∃ (y lo st wy en:Addr) (lows:List Nat) (sts V:List (Option Nat)) (r:Option Nat→Addr) (W:Option Nat→List (Option Nat)) (ends:List (Key × L2.V)),vs=[.ref y]∧StAt C H y lo st wy en lows sts V r W ends∧sts.Nodup∧(∀ u∈sts,u∈V)∧(∀ u∈V,∀ v∈W u,v∈V)∧V.length≤200 ∧
 ∀ (cd:Addr) (C:List (Option Nat × Option (Option Nat))) (wts:List (Option Nat)) (H':Hp),Ch [] H H'→H cd=none→H' cd=some (.dK (C.map cm))→CmT W sts C wts→(∀ x∈C.map Prod.fst,x∈V)→(none ∉ C.map Prod.fst→wts=[]∧ClT W C [])→Q (.ref cd) H'
theorem scNct:FnScope ["self", "came", "waiting", "node", "other"] ["self"] (defScope (inClass (top 18) 2)):=⟨rfl,rfl,rfl,by decide +kernel,rfl,by decide +kernel,by decide +kernel⟩
theorem zaup {C:Addr}{tE:Tok} (F:Fun K "nodes_come_to" "Stream.nodes_come_to" (inClass (top 18) 2) f fd) (cl:Cls K C) (nS:NoAttr K C "starts") (nW:NoAttr K C "ways") (m_END:mg "END" = some (.str (Str.ofString "end") tE)) (z_dict:mg "dict" = none) (z_list:mg "list" = none) (z_len:mg "len" = none) :
  FnOk P w K mg base CX0 (k + 1) f fd ["self"] (spNct C):=by
 have nd:=scNct.nd
 refine F.ok scNct (fun vs H Q E h=>by obtain ⟨y,lo,st,wy,en,lows,sts,V,r,W,ends,rfl,_⟩:=h; rfl) (fun cdv A outer s0 H vs Q E hr h=>?_)
 obtain ⟨y,lo,st,wy,en,lows,sts,V,r,W,ends,rfl,hs,snd,sV,wV,lV,q⟩:=h
 have hu:=zadw hr
 refine ⟨_,(Pr.h (zaav (zaat (i:=1) nd rfl (av18m2.l 1 rfl) (zabp (zag0 rfl) (gl18m2.g 0 rfl) z_dict zad1 (zaaa (zabl rfl zai1 (zabq (zabt (qv av18m2 0 rfl) rfl)) (fun _ _ _ _ _=>(zaar (i:=0) zai1.nd rfl (Or.inl (zai2.k 0 rfl)) (Or.inr (zai2.k 0 rfl)))) (fun _ _ _ _ _=>zab0) (fun _ _ _ _ _=>(zabh (zaaa (qw zanx 0 rfl) (zaaa zacr zaab zaaj) zaae)))) zaab zabe) zad2 zad3)) (zaav (zaat (i:=2) nd rfl (av18m2.l 2 rfl) (zabp zadv (gl18m2.g 1 rfl) z_list zacc (zaaa (zabt (qv av18m2 0 rfl) rfl) zaab zae9) zacd zace)) (zaah (zady PassesOwn.never (zacg (zad7 (zaaq zafk (zaaf zaai (gl18m2.g 3 rfl) z_len PySem.boot_len (zaaa (qv av18m2 2 rfl) zaab zaae) zaa6 zaa7) zaad (nomark _)) (zadj (zach hu (zacv (v:=.str "end") (gl18m2.g 2 rfl) m_END ⟨_,rfl⟩ zag6) (qv av18m2 1 rfl))))) (zaav (zaat (i:=3) nd rfl (av18m2.l 3 rfl) (zajp (qv av18m2 2 rfl))) (zaag (zapf (zabf PassesOwn.never rfl (zakq (zab2 hu (zabt (qv av18m2 0 rfl) rfl) (qv av18m2 3 rfl) (fun _ _=>rfl))) (zaar (i:=4) nd rfl (av18m2.l 4 rfl)) (zaag (zaa4 (zach hu (qv av18m2 4 rfl) (qv av18m2 1 rfl)) (zaah (zacw hu (qv av18m2 1 rfl) (qv av18m2 4 rfl) (qv av18m2 3 rfl) rfl) (zaag (zabg (zacf PySem.F.plainAttrs_list PySem.F.slot_list_append PySem.F.type_list_append zabd (qv av18m2 2 rfl) (zaaa (qv av18m2 4 rfl) zaab zaae))))) zaau))))))) (zaag (zaas (qv av18m2 1 rfl))))))),?_⟩
 (try dsimp only [cxOf])
 obtain ⟨dy,hy⟩:=hs.ob
 have hst:=hs.hst
 have f1:=zavk lo st wy en
 have f2:=zali lo st wy en
 have sl:sts.length≤V.length:=zab6 snd sV
 refine zaa9 (fun σ H'=>∃ cd,σ=[some (.ref y),some (.ref cd),none,none,none]∧Ch [] H H'∧H cd=none∧H' cd=some (.dK ((sts.map fun s=>(s,none)).map cm))) ?_ ?_
 ·walk_at "rd"
  refine zacm (sts.map nkV) (fun i ys σ H'=>∃ (ts:List Addr) (u:Option L2.V),σ=[u]∧ys=ts.map L2.V.ref∧Ch [] H H'∧ts.length=i∧Paired (fun kv t=>H' t=some (.tup [kV kv.1,kv.2])) (((sts.take i).map fun s=>(s,none)).map cm) ts) (by rw [sizeLine_eq,List.length_map]; omega) ⟨[],_,rfl,rfl,Ch.refl _ _,rfl,.nil⟩ ?_ ?_ ?_
  ·rintro i ys σ H' hi ⟨ts,u,rfl,rfl,c,lt,_⟩
   exact ⟨by simp [lt],SqL.of (c.get hst (by simp))⟩
  ·rintro i ys σ H' x hx ⟨ts,u,rfl,rfl,c,lt,pr⟩
   rw [List.getElem?_map] at hx
   cases e:sts[i]? with
   | none=>rw [e] at hx; cases hx
   | some n =>
    rw [e] at hx
    cases hx
    walk_at "rd"
    rename_i t ht
    refine ⟨(List.map_append (f:=L2.V.ref) (l₁:=ts) (l₂:=[t])).symm,c.trans (Ch.new ht _),by simp [lt],?_⟩
    rw [List.take_add_one,e,List.map_append,List.map_append]
    exact zadr (x:=cm (n,none)) (y:=t) (by exact zaac) (zacj (fun _ _ z=>zab5 ht z) pr)
  rintro ys σ H' ⟨ts,u,rfl,rfl,c,lt,pr⟩
  rw [List.length_map,List.take_length] at pr
  intro D hD
  refine ⟨D,ts,_,rfl,zaac,zacj (fun _ _ z=>zab5 hD z) pr,by rw [List.length_map,List.length_map]; omega,fun d hd=>?_⟩
  have em:=zaqr (sts.map fun s=>(s,none)) [] (by simpa [Function.comp_def] using snd)
  have em:mrg [] ((sts.map fun s=>(s,none)).map cm)=(sts.map fun s=>(s,none)).map cm:=em
  rw [em]
  exact ⟨d,rfl,(c.trans (Ch.new hD _)).trans (Ch.new hd _),chFree (c.trans (Ch.new hD _)) hd,zaac⟩
 rintro σ H1 ⟨cd,rfl,c1,fcd,hcd1⟩
 refine zaa9 (fun σ H'=>∃ wl,σ=[some (.ref y),some (.ref cd),some (.ref wl),none,none]∧Ch [] H H'∧H wl=none∧H' cd=some (.dK ((sts.map fun s=>(s,none)).map cm))∧H' wl=some (.lst (sts.map nkV))) ?_ ?_
 ·walk_at "rd"
  rename_i l hl
  exact ⟨chFree c1 hl,zab5 hl hcd1,zaac⟩
 rintro σ H2 ⟨wl,rfl,c2,fwl,hcd2,hwl2⟩
 clear c1 hcd1
 have fX:∀ a∈[cd,wl],H a=none:=by
  intro a m
  rcases List.mem_cons.mp m with rfl | m
  ·exact fcd
  ·rw [List.mem_singleton.mp m]; exact fwl
 have cm0:CmT W sts (sts.map fun s=>(s,none)) sts:=CmT.first snd
 have cl0:ClT W (sts.map fun s=>(s,none)) sts:=ClT.first
 have kle:∀ (C:List (Option Nat × Option (Option Nat))) (wt:List (Option Nat)),CmT W sts C wt→(∀ x∈C.map Prod.fst,x∈V)→C.length≤V.length:=by
  intro C wt c h
  have:=zab6 c.nd h
  rwa [List.length_map] at this
 refine ⟨(fun m σ H'=>∃ (C:List (Option Nat × Option (Option Nat))) (wts:List (Option Nat)) (u v:Option L2.V),σ=[some (.ref y),some (.ref cd),some (.ref wl),u,v]∧Ch [] H H'∧H' cd=some (.dK (C.map cm))∧H' wl=some (.lst (wts.map nkV))∧CmT W sts C wts∧ClT W C wts∧(∀ x∈C.map Prod.fst,x∈V)∧m=wts.length + 2 * (V.length - C.length)∧m≤1000),⟨_,_,sts,_,_,rfl,c2,hcd2,hwl2,cm0,cl0,?_,rfl,by omega⟩,?_⟩
 ·intro x hx
  rw [List.map_map] at hx
  exact sV x (by simpa [Function.comp_def] using hx)
 clear c2 hcd2 hwl2
 rintro m σ H1 ⟨C,wts,u,v,rfl,c,hcd,hwl,cmt,clt,kV',rfl,hm⟩
 have cln:=kle C wts cmt kV'
 have ndw:cd≠wl:=zacz hcd hwl (by intro z; cases z)
 by_cases eN:none∈C.map Prod.fst
 ·obtain ⟨⟨_,q0⟩,mq,rfl⟩:=List.mem_map.mp eN
  have vN:=zag5 cmt.nd mq
  have vN:valV (C.map cm) (.inr (Str.ofString "end"))=some (qV q0):=vN
  have ex:Q (.ref cd) H1:=q cd C wts H1 c fcd hcd cmt kV' fun n=>absurd eN n
  walk_at "rd"
  refine ite2 (fun hc=>?_) (fun hc=>?_)
  ·walk_at "rd"
  ·walk_at "rd"
 ·have vN:valV (C.map cm) (.inr (Str.ofString "end"))=none:=zagh eN
  walk_at "rd"
  refine ite2 (fun hc=>?_) (fun hc=>?_)
  ·walk_at "rd"
   refine ⟨fun σ' H' z=>z,?_⟩
   have hne:wts≠[]:=by rintro rfl; simp at hc
   obtain ⟨ws,x,rfl⟩:∃ ws' n,wts=ws'++[n]:=⟨wts.dropLast,wts.getLast hne,(List.dropLast_concat_getLast hne).symm⟩
   have hla:((ws++[x]).map nkV)[((ws++[x]).map nkV).length - 1]?=some (nkV x):=by simp
   have edl:((ws++[x]).map nkV).dropLast=ws.map nkV:=by rw [List.map_append]; exact List.dropLast_concat
   have cP:=Ch.own (o:=.lst (ws.map nkV)) fwl c
   have hkP:upd H1 wl (.lst (ws.map nkV)) cd=some (.dK (C.map cm)):=zabs ndw hcd
   have hwP:upd H1 wl (.lst (ws.map nkV)) wl=some (.lst (ws.map nkV)):=zaac
   rw [List.length_append,List.length_singleton] at hm
   refine zaa9 (fun σ H'=>σ=[some (.ref y),some (.ref cd),some (.ref wl),some (nkV x),v]∧Ch [] H H'∧H' cd=some (.dK (C.map cm))∧H' wl=some (.lst (ws.map nkV))) ?_ ?_
   ·refine ⟨_,rfl,.inl ⟨rfl,_,SqL.of hwl⟩,wl,_,_,rfl,rfl,hwl,hla,?_⟩
    rw [edl]
    exact ⟨rfl,cP,hkP,hwP⟩
   clear hcd hwl cP hkP hwP c
   rintro σ H3 ⟨rfl,c3,hcd,hwl⟩
   obtain ⟨cmd,xk⟩:=cmt.drop
   have xV:=kV' x xk
   have hs3:=hs.ch c3
   obtain ⟨dy3,hy3⟩:=hs3.ob
   have hwd3:=hs3.hwy.d
   have vx:=zahw (r:=r) xV
   have hxd:=hs3.hwy.at_ x xV
   have hxH:=hs.hwy.at_ x xV
   clear hy hst
   have nxc:cd≠r x:=(zaao hxH fcd).symm
   have nxw:wl≠r x:=(zaao hxH fwl).symm
   walk_at "rd"
   rename_i ob
   have hF:upd H3 (r x) (.frz ob (.dK ((W x).map wt))) (r x)=some (.frz ob (.dK ((W x).map wt))):=zaac
   have hFc:upd H3 (r x) (.frz ob (.dK ((W x).map wt))) cd=some (.dK (C.map cm)):=zabs nxc hcd
   have hFw:upd H3 (r x) (.frz ob (.dK ((W x).map wt))) wl=some (.lst (ws.map nkV)):=zabs nxw hwl
   have thw:∀ H',Ch [cd,wl] (upd H3 (r x) (.frz ob (.dK ((W x).map wt)))) H'→Ch [cd,wl] H3 (upd H' (r x) (.dK ((W x).map wt))):=fun H' c=>Ch.thawX c hxd
   generalize upd H3 (r x) (.frz ob (.dK ((W x).map wt)))=HF at hF hFc hFw thw ⊢
   have clx:∀ z∈C.map Prod.fst,z ∉ ws→z≠x→∀ t∈W z,t∈C.map Prod.fst:=fun z hz h1 h2=>clt z hz (by simp [h1,h2])
   refine zam0 (fun i σ H'=>∃ (C':List (Option Nat × Option (Option Nat))) (ws':List (Option Nat)) (u:Option L2.V),σ=[some (.ref y),some (.ref cd),some (.ref wl),some (nkV x),u]∧Ch [cd,wl] HF H'∧H' cd=some (.dK (C'.map cm))∧H' wl=some (.lst (ws'.map nkV))∧CmT W sts C' ws'∧(∀ z∈C'.map Prod.fst,z∈V)∧x∈C'.map Prod.fst∧(∀ z∈C'.map Prod.fst,z ∉ ws'→z≠x→∀ t∈W z,t∈C'.map Prod.fst)∧(∀ t∈(W x).take i,t∈C'.map Prod.fst)∧ws'.length + 2 * (V.length - C'.length)≤ws.length + 2 * (V.length - C.length)) ⟨C,ws,_,rfl,Ch.refl _ _,hFc,hFw,cmd,kV',xk,clx,by simp,Nat.le_refl _⟩ ?_ ?_ ?_
   ·rintro i σ H' hi ⟨C',ws',u,rfl,c5,_⟩
    exact c5.get hF (by simp [nxc.symm,nxw.symm])
   ·rintro i kv σ H' hx ⟨C',ws',u,rfl,c5,hcd5,hwl5,cm5,kV5,xk5,cl5,tk5,le5⟩
    rw [List.getElem?_map] at hx
    cases e:(W x)[i]? with
    | none=>rw [e] at hx; cases hx
    | some t =>
     rw [e] at hx
     cases hx
     rw [show kV (wt t).1=nkV t from rfl]
     have tW:t∈W x:=List.mem_of_getElem? e
     have tk:(W x).take (i + 1)=(W x).take i++[t]:=by rw [List.take_add_one,e]; rfl
     have cl6:=kle C' ws' cm5 kV5
     have l6:(C'.map cm).length≤200:=by rw [List.length_map]; omega
     have l7:ws'.length≤1000:=by omega
     clear hy3 hwd3 hxd hcd hwl hF hFc hFw
     by_cases et:t∈C'.map Prod.fst
     ·obtain ⟨⟨_,q0⟩,mq,rfl⟩:=List.mem_map.mp et
      have vt:=zag5 cm5.nd mq
      walk_at "rd"
      refine ⟨?_,le5⟩
      rw [tk]
      intro z hz
      rcases List.mem_append.mp hz with hz | hz
      ·exact tk5 z hz
      ·rw [List.mem_singleton.mp hz]; exact et
     ·have vt:=zagh et
      have cm6:=cm5.more xk5 tW et
      have kV6:∀ z∈(C'++[(t,some x)]).map Prod.fst,z∈V:=by
       intro z hz
       rw [List.map_append] at hz
       rcases List.mem_append.mp hz with hz | hz
       ·exact kV5 z hz
       ·simp at hz; subst hz; exact wV x xV _ tW
      have le6:=kle _ _ cm6 kV6
      rw [List.length_append,List.length_singleton] at le6
      have ep:=zauh (p:=x) et
      walk_at "rd"
      rw [ep]
      refine ⟨Ch.putX (Ch.putX c5 (by simp)) (by simp),zabs ndw zaac,by rw [zaac,List.map_append]; rfl,cm6,kV6,?_,?_,?_,?_⟩
      ·rw [List.map_append]; exact List.mem_append_left _ xk5
      ·intro z hz h1 h2 s hs
       rw [List.map_append] at hz ⊢
       rw [List.mem_append,not_or] at h1
       rcases List.mem_append.mp hz with hz | hz
       ·exact List.mem_append_left _ (cl5 z hz h1.1 h2 s hs)
       ·simp at hz; exact absurd hz (by simpa using h1.2)
      ·rw [tk]
       intro z hz
       rw [List.map_append]
       rcases List.mem_append.mp hz with hz | hz
       ·exact List.mem_append_left _ (tk5 z hz)
       ·rw [List.mem_singleton.mp hz]; simp
      ·simp only [List.length_append,List.length_singleton]; omega
   ·rintro σ H' ⟨C',ws',u,rfl,c5,hcd5,hwl5,cm5,kV5,xk5,cl5,tk5,le5⟩
    rw [List.length_map,List.take_length] at tk5
    have c6:=thw H' c5
    have cl6:=kle C' ws' cm5 kV5
    refine ⟨r x,ob,(W x).map wt,c5.get hF (by simp [nxc.symm,nxw.symm]),(show ∀ b u,H (r x)≠some (.frz b u) from fun b u z=>by rw [hxH] at z; cases z),?_⟩
    refine ⟨ws'.length + 2 * (V.length - C'.length),by rw [List.length_append,List.length_singleton]; omega,C',ws',_,_,rfl,Ch.owns fX c3 c6,zabs nxc hcd5,zabs nxw hwl5,cm5,?_,kV5,rfl,by omega⟩
    intro z hz h1 t ht
    by_cases e:z=x
    ·subst e; exact tk5 t ht
    ·exact cl5 z hz h1 e t ht
  ·have hnil:wts=[]:=by
    cases wts with
    | nil=>rfl
    | cons _ _=>exact absurd hc (by simp)
   subst hnil
   have ex:Q (.ref cd) H1:=q cd C [] H1 c fcd hcd cmt kV' fun _=>⟨rfl,clt⟩
   walk_at "rd"
end
end

section
theorem zaqs {H:Hp}{a:Addr}{kvs:List (Key × V)} (e:H a=some (.dK kvs)):IsD H a:=.inl ⟨kvs,.inl e⟩
local macro_rules | `(tactic| walk_at "user")=>`(tactic| first
 | (apply zaqs; walk_at "get")
 | (apply zae1; (focus walk_at "get"); (focus with_reducible assumption))
 | (apply zae2; (focus walk_at "get"); (focus with_reducible assumption))
 | (apply dputK; (focus walk_at "get"); (focus walk_at "arith"))
 | (apply zacy; (focus walk_at "get"); (focus with_reducible assumption))
 | (apply zadc; (focus walk_at "get"); (focus with_reducible assumption))
 | (apply zadf; (focus walk_at "get"); (focus with_reducible assumption)))
theorem StAt.rev {C:Addr}{H:Hp}{y lo st wy en:Addr}{lows:List Nat}{sts V:List (Option Nat)}{r:Option Nat→Addr}{W:Option Nat→List (Option Nat)}{ends:List (Key × L2.V)}{v:Option Nat}{l:List (Option Nat)} (h:StAt C H y lo st wy en lows sts V r W ends) (hv:v∈V):StAt C (upd H (r v) (.dK (l.map wt))) y lo st wy en lows sts V r (fun u=>if u=v then l else W u) ends:=by
 have w2:=h.hwy.set (W':=fun u=>if u=v then l else W u) hv (fun u _ ne=>if_neg ne)
 simp only [if_pos] at w2
 exact h.led (Ch.putX (Ch.refl _ _) (List.mem_cons_of_mem _ (List.mem_map.mpr ⟨v,hv,rfl⟩))) w2 (zabs (h.re v hv).symm h.hen)
section
variable {P:Program}{w:World}{K:PySem.W.Frag}{mg:Str→Option Value}{base:Heap}{f:Addr}{fd:FuncData}{k:Nat}
theorem av18m3:AF (defScope (inClass (top 18) 3)) ["self", "came", "node", "ahead"]:=⟨by decide +kernel⟩
theorem gl18m3:AG (defScope (inClass (top 18) 3)) ["END"]:=⟨by decide +kernel⟩
def spTurn (C:Addr):Sp:=fun vs H Q _=>∃ (y lo st wy en cd:Addr) (lows:List Nat) (sts V:List (Option Nat)) (r:Option Nat→Addr) (W:Option Nat→List (Option Nat)) (ends:List (Key × L2.V)) (Cs:List (Option Nat × Option (Option Nat))) (wts:List (Option Nat)) (A:Option Nat→Option Nat→Prop),vs=[.ref y,.ref cd]∧StAt C H y lo st wy en lows sts V r W ends∧H cd=some (.dK (Cs.map cm))∧CmT W sts Cs wts∧(∀ x∈Cs.map Prod.fst,x∈V)∧none∈Cs.map Prod.fst∧V.Nodup∧V.length≤200∧OriS A W∧(∀ u v,A u v→u∈V∧v∈V)∧(∀ v∈V,r v≠cd) ∧
 ∀ (H':Hp) (W':Option Nat→List (Option Nat)) (s:Option Nat),Ch (V.map r) H H'→StAt C H' y lo st wy en lows sts V r W' ends→TnS A V W (rkT Cs) none W' s→s∈sts→Q .non H'
theorem scTurn:FnScope ["self", "came", "node", "ahead"] ["self", "came"] (defScope (inClass (top 18) 3)):=⟨rfl,rfl,rfl,by decide +kernel,rfl,by decide +kernel,by decide +kernel⟩
theorem zasq {C:Addr}{tE:Tok} (F:Fun K "turn" "Stream.turn" (inClass (top 18) 3) f fd) (cl:Cls K C) (nW:NoAttr K C "ways") (m_END:mg "END" = some (.str (Str.ofString "end") tE)) :
  FnOk P w K mg base CX0 (k + 1) f fd ["self", "came"] (spTurn C):=by
 have nd:=scTurn.nd
 refine F.ok scTurn (fun vs H Q E h=>by obtain ⟨y,lo,st,wy,en,cd,lows,sts,V,r,W,ends,Cs,wts,A',rfl,_⟩:=h; rfl) (fun cdv A outer s0 H vs Q E hr h=>?_)
 obtain ⟨y,lo,st,wy,en,cd,lows,sts,V,r,W,ends,Cs,wts,Ar,rfl,hs,hcd,cmt,kV',eN,Vn,lV,ori,AV,ncd,q⟩:=h
 have hu:=zadw hr
 refine ⟨_,(Pr.h (zaav (zaat (i:=2) nd rfl (av18m3.l 2 rfl) (zacv (v:=.str "end") (gl18m3.g 0 rfl) m_END ⟨_,rfl⟩ zag6)) (zaag (zady PassesOwn.never (zaaq zaq7 (zab2 hu (qv av18m3 1 rfl) (qv av18m3 2 rfl) (fun _ _=>rfl)) zacr (nomark _)) (zaav (zaat (i:=3) nd rfl (av18m3.l 3 rfl) (zab2 hu (qv av18m3 1 rfl) (qv av18m3 2 rfl) (fun _ _=>rfl))) (zaah (zabg (zanb (zab2 hu (zabt (qv av18m3 0 rfl) rfl) (qv av18m3 3 rfl) (fun _ _=>rfl)) (qv av18m3 2 rfl))) (zaah (zacw hu (zab2 hu (zabt (qv av18m3 0 rfl) rfl) (qv av18m3 2 rfl) (fun _ _=>rfl)) (qv av18m3 3 rfl) zab1 rfl) (zaag (zaat (i:=2) nd rfl (av18m3.l 2 rfl) (qv av18m3 3 rfl)))))))))),?_⟩
 (try dsimp only [cxOf])
 have f2:=zali lo st wy en
 refine zaa9 (fun σ H'=>σ=[some (.ref y),some (.ref cd),some (nkV none),none]∧H'=H) ?_ ?_
 ·walk_at "rd"
 rintro σ H1 ⟨rfl,rfl⟩
 refine ⟨(fun m σ H'=>∃ (v:Option Nat) (W':Option Nat→List (Option Nat)) (u:Option L2.V),σ=[some (.ref y),some (.ref cd),some (nkV v),u]∧Ch (V.map r) H1 H'∧StAt C H' y lo st wy en lows sts V r W' ends∧TnS Ar V W (rkT Cs) none W' v∧v∈Cs.map Prod.fst∧m=rkT Cs v),⟨_,none,W,_,rfl,Ch.refl _ _,hs,TnS.first ori,eN,rfl⟩,?_⟩
 rintro m σ H2 ⟨v,W2,u,rfl,c2,s2,tn,vk,rfl⟩
 obtain ⟨qq,mq⟩:∃ qq,(v,qq)∈Cs:=by
  obtain ⟨⟨a,b⟩,m,e⟩:=List.mem_map.mp vk
  exact ⟨b,by rw [← e]; exact m⟩
 have nin:cd ∉ V.map r:=fun z=>by
  obtain ⟨v,m,e⟩:=List.mem_map.mp z
  exact ncd v m e
 have hcd2:=c2.get hcd nin
 have vv:=zag5 cmt.nd mq
 cases qq with
 | none =>
  have vv:valV (Cs.map cm) (nk v)=some .non:=vv
  have sv:=cmt.nn v mq
  walk_at "rd"
  rw [decide_eq_true rfl]
  refine iteF ?_
  exact q H2 W2 v c2 s2 tn sv
 | some p =>
  obtain ⟨pW,pk,rk⟩:=cmt.rank mq
  have pV:=kV' p pk
  have vV:=kV' v vk
  have vv:valV (Cs.map cm) (nk v)=some (nkV p):=vv
  have hne:nkV p≠.non:=by cases p <;> (intro z; cases z)
  walk_at "rd"
  rw [decide_eq_false hne]
  refine iteT ?_
  refine ⟨_,fun σ' H' z=>z,?_⟩
  refine zaa9 (fun σ H'=>σ=[some (.ref y),some (.ref cd),some (nkV v),some (nkV p)]∧H'=H2) ?_ ?_
  ·walk_at "rd"
  rintro σ H3 ⟨rfl,rfl⟩
  obtain ⟨vW,pnW,tn3⟩:=tn.step Vn pV vV rk pW
  have w2:∀ u,(W2 u).length≤200:=by
   intro u
   refine Nat.le_trans (zab6 (tn.ori.nd u) (m:=V) fun z hz=>?_) lV
   rcases tn.ori.of _ _ hz with a | a
   ·exact (AV _ _ a).2
   ·exact (AV _ _ a).1
  have npv:p≠v:=tn.ori.ne vW
  obtain ⟨dy,hy⟩:=s2.ob
  have hwd:=s2.hwy.d
  have xp:=zahw (r:=r) pV
  have xv:=zahw (r:=r) vV
  have hp2:=s2.hwy.at_ p pV
  have hv2:=s2.hwy.at_ v vV
  have nrr:r v≠r p:=fun z=>npv (s2.hwy.inj v vV p pV z).symm
  have nrw:r p≠wy:=s2.hwy.nw p pV
  have nry:y≠r p:=zacz hy hp2 (by intro z; cases z)
  have val:valV ((W2 p).map wt) (nk v)=some (.bl true):=by
   have:=zaiw (fun _=>.bl true) v (W2 p)
   rw [if_pos vW] at this; exact this
  have lw:=w2 v
  have lw2:((W2 v).map wt).length≤200:=by rw [List.length_map]; exact lw
  have s3:=(s2.rev (l:=rev1 W2 p v p) pV).rev (l:=W2 v++[p]) vV
  have e3:(fun u=>if u=v then W2 v++[p] else (fun u=>if u=p then rev1 W2 p v p else W2 u) u)=rev1 W2 p v:=by
   funext u
   by_cases z:u=p
   ·subst z; rw [if_neg npv]; simp only [if_pos]
   ·unfold rev1; rw [if_neg z]; simp [z]
  rw [e3] at s3
  have ed:dropK ((W2 p).map wt) (nk v)=(rev1 W2 p v p).map wt:=by unfold rev1; rw [if_pos rfl]; exact zant (x:=v) (tn.ori.nd p)
  have ea:=zaqp (W2 v) p
  unfold addN at ea
  rw [if_neg pnW] at ea
  walk_at "rd"
  rw [ed,ea]
  exact ⟨Ch.putX (Ch.putX c2 (List.mem_map.mpr ⟨p,pV,rfl⟩)) (List.mem_map.mpr ⟨v,vV,rfl⟩),s3,tn3,pk,rfl⟩
theorem av18m4:AF (defScope (inClass (top 18) 4)) ["self", "number", "path", "back"]:=⟨by decide +kernel⟩
theorem gl18m4:AG (defScope (inClass (top 18) 4)) ["list", "len", "reversed"]:=⟨by decide +kernel⟩
def spPth (C:Addr):Sp:=fun vs H Q _=>∃ (y lo st wy en dy:Addr) (V:List (Option Nat)) (r:Option Nat→Addr) (W:Option Nat→List (Option Nat)) (ends:List (Key × L2.V)) (ok:Nat→Prop) (n:Nat),vs=[.ref y,.int (n:Int)]∧H y=some (.ins C dy (fldsM lo st wy en))∧H wy=some (.dK (V.map (mkN (rV r))))∧(∀ n:Nat,ok n→some (2 * n)∈V∧H (r (some (2 * n)))=some (.dK ((W (some (2 * n))).map wt))∧(W (some (2 * n))).length≤200∧∀ x∈W (some (2 * n)),∃ m:Nat,x=some (2 * m + 1)∧m < n∧ok m)∧H en=some (.dK ends)∧(valV ends (.inl (n:Int))).isSome=true∧ok n∧n≤100 ∧
 ∀ (p:Addr) (ys:List L2.V) (H':Hp),Ch [] H H'→H p=none→H' p=some (.lst ys)→ys.length≤200→Q (.ref p) H'
theorem scPth:FnScope ["self", "number", "path", "back"] ["self", "number"] (defScope (inClass (top 18) 4)):=⟨rfl,rfl,rfl,by decide +kernel,rfl,by decide +kernel,by decide +kernel⟩
theorem zauq {C:Addr} (F:Fun K "path_to" "Stream.path_to" (inClass (top 18) 4) f fd) (cl:Cls K C) (nW:NoAttr K C "ways") (nE:NoAttr K C "ends") (z_list:mg "list" = none) (z_reversed:mg "reversed" = none) (z_len:mg "len" = none) :
  FnOk P w K mg base CX0 (k + 1) f fd ["self", "number"] (spPth C):=by
 have nd:=scPth.nd
 refine F.ok scPth (fun vs H Q E h=>by obtain ⟨y,lo,st,wy,en,dy,V,r,W,ends,ok,n,rfl,_⟩:=h; rfl) (fun cdv A outer s0 H vs Q E hr h=>?_)
 obtain ⟨y,lo,st,wy,en,dy,V,r,W,ends,ok,n,rfl,hy,hwy,hok,hen,hes,okn,nl,q⟩:=h
 have hu:=zadw hr
 refine ⟨_,(Pr.h (zaav (zaat (i:=2) nd rfl (av18m4.l 2 rfl) (zabc (zaaa (zab2 hu (zabt (qv av18m4 0 rfl) rfl) (qv av18m4 1 rfl) (fun _ _=>rfl)) (zaaa (qv av18m4 1 rfl) zaab zaae) zaaw))) (zaav (zaat (i:=3) nd rfl (av18m4.l 3 rfl) (zabp (zaez rfl) (gl18m4.g 0 rfl) z_list zacc (zaaa (zab2 hu (zabt (qv av18m4 0 rfl) rfl) (zaan zack zaad (qv av18m4 1 rfl)) (fun _ _=>rfl)) zaab zaaw) zacd zace)) (zaah (zady PassesOwn.never (zaaq zafk (zaaf zaai (gl18m4.g 1 rfl) z_len PySem.boot_len (zaaa (qv av18m4 3 rfl) zaab zaae) zaa6 zaa7) zaad (nomark _)) (zaah (zabg (zacf PySem.F.plainAttrs_list PySem.F.slot_list_append PySem.F.type_list_append zabd (qv av18m4 2 rfl) (zaaa (zaan zaba (zaa2 zabi (qv av18m4 3 rfl) zaad (fun _ _=>rfl)) zaad) zaab zaaz))) (zaag (zaat (i:=3) nd rfl (av18m4.l 3 rfl) (zabp (zaez rfl) (gl18m4.g 0 rfl) z_list zacc (zaaa (zab2 hu (zabt (qv av18m4 0 rfl) rfl) (zaan zack zaad (zaa2 zabi (qv av18m4 2 rfl) (zamk zalr zaad) (fun _ _=>rfl))) (fun _ _=>rfl)) zaab zaaw) zacd zace))))) (zaag (zaas (zajx rfl (gl18m4.g 0 rfl) z_list (gl18m4.g 2 rfl) z_reversed (zaaa (qv av18m4 2 rfl) zaab zaae)))))))),?_⟩
 (try dsimp only [cxOf])
 have f1:=zali lo st wy en
 have f2:=zaul lo st wy en
 obtain ⟨ev,eve⟩:=Option.isSome_iff_exists.mp hes
 refine zaa9 (fun σ H'=>∃ pl,σ=[some (.ref y),some (.int (n:Int)),some (.ref pl),none]∧Ch [] H H'∧H pl=none∧H' pl=some (.lst [ev,.int (n:Int)])) ?_ ?_
 ·walk_at "rd"
 rintro σ H1 ⟨pl,rfl,c1,fpl,hpl1⟩
 obtain ⟨i1,i2,i3,i4⟩:=hok n okn
 have v1:=zahw (r:=r) i1
 rw [zahv] at v1
 refine zaa9 (fun σ H'=>∃ bl,σ=[some (.ref y),some (.int (n:Int)),some (.ref pl),some (.ref bl)]∧Ch [] H H'∧H' pl=some (.lst [ev,.int (n:Int)])∧H' bl=some (.lst ((W (some (2 * n))).map nkV))) ?_ ?_
 ·walk_at "rd"
  rw [zaac,List.map_map]; rfl
 rintro σ H2 ⟨bl,rfl,c2,hpl2,hbl2⟩
 clear c1 hpl1
 refine ⟨(fun m σ H'=>∃ (bl:Addr) (zs:List L2.V) (bs:List (Option Nat)),σ=[some (.ref y),some (.int (n:Int)),some (.ref pl),some (.ref bl)]∧Ch [] H H'∧H' pl=some (.lst zs)∧H' bl=some (.lst (bs.map nkV))∧zs.length + m≤150∧bs.length≤200∧m≤110∧∀ x∈bs,∃ a:Nat,x=some (2 * a + 1)∧a < m∧ok a),⟨n,bl,_,_,rfl,c2,hpl2,hbl2,by simp; omega,i3,by omega,i4⟩,?_⟩
 clear hpl2 hbl2 c2 bl v1 i1 i2 i3 i4
 rintro m σ H2 ⟨bl,zs,bs,rfl,c2,hpl2,hbl2,hz,hb,hm,hbs⟩
 cases bs with
 | nil =>
  walk_at "rd"
  rename_i D hD
  exact q D _ _ (c2.trans (Ch.new hD _)) (chFree c2 hD) zaac (by rw [List.length_reverse]; omega)
 | cons x bs =>
  obtain ⟨a,rfl,am,oka⟩:=hbs x (by simp)
  obtain ⟨i1,i2,i3,i4⟩:=hok a oka
  have v1:=zahw (r:=r) i1
  rw [zahv] at v1
  have eb:(List.map nkV (some (2 * a + 1) :: bs))=L2.V.int (2 * (a:Int) + 1) :: bs.map nkV:=rfl
  rw [eb] at hbl2
  have hd:(2 * (a:Int) + 1) / 2=a:=by omega
  have v2:valV (V.map (mkN (rV r))) (.inl (2 * ((2 * (a:Int) + 1) / 2)))=some (.ref (r (some (2 * a)))):=by rw [hd]; exact v1
  have al:atI (zs++[L2.V.int ((2 * (a:Int) + 1) / 2)]) (-1)=some (.int ((2 * (a:Int) + 1) / 2)):=by
   unfold atI ixN
   rw [if_neg (by omega),if_pos (by simp; omega)]
   have:(-1 + ((zs++[L2.V.int ((2 * (a:Int) + 1) / 2)]).length:Int)).toNat=zs.length:=by simp; omega
   rw [this]
   simp
  have zl:zs.length≤150:=by omega
  have hy2:=c2.get hy (by simp)
  have hwy2:=c2.get hwy (by simp)
  have i22:=c2.get i2 (by simp)
  have n1:y≠pl:=zaao hy fpl
  have n2:wy≠pl:=zaao hwy fpl
  have n3:r (some (2 * a))≠pl:=zaao i2 fpl
  walk_at "rd"
  refine ite2 (fun hc=>?_) (fun hc=>absurd hc (by simp))
  refine ⟨_,fun σ' H' z=>z,?_⟩
  walk_at "rd"
  refine ⟨(?_:_=some (HO.lst (List.map nkV (W (some (2 * a)))))),by simp; omega,i3,by omega,i4⟩
  rw [zaac,List.map_map]; rfl
end
end

section
structure PthL (F:Addr→Prop) (H:Hp) (ys:List V):Prop where
 h:∀ y∈ys,∃ p zs,y=.ref p∧F p∧H p=some (.lst zs)∧zs.length≤200
theorem PthL.ch {F:Addr→Prop}{H H':Hp}{ys:List V} (h:PthL F H ys) (c:Ch [] H H'):PthL F H' ys:=⟨fun y m=>let ⟨p,zs,a,f,b,d⟩:=h.h y m; ⟨p,zs,a,f,c.get b (by simp),d⟩⟩
theorem PthL.mono {F F':Addr→Prop}{H:Hp}{ys:List V} (h:PthL F H ys) (m:∀ a,F a→F' a):PthL F' H ys:=⟨fun y k=>let ⟨p,zs,a,f,b,d⟩:=h.h y k; ⟨p,zs,a,m p f,b,d⟩⟩
theorem PthL.nil {F:Addr→Prop}{H:Hp}:PthL F H []:=⟨fun y m=>nomatch m⟩
theorem PthL.snoc {F:Addr→Prop}{H:Hp}{ys zs:List V}{p:Addr} (h:PthL F H ys) (f:F p) (hp:H p=some (.lst zs)) (l:zs.length≤200):PthL F H (ys++[.ref p]):=⟨fun y m=>by
 rcases List.mem_append.mp m with m | m
 ·exact h.h y m
 ·rw [List.mem_singleton.mp m]; exact ⟨p,zs,rfl,f,hp,l⟩⟩
theorem chFreeX {X:List Addr}{H H':Hp}{p:Addr} (c:Ch X H H') (hX:∀ x∈X,∃ kvs,H' x=some (.dK kvs)) (h:H' p=none):H p=none:=by
 cases e:H p with
 | none=>rfl
 | some o =>
  by_cases z:p∈X
  ·obtain ⟨kvs,k⟩:=hX p z
   rw [k] at h; cases h
  ·have:=c.get e z
   rw [this] at h; cases h
structure CutM (g:Nat) (ab:List Nat) (fd:Nat→List Nat) (low src:Nat→Bool) (T:List Nat):Prop where
 le:T.length≤4
 lw:∀ n∈T,n∈ab∧low n=true
 sh:∀ op:Nat→Bool,(∀ n∈ab,op n=true→n ∉ T∧(src n=true∨∃ f∈fd n,op f=true))→∀ f∈fd g,op f=false
structure PthM (ab:List Nat) (fd:Nat→List Nat) (low src:Nat→Bool):Prop where
 h:∃ W,FlS (Arc ab fd low) (stV ab low) (stS low src) none (W0 ab fd low) 5 W
structure CopR (H:Hp) (g:Nat) (ab:List Nat) (fd:Nat→List Nat) (low src:Nat→Bool) (x:V):Prop where
 h:(∃ tl T,x=.ref tl∧H tl=some (.lst (T.map nV))∧CutM g ab fd low src T)∨(x=.non∧PthM ab fd low src)
theorem StAt.congr {C:Addr}{H:Hp}{y lo st wy en:Addr}{lows:List Nat}{sts V:List (Option Nat)}{r:Option Nat→Addr}{W W':Option Nat→List (Option Nat)}{ends:List (Key × L2.V)} (h:StAt C H y lo st wy en lows sts V r W ends) (e:∀ u∈V,W' u=W u):StAt C H y lo st wy en lows sts V r W' ends :=
 ⟨h.ob,h.hlo,h.hst,⟨h.hwy.d,h.hwy.inj,h.hwy.nw,fun v m=>by rw [e v m]; exact h.hwy.at_ v m⟩,h.hen,h.we,h.re⟩
theorem StAt.dk2 {C:Addr}{H:Hp}{y lo st wy en:Addr}{lows:List Nat}{sts V:List (Option Nat)}{r:Option Nat→Addr}{W:Option Nat→List (Option Nat)}{ends:List (Key × L2.V)} (h:StAt C H y lo st wy en lows sts V r W ends):∀ x∈V.map r,∃ kvs,H x=some (.dK kvs):=fun x m=>h.dk x (List.mem_cons_of_mem _ m)
theorem zaqt {ab:List Nat}{fd:Nat→List Nat}{low src:Nat→Bool}{g k:Nat}{W:Option Nat→List (Option Nat)} (F:FlS (Arc ab fd low) (stV ab low) (stS low src) none (W0 ab fd low) k W) (G:StG g ab fd low src) (hl:ab.length≤60) (u:Option Nat):(W u).length≤200:=by
 refine Nat.le_trans (zab6 (F.ori.nd u) (m:=stV ab low) fun z hz=>(F.mem G hz).2) ?_
 have:=zahx (ab.filter low)
 have e:stV ab low=stL (ab.filter low):=rfl
 rw [e,this]
 have:=List.length_filter_le low ab
 omega
def OnP (low:Nat→Bool) (W:Option Nat→List (Option Nat)) (n:Nat):Prop:=low n=true∧∃ x,some (2 * n + 1)∈W x∧x≠some (2 * n)
local macro_rules | `(tactic| walk_at "user")=>`(tactic| first
 | (apply zaqs; walk_at "get")
 | (apply zae1; (focus walk_at "get"); (focus with_reducible assumption))
 | (apply zae2; (focus walk_at "get"); (focus with_reducible assumption))
 | (apply zacy; (focus walk_at "get"); (focus with_reducible assumption))
 | (apply zadd; (focus walk_at "get"); (focus with_reducible assumption))
 | (apply zadc; (focus walk_at "get"); (focus with_reducible assumption))
 | (apply zadf; (focus walk_at "get"); (focus with_reducible assumption)))
section
variable {P:Program}{w:World}{K:PySem.W.Frag}{mg:Str→Option Value}{base:Heap}{f:Addr}{fd:FuncData}{k:Nat}
theorem zasr:Nd "MOST" := by decide +kernel
theorem gl18m5:AG (defScope (inClass (top 18) 5)) ["range", "MOST", "END"]:=⟨by decide +kernel⟩
theorem av18m5:AF (defScope (inClass (top 18) 5)) ["self", "count", "came"]:=⟨by decide +kernel⟩
def zagm:Scope:={ kind:=PySem.ScopeKind.function,names:=[ (PySem.Str.ofString ".0",PySem.NameKind.local),(PySem.Str.ofString "number",PySem.NameKind.local),(PySem.Str.ofString "came",PySem.NameKind.free)],isGenerator:=false,isCoroutine:=false,more:=[]:PySem.Scope }
theorem zai3:CompOk zagm (defScope (inClass (top 18) 5)) (["number"]:List Str) (["self", "count", "came"]:List Str) [2] (["number", "came"]:List Str):=compOk rfl (by decide +kernel) (by decide +kernel) (by decide +kernel) (by decide +kernel) rfl (by decide +kernel)
theorem zai4:AK (relab zagm (defScope (inClass (top 18) 5))) ["number"]:=⟨by decide +kernel⟩
theorem zad4:AV (relab zagm (defScope (inClass (top 18) 5))) ["number", "came"]:=⟨by decide +kernel⟩
def zagn:Scope:={ kind:=PySem.ScopeKind.function,names:=[ (PySem.Str.ofString ".0",PySem.NameKind.local),(PySem.Str.ofString "node",PySem.NameKind.local),(PySem.Str.ofString "self",PySem.NameKind.free)],isGenerator:=false,isCoroutine:=false,more:=[]:PySem.Scope }
theorem zai5:CompOk zagn (defScope (inClass (top 18) 5)) (["node"]:List Str) (["self", "count", "came"]:List Str) [0] (["node", "self"]:List Str):=compOk rfl (by decide +kernel) (by decide +kernel) (by decide +kernel) (by decide +kernel) rfl (by decide +kernel)
theorem zai6:AK (relab zagn (defScope (inClass (top 18) 5))) ["node"]:=⟨by decide +kernel⟩
theorem zai7:AV (relab zagn (defScope (inClass (top 18) 5))) ["node", "self"]:=⟨by decide +kernel⟩
def spCop (C:Addr):Sp:=fun vs H Q _=>∃ (y lo st wy en:Addr) (sts:List (Option Nat)) (r:Option Nat→Addr) (ends:List (Key × L2.V)) (g:Nat) (ab:List Nat) (fd:Nat→List Nat) (low src:Nat→Bool),vs=[.ref y]∧StG g ab fd low src∧StAt C H y lo st wy en (ab.filter low) sts (stV ab low) r (W0 ab fd low) ends∧EnOk (W0 ab fd low) ends∧(∀ u,u∈sts↔stS low src u=true)∧sts.Nodup∧ab.length≤60∧g≤100 ∧
 ∀ (p pl:Addr) (x0:L2.V) (ys:List L2.V) (H':Hp),Ch ((stV ab low).map r) H H'→H' p=some (.tup [x0,.ref pl])→H pl=none→H' pl=some (.lst ys)→PthL (fun a=>H a=none) H' ys→ys.length≤200→CopR H' g ab fd low src x0→Q (.ref p) H'
theorem scCop:FnScope ["self", "count", "came"] ["self"] (defScope (inClass (top 18) 5)):=⟨rfl,rfl,rfl,by decide +kernel,rfl,by decide +kernel,by decide +kernel⟩
theorem zaur {C:Addr}{tE tM:Tok} (F:Fun K "cut_or_paths" "Stream.cut_or_paths" (inClass (top 18) 5) f fd) (cl:Cls K C) (nL:NoAttr K C "low") (nW:NoAttr K C "ways") (m_END:mg "END" = some (.str (Str.ofString "end") tE)) (m_MOST:mg "MOST" = some (.int 4 tM)) (z_range:mg "range" = none)
  (MStream_nodes_come_to:MethOk P w K mg base CX0 k C "nodes_come_to" ["self"] (spNct C)) (MStream_turn:MethOk P w K mg base CX0 k C "turn" ["self", "came"] (spTurn C)) (MStream_path_to:MethOk P w K mg base CX0 k C "path_to" ["self", "number"] (spPth C)) :
  FnOk P w K mg base CX0 (k + 1) f fd ["self"] (spCop C):=by
 have nd:=scCop.nd
 refine F.ok scCop (fun vs H Q E h=>by obtain ⟨y,lo,st,wy,en,sts,r,ends,g,ab,fd',low,src,rfl,_⟩:=h; rfl) (fun cdv A outer s0 H vs Q E hr h=>?_)
 obtain ⟨y,lo,st,wy,en,sts,r,ends,g,ab,fdg,low,src,rfl,G,hs,eo,hst,snd,abl,gl,q⟩:=h
 have hu:=zadw hr
 refine ⟨_,(Pr.h (zaah (zabf PassesOwn.never rfl (zabx (gl18m5.g 0 rfl) z_range (zaaa (zaan zabv (zacv (v:=.int 4) (gl18m5.g 1 rfl) m_MOST ⟨_,rfl⟩ zasr) zaad) zaab zaaz)) (zaar (i:=1) nd rfl (av18m5.l 1 rfl)) (zaav (zaat (i:=2) nd rfl (av18m5.l 2 rfl) (zaew (qv av18m5 0 rfl) MStream_nodes_come_to hr pass0)) (zaah (zaa4 (zach hu (zacv (v:=.str "end") (gl18m5.g 2 rfl) m_END ⟨_,rfl⟩ zag6) (qv av18m5 2 rfl)) (zaag (zaas (zabh (zaaa (zabl rfl zai3 (zabq (zabt (qv av18m5 0 rfl) rfl)) (fun _ _ _ _ _=>(zaar (i:=0) zai3.nd rfl (Or.inl (zai4.k 0 rfl)) (Or.inr (zai4.k 0 rfl)))) (fun _ _ _ _ _=>(zaeh (zacg (zad7 (zamx hu (zaan zack zaad (qw zad4 0 rfl)) (qw zad4 1 rfl)) (zadj (zach hu (zaan zabv (zaan zack zaad (qw zad4 0 rfl)) zaad) (qw zad4 1 rfl))))))) (fun _ _ _ _ _=>(qw zad4 0 rfl))) (zaaa (zabc zaab) zaab zahc) zabe)))) zaau) (zaag (zabg (zaf2 (qv av18m5 0 rfl) MStream_turn hr pass0 (zaaa (qv av18m5 2 rfl) zaab zaae))))))) (zaag (zaas (zabh (zaaa zacr (zaaa (zapg (zabl rfl zai5 (zakq (zab2 hu (zabt (qv av18m5 0 rfl) rfl) (zacv (v:=.str "end") (gl18m5.g 2 rfl) m_END ⟨_,rfl⟩ zag6) (fun _ _=>rfl))) (fun _ _ _ _ _=>(zaar (i:=0) zai5.nd rfl (Or.inl (zai6.k 0 rfl)) (Or.inr (zai6.k 0 rfl)))) (fun _ _ _ _ _=>zab0) (fun _ _ _ _ _=>(zaf2 (qw zai7 1 rfl) MStream_path_to hr pass0 (zaaa (zaan zaba (qw zai7 0 rfl) zaad) zaab zaaz))))) zaab zabe) zaaj)))))),?_⟩
 (try dsimp only [cxOf])
 have f1:=zauk lo st wy en
 have f2:=zali lo st wy en
 have fn:=fmn lo st wy en
 have g1:=fn.n
 have g2:=fn.t
 have g3:=fn.p
 have ar:=zanv G
 have Vn:(stV ab low).Nodup:=zam8 G.nd
 have lV:(stV ab low).length≤200:=by
  have e:stV ab low=stL (ab.filter low):=rfl
  rw [e,zahx]
  have:=List.length_filter_le low ab
  omega
 have sV:∀ u∈sts,u∈stV ab low:=by
  intro u hm
  have:=(hst u).mp hm
  clear hm
  cases u with
  | none=>cases this
  | some m =>
   unfold stS at this
   simp only [Bool.and_eq_true,beq_iff_eq] at this
   have e:m=2 * (m / 2):=by omega
   rw [e]; exact (zacp G).mpr this.1.2
 have F0:FlS (Arc ab fdg low) (stV ab low) (stS low src) none (W0 ab fdg low) 0 (W0 ab fdg low):=FlS.first (Arc.ori G (fun u=>zapu u) ar)
 walk_at "rd"
 refine zabw (fun i σ H'=>∃ (W:Option Nat→List (Option Nat)) (u v:Option L2.V),σ=[some (.ref y),u,v]∧Ch ((stV ab low).map r) H H'∧StAt C H' y lo st wy en (ab.filter low) sts (stV ab low) r W ends∧FlS (Arc ab fdg low) (stV ab low) (stS low src) none (W0 ab fdg low) i W) ⟨_,_,_,rfl,Ch.refl _ _,hs,F0⟩ ?_ ?_
 ·rintro i σ H1 hi ⟨W,u,v,rfl,c1,s1,Fl⟩
  have wV:∀ u∈stV ab low,∀ v∈W u,v∈stV ab low:=fun u _ v m=>(Fl.mem G m).2
  obtain ⟨dy,hy⟩:=s1.ob
  walk_at "rd"
  refine zaa9 (fun σ H'=>∃ (cd:Addr) (Cs:List (Option Nat × Option (Option Nat))) (wts:List (Option Nat)),σ=[some (.ref y),some (.int (0 + (i:Int))),some (.ref cd)]∧Ch [] H1 H'∧H1 cd=none∧H' cd=some (.dK (Cs.map cm))∧CmT W sts Cs wts∧(∀ x∈Cs.map Prod.fst,x∈stV ab low)∧(none ∉ Cs.map Prod.fst→wts=[]∧ClT W Cs [])) ?_ ?_
  ·walk_at "rd"
   rename_i h1 h2
   exact h1 h2
  rintro σ H2 ⟨cd,Cs,wts,rfl,c2,fcd,hcd,cmt,kV',cls⟩
  have s2:=s1.ch c2
  obtain ⟨dy2,hy2⟩:=s2.ob
  have frH:∀ a,H1 a=none→H a=none:=fun a e=>chFreeX c1 s1.dk2 e
  clear hy
  by_cases eN:none∈Cs.map Prod.fst
  ·obtain ⟨q0,mq⟩:∃ qq,((none:Option Nat),qq)∈Cs:=by
    obtain ⟨⟨a,b⟩,m,e⟩:=List.mem_map.mp eN
    exact ⟨b,by rw [← e]; exact m⟩
   have vN:valV (Cs.map cm) (.inr (Str.ofString "end"))=some (qV q0):=zag5 cmt.nd mq
   have ncd:∀ v∈stV ab low,r v≠cd:=fun v m=>zaao (s1.hwy.at_ v m) fcd
   walk_at "rd"
   exact ⟨Fl.ori,fun u v a=>a.mem G,ncd,fun H3 W3 s c3 s3 tn sm=>⟨W3,_,_,rfl,c1.trans ((Ch.monoX c2 (by simp)).trans c3),s3,Fl.turn tn ((hst s).mp sm)⟩⟩
  ·have vN:valV (Cs.map cm) (.inr (Str.ofString "end"))=none:=zagh eN
   have hlo2:=s2.hlo
   obtain ⟨rfl,clt⟩:=cls eN
   obtain ⟨a1,a2,a3⟩:=cmt.all clt
   obtain ⟨S,eS⟩:∃ S:Option Nat→Bool,S=fun x=>decide (x∈Cs.map Prod.fst):=⟨_,rfl⟩
   have Sm:∀ x,S x=true↔x∈Cs.map Prod.fst:=fun x=>by rw [eS]; exact decide_eq_true_iff
   have cutM:CutM g ab fdg low src ((ab.filter low).filter fun n=>S (some (2 * n)) && !S (some (2 * n + 1))):=by
    have e5:((ab.filter low).filter fun n=>S (some (2 * n)) && !S (some (2 * n + 1)))=ab.filter fun n=>low n && S (some (2 * n)) && !S (some (2 * n + 1)):=by
     rw [List.filter_filter]
     congr 1
     funext n
     cases low n <;> simp
    have key:∀ op:Nat→Bool,(∀ n∈ab,op n=true→n ∉ (ab.filter fun n=>low n && S (some (2 * n)) && !S (some (2 * n + 1)))∧(src n=true∨∃ f∈fdg n,op f=true))→((ab.filter fun n=>low n && S (some (2 * n)) && !S (some (2 * n + 1))).length≤i)∧∀ f∈fdg g,op f=false:=by
     intro op ho
     refine zana Fl G (fun u=>zapu u) ar (fun u hu=>(Sm u).mpr (a1 u ((hst u).mpr hu))) ?_ (fun u hu v hv=>(Sm v).mpr (a2 u ((Sm u).mp hu) v hv)) (fun v hv=>?_) (fun n hn on=>?_)
     ·cases e:S none
      ·rfl
      ·exact absurd ((Sm none).mp e) eN
     ·rcases a3 v ((Sm v).mp hv) with z | ⟨p,hp,z⟩
      ·exact .inl ((hst v).mp z)
      ·exact .inr ⟨p,(Sm p).mpr hp,z⟩
     ·obtain ⟨o1,o2⟩:=ho n hn on
      refine ⟨fun z=>o1 (List.mem_filter.mpr ⟨hn,?_⟩),o2⟩
      rw [z.1,z.2.1,z.2.2]; rfl
    have hi4:i≤4:=by have:i < (4 + 1:Int).toNat:=hi; have:(4 + 1:Int).toNat=5:=rfl; omega
    rw [e5]
    refine ⟨Nat.le_trans (key (fun _=>false) (fun n _ h=>by cases h)).1 hi4,fun n hn=>?_,fun op ho=>(key op ho).2⟩
    obtain ⟨m1,m2⟩:=List.mem_filter.mp hn
    simp only [Bool.and_eq_true] at m2
    exact ⟨m1,m2.1.1⟩
   have lowl:(ab.filter low).length≤60:=Nat.le_trans (List.length_filter_le _ _) abl
   generalize ab.filter low=lows at hlo2 cutM lowl
   walk_at "rd"
   refine zacm (lows.map nV) (fun j ys σ H3=>ys=((lows.take j).filter fun n=>S (some (2 * n)) && !S (some (2 * n + 1))).map nV∧H3=H2∧∃ u,σ=[u,some (.ref cd)]) (by rw [sizeLine_eq,List.length_map]; omega) ⟨rfl,rfl,_,rfl⟩ ?_ ?_ ?_
   ·rintro j ys σ H3 hj ⟨rfl,rfl,_⟩
    refine ⟨?_,SqL.of hlo2⟩
    rw [List.length_map]
    refine Nat.le_trans (List.length_filter_le _ _) ?_
    rw [List.length_take]; omega
   ·rintro j ys σ H3 x hx ⟨rfl,rfl,u3,rfl⟩
    rw [List.getElem?_map] at hx
    cases e:lows[j]? with
    | none=>rw [e] at hx; cases hx
    | some n =>
     rw [e] at hx
     cases hx
     rw [zads e]
     have k1:=zaui cmt.nd (some (2 * n))
     have k2:=zaui cmt.nd (some (2 * n + 1))
     have z1:S (some (2 * n))=decide (some (2 * n)∈Cs.map Prod.fst):=by rw [eS]
     have z2:S (some (2 * n + 1))=decide (some (2 * n + 1)∈Cs.map Prod.fst):=by rw [eS]
     rw [← z1,zahv] at k1
     rw [← z2,zasn] at k2
     cases o1:valV (Cs.map cm) (.inl (2 * (n:Int))) with
     | none =>
      rw [o1] at k1
      have k1:S (some (2 * n))=false:=k1.symm
      rw [k1]
      unfold nV
      walk_at "rd"
      exact ⟨by simp,rfl,_,rfl⟩
     | some w1 =>
      rw [o1] at k1
      have k1:S (some (2 * n))=true:=k1.symm
      cases o2:valV (Cs.map cm) (.inl (2 * (n:Int) + 1)) with
      | none =>
       rw [o2] at k2
       have k2:S (some (2 * n + 1))=false:=k2.symm
       rw [k1,k2]
       unfold nV
       walk_at "rd"
       exact ⟨by simp,rfl,_,rfl⟩
      | some w2 =>
       rw [o2] at k2
       have k2:S (some (2 * n + 1))=true:=k2.symm
       rw [k1,k2]
       unfold nV
       walk_at "rd"
       exact ⟨by simp,rfl,_,rfl⟩
   ·rintro ys σ H3 ⟨rfl,rfl,u3,rfl⟩
    rw [List.length_map,List.take_length]
    walk_at "rd"
    rename_i D hD p2 hp2 p3 hp3
    refine q p3 p2 _ [] _ (c1.trans (Ch.monoX (((c2.trans (Ch.new hD _)).trans (Ch.new hp2 _)).trans (Ch.new hp3 _)) (by simp))) zaac (frH _ (chFree c2 (freeN hD hp2))) (zab5 hp3 zaac) PthL.nil (by simp) ⟨.inl ⟨D,_,rfl,zab5 hp3 (zab5 hp2 zaac),cutM⟩⟩
 ·rintro σ H1 ⟨W,u,v,rfl,c1,s1,Fl⟩
  obtain ⟨dy,hy⟩:=s1.ob
  have hwd:=s1.hwy.d
  have nV0:(none:Option Nat)∈stV ab low:=zac9.mpr (.inl rfl)
  have vN:valV ((stV ab low).map (mkN (rV r))) (.inr (Str.ofString "end"))=some (.ref (r none)):=zahw (r:=r) nV0
  have hn:=s1.hwy.at_ none nV0
  have hnH:=hs.hwy.at_ none nV0
  have Fl:FlS (Arc ab fdg low) (stV ab low) (stS low src) none (W0 ab fdg low) 5 W:=Fl
  have lw:=zaqt Fl G abl none
  have frH:∀ a,H1 a=none→H a=none:=fun a e=>chFreeX c1 s1.dk2 e
  walk_at "rd"
  rename_i ob
  have frF:∀ a,upd H1 (r none) (.frz ob (.dK ((W none).map wt))) a=none→H a=none:=fun a e=>frH a (by
   by_cases z:a=r none
   ·rw [z,zaac] at e; cases e
   ·rw [zaa0 z] at e; exact e)
  have cF:Ch [r none] H1 (upd H1 (r none) (.frz ob (.dK ((W none).map wt)))):=Ch.put
  have hF:upd H1 (r none) (.frz ob (.dK ((W none).map wt))) (r none)=some (.frz ob (.dK ((W none).map wt))):=zaac
  have thw:∀ H',Ch [] (upd H1 (r none) (.frz ob (.dK ((W none).map wt)))) H'→Ch [] H1 (upd H' (r none) (.dK ((W none).map wt))):=fun H' c=>Ch.thawX c hn
  generalize upd H1 (r none) (.frz ob (.dK ((W none).map wt)))=HF at cF hF thw frF ⊢
  have nyr:y≠r none:=zacz hy hn (by intro z; cases z)
  have nwr:wy≠r none:=(s1.hwy.nw none nV0).symm
  have ner:en≠r none:=(s1.re none nV0).symm
  have hyF:=cF.get hy (by simpa using nyr)
  have hwF:=cF.get hwd (by simpa using nwr)
  have heF:=cF.get s1.hen (by simpa using ner)
  have evF:∀ n,low n=true→HF (r (some (2 * n)))=some (.dK ((W (some (2 * n))).map wt)):=fun n l=>by
   have m:=(zacp G).mpr l
   refine cF.get (s1.hwy.at_ _ m) ?_
   rw [List.mem_singleton]
   intro z
   have:=s1.hwy.inj _ m _ nV0 z
   cases this
  have okP:∀ n,OnP low W n→some (2 * n)∈stV ab low∧HF (r (some (2 * n)))=some (.dK ((W (some (2 * n))).map wt))∧(W (some (2 * n))).length≤200∧∀ x∈W (some (2 * n)),∃ m:Nat,x=some (2 * m + 1)∧m < n∧OnP low W m:=by
   rintro n ⟨l,x,hx,nx⟩
   refine ⟨(zacp G).mpr l,evF n l,zaqt Fl G abl _,fun z hz=>?_⟩
   obtain ⟨m,rfl,mn,lm⟩:=zasm Fl G hx nx hz
   exact ⟨m,rfl,mn,lm,_,hz,fun e=>by injection e with e; omega⟩
  refine zam1 ((W none).map wt) (fun i ys σ H'=>Ch [] HF H'∧PthL (fun a=>H a=none) H' ys∧ys.length≤i∧∃ u,σ=[u,some (.ref y)]) (by rw [sizeLine_eq,List.length_map]; omega) ⟨Ch.refl _ _,PthL.nil,Nat.le_refl _,_,rfl⟩ ?_ ?_ ?_
  ·rintro i ys σ H' hi ⟨c5,p5,l5,_⟩
   exact ⟨l5,c5.get hF (by simp)⟩
  ·rintro i ys σ H' kv hx ⟨c5,p5,l5,u5,rfl⟩
   rw [List.getElem?_map] at hx
   cases e:(W none)[i]? with
   | none=>rw [e] at hx; cases hx
   | some x =>
    rw [e] at hx
    cases hx
    have xW:x∈W none:=List.mem_of_getElem? e
    obtain ⟨m,rfl,lm,am⟩:∃ m,x=some (2 * m + 1)∧low m=true∧Arc ab fdg low (some (2 * m + 1)) none:=by
     rcases Fl.ori.of _ _ xW with o | o
     ·generalize eu:(none:Option Nat)=u at o
      cases o <;> cases eu
     ·have o2:=o
      generalize eu:(none:Option Nat)=u at o
      cases o with
      | thr n l=>cases eu
      | fed a b c d e=>cases eu
      | fin a b c d e f=>exact ⟨a,rfl,c,o2⟩
    have es:=eo m ((ar _ _).mpr am)
    have hd:(2 * (m:Int) + 1) / 2=m:=by omega
    have onm:OnP low W m:=⟨lm,none,xW,by simp⟩
    have mg':m≤100:=by have:=G.le m (G.lo m lm).1; omega
    have okP5:∀ n,OnP low W n→some (2 * n)∈stV ab low∧H' (r (some (2 * n)))=some (.dK ((W (some (2 * n))).map wt))∧(W (some (2 * n))).length≤200∧∀ x∈W (some (2 * n)),∃ m:Nat,x=some (2 * m + 1)∧m < n∧OnP low W m:=fun n o=>let ⟨a,b,c,d⟩:=okP n o; ⟨a,c5.get b (by simp),c,d⟩
    rw [show kV (wt (some (2 * m + 1))).1=L2.V.int (2 * (m:Int) + 1) from rfl]
    have hy5:=c5.get hyF (by simp)
    have hw5:=c5.get hwF (by simp)
    have he5:=c5.get heF (by simp)
    clear hy hwd hn hF
    have hd2:(2 * m + 1) / 2=m:=by omega
    walk_at "rd"
    rw [hd2]
    refine ⟨es,onm,mg',fun p zs H6 c6 n6 h6 l6=>⟨c5.trans c6,(p5.ch c6).snoc (frF p (chFree c5 n6)) h6 l6,by simp; omega,_,rfl⟩⟩
  ·rintro ys σ H' ⟨c5,p5,l5,u5,rfl⟩
   intro D hD
   have cD:=Ch.new (W:=[]) hD (HO.lst ys)
   rw [List.length_map] at l5
   have hnD:=(c5.trans cD).get hF (by simp)
   have hDD:upd H' D (.lst ys) D=some (.lst ys):=zaac
   have pD:=p5.ch cD
   have cT:=thw _ (c5.trans cD)
   have nDr:D≠r none:=(zaao (c5.get hF (by simp)) hD).symm
   generalize upd H' D (.lst ys)=H7 at hnD hDD pD cT ⊢
   refine ⟨r none,ob,_,hnD,(show ∀ b u,H (r none)≠some (.frz b u) from fun b u z=>by rw [hnH] at z; cases z),?_⟩
   have hD8:upd H7 (r none) (.dK ((W none).map wt)) D=some (.lst ys):=zabs nDr hDD
   have p8:PthL (fun a=>H a=none) (upd H7 (r none) (.dK ((W none).map wt))) ys:=⟨fun y m=>by
    obtain ⟨p,zs,e1,e0,e2,e3⟩:=pD.h y m
    exact ⟨p,zs,e1,e0,zabs (zacz e2 hnD (by intro z; cases z)) e2,e3⟩⟩
   generalize upd H7 (r none) (.dK ((W none).map wt))=H8 at cT hD8 p8 ⊢
   walk_at "rd"
   rename_i p hp
   exact q p D .non ys _ (c1.trans (Ch.monoX (cT.trans (Ch.new hp _)) (by simp))) zaac (frF D (chFree c5 hD)) (zab5 hp hD8) (p8.ch (Ch.new hp _)) (by omega) ⟨.inr ⟨rfl,⟨W,Fl⟩⟩⟩
end
end

section
theorem zakz {gs:List Gt} (ok:Oks gs) (S:List Nat):∃ bs,Op gs S gs.length bs:=by
 have:∀ i,i≤gs.length→∃ bs,Op gs S i bs:=by
  intro i
  induction i with
  | zero=>intro _; exact ⟨[],rfl,fun j g h=>absurd h (by omega)⟩
  | succ i ih =>
   intro h
   obtain ⟨bs,o⟩:=ih (by omega)
   exact ⟨_,o.push ok (List.getElem?_eq_getElem (by omega)) rfl⟩
 exact this _ (Nat.le_refl _)
theorem zafa {gs:List Gt}{n:Nat}{b:Gt} (e:gs[n]?=some b):fdn gs n=fwn b:=by unfold fdn; rw [e]
theorem zass {gs:List Gt}{n:Nat}{b:Gt} (e:gs[n]?=some b):sH gs n=b.src:=by unfold sH; rw [e]
theorem zaen {gs:List Gt}{S:List Nat}{bs:List Bool} (o:Op gs S gs.length bs) {n:Nat} (h:n < gs.length):bs.getD n false=true↔n ∉ S∧(sH gs n=true∨∃ f∈fdn gs n,bs.getD f false=true):=by
 obtain ⟨b,e⟩:∃ b,gs[n]?=some b:=⟨_,List.getElem?_eq_getElem h⟩
 rw [zapr o e,zass e,zafa e]
 unfold fwn
 by_cases m:n∈S
 ·simp [m]
 ·rw [if_neg m]
  cases s:b.src
  ·simp [m]
  ·simp [m]
theorem zacq {gs:List Gt} (ok:Oks gs) {n f:Nat} (h:f∈fdn gs n):f < n∧n < gs.length:=by
 unfold fdn at h
 split at h
 ·rename_i b e
  refine ⟨?_,(List.getElem?_eq_some_iff.mp e).1⟩
  unfold fwn at h
  split at h
  ·cases h
  ·rename_i s
   exact zael (ok n b e) (by simpa using s) f h
 ·cases h
theorem zany (gs:List Gt) (n:Nat):(fdn gs n).length≤3:=by
 unfold fdn
 split
 ·exact zaj0 _
 ·simp
theorem zanz {gs:List Gt}{n:Nat} (h:sH gs n=true):fdn gs n=[]:=by
 unfold sH at h
 split at h
 ·rename_i b e
  rw [zafa e]; unfold fwn; rw [if_pos h]
 ·cases h
theorem zai8 {gs:List Gt}{g m n:Nat} (d:Dn gs [] g m) (h:n∈fdn gs m):Dn gs [] g n:=by
 unfold fdn at h
 split at h
 ·rename_i b e
  exact .fed d e h (by simp)
 ·cases h
theorem zaj6 {gs:List Gt} (ok:Oks gs) {g n:Nat} (d:Dn gs [] g n):n≤g:=by
 induction d with
 | top _=>exact Nat.le_refl _
 | fed _ e m _ ih=>have:=(zacq ok (by rw [zafa e]; exact m)).1; omega
theorem zast {gs:List Gt} (ok:Oks gs) {g n:Nat} (hg:g < gs.length) (d:Dn gs [] g n):n < gs.length:=by have:=zaj6 ok d; omega
theorem zavm {gs:List Gt}{g n:Nat} (d:Dn gs [] g n) (ne:n≠g):∃ m,Dn gs [] g m∧n∈fdn gs m:=by
 cases d with
 | top _=>exact absurd rfl ne
 | fed d e k z=>exact ⟨_,d,by rw [zafa e]; exact k⟩
structure Sht (gs:List Gt) (S:List Nat) (g:Nat):Prop where
 h:∀ bs,Op gs S gs.length bs→∀ a∈fdn gs g,bs.getD a false=false
structure HasS (gs:List Gt) (ls:List Nat) (g m:Nat):Prop where
 h:∃ S:List Nat,S.length≤4∧(∀ n∈S,Dn gs [] g n∧n≠g∧ls.getD n 0≤m)∧Sht gs S g
structure LeastM (gs:List Gt) (ls:List Nat) (g m:Nat):Prop where
 le:m≤gs.length
 has:m < gs.length→HasS gs ls g m
 no:∀ m' < m,¬ HasS gs ls g m'
structure Lay (gs:List Gt) (i:Nat) (ls:List Nat):Prop where
 len:ls.length=i
 src:∀ j < i,sH gs j=true→ls.getD j 0=0
 ns:∀ j < i,sH gs j=false→∃ m,ls.getD j 0=1 + m∧LeastM gs ls j m
theorem HasS.congr {gs:List Gt} (ok:Oks gs) {ls ls':List Nat}{g m:Nat} (h:HasS gs ls g m) (e:∀ n < g,ls'.getD n 0=ls.getD n 0):HasS gs ls' g m:=by
 obtain ⟨S,h1,h2,h3⟩:=h.h
 refine ⟨S,h1,fun n hn=>?_,h3⟩
 obtain ⟨a,b,c⟩:=h2 n hn
 have:=zaj6 ok a
 exact ⟨a,b,by rw [e n (by omega)]; exact c⟩
theorem LeastM.congr {gs:List Gt} (ok:Oks gs) {ls ls':List Nat}{g m:Nat} (h:LeastM gs ls g m) (e:∀ n < g,ls'.getD n 0=ls.getD n 0):LeastM gs ls' g m :=
 ⟨h.le,fun l=>(h.has l).congr ok e,fun m' l k=>h.no m' l (k.congr ok fun n hn=>(e n hn).symm)⟩
theorem LeastM.one {gs:List Gt}{ls:List Nat}{g m m':Nat} (h:LeastM gs ls g m) (h':LeastM gs ls g m'):m=m':=by
 rcases Nat.lt_trichotomy m m' with z | z | z
 ·exact absurd (h.has (by have:=h'.le; omega)) (h'.no m z)
 ·exact z
 ·exact absurd (h'.has (by have:=h.le; omega)) (h.no m' z)
theorem Lay.one {gs:List Gt} (ok:Oks gs) {i:Nat}{ls ls':List Nat} (h:Lay gs i ls) (h':Lay gs i ls'):ls=ls':=by
 have key:∀ j,j < i→ls.getD j 0=ls'.getD j 0:=by
  intro j
  induction j using Nat.strongRecOn with
  | ind j ih =>
   intro hj
   cases s:sH gs j
   ·obtain ⟨m,e,l⟩:=h.ns j hj s
    obtain ⟨m',e',l'⟩:=h'.ns j hj s
    have:=l.one (l'.congr ok fun n hn=>ih n hn (by omega))
    omega
   ·rw [h.src j hj s,h'.src j hj s]
 refine List.ext_getElem (by rw [h.len,h'.len]) fun j h1 h2=>?_
 have:=key j (by rw [← h.len]; exact h1)
 rw [List.getD_eq_getElem?_getD,List.getD_eq_getElem?_getD,List.getElem?_eq_getElem h1,List.getElem?_eq_getElem h2] at this
 exact this
theorem zaeo {ls:List Nat}{v n:Nat} (h:n < ls.length):(ls++[v]).getD n 0=ls.getD n 0:=by
 rw [List.getD_eq_getElem?_getD,List.getD_eq_getElem?_getD,List.getElem?_append_left h]
theorem zago {ls:List Nat}{v:Nat}:(ls++[v]).getD ls.length 0=v:=by
 rw [List.getD_eq_getElem?_getD]; simp
theorem Lay.push {gs:List Gt} (ok:Oks gs) {i v:Nat}{ls:List Nat} (h:Lay gs i ls) (hs:sH gs i=true→v=0) (hn:sH gs i=false→∃ m,v=1 + m∧LeastM gs ls i m):Lay gs (i + 1) (ls++[v]) where
 len:=by rw [List.length_append,h.len]; rfl
 src j hj s:=by
  by_cases e:j=i
  ·subst e
   have:=zago (ls:=ls) (v:=v)
   rw [h.len] at this
   rw [this]; exact hs s
  ·rw [zaeo (by rw [h.len]; omega)]; exact h.src j (by omega) s
 ns j hj s:=by
  have eq:∀ n < j,(ls++[v]).getD n 0=ls.getD n 0:=fun n hn=>zaeo (by rw [h.len]; omega)
  by_cases e:j=i
  ·subst e
   have:=zago (ls:=ls) (v:=v)
   rw [h.len] at this
   rw [this]
   obtain ⟨m,e,l⟩:=hn s
   exact ⟨m,e,l.congr ok eq⟩
  ·rw [zaeo (by rw [h.len]; omega)]
   obtain ⟨m,e,l⟩:=h.ns j (by omega) s
   exact ⟨m,e,l.congr ok eq⟩
theorem zan0 {gs:List Gt} (ok:Oks gs) {ls:List Nat}{g m f:Nat} (hg:g < gs.length) (h:HasS gs ls g m) (hf:f∈fdn gs g):ls.getD f 0≤m∨(sH gs f=false∧HasS gs ls f m):=by
 classical
 obtain ⟨S,h1,h2,h3⟩:=h.h
 have fl:=zacq ok hf
 by_cases e:f∈S
 ·exact .inl (h2 f e).2.2
 ·obtain ⟨bs,o⟩:=zakz ok S
  have c0:=h3.h bs o f hf
  have nf:¬ (sH gs f=true∨∃ a∈fdn gs f,bs.getD a false=true):=fun z=>by
   have:=(zaen o (by omega)).mpr ⟨e,z⟩
   rw [c0] at this; cases this
  have sf:sH gs f=false:=by
   cases z:sH gs f
   ·rfl
   ·exact absurd (.inl z) nf
  refine .inr ⟨sf,S.filter fun n=>decide (Dn gs [] f n∧n≠f),Nat.le_trans (List.length_filter_le _ _) h1,fun n hn=>?_,⟨fun bs' o' a ha=>?_⟩⟩
  ·obtain ⟨m1,m2⟩:=List.mem_filter.mp hn
   have m2:=of_decide_eq_true m2
   exact ⟨m2.1,m2.2,(h2 n m1).2.2⟩
  ·have key:∀ n,Dn gs [] f n→n≠f→(bs'.getD n false=true→bs.getD n false=true):=by
    intro n
    induction n using Nat.strongRecOn with
    | ind n ih =>
     intro d ne k
     have nl:=zaj6 ok d
     obtain ⟨k1,k2⟩:=(zaen o' (by omega)).mp k
     refine (zaen o (by omega)).mpr ⟨fun z=>k1 (List.mem_filter.mpr ⟨z,decide_eq_true ⟨d,ne⟩⟩),?_⟩
     rcases k2 with z | ⟨b,hb,z⟩
     ·exact .inl z
     ·have:=zacq ok hb
      exact .inr ⟨b,hb,ih b this.1 (zai8 d hb) (by omega) z⟩
   cases z:bs'.getD a false
   ·rfl
   ·have:=zacq ok ha
    exact absurd (.inr ⟨a,ha,key a (zai8 (.top (by simp)) ha) (by omega) z⟩) nf
theorem zaj7 {gs:List Gt} (ok:Oks gs) {i:Nat}{ls:List Nat} (L:Lay gs i ls) {g m f:Nat} (hg:g < gs.length) (hi:g≤i) (h:HasS gs ls g m) (hf:f∈fdn gs g):ls.getD f 0≤m + 1:=by
 have fl:=zacq ok hf
 rcases zan0 ok hg h hf with z | ⟨s,z⟩
 ·omega
 ·obtain ⟨m',e,l⟩:=L.ns f (by omega) s
  have:¬ m < m':=fun k=>l.no m k z
  omega
theorem zag7 {gs:List Gt} (ok:Oks gs) {ls:List Nat}{g m:Nat} (h:∀ f∈fdn gs g,ls.getD f 0≤m):HasS gs ls g m:=by
 refine ⟨fdn gs g,Nat.le_trans (zany gs g) (by omega),fun n hn=>?_,⟨fun bs o a ha=>?_⟩⟩
 ·have:=zacq ok hn
  exact ⟨zai8 (.top (by simp)) hn,by omega,h n hn⟩
 ·have:=zacq ok ha
  cases z:bs.getD a false
  ·rfl
  ·exact absurd ha ((zaen o (by omega)).mp z).1
theorem Lay.bd {gs:List Gt} (ok:Oks gs) {i:Nat}{ls:List Nat} (L:Lay gs i ls) (hi:i≤gs.length):∀ j < i,ls.getD j 0≤j + 1:=by
 intro j
 induction j using Nat.strongRecOn with
 | ind j ih =>
  intro hj
  cases s:sH gs j
  ·obtain ⟨m,e,l⟩:=L.ns j hj s
   have k:=zag7 ok (ls:=ls) (g:=j) (m:=j) fun f hf=>by
    have:=zacq ok hf
    have:=ih f this.1 (by omega)
    omega
   have:¬ j < m:=fun z=>l.no j z k
   omega
  ·rw [L.src j hj s]; omega
theorem Lay.mono {gs:List Gt} (ok:Oks gs) {i:Nat}{ls:List Nat} (L:Lay gs i ls) (hi:i≤gs.length) {n f:Nat} (hn:n < i) (hf:f∈fdn gs n):ls.getD f 0≤ls.getD n 0:=by
 have fl:=zacq ok hf
 cases s:sH gs n
 ·obtain ⟨m,e,l⟩:=L.ns n hn s
  by_cases z:m < gs.length
  ·have:=zaj7 ok L fl.2 (by omega) (l.has z) hf
   omega
  ·have:=L.bd ok hi f (by omega)
   have:=l.le
   omega
 ·rw [zanz s] at hf; cases hf
def lowA (ab ls:List Nat) (g:Nat) (bd:Int) (n:Nat):Bool:=decide (n∈ab) && lowB ls g bd n
theorem zadt (ab ls:List Nat) (g:Nat) (bd:Int):ab.filter (lowB ls g bd)=ab.filter (lowA ab ls g bd):=by
 refine List.filter_congr fun n hn=>?_
 unfold lowA; rw [decide_eq_true hn]; simp
theorem zacx {ab ls:List Nat}{g n:Nat}{bd:Int}:lowA ab ls g bd n=true↔n∈ab∧n≠g∧(ls.getD n 0:Int) < bd:=by
 unfold lowA lowB
 simp only [Bool.and_eq_true,decide_eq_true_eq]
theorem zaqu {gs:List Gt} (ok:Oks gs) {ls ab:List Nat}{g:Nat}{bd:Int} (L:Lay gs g ls) (hg:g < gs.length) (sg:sH gs g=false) (nd:ab.Nodup) (abm:∀ n,n∈ab↔Dn gs [] g n) (b1:1≤bd):StG g ab (fdn gs) (lowA ab ls g bd) (sH gs) where
 nd:=nd
 gm:=(abm g).mpr (.top (by simp))
 lo n h:=⟨(zacx.mp h).1,(zacx.mp h).2.1⟩
 lt n hn f hf:=⟨(zacq ok hf).1,(abm f).mpr (zai8 ((abm n).mp hn) hf)⟩
 up n hn ne:=let ⟨m,d,k⟩:=zavm ((abm n).mp hn) ne; ⟨m,(abm m).mpr d,k⟩
 le n hn:=zaj6 ok ((abm n).mp hn)
 sr n hn s:=by
  have ne:n≠g:=fun z=>by rw [z,sg] at s; cases s
  have:=zaj6 ok ((abm n).mp hn)
  refine ⟨zacx.mpr ⟨hn,ne,?_⟩,zanz s⟩
  rw [L.src n (by omega) s]; simp; omega
 mo n hn h f hf:=by
  obtain ⟨h1,h2,h3⟩:=zacx.mp h
  have:=zaj6 ok ((abm n).mp hn)
  have fl:=zacq ok hf
  have:=L.mono ok (by omega) (n:=n) (by omega) hf
  exact zacx.mpr ⟨(abm f).mpr (zai8 ((abm n).mp hn) hf),by omega,by omega⟩
theorem zan1 {gs:List Gt} (ok:Oks gs) {ls ab T:List Nat}{g le:Nat} (L:Lay gs g ls) (hg:g < gs.length) (abm:∀ n,n∈ab↔Dn gs [] g n) (h1:1≤le) (ha:le=1∨∃ f∈fdn gs g,ls.getD f 0=le) (hle:le≤gs.length) (c:CutM g ab (fdn gs) (lowA ab ls g (le:Int)) (sH gs) T):LeastM gs ls g (le - 1):=by
 refine ⟨by omega,fun _=>⟨T,c.le,fun n hn=>?_,⟨fun bs o a ha'=>?_⟩⟩,fun m' l k=>?_⟩
 ·obtain ⟨z1,z2⟩:=c.lw n hn
  obtain ⟨y1,y2,y3⟩:=zacx.mp z2
  exact ⟨(abm n).mp z1,y2,by omega⟩
 ·exact c.sh (fun n=>bs.getD n false) (fun n hn on=>(zaen o (zast ok hg ((abm n).mp hn))).mp on) a ha'
 ·rcases ha with z | ⟨f,hf,e⟩
  ·omega
  ·have:=zaj7 ok L hg (Nat.le_refl _) k hf
   omega
theorem zan2 {gs:List Gt} (ok:Oks gs) {ls ab:List Nat}{g le:Nat} (L:Lay gs g ls) (hg:g < gs.length) (sg:sH gs g=false) (nd:ab.Nodup) (abm:∀ n,n∈ab↔Dn gs [] g n) (h1:1≤le) (ha:le=1∨∃ f∈fdn gs g,ls.getD f 0=le) (hm:∀ f∈fdn gs g,ls.getD f 0≤le) (hle:le≤gs.length) (p:PthM ab (fdn gs) (lowA ab ls g (le:Int)) (sH gs)):LeastM gs ls g le:=by
 refine ⟨hle,fun _=>zag7 ok hm,fun m' l k=>?_⟩
 have m1:m'=le - 1:=by
  rcases ha with z | ⟨f,hf,e⟩
  ·omega
  ·have:=zaj7 ok L hg (Nat.le_refl _) k hf
   omega
 obtain ⟨S,s1,s2,s3⟩:=k.h
 obtain ⟨W,F⟩:=p.h
 have G:=zaqu ok L hg sg nd abm (bd:=(le:Int)) (by omega)
 obtain ⟨bs,o⟩:=zakz ok S
 have tl:∀ n∈S,lowA ab ls g (le:Int) n=true:=fun n hn=>by
  obtain ⟨a,b,c⟩:=s2 n hn
  exact zacx.mpr ⟨(abm n).mpr a,b,by omega⟩
 obtain ⟨f,hf,e⟩:=zalg (op:=fun n=>bs.getD n false) (T:=S) F G (fun u=>zapu u) (zanv G) (by omega) tl (fun n hn ne nS z=>(zaen o (zast ok hg ((abm n).mp hn))).mpr ⟨nS,z⟩) (fun n hn on=>((zaen o (zast ok hg ((abm n).mp hn))).mp on).2)
 have:=s3.h bs o f hf
 rw [this] at e; cases e
end

section
structure PapAt (F:Addr→Prop) (H:Hp) (ls:List Nat) (ps:List V):Prop where
 len:ps.length=ls.length
 at_:∀ i < ls.length,1≤ls.getD i 0→∃ (q pl:Addr) (z:V) (ys:List V),ps[i]?=some (.ref q)∧H q=some (.tup [z,.ref pl])∧F pl∧H pl=some (.lst ys)∧PthL F H ys∧ys.length≤200
theorem PapAt.ch {F:Addr→Prop}{H H':Hp}{ls:List Nat}{ps:List V} (h:PapAt F H ls ps) (c:Ch [] H H'):PapAt F H' ls ps:=⟨h.len,fun i l e=>let ⟨q,pl,z,ys,a,b,f,d,p,s⟩:=h.at_ i l e; ⟨q,pl,z,ys,a,c.get b (by simp),f,c.get d (by simp),p.ch c,s⟩⟩
theorem PthL.chX {F:Addr→Prop}{H H':Hp}{ys:List V}{X:List Addr} (h:PthL F H ys) (c:Ch X H H') (n:∀ a,F a→a ∉ X):PthL F H' ys:=⟨fun y m=>let ⟨p,zs,a,f,b,d⟩:=h.h y m; ⟨p,zs,a,f,c.get b (n p f),d⟩⟩
theorem PapAt.chX {F:Addr→Prop}{H H':Hp}{ls:List Nat}{ps:List V}{X:List Addr} (h:PapAt F H ls ps) (c:Ch X H H') (n:∀ a,F a→a ∉ X) (l:∀ a∈X,∃ vs,H a=some (.lst vs)):PapAt F H' ls ps:=⟨h.len,fun i k e=>by
 obtain ⟨q,pl,z,ys,a,b,f,d,p,s⟩:=h.at_ i k e
 exact ⟨q,pl,z,ys,a,c.get b (fun m=>by obtain ⟨vs,e⟩:=l q m; rw [b] at e; cases e),f,c.get d (n pl f),p.chX c n,s⟩⟩
theorem PapAt.push {F:Addr→Prop}{H:Hp}{ls:List Nat}{ps:List V}{v:Nat}{x:V} (h:PapAt F H ls ps) (n:1≤v→∃ (q pl:Addr) (z:V) (ys:List V),x=.ref q∧H q=some (.tup [z,.ref pl])∧F pl∧H pl=some (.lst ys)∧PthL F H ys∧ys.length≤200):PapAt F H (ls++[v]) (ps++[x]):=by
 refine ⟨by simp [h.len],fun i k e=>?_⟩
 rw [List.length_append,List.length_singleton] at k
 by_cases z:i < ls.length
 ·rw [zaeo z] at e
  obtain ⟨q,pl,z',ys,a,r⟩:=h.at_ i z e
  exact ⟨q,pl,z',ys,by rw [List.getElem?_append_left (by rw [h.len]; exact z)]; exact a,r⟩
 ·have z:i=ls.length:=by omega
  subst z
  rw [zago] at e
  obtain ⟨q,pl,z',ys,rfl,r⟩:=n e
  exact ⟨q,pl,z',ys,by rw [← h.len]; simp,r⟩
structure LyV (gs:List Gt) (ls:List Nat) (g v:Nat):Prop where
 h:∃ m,v=1 + m∧LeastM gs ls g m
theorem Ch.forget {W:List Addr}{H H':Hp} (c:Ch W H H') (h:∀ w∈W,H w=none):Ch [] H H':=fun a o e _=>c a o e fun z=>by rw [h a z] at e; cases e
theorem Ch.inst {H:Hp}{x dx C:Addr} (hx:H x=none) (hd:H dx=none) (n:dx≠x):Ch [] H (upd (upd H dx (.own x)) x (.ins C dx [])):=(Ch.new hd _).trans (Ch.new (by rw [zaa0 n.symm]; exact hx) _)
theorem zan3 {gs:List Gt}{ab:List Nat}{low:Nat→Bool} (h:∀ n,low n=true→n∈ab) (u:Option Nat):u∈stsN gs (ab.filter low)↔stS low (sH gs) u=true:=by
 unfold stsN
 rw [List.mem_map]
 constructor
 ·rintro ⟨n,hn,rfl⟩
  obtain ⟨h1,h2⟩:=List.mem_filter.mp hn
  obtain ⟨h3,h4⟩:=List.mem_filter.mp h1
  rw [zaks,h4,h2]; rfl
 ·intro hu
  cases u with
  | none=>cases hu
  | some m =>
   unfold stS at hu
   simp only [Bool.and_eq_true,beq_iff_eq] at hu
   obtain ⟨⟨a,b⟩,c⟩:=hu
   exact ⟨m / 2,List.mem_filter.mpr ⟨List.mem_filter.mpr ⟨h _ b,b⟩,c⟩,by congr 1; omega⟩
theorem zaqv {gs:List Gt}{l:List Nat} (h:l.Nodup):(stsN gs l).Nodup:=by
 unfold stsN
 have:=h.filter (sH gs)
 generalize l.filter (sH gs)=m at this
 induction m with
 | nil=>exact List.nodup_nil
 | cons a m ih =>
  obtain ⟨n1,n2⟩:=List.nodup_cons.mp this
  rw [List.map_cons,List.nodup_cons]
  refine ⟨fun z=>?_,ih n2⟩
  obtain ⟨b,hb,e⟩:=List.mem_map.mp z
  injection e with e
  exact n1 (by rw [show a=b by omega]; exact hb)
theorem zai9 {C:Addr}{H:Hp}{y lo st wy en:Addr}{r:Option Nat→Addr}{ends:List (Key × L2.V)}{gs:List Gt} (ok:Oks gs) {ls ab:List Nat}{g:Nat}{bd:Int} (L:Lay gs g ls) (hg:g < gs.length) (sg:sH gs g=false) (nd:ab.Nodup) (abm:∀ n,n∈ab↔Dn gs [] g n) (b1:1≤bd)
  (s:StAt C H y lo st wy en (ab.filter (lowB ls g bd)) (stsN gs (ab.filter (lowB ls g bd))) (stV ab (lowB ls g bd)) r (lds (stV ab (lowB ls g bd)) (prs ab (fdn gs))) ends) (eo:EnOk (lds (stV ab (lowB ls g bd)) (prs ab (fdn gs))) ends) :
  StG g ab (fdn gs) (lowA ab ls g bd) (sH gs)∧StAt C H y lo st wy en (ab.filter (lowA ab ls g bd)) (stsN gs (ab.filter (lowA ab ls g bd))) (stV ab (lowA ab ls g bd)) r (W0 ab (fdn gs) (lowA ab ls g bd)) ends∧EnOk (W0 ab (fdn gs) (lowA ab ls g bd)) ends:=by
 have eV:stV ab (lowB ls g bd)=stV ab (lowA ab ls g bd):=by unfold stV; rw [zadt]
 rw [zadt,eV] at s
 rw [eV] at eo
 refine ⟨zaqu ok L hg sg nd abm b1,s.congr fun u hu=>?_,fun f hf=>?_⟩
 ·unfold W0; rw [if_pos hu]
 ·refine eo f ?_
  unfold W0 at hf
  split at hf
  ·exact hf
  ·cases hf
local macro_rules | `(tactic| walk_at "user")=>`(tactic| first
 | (apply NetAt.ch; (focus with_reducible assumption); (focus walk_at "ch")))
section
variable {P:Program}{w:World}{K:PySem.W.Frag}{mg:Str→Option Value}{base:Heap}{f:Addr}{fd:FuncData}{k:Nat}
theorem zaja:Nd "Stream" := by decide +kernel
theorem zagp:Nd "copied_paths" := by decide +kernel
theorem zad8:Nd "layer_and_reason" := by decide +kernel
theorem av19:AF (defScope (top 19)) ["paths"]:=⟨by decide +kernel⟩
def zah0:Scope:={ kind:=PySem.ScopeKind.function,names:=[ (PySem.Str.ofString ".0",PySem.NameKind.local),(PySem.Str.ofString "path",PySem.NameKind.local),(PySem.Str.ofString "list",PySem.NameKind.globalImplicit)],isGenerator:=false,isCoroutine:=false,more:=[]:PySem.Scope }
theorem zan4:CompOk zah0 (defScope (top 19)) (["path"]:List Str) (["paths"]:List Str) [] (["path"]:List Str):=compOk rfl (by decide +kernel) (by decide +kernel) (by decide +kernel) (by decide +kernel) rfl (by decide +kernel)
theorem zan5:AK (relab zah0 (defScope (top 19))) ["path"]:=⟨by decide +kernel⟩
theorem zasu:AG (relab zah0 (defScope (top 19))) ["list"]:=⟨by decide +kernel⟩
theorem zasv:AV (relab zah0 (defScope (top 19))) ["path"]:=⟨by decide +kernel⟩
def spCpp:Sp:=fun vs H Q _=>∃ (pl:Addr) (ys:List V) (F:Addr→Prop),vs=[.ref pl]∧H pl=some (.lst ys)∧PthL F H ys∧ys.length≤200∧∀ (r:Addr) (zs:List V) (H':Hp),Ch [] H H'→H r=none→H' r=some (.lst zs)→PthL (fun a=>H a=none) H' zs→zs.length≤200→Q (.ref r) H'
theorem scCpp:FnScope ["paths"] ["paths"] (defScope (top 19)):=⟨rfl,rfl,rfl,by decide +kernel,rfl,by decide +kernel,by decide +kernel⟩
theorem zaus (F:Fun K "copied_paths" "copied_paths" (top 19) f fd) (z_list:mg "list" = none):FnOk P w K mg base CX0 (k + 1) f fd ["paths"] spCpp:=by
 have nd:=scCpp.nd
 refine F.ok scCpp (fun vs H Q E h=>by obtain ⟨pl,ys,FF,rfl,_⟩:=h; rfl) (fun cdv A outer s0 H vs Q E hr h=>?_)
 obtain ⟨pl,ys,FF,rfl,hp,py,yl,q⟩:=h
 have hu:=zadw hr
 refine ⟨_,(Pr.h (zaag (zaas (zabl rfl zan4 (zabq (qv av19 0 rfl)) (fun _ _ _ _ _=>(zaar (i:=0) zan4.nd rfl (Or.inl (zan5.k 0 rfl)) (Or.inr (zan5.k 0 rfl)))) (fun _ _ _ _ _=>zab0) (fun _ _ _ _ _=>(zabp (zahm K rfl) (zasu.g 0 rfl) z_list zacc (zaaa (qw zasv 0 rfl) zaab zaae) zacd zace)))))),?_⟩
 (try dsimp only [cxOf])
 walk_at "rd"
 refine zacm ys (fun i zs σ H'=>Ch [] H H'∧PthL (fun a=>H a=none) H' zs∧zs.length≤i∧∃ u,σ=[u]) (by rw [sizeLine_eq]; omega) ⟨Ch.refl _ _,PthL.nil,Nat.le_refl _,_,rfl⟩ ?_ ?_ ?_
 ·rintro i zs σ H' hi ⟨c,p,l,_⟩
  exact ⟨l,SqL.of (c.get hp (by simp))⟩
 ·rintro i zs σ H' x hx ⟨c,p,l,u,rfl⟩
  obtain ⟨a,vs,rfl,_,ha,la⟩:=py.h x (List.mem_of_getElem? hx)
  have ha2:=c.get ha (by simp)
  walk_at "rd"
  rename_i D hD
  exact ⟨(p.ch (Ch.new hD _)).snoc (chFree c hD) zaac la,by simp; omega,_,rfl⟩
 ·rintro zs σ H' ⟨c,p,l,u,rfl⟩
  intro D hD
  exact q D zs _ (c.trans (Ch.new hD _)) (chFree c hD) zaac (p.ch (Ch.new hD _)) (by omega)
theorem av20:AF (defScope (top 20)) ["net", "layers", "paper", "number", "feeds", "least", "found", "paths", "feed"]:=⟨by decide +kernel⟩
theorem gl20:AG (defScope (top 20)) ["feeds_within", "max", "Stream", "copied_paths"]:=⟨by decide +kernel⟩
def zaj8:Scope:={ kind:=PySem.ScopeKind.function,names:=[ (PySem.Str.ofString ".0",PySem.NameKind.local),(PySem.Str.ofString "feed",PySem.NameKind.local),(PySem.Str.ofString "layers",PySem.NameKind.free)],isGenerator:=false,isCoroutine:=false,more:=[]:PySem.Scope }
theorem zan6:CompOk zaj8 (defScope (top 20)) (["feed"]:List Str) (["net", "layers", "paper", "number", "feeds", "least", "found", "paths", "feed"]:List Str) [1] (["feed", "layers"]:List Str):=compOk rfl (by decide +kernel) (by decide +kernel) (by decide +kernel) (by decide +kernel) rfl (by decide +kernel)
theorem zan7:AK (relab zaj8 (defScope (top 20))) ["feed"]:=⟨by decide +kernel⟩
theorem zan8:AV (relab zaj8 (defScope (top 20))) ["feed", "layers"]:=⟨by decide +kernel⟩
def spLar (CN:Addr):Sp:=fun vs H Q _=>∃ (nt gp op ll pp:Addr) (gs:List Gt) (xs:List V) (os ls:List Nat) (ps:List V) (g:Nat) (F:Addr→Prop),vs=[.ref nt,.ref ll,.ref pp,.int (g:Int)]∧NetAt CN H nt gp op gs xs os∧H ll=some (.lst (ls.map nV))∧H pp=some (.lst ps)∧PapAt F H ls ps∧Lay gs g ls∧Oks gs∧g < gs.length∧gs.length≤60∧sH gs g=false ∧
 ∀ (t pr pl:Addr) (z:V) (ys:List V) (v:Nat) (H':Hp),Ch [] H H'→H' t=some (.tup [nV v,.ref pr])→H' pr=some (.tup [z,.ref pl])→H pl=none→H' pl=some (.lst ys)→PthL (fun a=>H a=none) H' ys→ys.length≤200→LyV gs ls g v→Q (.ref t) H'
theorem scLar:FnScope ["net", "layers", "paper", "number", "feeds", "least", "found", "paths", "feed"] ["net", "layers", "paper", "number"] (defScope (top 20)):=⟨rfl,rfl,rfl,by decide +kernel,rfl,by decide +kernel,by decide +kernel⟩
theorem zaut {CN C:Addr} (F:Fun K "layer_and_reason" "layer_and_reason" (top 20) f fd) (Dfeeds_within:DefOk P w K mg base CX0 (k + 1) "feeds_within" ["net", "number"] (spFw CN)) (MkStream:MakeOk P w K mg base CX0 k C "Stream" ["self", "net", "layers", "gate", "bound"] (spStr CN C))
  (MStream_cut_or_paths:MethOk P w K mg base CX0 (k + 1) C "cut_or_paths" ["self"] (spCop C)) (Dcopied_paths:DefOk P w K mg base CX0 (k + 1) "copied_paths" ["paths"] spCpp) (cl:Cls K C) (z_max:mg "max" = none):FnOk P w K mg base CX0 (k + 2) f fd ["net", "layers", "paper", "number"] (spLar CN):=by
 have nd:=scLar.nd
 refine F.ok scLar (fun vs H Q E h=>by obtain ⟨nt,gp,op,ll,pp,gs,xs,os,ls,ps,g,FF,rfl,_⟩:=h; rfl) (fun cdv A outer s0 H vs Q E hr h=>?_)
 obtain ⟨nt,gp,op,ll,pp,gs,xs,os,ls,ps,g,FF,rfl,na,hll,hpp,pap,lay,ok,gl,zg,sg,q⟩:=h
 have hrm:=hr
 refine ⟨_,(Pr.h (zaav (zaat (i:=4) nd rfl (av20.l 4 rfl) (zaap Dfeeds_within hr (gl20.g 0 rfl) pass0 (zaaa (qv av20 0 rfl) (zaaa (qv av20 3 rfl) zaab zaae) zaae) zac5)) (zaav (zaat (i:=5) nd rfl (av20.l 5 rfl) (zaaf (zand rfl) (gl20.g 1 rfl) z_max zaqg (zaaa (zaan zafq (zabl rfl zan6 (zabq (qv av20 4 rfl)) (fun _ _ _ _ _=>(zaar (i:=0) zan6.nd rfl (Or.inl (zan7.k 0 rfl)) (Or.inr (zan7.k 0 rfl)))) (fun _ _ _ _ _=>zab0) (fun _ _ _ _ _=>(zaa2 (zacn K rfl) (qw zan8 1 rfl) (qw zan8 0 rfl) (fun _ _=>rfl)))) (zabc (zaaa zaad zaab zaaj))) zaab zaaz) zaqh zaqi)) (zaav (zaat (i:=6) nd rfl (av20.l 6 rfl) (zaew (zaf3 MkStream hrm (gl20.g 2 rfl) pass0 (zaaa (qv av20 0 rfl) (zaaa (qv av20 1 rfl) (zaaa (qv av20 3 rfl) (zaaa (qv av20 5 rfl) zaab zaae) zaae) zaae) zaae) zaja) MStream_cut_or_paths hr pass0)) (zaah (zaa4 (zaaq zae7 (zaa2 zabo (qv av20 6 rfl) zaad (fun _ _=>rfl)) zacr (nomark _)) (zaag (zaas (zabh (zaaa (zaan zabv (qv av20 5 rfl) zaad) (zaaa (zabh (zaaa (zaa2 zabo (zaew (zaf3 MkStream hrm (gl20.g 2 rfl) pass0 (zaaa (qv av20 0 rfl) (zaaa (qv av20 1 rfl) (zaaa (qv av20 3 rfl) (zaaa (zaan zabv (qv av20 5 rfl) zaad) zaab zaaz) zaae) zaae) zaae) zaja) MStream_cut_or_paths hr pass0) zaad (fun _ _=>rfl)) (zaaa (zaa2 zabo (qv av20 6 rfl) zaad (fun _ _=>rfl)) zaab zaaw) zaaw)) zaab zacl) zaaz)))) zaau) (zaav (zaat (i:=7) nd rfl (av20.l 7 rfl) (zabc zaab)) (zaav (zabf PassesOwn.never rfl (zabq (qv av20 4 rfl)) (zaar (i:=8) nd rfl (av20.l 8 rfl)) (zaag (zaa4 (zaaq zada (zaa2 zabi (qv av20 1 rfl) (qv av20 8 rfl) (fun _ _=>rfl)) (qv av20 5 rfl) (nomark _)) (zaag (zaat (i:=7) nd rfl (av20.l 7 rfl) (zaap Dcopied_paths hr (gl20.g 3 rfl) pass0 (zaaa (zaa2 zabo (zaa2 zabi (qv av20 2 rfl) (qv av20 8 rfl) (fun _ _=>rfl)) zaad (fun _ _=>rfl)) zaab zaaw) zagp))) zaau))) (zaag (zaas (zabh (zaaa (qv av20 5 rfl) (zaaa (zabh (zaaa (zaa2 zabo (qv av20 6 rfl) zaad (fun _ _=>rfl)) (zaaa (qv av20 7 rfl) zaab zaae) zaaw)) zaab zacl) zaae))))))))))),?_⟩
 (try dsimp only [cxOf])
 obtain ⟨b,eb⟩:∃ b,gs[g]?=some b:=⟨_,List.getElem?_eq_getElem gl⟩
 have efd:=zafa eb
 have fl3:=zany gs g
 refine zaa9 (fun σ H'=>∃ fl,σ=[some (.ref nt),some (.ref ll),some (.ref pp),some (.int (g:Int)),some (.ref fl),none,none,none,none]∧Ch [] H H'∧H' fl=some (.lst ((fdn gs g).map nV))) ?_ ?_
 ·rw [efd]
  walk_at "rd"
 rintro σ H1 ⟨fl,rfl,c1,hfl⟩
 have lsl:ls.length=g:=lay.len
 have fat:∀ a∈fdn gs g,a < ls.length:=fun a m=>by have:=zacq ok m; omega
 obtain ⟨le,ele⟩:∃ le:Nat,(le:Int)=gr ((fdn gs g).map (fun a=>(ls.getD a 0:Int))++[1]):=⟨(gr ((fdn gs g).map (fun a=>(ls.getD a 0:Int))++[1])).toNat,by
  have:=zanc (ns:=(fdn gs g).map (fun a=>(ls.getD a 0:Int))++[1]) (a:=1) (by simp)
  omega⟩
 have l1:1≤le:=by
  have:=zanc (ns:=(fdn gs g).map (fun a=>(ls.getD a 0:Int))++[1]) (a:=1) (by simp)
  omega
 have lm:∀ f∈fdn gs g,ls.getD f 0≤le:=fun f hf=>by
  have:=zanc (ns:=(fdn gs g).map (fun a=>(ls.getD a 0:Int))++[1]) (a:=(ls.getD f 0:Int)) (List.mem_append_left _ (List.mem_map.mpr ⟨f,hf,rfl⟩))
  omega
 have la:le=1∨∃ f∈fdn gs g,ls.getD f 0=le:=by
  by_cases z:∃ f∈fdn gs g,ls.getD f 0=le
  ·exact .inr z
  ·refine .inl ?_
   have:=zasa (ns:=(fdn gs g).map (fun a=>(ls.getD a 0:Int))++[1]) (N:=max 1 ((le:Int) - 1)) (by omega) (by
    intro a ha
    rcases List.mem_append.mp ha with ha | ha
    ·obtain ⟨f,hf,rfl⟩:=List.mem_map.mp ha
     have h1:=lm f hf
     have h2:ls.getD f 0≠le:=fun e=>z ⟨f,hf,e⟩
     omega
    ·rw [List.mem_singleton.mp ha]; omega)
   omega
 have lel:le≤gs.length:=by
  rcases la with z | ⟨f,hf,e⟩
  ·omega
  ·have h1:=zacq ok hf
   have:=lay.bd ok (by omega) f h1.1
   omega
 refine zaa9 (fun σ H'=>σ=[some (.ref nt),some (.ref ll),some (.ref pp),some (.int (g:Int)),some (.ref fl),some (.int (le:Int)),none,none,none]∧Ch [] H H'∧H' fl=some (.lst ((fdn gs g).map nV))) ?_ ?_
 ·walk_at "rd"
  refine zacm ((fdn gs g).map nV) (fun i ys σ H2=>ys=(((fdn gs g).take i).map fun a=>(ls.getD a 0:Int)).map V.int∧H2=H1∧∃ u,σ=[u,some (.ref ll)]) (by rw [sizeLine_eq,List.length_map]; omega) ⟨rfl,rfl,_,rfl⟩ ?_ ?_ ?_
  ·rintro i ys σ H2 hi ⟨rfl,rfl,_⟩
   exact ⟨by simp; omega,SqL.of hfl⟩
  ·rintro i ys σ H2 x hx ⟨rfl,rfl,u,rfl⟩
   rw [List.getElem?_map] at hx
   cases e:(fdn gs g)[i]? with
   | none=>rw [e] at hx; cases hx
   | some a =>
    rw [e] at hx
    cases hx
    have hn:=fat a (List.mem_of_getElem? e)
    have at1:atI (ls.map nV) (a:Int)=some (.int (ls.getD a 0:Int)):=zacb (by rw [List.getElem?_map,List.getD_eq_getElem?_getD,List.getElem?_eq_getElem hn]; rfl)
    have hll1:=c1.get hll (by simp)
    unfold nV
    walk_at "rd"
    refine ⟨?_,rfl,_,rfl⟩
    rw [List.take_add_one,e,Option.toList_some,List.map_append,List.map_append]; rfl
  ·rintro ys σ H2 ⟨rfl,rfl,u,rfl⟩
   rw [List.length_map,List.take_length]
   walk_at "rd"
   rename_i D hD p1 hp1 p2 hp2
   refine ⟨(?_:_=some (HO.lst (List.map V.int ((fdn gs g).map (fun a=>(ls.getD a 0:Int))++[1])))),by simp,fun a ha=>?_,?_⟩
   ·rw [zaac,List.map_append]; rfl
   ·rcases List.mem_append.mp ha with ha | ha
    ·obtain ⟨f,hf,rfl⟩:=List.mem_map.mp ha
     omega
    ·rw [List.mem_singleton.mp ha]; omega
   ·rw [← ele]
    have cc:=((Ch.new (W:=[]) hD (HO.lst (List.map V.int (List.map (fun a=>((ls.getD a 0:Nat):Int)) (fdn gs g))))).trans (Ch.new hp1 (HO.lst [V.int 1]))).trans (Ch.new hp2 (HO.lst (List.map V.int (List.map (fun a=>((ls.getD a 0:Nat):Int)) (fdn gs g))++[V.int 1])))
    exact ⟨rfl,c1.trans cc,cc.get hfl (by simp)⟩
 rintro σ H2 ⟨rfl,c2,hfl2⟩
 clear c1 hfl
 have na2:=na.ch c2
 have hll2:=c2.get hll (by simp)
 refine zaa9 (fun σ H'=>∃ (p pl:Addr) (x0:V) (ys:List V) (ab:List Nat),σ=[some (.ref nt),some (.ref ll),some (.ref pp),some (.int (g:Int)),some (.ref fl),some (.int (le:Int)),some (.ref p),none,none]∧Ch [] H H'∧H' fl=some (.lst ((fdn gs g).map nV))∧H' p=some (.tup [x0,.ref pl])∧H pl=none∧H' pl=some (.lst ys)∧PthL (fun a=>H a=none) H' ys∧ys.length≤200∧ab.Nodup∧(∀ n,n∈ab↔Dn gs [] g n)∧CopR H' g ab (fdn gs) (lowA ab ls g (le:Int)) (sH gs) x0) ?_ ?_
 ·walk_at "rd"
  rename_i y dx hy hdx nyd
  have i1:=Ch.inst (C:=C) hy hdx nyd
  refine ⟨i1.get hll2 (by simp),lsl,gl,zg,fun i b e a m=>(zacq ok (by rw [zafa e]; exact m)).1,fun lo st wy en ab r ends H3 c3 abn abm fr abl el s eo=>⟨rfl,?_⟩⟩
  obtain ⟨dy3,hy3⟩:=s.ob
  obtain ⟨G,s3,eo3⟩:=zai9 ok lay gl sg abn abm (by omega) s eo
  have f1:=(fmn lo st wy en).c
  have c23:Ch [] H2 H3:=Ch.forget (i1.wk.trans c3) (by simpa using hy)
  have eV:stV ab (lowB ls g (le:Int))=stV ab (lowA ab ls g (le:Int)):=by unfold stV; rw [zadt]
  rw [eV] at fr
  have frX:∀ a∈(stV ab (lowA ab ls g (le:Int))).map r,H2 a=none:=fun a m=>by
   obtain ⟨v,hv,rfl⟩:=List.mem_map.mp m
   exact chFree i1 (fr v hv)
  walk_at "rd"
  exact ⟨zan3 (fun n h=>(zacx.mp h).1),zaqv (abn.filter _),by omega,by omega,fun p pl x0 ys H4 c4 hp4 fpl4 hpl4 py4 yl4 cop=>⟨p,pl,x0,ys,ab,rfl,c2.trans (Ch.owns frX c23 c4),(Ch.owns frX c23 c4).get hfl2 (by simp),hp4,chFree (c2.trans c23) fpl4,hpl4,py4.mono fun a e=>chFree (c2.trans c23) e,yl4,abn,abm,cop⟩⟩
 rintro σ H3 ⟨p,pl,x0,ys,ab,rfl,c3,hfl3,hp3,fpl3,hpl3,py3,yl3,abn,abm,cop⟩
 clear c2 hfl2 na2 hll2
 have na3:=na.ch c3
 have hll3:=c3.get hll (by simp)
 have hpp3:=c3.get hpp (by simp)
 have pap3:=pap.ch c3
 rcases cop.h with ⟨tl,T,rfl,htl,cm⟩ | ⟨rfl,pm⟩
 ·have lst:LyV gs ls g le:=⟨le - 1,by omega,zan1 ok lay gl abm l1 la lel cm⟩
  walk_at "rd"
  refine ite2 (fun hc=>absurd (of_decide_eq_true hc) (by intro z; cases z)) (fun hc=>?_)
  clear hc
  refine zaa9 (fun σ H'=>∃ pa,σ=[some (.ref nt),some (.ref ll),some (.ref pp),some (.int (g:Int)),some (.ref fl),some (.int (le:Int)),some (.ref p),some (.ref pa),none]∧Ch [] H3 H'∧H3 pa=none∧H' pa=some (.lst [])) ?_ ?_
  ·walk_at "rd"
  rintro σ H4 ⟨pa,rfl,c4,fpa,hpa⟩
  refine zaa9 (fun σ H'=>∃ (pa:Addr) (ys:List V) (u:Option V),σ=[some (.ref nt),some (.ref ll),some (.ref pp),some (.int (g:Int)),some (.ref fl),some (.int (le:Int)),some (.ref p),some (.ref pa),u]∧Ch [] H3 H'∧H3 pa=none∧H' pa=some (.lst ys)∧PthL (fun a=>H3 a=none) H' ys∧ys.length≤200) ?_ ?_
  ·have hfl4:=c4.get hfl3 (by simp)
   walk_at "rd"
   refine zac1 (xs:=(fdn gs g).map nV) (fun i σ H'=>∃ (pa:Addr) (ys:List V) (u:Option V),σ=[some (.ref nt),some (.ref ll),some (.ref pp),some (.int (g:Int)),some (.ref fl),some (.int (le:Int)),some (.ref p),some (.ref pa),u]∧Ch [] H3 H'∧H3 pa=none∧H' pa=some (.lst ys)∧PthL (fun a=>H3 a=none) H' ys∧ys.length≤200) ⟨pa,[],_,rfl,c4,fpa,hpa,PthL.nil,by simp⟩ ?_ ?_ ?_
   ·rintro i σ H' hi ⟨pa,ys,u,rfl,c5,fpa5,hpa5,py5,yl5⟩
    exact SqL.of (c5.get hfl3 (by simp))
   ·rintro i x σ H' hx ⟨pa,ys,u,rfl,c5,fpa5,hpa5,py5,yl5⟩
    rw [List.getElem?_map] at hx
    cases e:(fdn gs g)[i]? with
    | none=>rw [e] at hx; cases hx
    | some a =>
     rw [e] at hx
     cases hx
     have hn:=fat a (List.mem_of_getElem? e)
     have at1:atI (ls.map nV) (a:Int)=some (.int (ls.getD a 0:Int)):=zacb (by rw [List.getElem?_map,List.getD_eq_getElem?_getD,List.getElem?_eq_getElem hn]; rfl)
     have hll5:=c5.get hll3 (by simp)
     have hpp5:=c5.get hpp3 (by simp)
     have pap5:=pap3.ch c5
     clear hll3 hpp3 hll hpp hfl3 hfl4 hp3 htl hpl3
     unfold nV
     walk_at "rd"
     refine ite2 (fun hc=>?_) (fun hc=>?_)
     ·have h9:((ls.getD a 0:Nat):Int)=(le:Int):=by simpa [eqV] using hc
      have hle:ls.getD a 0=le:=by omega
      obtain ⟨q1,pl1,z1,ys1,e1,e2,_,e3,e4,e5⟩:=pap5.at_ a hn (by omega)
      have at2:=zacb e1
      walk_at "rd"
      rename_i r7 zs7 H7 c7 f7 h7 p7 l7
      exact ⟨chFree c5 f7,h7,p7.mono fun a e=>chFree c5 e,l7⟩
     ·walk_at "rd"
   ·rintro σ H' h
    exact h
  rintro σ H5 ⟨pa5,ys5,u5,rfl,c5,fpa5,hpa5,py5,yl5⟩
  have hp5:=c5.get hp3 (by simp)
  walk_at "rd"
  rename_i p1 hp1 p2 hp2
  exact q p2 p1 pa5 _ ys5 le _ (c3.trans (c5.trans ((Ch.new hp1 _).trans (Ch.new hp2 _)))) zaac (zab5 hp2 zaac) (chFree c3 fpa5) (zab5 hp2 (zab5 hp1 hpa5)) ((py5.mono fun a e=>chFree c3 e).ch ((Ch.new hp1 _).trans (Ch.new hp2 _))) yl5 lst
 ·have lst:LyV gs ls g (le + 1):=⟨le,by omega,zan2 ok lay gl sg abn abm l1 la lm lel pm⟩
  walk_at "rd"
  rename_i y dx hy hdx nyd
  have i1:=Ch.inst (C:=C) hy hdx nyd
  refine ⟨i1.get hll3 (by simp),lsl,gl,zg,fun i b e a m=>(zacq ok (by rw [zafa e]; exact m)).1,fun lo st wy en ab r ends H4 c4 abn abm fr abl el s eo=>⟨rfl,?_⟩⟩
  obtain ⟨dy3,hy3⟩:=s.ob
  obtain ⟨G,s3,eo3⟩:=zai9 ok lay gl sg abn abm (by omega) s eo
  have f1:=(fmn lo st wy en).c
  have c34:Ch [] H3 H4:=Ch.forget (i1.wk.trans c4) (by simpa using hy)
  have eV:stV ab (lowB ls g ((le:Int) + 1))=stV ab (lowA ab ls g ((le:Int) + 1)):=by unfold stV; rw [zadt]
  rw [eV] at fr
  have frX:∀ a∈(stV ab (lowA ab ls g ((le:Int) + 1))).map r,H3 a=none:=fun a m=>by
   obtain ⟨v,hv,rfl⟩:=List.mem_map.mp m
   exact chFree i1 (fr v hv)
  walk_at "rd"
  refine ⟨zan3 (fun n h=>(zacx.mp h).1),zaqv (abn.filter _),by omega,by omega,fun p5 pl5 x5 ys5 H5 c5 hp5 fpl5 hpl5 py5 yl5 cop5=>?_⟩
  have c35:=Ch.owns frX c34 c5
  have hp35:=c35.get hp3 (by simp)
  have hpl35:=c35.get hpl3 (by simp)
  walk_at "rd"
  rename_i p1 hp1 p2 hp2
  exact q p2 p1 pl x5 ys (le + 1) _ (c3.trans (c35.trans ((Ch.new hp1 _).trans (Ch.new hp2 _)))) (by rw [zaac]; rfl) (zab5 hp2 zaac) fpl3 (zab5 hp2 (zab5 hp1 hpl35)) ((py3.ch c35).ch ((Ch.new hp1 _).trans (Ch.new hp2 _))) yl3 lst
theorem av21:AF (defScope (top 21)) ["net", "layers", "paper", "number", "gate", "told"]:=⟨by decide +kernel⟩
theorem gl21:AG (defScope (top 21)) ["enumerate", "is_source", "layer_and_reason"]:=⟨by decide +kernel⟩
def spLof (CN:Addr):Sp:=fun vs H Q _=>∃ (nt gp op:Addr) (gs:List Gt) (xs:List V) (os:List Nat),vs=[.ref nt]∧NetAt CN H nt gp op gs xs os∧Oks gs∧gs.length≤60 ∧
 ∀ (p ll pp:Addr) (ls:List Nat) (H':Hp),Ch [] H H'→H' p=some (.tup [.ref ll,.ref pp])→H' ll=some (.lst (ls.map nV))→Lay gs gs.length ls→Q (.ref p) H'
theorem scLof:FnScope ["net", "layers", "paper", "number", "gate", "told"] ["net"] (defScope (top 21)):=⟨rfl,rfl,rfl,by decide +kernel,rfl,by decide +kernel,by decide +kernel⟩
theorem zauu {CN:Addr} (F:Fun K "layers_of" "layers_of" (top 21) f fd) (clN:Cls K CN) (nNG:NoAttr K CN "gates") (Dis_source:DefOk P w K mg base CX0 k "is_source" ["gate"] spSrc) (Dlayer_and_reason:DefOk P w K mg base CX0 k "layer_and_reason" ["net", "layers", "paper", "number"] (spLar CN)) (z_enumerate:mg "enumerate" = none):FnOk P w K mg base CX0 (k + 1) f fd ["net"] (spLof CN):=by
 have nd:=scLof.nd
 refine F.ok scLof (fun vs H Q E h=>by obtain ⟨nt,gp,op,gs,xs,os,rfl,_⟩:=h; rfl) (fun cdv A outer s0 H vs Q E hr h=>?_)
 obtain ⟨nt,gp,op,gs,xs,os,rfl,na,ok,zg,q⟩:=h
 refine ⟨_,(Pr.h (zaav (zaat (i:=1) nd rfl (av21.l 1 rfl) (zabc zaab)) (zaav (zaat (i:=2) nd rfl (av21.l 2 rfl) (zabc zaab)) (zaah (zabf PassesOwn.never rfl (zahh .tuple (gl21.g 0 rfl) z_enumerate (zaaa (zabt (qv av21 0 rfl) rfl) zaab zae9)) (zafv rfl (zabk (zaar (i:=3) nd rfl (av21.l 3 rfl)) (zabk (zaar (i:=4) nd rfl (av21.l 4 rfl)) zac7))) (zaag (zaa4 (zabj (zaap Dis_source hr (gl21.g 1 rfl) pass0 (zaaa (qv av21 4 rfl) zaab zaae) zad0)) (zaah (zabg (zacf PySem.F.plainAttrs_list PySem.F.slot_list_append PySem.F.type_list_append zabd (qv av21 1 rfl) (zaaa zaad zaab zaaj))) (zaag (zabg (zacf PySem.F.plainAttrs_list PySem.F.slot_list_append PySem.F.type_list_append zabd (qv av21 2 rfl) (zaaa zacr zaab zaaj))))) (zaav (zaat (i:=5) nd rfl (av21.l 5 rfl) (zaap Dlayer_and_reason hr (gl21.g 2 rfl) pass0 (zaaa (qv av21 0 rfl) (zaaa (qv av21 1 rfl) (zaaa (qv av21 2 rfl) (zaaa (qv av21 3 rfl) zaab zaae) zaae) zaae) zaae) zad8)) (zaah (zabg (zacf PySem.F.plainAttrs_list PySem.F.slot_list_append PySem.F.type_list_append zabd (qv av21 1 rfl) (zaaa (zaa2 zabo (qv av21 5 rfl) zaad (fun _ _=>rfl)) zaab zaaw))) (zaag (zabg (zacf PySem.F.plainAttrs_list PySem.F.slot_list_append PySem.F.type_list_append zabd (qv av21 2 rfl) (zaaa (zaa2 zabo (qv av21 5 rfl) zaad (fun _ _=>rfl)) zaab zaaw))))))))) (zaag (zaas (zabh (zaaa (qv av21 1 rfl) (zaaa (qv av21 2 rfl) zaab zaae) zaae)))))))),?_⟩
 (try dsimp only [cxOf])
 have f1:=zadq gp op
 have lx:=na.gg.len
 refine zaa9 (fun σ H'=>∃ ll,σ=[some (.ref nt),some (.ref ll),none,none,none,none]∧Ch [] H H'∧H' ll=some (.lst [])∧H ll=none) ?_ ?_
 ·walk_at "rd"
 rintro σ H1 ⟨ll,rfl,c1,hll1,fll⟩
 refine zaa9 (fun σ H'=>∃ pp,σ=[some (.ref nt),some (.ref ll),some (.ref pp),none,none,none]∧Ch [] H H'∧H' ll=some (.lst [])∧H' pp=some (.lst [])∧H pp=none∧ll≠pp) ?_ ?_
 ·walk_at "rd"
  rename_i pp hpp
  exact ⟨chFree c1 hpp,zaao hll1 hpp⟩
 rintro σ H2 ⟨pp,rfl,c2,hll2,hpp2,fpp,nlp⟩
 obtain ⟨dn,hn⟩:=na.ob
 have hgp:=na.gt
 have hgp2:=c2.get hgp (by simp)
 have hn2:=c2.get hn (by simp)
 have lay0:Lay gs 0 []:=⟨rfl,fun j h=>absurd h (by omega),fun j h=>absurd h (by omega)⟩
 have pap0:PapAt (fun a=>a≠ll∧a≠pp) H2 [] []:=⟨rfl,fun i h=>absurd h (by simp)⟩
 walk_at "rd"
 refine zafy (xs:=xs) (fun i σ H'=>∃ (ls:List Nat) (ps:List V) (u1 u2 u3:Option V),σ=[some (.ref nt),some (.ref ll),some (.ref pp),u1,u2,u3]∧Ch [] H H'∧H' ll=some (.lst (ls.map nV))∧H' pp=some (.lst ps)∧PapAt (fun a=>a≠ll∧a≠pp) H' ls ps∧Lay gs i ls) ⟨[],[],_,_,_,rfl,c2,hll2,hpp2,pap0,lay0⟩ ?_ ?_ ?_
 ·rintro i σ H' hi ⟨ls,ps,u1,u2,u3,rfl,c3,hll3,hpp3,pap3,lay3⟩
  exact SqT.of (c3.get hgp (by simp))
 ·rintro i x σ H' T hx ⟨ls,ps,u1,u2,u3,rfl,c3,hll3,hpp3,pap3,lay3⟩ hT
  have hi:i < gs.length:=by have:=(List.getElem?_eq_some_iff.mp hx).1; omega
  obtain ⟨b,eb⟩:∃ b,gs[i]?=some b:=⟨_,List.getElem?_eq_getElem hi⟩
  obtain ⟨p,ep,hp⟩:=na.gg.at_ i b eb
  have ex:x=.ref p:=by rw [ep] at hx; exact (Option.some.inj hx).symm
  subst ex
  have hsb:=zass eb
  have lsl:=lay3.len
  have cT:Ch [] H' (upd H' T (.tup [.int (i:Int),.ref p])):=Ch.new hT _
  have hTT:upd H' T (.tup [.int (i:Int),.ref p]) T=some (.tup [.int (i:Int),.ref p]):=zaac
  generalize upd H' T (.tup [.int (i:Int),.ref p])=H4 at cT hTT ⊢
  have c4:=c3.trans cT
  have hll4:=cT.get hll3 (by simp)
  have hpp4:=cT.get hpp3 (by simp)
  have pap4:=pap3.ch cT
  have na4:=na.ch c4
  have hp4:=c4.get hp (by simp)
  have psl:=pap4.len
  clear hgp hgp2 hn hn2 hll2 hpp2 c3 hll3 hpp3 pap3 cT hp na
  walk_at "rd"
  rename_i H5 c5
  have hll5:=c5.get hll4 (by simp)
  have hpp5:=c5.get hpp4 (by simp)
  have pap5:=pap4.ch c5
  have na5:=na4.ch c5
  have c45:=c4.trans c5
  clear c5 c4 hll4 hpp4 pap4 na4 hTT hp4
  have nX:∀ a,(a≠ll∧a≠pp)→a ∉ [ll,pp]:=fun a ⟨h1,h2⟩=>by simp [h1,h2]
  have lX:∀ (Hx:Hp) (v1 v2:List V),Hx ll=some (.lst v1)→Hx pp=some (.lst v2)→∀ a∈[ll,pp],∃ vs,Hx a=some (.lst vs):=fun Hx v1 v2 h1 h2 a m=>by
   rcases List.mem_cons.mp m with rfl | m
   ·exact ⟨_,h1⟩
   ·rw [List.mem_singleton.mp m]; exact ⟨_,h2⟩
  cases hs:b.src with
  | true =>
   refine iteT ?_
   have lay6:Lay gs (i + 1) (ls++[0]):=lay3.push ok (fun _=>rfl) (fun z=>by rw [hsb,hs] at z; cases z)
   have cX:Ch [ll,pp] H5 (upd (upd H5 ll (HO.lst (List.map nV ls++[V.int 0]))) pp (HO.lst (ps++[V.non]))):=Ch.putX (Ch.putX (Ch.refl _ _) (by simp)) (by simp)
   have pap6:=(pap5.chX cX nX (lX _ _ _ hll5 hpp5)).push (v:=0) (x:=.non) (fun z=>by omega)
   walk_at "rd"
   exact ⟨by rw [zabs nlp zaac,List.map_append]; rfl,zaac,pap6,lay6⟩
  | false =>
   refine iteF ?_
   have sg:sH gs i=false:=by rw [hsb,hs]
   refine zaa9 (fun σ H'=>∃ (t pr pl:Addr) (z:V) (ys:List V) (v:Nat),σ=[some (.ref nt),some (.ref ll),some (.ref pp),some (.int (i:Int)),some (.ref p),some (.ref t)]∧Ch [] H5 H'∧H' t=some (.tup [nV v,.ref pr])∧H' pr=some (.tup [z,.ref pl])∧H5 pl=none∧H' pl=some (.lst ys)∧PthL (fun a=>H5 a=none) H' ys∧ys.length≤200∧LyV gs ls i v) ?_ ?_
   ·walk_at "rd"
   rintro σ H6 ⟨t,pr,pl,z,ys,v,rfl,c6,ht6,hpr6,fpl6,hpl6,py6,yl6,lm⟩
   have hll6:=c6.get hll5 (by simp)
   have hpp6:=c6.get hpp5 (by simp)
   have lay6:Lay gs (i + 1) (ls++[v]):=lay3.push ok (fun z=>by rw [sg] at z; cases z) (fun _=>lm.h)
   have fF:∀ a,H5 a=none→a≠ll∧a≠pp:=fun a e=>⟨(zaao hll5 e).symm,(zaao hpp5 e).symm⟩
   have cX:Ch [ll,pp] H6 (upd (upd H6 ll (HO.lst (List.map nV ls++[nV v]))) pp (HO.lst (ps++[V.ref pr]))):=Ch.putX (Ch.putX (Ch.refl _ _) (by simp)) (by simp)
   have l6:=lX _ _ _ hll6 hpp6
   have npr:pr ∉ [ll,pp]:=fun m=>by obtain ⟨vs,e⟩:=l6 pr m; rw [hpr6] at e; cases e
   have pap6:=((pap5.ch c6).chX cX nX l6).push (v:=v) (x:=.ref pr) (fun _=>⟨pr,pl,z,ys,rfl,cX.get hpr6 npr,fF pl fpl6,cX.get hpl6 (nX pl (fF pl fpl6)),(py6.mono fF).chX cX nX,yl6⟩)
   clear hll5 hpp5 pap5 na5
   have ntl:t≠ll:=zacz ht6 hll6 (by intro z; cases z)
   walk_at "rd"
   exact ⟨by rw [zabs nlp zaac,List.map_append]; rfl,zaac,pap6,lay6⟩
 ·rintro σ H' ⟨ls,ps,u1,u2,u3,rfl,c3,hll3,hpp3,pap3,lay3⟩
  rw [lx] at lay3
  walk_at "rd"
  rename_i p hp
  exact q p ll pp ls _ (c3.trans (Ch.new hp _)) zaac (zab5 hp hll3) lay3
end
end

section
theorem Op.one {gs:List Gt} (ok:Oks gs) {S T:List Nat} (e:∀ n,n∈S↔n∈T) {bs bs':List Bool} (o:Op gs S gs.length bs) (o':Op gs T gs.length bs'):∀ n,n < gs.length→bs.getD n false=bs'.getD n false:=by
 intro n
 induction n using Nat.strongRecOn with
 | ind n ih =>
  intro h
  have key:bs.getD n false=true↔bs'.getD n false=true:=by
   rw [zaen o h,zaen o' h,e n]
   have:(∃ f∈fdn gs n,bs.getD f false=true)↔∃ f∈fdn gs n,bs'.getD f false=true:=by
    constructor
    ·rintro ⟨f,hf,z⟩
     have:=zacq ok hf
     exact ⟨f,hf,by rw [← ih f this.1 (by omega)]; exact z⟩
    ·rintro ⟨f,hf,z⟩
     have:=zacq ok hf
     exact ⟨f,hf,by rw [ih f this.1 (by omega)]; exact z⟩
   rw [this]
  cases z:bs.getD n false <;> cases z':bs'.getD n false <;> rw [z,z'] at key <;> first | rfl | (exact absurd (key.mp rfl) (by simp)) | (exact absurd (key.mpr rfl) (by simp))
theorem Sht.of {gs:List Gt} (ok:Oks gs) {S T:List Nat} (e:∀ n,n∈S↔n∈T) {g:Nat}{bs:List Bool} (o:Op gs S gs.length bs):Sht gs T g↔∀ a∈fdn gs g,bs.getD a false=false:=by
 constructor
 ·intro h a ha
  obtain ⟨bs',o'⟩:=zakz ok T
  have:=zacq ok ha
  rw [Op.one ok e o o' a (by omega)]
  exact h.h bs' o' a ha
 ·intro h
  refine ⟨fun bs' o' a ha=>?_⟩
  have:=zacq ok ha
  rw [← Op.one ok e o o' a (by omega)]
  exact h a ha
theorem zapv {gs:List Gt} (ok:Oks gs) {ls is:List Nat}{g m:Nat} (nd:is.Nodup) (ism:∀ n,n∈is↔Dn gs [] g n∧n≠g):HasS gs ls g m↔∃ s∈setsN (is.filter fun n=>decide (ls.getD n 0≤m)),Sht gs s g:=by
 constructor
 ·intro h
  obtain ⟨S,h1,h2,h3⟩:=h.h
  have sub:∀ n∈S,n∈is.filter fun n=>decide (ls.getD n 0≤m):=fun n hn=>by
   obtain ⟨a,b,c⟩:=h2 n hn
   exact List.mem_filter.mpr ⟨(ism n).mpr ⟨a,b⟩,decide_eq_true c⟩
  refine ⟨(is.filter fun n=>decide (ls.getD n 0≤m)).filter fun n=>S.contains n,(zaej _ _).mpr ⟨List.filter_sublist,?_⟩,?_⟩
  ·refine Nat.le_trans (zab6 (m:=S) ((nd.filter _).filter _) fun n hn=>?_) h1
   exact List.contains_iff_mem.mp (List.mem_filter.mp hn).2
  ·obtain ⟨bs,o⟩:=zakz ok S
   refine (Sht.of ok (fun n=>?_) o).mpr ((Sht.of ok (fun n=>Iff.rfl) o).mp h3)
   constructor
   ·intro hn
    exact List.mem_filter.mpr ⟨sub n hn,List.contains_iff_mem.mpr hn⟩
   ·intro hn
    exact List.contains_iff_mem.mp (List.mem_filter.mp hn).2
 ·rintro ⟨s,hs,h3⟩
  obtain ⟨a,b⟩:=(zaej _ _).mp hs
  refine ⟨s,b,fun n hn=>?_,h3⟩
  obtain ⟨c,d⟩:=List.mem_filter.mp (a.subset hn)
  have:=(ism n).mp c
  exact ⟨this.1,this.2,of_decide_eq_true d⟩
theorem zapw {xs:List V}{n:Nat} (h:xs.length=n + 1):cutV xs none (some (-1))=xs.take n:=by
 show (xs.drop 0).take (HT.sIx xs.length xs.length (some (-1)) - 0)=_
 have e:HT.sIx xs.length xs.length (some (-1))=n:=by
  show (if (-1:Int) < 0 then ((-1:Int) + (xs.length:Int)).toNat else min (-1:Int).toNat xs.length)=_
  rw [if_pos (by omega)]
  omega
 rw [e]
 simp
local macro_rules | `(tactic| walk_at "user")=>`(tactic| first
 | (apply Gs.tu; (focus with_reducible assumption); (focus (apply Tu.same; walk_at "ch"))))
section
variable {P:Program}{w:World}{K:PySem.W.Frag}{mg:Str→Option Value}{base:Heap}{f:Addr}{fd:FuncData}{k:Nat}
theorem zajb:Nd "_law_sets" := by decide +kernel
theorem zajc:Nd "_law_shut" := by decide +kernel
theorem zajd:Nd "_law_cone" := by decide +kernel
theorem zae3:Nd "_law_least_set" := by decide +kernel
theorem gl35:AG (defScope (top 35)) ["range", "len", "_law_sets", "_law_shut"]:=⟨by decide +kernel⟩
theorem av35:AF (defScope (top 35)) ["_law_gates", "_law_layers", "_law_gate", "_law_cone_here", "_law_great", "_law_some"]:=⟨by decide +kernel⟩
def zaj9:Scope:={ kind:=PySem.ScopeKind.function,names:=[ (PySem.Str.ofString ".0",PySem.NameKind.local),(PySem.Str.ofString "_law_one",PySem.NameKind.local),(PySem.Str.ofString "_law_great",PySem.NameKind.free),(PySem.Str.ofString "_law_layers",PySem.NameKind.free)],isGenerator:=false,isCoroutine:=false,more:=[]:PySem.Scope }
theorem zan9:CompOk zaj9 (defScope (top 35)) (["_law_one"]:List Str) (["_law_gates", "_law_layers", "_law_gate", "_law_cone_here", "_law_great", "_law_some"]:List Str) [1,4] (["_law_one", "_law_layers", "_law_great"]:List Str):=compOk rfl (by decide +kernel) (by decide +kernel) (by decide +kernel) (by decide +kernel) rfl (by decide +kernel)
theorem zaoa:AK (relab zaj9 (defScope (top 35))) ["_law_one"]:=⟨by decide +kernel⟩
theorem zah1:AV (relab zaj9 (defScope (top 35))) ["_law_one", "_law_layers", "_law_great"]:=⟨by decide +kernel⟩
def spLse:Sp:=fun vs H Q _=>∃ (gl ll cl:Addr) (gs:List Gt) (xs:List V) (ls is:List Nat) (g:Nat) (b:Gt),vs=[.ref gl,.ref ll,.int (g:Int),.ref cl]∧H gl=some (.lst xs)∧Gs H gs xs∧Oks gs∧gs.length < 64∧gs[g]?=some b∧b.src=false∧H ll=some (.lst (ls.map nV))∧ls.length=g∧H cl=some (.lst (is.map nV))∧is.length≤10∧is.Nodup∧(∀ n,n∈is↔Dn gs [] g n∧n≠g) ∧
 ∀ (m:Nat) (H':Hp),Ch [] H H'→LeastM gs ls g m→Q (nV m) H'
theorem scLse:FnScope ["_law_gates", "_law_layers", "_law_gate", "_law_cone_here", "_law_great", "_law_some"] ["_law_gates", "_law_layers", "_law_gate", "_law_cone_here"] (defScope (top 35)):=⟨rfl,rfl,rfl,by decide +kernel,rfl,by decide +kernel,by decide +kernel⟩
theorem zauv (F:Fun K "_law_least_set" "_law_least_set" (top 35) f fd) (D_law_sets:DefOk P w K mg base CX0 k "_law_sets" ["_law_gates"] spSets) (D_law_shut:DefOk P w K mg base CX0 k "_law_shut" ["_law_gates", "_law_stops", "_law_gate"] spShut) (z_len:mg "len" = none) (z_range:mg "range" = none):FnOk P w K mg base CX0 (k + 1) f fd ["_law_gates", "_law_layers", "_law_gate", "_law_cone_here"] spLse:=by
 have nd:=scLse.nd
 refine F.ok scLse (fun vs H Q E h=>by obtain ⟨gl,ll,cl,gs,xs,ls,is,g,b,rfl,_⟩:=h; rfl) (fun cdv A outer s0 H vs Q E hr h=>?_)
 obtain ⟨gl,ll,cl,gs,xs,ls,is,g,b,rfl,hg,gg,ok,zg,eb,hb,hll,lsl,hcl,isl,isn,ism,q⟩:=h
 have hu:=zadw hr
 refine ⟨_,(Pr.h (zaah (zabf PassesOwn.never rfl (zabx (gl35.g 0 rfl) z_range (zaaa (zaaf zaai (gl35.g 1 rfl) z_len PySem.boot_len (zaaa (qv av35 0 rfl) zaab zaae) zaa6 zaa7) zaab zac2)) (zaar (i:=4) nd rfl (av35.l 4 rfl)) (zaag (zabf PassesOwn.never rfl (zabq (zaap D_law_sets hr (gl35.g 2 rfl) pass0 (zaaa (zabl rfl zan9 (zabq (qv av35 3 rfl)) (fun _ _ _ _ _=>(zaar (i:=0) zan9.nd rfl (Or.inl (zaoa.k 0 rfl)) (Or.inr (zaoa.k 0 rfl)))) (fun _ _ _ _ _=>(zaeh (zaaq zati (zaa2 (zacn K rfl) (qw zah1 1 rfl) (qw zah1 0 rfl) (fun _ _=>rfl)) (qw zah1 2 rfl) (nomark _)))) (fun _ _ _ _ _=>(qw zah1 0 rfl))) zaab zabe) zajb)) (zaar (i:=5) nd rfl (av35.l 5 rfl)) (zaag (zaa4 (zabj (zaap D_law_shut hr (gl35.g 3 rfl) pass0 (zaaa (qv av35 0 rfl) (zaaa (qv av35 5 rfl) (zaaa (qv av35 2 rfl) zaab zaae) zaae) zaae) zajc)) (zaag (zaas (qv av35 4 rfl))) zaau))))) (zaag (zaas (zaaf zaai (gl35.g 1 rfl) z_len PySem.boot_len (zaaa (qv av35 0 rfl) zaab zaae) zaa6 zaa7))))),?_⟩
 (try dsimp only [cxOf])
 have lx:=gg.len
 have gl':g < gs.length:=(List.getElem?_eq_some_iff.mp eb).1
 have efw:fdn gs g=b.feeds:=by rw [zafa eb]; unfold fwn; rw [if_neg (by rw [hb]; simp)]
 walk_at "rd"
 refine zabw (fun i σ H'=>∃ (u v:Option V),σ=[some (.ref gl),some (.ref ll),some (.int (g:Int)),some (.ref cl),u,v]∧Ch [] H H'∧∀ m' < i,¬ HasS gs ls g m') ⟨_,_,rfl,Ch.refl _ _,fun m' h=>absurd h (by omega)⟩ ?_ ?_
 ·rintro i σ H1 hi ⟨u,v,rfl,c1,no⟩
  have hi2:i < gs.length:=by have:=hi; omega
  have hg1:=c1.get hg (by simp)
  have gg1:=gg.tu (Tu.same c1)
  have hll1:=c1.get hll (by simp)
  have hcl1:=c1.get hcl (by simp)
  walk_at "rd"
  refine zacm (is.map nV) (fun j ys σ H2=>ys=((is.take j).filter fun n=>decide (ls.getD n 0≤i)).map nV∧H2=H1∧∃ u,σ=[u,some (.ref ll),some (.int (0 + (i:Int)))]) (by rw [sizeLine_eq,List.length_map]; omega) ⟨rfl,rfl,_,rfl⟩ ?_ ?_ ?_
  ·rintro j ys σ H2 hj ⟨rfl,rfl,_⟩
   refine ⟨?_,SqL.of hcl1⟩
   rw [List.length_map]
   refine Nat.le_trans (List.length_filter_le _ _) ?_
   rw [List.length_take]; omega
  ·rintro j ys σ H2 x hx ⟨rfl,rfl,u2,rfl⟩
   rw [List.getElem?_map] at hx
   cases e:is[j]? with
   | none=>rw [e] at hx; cases hx
   | some n =>
    rw [e] at hx
    cases hx
    rw [zads e]
    have nm:=(ism n).mp (List.mem_of_getElem? e)
    have hn:n < ls.length:=by have:=zaj6 ok nm.1; omega
    have at1:atI (ls.map nV) (n:Int)=some (.int (ls.getD n 0:Int)):=zacb (by rw [List.getElem?_map,List.getD_eq_getElem?_getD,List.getElem?_eq_getElem hn]; rfl)
    unfold nV
    walk_at "rd"
    refine ite2 (fun hc=>?_) (fun hc=>?_)
    ·have hd:ls.getD n 0≤i:=by have:=of_decide_eq_true hc; omega
     rw [decide_eq_true hd]
     walk_at "rd"
     exact ⟨by simp,rfl,_,rfl⟩
    ·have hd:¬ ls.getD n 0≤i:=fun z=>hc (decide_eq_true (by omega))
     rw [decide_eq_false hd]
     exact ⟨by simp,rfl,_,rfl⟩
  ·rintro ys σ H2 ⟨rfl,rfl,u2,rfl⟩
   rw [List.length_map,List.take_length]
   have hs:=zapv ok (ls:=ls) (m:=i) isn ism
   obtain ⟨fl,efl⟩:∃ fl,fl=is.filter fun n=>decide (ls.getD n 0≤i):=⟨_,rfl⟩
   have fll:fl.length≤10:=by rw [efl]; exact Nat.le_trans (List.length_filter_le _ _) isl
   rw [← efl] at hs ⊢
   walk_at "rd"
   rename_i D hD r ys H3 c3 hr3 ll3
   have c23:Ch [] H2 H3:=(Ch.new hD _).trans c3
   have hg3:=c23.get hg1 (by simp)
   have gg3:=gg1.tu (Tu.same c23)
   clear hll1 hcl1 hg1 gg1
   refine zac1 (xs:=ys) (fun j σ H'=>∃ (v:Option V),σ=[some (.ref gl),some (.ref ll),some (.int (g:Int)),some (.ref cl),some (.int (0 + (i:Int))),v]∧Ch [] H3 H'∧∀ s∈(setsN fl).take j,¬ Sht gs s g) ⟨_,rfl,Ch.refl _ _,by simp⟩ ?_ ?_ ?_
   ·rintro j σ H' hj ⟨v,rfl,c4,_⟩
    exact SqL.of (c4.get hr3 (by simp))
   ·rintro j x σ H' hx ⟨v,rfl,c4,ns⟩
    obtain ⟨s,p,es,rfl,hp⟩:=(ll3.ch c4).at_ hx
    have s4:=((zaej _ _).mp (List.mem_of_getElem? es)).2
    have tk:(setsN fl).take (j + 1)=(setsN fl).take j++[s]:=by rw [List.take_add_one,es]; rfl
    have hg4:=c4.get hg3 (by simp)
    have gg4:=gg3.tu (Tu.same c4)
    clear hg3 gg3
    walk_at "rd"
    rename_i bs H5 c5 o5
    have sh:=Sht.of ok (fun n=>Iff.rfl) (g:=g) o5
    rw [efw] at sh
    cases e9:(b.feeds.any fun a=>bs.getD a false) with
    | false =>
     have hsh:Sht gs s g:=sh.mpr fun a ha=>by
      have:=List.any_eq_false.mp e9 a ha
      simpa using this
     have lm:LeastM gs ls g i:=⟨by omega,fun _=>hs.mpr ⟨s,List.mem_of_getElem? es,hsh⟩,no⟩
     have z0:(0:Int) + (i:Int)=(i:Int):=by omega
     refine iteT ?_
     walk_at "rd"
     rw [z0]
     exact q i H5 (c1.trans (c23.trans (c4.trans c5))) lm
    | true =>
     have hsh:¬ Sht gs s g:=fun z=>by
      have:=sh.mp z
      obtain ⟨a,ha,k⟩:=List.any_eq_true.mp e9
      rw [this a ha] at k; cases k
     refine iteF ?_
     walk_at "rd"
     rename_i t ht hz
     rw [tk] at ht
     rcases List.mem_append.mp ht with ht | ht
     ·exact ns t ht hz
     ·rw [List.mem_singleton.mp ht] at hz; exact hsh hz
   ·rintro σ H' ⟨v,rfl,c4,ns⟩
    rw [ll3.len,List.take_length] at ns
    refine ⟨_,_,rfl,c1.trans (c23.trans c4),fun m' hm' h=>?_⟩
    by_cases z:m'=i
    ·subst z
     obtain ⟨s,hs1,hs2⟩:=hs.mp h
     exact ns s hs1 hs2
    ·exact no m' (by omega) h
 ·rintro σ H1 ⟨u,v,rfl,c1,no⟩
  have hg1:=c1.get hg (by simp)
  walk_at "rd"
  rw [lx]
  exact q gs.length H1 c1 ⟨Nat.le_refl _,fun h=>absurd h (by omega),fun m' h=>no m' (by omega)⟩
theorem av36:AF (defScope (top 36)) ["_law_gates", "_law_most", "_law_layers", "_law_gate", "_law_cone_here"]:=⟨by decide +kernel⟩
theorem gl36:AG (defScope (top 36)) ["range", "len", "_law_cone", "_law_is_source", "_law_least_set"]:=⟨by decide +kernel⟩
def spShl:Sp:=fun vs H Q _=>∃ (gl:Addr) (gs:List Gt) (xs:List V),vs=[.ref gl,.int 10]∧H gl=some (.lst xs)∧Gs H gs xs∧Oks gs∧gs.length < 64 ∧
 (∀ H',Ch [] H H'→Q .non H')∧∀ (ll:Addr) (ls:List Nat) (H':Hp),Ch [] H H'→H' ll=some (.lst (ls.map nV))→Lay gs gs.length ls→Q (.ref ll) H'
theorem scShl:FnScope ["_law_gates", "_law_most", "_law_layers", "_law_gate", "_law_cone_here"] ["_law_gates", "_law_most"] (defScope (top 36)):=⟨rfl,rfl,rfl,by decide +kernel,rfl,by decide +kernel,by decide +kernel⟩
theorem zauw (F:Fun K "_law_shallow" "_law_shallow" (top 36) f fd) (D_law_cone:DefOk P w K mg base CX0 k "_law_cone" ["_law_gates", "_law_gate"] spCone) (D_law_is_source:DefOk P w K mg base CX0 k "_law_is_source" ["_law_gates", "_law_number"] spLSrc) (D_law_least_set:DefOk P w K mg base CX0 k "_law_least_set" ["_law_gates", "_law_layers", "_law_gate", "_law_cone_here"] spLse) (z_len:mg "len" = none) (z_range:mg "range" = none):FnOk P w K mg base CX0 (k + 1) f fd ["_law_gates", "_law_most"] spShl:=by
 have nd:=scShl.nd
 refine F.ok scShl (fun vs H Q E h=>by obtain ⟨gl,gs,xs,rfl,_⟩:=h; rfl) (fun cdv A outer s0 H vs Q E hr h=>?_)
 obtain ⟨gl,gs,xs,rfl,hg,gg,ok,zg,q1,q2⟩:=h
 have hu:=zadw hr
 refine ⟨_,(Pr.h (zaav (zaat (i:=2) nd rfl (av36.l 2 rfl) (zabc zaab)) (zaah (zabf PassesOwn.never rfl (zabx (gl36.g 0 rfl) z_range (zaaa (zaaf zaai (gl36.g 1 rfl) z_len PySem.boot_len (zaaa (qv av36 0 rfl) zaab zaae) zaa6 zaa7) zaab zac2)) (zaar (i:=3) nd rfl (av36.l 3 rfl)) (zaav (zaat (i:=4) nd rfl (av36.l 4 rfl) (zac3 zal7 (zaap D_law_cone hr (gl36.g 2 rfl) pass0 (zaaa (qv av36 0 rfl) (zaaa (qv av36 3 rfl) zaab zaae) zaae) zajd) zadk (zadl (zamk zalr zaad)))) (zaah (zaa4 (zaaq zafk (zaaf zaai (gl36.g 1 rfl) z_len PySem.boot_len (zaaa (qv av36 4 rfl) zaab zaae) zaa6 zaa7) (qv av36 1 rfl) (nomark _)) (zaag (zaas zacr)) zaau) (zaag (zaa4 (zabj (zaap D_law_is_source hr (gl36.g 3 rfl) pass0 (zaaa (qv av36 0 rfl) (zaaa (qv av36 3 rfl) zaab zaae) zaae) zade)) (zaag (zabg (zacf PySem.F.plainAttrs_list PySem.F.slot_list_append PySem.F.type_list_append zabd (qv av36 2 rfl) (zaaa zaad zaab zaaj)))) (zaag (zabg (zacf PySem.F.plainAttrs_list PySem.F.slot_list_append PySem.F.type_list_append zabd (qv av36 2 rfl) (zaaa (zaan zabv zaad (zaap D_law_least_set hr (gl36.g 4 rfl) pass0 (zaaa (qv av36 0 rfl) (zaaa (qv av36 2 rfl) (zaaa (qv av36 3 rfl) (zaaa (qv av36 4 rfl) zaab zaae) zaae) zaae) zaae) zae3)) zaab zaaz))))))))) (zaag (zaas (qv av36 2 rfl)))))),?_⟩
 (try dsimp only [cxOf])
 have lx:=gg.len
 refine zaa9 (fun σ H'=>∃ ll,σ=[some (.ref gl),some (.int 10),some (.ref ll),none,none]∧Ch [] H H'∧H' ll=some (.lst [])∧H ll=none) ?_ ?_
 ·walk_at "rd"
 rintro σ H1 ⟨ll,rfl,c1,hll1,fll⟩
 have hg1:=c1.get hg (by simp)
 have lay0:Lay gs 0 []:=⟨rfl,fun j h=>absurd h (by omega),fun j h=>absurd h (by omega)⟩
 walk_at "rd"
 refine zabw (fun i σ H'=>∃ (ls:List Nat) (u v:Option V),σ=[some (.ref gl),some (.int 10),some (.ref ll),u,v]∧Ch [] H H'∧H' ll=some (.lst (ls.map nV))∧Lay gs i ls) ⟨[],_,_,rfl,c1,hll1,lay0⟩ ?_ ?_
 ·rintro i σ H2 hi ⟨ls,u,v,rfl,c2,hll2,lay⟩
  have hi2:i < gs.length:=by have:=hi; omega
  have hg2:=c2.get hg (by simp)
  have gg2:=gg.tu (Tu.same c2)
  have lsl:=lay.len
  obtain ⟨b,eb⟩:∃ b,gs[i]?=some b:=⟨_,List.getElem?_eq_getElem hi2⟩
  have hsb:=zass eb
  have z0:(0:Int) + (i:Int)=(i:Int):=by omega
  clear hg1 hll1 c1
  rw [z0]
  walk_at "rd"
  refine zaa9 (fun σ H'=>∃ (cl:Addr) (is:List Nat),σ=[some (.ref gl),some (.int 10),some (.ref ll),some (.int (i:Int)),some (.ref cl)]∧Ch [] H2 H'∧H' cl=some (.lst (is.map nV))∧is.length≤64∧is.Nodup∧∀ n,n∈is↔Dn gs [] i n∧n≠i) ?_ ?_
  ·walk_at "rd"
   rename_i r is H4 c4 fr hr gi isl isn ism p hp
   refine ⟨(?_:_=some (HO.lst (is.map nV))),isl,(List.nodup_append.mp isn).1,fun n=>?_⟩
   ·rw [zaac,zapw (n:=is.length) (by simp),List.map_append,List.take_left' (by simp)]
   ·constructor
    ·intro h
     exact ⟨(ism n).mp (List.mem_append_left _ h),fun z=>gi (z ▸ h)⟩
    ·rintro ⟨h1,h2⟩
     rcases List.mem_append.mp ((ism n).mpr h1) with z | z
     ·exact z
     ·exact absurd (List.mem_singleton.mp z) h2
  rintro σ H3 ⟨cl,is,rfl,c3,hcl,isl,isn,ism⟩
  have hg3:=c3.get hg2 (by simp)
  have gg3:=gg2.tu (Tu.same c3)
  have hll3:=c3.get hll2 (by simp)
  have c23:=c2.trans c3
  clear hg2 gg2 hll2 c2 c3
  walk_at "rd"
  refine ite2 (fun hc=>?_) (fun hc=>?_)
  ·walk_at "rd"
   exact q1 H3 c23
  ·have hil:is.length≤10:=by
    have h9:¬ (10:Int) < ((is.map nV).length:Int):=fun z=>hc (decide_eq_true z)
    rw [List.length_map] at h9; omega
   walk_at "rd"
   rename_i H4 c4
   have hg4:=c4.get hg3 (by simp)
   have gg4:=gg3.tu (Tu.same c4)
   have hll4:=c4.get hll3 (by simp)
   have hcl4:=c4.get hcl (by simp)
   have c34:=c23.trans c4
   clear hg3 gg3 hll3 hcl c23 c4
   cases hs:b.src with
   | true =>
    refine iteT ?_
    have lay6:Lay gs (i + 1) (ls++[0]):=lay.push ok (fun _=>rfl) (fun z=>by rw [hsb,hs] at z; cases z)
    walk_at "rd"
    exact ⟨by rw [zaac,List.map_append]; rfl,lay6⟩
   | false =>
    refine iteF ?_
    walk_at "rd"
    rename_i m H5 c5 lm
    refine ⟨(?_:_=some (HO.lst ((ls++[1 + m]).map nV))),lay.push ok (fun z=>by rw [hsb,hs] at z; cases z) (fun _=>⟨m,rfl,lm⟩)⟩
    rw [zaac,List.map_append]; rfl
 ·rintro σ H2 ⟨ls,u,v,rfl,c2,hll2,lay⟩
  have e:((xs.length:Int)).toNat=gs.length:=by omega
  rw [e] at lay
  walk_at "rd"
  exact q2 ll ls H2 c2 hll2 lay
end
end

section
def Eqv:Nat→Hp→V→V→Prop
 | 0,_,_,_=>False
 | n + 1,H,x,y=>(∃ k:Key,x=kV k∧y=kV k)∨(∃ (p r:Addr) (xs ys:List V),x=.ref p∧y=.ref r∧H p=some (.tup xs)∧H r=some (.tup ys)∧Paired (Eqv n H) xs ys∧xs.length≤300) ∨
  ∃ (p r:Addr) (xs ys:List V),x=.ref p∧y=.ref r∧H p=some (.lst xs)∧H r=some (.lst ys)∧Paired (Eqv n H) xs ys∧xs.length≤300
theorem Eqv.ch {H H':Hp} (c:Ch [] H H'):∀ {n:Nat}{x y:V},Eqv n H x y→Eqv n H' x y
 | 0,_,_,h=>h
 | n + 1,x,y,h=>by
  rcases h with h | ⟨p,r,xs,ys,e1,e2,g1,g2,pr,l⟩ | ⟨p,r,xs,ys,e1,e2,g1,g2,pr,l⟩
  ·exact .inl h
  ·exact .inr (.inl ⟨p,r,xs,ys,e1,e2,c.get g1 (by simp),c.get g2 (by simp),zacj (fun _ _=>Eqv.ch c) pr,l⟩)
  ·exact .inr (.inr ⟨p,r,xs,ys,e1,e2,c.get g1 (by simp),c.get g2 (by simp),zacj (fun _ _=>Eqv.ch c) pr,l⟩)
section
variable {P:Program}{w:World}{K:PySem.W.Frag}{mg:Str→Option Value}{base:Heap}{f:Addr}{fd:FuncData}{k:Nat}
theorem zab3:Nd "_law_same" := by decide +kernel
theorem av25:AF (defScope (top 25)) ["_law_found", "_law_due"]:=⟨by decide +kernel⟩
theorem gl25:AG (defScope (top 25)) ["isinstance", "dict", "len", "all", "tuple", "list", "zip", "str", "bool", "int"]:=⟨by decide +kernel⟩
def zah2:Scope:={ kind:=PySem.ScopeKind.function,names:=[ (PySem.Str.ofString ".0",PySem.NameKind.local),(PySem.Str.ofString "_law_name",PySem.NameKind.local),(PySem.Str.ofString "_law_same",PySem.NameKind.globalImplicit),(PySem.Str.ofString "_law_due",PySem.NameKind.free),(PySem.Str.ofString "_law_found",PySem.NameKind.free)],isGenerator:=false,isCoroutine:=false,more:=[]:PySem.Scope }
theorem zae4:CompOk zah2 (defScope (top 25)) (["_law_name"]:List Str) (["_law_found", "_law_due"]:List Str) [0,1] (["_law_name", "_law_found", "_law_due"]:List Str):=compOk rfl (by decide +kernel) (by decide +kernel) (by decide +kernel) (by decide +kernel) rfl (by decide +kernel)
theorem zae5:AK (relab zah2 (defScope (top 25))) ["_law_name"]:=⟨by decide +kernel⟩
theorem zaka:AG (relab zah2 (defScope (top 25))) ["_law_same"]:=⟨by decide +kernel⟩
theorem zaby:AV (relab zah2 (defScope (top 25))) ["_law_name", "_law_found", "_law_due"]:=⟨by decide +kernel⟩
def zah3:Scope:={ kind:=PySem.ScopeKind.function,names:=[ (PySem.Str.ofString ".0",PySem.NameKind.local),(PySem.Str.ofString "_law_one",PySem.NameKind.local),(PySem.Str.ofString "_law_other",PySem.NameKind.local),(PySem.Str.ofString "_law_same",PySem.NameKind.globalImplicit)],isGenerator:=false,isCoroutine:=false,more:=[]:PySem.Scope }
theorem zadu:CompOk zah3 (defScope (top 25)) (["_law_one", "_law_other"]:List Str) (["_law_found", "_law_due"]:List Str) [] (["_law_one", "_law_other"]:List Str):=compOk rfl (by decide +kernel) (by decide +kernel) (by decide +kernel) (by decide +kernel) rfl (by decide +kernel)
theorem zacu:AK (relab zah3 (defScope (top 25))) ["_law_one", "_law_other"]:=⟨by decide +kernel⟩
theorem zakb:AG (relab zah3 (defScope (top 25))) ["_law_same"]:=⟨by decide +kernel⟩
theorem zae6:AV (relab zah3 (defScope (top 25))) ["_law_one", "_law_other"]:=⟨by decide +kernel⟩
structure EqvS (n:Nat) (H:Hp) (x y:V):Prop where
 h:Eqv n H x y
def spSame (n:Nat):Sp:=fun vs H Q _=>∃ (x y:V),vs=[x,y]∧EqvS n H x y∧∀ H',Ch [] H H'→Q (.bl true) H'
theorem scSame:FnScope ["_law_found", "_law_due"] ["_law_found", "_law_due"] (defScope (top 25)):=⟨rfl,rfl,rfl,by decide +kernel,rfl,by decide +kernel,by decide +kernel⟩
theorem zapx (F:Fun K "_law_same" "_law_same" (top 25) f fd):FnOk P w K mg base CX0 (k + 1) f fd ["_law_found", "_law_due"] (spSame 0) :=
 F.ok scSame (fun vs H Q E h=>by obtain ⟨x,y,rfl,_⟩:=h; rfl) (fun cdv A outer s H vs Q E hr h=>by obtain ⟨_,_,_,e,_⟩:=h; exact e.h.elim)
theorem zaob (n:Nat) (F:Fun K "_law_same" "_law_same" (top 25) f fd) (D_law_same:DefOk P w K mg base CX0 k "_law_same" ["_law_found", "_law_due"] (spSame n)) (z_isinstance:mg "isinstance" = none) (z_dict:mg "dict" = none) (z_list:mg "list" = none) (z_tuple:mg "tuple" = none) (z_str:mg "str" = none) (z_int:mg "int" = none) (z_bool:mg "bool" = none) (z_len:mg "len" = none) (z_all:mg "all" = none) (z_zip:mg "zip" = none) :
  FnOk P w K mg base CX0 (k + 1) f fd ["_law_found", "_law_due"] (spSame (n + 1)):=by
 have nd:=scSame.nd
 refine F.ok scSame (fun vs H Q E h=>by obtain ⟨x,y,rfl,_⟩:=h; rfl) (fun cdv A outer s H vs Q E hr h=>?_)
 obtain ⟨x,y,rfl,⟨e⟩,q⟩:=h
 rcases e with ⟨kk,rfl,rfl⟩ | ⟨p,r,xs,ys,rfl,rfl,g1,g2,pr,l⟩ | ⟨p,r,xs,ys,rfl,rfl,g1,g2,pr,l⟩
 ·refine ⟨_,(Pr.h (zaah (zaa4 (zaaq zae7 (qv av25 1 rfl) zacr (nomark _)) (zaag (zaas (zabu zae7 (qv av25 0 rfl) zacr (nomark _)))) zaau) (zaah (zaa4 (zabj (zaaf zaax (gl25.g 0 rfl) z_isinstance zaak (zaaa (qv av25 1 rfl) (zaaa (zaay (v:=.ty "dict") (gl25.g 1 rfl) z_dict zad1 rfl zad2 zad3) zaab)) zaal zaam)) (zaah (zaa4 (zacg (zac6 (zadx (zabj (zaaf zaax (gl25.g 0 rfl) z_isinstance zaak (zaaa (qv av25 0 rfl) (zaaa (zaay (v:=.ty "dict") (gl25.g 1 rfl) z_dict zad1 rfl zad2 zad3) zaab)) zaal zaam))) (zacs (zaaq zaeb (zaaf zaai (gl25.g 2 rfl) z_len PySem.boot_len (zaaa (qv av25 0 rfl) zaab zaae) zaa6 zaa7) (zaaf zaai (gl25.g 2 rfl) z_len PySem.boot_len (zaaa (qv av25 1 rfl) zaab zaae) zaa6 zaa7) (nomark _))))) (zaag (zaas zab1)) zaau) (zaag (zaas (zaaf (zadn rfl) (gl25.g 3 rfl) z_all zagb (zaaa (zabl rfl zae4 (zabq (qv av25 1 rfl)) (fun _ _ _ _ _=>(zaar (i:=0) zae4.nd rfl (Or.inl (zae5.k 0 rfl)) (Or.inr (zae5.k 0 rfl)))) (fun _ _ _ _ _=>zab0) (fun _ _ _ _ _=>(zaca (zabu (zaex K rfl) (qw zaby 0 rfl) (qw zaby 1 rfl) rfl) (zact (zaap D_law_same hr (zaka.g 0 rfl) pass0 (zaaa (zaa2 (zacn K rfl) (qw zaby 1 rfl) (qw zaby 0 rfl) (fun _ _=>rfl)) (zaaa (zaa2 (zacn K rfl) (qw zaby 2 rfl) (qw zaby 0 rfl) (fun _ _=>rfl)) zaab zaaw) zaaw) zab3))))) zaab zabe) zagc zagd)))) zaau) (zaah (zaa4 (zacg (zac6 (zabj (zaaf zaax (gl25.g 0 rfl) z_isinstance zaak (zaaa (qv av25 1 rfl) (zaaa (zaay (v:=.ty "list") (gl25.g 5 rfl) z_list zacc rfl zacd zace) zaab)) zaal zaam)) (zacs (zabj (zaaf zaax (gl25.g 0 rfl) z_isinstance zaak (zaaa (qv av25 1 rfl) (zaaa (zaay (v:=.ty "tuple") (gl25.g 4 rfl) z_tuple zab7 rfl zab8 zab9) zaab)) zaal zaam))))) (zaah (zaa4 (zaaq zaeb (zaaf zaax (gl25.g 0 rfl) z_isinstance zaak (zaaa (qv av25 0 rfl) (zaaa (zaay (v:=.ty "list") (gl25.g 5 rfl) z_list zacc rfl zacd zace) zaab)) zaal zaam) (zaaf zaax (gl25.g 0 rfl) z_isinstance zaak (zaaa (qv av25 1 rfl) (zaaa (zaay (v:=.ty "list") (gl25.g 5 rfl) z_list zacc rfl zacd zace) zaab)) zaal zaam) (nomark _)) (zaag (zaas zab1)) zaau) (zaah (zaa4 (zacg (zac6 (zaaq zaeb (zaaf zaax (gl25.g 0 rfl) z_isinstance zaak (zaaa (qv av25 0 rfl) (zaaa (zaay (v:=.ty "tuple") (gl25.g 4 rfl) z_tuple zab7 rfl zab8 zab9) zaab)) zaal zaam) (zaaf zaax (gl25.g 0 rfl) z_isinstance zaak (zaaa (qv av25 1 rfl) (zaaa (zaay (v:=.ty "tuple") (gl25.g 4 rfl) z_tuple zab7 rfl zab8 zab9) zaab)) zaal zaam) (nomark _)) (zacs (zaaq zaeb (zaaf zaai (gl25.g 2 rfl) z_len PySem.boot_len (zaaa (qv av25 0 rfl) zaab zaae) zaa6 zaa7) (zaaf zaai (gl25.g 2 rfl) z_len PySem.boot_len (zaaa (qv av25 1 rfl) zaab zaae) zaa6 zaa7) (nomark _))))) (zaag (zaas zab1)) zaau) (zaag (zaas (zaaf (zadn rfl) (gl25.g 3 rfl) z_all zagb (zaaa (zabl rfl zadu (zajl .list .list (gl25.g 6 rfl) z_zip (zaaa (qv av25 0 rfl) (zaaa (qv av25 1 rfl) zaab zaae) zaae)) (fun _ _ _ _ _=>(zahk K 2 rfl rfl (zabk (zaar (i:=0) zadu.nd rfl (Or.inl (zacu.k 0 rfl)) (Or.inr (zacu.k 0 rfl))) (zabk (zaar (i:=1) zadu.nd rfl (Or.inl (zacu.k 1 rfl)) (Or.inr (zacu.k 1 rfl))) zac7)))) (fun _ _ _ _ _=>zab0) (fun _ _ _ _ _=>(zaap D_law_same hr (zakb.g 0 rfl) pass0 (zaaa (qw zae6 0 rfl) (zaaa (qw zae6 1 rfl) zaab zaae) zaae) zab3))) zaab zabe) zagc zagd))))) zaau) (zaah (zaa4 (zabj (zaaf zaax (gl25.g 0 rfl) z_isinstance zaak (zaaa (qv av25 1 rfl) (zaaa (zaay (v:=.ty "str") (gl25.g 7 rfl) z_str zaf8 rfl zaf9 zaga) zaab)) zaal zaam)) (zaag (zaas (zaca (zaaf zaax (gl25.g 0 rfl) z_isinstance zaak (zaaa (qv av25 0 rfl) (zaaa (zaay (v:=.ty "str") (gl25.g 7 rfl) z_str zaf8 rfl zaf9 zaga) zaab)) zaal zaam) (zact (zabu zada (qv av25 0 rfl) (qv av25 1 rfl) (nomark _)))))) zaau) (zaag (zaas (zaca (zaaf zaax (gl25.g 0 rfl) z_isinstance zaak (zaaa (qv av25 0 rfl) (zaaa (zaay (v:=.ty "int") (gl25.g 9 rfl) z_int zaio rfl zaip zaiq) zaab)) zaal zaam) (zaca (zaft (zaaf zaax (gl25.g 0 rfl) z_isinstance zaak (zaaa (qv av25 0 rfl) (zaaa (zaay (v:=.ty "bool") (gl25.g 8 rfl) z_bool zahq rfl zahr zahs) zaab)) zaal zaam)) (zact (zabu zada (qv av25 0 rfl) (qv av25 1 rfl) (nomark _)))))))))))),?_⟩
  (try dsimp only [cxOf])
  cases kk with
  | inl b =>
   dsimp only [kV]
   walk_at "rd"
   rw [decide_eq_true rfl]
   exact q _ (Ch.refl _ _)
  | inr b =>
   dsimp only [kV]
   walk_at "rd"
   rw [decide_eq_true rfl]
   exact q _ (Ch.refl _ _)
 ·have el:=Paired.length pr
  refine ⟨_,(Pr.h (zaah (zaa4 (zaaq zae7 (qv av25 1 rfl) zacr (nomark _)) (zaag (zaas (zabu zae7 (qv av25 0 rfl) zacr (nomark _)))) zaau) (zaah (zaa4 (zabj (zaaf zaax (gl25.g 0 rfl) z_isinstance zaak (zaaa (qv av25 1 rfl) (zaaa (zaay (v:=.ty "dict") (gl25.g 1 rfl) z_dict zad1 rfl zad2 zad3) zaab)) zaal zaam)) (zaah (zaa4 (zacg (zac6 (zadx (zabj (zaaf zaax (gl25.g 0 rfl) z_isinstance zaak (zaaa (qv av25 0 rfl) (zaaa (zaay (v:=.ty "dict") (gl25.g 1 rfl) z_dict zad1 rfl zad2 zad3) zaab)) zaal zaam))) (zacs (zaaq zaeb (zaaf zaai (gl25.g 2 rfl) z_len PySem.boot_len (zaaa (qv av25 0 rfl) zaab zaae) zaa6 zaa7) (zaaf zaai (gl25.g 2 rfl) z_len PySem.boot_len (zaaa (qv av25 1 rfl) zaab zaae) zaa6 zaa7) (nomark _))))) (zaag (zaas zab1)) zaau) (zaag (zaas (zaaf (zadn rfl) (gl25.g 3 rfl) z_all zagb (zaaa (zabl rfl zae4 (zafu (qv av25 1 rfl)) (fun _ _ _ _ _=>(zaar (i:=0) zae4.nd rfl (Or.inl (zae5.k 0 rfl)) (Or.inr (zae5.k 0 rfl)))) (fun _ _ _ _ _=>zab0) (fun _ _ _ _ _=>(zaca (zabu (zaex K rfl) (qw zaby 0 rfl) (qw zaby 1 rfl) rfl) (zact (zaap D_law_same hr (zaka.g 0 rfl) pass0 (zaaa (zaa2 (zahi K rfl) (qw zaby 1 rfl) (qw zaby 0 rfl) (fun _ _=>rfl)) (zaaa (zaa2 (zahi K rfl) (qw zaby 2 rfl) (qw zaby 0 rfl) (fun _ _=>rfl)) zaab zaaw) zaaw) zab3))))) zaab zabe) zagc zagd)))) zaau) (zaah (zaa4 (zacg (zac6 (zabj (zaaf zaax (gl25.g 0 rfl) z_isinstance zaak (zaaa (qv av25 1 rfl) (zaaa (zaay (v:=.ty "list") (gl25.g 5 rfl) z_list zacc rfl zacd zace) zaab)) zaal zaam)) (zacs (zabj (zaaf zaax (gl25.g 0 rfl) z_isinstance zaak (zaaa (qv av25 1 rfl) (zaaa (zaay (v:=.ty "tuple") (gl25.g 4 rfl) z_tuple zab7 rfl zab8 zab9) zaab)) zaal zaam))))) (zaah (zaa4 (zaaq zaeb (zaaf zaax (gl25.g 0 rfl) z_isinstance zaak (zaaa (qv av25 0 rfl) (zaaa (zaay (v:=.ty "list") (gl25.g 5 rfl) z_list zacc rfl zacd zace) zaab)) zaal zaam) (zaaf zaax (gl25.g 0 rfl) z_isinstance zaak (zaaa (qv av25 1 rfl) (zaaa (zaay (v:=.ty "list") (gl25.g 5 rfl) z_list zacc rfl zacd zace) zaab)) zaal zaam) (nomark _)) (zaag (zaas zab1)) zaau) (zaah (zaa4 (zacg (zac6 (zaaq zaeb (zaaf zaax (gl25.g 0 rfl) z_isinstance zaak (zaaa (qv av25 0 rfl) (zaaa (zaay (v:=.ty "tuple") (gl25.g 4 rfl) z_tuple zab7 rfl zab8 zab9) zaab)) zaal zaam) (zaaf zaax (gl25.g 0 rfl) z_isinstance zaak (zaaa (qv av25 1 rfl) (zaaa (zaay (v:=.ty "tuple") (gl25.g 4 rfl) z_tuple zab7 rfl zab8 zab9) zaab)) zaal zaam) (nomark _)) (zacs (zaaq zaeb (zaaf zaai (gl25.g 2 rfl) z_len PySem.boot_len (zaaa (qv av25 0 rfl) zaab zaae) zaa6 zaa7) (zaaf zaai (gl25.g 2 rfl) z_len PySem.boot_len (zaaa (qv av25 1 rfl) zaab zaae) zaa6 zaa7) (nomark _))))) (zaag (zaas zab1)) zaau) (zaag (zaas (zaaf (zadn rfl) (gl25.g 3 rfl) z_all zagb (zaaa (zabl rfl zadu (zajl .tuple .tuple (gl25.g 6 rfl) z_zip (zaaa (qv av25 0 rfl) (zaaa (qv av25 1 rfl) zaab zaae) zaae)) (fun _ _ _ _ _=>(zahk K 2 rfl rfl (zabk (zaar (i:=0) zadu.nd rfl (Or.inl (zacu.k 0 rfl)) (Or.inr (zacu.k 0 rfl))) (zabk (zaar (i:=1) zadu.nd rfl (Or.inl (zacu.k 1 rfl)) (Or.inr (zacu.k 1 rfl))) zac7)))) (fun _ _ _ _ _=>zab0) (fun _ _ _ _ _=>(zaap D_law_same hr (zakb.g 0 rfl) pass0 (zaaa (qw zae6 0 rfl) (zaaa (qw zae6 1 rfl) zaab zaae) zaae) zab3))) zaab zabe) zagc zagd))))) zaau) (zaah (zaa4 (zabj (zaaf zaax (gl25.g 0 rfl) z_isinstance zaak (zaaa (qv av25 1 rfl) (zaaa (zaay (v:=.ty "str") (gl25.g 7 rfl) z_str zaf8 rfl zaf9 zaga) zaab)) zaal zaam)) (zaag (zaas (zaca (zaaf zaax (gl25.g 0 rfl) z_isinstance zaak (zaaa (qv av25 0 rfl) (zaaa (zaay (v:=.ty "str") (gl25.g 7 rfl) z_str zaf8 rfl zaf9 zaga) zaab)) zaal zaam) (zact (zabu (zap9 hr.units) (qv av25 0 rfl) (qv av25 1 rfl) (nomark _)))))) zaau) (zaag (zaas (zaca (zaaf zaax (gl25.g 0 rfl) z_isinstance zaak (zaaa (qv av25 0 rfl) (zaaa (zaay (v:=.ty "int") (gl25.g 9 rfl) z_int zaio rfl zaip zaiq) zaab)) zaal zaam) (zaca (zaft (zaaf zaax (gl25.g 0 rfl) z_isinstance zaak (zaaa (qv av25 0 rfl) (zaaa (zaay (v:=.ty "bool") (gl25.g 8 rfl) z_bool zahq rfl zahr zahs) zaab)) zaal zaam)) (zact (zabu (zap9 hr.units) (qv av25 0 rfl) (qv av25 1 rfl) (nomark _)))))))))))),?_⟩
  (try dsimp only [cxOf])
  walk_at "rd"
  refine iteNn (by rw [el]) ?_
  walk_at "rd"
  refine zakm xs ys (fun j zs σ H'=>Ch [] H H'∧zs=List.replicate j (V.bl true)∧∃ u v,σ=[u,v]) (by rw [sizeLine_eq]; omega) el ⟨Ch.refl _ _,rfl,_,_,rfl⟩ ?_ ?_ ?_
  ·rintro j zs σ H' hj ⟨c,rfl,_⟩
   exact ⟨by simp,SqT.of (c.get g1 (by simp)),SqT.of (c.get g2 (by simp))⟩
  ·rintro j zs σ H' x z T hx hz ⟨c,rfl,u,v,rfl⟩ hT
   obtain ⟨j1,rfl⟩:=List.getElem?_eq_some_iff.mp hx
   obtain ⟨j2,rfl⟩:=List.getElem?_eq_some_iff.mp hz
   have ee:EqvS n (upd H' T (.tup [xs[j],ys[j]])) xs[j] ys[j]:=⟨Eqv.ch (c.trans (Ch.new hT _)) (zaf4 pr j j1 j2)⟩
   walk_at "rd"
   exact ⟨by rw [← List.replicate_succ'],_,_,rfl⟩
  ·rintro zs σ H' ⟨c,rfl,_⟩
   intro D hD
   refine ⟨D,List.replicate xs.length true,rfl,by rw [zaac,List.map_replicate],?_⟩
   rw [show (List.replicate xs.length true).all id=true from by simp [List.all_replicate]]
   exact q _ (c.trans (Ch.new hD _))
 ·have el:=Paired.length pr
  refine ⟨_,(Pr.h (zaah (zaa4 (zaaq zae7 (qv av25 1 rfl) zacr (nomark _)) (zaag (zaas (zabu zae7 (qv av25 0 rfl) zacr (nomark _)))) zaau) (zaah (zaa4 (zabj (zaaf zaax (gl25.g 0 rfl) z_isinstance zaak (zaaa (qv av25 1 rfl) (zaaa (zaay (v:=.ty "dict") (gl25.g 1 rfl) z_dict zad1 rfl zad2 zad3) zaab)) zaal zaam)) (zaah (zaa4 (zacg (zac6 (zadx (zabj (zaaf zaax (gl25.g 0 rfl) z_isinstance zaak (zaaa (qv av25 0 rfl) (zaaa (zaay (v:=.ty "dict") (gl25.g 1 rfl) z_dict zad1 rfl zad2 zad3) zaab)) zaal zaam))) (zacs (zaaq zaeb (zaaf zaai (gl25.g 2 rfl) z_len PySem.boot_len (zaaa (qv av25 0 rfl) zaab zaae) zaa6 zaa7) (zaaf zaai (gl25.g 2 rfl) z_len PySem.boot_len (zaaa (qv av25 1 rfl) zaab zaae) zaa6 zaa7) (nomark _))))) (zaag (zaas zab1)) zaau) (zaag (zaas (zaaf (zadn rfl) (gl25.g 3 rfl) z_all zagb (zaaa (zabl rfl zae4 (zabq (qv av25 1 rfl)) (fun _ _ _ _ _=>(zaar (i:=0) zae4.nd rfl (Or.inl (zae5.k 0 rfl)) (Or.inr (zae5.k 0 rfl)))) (fun _ _ _ _ _=>zab0) (fun _ _ _ _ _=>(zaca (zabu (zaex K rfl) (qw zaby 0 rfl) (qw zaby 1 rfl) rfl) (zact (zaap D_law_same hr (zaka.g 0 rfl) pass0 (zaaa (zaa2 (zacn K rfl) (qw zaby 1 rfl) (qw zaby 0 rfl) (fun _ _=>rfl)) (zaaa (zaa2 (zacn K rfl) (qw zaby 2 rfl) (qw zaby 0 rfl) (fun _ _=>rfl)) zaab zaaw) zaaw) zab3))))) zaab zabe) zagc zagd)))) zaau) (zaah (zaa4 (zacg (zac6 (zabj (zaaf zaax (gl25.g 0 rfl) z_isinstance zaak (zaaa (qv av25 1 rfl) (zaaa (zaay (v:=.ty "list") (gl25.g 5 rfl) z_list zacc rfl zacd zace) zaab)) zaal zaam)) (zacs (zabj (zaaf zaax (gl25.g 0 rfl) z_isinstance zaak (zaaa (qv av25 1 rfl) (zaaa (zaay (v:=.ty "tuple") (gl25.g 4 rfl) z_tuple zab7 rfl zab8 zab9) zaab)) zaal zaam))))) (zaah (zaa4 (zaaq zaeb (zaaf zaax (gl25.g 0 rfl) z_isinstance zaak (zaaa (qv av25 0 rfl) (zaaa (zaay (v:=.ty "list") (gl25.g 5 rfl) z_list zacc rfl zacd zace) zaab)) zaal zaam) (zaaf zaax (gl25.g 0 rfl) z_isinstance zaak (zaaa (qv av25 1 rfl) (zaaa (zaay (v:=.ty "list") (gl25.g 5 rfl) z_list zacc rfl zacd zace) zaab)) zaal zaam) (nomark _)) (zaag (zaas zab1)) zaau) (zaah (zaa4 (zacg (zac6 (zaaq zaeb (zaaf zaax (gl25.g 0 rfl) z_isinstance zaak (zaaa (qv av25 0 rfl) (zaaa (zaay (v:=.ty "tuple") (gl25.g 4 rfl) z_tuple zab7 rfl zab8 zab9) zaab)) zaal zaam) (zaaf zaax (gl25.g 0 rfl) z_isinstance zaak (zaaa (qv av25 1 rfl) (zaaa (zaay (v:=.ty "tuple") (gl25.g 4 rfl) z_tuple zab7 rfl zab8 zab9) zaab)) zaal zaam) (nomark _)) (zacs (zaaq zaeb (zaaf zaai (gl25.g 2 rfl) z_len PySem.boot_len (zaaa (qv av25 0 rfl) zaab zaae) zaa6 zaa7) (zaaf zaai (gl25.g 2 rfl) z_len PySem.boot_len (zaaa (qv av25 1 rfl) zaab zaae) zaa6 zaa7) (nomark _))))) (zaag (zaas zab1)) zaau) (zaag (zaas (zaaf (zadn rfl) (gl25.g 3 rfl) z_all zagb (zaaa (zabl rfl zadu (zajl .list .list (gl25.g 6 rfl) z_zip (zaaa (qv av25 0 rfl) (zaaa (qv av25 1 rfl) zaab zaae) zaae)) (fun _ _ _ _ _=>(zahk K 2 rfl rfl (zabk (zaar (i:=0) zadu.nd rfl (Or.inl (zacu.k 0 rfl)) (Or.inr (zacu.k 0 rfl))) (zabk (zaar (i:=1) zadu.nd rfl (Or.inl (zacu.k 1 rfl)) (Or.inr (zacu.k 1 rfl))) zac7)))) (fun _ _ _ _ _=>zab0) (fun _ _ _ _ _=>(zaap D_law_same hr (zakb.g 0 rfl) pass0 (zaaa (qw zae6 0 rfl) (zaaa (qw zae6 1 rfl) zaab zaae) zaae) zab3))) zaab zabe) zagc zagd))))) zaau) (zaah (zaa4 (zabj (zaaf zaax (gl25.g 0 rfl) z_isinstance zaak (zaaa (qv av25 1 rfl) (zaaa (zaay (v:=.ty "str") (gl25.g 7 rfl) z_str zaf8 rfl zaf9 zaga) zaab)) zaal zaam)) (zaag (zaas (zaca (zaaf zaax (gl25.g 0 rfl) z_isinstance zaak (zaaa (qv av25 0 rfl) (zaaa (zaay (v:=.ty "str") (gl25.g 7 rfl) z_str zaf8 rfl zaf9 zaga) zaab)) zaal zaam) (zact (zabu zada (qv av25 0 rfl) (qv av25 1 rfl) (nomark _)))))) zaau) (zaag (zaas (zaca (zaaf zaax (gl25.g 0 rfl) z_isinstance zaak (zaaa (qv av25 0 rfl) (zaaa (zaay (v:=.ty "int") (gl25.g 9 rfl) z_int zaio rfl zaip zaiq) zaab)) zaal zaam) (zaca (zaft (zaaf zaax (gl25.g 0 rfl) z_isinstance zaak (zaaa (qv av25 0 rfl) (zaaa (zaay (v:=.ty "bool") (gl25.g 8 rfl) z_bool zahq rfl zahr zahs) zaab)) zaal zaam)) (zact (zabu zada (qv av25 0 rfl) (qv av25 1 rfl) (nomark _)))))))))))),?_⟩
  (try dsimp only [cxOf])
  walk_at "rd"
  refine iteNn (by rw [el]) ?_
  walk_at "rd"
  refine zakm xs ys (fun j zs σ H'=>Ch [] H H'∧zs=List.replicate j (V.bl true)∧∃ u v,σ=[u,v]) (by rw [sizeLine_eq]; omega) el ⟨Ch.refl _ _,rfl,_,_,rfl⟩ ?_ ?_ ?_
  ·rintro j zs σ H' hj ⟨c,rfl,_⟩
   exact ⟨by simp,SqL.of (c.get g1 (by simp)),SqL.of (c.get g2 (by simp))⟩
  ·rintro j zs σ H' x z T hx hz ⟨c,rfl,u,v,rfl⟩ hT
   obtain ⟨j1,rfl⟩:=List.getElem?_eq_some_iff.mp hx
   obtain ⟨j2,rfl⟩:=List.getElem?_eq_some_iff.mp hz
   have ee:EqvS n (upd H' T (.tup [xs[j],ys[j]])) xs[j] ys[j]:=⟨Eqv.ch (c.trans (Ch.new hT _)) (zaf4 pr j j1 j2)⟩
   walk_at "rd"
   exact ⟨by rw [← List.replicate_succ'],_,_,rfl⟩
  ·rintro zs σ H' ⟨c,rfl,_⟩
   intro D hD
   refine ⟨D,List.replicate xs.length true,rfl,by rw [zaac,List.map_replicate],?_⟩
   rw [show (List.replicate xs.length true).all id=true from by simp [List.all_replicate]]
   exact q _ (c.trans (Ch.new hD _))
end
end

section
structure DueAt (H:Hp) (gs:List Gt) (d:V):Prop where
 h:d=.non∨∃ (ll:Addr) (ls:List Nat),d=.ref ll∧H ll=some (.lst (ls.map nV))∧Lay gs gs.length ls
theorem zapy {H:Hp}{p r:Addr}{l:List Nat} (hp:H p=some (.lst (l.map nV))) (hr:H r=some (.lst (l.map nV))) (n:l.length≤300):Eqv 2 H (.ref p) (.ref r):=by
 refine .inr (.inr ⟨p,r,_,_,rfl,rfl,hp,hr,?_,by simpa using n⟩)
 clear hp hr n
 induction l with
 | nil=>exact .nil
 | cons a l ih=>exact .cons (.inl ⟨.inl (a:Int),rfl,rfl⟩) ih
section
variable {P:Program}{w:World}{K:PySem.W.Frag}{mg:Str→Option Value}{base:Heap}{f:Addr}{fd:FuncData}{k:Nat}
theorem zafe:Nd "_law_some_net" := by decide +kernel
theorem zagq:Nd "_law_shallow" := by decide +kernel
theorem zaux:Nd "Net" := by decide +kernel
theorem zaje:Nd "layers_of" := by decide +kernel
theorem av37:AF (defScope (top 37)) ["_law_script", "_law_at", "_law_gates", "_law_outs", "_law_due"]:=⟨by decide +kernel⟩
theorem gl37:AG (defScope (top 37)) ["_law_some_net", "_law_shallow", "_law_same", "layers_of", "Net"]:=⟨by decide +kernel⟩
def spLaw (K:PySem.W.Frag):Sp:=fun vs H Q _=>∃ (a:Addr) (ns:List Int),vs=[.ref a]∧Scr K H a ns∧∀ H',Q (.bl true) H'
theorem scLaw:FnScope ["_law_script", "_law_at", "_law_gates", "_law_outs", "_law_due"] ["_law_script"] (defScope (top 37)):=⟨rfl,rfl,rfl,by decide +kernel,rfl,by decide +kernel,by decide +kernel⟩
theorem zauy {CN:Addr} (F:Fun K "law" "law" (top 37) f fd) (m_Net:mg "Net" = some (.ref CN)) (MkNet:MakeOk P w K mg base CX0 k CN "Net" ["self", "gates", "outs"] (spNet CN)) (D_law_some_net:DefOk P w K mg base CX0 (k + 1) "_law_some_net" ["_law_script", "_law_at", "_law_small"] (spSom K)) (D_law_shallow:DefOk P w K mg base CX0 (k + 1) "_law_shallow" ["_law_gates", "_law_most"] spShl) (Dlayers_of:DefOk P w K mg base CX0 (k + 1) "layers_of" ["net"] (spLof CN)) (D_law_same:DefOk P w K mg base CX0 (k + 1) "_law_same" ["_law_found", "_law_due"] (spSame 2)) :
  FnOk P w K mg base CX0 (k + 2) f fd ["_law_script"] (spLaw K):=by
 have nd:=scLaw.nd
 refine F.ok scLaw (fun vs H Q E h=>by obtain ⟨a,ns,rfl,_⟩:=h; rfl) (fun cdv A outer s H vs Q E hr h=>?_)
 obtain ⟨a,ns,rfl,hS,q⟩:=h
 have hrm:=hr
 refine ⟨_,(Pr.h (zaav (zaat (i:=1) nd rfl (av37.l 1 rfl) (zabc (zaaa zaad zaab zaaj))) (zaah (zafw (zaap D_law_some_net hr (gl37.g 0 rfl) pass0 (zaaa (qv av37 0 rfl) (zaaa (qv av37 1 rfl) (zaaa zab1 zaab zaaj) zaae) zaae) zafe) (zafv rfl (zabk (zaar (i:=2) nd rfl (av37.l 2 rfl)) (zabk (zaar (i:=3) nd rfl (av37.l 3 rfl)) zac7)))) (zaav (zaat (i:=4) nd rfl (av37.l 4 rfl) (zaap D_law_shallow hr (gl37.g 1 rfl) pass0 (zaaa (qv av37 2 rfl) (zaaa zaad zaab zaaj) zaae) zagq)) (zaah (zaa4 (zaaq zae7 (qv av37 4 rfl) zacr (nomark _)) (zaag (zaas zab1)) zaau) (zaag (zaas (zaap D_law_same hr (gl37.g 2 rfl) pass0 (zaaa (zaa2 zabo (zaap Dlayers_of hr (gl37.g 3 rfl) pass0 (zaaa (zaf3 MkNet hrm (gl37.g 4 rfl) pass0 (zaaa (qv av37 2 rfl) (zaaa (qv av37 3 rfl) zaab zaae) zaae) zaux) zaab zac2) zaje) zaad (fun _ _=>rfl)) (zaaa (qv av37 4 rfl) zaab zaae) zaaw) zab3)))))))),?_⟩
 (try dsimp only [cxOf])
 refine zaa9 (fun σ H'=>∃ b,σ=[some (.ref a),some (.ref b),none,none,none]∧Scr K H' a ns∧H' b=some (.lst [.int 0])) ?_ ?_
 ·walk_at "rd"
 rintro σ H0 ⟨b,rfl,hS,hb⟩
 walk_at "rd"
 rename_i R gl ol gs xs os H2 pn
 obtain ⟨n,tu,len,hol,olt,ln,nb,ob⟩:=pn
 refine ⟨SqT.of tu,rfl,?_⟩
 have hg2:=n.gl
 have gg2:=n.gg
 have ok:=n.ok
 have hxl:=gg2.len
 clear hS hb
 walk_at "rd"
 refine zaa9 (fun σ H'=>∃ d,σ=[some (.ref a),some (.ref b),some (.ref gl),some (.ref ol),some d]∧Ch [] H2 H'∧DueAt H' gs d) ?_ ?_
 ·walk_at "rd"
  exact ⟨fun H' c=>⟨_,rfl,c,⟨.inl rfl⟩⟩,fun ll ls H' c h l=>⟨_,rfl,c,⟨.inr ⟨ll,ls,rfl,h,l⟩⟩⟩⟩
 rintro σ H3 ⟨d,rfl,c3,du⟩
 have hg3:=c3.get hg2 (by simp)
 have gg3:=gg2.tu (Tu.same c3)
 have hol3:=c3.get hol (by simp)
 rcases du.h with rfl | ⟨ll,ls,rfl,hll,lay⟩
 ·walk_at "rd"
  rw [decide_eq_true rfl]
  refine iteT ?_
  exact q H3
 ·walk_at "rd"
  rename_i x dx hx hdx nx
  have ci:=Ch.inst (C:=CN) hx hdx nx
  refine ⟨ci.get hg3 (by simp),gg3.tu (Tu.same ci),ok,by omega,ci.get hol3 (by simp),olt,by omega,fun gp1 op1 H4 c4 na4=>⟨rfl,?_⟩⟩
  have c34:Ch [] H3 H4:=Ch.forget (ci.wk.trans c4) (by simpa using hx)
  have hll4:=c34.get hll (by simp)
  walk_at "rd"
  rename_i p5 ll5 pp5 ls5 H5 c5 hp5 hll5 lay5
  have el:=lay5.one ok lay
  subst el
  have l300:ls5.length≤300:=by rw [lay5.len]; omega
  exact ⟨⟨zapy hll5 (c5.get hll4 (by simp)) l300⟩,fun H' _=>q H'⟩
end
end

section
theorem zauz {l:PySem.W.OpenLaw}{w:World}{K:PySem.W.Frag}{h:Heap}{mg:Str→Option Value}{fa CN CS:Addr} (X:K.In h) (G:h.Ns mainGlobals mg) (hfa:mg "law" = some (.ref fa))
  {f0:Addr}{od0 an0:Option Addr}{sl0:Array (Option Value)}{oc0 kV0 dc0 pm0 cd0 ct0:Value}
  {f1:Addr}{od1 an1:Option Addr}{sl1:Array (Option Value)}{oc1 kV1 dc1 pm1 cd1 ct1:Value}
  {f2:Addr}{od2 an2:Option Addr}{sl2:Array (Option Value)}{oc2 kV2 dc2 pm2 cd2 ct2:Value}
  {f3:Addr}{od3 an3:Option Addr}{sl3:Array (Option Value)}{oc3 kV3 dc3 pm3 cd3 ct3:Value}
  {f4:Addr}{od4 an4:Option Addr}{sl4:Array (Option Value)}{oc4 kV4 dc4 pm4 cd4 ct4:Value}
  {f5:Addr}{od5 an5:Option Addr}{sl5:Array (Option Value)}{oc5 kV5 dc5 pm5 cd5 ct5:Value}
  {f6:Addr}{od6 an6:Option Addr}{sl6:Array (Option Value)}{oc6 kV6 dc6 pm6 cd6 ct6:Value}
  {f7:Addr}{od7 an7:Option Addr}{sl7:Array (Option Value)}{oc7 kV7 dc7 pm7 cd7 ct7:Value}
  {f8:Addr}{od8 an8:Option Addr}{sl8:Array (Option Value)}{oc8 kV8 dc8 pm8 cd8 ct8:Value}
  {f9:Addr}{od9 an9:Option Addr}{sl9:Array (Option Value)}{oc9 kV9 dc9 pm9 cd9 ct9:Value}
  {f10:Addr}{od10 an10:Option Addr}{sl10:Array (Option Value)}{oc10 kV10 dc10 pm10 cd10 ct10:Value}
  {f11:Addr}{od11 an11:Option Addr}{sl11:Array (Option Value)}{oc11 kV11 dc11 pm11 cd11 ct11:Value}
  {f12:Addr}{od12 an12:Option Addr}{sl12:Array (Option Value)}{oc12 kV12 dc12 pm12 cd12 ct12:Value}
  {f13:Addr}{od13 an13:Option Addr}{sl13:Array (Option Value)}{oc13 kV13 dc13 pm13 cd13 ct13:Value}
  {f14:Addr}{od14 an14:Option Addr}{sl14:Array (Option Value)}{oc14 kV14 dc14 pm14 cd14 ct14:Value}
  {f15:Addr}{od15 an15:Option Addr}{sl15:Array (Option Value)}{oc15 kV15 dc15 pm15 cd15 ct15:Value}
  {f16:Addr}{od16 an16:Option Addr}{sl16:Array (Option Value)}{oc16 kV16 dc16 pm16 cd16 ct16:Value}
  {f17:Addr}{od17 an17:Option Addr}{sl17:Array (Option Value)}{oc17 kV17 dc17 pm17 cd17 ct17:Value}
  {f18:Addr}{od18 an18:Option Addr}{sl18:Array (Option Value)}{oc18 kV18 dc18 pm18 cd18 ct18:Value}
  {f19:Addr}{od19 an19:Option Addr}{sl19:Array (Option Value)}{oc19 kV19 dc19 pm19 cd19 ct19:Value}
  {f20:Addr}{od20 an20:Option Addr}{sl20:Array (Option Value)}{oc20 kV20 dc20 pm20 cd20 ct20:Value}
  {f21:Addr}{od21 an21:Option Addr}{sl21:Array (Option Value)}{oc21 kV21 dc21 pm21 cd21 ct21:Value}
  {f22:Addr}{od22 an22:Option Addr}{sl22:Array (Option Value)}{oc22 kV22 dc22 pm22 cd22 ct22:Value}
  {f23:Addr}{od23 an23:Option Addr}{sl23:Array (Option Value)}{oc23 kV23 dc23 pm23 cd23 ct23:Value}
  {f24:Addr}{od24 an24:Option Addr}{sl24:Array (Option Value)}{oc24 kV24 dc24 pm24 cd24 ct24:Value}
  {f25:Addr}{od25 an25:Option Addr}{sl25:Array (Option Value)}{oc25 kV25 dc25 pm25 cd25 ct25:Value}
  {f26:Addr}{od26 an26:Option Addr}{sl26:Array (Option Value)}{oc26 kV26 dc26 pm26 cd26 ct26:Value}
  {f27:Addr}{od27 an27:Option Addr}{sl27:Array (Option Value)}{oc27 kV27 dc27 pm27 cd27 ct27:Value}
  {f28:Addr}{od28 an28:Option Addr}{sl28:Array (Option Value)}{oc28 kV28 dc28 pm28 cd28 ct28:Value}
  {f29:Addr}{od29 an29:Option Addr}{sl29:Array (Option Value)}{oc29 kV29 dc29 pm29 cd29 ct29:Value}
  {f30:Addr}{od30 an30:Option Addr}{sl30:Array (Option Value)}{oc30 kV30 dc30 pm30 cd30 ct30:Value}
  {f31:Addr}{od31 an31:Option Addr}{sl31:Array (Option Value)}{oc31 kV31 dc31 pm31 cd31 ct31:Value}
  (aN:PySem.W.nsIn K mainGlobals "Net" = some (some (.ref CN)))
  (aS:PySem.W.nsIn K mainGlobals "Stream" = some (some (.ref CS)))
  (a0:PySem.W.nsIn K mainGlobals "is_whole" = some (some (.ref f0))) (l0:K.lookup f0=some ⟨oc0,od0,.func (PySem.W.fnOf "is_whole" "is_whole" (defArgs (top 4)) (defBody (top 4)) (defScope (top 4)) .none kV0 dc0 pm0 an0 cd0 ct0),sl0⟩) (c0:PySem.W.codeIn K cd0 "is_whole" = true) (k0:PySem.W.keepIn K (.ref f0)=true)
  (a1:PySem.W.nsIn K mainGlobals "is_below" = some (some (.ref f1))) (l1:K.lookup f1=some ⟨oc1,od1,.func (PySem.W.fnOf "is_below" "is_below" (defArgs (top 5)) (defBody (top 5)) (defScope (top 5)) .none kV1 dc1 pm1 an1 cd1 ct1),sl1⟩) (c1:PySem.W.codeIn K cd1 "is_below" = true) (k1:PySem.W.keepIn K (.ref f1)=true)
  (a2:PySem.W.nsIn K mainGlobals "is_gate" = some (some (.ref f2))) (l2:K.lookup f2=some ⟨oc2,od2,.func (PySem.W.fnOf "is_gate" "is_gate" (defArgs (top 8)) (defBody (top 8)) (defScope (top 8)) .none kV2 dc2 pm2 an2 cd2 ct2),sl2⟩) (c2:PySem.W.codeIn K cd2 "is_gate" = true) (k2:PySem.W.keepIn K (.ref f2)=true)
  (a3:PySem.W.nsIn K mainGlobals "feeds_of" = some (some (.ref f3))) (l3:K.lookup f3=some ⟨oc3,od3,.func (PySem.W.fnOf "feeds_of" "feeds_of" (defArgs (top 10)) (defBody (top 10)) (defScope (top 10)) .none kV3 dc3 pm3 an3 cd3 ct3),sl3⟩) (c3:PySem.W.codeIn K cd3 "feeds_of" = true) (k3:PySem.W.keepIn K (.ref f3)=true)
  (a4:PySem.W.nsIn K mainGlobals "is_source" = some (some (.ref f4))) (l4:K.lookup f4=some ⟨oc4,od4,.func (PySem.W.fnOf "is_source" "is_source" (defArgs (top 12)) (defBody (top 12)) (defScope (top 12)) .none kV4 dc4 pm4 an4 cd4 ct4),sl4⟩) (c4:PySem.W.codeIn K cd4 "is_source" = true) (k4:PySem.W.keepIn K (.ref f4)=true)
  (a5:PySem.W.nsIn K mainGlobals "feeds_within" = some (some (.ref f5))) (l5:K.lookup f5=some ⟨oc5,od5,.func (PySem.W.fnOf "feeds_within" "feeds_within" (defArgs (top 13)) (defBody (top 13)) (defScope (top 13)) .none kV5 dc5 pm5 an5 cd5 ct5),sl5⟩) (c5:PySem.W.codeIn K cd5 "feeds_within" = true) (k5:PySem.W.keepIn K (.ref f5)=true)
  (a6:PySem.W.nsIn K mainGlobals "gates_down" = some (some (.ref f6))) (l6:K.lookup f6=some ⟨oc6,od6,.func (PySem.W.fnOf "gates_down" "gates_down" (defArgs (top 14)) (defBody (top 14)) (defScope (top 14)) .none kV6 dc6 pm6 an6 cd6 ct6),sl6⟩) (c6:PySem.W.codeIn K cd6 "gates_down" = true) (k6:PySem.W.keepIn K (.ref f6)=true)
  (a7:PySem.W.nsIn K mainGlobals "copied_paths" = some (some (.ref f7))) (l7:K.lookup f7=some ⟨oc7,od7,.func (PySem.W.fnOf "copied_paths" "copied_paths" (defArgs (top 19)) (defBody (top 19)) (defScope (top 19)) .none kV7 dc7 pm7 an7 cd7 ct7),sl7⟩) (c7:PySem.W.codeIn K cd7 "copied_paths" = true) (k7:PySem.W.keepIn K (.ref f7)=true)
  (a8:PySem.W.nsIn K mainGlobals "layer_and_reason" = some (some (.ref f8))) (l8:K.lookup f8=some ⟨oc8,od8,.func (PySem.W.fnOf "layer_and_reason" "layer_and_reason" (defArgs (top 20)) (defBody (top 20)) (defScope (top 20)) .none kV8 dc8 pm8 an8 cd8 ct8),sl8⟩) (c8:PySem.W.codeIn K cd8 "layer_and_reason" = true) (k8:PySem.W.keepIn K (.ref f8)=true)
  (a9:PySem.W.nsIn K mainGlobals "layers_of" = some (some (.ref f9))) (l9:K.lookup f9=some ⟨oc9,od9,.func (PySem.W.fnOf "layers_of" "layers_of" (defArgs (top 21)) (defBody (top 21)) (defScope (top 21)) .none kV9 dc9 pm9 an9 cd9 ct9),sl9⟩) (c9:PySem.W.codeIn K cd9 "layers_of" = true) (k9:PySem.W.keepIn K (.ref f9)=true)
  (a10:PySem.W.nsIn K mainGlobals "_law_next" = some (some (.ref f10))) (l10:K.lookup f10=some ⟨oc10,od10,.func (PySem.W.fnOf "_law_next" "_law_next" (defArgs (top 23)) (defBody (top 23)) (defScope (top 23)) .none kV10 dc10 pm10 an10 cd10 ct10),sl10⟩) (c10:PySem.W.codeIn K cd10 "_law_next" = true) (k10:PySem.W.keepIn K (.ref f10)=true)
  (a11:PySem.W.nsIn K mainGlobals "_law_net" = some (some (.ref f11))) (l11:K.lookup f11=some ⟨oc11,od11,.func (PySem.W.fnOf "_law_net" "_law_net" (defArgs (top 24)) (defBody (top 24)) (defScope (top 24)) .none kV11 dc11 pm11 an11 cd11 ct11),sl11⟩) (c11:PySem.W.codeIn K cd11 "_law_net" = true) (k11:PySem.W.keepIn K (.ref f11)=true)
  (a12:PySem.W.nsIn K mainGlobals "_law_same" = some (some (.ref f12))) (l12:K.lookup f12=some ⟨oc12,od12,.func (PySem.W.fnOf "_law_same" "_law_same" (defArgs (top 25)) (defBody (top 25)) (defScope (top 25)) .none kV12 dc12 pm12 an12 cd12 ct12),sl12⟩) (c12:PySem.W.codeIn K cd12 "_law_same" = true) (k12:PySem.W.keepIn K (.ref f12)=true)
  (a13:PySem.W.nsIn K mainGlobals "_law_opened" = some (some (.ref f13))) (l13:K.lookup f13=some ⟨oc13,od13,.func (PySem.W.fnOf "_law_opened" "_law_opened" (defArgs (top 26)) (defBody (top 26)) (defScope (top 26)) .none kV13 dc13 pm13 an13 cd13 ct13),sl13⟩) (c13:PySem.W.codeIn K cd13 "_law_opened" = true) (k13:PySem.W.keepIn K (.ref f13)=true)
  (a14:PySem.W.nsIn K mainGlobals "_law_shut" = some (some (.ref f14))) (l14:K.lookup f14=some ⟨oc14,od14,.func (PySem.W.fnOf "_law_shut" "_law_shut" (defArgs (top 27)) (defBody (top 27)) (defScope (top 27)) .none kV14 dc14 pm14 an14 cd14 ct14),sl14⟩) (c14:PySem.W.codeIn K cd14 "_law_shut" = true) (k14:PySem.W.keepIn K (.ref f14)=true)
  (a15:PySem.W.nsIn K mainGlobals "_law_is_source" = some (some (.ref f15))) (l15:K.lookup f15=some ⟨oc15,od15,.func (PySem.W.fnOf "_law_is_source" "_law_is_source" (defArgs (top 28)) (defBody (top 28)) (defScope (top 28)) .none kV15 dc15 pm15 an15 cd15 ct15),sl15⟩) (c15:PySem.W.codeIn K cd15 "_law_is_source" = true) (k15:PySem.W.keepIn K (.ref f15)=true)
  (a16:PySem.W.nsIn K mainGlobals "_law_cone" = some (some (.ref f16))) (l16:K.lookup f16=some ⟨oc16,od16,.func (PySem.W.fnOf "_law_cone" "_law_cone" (defArgs (top 29)) (defBody (top 29)) (defScope (top 29)) .none kV16 dc16 pm16 an16 cd16 ct16),sl16⟩) (c16:PySem.W.codeIn K cd16 "_law_cone" = true) (k16:PySem.W.keepIn K (.ref f16)=true)
  (a17:PySem.W.nsIn K mainGlobals "_law_ladder" = some (some (.ref f17))) (l17:K.lookup f17=some ⟨oc17,od17,.func (PySem.W.fnOf "_law_ladder" "_law_ladder" (defArgs (top 30)) (defBody (top 30)) (defScope (top 30)) .none kV17 dc17 pm17 an17 cd17 ct17),sl17⟩) (c17:PySem.W.codeIn K cd17 "_law_ladder" = true) (k17:PySem.W.keepIn K (.ref f17)=true)
  (a18:PySem.W.nsIn K mainGlobals "_law_first_net" = some (some (.ref f18))) (l18:K.lookup f18=some ⟨oc18,od18,.func (PySem.W.fnOf "_law_first_net" "_law_first_net" (defArgs (top 31)) (defBody (top 31)) (defScope (top 31)) .none kV18 dc18 pm18 an18 cd18 ct18),sl18⟩) (c18:PySem.W.codeIn K cd18 "_law_first_net" = true) (k18:PySem.W.keepIn K (.ref f18)=true)
  (a19:PySem.W.nsIn K mainGlobals "_law_some_net" = some (some (.ref f19))) (l19:K.lookup f19=some ⟨oc19,od19,.func (PySem.W.fnOf "_law_some_net" "_law_some_net" (defArgs (top 32)) (defBody (top 32)) (defScope (top 32)) .none kV19 dc19 pm19 an19 cd19 ct19),sl19⟩) (c19:PySem.W.codeIn K cd19 "_law_some_net" = true) (k19:PySem.W.keepIn K (.ref f19)=true)
  (a20:PySem.W.nsIn K mainGlobals "_law_broad" = some (some (.ref f20))) (l20:K.lookup f20=some ⟨oc20,od20,.func (PySem.W.fnOf "_law_broad" "_law_broad" (defArgs (top 33)) (defBody (top 33)) (defScope (top 33)) .none kV20 dc20 pm20 an20 cd20 ct20),sl20⟩) (c20:PySem.W.codeIn K cd20 "_law_broad" = true) (k20:PySem.W.keepIn K (.ref f20)=true)
  (a21:PySem.W.nsIn K mainGlobals "_law_sets" = some (some (.ref f21))) (l21:K.lookup f21=some ⟨oc21,od21,.func (PySem.W.fnOf "_law_sets" "_law_sets" (defArgs (top 34)) (defBody (top 34)) (defScope (top 34)) .none kV21 dc21 pm21 an21 cd21 ct21),sl21⟩) (c21:PySem.W.codeIn K cd21 "_law_sets" = true) (k21:PySem.W.keepIn K (.ref f21)=true)
  (a22:PySem.W.nsIn K mainGlobals "_law_least_set" = some (some (.ref f22))) (l22:K.lookup f22=some ⟨oc22,od22,.func (PySem.W.fnOf "_law_least_set" "_law_least_set" (defArgs (top 35)) (defBody (top 35)) (defScope (top 35)) .none kV22 dc22 pm22 an22 cd22 ct22),sl22⟩) (c22:PySem.W.codeIn K cd22 "_law_least_set" = true) (k22:PySem.W.keepIn K (.ref f22)=true)
  (a23:PySem.W.nsIn K mainGlobals "_law_shallow" = some (some (.ref f23))) (l23:K.lookup f23=some ⟨oc23,od23,.func (PySem.W.fnOf "_law_shallow" "_law_shallow" (defArgs (top 36)) (defBody (top 36)) (defScope (top 36)) .none kV23 dc23 pm23 an23 cd23 ct23),sl23⟩) (c23:PySem.W.codeIn K cd23 "_law_shallow" = true) (k23:PySem.W.keepIn K (.ref f23)=true)
  (a24:PySem.W.nsIn K mainGlobals "law" = some (some (.ref f24))) (l24:K.lookup f24=some ⟨oc24,od24,.func (PySem.W.fnOf "law" "law" (defArgs (top 37)) (defBody (top 37)) (defScope (top 37)) .none kV24 dc24 pm24 an24 cd24 ct24),sl24⟩) (c24:PySem.W.codeIn K cd24 "law" = true) (k24:PySem.W.keepIn K (.ref f24)=true)
  (a25:PySem.W.findIn K (.ref CN) "__init__" = some (some (.ref f25))) (l25:K.lookup f25=some ⟨oc25,od25,.func (PySem.W.fnOf "__init__" "Net.__init__" (defArgs (inClass (top 9) 0)) (defBody (inClass (top 9) 0)) (defScope (inClass (top 9) 0)) .none kV25 dc25 pm25 an25 cd25 ct25),sl25⟩) (c25:PySem.W.codeIn K cd25 "Net.__init__" = true) (k25:PySem.W.keepIn K (.ref f25)=true) (i25:PySem.W.isFn K (.ref f25)=true)
  (a26:PySem.W.findIn K (.ref CS) "__init__" = some (some (.ref f26))) (l26:K.lookup f26=some ⟨oc26,od26,.func (PySem.W.fnOf "__init__" "Stream.__init__" (defArgs (inClass (top 18) 0)) (defBody (inClass (top 18) 0)) (defScope (inClass (top 18) 0)) .none kV26 dc26 pm26 an26 cd26 ct26),sl26⟩) (c26:PySem.W.codeIn K cd26 "Stream.__init__" = true) (k26:PySem.W.keepIn K (.ref f26)=true) (i26:PySem.W.isFn K (.ref f26)=true)
  (a27:PySem.W.findIn K (.ref CS) "lead" = some (some (.ref f27))) (l27:K.lookup f27=some ⟨oc27,od27,.func (PySem.W.fnOf "lead" "Stream.lead" (defArgs (inClass (top 18) 1)) (defBody (inClass (top 18) 1)) (defScope (inClass (top 18) 1)) .none kV27 dc27 pm27 an27 cd27 ct27),sl27⟩) (c27:PySem.W.codeIn K cd27 "Stream.lead" = true) (k27:PySem.W.keepIn K (.ref f27)=true) (i27:PySem.W.isFn K (.ref f27)=true)
  (a28:PySem.W.findIn K (.ref CS) "nodes_come_to" = some (some (.ref f28))) (l28:K.lookup f28=some ⟨oc28,od28,.func (PySem.W.fnOf "nodes_come_to" "Stream.nodes_come_to" (defArgs (inClass (top 18) 2)) (defBody (inClass (top 18) 2)) (defScope (inClass (top 18) 2)) .none kV28 dc28 pm28 an28 cd28 ct28),sl28⟩) (c28:PySem.W.codeIn K cd28 "Stream.nodes_come_to" = true) (k28:PySem.W.keepIn K (.ref f28)=true) (i28:PySem.W.isFn K (.ref f28)=true)
  (a29:PySem.W.findIn K (.ref CS) "turn" = some (some (.ref f29))) (l29:K.lookup f29=some ⟨oc29,od29,.func (PySem.W.fnOf "turn" "Stream.turn" (defArgs (inClass (top 18) 3)) (defBody (inClass (top 18) 3)) (defScope (inClass (top 18) 3)) .none kV29 dc29 pm29 an29 cd29 ct29),sl29⟩) (c29:PySem.W.codeIn K cd29 "Stream.turn" = true) (k29:PySem.W.keepIn K (.ref f29)=true) (i29:PySem.W.isFn K (.ref f29)=true)
  (a30:PySem.W.findIn K (.ref CS) "path_to" = some (some (.ref f30))) (l30:K.lookup f30=some ⟨oc30,od30,.func (PySem.W.fnOf "path_to" "Stream.path_to" (defArgs (inClass (top 18) 4)) (defBody (inClass (top 18) 4)) (defScope (inClass (top 18) 4)) .none kV30 dc30 pm30 an30 cd30 ct30),sl30⟩) (c30:PySem.W.codeIn K cd30 "Stream.path_to" = true) (k30:PySem.W.keepIn K (.ref f30)=true) (i30:PySem.W.isFn K (.ref f30)=true)
  (a31:PySem.W.findIn K (.ref CS) "cut_or_paths" = some (some (.ref f31))) (l31:K.lookup f31=some ⟨oc31,od31,.func (PySem.W.fnOf "cut_or_paths" "Stream.cut_or_paths" (defArgs (inClass (top 18) 5)) (defBody (inClass (top 18) 5)) (defScope (inClass (top 18) 5)) .none kV31 dc31 pm31 an31 cd31 ct31),sl31⟩) (c31:PySem.W.codeIn K cd31 "Stream.cut_or_paths" = true) (k31:PySem.W.keepIn K (.ref f31)=true) (i31:PySem.W.isFn K (.ref f31)=true)
  (pgN:PySem.W.plainGet K CN Str.empty=true) (hdN:PySem.W.hasDictIn K CN=true) (poN:PySem.W.plainOver K CN=true) (saN:PySem.W.findIn K (.ref CN) "__setattr__" = some (some (.builtin "object.__setattr__"))) (mkN:PySem.W.makesIn K CN=true) (kcN:PySem.W.keepIn K (.ref CN)=true)
  (nN_gates:PySem.W.findIn K (.ref CN) "gates" = some none)
  (nN_outs:PySem.W.findIn K (.ref CN) "outs" = some none)
  (pgS:PySem.W.plainGet K CS Str.empty=true) (hdS:PySem.W.hasDictIn K CS=true) (poS:PySem.W.plainOver K CS=true) (saS:PySem.W.findIn K (.ref CS) "__setattr__" = some (some (.builtin "object.__setattr__"))) (mkS:PySem.W.makesIn K CS=true) (kcS:PySem.W.keepIn K (.ref CS)=true)
  (nS_low:PySem.W.findIn K (.ref CS) "low" = some none)
  (nS_starts:PySem.W.findIn K (.ref CS) "starts" = some none)
  (nS_ways:PySem.W.findIn K (.ref CS) "ways" = some none)
  (nS_ends:PySem.W.findIn K (.ref CS) "ends" = some none)
  (z_len:PySem.W.nsIn K mainGlobals "len" = some none)
  (z_range:PySem.W.nsIn K mainGlobals "range" = some none)
  (z_int:PySem.W.nsIn K mainGlobals "int" = some none)
  (z_str:PySem.W.nsIn K mainGlobals "str" = some none)
  (z_isinstance:PySem.W.nsIn K mainGlobals "isinstance" = some none)
  (z_zip:PySem.W.nsIn K mainGlobals "zip" = some none)
  (z_list:PySem.W.nsIn K mainGlobals "list" = some none)
  (z_tuple:PySem.W.nsIn K mainGlobals "tuple" = some none)
  (z_bool:PySem.W.nsIn K mainGlobals "bool" = some none)
  (z_all:PySem.W.nsIn K mainGlobals "all" = some none)
  (z_any:PySem.W.nsIn K mainGlobals "any" = some none)
  (z_enumerate:PySem.W.nsIn K mainGlobals "enumerate" = some none)
  (z_max:PySem.W.nsIn K mainGlobals "max" = some none)
  (z_min:PySem.W.nsIn K mainGlobals "min" = some none)
  (z_dict:PySem.W.nsIn K mainGlobals "dict" = some none)
  (z_sorted:PySem.W.nsIn K mainGlobals "sorted" = some none)
  (z_reversed:PySem.W.nsIn K mainGlobals "reversed" = some none)
  {ti_MOST:Tok} (ai_MOST:PySem.W.nsIn K mainGlobals "MOST" = some (some (.int 4 ti_MOST)))
  {ti_END:Tok} (ai_END:PySem.W.nsIn K mainGlobals "END" = some (some (.str "end" ti_END)))
  {ff:Addr}{kvs:List (Key × V)} (aFC:PySem.W.nsIn K mainGlobals "FEED_COUNTS" = some (some (.ref ff)))
  (hKD:KD l.prog w K ff kvs)
  (hF:∀ w n,(w,n)∈FC→valV kvs (Sum.inr w)=some (.int n)) :
  ∃ fd:FuncData,(∀ (s:Shared) (v:Value),BindsTo s fd ⟨[v],[]⟩ [("_law_script",v)])∧∀ base:Heap,K.In base→base.Ns mainGlobals mg→FnOk l.prog w K mg base CX0 12 fa fd ["_law_script"] (spLaw K):=by
 have e:=hfa.symm.trans (PySem.W.mg_of X G a24)
 cases e
 have F0:=zabn (st:=top 4) l0 c0 k0
 have b0:=F0.binds (ps:=["thing"]) fun _ _ _ _ _ _ us hl=>match us,hl with | [_],_=>rfl
 have m0:=PySem.W.mg_of X G a0
 have F1:=zabn (st:=top 5) l1 c1 k1
 have b1:=F1.binds (ps:=["thing", "bound"]) fun _ _ _ _ _ _ us hl=>match us,hl with | [_,_],_=>rfl
 have m1:=PySem.W.mg_of X G a1
 have F2:=zabn (st:=top 8) l2 c2 k2
 have b2:=F2.binds (ps:=["thing", "ahead", "total"]) fun _ _ _ _ _ _ us hl=>match us,hl with | [_,_,_],_=>rfl
 have m2:=PySem.W.mg_of X G a2
 have F3:=zabn (st:=top 10) l3 c3 k3
 have b3:=F3.binds (ps:=["gate"]) fun _ _ _ _ _ _ us hl=>match us,hl with | [_],_=>rfl
 have m3:=PySem.W.mg_of X G a3
 have F4:=zabn (st:=top 12) l4 c4 k4
 have b4:=F4.binds (ps:=["gate"]) fun _ _ _ _ _ _ us hl=>match us,hl with | [_],_=>rfl
 have m4:=PySem.W.mg_of X G a4
 have F5:=zabn (st:=top 13) l5 c5 k5
 have b5:=F5.binds (ps:=["net", "number"]) fun _ _ _ _ _ _ us hl=>match us,hl with | [_,_],_=>rfl
 have m5:=PySem.W.mg_of X G a5
 have F6:=zabn (st:=top 14) l6 c6 k6
 have b6:=F6.binds (ps:=["net", "gate", "stops"]) fun _ _ _ _ _ _ us hl=>match us,hl with | [_,_,_],_=>rfl
 have m6:=PySem.W.mg_of X G a6
 have F7:=zabn (st:=top 19) l7 c7 k7
 have b7:=F7.binds (ps:=["paths"]) fun _ _ _ _ _ _ us hl=>match us,hl with | [_],_=>rfl
 have m7:=PySem.W.mg_of X G a7
 have F8:=zabn (st:=top 20) l8 c8 k8
 have b8:=F8.binds (ps:=["net", "layers", "paper", "number"]) fun _ _ _ _ _ _ us hl=>match us,hl with | [_,_,_,_],_=>rfl
 have m8:=PySem.W.mg_of X G a8
 have F9:=zabn (st:=top 21) l9 c9 k9
 have b9:=F9.binds (ps:=["net"]) fun _ _ _ _ _ _ us hl=>match us,hl with | [_],_=>rfl
 have m9:=PySem.W.mg_of X G a9
 have F10:=zabn (st:=top 23) l10 c10 k10
 have b10:=F10.binds (ps:=["_law_script", "_law_at"]) fun _ _ _ _ _ _ us hl=>match us,hl with | [_,_],_=>rfl
 have m10:=PySem.W.mg_of X G a10
 have F11:=zabn (st:=top 24) l11 c11 k11
 have b11:=F11.binds (ps:=["_law_script", "_law_at", "_law_ins", "_law_keeps", "_law_many"]) fun _ _ _ _ _ _ us hl=>match us,hl with | [_,_,_,_,_],_=>rfl
 have m11:=PySem.W.mg_of X G a11
 have F12:=zabn (st:=top 25) l12 c12 k12
 have b12:=F12.binds (ps:=["_law_found", "_law_due"]) fun _ _ _ _ _ _ us hl=>match us,hl with | [_,_],_=>rfl
 have m12:=PySem.W.mg_of X G a12
 have F13:=zabn (st:=top 26) l13 c13 k13
 have b13:=F13.binds (ps:=["_law_gates", "_law_stops"]) fun _ _ _ _ _ _ us hl=>match us,hl with | [_,_],_=>rfl
 have m13:=PySem.W.mg_of X G a13
 have F14:=zabn (st:=top 27) l14 c14 k14
 have b14:=F14.binds (ps:=["_law_gates", "_law_stops", "_law_gate"]) fun _ _ _ _ _ _ us hl=>match us,hl with | [_,_,_],_=>rfl
 have m14:=PySem.W.mg_of X G a14
 have F15:=zabn (st:=top 28) l15 c15 k15
 have b15:=F15.binds (ps:=["_law_gates", "_law_number"]) fun _ _ _ _ _ _ us hl=>match us,hl with | [_,_],_=>rfl
 have m15:=PySem.W.mg_of X G a15
 have F16:=zabn (st:=top 29) l16 c16 k16
 have b16:=F16.binds (ps:=["_law_gates", "_law_gate"]) fun _ _ _ _ _ _ us hl=>match us,hl with | [_,_],_=>rfl
 have m16:=PySem.W.mg_of X G a16
 have F17:=zabn (st:=top 30) l17 c17 k17
 have b17:=F17.binds (ps:=["_law_script", "_law_at", "_law_ins", "_law_many"]) fun _ _ _ _ _ _ us hl=>match us,hl with | [_,_,_,_],_=>rfl
 have m17:=PySem.W.mg_of X G a17
 have F18:=zabn (st:=top 31) l18 c18 k18
 have b18:=F18.binds (ps:=["_law_script", "_law_at", "_law_small"]) fun _ _ _ _ _ _ us hl=>match us,hl with | [_,_,_],_=>rfl
 have m18:=PySem.W.mg_of X G a18
 have F19:=zabn (st:=top 32) l19 c19 k19
 have b19:=F19.binds (ps:=["_law_script", "_law_at", "_law_small"]) fun _ _ _ _ _ _ us hl=>match us,hl with | [_,_,_],_=>rfl
 have m19:=PySem.W.mg_of X G a19
 have F20:=zabn (st:=top 33) l20 c20 k20
 have b20:=F20.binds (ps:=["_law_script", "_law_at"]) fun _ _ _ _ _ _ us hl=>match us,hl with | [_,_],_=>rfl
 have m20:=PySem.W.mg_of X G a20
 have F21:=zabn (st:=top 34) l21 c21 k21
 have b21:=F21.binds (ps:=["_law_gates"]) fun _ _ _ _ _ _ us hl=>match us,hl with | [_],_=>rfl
 have m21:=PySem.W.mg_of X G a21
 have F22:=zabn (st:=top 35) l22 c22 k22
 have b22:=F22.binds (ps:=["_law_gates", "_law_layers", "_law_gate", "_law_cone_here"]) fun _ _ _ _ _ _ us hl=>match us,hl with | [_,_,_,_],_=>rfl
 have m22:=PySem.W.mg_of X G a22
 have F23:=zabn (st:=top 36) l23 c23 k23
 have b23:=F23.binds (ps:=["_law_gates", "_law_most"]) fun _ _ _ _ _ _ us hl=>match us,hl with | [_,_],_=>rfl
 have m23:=PySem.W.mg_of X G a23
 have F24:=zabn (st:=top 37) l24 c24 k24
 have F25:=zabn (st:=inClass (top 9) 0) l25 c25 k25
 have b25:=F25.binds (ps:=["self", "gates", "outs"]) fun _ _ _ _ _ _ us hl=>match us,hl with | [_,_,_],_=>rfl
 have F26:=zabn (st:=inClass (top 18) 0) l26 c26 k26
 have b26:=F26.binds (ps:=["self", "net", "layers", "gate", "bound"]) fun _ _ _ _ _ _ us hl=>match us,hl with | [_,_,_,_,_],_=>rfl
 have F27:=zabn (st:=inClass (top 18) 1) l27 c27 k27
 have b27:=F27.binds (ps:=["self", "feed", "number"]) fun _ _ _ _ _ _ us hl=>match us,hl with | [_,_,_],_=>rfl
 have F28:=zabn (st:=inClass (top 18) 2) l28 c28 k28
 have b28:=F28.binds (ps:=["self"]) fun _ _ _ _ _ _ us hl=>match us,hl with | [_],_=>rfl
 have F29:=zabn (st:=inClass (top 18) 3) l29 c29 k29
 have b29:=F29.binds (ps:=["self", "came"]) fun _ _ _ _ _ _ us hl=>match us,hl with | [_,_],_=>rfl
 have F30:=zabn (st:=inClass (top 18) 4) l30 c30 k30
 have b30:=F30.binds (ps:=["self", "number"]) fun _ _ _ _ _ _ us hl=>match us,hl with | [_,_],_=>rfl
 have F31:=zabn (st:=inClass (top 18) 5) l31 c31 k31
 have b31:=F31.binds (ps:=["self"]) fun _ _ _ _ _ _ us hl=>match us,hl with | [_],_=>rfl
 have z_len:=PySem.W.mg_none_of X G z_len
 have z_range:=PySem.W.mg_none_of X G z_range
 have z_int:=PySem.W.mg_none_of X G z_int
 have z_str:=PySem.W.mg_none_of X G z_str
 have z_isinstance:=PySem.W.mg_none_of X G z_isinstance
 have z_zip:=PySem.W.mg_none_of X G z_zip
 have z_list:=PySem.W.mg_none_of X G z_list
 have z_tuple:=PySem.W.mg_none_of X G z_tuple
 have z_bool:=PySem.W.mg_none_of X G z_bool
 have z_all:=PySem.W.mg_none_of X G z_all
 have z_any:=PySem.W.mg_none_of X G z_any
 have z_enumerate:=PySem.W.mg_none_of X G z_enumerate
 have z_max:=PySem.W.mg_none_of X G z_max
 have z_min:=PySem.W.mg_none_of X G z_min
 have z_dict:=PySem.W.mg_none_of X G z_dict
 have z_sorted:=PySem.W.mg_none_of X G z_sorted
 have z_reversed:=PySem.W.mg_none_of X G z_reversed
 have mN:=PySem.W.mg_of X G aN
 have clN:Cls K CN:=⟨pgN,hdN,poN,saN⟩
 have mS:=PySem.W.mg_of X G aS
 have clS:Cls K CS:=⟨pgS,hdS,poS,saS⟩
 have m_MOST:∃ t,mg "MOST" = some (.int 4 t):=⟨_,PySem.W.mg_of X G ai_MOST⟩
 have m_END:=PySem.W.mg_of X G ai_END
 refine ⟨PySem.W.fnOf "law" "law" (defArgs (top 37)) (defBody (top 37)) (defScope (top 37)) .none kV24 dc24 pm24 an24 cd24 ct24,fun s v=>.of_eq rfl,fun base _ _=>?_⟩
 have m_FEED_COUNTS:=PySem.W.mg_of X G aFC
 obtain ⟨tM,m_MOST⟩:=m_MOST
 have D_is_whole_1:DefOk l.prog w K mg base CX0 1 "is_whole" ["thing"] spWhole:=⟨f0,_,zapn (k:=0) F0 z_isinstance z_int z_bool,b0,k0,m0⟩
 have D_is_below_2:DefOk l.prog w K mg base CX0 2 "is_below" ["thing", "bound"] spBelow:=⟨f1,_,zapo (k:=1) F1 D_is_whole_1,b1,k1,m1⟩
 have D_is_gate_3:DefOk l.prog w K mg base CX0 3 "is_gate" ["thing", "ahead", "total"] spGate:=⟨f2,_,zasb (k:=2) F2 D_is_below_2 m_FEED_COUNTS hKD hF z_isinstance z_tuple z_str z_len z_all,b2,k2,m2⟩
 have MkN:MakeOk l.prog w K mg base CX0 4 CN "Net" ["self", "gates", "outs"] (spNet CN):=⟨⟨f25,_,zat4 (k:=3) F25 clN nN_gates nN_outs D_is_gate_3 (D_is_below_2.mono (by omega)) z_enumerate z_len z_tuple,b25,⟨mkN,a25,i25,kcN⟩,mN⟩⟩
 have D_feeds_of_1:DefOk l.prog w K mg base CX0 1 "feeds_of" ["gate"] spFeeds:=⟨f3,_,zapp (k:=0) F3 z_list,b3,k3,m3⟩
 have D_is_source_1:DefOk l.prog w K mg base CX0 1 "is_source" ["gate"] spSrc:=⟨f4,_,zaua (k:=0) F4,b4,k4,m4⟩
 have D_feeds_within_2:DefOk l.prog w K mg base CX0 2 "feeds_within" ["net", "number"] (spFw CN):=⟨f5,_,zavg (k:=1) F5 clN nN_gates D_is_source_1 D_feeds_of_1,b5,k5,m5⟩
 have D_gates_down_3:DefOk l.prog w K mg base CX0 3 "gates_down" ["net", "gate", "stops"] (spGd CN):=⟨f6,_,zavh (k:=2) F6 D_feeds_within_2 z_dict z_sorted z_len,b6,k6,m6⟩
 have M1:MethOk l.prog w K mg base CX0 1 CS "lead" ["self", "feed", "number"] (spLead CS):=⟨clS,f27,_,zaso (k:=0) F27 clS nS_ways nS_ends m_END,b27,⟨a27,i27,k27⟩⟩
 have MkS:MakeOk l.prog w K mg base CX0 4 CS "Stream" ["self", "net", "layers", "gate", "bound"] (spStr CN CS):=⟨⟨f26,_,zauo (k:=3) F26 clN nN_gates clS nS_low nS_starts nS_ways nS_ends m_END D_gates_down_3 (D_is_source_1.mono (by omega)) (D_feeds_within_2.mono (by omega)) (M1.mono (by omega)),b26,⟨mkS,a26,i26,kcS⟩,mS⟩⟩
 have M2:MethOk l.prog w K mg base CX0 1 CS "nodes_come_to" ["self"] (spNct CS):=⟨clS,f28,_,zaup (k:=0) F28 clS nS_starts nS_ways m_END z_dict z_list z_len,b28,⟨a28,i28,k28⟩⟩
 have M3:MethOk l.prog w K mg base CX0 1 CS "turn" ["self", "came"] (spTurn CS):=⟨clS,f29,_,zasq (k:=0) F29 clS nS_ways m_END,b29,⟨a29,i29,k29⟩⟩
 have M4:MethOk l.prog w K mg base CX0 1 CS "path_to" ["self", "number"] (spPth CS):=⟨clS,f30,_,zauq (k:=0) F30 clS nS_ways nS_ends z_list z_reversed z_len,b30,⟨a30,i30,k30⟩⟩
 have M5:MethOk l.prog w K mg base CX0 2 CS "cut_or_paths" ["self"] (spCop CS):=⟨clS,f31,_,zaur (k:=1) F31 clS nS_low nS_ways m_END m_MOST z_range M2 M3 M4,b31,⟨a31,i31,k31⟩⟩
 have D_copied_paths_1:DefOk l.prog w K mg base CX0 1 "copied_paths" ["paths"] spCpp:=⟨f7,_,zaus (k:=0) F7 z_list,b7,k7,m7⟩
 have D_layer_and_reason_6:DefOk l.prog w K mg base CX0 6 "layer_and_reason" ["net", "layers", "paper", "number"] (spLar CN):=⟨f8,_,zaut (k:=4) F8 (D_feeds_within_2.mono (by omega)) MkS (M5.mono (by omega)) (D_copied_paths_1.mono (by omega)) clS z_max,b8,k8,m8⟩
 have D_layers_of_7:DefOk l.prog w K mg base CX0 7 "layers_of" ["net"] (spLof CN):=⟨f9,_,zauu (k:=6) F9 clN nN_gates (D_is_source_1.mono (by omega)) D_layer_and_reason_6 z_enumerate,b9,k9,m9⟩
 have D__law_next_1:DefOk l.prog w K mg base CX0 1 "_law_next" ["_law_script", "_law_at"] (spNext K):=⟨f10,_,zasc (k:=0) F10 z_len z_range,b10,k10,m10⟩
 have D__law_net_2:DefOk l.prog w K mg base CX0 2 "_law_net" ["_law_script", "_law_at", "_law_ins", "_law_keeps", "_law_many"] (spLNet K):=⟨f11,_,zasd (k:=1) F11 D__law_next_1 z_len z_range z_max z_min z_tuple,b11,k11,m11⟩
 have D__law_ladder_1:DefOk l.prog w K mg base CX0 1 "_law_ladder" ["_law_script", "_law_at", "_law_ins", "_law_many"] spNo:=⟨f17,_,zaud (k:=0) F17,b17,k17,m17⟩
 have D__law_broad_2:DefOk l.prog w K mg base CX0 2 "_law_broad" ["_law_script", "_law_at"] (spBro K):=⟨f20,_,zauc (k:=1) F20 D__law_next_1 z_len z_range z_int,b20,k20,m20⟩
 have D__law_first_net_3:DefOk l.prog w K mg base CX0 3 "_law_first_net" ["_law_script", "_law_at", "_law_small"] (spFst K):=⟨f18,_,zaue (k:=2) F18 (D__law_next_1.mono (by omega)) D__law_broad_2 (D__law_ladder_1.mono (by omega)) D__law_net_2,b18,k18,m18⟩
 have D__law_some_net_4:DefOk l.prog w K mg base CX0 4 "_law_some_net" ["_law_script", "_law_at", "_law_small"] (spSom K):=⟨f19,_,zauf (k:=3) F19 (D__law_next_1.mono (by omega)) D__law_first_net_3 z_len z_range,b19,k19,m19⟩
 have D__law_opened_1:DefOk l.prog w K mg base CX0 1 "_law_opened" ["_law_gates", "_law_stops"] spOpn:=⟨f13,_,zaug (k:=0) F13 z_enumerate z_any,b13,k13,m13⟩
 have D__law_shut_2:DefOk l.prog w K mg base CX0 2 "_law_shut" ["_law_gates", "_law_stops", "_law_gate"] spShut:=⟨f14,_,zash (k:=1) F14 D__law_opened_1 z_any,b14,k14,m14⟩
 have D__law_is_source_1:DefOk l.prog w K mg base CX0 1 "_law_is_source" ["_law_gates", "_law_number"] spLSrc:=⟨f15,_,zasg (k:=0) F15,b15,k15,m15⟩
 have D__law_cone_2:DefOk l.prog w K mg base CX0 2 "_law_cone" ["_law_gates", "_law_gate"] spCone:=⟨f16,_,zasi (k:=1) F16 D__law_is_source_1 z_len z_sorted z_list,b16,k16,m16⟩
 have D__law_sets_1:DefOk l.prog w K mg base CX0 1 "_law_sets" ["_law_gates"] spSets:=⟨f21,_,zask (k:=0) F21 z_len,b21,k21,m21⟩
 have D__law_least_set_3:DefOk l.prog w K mg base CX0 3 "_law_least_set" ["_law_gates", "_law_layers", "_law_gate", "_law_cone_here"] spLse:=⟨f22,_,zauv (k:=2) F22 (D__law_sets_1.mono (by omega)) D__law_shut_2 z_len z_range,b22,k22,m22⟩
 have D__law_shallow_4:DefOk l.prog w K mg base CX0 4 "_law_shallow" ["_law_gates", "_law_most"] spShl:=⟨f23,_,zauw (k:=3) F23 (D__law_cone_2.mono (by omega)) (D__law_is_source_1.mono (by omega)) D__law_least_set_3 z_len z_range,b23,k23,m23⟩
 have D0__law_same_1:DefOk l.prog w K mg base CX0 1 "_law_same" ["_law_found", "_law_due"] (spSame 0):=⟨f12,_,zapx (k:=0) F12,b12,k12,m12⟩
 have D1__law_same_2:DefOk l.prog w K mg base CX0 2 "_law_same" ["_law_found", "_law_due"] (spSame 1):=⟨f12,_,zaob (k:=1) 0 F12 D0__law_same_1 z_isinstance z_dict z_list z_tuple z_str z_int z_bool z_len z_all z_zip,b12,k12,m12⟩
 have D2__law_same_3:DefOk l.prog w K mg base CX0 3 "_law_same" ["_law_found", "_law_due"] (spSame 2):=⟨f12,_,zaob (k:=2) 1 F12 D1__law_same_2 z_isinstance z_dict z_list z_tuple z_str z_int z_bool z_len z_all z_zip,b12,k12,m12⟩
 exact zauy (k:=10) F24 mN (MkN.mono (by omega)) (D__law_some_net_4.mono (by omega)) (D__law_shallow_4.mono (by omega)) (D_layers_of_7.mono (by omega)) (D2__law_same_3.mono (by omega))
end

end B17
namespace B17
open PySem L2
def XS:List (Str × Tok × Value):=[("in",251,.int 0 252),("zero",253,.int 0 254),("one",255,.int 0 256),("not",257,.int 1 258),("and",259,.int 2 260),("or",261,.int 2 262),("xor",263,.int 2 264),("pick",265,.int 3 266)]
def VS:List V:=[.int 0,.int 0,.int 0,.int 1,.int 2,.int 2,.int 2,.int 3]
def KVS:List (Key × V):=(XS.map fun x=>(Sum.inr x.1:Key)).zip VS
theorem zavn:(XS.map (·.1)).Nodup:=by decide +kernel
theorem zasw:Vals VS (XS.map (·.2.2)):=.cons ⟨_,rfl⟩ (.cons ⟨_,rfl⟩ (.cons ⟨_,rfl⟩ (.cons ⟨_,rfl⟩ (.cons ⟨_,rfl⟩ (.cons ⟨_,rfl⟩ (.cons ⟨_,rfl⟩ (.cons ⟨_,rfl⟩ (.nil))))))))
theorem zapz {P:Program}{w:World}{K:PySem.W.Frag}{ff:Addr}{od:Option Addr}{ep:Nat}{sl:Array (Option Value)}{es:Array DictEntry} (l:K.lookup ff=some ⟨.type "dict",od,.dict es ep,sl⟩) (he:es.toList=XS.map (ent w))
  (hx:(⟨.type "dict",od,.dict es ep,sl⟩:Obj).ExactDict) (ns:(ff == sysModules)=false):KD P w K ff KVS:=zava XS VS l he hx ns zavn zasw
theorem zasx:∀ w n,(w,n)∈FC→valV KVS (Sum.inr w)=some (.int n):=by
 intro w n h
 simp only [FC,List.mem_cons,List.not_mem_nil,or_false,Prod.mk.injEq] at h
 rcases h with ⟨rfl,rfl⟩ | ⟨rfl,rfl⟩ | ⟨rfl,rfl⟩ | ⟨rfl,rfl⟩ | ⟨rfl,rfl⟩ | ⟨rfl,rfl⟩ | ⟨rfl,rfl⟩ | ⟨rfl,rfl⟩ <;> rfl
end B17
open PySem PySem.W PyProof.Rows
theorem PySem.W.Fast.tw13139894484488634518:True:=trivial
theorem PySem.W.Fast.tw752268446577208200:True:=trivial
theorem PySem.W.Fast.tw2061765307994206830:True:=trivial
theorem PySem.W.Fast.tw17138874862152640827:True:=trivial
theorem PySem.W.Fast.tw3215392629433310842:True:=trivial
theorem PySem.W.Fast.tw290344041814485071:True:=trivial
theorem PySem.W.Fast.tw2238981209655433540:True:=trivial
theorem PySem.W.Fast.tw5277835095970078770:True:=trivial
theorem PySem.W.Fast.tw12171314441091603360:True:=trivial
theorem PySem.W.Fast.tw10963356748455294507:True:=trivial
theorem PySem.W.Fast.tw10761176955417376314:True:=trivial
theorem PySem.W.Fast.tw1485964015184671961:True:=trivial
theorem PySem.W.Fast.tw17353533368229986090:True:=trivial
theorem PySem.W.Fast.tw11760478349727239420:True:=trivial
theorem PySem.W.Fast.tw17925340433538169695:True:=trivial
theorem PySem.W.Fast.tw4310679413870503127:True:=trivial
theorem PySem.W.Fast.tw18056122870663856230:True:=trivial
theorem PySem.W.Fast.tw2885336834048418603:True:=trivial
theorem PySem.W.Fast.tw13166312422724828476:True:=trivial
theorem PySem.W.Fast.tw12680695045399914998:True:=trivial
theorem PySem.W.Fast.tw5347417477226811066:True:=trivial
theorem PySem.W.Fast.tw10673802927837342278:True:=trivial
theorem PySem.W.Fast.tw5467274584483912957:True:=trivial
theorem PySem.W.Fast.tw10527987971276660363:True:=trivial
theorem PySem.W.Fast.tw15518851951230075760:True:=trivial
theorem PySem.W.Fast.tw4386125905109997953:True:=trivial
theorem PySem.W.Fast.tw11467891760359469780:True:=trivial
theorem PySem.W.Fast.tw8644227786244090778:True:=trivial
theorem PySem.W.Fast.tw6133909800897053859:True:=trivial
theorem PySem.W.Fast.tw13966531480757966665:True:=trivial
theorem PySem.W.Fast.tw1221003451016663338:True:=trivial
theorem PySem.W.Fast.tw9941774348662717962:True:=trivial
theorem PySem.W.Fast.tw3500921396734419617:True:=trivial
theorem PySem.W.Fast.tw15659575078034690013:True:=trivial
theorem PySem.W.Fast.tw18021475708224397896:True:=trivial
theorem PySem.W.Fast.tw2628786712724536151:True:=trivial
theorem PySem.W.Fast.tw8093759202649864472:True:=trivial
theorem PySem.W.Fast.tw17723563179305125939:True:=trivial
theorem PySem.W.Fast.tw12967960451836683603:True:=trivial
theorem PySem.W.Fast.tw4995515084251011475:True:=trivial
theorem PySem.W.Fast.tw9100509424277080024:True:=trivial
theorem PySem.W.Fast.tw12812008060489630388:True:=trivial
theorem PySem.W.Fast.tw17115512898964982261:True:=trivial
theorem PySem.W.Fast.tw5321665845636822009:True:=trivial
theorem PySem.W.Fast.tw3970112733682251792:True:=trivial
theorem PySem.W.Fast.tw296463039656313689:True:=trivial
theorem PySem.W.Fast.tw16399811313104730922:True:=trivial
theorem PySem.W.Fast.tw18128658172549095340:True:=trivial
theorem PySem.W.Fast.tw17158991283134814890:True:=trivial
theorem PySem.W.Fast.tw4932151751416897931:True:=trivial
theorem PySem.W.Fast.tw24010266103138347:True:=trivial
theorem PySem.W.Fast.tw1611587188040843058:True:=trivial
theorem PySem.W.Fast.tw4960725083703569030:True:=trivial
theorem PySem.W.Fast.tw17980533793546606694:True:=trivial
theorem PySem.W.Fast.tw13635903455908335394:True:=trivial
theorem PySem.W.Fast.tw16734819085184283619:True:=trivial
theorem PySem.W.Fast.tw18127450354576743254:True:=trivial
theorem PySem.W.Fast.tw15504887214437166773:True:=trivial
theorem PySem.W.Fast.tw12928550410691694449:True:=trivial
theorem PySem.W.Fast.tw14364157014832264850:True:=trivial
theorem PySem.W.Fast.tw11477793907566382093:True:=trivial
theorem PySem.W.Fast.tw14848607376024590045:True:=trivial
theorem PySem.W.Fast.tw1625899034985708587:True:=trivial
theorem PySem.W.Fast.tw277808738693531383:True:=trivial
theorem PySem.W.Fast.tw4026050837544651319:True:=trivial
theorem PySem.W.Fast.tw18194531016989670781:True:=trivial
theorem PySem.W.Fast.tw269730095681217880:True:=trivial
theorem PySem.W.Fast.tw5706963989970082090:True:=trivial
theorem PySem.W.Fast.tw12647967598269234214:True:=trivial
theorem PySem.W.Fast.tw17478776530340306717:True:=trivial
theorem PySem.W.Fast.tw4448379812176107405:True:=trivial
theorem PySem.W.Fast.tw15817146088293025160:True:=trivial
theorem PySem.W.Fast.tw6614444177188992184:True:=trivial
theorem PySem.W.Fast.tw1536151289632483186:True:=trivial
theorem PySem.W.Fast.tw2327119720697232195:True:=trivial
theorem PySem.W.Fast.tw16486336609246359432:True:=trivial
theorem PySem.W.Fast.tw2328503293680084826:True:=trivial
theorem PySem.W.Fast.tw4228164904478446795:True:=trivial
theorem PySem.W.Fast.tw12771151101907955003:True:=trivial
theorem PySem.W.Fast.tw12016375129197385643:True:=trivial
theorem PySem.W.Fast.tw2252760961144653317:True:=trivial
theorem PySem.W.Fast.tw7726912663792143928:True:=trivial
theorem PySem.W.Fast.tw4452123574219853846:True:=trivial
set_option maxRecDepth 100000 in
set_option maxHeartbeats 0 in
theorem PySem.Challenge.cw_bitfloor_k30_layers_least_holds : PySem.Challenge.rw_bitfloor_k30_layers_least.Holds := by
 w_on; o_law; k_head; (case hw=>w_witness2)
 k_fill
 refine L2.zaot (l:=PySem.Challenge.rw_bitfloor_k30_layers_least) (n:=63) (k:=12) (x := "_law_script") (CX:=L2.CX0) (sp:=B17.spLaw) rfl (by decide) rfl ⟨rfl,by decide,by decide⟩ (fun w h Y=>PySem.W.kIn_of Y) ?F ?S ?C
 case F =>
  intro w mg fa h KX G hmg
  refine' B17.zauz KX G hmg ?aN ?aS ?a0 ?l0 ?c0 ?k0 ?a1 ?l1 ?c1 ?k1 ?a2 ?l2 ?c2 ?k2 ?a3 ?l3 ?c3 ?k3 ?a4 ?l4 ?c4 ?k4 ?a5 ?l5 ?c5 ?k5 ?a6 ?l6 ?c6 ?k6 ?a7 ?l7 ?c7 ?k7 ?a8 ?l8 ?c8 ?k8 ?a9 ?l9 ?c9 ?k9 ?a10 ?l10 ?c10 ?k10 ?a11 ?l11 ?c11 ?k11 ?a12 ?l12 ?c12 ?k12 ?a13 ?l13 ?c13 ?k13 ?a14 ?l14 ?c14 ?k14 ?a15 ?l15 ?c15 ?k15 ?a16 ?l16 ?c16 ?k16 ?a17 ?l17 ?c17 ?k17 ?a18 ?l18 ?c18 ?k18 ?a19 ?l19 ?c19 ?k19 ?a20 ?l20 ?c20 ?k20 ?a21 ?l21 ?c21 ?k21 ?a22 ?l22 ?c22 ?k22 ?a23 ?l23 ?c23 ?k23 ?a24 ?l24 ?c24 ?k24 ?a25 ?l25 ?c25 ?k25 ?i25 ?a26 ?l26 ?c26 ?k26 ?i26 ?a27 ?l27 ?c27 ?k27 ?i27 ?a28 ?l28 ?c28 ?k28 ?i28 ?a29 ?l29 ?c29 ?k29 ?i29 ?a30 ?l30 ?c30 ?k30 ?i30 ?a31 ?l31 ?c31 ?k31 ?i31 ?pgN ?hdN ?poN ?saN ?mkN ?kcN ?nN_gates ?nN_outs ?pgS ?hdS ?poS ?saS ?mkS ?kcS ?nS_low ?nS_starts ?nS_ways ?nS_ends ?z_len ?z_range ?z_int ?z_str ?z_isinstance ?z_zip ?z_list ?z_tuple ?z_bool ?z_all ?z_any ?z_enumerate ?z_max ?z_min ?z_dict ?z_sorted ?z_reversed ?ai_MOST ?ai_END ?qaFC (B17.zapz ?qlf ?qhe ?qhx ?qns) B17.zasx
  (case aN=>k_is)
  (case aS=>k_is)
  (case a0=>k_is)
  (case l0=>k_is)
  (case c0=>k_is)
  (case k0=>k_is)
  (case a1=>k_is)
  (case l1=>k_is)
  (case c1=>k_is)
  (case k1=>k_is)
  (case a2=>k_is)
  (case l2=>k_is)
  (case c2=>k_is)
  (case k2=>k_is)
  (case a3=>k_is)
  (case l3=>k_is)
  (case c3=>k_is)
  (case k3=>k_is)
  (case a4=>k_is)
  (case l4=>k_is)
  (case c4=>k_is)
  (case k4=>k_is)
  (case a5=>k_is)
  (case l5=>k_is)
  (case c5=>k_is)
  (case k5=>k_is)
  (case a6=>k_is)
  (case l6=>k_is)
  (case c6=>k_is)
  (case k6=>k_is)
  (case a7=>k_is)
  (case l7=>k_is)
  (case c7=>k_is)
  (case k7=>k_is)
  (case a8=>k_is)
  (case l8=>k_is)
  (case c8=>k_is)
  (case k8=>k_is)
  (case a9=>k_is)
  (case l9=>k_is)
  (case c9=>k_is)
  (case k9=>k_is)
  (case a10=>k_is)
  (case l10=>k_is)
  (case c10=>k_is)
  (case k10=>k_is)
  (case a11=>k_is)
  (case l11=>k_is)
  (case c11=>k_is)
  (case k11=>k_is)
  (case a12=>k_is)
  (case l12=>k_is)
  (case c12=>k_is)
  (case k12=>k_is)
  (case a13=>k_is)
  (case l13=>k_is)
  (case c13=>k_is)
  (case k13=>k_is)
  (case a14=>k_is)
  (case l14=>k_is)
  (case c14=>k_is)
  (case k14=>k_is)
  (case a15=>k_is)
  (case l15=>k_is)
  (case c15=>k_is)
  (case k15=>k_is)
  (case a16=>k_is)
  (case l16=>k_is)
  (case c16=>k_is)
  (case k16=>k_is)
  (case a17=>k_is)
  (case l17=>k_is)
  (case c17=>k_is)
  (case k17=>k_is)
  (case a18=>k_is)
  (case l18=>k_is)
  (case c18=>k_is)
  (case k18=>k_is)
  (case a19=>k_is)
  (case l19=>k_is)
  (case c19=>k_is)
  (case k19=>k_is)
  (case a20=>k_is)
  (case l20=>k_is)
  (case c20=>k_is)
  (case k20=>k_is)
  (case a21=>k_is)
  (case l21=>k_is)
  (case c21=>k_is)
  (case k21=>k_is)
  (case a22=>k_is)
  (case l22=>k_is)
  (case c22=>k_is)
  (case k22=>k_is)
  (case a23=>k_is)
  (case l23=>k_is)
  (case c23=>k_is)
  (case k23=>k_is)
  (case a24=>k_is)
  (case l24=>k_is)
  (case c24=>k_is)
  (case k24=>k_is)
  (case a25=>k_is)
  (case l25=>k_is)
  (case c25=>k_is)
  (case k25=>k_is)
  (case i25=>k_is)
  (case a26=>k_is)
  (case l26=>k_is)
  (case c26=>k_is)
  (case k26=>k_is)
  (case i26=>k_is)
  (case a27=>k_is)
  (case l27=>k_is)
  (case c27=>k_is)
  (case k27=>k_is)
  (case i27=>k_is)
  (case a28=>k_is)
  (case l28=>k_is)
  (case c28=>k_is)
  (case k28=>k_is)
  (case i28=>k_is)
  (case a29=>k_is)
  (case l29=>k_is)
  (case c29=>k_is)
  (case k29=>k_is)
  (case i29=>k_is)
  (case a30=>k_is)
  (case l30=>k_is)
  (case c30=>k_is)
  (case k30=>k_is)
  (case i30=>k_is)
  (case a31=>k_is)
  (case l31=>k_is)
  (case c31=>k_is)
  (case k31=>k_is)
  (case i31=>k_is)
  (case pgN=>k_is)
  (case hdN=>k_is)
  (case poN=>k_is)
  (case saN=>k_is)
  (case mkN=>k_is)
  (case kcN=>k_is)
  (case nN_gates=>k_is)
  (case nN_outs=>k_is)
  (case pgS=>k_is)
  (case hdS=>k_is)
  (case poS=>k_is)
  (case saS=>k_is)
  (case mkS=>k_is)
  (case kcS=>k_is)
  (case nS_low=>k_is)
  (case nS_starts=>k_is)
  (case nS_ways=>k_is)
  (case nS_ends=>k_is)
  (case z_len=>k_is)
  (case z_range=>k_is)
  (case z_int=>k_is)
  (case z_str=>k_is)
  (case z_isinstance=>k_is)
  (case z_zip=>k_is)
  (case z_list=>k_is)
  (case z_tuple=>k_is)
  (case z_bool=>k_is)
  (case z_all=>k_is)
  (case z_any=>k_is)
  (case z_enumerate=>k_is)
  (case z_max=>k_is)
  (case z_min=>k_is)
  (case z_dict=>k_is)
  (case z_sorted=>k_is)
  (case z_reversed=>k_is)
  (case ai_MOST=>k_is)
  (case ai_END=>k_is)
  (case qaFC=>k_is)
  (case qlf=>k_is)
  (case qhe=>rfl)
  (case qhx=>exact ⟨rfl,rfl,rfl⟩)
  (case qns=>rfl)
 case S=>exact fun K H a ns hl hO hS=>⟨a,ns,rfl,L2.Scr.of hS hl hO,fun _=>rfl⟩
 case C=>exact fun _ _ _ _ z=>z
