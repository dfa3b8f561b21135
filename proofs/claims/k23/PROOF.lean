import PyProof.Rows.All
import Wide.All
import OpenK.AllK
import Wide.FinOn
import Lean
import PyProof.EqAt
import PyProof.EqKinds
import PyProof.TupleCall
import PyProof.AttrMiss
import PyProof.ConsumeWalk
import KE.KDictOf
import OpenK.KOwn
import PyProof.NsDelKeeps
import KE.KIsAll
import PyProof.Rows.SumAny
import PyProof.NeKinds
import PyProof.SeqI3
import KE.KRevIter
import KE.KSortTup
import PyProof.DictIter
import KE.KDictList
import PyProof.TupleOfGen
import KE.KItemsList
import PyProof.StrCalls
import PyProof.MinMaxWalk
import PyProof.WalkInts
import PyProof.FString5
import KE.KIntText
import PyProof.DictWalks
import OpenK.KCls
import KE.KListMore
import KE.KFind
import PyProof.TupleIter
import PySem.Challenge.RW_bitfloor_k23_keeps_ends_and_forms
import KE.RegKIsAll
set_option Elab.async false
set_option linter.all false
set_option maxRecDepth 100000
namespace L2
open PySem PySem.Spec PyProof.Rows
abbrev Key:=Sum Int Str
def keyIs:Key→Value→Bool
 | .inl k,v=>Value.isInt k v
 | .inr x,v=>Value.isStrOf x v
def keyH (w:World):Key→Int
 | .inl k=>hashInt k
 | .inr x=>hashStr w x
theorem zacg:∀ {k:Key}{v:Value},keyIs k v=true→(∃ i t,k=Sum.inl i∧v=Value.int i t)∨(∃ x t,k=Sum.inr x∧v=Value.str x t)
 | .inl i,v,h=>by
  obtain ⟨t,e⟩:=Value.isInt_shape (k:=i) (v:=v) h
  exact .inl ⟨i,t,rfl,e⟩
 | .inr x,v,h=>by
  obtain ⟨t,e⟩:=Value.isStrOf_shape (x:=x) (v:=v) h
  exact .inr ⟨x,t,rfl,e⟩
theorem zajx (i:Int) (t:Tok):keyIs (.inl i) (.int i t)=true:=by simp [keyIs,Value.isInt]
theorem zafi (x:Str) (t:Tok):keyIs (.inr x) (.str x t)=true:=by simp [keyIs,Value.isStrOf]
theorem zap0 (a b:Int):decide ((Sum.inl a:Key)=Sum.inl b)=(a == b):=by
 by_cases e:a=b
 ·subst e; simp
 ·have h:¬ (Sum.inl a:Key)=Sum.inl b:=fun q=>e (Sum.inl.inj q)
  rw [decide_eq_false h]
  exact (beq_eq_false_iff_ne.mpr e).symm
theorem zap1 (a b:Str):decide ((Sum.inr a:Key)=Sum.inr b)=decide (a=b):=by
 by_cases e:a=b
 ·subst e; simp
 ·have h:¬ (Sum.inr a:Key)=Sum.inr b:=fun q=>e (Sum.inr.inj q)
  rw [decide_eq_false h,decide_eq_false e]
theorem zap2 (a:Int) (b:Str):decide ((Sum.inl a:Key)=Sum.inr b)=false:=decide_eq_false (fun q=>nomatch q)
theorem zap3 (a:Str) (b:Int):decide ((Sum.inr a:Key)=Sum.inl b)=false:=decide_eq_false (fun q=>nomatch q)
def mixKind (prog:Program) (w:World):PySem.KeyKind prog w Key where
 is:=keyIs
 hash:=keyH w
 inj:=fun v a b ha hb=>by
  rcases zacg ha with ⟨i,t,rfl,rfl⟩ | ⟨x,t,rfl,rfl⟩
  ·rcases zacg hb with ⟨j,u,rfl,e⟩ | ⟨y,u,rfl,e⟩
   ·injection e with e1 _; rw [e1]
   ·exact nomatch e
  ·rcases zacg hb with ⟨j,u,rfl,e⟩ | ⟨y,u,rfl,e⟩
   ·exact nomatch e
   ·injection e with e1 _; rw [e1]
 byValue:=fun k v h=>by
  rcases zacg h with ⟨i,t,rfl,rfl⟩ | ⟨x,t,rfl,rfl⟩ <;> rfl
 pyHash:=fun hv h=>by
  rcases zacg hv with ⟨i,t,rfl,rfl⟩ | ⟨x,t,rfl,rfl⟩
  ·exact wpAny_pyHash_int h
  ·exact wpAny_pyHash_str h
 eqBool:=fun hu hv h=>by
  rcases zacg hu with ⟨i,t,rfl,rfl⟩ | ⟨x,t,rfl,rfl⟩
  ·rcases zacg hv with ⟨j,u,rfl,rfl⟩ | ⟨y,u,rfl,rfl⟩
   ·rw [zap0] at h; exact wpAny_eqBool_int h
   ·rw [zap2] at h; exact SeqAt.EqAt.int_str i t y u _ _ _ _ h
  ·rcases zacg hv with ⟨j,u,rfl,rfl⟩ | ⟨y,u,rfl,rfl⟩
   ·rw [zap3] at h; exact SeqAt.EqAt.str_int x t j u _ _ _ _ h
   ·rw [zap1] at h; exact wpAny_eqBool_str h
 «strs»:=fun k x t v h=>by
  rcases zacg h with ⟨i,u,rfl,e⟩ | ⟨y,u,rfl,e⟩
  ·exact nomatch e
  ·injection e with e1 _
   subst e1
   cases v <;> rfl
theorem zahu (prog:Program) (w:World) (i:Int) (t:Tok):(mixKind prog w).is (.inl i) (.int i t)=true:=zajx i t
theorem zahv (prog:Program) (w:World) (x:Str) (t:Tok):(mixKind prog w).is (.inr x) (.str x t)=true:=zafi x t
inductive V where
 | non | bl (b:Bool) | int (i:Int) | str (x:Str) | byt (b:Array UInt8) | flt (b:UInt64) | ref (a:Addr) | ty (n:String)
 deriving DecidableEq
def RelV:V→Value→Prop
 | .non,u=>u=Value.none
 | .bl b,u=>u=Value.bool b
 | .int i,u=>∃ t,u=Value.int i t
 | .str x,u=>∃ t,u=Value.str x t
 | .byt b,u=>∃ t,u=Value.bytes b t
 | .flt b,u=>∃ t,u=Value.float b t
 | .ref a,u=>u=Value.ref a
 | .ty n,u=>u=Value.type n
abbrev Vals:List V→List Value→Prop:=Paired RelV
theorem Vals.length {xs:List V}{us:List Value} (r:Vals xs us):xs.length=us.length:=Paired.length r
theorem Vals.get:∀ {xs:List V}{us:List Value}{i:Nat}{x:V},Vals xs us→xs[i]?=some x→∃ u,us[i]?=some u∧RelV x u
 | _,_,_,_,.nil,e=>by simp at e
 | _,_,0,_,.cons r _,e=>by simp at e; subst e; exact ⟨_,rfl,r⟩
 | _,_,i + 1,x,.cons _ t,e=>by
  obtain ⟨u,h1,h2⟩:=Vals.get (i:=i) (x:=x) t (by simpa using e)
  exact ⟨u,by simpa using h1,h2⟩
theorem Vals.set {x:V}{u:Value} (r:RelV x u):∀ {xs:List V}{us:List Value} (i:Nat),Vals xs us→Vals (xs.set i x) (us.set i u)
 | _,_,_,.nil=>.nil
 | _,_,0,.cons _ t=>.cons r t
 | _,_,i + 1,.cons q t=>.cons q (Vals.set r i t)
theorem Vals.append:∀ {xs ys:List V}{us ws:List Value},Vals xs us→Vals ys ws→Vals (xs++ys) (us++ws)
 | _,_,_,_,.nil,s=>s
 | _,_,_,_,.cons r t,s=>.cons r (Vals.append t s)
theorem Vals.take:∀ {xs:List V}{us:List Value} (n:Nat),Vals xs us→Vals (xs.take n) (us.take n)
 | _,_,0,_=>.nil
 | _,_,_ + 1,.nil=>.nil
 | _,_,n + 1,.cons r t=>.cons r (Vals.take n t)
theorem Vals.drop:∀ {xs:List V}{us:List Value} (n:Nat),Vals xs us→Vals (xs.drop n) (us.drop n)
 | _,_,0,r=>r
 | _,_,_ + 1,.nil=>.nil
 | _,_,n + 1,.cons _ t=>Vals.drop n t
def RelO:Option V→Option Value→Prop
 | some v,some u=>RelV v u
 | none,none=>True
 | _,_=>False
def KV {κ:Type}:List (κ × V)→List (κ × Value)→Prop:=Paired fun (p:κ × V) (q:κ × Value)=>p.1=q.1∧RelV p.2 q.2
def kV:Key→V
 | .inl i=>.int i
 | .inr x=>.str x
inductive HO where
 | lst (xs:List V)
 | tup (xs:List V)
 | dK (kvs:List (Key × V)) | dT (kvs:List (List Key × V))
 | set (S:Int→Bool) (n:Nat)
 | ins (C dx:Addr) (fs:List (Str × V))
 | own (x:Addr)
 | xd (fs:List (Str × V))
 | met (f x:Addr)
 | rng (lo hi:Int)
 | frz (o:Obj) (u:HO)
 | tbl (ps:Array Value)
 | ext (φ:Heap→Prop)
abbrev Hp:=Addr→Option HO
def upd (H:Hp) (a:Addr) (o:HO):Hp:=fun b=>if b=a then some o else H b
theorem zaai {H:Hp}{a:Addr}{o:HO}:upd H a o a=some o:=by unfold upd; rw [if_pos rfl]
theorem zabs {H:Hp}{a b:Addr}{o:HO} (h:b≠a):upd H a o b=H b:=by unfold upd; rw [if_neg h]
theorem zajy {H:Hp}{a b:Addr}{o u:HO} (h:H a=some o) (h':H b=some u) (d:o≠u):a≠b:=by
 intro e; subst e; rw [h] at h'; exact d (Option.some.inj h')
theorem zaa7 {H:Hp}{a b:Addr}{o:HO} (h:H a=some o) (h':H b=none):a≠b:=by
 intro e; subst e; rw [h] at h'; cases h'
section
variable (P:Program) (w:World)
def ObjOk (H:Hp) (h:Heap) (a:Addr):HO→Prop
 | .lst xs=>xs.length≤sizeLine∧∃ (its:List Value) (n:Nat),Vals xs its∧h.get? a=some { cls:=.type "list",data:=.seq its.toArray n }
 | .tup xs=>xs.length≤sizeLine∧∃ its:List Value,Vals xs its∧IsTup h a its.toArray
 | .dK kvs=>kvs.length≤sizeLine∧(a == sysModules)=false∧∃ vs,KV kvs vs∧h.DictOf (mixKind P w) a vs
 | .dT kvs=>kvs.length≤sizeLine∧(a == sysModules)=false∧∃ xs:List (List Key × Addr × Value),
   Paired (fun (p:List Key × V) (q:List Key × Addr × Value)=>p.1=q.1∧H q.2.1=some (.tup (p.1.map kV))∧RelV p.2 q.2.2) kvs xs ∧
   ∃ o es ep,h.get? a=some o∧o.ExactDict∧o.data=.dict es ep∧es.toList=xs.map (entryOfKey (tupleKind (mixKind P w)))∧(xs.map (·.1)).Nodup
 | .set S n=>h.SetOf (intKind P w) a S n
 | .ins C dx fs=>H dx=some (.own a)∧fs.length≤1000∧dx≠a∧h.get? a=some (PySem.W.instObj C dx) ∧
   ∃ mA,h.Ns1 dx mA∧(∀ f,RelO (fs.lookup f) (mA f))∧PySem.Within mA (fs.map (·.1))
 | .own _=>∃ o,h.get? a=some o
 | .xd fs=>∃ mA,h.Ns1 a mA∧∀ f,RelO (fs.lookup f) (mA f)
 | .rng lo hi=>∃ t u v,h.get? a=some { cls:=.type "range",data:=.fields #[.int lo t,.int hi u,.int 1 v] }
 | .frz o u=>h.get? a=some o∧ObjOk H h a u
 | .tbl ps=>h.get? a=some { cls:=.none,data:=.fields ps }
 | .met f x=>h.get? a=some (PySem.W.methodObj (.ref f) (.ref x))
 | .ext φ=>φ h∧(∃ o,h.get? a=some o)∧∀ h1 h2:Heap,φ h1→(∀ o,h1.get? a=some o→h2.get? a=some o)→φ h2
def HOk (H:Hp) (h:Heap):Prop:=∀ a o,H a=some o→ObjOk P w H h a o
end
section
variable {P:Program}{w:World}{H H':Hp}{h h':Heap}{a:Addr}{o:HO}
theorem ObjOk.lt (x:ObjOk P w H h a o):a < h.objs.size:=by
 cases o with
 | lst xs=>obtain ⟨_,_,_,_,e⟩:=x; exact Heap.lt_size e
 | tup xs=>obtain ⟨_,_,_,p⟩:=x; exact p.lt
 | dK kvs=>obtain ⟨_,_,_,_,o,_,_,e,_⟩:=x; exact Heap.lt_size e
 | dT kvs=>obtain ⟨_,_,_,_,o,_,_,e,_⟩:=x; exact Heap.lt_size e
 | set S n=>obtain ⟨o,_,_,_,e,_⟩:=x; exact Heap.lt_size e
 | ins C dx fs=>obtain ⟨_,_,_,e,_⟩:=x; exact Heap.lt_size e
 | own y=>obtain ⟨_,e⟩:=x; exact Heap.lt_size e
 | xd fs=>obtain ⟨_,⟨_,_,_,e,_⟩,_⟩:=x; exact Heap.lt_size e
 | rng lo hi=>obtain ⟨_,_,_,e⟩:=x; exact Heap.lt_size e
 | frz ob u=>obtain ⟨e,_⟩:=x; exact Heap.lt_size e
 | tbl ps=>exact Heap.lt_size (show h.get? a=some _ from x)
 | met f y=>exact Heap.lt_size (show h.get? a=some _ from x)
 | ext φ=>obtain ⟨_,⟨_,e⟩,_⟩:=x; exact Heap.lt_size e
theorem Paired.mapP {α β:Type}{F G:α→β→Prop}:∀ {l₁:List α}{l₂:List β},Paired F l₁ l₂→(∀ a b,F a b→G a b)→Paired G l₁ l₂
 | _,_,.nil,_=>.nil
 | _,_,.cons r t,f=>.cons (f _ _ r) (Paired.mapP t f)
theorem ObjOk.stay (x:ObjOk P w H h a o) (k:∀ b u,(b=a∨H b=some (.own a))→h.get? b=some u→h'.get? b=some u)
  (ho:∀ b,H b=some (.own a)→H' b=some (.own a)) (ht:∀ b xs,H b=some (.tup xs)→H' b=some (.tup xs)):ObjOk P w H' h' a o:=by
 induction o with
 | lst xs=>obtain ⟨z,its,n,r,e⟩:=x; exact ⟨z,its,n,r,k _ _ (.inl rfl) e⟩
 | tup xs=>obtain ⟨z,its,r,ob,e,c⟩:=x; exact ⟨z,its,r,ob,k _ _ (.inl rfl) e,c⟩
 | dK kvs=>obtain ⟨z,y,vs,r,ob,es,ep,e,c⟩:=x; exact ⟨z,y,vs,r,ob,es,ep,k _ _ (.inl rfl) e,c⟩
 | dT kvs =>
  obtain ⟨z,y,xs,r,ob,es,ep,e,c⟩:=x
  exact ⟨z,y,xs,Paired.mapP r fun p q z=>⟨z.1,ht _ _ z.2.1,z.2.2⟩,ob,es,ep,k _ _ (.inl rfl) e,c⟩
 | set S n=>obtain ⟨ob,es,ep,t,e,c⟩:=x; exact ⟨ob,es,ep,t,k _ _ (.inl rfl) e,c⟩
 | ins C dx fs =>
  obtain ⟨d,z,ne,e,mA,⟨od,es,ep,e2,c⟩,r⟩:=x
  exact ⟨ho _ d,z,ne,k _ _ (.inl rfl) e,mA,⟨od,es,ep,k _ _ (.inr d) e2,c⟩,r⟩
 | own y=>obtain ⟨ob,e⟩:=x; exact ⟨ob,k _ _ (.inl rfl) e⟩
 | xd fs=>obtain ⟨mA,⟨od,es,ep,e,c⟩,r⟩:=x; exact ⟨mA,⟨od,es,ep,k _ _ (.inl rfl) e,c⟩,r⟩
 | rng lo hi=>obtain ⟨t,u,v,e⟩:=x; exact ⟨t,u,v,k _ _ (.inl rfl) e⟩
 | frz ob u ih=>obtain ⟨e,q⟩:=x; exact ⟨k _ _ (.inl rfl) e,ih q⟩
 | tbl ps =>
  have e:h.get? a=some { cls:=.none,data:=.fields ps }:=x
  show h'.get? a=some { cls:=.none,data:=.fields ps }
  exact k a _ (.inl rfl) e
 | met f y =>
  have e:h.get? a=some (PySem.W.methodObj (.ref f) (.ref y)):=x
  show h'.get? a=some (PySem.W.methodObj (.ref f) (.ref y))
  exact k a _ (.inl rfl) e
 | ext φ=>obtain ⟨p,⟨o,e⟩,st⟩:=x; exact ⟨st _ _ p fun o q=>k _ _ (.inl rfl) q,⟨o,k _ _ (.inl rfl) e⟩,st⟩
theorem HOk.lt (x:HOk P w H h) (e:H a=some o):a < h.objs.size:=(x a o e).lt
theorem HOk.fresh (x:HOk P w H h) (e:h.objs.size≤a):H a=none:=by
 cases q:H a with
 | none=>rfl
 | some u=>exact absurd (Nat.lt_of_lt_of_le (x.lt q) e) (Nat.lt_irrefl _)
theorem HOk.kept (x:HOk P w H h) (k:∀ b u,h.get? b=some u→h'.get? b=some u):HOk P w H h':=fun a o e =>
 (x a o e).stay (fun b u _ q=>k b u q) (fun _ q=>q) fun _ _ q=>q
theorem HOk.laid (x:HOk P w H h) (k:∀ b u,h.get? b=some u→h'.get? b=some u) (hp:h.objs.size≤a) (new:ObjOk P w (upd H a o) h' a o):HOk P w (upd H a o) h':=fun b u e=>by
 have hn:=x.fresh hp
 by_cases hb:b=a
 ·subst hb; rw [zaai] at e; cases e; exact new
 ·rw [zabs hb] at e
  exact (x b u e).stay (fun c v _ q=>k c v q) (fun c q=>by rw [zabs (zaa7 q hn)]; exact q) fun c xs q=>by rw [zabs (zaa7 q hn)]; exact q
end
def Rd (H:Hp) (a:Addr) (u:HO):Prop:=H a=some u∨∃ o,H a=some (.frz o u)
theorem Rd.ok {P:Program}{w:World}{H:Hp}{h:Heap}{a:Addr}{u:HO} (r:Rd H a u) (x:HOk P w H h):ObjOk P w H h a u:=by
 rcases r with r | ⟨o,r⟩
 ·exact x a u r
 ·obtain ⟨_,q⟩:=x a _ r
  exact q
def Mut:Option HO→Prop
 | some (.lst _)=>True
 | some (.dK _)=>True
 | some (.dT _)=>True
 | some (.set _ _)=>True
 | some (.ins _ _ _)=>True
 | some (.ext _)=>True
 | _=>False
section
variable {P:Program}{w:World}{H:Hp}{h h':Heap}{x e:Addr}{o':HO}
theorem HOk.write (ok:HOk P w H h) (mu:Mut (H x)) (he:e=x∨H e=some (.own x)) (k:∀ b u,b≠e→h.get? b=some u→h'.get? b=some u) (heo:∃ u,h'.get? e=some u)
  (new:ObjOk P w (upd H x o') h' x o'):HOk P w (upd H x o') h':=fun b u q=>by
 have nown:∀ c y,H c=some (.own y)→c≠x:=fun c y r z=>by subst z; rw [r] at mu; exact mu
 have ntup:∀ c xs,H c=some (.tup xs)→c≠x:=fun c xs r z=>by subst z; rw [r] at mu; exact mu
 by_cases hb:b=x
 ·subst hb; rw [zaai] at q; cases q; exact new
 ·rw [zabs hb] at q
  by_cases hbe:b=e
  ·have q':H b=some (.own x):=by
    rcases he with z | z
    ·exact absurd (hbe.trans z) hb
    ·rw [hbe]; exact z
   rw [q] at q'; cases q'
   obtain ⟨v,hv⟩:=heo
   exact ⟨v,by rw [hbe]; exact hv⟩
  ·refine (ok b u q).stay (fun c v hc r=>k c v ?_ r) (fun c r=>by rw [zabs (nown c b r)]; exact r) fun c xs r=>by rw [zabs (ntup c xs r)]; exact r
   rcases hc with rfl | hc
   ·exact hbe
   ·rintro rfl
    rcases he with z | z
    ·exact nown c b hc z
    ·rw [hc] at z; cases z; exact hb rfl
end
structure Un (fs ex:List Addr) (H H':Hp) (h h':Heap):Prop where
 keep:∀ b o,h.get? b=some o→H b=none→b ∉ fs→b ∉ ex→h'.get? b=some o
 slot:∀ b o,h.get? b=some o→H b=none→b∈fs→b ∉ ex→∃ sl,h'.get? b=some { o with slots:=sl }
 free:∀ b o,h.get? b=some o→H b=none→b ∉ ex→H' b=none
 there:∀ b o,h.get? b=some o→b ∉ ex→∃ o',h'.get? b=some o'
 tups:∀ b xs,H b=some (.tup xs)→H' b=some (.tup xs)
 frzs:∀ b o u,H b=some (.frz o u)→H' b=some (.frz o u)
 tbls:∀ b ps,H b=some (.tbl ps)→∃ more,H' b=some (.tbl (ps++more))
section
variable {fs fs' ex ex':List Addr}{H H1 H2:Hp}{h h1 h2 h':Heap}{a x e:Addr}{o:HO}
theorem Un.any (u:Un fs ex H H1 h h1) {b:Addr}{ob:Obj} (q:h.get? b=some ob) (n:H b=none) (hx:b ∉ ex):∃ sl,h1.get? b=some { ob with slots:=sl }:=by
 by_cases hb:b∈fs
 ·exact u.slot b ob q n hb hx
 ·exact ⟨ob.slots,u.keep b ob q n hb hx⟩
theorem Un.kept (k:∀ b u,h.get? b=some u→h'.get? b=some u):Un fs ex H H h h' :=
 ⟨fun b ob q _ _ _=>k b ob q,fun b ob q _ _ _=>⟨ob.slots,k b ob q⟩,fun _ _ _ n _=>n,fun b ob q _=>⟨ob,k b ob q⟩,fun _ _ q=>q,fun _ _ _ q=>q,fun _ ps q=>⟨#[],by rw [q]; simp⟩⟩
theorem Un.refl:Un fs ex H H h h:=Un.kept fun _ _ q=>q
theorem Un.laid (k:∀ b u,h.get? b=some u→h'.get? b=some u) (hp:h.objs.size≤a) (hn:H a=none):Un fs ex H (upd H a o) h h' where
 keep:=fun b u q _ _ _=>k b u q
 slot:=fun b u q _ _ _=>⟨u.slots,k b u q⟩
 free:=fun b u q n _=>by rw [zabs (Nat.ne_of_lt (Nat.lt_of_lt_of_le (Heap.lt_size q) hp))]; exact n
 there:=fun b u q _=>⟨u,k b u q⟩
 tups:=fun b xs q=>by rw [zabs (zaa7 q hn)]; exact q
 frzs:=fun b u xs q=>by rw [zabs (zaa7 q hn)]; exact q
 tbls:=fun b ps q=>⟨#[],by rw [zabs (zaa7 q hn),q]; simp⟩
theorem Un.write (mu:Mut (H x)) (he:e=x∨H e=some (.own x)) (k:∀ b u,b≠e→h.get? b=some u→h'.get? b=some u) (heo:∃ u,h'.get? e=some u):Un fs ex H (upd H x o) h h':=by
 have hx:∀ b,H b=none→b≠x:=fun b n z=>by subst z; rw [n] at mu; exact mu
 have hb:∀ b,H b=none→b≠e:=fun b n z=>by
  subst z
  rcases he with r | r
  ·exact hx b n r
  ·rw [n] at r; cases r
 have hm:∀ b u,H b=some u→¬ Mut (some u)→b≠x:=fun b u q nm z=>by subst z; rw [q] at mu; exact nm mu
 refine ⟨fun b u q n _ _=>k b u (hb b n) q,fun b u q n _ _=>⟨u.slots,k b u (hb b n) q⟩,fun b u q n _=>by rw [zabs (hx b n)]; exact n,fun b u q _=>?_,
  fun b xs q=>by rw [zabs (hm b _ q fun z=>z)]; exact q,fun b u xs q=>by rw [zabs (hm b _ q fun z=>z)]; exact q,fun b ps q=>⟨#[],by rw [zabs (hm b _ q fun z=>z),q]; simp⟩⟩
 by_cases hbe:b=e
 ·subst hbe; exact heo
 ·exact ⟨u,k b u hbe q⟩
end
def trk (h:Heap) (H:Hp):List Addr:=(List.range h.objs.size).filter fun a=>(H a).isSome
def hidT (h:Heap) (H:Hp):Heap:=PySem.W.hideAll h (trk h H)
theorem zajz (h:Heap) (H:Hp):(hidT h H).objs.size=h.objs.size:=PySem.W.hideAll_size _ _
theorem zal8 {h:Heap}{H:Hp}{b:Addr}{o:Obj} (e:h.get? b=some o) (n:H b=none):(hidT h H).get? b=some o :=
 PySem.W.hideAll_get _ e fun hm=>by
  have q:(H b).isSome=true:=(List.mem_filter.mp hm).2
  rw [n] at q; simp at q
theorem zany {h:Heap}{H:Hp}{b:Addr}{o:Obj} (e:(hidT h H).get? b=some o):h.get? b=some o∧H b=none:=by
 have e':h.get? b=some o:=PySem.W.of_hideAll (trk h H) e
 refine ⟨e',?_⟩
 cases q:H b with
 | none=>rfl
 | some x =>
  have hm:b∈trk h H:=List.mem_filter.mpr ⟨List.mem_range.mpr (Heap.lt_size e'),by simp [q]⟩
  have z:(hidT h H).get? b=none:=PySem.W.hideAll_none (trk h H) hm
  rw [z] at e; cases e
structure Mod (K:PySem.W.Frag) (mg:Str→Option Value) (base:Heap):Prop where
 kin:K.In base
 glob:base.Ns mainGlobals mg
 blt:∃ mb,base.Ns builtinsNs mb∧∀ x:Str,x ≠ "__name__" → mb x=bootBuiltins x
 nolimit:base.NoLimit
structure Cx where
 prog:Program
 w:World
 K:PySem.W.Frag
 mg:Str→Option Value
 base:Heap
 A:Around
 N:List Str
 s₀:Shared
 H₀:Hp
 env:Env
 outer:List Env
 stack:List Env
 ex:List Addr
 fn:Str→Bool
 calm:Bool
 pn:List (Addr × Obj)
 xe:Value→Shared→Prop
def frs (l:List Env):List Addr:=l.filterMap (·.frame)
abbrev Cx.fs (X:Cx):List Addr:=frs X.outer
def Vis (sc:Scope) (x:Str):Prop:=sc.names.lookup x=some .local∨sc.names.lookup x=some .cell∨sc.names.lookup x=some .free
def Loc (sc:Scope) (x:Str):Prop:=sc.names.lookup x=some .local∨sc.names.lookup x=some .cell
def Look (env:Env) (h:Heap) (m:Str→Option Value) (x:Str) (u:Value):Prop :=
 (env.kindOf x=some .local∧m x=some u)∨((env.kindOf x=some .cell∨env.kindOf x=some .free)∧∃ c,env.cells.lookup x=some c∧h.IsCell c (some u))
structure Cx.Ok (X:Cx):Prop where
 mod:Mod X.K X.mg X.base
 kind:X.env.scope.kind=.function
 glob:X.env.globals=mainGlobals
 blt:X.env.builtins=builtinsNs
 above:X.s₀.heap.objs.size≤X.env.locals
 inj:∀ x y c,X.env.cells.lookup x=some c→X.env.cells.lookup y=some c→x=y
 has:∀ x,(X.env.kindOf x=some .cell∨X.env.kindOf x=some .free)→∃ c,X.env.cells.lookup x=some c
 cab:∀ x c,X.fn x=true→X.env.cells.lookup x=some c→X.s₀.heap.objs.size≤c
 hd:X.calm=true→X.A.handled=none
 frames:X.A.frames=some X.stack
 stk:X.stack=X.outer∨(X.stack=X.env :: X.outer∧X.env.frame=some X.env.locals)
 exf:∀ b∈X.ex,b≠X.env.locals∧∀ x c,X.env.cells.lookup x=some c→c≠b
 bs:∀ b o,X.base.get? b=some o→X.s₀.heap.get? b=some o∧X.H₀ b=none
 bsz:X.base.objs.size≤X.s₀.heap.objs.size
 noex:∀ b o,X.base.get? b=some o→b ∉ X.ex
 exfs:∀ b∈X.ex,b ∉ X.fs
 funs:X.s₀.heap.FunFrames X.base X.outer
 frf:∀ b∈X.fs,X.H₀ b=none
structure Inv (X:Cx) (pins:List (Addr × Obj)) (σ:List (Option V)) (H:Hp) (s:Shared):Prop where
 ok:X.Ok
 os:s.os=X.s₀.os
 bare:AllBare s.gens
 base:Un X.fs X.ex X.H₀ H X.s₀.heap s.heap
 loc:∃ m,s.heap.Ns X.env.locals m∧∀ (i:Nat) (x:Str) (v:V),X.N[i]?=some x→σ[i]?=some (some v)→Vis X.env.scope x→∃ u,RelV v u∧Look X.env s.heap m x u
 cell:∀ x c,X.env.cells.lookup x=some c→∃ v,s.heap.IsCell c v
 free:H X.env.locals=none
 freeC:∀ x c,X.env.cells.lookup x=some c→H c=none
 pin:∀ p∈X.pn++pins,s.heap.get? p.1=some p.2∧H p.1=none∧p.1≠X.env.locals∧p.1 ∉ X.fs∧∀ v,p.2.data≠.cell v
 hok:HOk X.prog X.w H s.heap
 len:σ.length=X.N.length
section
variable {X:Cx}{pins:List (Addr × Obj)}{σ:List (Option V)}{H H':Hp}{s:Shared}{h':Heap}
theorem Cx.Ok.nofr (ok:X.Ok) {b:Addr}{o:Obj} (e:X.base.get? b=some o):b ∉ X.fs:=fun hb=>by
 have:=(ok.funs.mem hb).1
 rw [e] at this; cases this
theorem Inv.bs (I:Inv X pins σ H s):∀ b o,X.base.get? b=some o→s.heap.get? b=some o∧H b=none:=fun b o e =>
 ⟨I.base.keep b o (I.ok.bs b o e).1 (I.ok.bs b o e).2 (I.ok.nofr e) (I.ok.noex b o e),I.base.free b o (I.ok.bs b o e).1 (I.ok.bs b o e).2 (I.ok.noex b o e)⟩
theorem Inv.bk (I:Inv X pins σ H s):∀ b o,X.base.get? b=some o→s.heap.get? b=some o:=fun b o e=>(I.bs b o e).1
theorem Inv.mod (I:Inv X pins σ H s):Mod X.K X.mg X.base:=I.ok.mod
theorem Inv.kIn (I:Inv X pins σ H s):X.K.In s.heap:=I.ok.mod.kin.keeps I.bk
theorem Inv.lt (I:Inv X pins σ H s):X.env.locals < s.heap.objs.size:=let ⟨_,hn,_⟩:=I.loc; hn.lt
theorem Inv.sz (I:Inv X pins σ H s):X.s₀.heap.objs.size≤s.heap.objs.size:=Nat.le_trans I.ok.above (Nat.le_of_lt I.lt)
theorem Inv.nofs (I:Inv X pins σ H s) {a:Addr} (h:s.heap.objs.size≤a):a ∉ X.fs:=fun hb=>by
 obtain ⟨_,o,ho,_⟩:=I.ok.funs.mem hb
 exact absurd (Nat.lt_of_lt_of_le (Heap.lt_size ho) (Nat.le_trans I.sz h)) (Nat.lt_irrefl _)
theorem Inv.cne (I:Inv X pins σ H s):∀ x c,X.env.cells.lookup x=some c→c≠X.env.locals:=fun x c e z=>by
 obtain ⟨v,o,ho,hd⟩:=I.cell x c e
 obtain ⟨m,⟨o',es,ep,ho',hd',_⟩,_⟩:=I.loc
 rw [z,ho'] at ho; cases ho; rw [hd'] at hd; cases hd
theorem Inv.funs (I:Inv X pins σ H s):s.heap.FunFrames X.base X.outer:=by
 have all:∀ (l:List Env),(∀ b∈frs l,b∈X.fs)→X.s₀.heap.FunFrames X.base l→s.heap.FunFrames X.base l:=by
  intro l
  induction l with
  | nil=>intro _ _; trivial
  | cons env r ih =>
   intro hs hl
   obtain ⟨hk,⟨L,o,hf,hn,ho,hd⟩,hr⟩:=hl
   have hL:L∈X.fs:=hs L (by unfold frs; rw [List.filterMap_cons,hf]; exact List.mem_cons_self)
   obtain ⟨sl,e⟩:=I.base.slot L o ho (I.ok.frf L hL) hL fun z=>I.ok.exfs L z hL
   exact ⟨hk,⟨L,_,hf,hn,e,hd⟩,ih (fun b hb=>hs b (by unfold frs; rw [List.filterMap_cons,hf]; exact List.mem_cons_of_mem _ hb)) hr⟩
 exact all X.outer (fun _ hb=>hb) I.ok.funs
theorem Inv.stack (I:Inv X pins σ H s):s.heap.FunFrames X.base X.stack:=by
 rcases I.ok.stk with e | ⟨e,hf⟩
 ·rw [e]; exact I.funs
 ·rw [e]
  obtain ⟨m,hn,_⟩:=I.loc
  refine .cons (by rw [I.ok.kind]; decide) hf hn ?_ I.funs
  exact Heap.get?_none_of_le (Nat.le_trans I.ok.bsz I.ok.above)
theorem Inv.stkSub (I:Inv X pins σ H s):∀ b∈frs X.stack,b∈X.env.locals :: X.fs:=fun b hb=>by
 rcases I.ok.stk with e | ⟨e,hf⟩
 ·rw [e] at hb; exact List.mem_cons_of_mem _ hb
 ·rw [e] at hb
  unfold frs at hb
  rw [List.filterMap_cons,hf] at hb
  exact hb
theorem Inv.stkFree (I:Inv X pins σ H s):∀ b∈frs X.stack,H b=none:=fun b hb=>by
 rcases List.mem_cons.mp (I.stkSub b hb) with e | hb
 ·rw [e]; exact I.free
 ·obtain ⟨_,o,ho,_⟩:=I.ok.funs.mem hb
  exact I.base.free b o ho (I.ok.frf b hb) fun z=>I.ok.exfs b z hb
theorem Inv.step {g':Array GenState}{t':Nat}{d':Drawn}{ch:List Addr} (I:Inv X pins σ H s)
  (hch:∀ b∈ch,(b∈X.ex∨X.s₀.heap.objs.size≤b)∧b≠X.env.locals∧(∀ x c,X.env.cells.lookup x=some c→c≠b)∧∀ p∈X.pn++pins,p.1≠b)
  (keep:∀ b o,b≠X.env.locals→b ∉ X.fs→b ∉ ch→s.heap.get? b=some o→H b=none→h'.get? b=some o)
  (slot:∀ b o,b≠X.env.locals→b∈X.fs→b ∉ ch→s.heap.get? b=some o→H b=none→∃ sl,h'.get? b=some { o with slots:=sl }) (free:∀ b o,b ∉ ch→s.heap.get? b=some o→H b=none→H' b=none)
  (there:∀ b o,b ∉ ch→s.heap.get? b=some o→∃ o',h'.get? b=some o')
  (tups:∀ b xs,H b=some (.tup xs)→H' b=some (.tup xs)) (frzs:∀ b o u,H b=some (.frz o u)→H' b=some (.frz o u)) (tbls:∀ b ps,H b=some (.tbl ps)→∃ more,H' b=some (.tbl (ps++more)))
  (ns:∀ m,s.heap.Ns X.env.locals m→h'.Ns X.env.locals m) (hok:HOk X.prog X.w H' h') (hg:AllBare g') :
  Inv X pins σ H' { s with heap:=h',gens:=g',drawn:=d',toks:=t' }:=by
 have neL:∀ b o,X.s₀.heap.get? b=some o→b≠X.env.locals:=fun b o e=>Nat.ne_of_lt (Nat.lt_of_lt_of_le (Heap.lt_size e) I.ok.above)
 have neC:∀ b o,X.s₀.heap.get? b=some o→b ∉ X.ex→b ∉ ch:=fun b o e hx hb=>by
  rcases (hch b hb).1 with z | z
  ·exact hx z
  ·exact absurd (Nat.lt_of_lt_of_le (Heap.lt_size e) z) (Nat.lt_irrefl _)
 have cellK:∀ x c,X.env.cells.lookup x=some c→∀ v,s.heap.IsCell c v→h'.IsCell c v:=fun x c e v ⟨o,ho,hd⟩=>by
  have nch:c ∉ ch:=fun z=>(hch c z).2.2.1 x c e rfl
  by_cases hc:c∈X.fs
  ·obtain ⟨sl,q⟩:=slot c o (I.cne x c e) hc nch ho (I.freeC x c e)
   exact ⟨_,q,hd⟩
  ·exact ⟨o,keep c o (I.cne x c e) hc nch ho (I.freeC x c e),hd⟩
 refine ⟨I.ok,I.os,hg,⟨fun b o e n hb hx=>?_,fun b o e n hb hx=>?_,fun b o e n hx=>?_,fun b o e hx=>?_,fun b xs e=>tups b xs (I.base.tups b xs e),fun b o xs e=>frzs b o xs (I.base.frzs b o xs e),fun b ps e=>?_⟩,?_,fun x c e=>?_,?_,fun x c e=>?_,fun p hp=>?_,hok,I.len⟩
 ·exact keep b o (neL b o e) hb (neC b o e hx) (I.base.keep b o e n hb hx) (I.base.free b o e n hx)
 ·obtain ⟨sl,e1⟩:=I.base.slot b o e n hb hx
  obtain ⟨sl',e2⟩:=slot b _ (neL b o e) hb (neC b o e hx) e1 (I.base.free b o e n hx)
  exact ⟨sl',e2⟩
 ·obtain ⟨o',e1⟩:=I.base.there b o e hx
  exact free b o' (neC b o e hx) e1 (I.base.free b o e n hx)
 ·obtain ⟨o',e1⟩:=I.base.there b o e hx
  exact there b o' (neC b o e hx) e1
 ·obtain ⟨m1,e1⟩:=I.base.tbls b ps e
  obtain ⟨m2,e2⟩:=tbls b _ e1
  exact ⟨m1++m2,by rw [e2,Array.append_assoc]⟩
 ·obtain ⟨m,hn,hl⟩:=I.loc
  refine ⟨m,ns m hn,fun i x v e1 e2 e3=>?_⟩
  obtain ⟨u,r,l⟩:=hl i x v e1 e2 e3
  refine ⟨u,r,?_⟩
  rcases l with l | ⟨k,c,e,z⟩
  ·exact .inl l
  ·exact .inr ⟨k,c,e,cellK x c e _ z⟩
 ·obtain ⟨v,z⟩:=I.cell x c e
  exact ⟨v,cellK x c e v z⟩
 ·obtain ⟨m,⟨o,_,_,ho,_⟩,_⟩:=I.loc
  exact free _ o (fun z=>(hch _ z).2.1 rfl) ho I.free
 ·obtain ⟨v,o,ho,hd⟩:=I.cell x c e
  exact free c o (fun z=>(hch c z).2.2.1 x c e rfl) ho (I.freeC x c e)
 ·obtain ⟨e,n,ne,nf,d⟩:=I.pin p hp
  have nch:p.1 ∉ ch:=fun z=>(hch p.1 z).2.2.2 p hp rfl
  exact ⟨keep p.1 p.2 ne nf nch e n,free p.1 p.2 nch e n,ne,nf,d⟩
theorem Inv.un {t':Nat} (I:Inv X pins σ H s) (u:Un X.fs [] H H' s.heap h') (hok:HOk X.prog X.w H' h'):Inv X pins σ H' { s with heap:=h',toks:=t' }:=by
 obtain ⟨m,⟨o,es,ep,ho,r⟩,_⟩:=id I.loc
 obtain ⟨sl,hL⟩:=u.any ho I.free (by simp)
 exact I.step (g':=s.gens) (d':=s.drawn) (ch:=[]) (fun _ z=>nomatch z) (fun b o _ hb _ e n=>u.keep b o e n hb (by simp)) (fun b o _ hb _ e n=>u.slot b o e n hb (by simp)) (fun b o _ e n=>u.free b o e n (by simp)) (fun b o _ e=>u.there b o e (by simp)) u.tups u.frzs u.tbls (fun m' hm=>by
  obtain ⟨o',es',ep',ho',r'⟩:=hm
  rw [ho] at ho'; cases ho'
  exact ⟨_,es',ep',hL,r'⟩) hok I.bare
theorem Inv.call {g':Array GenState}{t':Nat}{d':Drawn}{ch:List Addr} (I:Inv X pins σ H s) (u:Un (frs X.stack) ch H H' s.heap h') (hok:HOk X.prog X.w H' h') (hg:AllBare g')
  (hch:∀ b∈ch,(b∈X.ex∨X.s₀.heap.objs.size≤b)∧b≠X.env.locals∧(∀ x c,X.env.cells.lookup x=some c→c≠b)∧∀ p∈X.pn++pins,p.1≠b) :
  Inv X pins σ H' { s with heap:=h',gens:=g',drawn:=d',toks:=t' }:=by
 obtain ⟨m,⟨o,es,ep,ho,r⟩,_⟩:=id I.loc
 obtain ⟨sl,hL⟩:=u.any ho I.free fun z=>(hch _ z).2.1 rfl
 exact I.step (ch:=ch) hch (fun b o hL hb hc e n=>u.keep b o e n (fun z=>(List.mem_cons.mp (I.stkSub b z)).elim hL hb) hc) (fun b o _ _ hc e n=>u.any e n hc) (fun b o hc e n=>u.free b o e n hc) (fun b o hc e=>u.there b o e hc) u.tups u.frzs u.tbls (fun m' hm=>by
  obtain ⟨o',es',ep',ho',r'⟩:=hm
  rw [ho] at ho'; cases ho'
  exact ⟨_,es',ep',hL,r'⟩) hok hg
theorem Inv.turned {t':Nat}{it:Addr} (I:Inv X pins σ H s) (k:∀ b o,b≠it→s.heap.get? b=some o→h'.get? b=some o) (hn:H it=none) (hL:it≠X.env.locals)
  (h1:it∈X.ex∨X.s₀.heap.objs.size≤it) (h2:∀ x c,X.env.cells.lookup x=some c→c≠it) (h3:∀ p∈X.pn++pins,p.1≠it):Inv X pins σ H { s with heap:=h',toks:=t' }:=by
 have nit:∀ b u,H b=some u→b≠it:=fun b u e z=>by rw [z,hn] at e; cases e
 refine I.step (g':=s.gens) (d':=s.drawn) (ch:=[it]) (fun b hb=>?_) (fun b o _ _ hc e _=>k b o (fun z=>hc (by simp [z])) e) (fun b o _ _ hc e _=>⟨o.slots,k b o (fun z=>hc (by simp [z])) e⟩) (fun _ _ _ _ n=>n)
  (fun b o hc e=>⟨o,k b o (fun z=>hc (by simp [z])) e⟩) (fun _ _ e=>e) (fun _ _ _ e=>e) (fun b ps e=>⟨#[],by rw [e]; simp⟩) (fun m hm=>?_) (fun b u e=>?_) I.bare
 ·have e:b=it:=by simpa using hb
  subst e
  exact ⟨h1,hL,h2,h3⟩
 ·obtain ⟨o,es,ep,ho,r⟩:=hm
  exact ⟨o,es,ep,k _ o (Ne.symm hL) ho,r⟩
 ·refine (I.hok b u e).stay (fun c v hc q=>k c v ?_ q) (fun _ q=>q) fun _ _ q=>q
  rcases hc with z | z
  ·rw [z]; exact nit b u e
  ·exact nit c _ z
theorem Inv.tok (I:Inv X pins σ H s) (t:Nat):Inv X pins σ H { s with toks:=t }:=I.un (h':=s.heap) (t':=t) Un.refl I.hok
theorem Inv.kept {t':Nat} (I:Inv X pins σ H s) (k:∀ b u,s.heap.get? b=some u→h'.get? b=some u):Inv X pins σ H { s with heap:=h',toks:=t' }:=I.un (Un.kept k) (I.hok.kept k)
theorem Inv.laid {a:Addr}{o:HO}{t':Nat} (I:Inv X pins σ H s) (k:∀ b u,s.heap.get? b=some u→h'.get? b=some u) (hp:s.heap.objs.size≤a) (new:ObjOk X.prog X.w (upd H a o) h' a o) :
  Inv X pins σ (upd H a o) { s with heap:=h',toks:=t' }:=I.un (Un.laid k hp (I.hok.fresh hp)) (I.hok.laid k hp new)
theorem Inv.write {x e:Addr}{o:HO}{t':Nat} (I:Inv X pins σ H s) (mu:Mut (H x)) (he:e=x∨H e=some (.own x)) (k:∀ b u,b≠e→s.heap.get? b=some u→h'.get? b=some u) (heo:∃ u,h'.get? e=some u)
  (new:ObjOk X.prog X.w (upd H x o) h' x o):Inv X pins σ (upd H x o) { s with heap:=h',toks:=t' }:=I.un (Un.write mu he k heo) (I.hok.write mu he k heo new)
theorem Inv.pins_of {pins':List (Addr × Obj)} (I:Inv X pins σ H s) (h:∀ p∈pins',s.heap.get? p.1=some p.2∧H p.1=none∧p.1≠X.env.locals∧p.1 ∉ X.fs∧∀ v,p.2.data≠.cell v):Inv X pins' σ H s :=
 ⟨I.ok,I.os,I.bare,I.base,I.loc,I.cell,I.free,I.freeC,fun p hp=>(List.mem_append.mp hp).elim (fun z=>I.pin p (List.mem_append_left _ z)) (h p),I.hok,I.len⟩
theorem zais {N:List Str} (hN:N.Nodup) {i j:Nat}{x:Str} (a:N[i]?=some x) (b:N[j]?=some x):i=j:=by
 obtain ⟨h1,e1⟩:=List.getElem?_eq_some_iff.mp a
 obtain ⟨h2,e2⟩:=List.getElem?_eq_some_iff.mp b
 exact (List.getElem_inj hN).mp (e1.trans e2.symm)
theorem zagy {M:Model}{A:Around}{E:Value→Shared→Prop}{i:Nat}{x:Str}{v:V}{u:Value}{Q:Unit→Shared→Prop} (I:Inv X pins σ H s) (hN:X.N.Nodup) (hi:X.N[i]?=some x) (hx:Loc X.env.scope x) (r:RelV v u)
  (h:∀ s',Inv X pins (σ.set i (some v)) H s'→(∃ a,Heap.SameBut a s.heap s'.heap∧(a=X.env.locals∨X.env.cells.lookup x=some a))→Q () s') (hf:X.fn x=true∨X.env.scope.names.lookup x=some .local:=by first | exact .inl rfl | exact .inr rfl | assumption):wpAny M A (storeName X.env x u) Q E s:=by
 obtain ⟨m,hn,hl⟩:=id I.loc
 have hcls:(X.env.scope.kind == .class || (X.env.scope.kind == .module && X.env.locals != X.env.globals))=false:=by rw [I.ok.kind]; rfl
 have hiσ:i < σ.length:=by rw [I.len]; exact (List.getElem?_eq_some_iff.mp hi).1
 have cne:=I.cne
 have tracked:∀ {a:Addr}{h':Heap},(∃ o,s.heap.get? a=some o∧H a=none)→Heap.SameBut a s.heap h'→HOk X.prog X.w H h':=fun {a h'} ha hs b ob e=>by
  obtain ⟨_,_,hfree⟩:=ha
  refine (I.hok b ob e).stay (fun c w' hc q=>(hs.2 c ?_).trans q) (fun _ q=>q) fun _ _ q=>q
  rintro rfl
  rcases hc with rfl | hc
  ·rw [hfree] at e; cases e
  ·rw [hfree] at hc; cases hc
 rcases hx with hk | hk
 ·refine wpAny_storeName_local hk hn (fun h' hn' hs=>?_) hcls
  obtain ⟨oL,_,_,hoL,_⟩:=id hn
  refine h _ ⟨I.ok,I.os,I.bare,⟨fun b o e n hb hx=>?_,fun b o e n hb hx=>?_,I.base.free,fun b o e hx=>?_,I.base.tups,I.base.frzs,I.base.tbls⟩,⟨_,hn',fun j y v' e1 e2 e3=>?_⟩,fun y c e=>?_,I.free,I.freeC,fun p hp=>?_,tracked ⟨oL,hoL,I.free⟩ hs,by simpa using I.len⟩ ⟨_,hs,.inl rfl⟩
  ·exact (hs.2 b (Nat.ne_of_lt (Nat.lt_of_lt_of_le (Heap.lt_size e) I.ok.above))).trans (I.base.keep b o e n hb hx)
  ·obtain ⟨sl,e1⟩:=I.base.slot b o e n hb hx
   exact ⟨sl,(hs.2 b (Nat.ne_of_lt (Nat.lt_of_lt_of_le (Heap.lt_size e) I.ok.above))).trans e1⟩
  ·obtain ⟨o',e1⟩:=I.base.there b o e hx
   exact ⟨o',(hs.2 b (Nat.ne_of_lt (Nat.lt_of_lt_of_le (Heap.lt_size e) I.ok.above))).trans e1⟩
  ·by_cases hj:j=i
   ·subst hj
    rw [hi] at e1; cases e1
    rw [List.getElem?_set_self hiσ] at e2
    cases e2
    exact ⟨u,r,.inl ⟨hk,by simp⟩⟩
   ·rw [List.getElem?_set_ne (Ne.symm hj)] at e2
    obtain ⟨u',r',q⟩:=hl j y v' e1 e2 e3
    refine ⟨u',r',?_⟩
    rcases q with ⟨k,e⟩ | ⟨k,c,e,z⟩
    ·refine .inl ⟨k,?_⟩
     have:y≠x:=fun e=>hj (zais hN e1 (e ▸ hi))
     simp [this,e]
    ·exact .inr ⟨k,c,e,z.sameBut hs (cne y c e)⟩
  ·obtain ⟨w',z⟩:=I.cell y c e
   exact ⟨w',z.sameBut hs (cne y c e)⟩
  ·obtain ⟨e,n,ne,nf,d⟩:=I.pin p hp
   exact ⟨(hs.2 p.1 ne).trans e,n,ne,nf,d⟩
 ·have hfn:X.fn x=true:=by
   rcases hf with z | z
   ·exact z
   ·rw [z] at hk; cases hk
  obtain ⟨c,hc⟩:=I.ok.has x (.inl hk)
  obtain ⟨w',z⟩:=I.cell x c hc
  refine wpAny_storeName_cell I.ok.kind hk hc z (fun h' hc' hs=>?_)
  obtain ⟨oc,hoc,hocd⟩:=id z
  refine h { s with heap:=h' } ⟨I.ok,I.os,I.bare,⟨fun b o e n hb hx=>?_,fun b o e n hb hx=>?_,I.base.free,fun b o e hx=>?_,I.base.tups,I.base.frzs,I.base.tbls⟩,⟨m,hn.sameBut hs (Ne.symm (cne x c hc)),fun j y v' e1 e2 e3=>?_⟩,fun y c' e=>?_,I.free,I.freeC,fun p hp=>?_,tracked ⟨oc,hoc,I.freeC x c hc⟩ hs,by simpa using I.len⟩ ⟨c,hs,.inr hc⟩
  ·exact (hs.2 b (Nat.ne_of_lt (Nat.lt_of_lt_of_le (Heap.lt_size e) (I.ok.cab x c hfn hc)))).trans (I.base.keep b o e n hb hx)
  ·obtain ⟨sl,e1⟩:=I.base.slot b o e n hb hx
   exact ⟨sl,(hs.2 b (Nat.ne_of_lt (Nat.lt_of_lt_of_le (Heap.lt_size e) (I.ok.cab x c hfn hc)))).trans e1⟩
  ·obtain ⟨o',e1⟩:=I.base.there b o e hx
   exact ⟨o',(hs.2 b (Nat.ne_of_lt (Nat.lt_of_lt_of_le (Heap.lt_size e) (I.ok.cab x c hfn hc)))).trans e1⟩
  ·by_cases hj:j=i
   ·subst hj
    rw [hi] at e1; cases e1
    rw [List.getElem?_set_self hiσ] at e2
    cases e2
    exact ⟨u,r,.inr ⟨.inl hk,c,hc,hc'⟩⟩
   ·rw [List.getElem?_set_ne (Ne.symm hj)] at e2
    obtain ⟨u',r',q⟩:=hl j y v' e1 e2 e3
    refine ⟨u',r',?_⟩
    rcases q with q | ⟨k,c',e,z'⟩
    ·exact .inl q
    ·refine .inr ⟨k,c',e,z'.sameBut hs ?_⟩
     rintro rfl
     exact hj (zais hN e1 (I.ok.inj _ _ _ e hc ▸ hi))
  ·by_cases hcc:c'=c
   ·subst hcc; exact ⟨_,hc'⟩
   ·obtain ⟨w2,z2⟩:=I.cell y c' e
    exact ⟨w2,z2.sameBut hs hcc⟩
  ·obtain ⟨e,n,ne,nf,d⟩:=I.pin p hp
   refine ⟨(hs.2 p.1 ?_).trans e,n,ne,nf,d⟩
   intro q
   rw [q,hoc] at e
   have q':oc=p.2:=Option.some.inj e
   exact d w' (by rw [← q']; exact hocd)
theorem zait {M:Model}{A:Around}{E:Value→Shared→Prop}{i:Nat}{x:Str}{v:V}{u:Value}{Q:Unit→Shared→Prop} (I:Inv X pins σ H s) (hN:X.N.Nodup) (hi:X.N[i]?=some x) (hx:Loc X.env.scope x) (r:RelV v u)
  (h:∀ s',Inv X pins (σ.set i (some v)) H s'→Q () s') (hf:X.fn x=true∨X.env.scope.names.lookup x=some .local:=by first | exact .inl rfl | exact .inr rfl | assumption):wpAny M A (storeName X.env x u) Q E s :=
 zagy I hN hi hx r (fun s' I' _=>h s' I') hf
theorem Inv.call' {s':Shared}{ch:List Addr} (I:Inv X pins σ H s) (ho:s'.os=s.os) (u:Un (frs X.stack) ch H H' s.heap s'.heap) (hok:HOk X.prog X.w H' s'.heap) (hg:AllBare s'.gens)
  (hch:∀ b∈ch,(b∈X.ex∨X.s₀.heap.objs.size≤b)∧b≠X.env.locals∧(∀ x c,X.env.cells.lookup x=some c→c≠b)∧∀ p∈X.pn++pins,p.1≠b):Inv X pins σ H' s':=by
 obtain ⟨h',g',d',t',o'⟩:=s'
 have e:o'=s.os:=ho
 subst e
 exact I.call (g':=g') (t':=t') (d':=d') u hok hg hch
end
abbrev XK:=Value→Option Addr→Hp→Prop
abbrev St:=List (Option V)
abbrev VK:=V→Hp→Prop
abbrev TE:=St→Hp→VK→Prop
abbrev TT:=St→Hp→(Bool→Hp→Prop)→Prop
abbrev TA:=St→Hp→(List V→Hp→Prop)→Prop
structure Ends where
 nx:St→Hp→Prop
 rt:VK
 bk:St→Hp→Prop:=fun _ _=>False
 ct:St→Hp→Prop:=fun _ _=>False
abbrev TS:=Ends→St→Hp→Prop
def EP (X:Cx) (pins:List (Addr × Obj)) (σ:St) (Q:VK) (u:Value) (s':Shared):Prop:=∃ v H',Inv X pins σ H' s'∧RelV v u∧Q v H'
def TP (X:Cx) (pins:List (Addr × Obj)) (σ:St) (Q:Bool→Hp→Prop) (b:Bool) (s':Shared):Prop:=∃ H',Inv X pins σ H' s'∧Q b H'
def AP (X:Cx) (pins:List (Addr × Obj)) (σ:St) (Q:List V→Hp→Prop) (us:List Value) (s':Shared):Prop:=∃ vs H',Inv X pins σ H' s'∧Vals vs us∧Q vs H'
def SP (X:Cx) (pins:List (Addr × Obj)) (D:Ends) (f:Flow) (s':Shared):Prop :=
 match f with
 | .next=>∃ σ' H',Inv X pins σ' H' s'∧D.nx σ' H'
 | .brk=>∃ σ' H',Inv X pins σ' H' s'∧D.bk σ' H'
 | .cont=>∃ σ' H',Inv X pins σ' H' s'∧D.ct σ' H'
 | .ret u=>∃ v σ' H',Inv X pins σ' H' s'∧RelV v u∧D.rt v H'
def PE (X:Cx) (e:Expr) (t:TE):Prop :=
 ∀ (pins:List (Addr × Obj)) (s:Shared) (σ:St) (H:Hp) (Q:VK),Inv X pins σ H s→t σ H Q→wpAny (model X.prog X.w) X.A (eval e X.env) (EP X pins σ Q) X.xe s
def PT (X:Cx) (e:Expr) (t:TT):Prop :=
 ∀ (pins:List (Addr × Obj)) (s:Shared) (σ:St) (H:Hp) (Q:Bool→Hp→Prop),Inv X pins σ H s→t σ H Q→wpAny (model X.prog X.w) X.A (isTrue e X.env (eval e X.env)) (TP X pins σ Q) X.xe s
def PW (X:Cx) (e:Expr) (t:TT):Prop :=
 ∀ (whole:Sem Value) (pins:List (Addr × Obj)) (s:Shared) (σ:St) (H:Hp) (Q:Bool→Hp→Prop),Inv X pins σ H s→t σ H Q→wpAny (model X.prog X.w) X.A (isTrue e X.env whole) (TP X pins σ Q) X.xe s
theorem PW.pt {X:Cx}{e:Expr}{t:TT} (h:PW X e t):PT X e t:=h _
def PA (X:Cx) (es:List Expr) (t:TA):Prop :=
 ∀ (pos:Pos) (pins:List (Addr × Obj)) (s:Shared) (σ:St) (H:Hp) (Q:List V→Hp→Prop),Inv X pins σ H s→t σ H Q→wpAny (model X.prog X.w) X.A (spliced (backTo pos (starEach es X.env))) (AP X pins σ Q) X.xe s
def PS (X:Cx) (st:Stmt) (t:TS):Prop :=
 ∀ (pins:List (Addr × Obj)) (s:Shared) (σ:St) (H:Hp) (D:Ends),Inv X pins σ H s→t D σ H→wpAny (model X.prog X.w) X.A (exec st X.env) (SP X pins D) X.xe s
def PSs (X:Cx) (st:List Stmt) (t:TS):Prop :=
 ∀ (pins:List (Addr × Obj)) (s:Shared) (σ:St) (H:Hp) (D:Ends),Inv X pins σ H s→t D σ H→wpAny (model X.prog X.w) X.A (execs st X.env) (SP X pins D) X.xe s
theorem thn {α:Type}{t:Sem α}{Q Q':α→Shared→Prop}{M:Model}{A:Around}{E:Value→Shared→Prop}{s:Shared} (h:wpAny M A t Q E s) (hQ:∀ a s,Q a s→Q' a s):wpAny M A t Q' E s:=wpAny_mono h hQ fun _ _ x=>x
section
variable {X:Cx}
def tVar (i:Nat):TE:=fun σ H Q=>∃ v,σ[i]?=some (some v)∧Q v H
def tC (v:V):TE:=fun _ H Q=>Q v H
theorem zap4 {i:Nat}{x:Str}{pos:Pos} (hN:X.N[i]?=some x) (hv:Vis X.env.scope x) (hd:(x == ("__debug__" : Str))=false:=by decide) (hcd:(x == ("__classdict__" : Str))=false:=by decide):PE X (.Name x pos) (tVar i):=by
 intro pins s σ H Q I h
 obtain ⟨v,e,h⟩:=h
 obtain ⟨m,hn,hl⟩:=I.loc
 obtain ⟨u,r,l⟩:=hl i x v hN e hv
 have fin:EP X pins σ Q u s:=⟨v,H,I,r,h⟩
 rcases l with ⟨hk,hm⟩ | ⟨hk,c,hc,hcell⟩
 ·exact wpAny_Name (wpAny_loadName_local I.ok.kind hk hn hm fin) hd
 ·rcases hk with hk | hk
  ·exact wpAny_Name (wpAny_loadName_cell I.ok.kind hk hc hcell fin) hd
  ·exact wpAny_Name (wpAny_loadName_free I.ok.kind hk hc hcell fin hcd) hd
theorem zap5 {i j pos}:PE X (.Constant (.int i) j pos) (tC (.int i)):=fun _ _ _ H _ I h=>wpAny_Constant_int ⟨.int i,H,I.tok _,⟨_,rfl⟩,h⟩
theorem zar3 {b j pos}:PE X (.Constant (.bool b) j pos) (tC (.bl b)):=fun _ _ _ H _ I h=>Constant_bool ⟨.bl b,H,I,rfl,h⟩
theorem zap6 {j pos}:PE X (.Constant .none j pos) (tC .non):=fun _ _ _ H _ I h=>Constant_none ⟨.non,H,I,rfl,h⟩
theorem zap7 {x j pos}:PE X (.Constant (.str x) j pos) (tC (.str x)):=fun _ _ _ H _ I h=>Calls.Constant_str ⟨.str x,H,I.tok _,⟨_,rfl⟩,h⟩
def Gl (X:Cx) (x:Str):Prop:=X.env.kindOf x=some .globalImplicit
theorem zahw {E:Value→Shared→Prop}{pins:List (Addr × Obj)}{s:Shared}{σ:St}{H:Hp}{x:Str}{u:Value}{pos:Pos}{Q:Value→Shared→Prop} (I:Inv X pins σ H s) (hg:Gl X x) (hm:X.mg x=some u) (h:Q u s)
  (hd:(x == ("__debug__" : Str))=false:=by decide):wpAny (model X.prog X.w) X.A (eval (.Name x pos) X.env) Q E s :=
 Calls.Name_function_global I.ok.kind hg (Calls.loadGlobal_global (by rw [I.ok.glob]; exact I.mod.glob.keeps I.bk) hm h) hd
theorem zafj {E:Value→Shared→Prop}{pins:List (Addr × Obj)}{s:Shared}{σ:St}{H:Hp}{x:Str}{u:Value}{pos:Pos}{Q:Value→Shared→Prop} (I:Inv X pins σ H s) (hg:Gl X x) (hm:X.mg x=none) (hv:bootBuiltins x=some u) (h:Q u s)
  (hn:x ≠ "__name__" := by decide) (hd:(x == ("__debug__" : Str))=false:=by decide):wpAny (model X.prog X.w) X.A (eval (.Name x pos) X.env) Q E s:=by
 obtain ⟨mb,h1,h2⟩:=I.mod.blt
 exact Calls.Name_function_global I.ok.kind hg (Calls.loadGlobal_builtin (by rw [I.ok.glob]; exact I.mod.glob.keeps I.bk) hm (by rw [I.ok.blt]; exact h1.keeps I.bk) ((h2 x hn).trans hv) h) hd
theorem zanz {x:Str}{v:V}{u:Value}{pos:Pos} (hg:Gl X x) (hm:X.mg x=some u) (r:RelV v u) (hd:(x == ("__debug__" : Str))=false:=by decide):PE X (.Name x pos) (tC v) :=
 fun _ _ _ H _ I h=>zahw I hg hm ⟨v,H,I,r,h⟩ hd
theorem zan0 {x:Str}{v:V}{u:Value}{pos:Pos} (hg:Gl X x) (hm:X.mg x=none) (hv:bootBuiltins x=some u) (r:RelV v u) (hn:x ≠ "__name__" := by decide) (hd:(x == ("__debug__" : Str))=false:=by decide):PE X (.Name x pos) (tC v) :=
 fun _ _ _ H _ I h=>zafj I hg hm hv ⟨v,H,I,r,h⟩ hn hd
variable {a b:Expr}{ta tb:TE}{pos:Pos}
def PC (X:Cx) (op:CmpOp) (a b:Expr) (t:TE):Prop :=
 ∀ (pins:List (Addr × Obj)) (s:Shared) (σ:St) (H:Hp) (Q:VK),Inv X pins σ H s→t σ H Q →
  wpAny (model X.prog X.w) X.A (eval a X.env) (fun v s₁=>wpAny (model X.prog X.w) X.A (eval b X.env) (fun u s₂=>wpAny (model X.prog X.w) X.A (compareOp op v u) (EP X pins σ Q) X.xe s₂) X.xe s₁) X.xe s
def tB (t:TE):TT:=fun σ H Q=>t σ H fun x H1=>∃ c,x=.bl c∧Q c H1
theorem zap8 {op:CmpOp}{t:TE} (h:PC X op a b t) (h1:behindInMarks op b=false:=by first | exact nobehind _ (by decide) (by decide) | rfl):PE X (.Compare a [op] [b] pos) t:=fun pins s σ H Q I hw=>wpAny_Compare1 (h pins s σ H Q I hw) h1
theorem zap9 {e:Expr}{t:TE} (h:PE X e t) (he:∀ whole,isTrue e X.env whole=(do let v ← whole; standAt e.pos; holding [v] (truthy v)):=by intro _; rfl):PT X e (tB t):=by
 intro pins s σ H Q I hw
 refine isTrue_plain (thn (h pins s σ H _ I hw) fun v s1 ⟨x,H1,I1,r1,q1⟩=>?_) (he _)
 obtain ⟨d,rfl,q⟩:=q1
 cases r1
 exact wpAny_truthy_bool ⟨H1,I1,q⟩
variable {tA tB':TT}{rest:List Expr}
def tAnd (t u:TT):TT:=fun σ H Q=>t σ H fun c H1=>if c=true then u σ H1 Q else Q false H1
def tOr (t u:TT):TT:=fun σ H Q=>t σ H fun c H1=>if c=true then Q true H1 else u σ H1 Q
def tNot (t:TT):TT:=fun σ H Q=>t σ H fun c H1=>Q (!c) H1
theorem zan1 (ha:PT X a tA):PW X (.BoolOp .And [a] pos) tA:=by
 intro wh pins s σ H Q I h
 refine isTrue_and (thn (ha pins s σ H Q I h) fun c s1 e=>?_)
 cases c with
 | true=>exact isTrue_and_nil e
 | false=>exact e
theorem zaqa (ha:PT X a tA):PW X (.BoolOp .Or [a] pos) tA:=by
 intro wh pins s σ H Q I h
 refine isTrue_or (thn (ha pins s σ H Q I h) fun c s1 e=>?_)
 cases c with
 | false=>exact isTrue_or_nil e
 | true=>exact e
theorem zaqb (ha:PT X a tA) (hb:PW X (.BoolOp .And (b :: rest) pos) tB'):PW X (.BoolOp .And (a :: b :: rest) pos) (tAnd tA tB'):=by
 intro wh pins s σ H Q I h
 refine isTrue_and (thn (ha pins s σ H _ I h) fun c s1 ⟨H1,I1,q1⟩=>?_)
 cases c with
 | true=>exact hb wh pins s1 σ H1 Q I1 q1
 | false=>exact ⟨H1,I1,q1⟩
theorem zar4 (ha:PT X a tA) (hb:PW X (.BoolOp .Or (b :: rest) pos) tB'):PW X (.BoolOp .Or (a :: b :: rest) pos) (tOr tA tB'):=by
 intro wh pins s σ H Q I h
 refine isTrue_or (thn (ha pins s σ H _ I h) fun c s1 ⟨H1,I1,q1⟩=>?_)
 cases c with
 | true=>exact ⟨H1,I1,q1⟩
 | false=>exact hb wh pins s1 σ H1 Q I1 q1
theorem zaqc (ha:PT X a tA):PT X (.UnaryOp .Not a pos) (tNot tA):=by
 intro pins s σ H Q I h
 exact isTrue_not (ha pins s σ H (fun c H1=>Q (!c) H1) I h)
def tAndV (ta tb:TE):TE:=fun σ H Q=>ta σ H fun x H1=>∃ c,x=.bl c∧if c=true then tb σ H1 Q else Q (.bl false) H1
def tOrV (ta tb:TE):TE:=fun σ H Q=>ta σ H fun x H1=>∃ c,x=.bl c∧if c=true then Q (.bl true) H1 else tb σ H1 Q
def tNotV (ta:TE):TE:=fun σ H Q=>ta σ H fun x H1=>∃ c,x=.bl c∧Q (.bl (!c)) H1
theorem zaqd {op}{t:TE} (h:PE X a t):PE X (.BoolOp op [a] pos) t:=fun pins s σ H Q I hw=>BoolOp_one (h pins s σ H Q I hw)
theorem zaqe (ha:PE X a ta) (hb:PE X (.BoolOp .And (b :: rest) pos) tb):PE X (.BoolOp .And (a :: b :: rest) pos) (tAndV ta tb):=by
 intro pins s σ H Q I h
 refine BoolOp_and (thn (ha pins s σ H _ I h) fun v s1 ⟨x,H1,I1,r1,q1⟩=>?_)
 obtain ⟨c,rfl,q1⟩:=q1
 cases r1
 refine wpAny_truthy_bool ?_
 cases c with
 | true=>exact hb pins s1 σ H1 Q I1 q1
 | false=>exact ⟨.bl false,H1,I1,rfl,q1⟩
theorem zar5 (ha:PE X a ta) (hb:PE X (.BoolOp .Or (b :: rest) pos) tb):PE X (.BoolOp .Or (a :: b :: rest) pos) (tOrV ta tb):=by
 intro pins s σ H Q I h
 refine BoolOp_or (thn (ha pins s σ H _ I h) fun v s1 ⟨x,H1,I1,r1,q1⟩=>?_)
 obtain ⟨c,rfl,q1⟩:=q1
 cases r1
 refine wpAny_truthy_bool ?_
 cases c with
 | false=>exact hb pins s1 σ H1 Q I1 q1
 | true=>exact ⟨.bl true,H1,I1,rfl,q1⟩
theorem zaqf (ha:PE X a ta):PE X (.UnaryOp .Not a pos) (tNotV ta):=by
 intro pins s σ H Q I h
 refine UnaryOp_ (thn (ha pins s σ H _ I h) fun v s1 ⟨x,H1,I1,r1,q1⟩=>?_)
 obtain ⟨c,rfl,q1⟩:=q1
 cases r1
 exact not_of (wpAny_truthy_bool ⟨.bl (!c),H1,I1,rfl,q1⟩)
def tIf (t:TT) (ta tb:TE):TE:=fun σ H Q=>t σ H fun c H1=>if c=true then ta σ H1 Q else tb σ H1 Q
theorem zal9 {c:Expr} (hc:PT X c tA) (ha:PE X a ta) (hb:PE X b tb):PE X (.IfExp c a b pos) (tIf tA ta tb):=by
 intro pins s σ H Q I h
 refine wpAny_IfExp (thn (hc pins s σ H _ I h) fun d s1 ⟨H1,I1,q1⟩=>?_)
 cases d with
 | true=>exact ha pins s1 σ H1 Q I1 q1
 | false=>exact hb pins s1 σ H1 Q I1 q1
end
def SqL (K:PySem.W.Frag) (H:Hp) (a:Addr) (xs:List V):Prop :=
 Rd H a (.lst xs) ∨
  ∃ (o:Obj) (its:Array Value) (n:Nat),K.lookup a=some o∧o.cls=.type "list" ∧ o.dict=none∧o.data=.seq its n∧its.size≤sizeLine∧Vals xs its.toList
def SqT (K:PySem.W.Frag) (H:Hp) (a:Addr) (xs:List V):Prop :=
 Rd H a (.tup xs) ∨
  ∃ (o:Obj) (its:Array Value) (n:Nat),K.lookup a=some o∧o.cls=.type "tuple" ∧ o.data=.seq its n∧its.size≤sizeLine∧Vals xs its.toList
def absV:Value→Option V
 | .none=>some .non
 | .bool b=>some (.bl b)
 | .int i _=>some (.int i)
 | .str x _=>some (.str x)
 | .bytes b _=>some (.byt b)
 | .float b _=>some (.flt b)
 | .ref a=>some (.ref a)
 | .type n=>some (.ty n)
 | _=>none
theorem RelV.abs {x:V}{u:Value} (r:RelV x u):absV u=some x:=by
 cases x with
 | non=>cases r; rfl
 | bl _=>cases r; rfl
 | int _=>obtain ⟨t,rfl⟩:=r; rfl
 | str _=>obtain ⟨t,rfl⟩:=r; rfl
 | byt _=>obtain ⟨t,rfl⟩:=r; rfl
 | flt _=>obtain ⟨t,rfl⟩:=r; rfl
 | ref _=>cases r; rfl
 | ty _=>cases r; rfl
theorem RelV.inj {x y:V}{u:Value} (r:RelV x u) (q:RelV y u):x=y:=Option.some.inj (r.abs.symm.trans q.abs)
theorem Vals.inj:∀ {xs ys:List V}{us:List Value},Vals xs us→Vals ys us→xs=ys
 | _,_,_,.nil,.nil=>rfl
 | _,_,_,.cons r t,.cons r' t'=>by rw [r.inj r',Vals.inj t t']
section
variable {X:Cx}{pins:List (Addr × Obj)}{σ:St}{H:Hp}{s:Shared}{a:Addr}{xs ys:List V}
theorem SqL.of {K:PySem.W.Frag} (h:H a=some (.lst xs)):SqL K H a xs:=.inl (.inl h)
theorem SqT.of {K:PySem.W.Frag} (h:H a=some (.tup xs)):SqT K H a xs:=.inl (.inl h)
theorem Inv.list (I:Inv X pins σ H s) (h:SqL X.K H a xs):∃ its:List Value,Vals xs its∧PlainL s.heap a its.toArray∧xs.length≤sizeLine:=by
 rcases h with h | ⟨o,its,n,hk,hc,hd,hs,hz,r⟩
 ·obtain ⟨z,its,n,r,e⟩:=h.ok I.hok
  exact ⟨its,r,⟨_,n,e,rfl,rfl,rfl⟩,z⟩
 ·refine ⟨its.toList,r,⟨o,n,I.kIn a o hk,hc,hd,by simpa using hs⟩,?_⟩
  have e:=r.length
  simp only [Array.length_toList] at e
  omega
theorem Inv.tuple (I:Inv X pins σ H s) (h:SqT X.K H a xs):∃ its:List Value,Vals xs its∧IsTup s.heap a its.toArray∧xs.length≤sizeLine:=by
 rcases h with h | ⟨o,its,n,hk,hc,hs,hz,r⟩
 ·obtain ⟨z,its,r,p⟩:=h.ok I.hok
  exact ⟨its,r,p,z⟩
 ·refine ⟨its.toList,r,⟨o,I.kIn a o hk,hc,n,by simpa using hs⟩,?_⟩
  have e:=r.length
  simp only [Array.length_toList] at e
  omega
theorem Inv.list_inj (I:Inv X pins σ H s) (h:SqL X.K H a xs) (h':SqL X.K H a ys):xs=ys:=by
 obtain ⟨its,r,⟨o,n,e,_,_,d⟩,_⟩:=I.list h
 obtain ⟨its',r',⟨o',n',e',_,_,d'⟩,_⟩:=I.list h'
 rw [e] at e'; cases e'
 rw [d] at d'
 injection d' with d1 _
 have:its=its':=by simpa using congrArg Array.toList d1
 subst this
 exact r.inj r'
theorem Inv.tuple_inj (I:Inv X pins σ H s) (h:SqT X.K H a xs) (h':SqT X.K H a ys):xs=ys:=by
 obtain ⟨its,r,⟨o,e,_,n,d⟩,_⟩:=I.tuple h
 obtain ⟨its',r',⟨o',e',_,n',d'⟩,_⟩:=I.tuple h'
 rw [e] at e'; cases e'
 rw [d] at d'
 injection d' with d1 _
 have:its=its':=by simpa using congrArg Array.toList d1
 subst this
 exact r.inj r'
end
abbrev Cx.wish (X:Cx) (E:Value→Shared→Prop):Cx:={ X with xe:=E }
abbrev Cx.nox (X:Cx):Cx:=X.wish fun _ _=>False
theorem Cx.Ok.wish {X:Cx} (ok:X.Ok) (E:Value→Shared→Prop):(X.wish E).Ok :=
 ⟨ok.mod,ok.kind,ok.glob,ok.blt,ok.above,ok.inj,ok.has,ok.cab,ok.hd,ok.frames,ok.stk,ok.exf,ok.bs,ok.bsz,ok.noex,ok.exfs,ok.funs,ok.frf⟩
theorem Cx.Ok.unwish {X:Cx}{E:Value→Shared→Prop} (ok:(X.wish E).Ok):X.Ok :=
 ⟨ok.mod,ok.kind,ok.glob,ok.blt,ok.above,ok.inj,ok.has,ok.cab,ok.hd,ok.frames,ok.stk,ok.exf,ok.bs,ok.bsz,ok.noex,ok.exfs,ok.funs,ok.frf⟩
section
variable {X:Cx}{pins:List (Addr × Obj)}{σ:St}{H:Hp}{s:Shared}{E:Value→Shared→Prop}
theorem Inv.wish (I:Inv X pins σ H s) (E:Value→Shared→Prop):Inv (X.wish E) pins σ H s:=⟨I.ok.wish E,I.os,I.bare,I.base,I.loc,I.cell,I.free,I.freeC,I.pin,I.hok,I.len⟩
theorem Inv.unwish (I:Inv (X.wish E) pins σ H s):Inv X pins σ H s:=⟨I.ok.unwish,I.os,I.bare,I.base,I.loc,I.cell,I.free,I.freeC,I.pin,I.hok,I.len⟩
theorem SP.unwish {D:Ends}{f:Flow}{s':Shared} (h:SP (X.wish E) pins D f s'):SP X pins D f s':=by
 cases f with
 | next=>obtain ⟨σ',H',I,q⟩:=h; exact ⟨σ',H',I.unwish,q⟩
 | brk=>obtain ⟨σ',H',I,q⟩:=h; exact ⟨σ',H',I.unwish,q⟩
 | cont=>obtain ⟨σ',H',I,q⟩:=h; exact ⟨σ',H',I.unwish,q⟩
 | ret u=>obtain ⟨v,σ',H',I,r,q⟩:=h; exact ⟨v,σ',H',I.unwish,r,q⟩
theorem PSs.nox {st:List Stmt}{t:TS} (h:PSs X.nox st t):PSs X st t:=fun pins s σ H D I hw =>
 wpAny_mono (h pins s σ H D (I.wish _) hw) (fun _ _ q=>q.unwish) fun _ _ z=>False.elim z
end
section
variable {X:Cx}{st:Stmt}{rest:List Stmt}{t u:TS}{e:Expr}{te:TE}{pos:Pos}
def tNext:TS:=fun D σ H=>D.nx σ H
def tSeq (t u:TS):TS:=fun D σ H=>t { D with nx:=u D } σ H
theorem zan2:PSs X [] tNext:=fun _ _ σ H _ I h=>wpAny_execs_nil ⟨σ,H,I,h⟩
theorem zaiu (h1:PS X st t) (h2:PSs X rest u):PSs X (st :: rest) (tSeq t u):=by
 intro pins s σ H D I h
 refine wpAny_execs_cons (thn (h1 pins s σ H { D with nx:=u D } I h) fun f s1 q=>?_)
 cases f with
 | next =>
  obtain ⟨σ',H',I',q⟩:=q
  exact h2 pins s1 σ' H' D I' q
 | ret v=>exact q
 | brk=>exact q
 | cont=>exact q
theorem zan3 (h1:PS X st t):PSs X [st] t:=by
 intro pins s σ H D I h
 refine wpAny_execs_cons (thn (h1 pins s σ H D I h) fun f s1 q=>?_)
 cases f with
 | next=>exact wpAny_execs_nil q
 | ret v=>exact q
 | brk=>exact q
 | cont=>exact q
def tCont:TS:=fun D σ H=>D.ct σ H
theorem zahx:PS X (.Continue pos) tCont:=fun _ _ σ H _ I h=>wpAny_Continue ⟨σ,H,I,h⟩
theorem Inv.quiet {pins:List (Addr × Obj)}{σ:St}{H:Hp}{s:Shared} (I:Inv X pins σ H s):interactive X.env=false:=by simp [interactive,I.ok.kind]
def tDrop (te:TE):TS:=fun D σ H=>te σ H fun _ H1=>D.nx σ H1
theorem zan4 (he:PE X e te) (hs:swapsWith e none pos.line X.env=pure false:=by rfl):PS X (.Expr e pos) (tDrop te):=by
 intro pins s σ H D I h
 exact wpAny_Expr_any (thn (he pins s σ H _ I h) fun v s1 ⟨x,H1,I1,r1,q1⟩=>⟨σ,H1,I1,q1⟩) I.quiet hs
def tRet (te:TE):TS:=fun D σ H=>te σ H D.rt
theorem zaqg (he:PE X e te):PS X (.Return (some e) pos) (tRet te):=by
 intro pins s σ H D I h
 exact wpAny_Return_some (thn (he pins s σ H _ I h) fun v s1 ⟨x,H1,I1,r1,q1⟩=>⟨x,σ,H1,I1,r1,q1⟩)
def tIfS (c:TT) (t u:TS):TS:=fun D σ H=>c σ H fun b H1=>if b=true then t D σ H1 else u D σ H1
theorem zar6 {c:Expr}{a b:List Stmt}{tc:TT} (hc:PT X c tc) (ha:PSs X a t) (hb:PSs X b u):PS X (.If c a b pos) (tIfS tc t u):=by
 intro pins s σ H D I h
 refine wpAny_If (thn (hc pins s σ H _ I h) fun d s1 ⟨H1,I1,q1⟩=>?_)
 cases d with
 | true=>exact ha pins s1 σ H1 D I1 q1
 | false=>exact hb pins s1 σ H1 D I1 q1
def tNever:TS:=fun _ _ _=>False
theorem zama:PS X st tNever:=fun _ _ _ _ _ _ h=>h.elim
end
abbrev TG:=V→St→Hp→(St→Hp→Prop)→Prop
abbrev TGs:=List V→St→Hp→(St→Hp→Prop)→Prop
def PG (X:Cx) (target:Expr) (t:TG):Prop :=
 ∀ (pins:List (Addr × Obj)) (s:Shared) (σ:St) (H:Hp) (v:V) (u:Value) (Q:St→Hp→Prop),Inv X pins σ H s→RelV v u→t v σ H Q →
  wpAny (model X.prog X.w) X.A (assign target X.env u) (fun _ s'=>∃ σ' H',Inv X pins σ' H' s'∧Q σ' H') X.xe s
def PGs (X:Cx) (ts:List Expr) (t:TGs):Prop :=
 ∀ (pins:List (Addr × Obj)) (s:Shared) (σ:St) (H:Hp) (vs:List V) (us:List Value) (Q:St→Hp→Prop),Inv X pins σ H s→Vals vs us→t vs σ H Q →
  wpAny (model X.prog X.w) X.A (assignInOrder ((assignEach ts X.env).map (·.2)) us) (fun _ s'=>∃ σ' H',Inv X pins σ' H' s'∧Q σ' H') X.xe s
abbrev TSet:=V→V→V→Hp→(Hp→Prop)→Prop
def PSet (X:Cx) (t:TSet):Prop :=
 ∀ (pins:List (Addr × Obj)) (s:Shared) (σ:St) (H:Hp) (o i v:V) (ov iv u:Value) (Q:Hp→Prop),Inv X pins σ H s→RelV o ov→RelV i iv→RelV v u→t o i v H Q →
  wpAny (model X.prog X.w) X.A (setItem ov iv u) (fun _ s'=>∃ H',Inv X pins σ H' s'∧Q H') X.xe s
section
variable {X:Cx}{pos:Pos}
def gName (i:Nat):TG:=fun v σ H Q=>Q (σ.set i (some v)) H
theorem zan5 {i:Nat}{x:Str} (hN:X.N.Nodup) (hi:X.N[i]?=some x) (hx:Loc X.env.scope x) (hf:X.fn x=true∨X.env.scope.names.lookup x=some .local:=by first | exact .inl rfl | exact .inr rfl | assumption):PG X (.Name x pos) (gName i):=by
 intro pins s σ H v u Q I r h
 exact wpAny_assign_Name (zait I hN hi hx r (fun s' I'=>⟨_,H,I',h⟩) hf)
def gNil:TGs:=fun vs σ H Q=>vs=[]∧Q σ H
def gCons (t:TG) (u:TGs):TGs:=fun vs σ H Q=>∃ v r,vs=v :: r∧t v σ H fun σ' H'=>u r σ' H' Q
theorem zan6:PGs X [] gNil:=by
 intro pins s σ H vs us Q I r h
 obtain ⟨e,h⟩:=h
 subst e
 cases r
 exact assignInOrder_nil ⟨σ,H,I,h⟩
theorem zamb {e:Expr}{es:List Expr}{t:TG}{u:TGs} (h1:PG X e t) (h2:PGs X es u)
  (hs:(assignEach (e :: es) X.env).map (·.2)=assign e X.env :: (assignEach es X.env).map (·.2):=by rfl):PGs X (e :: es) (gCons t u):=by
 intro pins s σ H vs us Q I r h
 obtain ⟨v,vr,e1,h⟩:=h
 subst e1
 cases r with
 | cons r rr =>
  rw [hs]
  refine assignInOrder_cons (thn (h1 pins s σ H _ _ _ I r h) fun _ s1 ⟨σ1,H1,I1,q1⟩=>?_)
  exact h2 pins s1 σ1 H1 _ _ Q I1 rr q1
def gTup (K:PySem.W.Frag) (n:Nat) (t:TGs):TG:=fun v σ H Q=>∃ a xs,v=.ref a∧SqT K H a xs∧xs.length=n∧t xs σ H Q
theorem zana {es:List Expr}{k:Nat}{t:TGs}{n:Nat} (hc:X.calm=true) (h:PGs X es t)
  (hn:(assignEach es X.env).length=n:=by rfl) (hst:(assignEach es X.env).findIdx? (·.1)=none:=by rfl):PG X (.Tuple es k pos) (gTup X.K n t):=by
 intro pins s σ H v u Q I r hw
 obtain ⟨a,xs,e1,hq,hl,hw⟩:=hw
 subst e1
 cases r
 obtain ⟨its,rv,ht,hz⟩:=I.tuple hq
 refine assign_Tuple_tuple (I.ok.hd hc) ht (by simp [hn,← hl,rv.length]) hst fun h' hx=>?_
 have I1:Inv X pins σ H { s with heap:=h' }:=I.kept (t':=s.toks) fun b o e=>hx b o (Nat.ne_of_lt (Heap.lt_size e)) e
 exact h pins _ σ H xs _ Q I1 (by simpa using rv) hw
def gSub (to ti:TE) (t:TSet):TG:=fun v σ H Q=>to σ H fun o H1=>ti σ H1 fun i H2=>t o i v H2 fun H3=>Q σ H3
theorem zaqh {o i:Expr}{to ti:TE}{t:TSet} (ho:PE X o to) (hi:PE X i ti) (hs:PSet X t)
  (ha:∀ v,assign (.Subscript o i pos) X.env v=(do
   let ov ← holding [v] (eval o X.env)
   let iv ← holding [v,ov] (eval i X.env)
   standAt pos
   holding [v,ov,iv] (setItem ov iv v)
   release [v,ov,iv] []):=by intro _; rfl):PG X (.Subscript o i pos) (gSub to ti t):=by
 intro pins s σ H v u Q I r h
 rw [ha]
 refine wpAny_bind (wpAny_holding (thn (ho pins s σ H _ I h) fun ov s1 ⟨x,H1,I1,r1,q1⟩=>?_))
 refine wpAny_bind (wpAny_holding (thn (hi pins s1 σ H1 _ I1 q1) fun iv s2 ⟨y,H2,I2,r2,q2⟩=>?_))
 refine wpAny_bind (wpAny_standAt (wpAny_bind (wpAny_holding (thn (hs pins s2 σ H2 x y v ov iv u _ I2 r1 r2 r q2) fun _ s3 ⟨H3,I3,q3⟩=>?_))))
 exact wpAny_release ⟨σ,H3,I3,q3⟩
def tAsg (te:TE) (g:TG):TS:=fun D σ H=>te σ H fun x H1=>g x σ H1 D.nx
theorem zaqi {tg e:Expr}{te:TE}{g:TG} (he:PE X e te) (hg:PG X tg g) (hs:swapsWithSole [tg] e pos.line X.env=pure false:=by rfl) (hw:swappedStores [tg] e X.env=pure none:=by rfl)
  (h1:(assignEach [tg] X.env).map (·.2)=[assign tg X.env]:=by rfl):PS X (.Assign [tg] e pos) (tAsg te g):=by
 intro pins s σ H D I h
 refine wpAny_Assign_stores (thn (he pins s σ H _ I h) fun v s1 ⟨x,H1,I1,r1,q1⟩=>?_) hs hw
 rw [h1]
 exact thn (hg pins s1 σ H1 x v _ I1 r1 q1) fun _ s2 q=>q
theorem zaqj {i:Nat}{x:Str}{e:Expr}{te:TE}{pos':Pos} (hN:X.N.Nodup) (hi:X.N[i]?=some x) (hx:Loc X.env.scope x) (he:PE X e te) (hs:swapsWith e (some (.Name x pos')) pos.line X.env=pure false:=by rfl) (hf:X.fn x=true∨X.env.scope.names.lookup x=some .local:=by first | exact .inl rfl | exact .inr rfl | assumption) :
  PS X (.Assign [.Name x pos'] e pos) (tAsg te (gName i)):=by
 intro pins s σ H D I h
 refine wpAny_Assign_Name (thn (he pins s σ H _ I h) fun v s1 ⟨y,H1,I1,r1,q1⟩=>?_) hs
 exact zait I1 hN hi hx r1 (fun s2 I2=>⟨_,H1,I2,q1⟩) hf
end
structure It where
 go:Nat→Hp→Prop
 yld:Nat→Hp→V→Hp→Prop
 stop:Nat→Hp→Prop
def FpOk (X:Cx) (pins:List (Addr × Obj)) (H:Hp) (b:Addr):Prop :=
 H b=none∧b≠X.env.locals∧b ∉ X.fs∧(b∈X.ex∨X.s₀.heap.objs.size≤b)∧(∀ x c,X.env.cells.lookup x=some c→c≠b)∧∀ p∈X.pn++pins,p.1≠b
theorem Inv.fpOk {X:Cx}{pins:List (Addr × Obj)}{σ:St}{H H':Hp}{s:Shared}{b:Addr} (I:Inv X pins σ H s) (hb:s.heap.objs.size≤b) (hn:H' b=none):FpOk X pins H' b:=by
 refine ⟨hn,Nat.ne_of_gt (Nat.lt_of_lt_of_le I.lt hb),I.nofs hb,.inr (Nat.le_trans I.sz hb),fun x c e z=>?_,fun p hp z=>?_⟩
 ·obtain ⟨v,q⟩:=I.cell x c e
  exact absurd (Nat.lt_of_lt_of_le q.lt (by rw [z]; exact hb)) (Nat.lt_irrefl _)
 ·exact absurd (Nat.lt_of_lt_of_le (Heap.lt_size (I.pin p hp).1) (by rw [z]; exact hb)) (Nat.lt_irrefl _)
structure Turn (P:Program) (w:World) (K:PySem.W.Frag) (tg:Expr) (J:It) (fp:List Addr) (it:Addr) (tn:Nat→Heap→Prop):Prop where
 mem:it∈fp
 obj:∀ i h,tn i h→∀ b∈fp,∃ o,h.get? b=some o∧∀ v,o.data≠.cell v
 keep:∀ i h h',tn i h→(∀ b∈fp,∀ o,h.get? b=some o→h'.get? b=some o)→tn i h'
 item:∀ (X:Cx),X.prog=P→X.w=w→X.K=K→X.calm=true→∀ (i:Nat) (pins:List (Addr × Obj)) (s:Shared) (σ:St) (H:Hp) (E:Value→Shared→Prop),Inv X pins σ H s→(∀ b∈fp,FpOk X pins H b)→tn i s.heap→J.go i H →
  wpAny (model P w) X.A (pyNext (.ref it)) (fun r s1=>∃ u,r=some u ∧
   wpAny (model P w) X.A (letOwnedTupleGo tg (.ref it) u) (fun _ s2=>∃ x H',Inv X pins σ H' s2∧RelV x u∧J.yld i H x H'∧tn (i + 1) s2.heap∧∀ b∈fp,H' b=none) E s1) E s
 done:∀ (X:Cx),X.prog=P→X.w=w→X.K=K→X.calm=true→∀ (i:Nat) (pins:List (Addr × Obj)) (s:Shared) (σ:St) (H:Hp) (E:Value→Shared→Prop),Inv X pins σ H s→(∀ b∈fp,FpOk X pins H b)→tn i s.heap→J.stop i H →
  wpAny (model P w) X.A (pyNext (.ref it)) (fun r s1=>r=none∧Inv X pins σ H s1) E s
 self:∀ (A:Around) (i:Nat) (s:Shared) (Q:Value→Shared→Prop) (E:Value→Shared→Prop),tn i s.heap→Q (.ref it) s→wpAny (model P w) A (pyIter (.ref it)) Q E s
abbrev TI:=St→Hp→(It→Hp→Prop)→Prop
def PIE (X:Cx) (pins:List (Addr × Obj)) (σ:St) (tg:Expr) (R:It→Hp→Prop) (itv:Value) (s2:Shared):Prop :=
 ∃ (it:Addr) (fp:List Addr) (tn:Nat→Heap→Prop) (J:It) (H':Hp),itv=.ref it∧Inv X pins σ H' s2∧Turn X.prog X.w X.K tg J fp it tn∧tn 0 s2.heap∧(∀ b∈fp,FpOk X pins H' b)∧R J H'
def PI (X:Cx) (tg iter:Expr) (wi:TI):Prop :=
 ∀ (pins:List (Addr × Obj)) (s:Shared) (σ:St) (H:Hp) (R:It→Hp→Prop),Inv X pins σ H s→wi σ H R →
  wpAny (model X.prog X.w) X.A (eval iter X.env) (fun v s1=>wpAny (model X.prog X.w) X.A (pyIter v) (PIE X pins σ tg R) X.xe s1) X.xe s
theorem zan7 {M:Model}{A:Around}{E:Value→Shared→Prop}{s:Shared}{tg:Expr}{it:Addr}{u:Value}{o:Obj}{n:String}{vs:Array Value}{Q:Unit→Shared→Prop} (ho:s.heap.get? it=some o) (hc:o.cls=.type n) (hd:o.data=.fields vs)
  (hn:["enumerate", "zip", "dict_itemiterator", "dict_reverseitemiterator", "odict_iterator", "itertools.zip_longest", "itertools.pairwise"].contains n=false) (hQ:Q () s):wpAny M A (letOwnedTupleGo tg (.ref it) u) Q E s:=by
 unfold letOwnedTupleGo
 cases tg <;> first
  | exact wpAny_pure hQ
  | (cases u <;> first
    | exact wpAny_pure hQ
    | (refine wpAny_bind (wpAny_load ho ?_)
       rw [hc,hd]
       show wpAny M A (if (["enumerate", "zip", "dict_itemiterator", "dict_reverseitemiterator", "odict_iterator", "itertools.zip_longest", "itertools.pairwise"].contains n && vs[0]? == some (rawInt _))=true then _ else _) Q E s
       rw [if_neg (by intro h; rw [hn,Bool.false_and] at h; cases h)]
       exact wpAny_pure hQ))
def Itl (K:PySem.W.Frag) (a:Addr):It :=
 ⟨fun i H=>∃ xs x,SqL K H a xs∧xs[i]?=some x,fun i H x H'=>H'=H∧∀ xs,SqL K H a xs→xs[i]?=some x,fun i H=>∃ xs,SqL K H a xs∧xs.length≤i⟩
def Itt (K:PySem.W.Frag) (a:Addr):It :=
 ⟨fun i H=>∃ xs x,SqT K H a xs∧xs[i]?=some x,fun i H x H'=>H'=H∧∀ xs,SqT K H a xs→xs[i]?=some x,fun i H=>∃ xs,SqT K H a xs∧xs.length≤i⟩
def Itr (lo:Int) (n:Nat):It:=⟨fun i _=>i < n,fun i H x H'=>H'=H∧x=.int (lo + i),fun i _=>n≤i⟩
theorem zaj0 {P:Program}{w:World}{K:PySem.W.Frag}{tg:Expr} (a it:Addr):Turn P w K tg (Itl K a) [it] it (fun i h=>h.IsListIter it a i) where
 mem:=by simp
 obj:=fun i h st b hb=>by
  have e:b=it:=by simpa using hb
  subst e
  obtain ⟨o,e,c,d⟩:=st
  exact ⟨o,e,fun v z=>by rw [d] at z; cases z⟩
 keep:=fun i h h' st k=>st.at fun o e=>k it (by simp) o e
 item:=by
  intro X hP hw hK hc i pins s σ H E I hf st hg
  subst hP hw hK
  obtain ⟨xs,x,hq,hx⟩:=hg
  obtain ⟨its,rv,p,hz⟩:=I.list hq
  obtain ⟨u,hu,ru⟩:=rv.get hx
  obtain ⟨f0,f1,f2,f3,f4,f5⟩:=hf it (by simp)
  refine wpAny_pyNext_list_item st p.isList (x:=u) (by simpa using hu) fun h' st' sb=>?_
  have I1:Inv X pins σ H { s with heap:=h' }:=I.turned (t':=s.toks) (fun b o hb e=>(sb.2 b hb).trans e) f0 f1 f3 f4 f5
  obtain ⟨o,e,c,d⟩:=id st'
  exact ⟨u,rfl,zan7 (s:={ s with heap:=h' }) e c d (by decide) ⟨x,H,I1,ru,⟨rfl,fun ys hy=>by rw [I.list_inj hy hq]; exact hx⟩,st',fun b hb=>(hf b hb).1⟩⟩
 done:=by
  intro X hP hw hK hc i pins s σ H E I hf st hg
  subst hP hw hK
  obtain ⟨xs,hq,hx⟩:=hg
  obtain ⟨its,rv,p,hz⟩:=I.list hq
  obtain ⟨f0,f1,f2,f3,f4,f5⟩:=hf it (by simp)
  have hl:=rv.length
  exact wpAny_pyNext_list_end (I.ok.hd hc) st p.isList (by simp; omega) fun h' eb=>⟨rfl,I.turned (t':=s.toks) (fun b o hb e=>eb b o hb e) f0 f1 f3 f4 f5⟩
 self:=fun _ _ _ _ _ st h=>wpAny_pyIter_listiter st h
theorem zajd {P:Program}{w:World}{K:PySem.W.Frag}{tg:Expr} (a it:Addr):Turn P w K tg (Itt K a) [it] it (fun i h=>h.IsTupleIter it a i) where
 mem:=by simp
 obj:=fun i h st b hb=>by
  have e:b=it:=by simpa using hb
  subst e
  obtain ⟨o,e,c,d⟩:=st
  exact ⟨o,e,fun v z=>by rw [d] at z; cases z⟩
 keep:=fun i h h' st k=>st.at fun o e=>k it (by simp) o e
 item:=by
  intro X hP hw hK hc i pins s σ H E I hf st hg
  subst hP hw hK
  obtain ⟨xs,x,hq,hx⟩:=hg
  obtain ⟨its,rv,p,hz⟩:=I.tuple hq
  obtain ⟨u,hu,ru⟩:=rv.get hx
  obtain ⟨f0,f1,f2,f3,f4,f5⟩:=hf it (by simp)
  refine wpAny_pyNext_tuple_item st (show s.heap.IsTuple a its.toArray from p) (x:=u) (by simpa using hu) fun h' st' sb=>?_
  have I1:Inv X pins σ H { s with heap:=h' }:=I.turned (t':=s.toks) (fun b o hb e=>(sb.2 b hb).trans e) f0 f1 f3 f4 f5
  obtain ⟨o,e,c,d⟩:=id st'
  exact ⟨u,rfl,zan7 (s:={ s with heap:=h' }) e c d (by decide) ⟨x,H,I1,ru,⟨rfl,fun ys hy=>by rw [I.tuple_inj hy hq]; exact hx⟩,st',fun b hb=>(hf b hb).1⟩⟩
 done:=by
  intro X hP hw hK hc i pins s σ H E I hf st hg
  subst hP hw hK
  obtain ⟨xs,hq,hx⟩:=hg
  obtain ⟨its,rv,p,hz⟩:=I.tuple hq
  obtain ⟨f0,f1,f2,f3,f4,f5⟩:=hf it (by simp)
  have hl:=rv.length
  exact wpAny_pyNext_tuple_end (I.ok.hd hc) st (show s.heap.IsTuple a its.toArray from p) (by simp; omega) fun h' eb=>⟨rfl,I.turned (t':=s.toks) (fun b o hb e=>eb b o hb e) f0 f1 f3 f4 f5⟩
 self:=fun _ _ _ _ _ st h=>wpAny_pyIter_tupleiter st h
theorem zaje {P:Program}{w:World}{K:PySem.W.Frag}{tg:Expr} (it:Addr) (lo:Int) (n:Nat):Turn P w K tg (Itr lo n) [it] it (fun i h=>IsRangeIter h it (lo + (i:Nat) * 1) ((n:Int) - (i:Nat)) 1) where
 mem:=by simp
 obj:=fun i h st b hb=>by
  have e:b=it:=by simpa using hb
  subst e
  exact ⟨_,st,fun v z=>by
   have z':Data.fields _=Data.cell v:=z
   cases z'⟩
 keep:=fun i h h' st k=>k it (by simp) _ st
 item:=by
  intro X hP hw hK hc i pins s σ H E I hf st hg
  subst hP hw hK
  obtain ⟨f0,f1,f2,f3,f4,f5⟩:=hf it (by simp)
  have W:=Walks.range (prog:=X.prog) (w:=X.w) (I.ok.hd hc) it lo 1 n
  refine W.item i s _ _ hg st fun v h' tk hv st' kk=>?_
  obtain ⟨t,rfl⟩:=hv
  have I1:Inv X pins σ H { s with heap:=h',toks:=tk }:=I.turned (fun b o hb e=>kk b o (by simpa using hb) e) f0 f1 f3 f4 f5
  refine ⟨_,rfl,zan7 (s:={ s with heap:=h',toks:=tk }) (n := "range_iterator") st' rfl rfl (by decide) ⟨.int (lo + i),H,I1,⟨t,?_⟩,⟨rfl,rfl⟩,st',fun b hb=>(hf b hb).1⟩⟩
  rw [Int.mul_one]
 done:=by
  intro X hP hw hK hc i pins s σ H E I hf st hg
  subst hP hw hK
  obtain ⟨f0,f1,f2,f3,f4,f5⟩:=hf it (by simp)
  exact wpAny_pyNext_range_end (I.ok.hd hc) st (by have:n≤i:=hg; omega) fun h' eb=>⟨rfl,I.turned (t':=s.toks) (fun b o hb e=>eb b o hb e) f0 f1 f3 f4 f5⟩
 self:=fun _ _ _ _ _ st h=>wpAny_pyIter_rangeiter st h
section
variable {X:Cx}{tg:Expr}
def iList (K:PySem.W.Frag) (tl:TE):TI:=fun σ H R=>tl σ H fun x H1=>∃ a,x=.ref a∧(∃ xs,SqL K H1 a xs)∧R (Itl K a) H1
def iTup (K:PySem.W.Frag) (tl:TE):TI:=fun σ H R=>tl σ H fun x H1=>∃ a,x=.ref a∧(∃ xs,SqT K H1 a xs)∧R (Itt K a) H1
theorem zaj1 {l:Expr}{tl:TE} (hl:PE X l tl):PI X tg l (iList X.K tl):=by
 intro pins s σ H R I h
 refine thn (hl pins s σ H _ I h) fun v s1 ⟨x,H1,I1,r1,q1⟩=>?_
 obtain ⟨a,e,⟨xs,hq⟩,q⟩:=q1
 subst e
 cases r1
 obtain ⟨its,rv,p,hz⟩:=I1.list hq
 refine wpAny_pyIter_list p.isList ?_
 refine ⟨s1.heap.objs.size,[s1.heap.objs.size],_,_,H1,rfl,I1.kept (t':=s1.toks) fun b o e=>Heap.get?_push_of_some _ e,zaj0 a _,⟨_,Heap.get?_push_size _ rfl,rfl,rfl⟩,fun b hb=>?_,q⟩
 have e:b=s1.heap.objs.size:=by simpa using hb
 subst e
 exact I1.fpOk (Nat.le_refl _) (I1.hok.fresh (Nat.le_refl _))
theorem zanb {l:Expr}{tl:TE} (hl:PE X l tl):PI X tg l (iTup X.K tl):=by
 intro pins s σ H R I h
 refine thn (hl pins s σ H _ I h) fun v s1 ⟨x,H1,I1,r1,q1⟩=>?_
 obtain ⟨a,e,⟨xs,hq⟩,q⟩:=q1
 subst e
 cases r1
 obtain ⟨its,rv,p,hz⟩:=I1.tuple hq
 refine wpAny_pyIter_tuple (show s1.heap.IsTuple a its.toArray from p) ?_
 refine ⟨s1.heap.objs.size,[s1.heap.objs.size],_,_,H1,rfl,I1.kept (t':=s1.toks) fun b o e=>Heap.get?_push_of_some _ e,zajd a _,⟨_,Heap.get?_push_size _ rfl,rfl,rfl⟩,fun b hb=>?_,q⟩
 have e:b=s1.heap.objs.size:=by simpa using hb
 subst e
 exact I1.fpOk (Nat.le_refl _) (I1.hok.fresh (Nat.le_refl _))
theorem zaiv {pins:List (Addr × Obj)}{σ:St}{H:Hp}{s:Shared}{R:It→Hp→Prop}{E:Value→Shared→Prop}{lo hi:Int}{t u v:Tok}{tk:Nat} (I:Inv X pins σ H s) (h1:-(2 ^ 62)≤lo) (h2:lo < 2 ^ 62) (h3:-(2 ^ 62)≤hi) (h4:hi < 2 ^ 62)
  (q:R (Itr lo (hi - lo).toNat) H):wpAny (model X.prog X.w) X.A (pyIter (.ref s.heap.objs.size)) (PIE X pins σ tg R) E { s with heap:=s.heap.push { cls:=.type "range",data:=.fields #[.int lo t,.int hi u,.int 1 v] },toks:=tk }:=by
 refine wpAny_pyIter_range (IsRange.new ..) (small_one h1 h2 h3 h4) ?_
 have I1:Inv X pins σ H { s with heap:=s.heap.push { cls:=.type "range",data:=.fields #[.int lo t,.int hi u,.int 1 v] },toks:=tk }:=I.kept fun b o e=>Heap.get?_push_of_some _ e
 refine ⟨(s.heap.push { cls:=.type "range",data:=.fields #[.int lo t,.int hi u,.int 1 v] }).objs.size,[(s.heap.push { cls:=.type "range",data:=.fields #[.int lo t,.int hi u,.int 1 v] }).objs.size],_,_,H,rfl,
  I1.kept (t':=tk) fun b o e=>Heap.get?_push_of_some _ e,zaje _ lo (hi - lo).toNat,?_,fun b hb=>?_,q⟩
 ·have e1:lo + ((0:Nat):Int) * 1=lo:=by simp
  have e2:(((hi - lo).toNat:Nat):Int) - ((0:Nat):Int)=Builtin.Range.rangeSize lo hi 1:=by rw [rangeSize_one]; split <;> omega
  show IsRangeIter _ _ (lo + ((0:Nat):Int) * 1) ((((hi - lo).toNat:Nat):Int) - ((0:Nat):Int)) 1
  rw [e1,e2]
  exact Heap.get?_push_size _ rfl
 ·have e:b=(s.heap.push { cls:=.type "range",data:=.fields #[.int lo t,.int hi u,.int 1 v] }).objs.size:=by simpa using hb
  subst e
  exact I1.fpOk (Nat.le_refl _) (I1.hok.fresh (Nat.le_refl _))
def iRng1 (ta:TA):TI:=fun σ H R=>ta σ H fun vs H1=>∃ j:Int,vs=[.int j]∧-(2 ^ 62)≤j∧j < 2 ^ 62∧R (Itr 0 j.toNat) H1
def iRng2 (ta:TA):TI:=fun σ H R=>ta σ H fun vs H1=>∃ i j:Int,vs=[.int i,.int j]∧(-(2 ^ 62)≤i∧i < 2 ^ 62∧-(2 ^ 62)≤j∧j < 2 ^ 62)∧R (Itr i (j - i).toNat) H1
theorem zaj2 {a:Expr}{ta:TA}{p pos:Pos} (hg:Gl X "range") (hm:X.mg "range" = none) (ha:PA X [a] ta) (hs:starEach [a] X.env=[(false,eval a X.env)]:=by rfl):PI X tg (.Call (.Name "range" p) [a] [] pos) (iRng1 ta):=by
 intro pins s σ H R I h
 refine Call_ (zafj I hg hm boot_range (PyProof.Rows.callWith_type1 (thn (ha pos pins s σ H _ I h) fun us s1 ⟨vs,H1,I1,r1,q1⟩=>?_) hs rfl))
 obtain ⟨j,e,q1,q2,q⟩:=q1
 subst e
 cases r1 with
 | cons r rr =>
  cases rr
  obtain ⟨t,rfl⟩:=r
  exact call_range_1 (zaiv I1 (by omega) (by omega) q1 q2 (by simpa using q))
theorem zaj3 {a b:Expr}{ta:TA}{p pos:Pos} (hg:Gl X "range") (hm:X.mg "range" = none) (ha:PA X [a,b] ta) (hs:starEach [a,b] X.env=[(false,eval a X.env),(false,eval b X.env)]:=by rfl) (hs2:starEach [b] X.env=[(false,eval b X.env)]:=by rfl) :
  PI X tg (.Call (.Name "range" p) [a,b] [] pos) (iRng2 ta):=by
 intro pins s σ H R I h
 refine Call_ (zafj I hg hm boot_range (PyProof.Rows.callWith_type1 (thn (ha pos pins s σ H _ I h) fun us s1 ⟨vs,H1,I1,r1,q1⟩=>?_) (by rw [hs,hs2]) (by rw [hs2]; rfl)))
 obtain ⟨i,j,e,⟨q1,q2,q3,q4⟩,q⟩:=q1
 subst e
 cases r1 with
 | cons r rr =>
  cases rr with
  | cons r' rr =>
   cases rr
   obtain ⟨t,rfl⟩:=r
   obtain ⟨t',rfl⟩:=r'
   exact call_range_2 (zaiv I1 q1 q2 q3 q4 q)
def tFor (wi:TI) (g:TG) (tb:TS):TS:=fun D σ H=>wi σ H fun J H1=>∃ W:Nat→Nat→St→Hp→Prop,(∃ m,W 0 m σ H1)∧∀ i m σ H,W i m σ H →
 (J.stop i H∧D.nx σ H)∨(J.go i H∧∃ N:St→Hp→Prop,(∀ σ' H',N σ' H'→∃ m',m' < m∧W (i + 1) m' σ' H')∧∀ x H',J.yld i H x H'→g x σ H' fun σ2 H2=>tb { D with nx:=N,ct:=N,bk:=D.nx } σ2 H2)
def pinsAt (fp:List Addr) (h:Heap):List (Addr × Obj):=fp.filterMap fun b=>(h.get? b).map fun o=>(b,o)
theorem zaee {fp:List Addr}{h:Heap}{b:Addr}{o:Obj} (hb:b∈fp) (e:h.get? b=some o):(b,o)∈pinsAt fp h:=List.mem_filterMap.mpr ⟨b,hb,by rw [e]; rfl⟩
theorem zagz {fp:List Addr}{h:Heap}{p:Addr × Obj} (hp:p∈pinsAt fp h):p.1∈fp∧h.get? p.1=some p.2:=by
 obtain ⟨b,hb,e⟩:=List.mem_filterMap.mp hp
 cases q:h.get? b with
 | none=>rw [q] at e; cases e
 | some o =>
  rw [q] at e
  have e':(b,o)=p:=Option.some.inj e
  subst e'
  exact ⟨hb,q⟩
theorem Inv.pinned {pins:List (Addr × Obj)}{σ:St}{H:Hp}{s:Shared}{fp:List Addr} (I:Inv X pins σ H s) (hf:∀ b∈fp,FpOk X pins H b) (ho:∀ b∈fp,∃ o,s.heap.get? b=some o∧∀ v,o.data≠.cell v):Inv X (pins++pinsAt fp s.heap) σ H s :=
 I.pins_of fun p hp=>(List.mem_append.mp hp).elim (fun z=>I.pin p (List.mem_append_right _ z)) fun z=>by
  obtain ⟨hb,e⟩:=zagz z
  obtain ⟨f0,f1,f2,_⟩:=hf p.1 hb
  obtain ⟨o,e',d⟩:=ho p.1 hb
  rw [e] at e'; cases e'
  exact ⟨e,f0,f1,f2,d⟩
theorem Inv.unpinned {pins pl:List (Addr × Obj)}{σ:St}{H:Hp}{s:Shared} (I:Inv X (pins++pl) σ H s):Inv X pins σ H s:=I.pins_of fun p hp=>I.pin p (List.mem_append_right _ (List.mem_append_left _ hp))
theorem zaqk {iter:Expr}{body:List Stmt}{wi:TI}{g:TG}{tb:TS}{pos:Pos} (hp:PassesOwn (model X.prog X.w) X.A X.env X.xe) (hc:X.calm=true) (hi:PI X tg iter wi) (hg:PG X tg g) (hb:PSs X body tb)
  (hs:∀ x,foldedSetIterable iter X.env x=pure x:=by intro _; rfl):PS X (.For tg iter body [] pos) (tFor wi g tb):=by
 intro pins s σ H D I h
 refine wpAny_For (thn (hi pins s σ H _ I h) fun v s1 h1=>thn h1 fun itv s2 h2=>?_) hs
 obtain ⟨it,fp,tn,J,H2,e,I2,T,st2,f2,W,⟨m0,w0⟩,turn⟩:=h2
 subst e
 have stat:∀ {H':Hp},(∀ b∈fp,H' b=none)→∀ b∈fp,FpOk X pins H' b:=fun hn b hb=>⟨hn b hb,(f2 b hb).2⟩
 refine codeAny_forLoop_any (fun n s'=>∃ i σ' H',Inv X pins σ' H' s'∧tn i s'.heap∧(∀ b∈fp,H' b=none)∧W i n σ' H') ?_ m0 ⟨0,σ,H2,I2,st2,fun b hb=>(f2 b hb).1,w0⟩
 rintro n s3 ⟨i,σ3,H3,I3,st3,fr3,w3⟩
 rcases turn i n σ3 H3 w3 with ⟨stop,qn⟩ | ⟨go,N,hN,step⟩
 ·refine wpAny_passesOwn hp (thn (T.done X rfl rfl rfl hc i pins s3 σ3 H3 X.xe I3 (stat fr3) st3 stop) fun r s4 ⟨hr,I4⟩=>?_)
  subst hr
  exact wpAny_execs_nil ⟨σ3,H3,I4,qn⟩
 ·refine wpAny_passesOwn hp (thn (T.item X rfl rfl rfl hc i pins s3 σ3 H3 X.xe I3 (stat fr3) st3 go) fun r s4 ⟨u,hr,h4⟩=>?_)
  subst hr
  refine wpAny_passesOwn hp (thn h4 fun _ s5 ⟨x,H5,I5,r5,y5,st5,fr5⟩=>?_)
  have I5':=I5.pinned (stat fr5) (T.obj _ _ st5)
  refine wpAny_passesOwn hp (thn (hg _ s5 σ3 H5 x u _ I5' r5 (step x H5 y5)) fun _ s6 ⟨σ6,H6,I6,q6⟩=>?_)
  refine wpAny_passesOwn hp (thn (hb _ s6 σ6 H6 _ I6 q6) fun f s7 q7=>?_)
  have again:∀ {σ7:St}{H7:Hp},Inv X (pins++pinsAt fp s5.heap) σ7 H7 s7→N σ7 H7→∃ m,m < n∧∃ i σ' H',Inv X pins σ' H' s7∧tn i s7.heap∧(∀ b∈fp,H' b=none)∧W i m σ' H':=fun {σ7 H7} I7 n7=>by
   obtain ⟨m',hm,w7⟩:=hN σ7 H7 n7
   refine ⟨m',hm,i + 1,σ7,H7,I7.unpinned,T.keep _ _ _ st5 fun b hb o e=>(I7.pin (b,o) (List.mem_append_right _ (List.mem_append_right _ (zaee hb e)))).1,fun b hb=>?_,w7⟩
   obtain ⟨o,e,d⟩:=T.obj _ _ st5 b hb
   exact (I7.pin (b,o) (List.mem_append_right _ (List.mem_append_right _ (zaee hb e)))).2.1
  cases f with
  | next=>obtain ⟨σ7,H7,I7,n7⟩:=q7; exact again I7 n7
  | cont=>obtain ⟨σ7,H7,I7,n7⟩:=q7; exact again I7 n7
  | brk=>obtain ⟨σ7,H7,I7,q7⟩:=q7; exact ⟨σ7,H7,I7.unpinned,q7⟩
  | ret v=>obtain ⟨x7,σ7,H7,I7,r7,q7⟩:=q7; exact ⟨x7,σ7,H7,I7.unpinned,r7,q7⟩
end
theorem zamc {K:PySem.W.Frag}{a:Addr}{xs:List V}{g:TG}{tb:TS}{D:Ends}{σ:St}{H:Hp} (Pv:Nat→St→Hp→Prop) (h0:Pv 0 σ H) (hl:∀ i σ H,i≤xs.length→Pv i σ H→SqL K H a xs)
  (hs:∀ i x σ H,xs[i]?=some x→Pv i σ H→g x σ H fun σ2 H2=>tb { D with nx:=Pv (i + 1),ct:=Pv (i + 1),bk:=D.nx } σ2 H2) (hd:∀ σ H,Pv xs.length σ H→D.nx σ H) :
  ∃ W:Nat→Nat→St→Hp→Prop,(∃ m,W 0 m σ H)∧∀ i m σ H,W i m σ H →
   ((Itl K a).stop i H∧D.nx σ H)∨((Itl K a).go i H∧∃ N:St→Hp→Prop,(∀ σ' H',N σ' H'→∃ m',m' < m∧W (i + 1) m' σ' H')∧∀ x H',(Itl K a).yld i H x H'→g x σ H' fun σ2 H2=>tb { D with nx:=N,ct:=N,bk:=D.nx } σ2 H2):=by
 refine ⟨fun i m σ H=>m=xs.length - i∧i≤xs.length∧Pv i σ H,⟨xs.length,by simp,Nat.zero_le _,h0⟩,?_⟩
 rintro i m σ H ⟨rfl,hi,p⟩
 have q:=hl i σ H hi p
 by_cases hlt:i < xs.length
 ·refine .inr ⟨⟨xs,xs[i],q,by simp [hlt]⟩,Pv (i + 1),fun σ' H' p'=>⟨xs.length - (i + 1),by omega,rfl,hlt,p'⟩,fun x H' y=>?_⟩
  obtain ⟨e,y⟩:=y
  subst e
  exact hs i x σ _ (y xs q) p
 ·have e:i=xs.length:=by omega
  subst e
  exact .inl ⟨⟨xs,q,Nat.le_refl _⟩,hd σ H p⟩
theorem zan8 {K:PySem.W.Frag}{a:Addr}{xs:List V}{g:TG}{tb:TS}{D:Ends}{σ:St}{H:Hp} (Pv:Nat→St→Hp→Prop) (h0:Pv 0 σ H) (hl:∀ i σ H,i≤xs.length→Pv i σ H→SqT K H a xs)
  (hs:∀ i x σ H,xs[i]?=some x→Pv i σ H→g x σ H fun σ2 H2=>tb { D with nx:=Pv (i + 1),ct:=Pv (i + 1),bk:=D.nx } σ2 H2) (hd:∀ σ H,Pv xs.length σ H→D.nx σ H) :
  ∃ W:Nat→Nat→St→Hp→Prop,(∃ m,W 0 m σ H)∧∀ i m σ H,W i m σ H →
   ((Itt K a).stop i H∧D.nx σ H)∨((Itt K a).go i H∧∃ N:St→Hp→Prop,(∀ σ' H',N σ' H'→∃ m',m' < m∧W (i + 1) m' σ' H')∧∀ x H',(Itt K a).yld i H x H'→g x σ H' fun σ2 H2=>tb { D with nx:=N,ct:=N,bk:=D.nx } σ2 H2):=by
 refine ⟨fun i m σ H=>m=xs.length - i∧i≤xs.length∧Pv i σ H,⟨xs.length,by simp,Nat.zero_le _,h0⟩,?_⟩
 rintro i m σ H ⟨rfl,hi,p⟩
 have q:=hl i σ H hi p
 by_cases hlt:i < xs.length
 ·refine .inr ⟨⟨xs,xs[i],q,by simp [hlt]⟩,Pv (i + 1),fun σ' H' p'=>⟨xs.length - (i + 1),by omega,rfl,hlt,p'⟩,fun x H' y=>?_⟩
  obtain ⟨e,y⟩:=y
  subst e
  exact hs i x σ _ (y xs q) p
 ·have e:i=xs.length:=by omega
  subst e
  exact .inl ⟨⟨xs,q,Nat.le_refl _⟩,hd σ H p⟩
theorem zaj4 {lo:Int}{n:Nat}{g:TG}{tb:TS}{D:Ends}{σ:St}{H:Hp} (Pv:Nat→St→Hp→Prop) (h0:Pv 0 σ H)
  (hs:∀ i σ H,i < n→Pv i σ H→g (.int (lo + i)) σ H fun σ2 H2=>tb { D with nx:=Pv (i + 1),ct:=Pv (i + 1),bk:=D.nx } σ2 H2) (hd:∀ σ H,Pv n σ H→D.nx σ H) :
  ∃ W:Nat→Nat→St→Hp→Prop,(∃ m,W 0 m σ H)∧∀ i m σ H,W i m σ H →
   ((Itr lo n).stop i H∧D.nx σ H)∨((Itr lo n).go i H∧∃ N:St→Hp→Prop,(∀ σ' H',N σ' H'→∃ m',m' < m∧W (i + 1) m' σ' H')∧∀ x H',(Itr lo n).yld i H x H'→g x σ H' fun σ2 H2=>tb { D with nx:=N,ct:=N,bk:=D.nx } σ2 H2):=by
 refine ⟨fun i m σ H=>m=n - i∧i≤n∧Pv i σ H,⟨n,by simp,Nat.zero_le _,h0⟩,?_⟩
 rintro i m σ H ⟨rfl,hi,p⟩
 by_cases hlt:i < n
 ·refine .inr ⟨hlt,Pv (i + 1),fun σ' H' p'=>⟨n - (i + 1),by omega,rfl,hlt,p'⟩,fun x H' y=>?_⟩
  obtain ⟨e,y⟩:=y
  subst e y
  exact hs i σ _ hlt p
 ·have e:i=n:=by omega
  subst e
  exact .inl ⟨Nat.le_refl _,hd σ H p⟩
abbrev R2:=V→V→Hp→VK→Prop
def OpR (X:Cx) (f:Value→Value→Sem Value) (r:R2):Prop :=
 ∀ (pins:List (Addr × Obj)) (s:Shared) (σ:St) (H:Hp) (x y:V) (v u:Value) (Q:VK),Inv X pins σ H s→RelV x v→RelV y u→r x y H Q →
  wpAny (model X.prog X.w) X.A (f v u) (EP X pins σ Q) X.xe s
def UnR (X:Cx) (f:Value→Sem Value) (r:V→Hp→VK→Prop):Prop :=
 ∀ (pins:List (Addr × Obj)) (s:Shared) (σ:St) (H:Hp) (x:V) (v:Value) (Q:VK),Inv X pins σ H s→RelV x v→r x H Q →
  wpAny (model X.prog X.w) X.A (f v) (EP X pins σ Q) X.xe s
def CallR (X:Cx) (f:Value) (r:List V→Hp→VK→Prop):Prop :=
 ∀ (pins:List (Addr × Obj)) (s:Shared) (σ:St) (H:Hp) (xs:List V) (us:List Value) (Q:VK),Inv X pins σ H s→Vals xs us→r xs H Q →
  wpAny (model X.prog X.w) X.A (call f us) (EP X pins σ Q) X.xe s
def tOp (r:R2) (ta tb:TE):TE:=fun σ H Q=>ta σ H fun x H1=>tb σ H1 fun y H2=>r x y H2 Q
def tUn (r:V→Hp→VK→Prop) (ta:TE):TE:=fun σ H Q=>ta σ H fun x H1=>r x H1 Q
def rI (C:Int→Int→Prop) (g:Int→Int→V):R2:=fun x y H Q=>∃ i j,x=.int i∧y=.int j∧C i j∧Q (g i j) H
def rI0 (g:Int→Int→V):R2:=fun x y H Q=>∃ i j,x=.int i∧y=.int j∧Q (g i j) H
def rU (g:Int→V):V→Hp→VK→Prop:=fun x H Q=>∃ i,x=.int i∧Q (g i) H
section
variable {X:Cx}{a b c:Expr}{ta tb tc:TE}{pos:Pos}
theorem binT (ha:PE X a ta) (hb:PE X b tb) {pins:List (Addr × Obj)}{s:Shared}{σ:St}{H:Hp}{R:V→V→Hp→Prop} (I:Inv X pins σ H s)
  (h:ta σ H fun x H1=>tb σ H1 fun y H2=>R x y H2) {Q:Value→Shared→Prop}{f:Value→Value→Sem Value}
  (hf:∀ v u s2 x y H2,Inv X pins σ H2 s2→RelV x v→RelV y u→R x y H2→wpAny (model X.prog X.w) X.A (f v u) Q X.xe s2) :
  wpAny (model X.prog X.w) X.A (eval a X.env) (fun v s₁=>wpAny (model X.prog X.w) X.A (eval b X.env) (fun u s₂=>wpAny (model X.prog X.w) X.A (f v u) Q X.xe s₂) X.xe s₁) X.xe s:=by
 refine thn (ha pins s σ H _ I h) fun v s1 ⟨x,H1,I1,r1,q1⟩=>?_
 refine thn (hb pins s1 σ H1 _ I1 q1) fun u s2 ⟨y,H2,I2,r2,q2⟩=>?_
 exact hf v u s2 x y H2 I2 r1 r2 q2
theorem zar7 {op:Operator}{r:R2} (ho:OpR X (binaryOp op) r) (ha:PE X a ta) (hb:PE X b tb):PE X (.BinOp a op b pos) (tOp r ta tb):=by
 intro pins s σ H Q I h
 exact wpAny_BinOp (binT ha hb I h fun v u s2 x y H2 I2 rx ry q=>ho pins s2 σ H2 x y v u Q I2 rx ry q)
theorem zar8 {op:UnaryOp}{r:V→Hp→VK→Prop} (ho:UnR X (unaryOp op) r) (ha:PE X a ta):PE X (.UnaryOp op a pos) (tUn r ta):=by
 intro pins s σ H Q I h
 exact UnaryOp_ (thn (ha pins s σ H _ I h) fun v s1 ⟨x,H1,I1,r1,q1⟩=>ho pins s1 σ H1 x v Q I1 r1 q1)
theorem opI {f:Value→Value→Sem Value}{C:Int→Int→Prop}{g:Int→Int→Int}
  (rule:∀ (i j:Int) (t u:Tok) (s:Shared) (Q:Value→Shared→Prop) (E:Value→Shared→Prop),C i j→Q (.int (g i j) s.toks) { s with toks:=s.toks + 1 }→wpAny (model X.prog X.w) X.A (f (.int i t) (.int j u)) Q E s) :
  OpR X f (rI C fun i j=>.int (g i j)):=by
 intro pins s σ H x y v u Q I rx ry h
 obtain ⟨i,j,rfl,rfl,hc,q⟩:=h
 obtain ⟨t,rfl⟩:=rx
 obtain ⟨t',rfl⟩:=ry
 exact rule i j t t' s _ _ hc ⟨.int (g i j),H,I.tok _,⟨_,rfl⟩,q⟩
theorem opI0 {f:Value→Value→Sem Value}{g:Int→Int→Int}
  (rule:∀ (i j:Int) (t u:Tok) (s:Shared) (Q:Value→Shared→Prop) (E:Value→Shared→Prop),Q (.int (g i j) s.toks) { s with toks:=s.toks + 1 }→wpAny (model X.prog X.w) X.A (f (.int i t) (.int j u)) Q E s) :
  OpR X f (rI0 fun i j=>.int (g i j)):=by
 intro pins s σ H x y v u Q I rx ry h
 obtain ⟨i,j,rfl,rfl,q⟩:=h
 obtain ⟨t,rfl⟩:=rx
 obtain ⟨t',rfl⟩:=ry
 exact rule i j t t' s _ _ ⟨.int (g i j),H,I.tok _,⟨_,rfl⟩,q⟩
theorem opB0 {f:Value→Value→Sem Value}{g:Int→Int→Bool}
  (rule:∀ (i j:Int) (t u:Tok) (s:Shared) (Q:Value→Shared→Prop) (E:Value→Shared→Prop),Q (.bool (g i j)) s→wpAny (model X.prog X.w) X.A (f (.int i t) (.int j u)) Q E s) :
  OpR X f (rI0 fun i j=>.bl (g i j)):=by
 intro pins s σ H x y v u Q I rx ry h
 obtain ⟨i,j,rfl,rfl,q⟩:=h
 obtain ⟨t,rfl⟩:=rx
 obtain ⟨t',rfl⟩:=ry
 exact rule i j t t' s _ _ ⟨.bl (g i j),H,I,rfl,q⟩
def CPow (i j:Int):Prop:=0≤j∧j≤1000000∧i.natAbs < 2 ^ 64
def CMul (i j:Int):Prop:=(-(2 ^ 64) < i∧i < 2 ^ 64)∨(-(2 ^ 64) < j∧j < 2 ^ 64)
theorem CMul.ok {i j:Int} (h:CMul i j):IntMulOk i j:=by
 rcases h with ⟨h1,h2⟩ | ⟨h1,h2⟩
 ·exact .of_left (intBits_le_64 h1 h2)
 ·exact .of_right (intBits_le_64 h1 h2)
theorem zacx:OpR X (binaryOp .Add) (rI0 fun i j=>.int (i + j)):=opI0 fun _ _ _ _ _ _ _ q=>add_int q
theorem zag0:OpR X (binaryOp .Sub) (rI0 fun i j=>.int (i - j)):=opI0 fun _ _ _ _ _ _ _ q=>sub_int q
theorem zafx:OpR X (binaryOp .Mult) (rI CMul fun i j=>.int (i * j)):=opI fun _ _ _ _ _ _ _ hc q=>mul_int q hc.ok
theorem zabn:OpR X (binaryOp .Mod) (rI (fun _ j=>0 < j) fun i j=>.int (i % j)):=opI fun i j _ _ _ _ _ hc q=>by
 have h1:(0:Int) < j:=hc
 exact mod_int' (by omega) (by rw [Int.fmod_eq_emod_of_nonneg i (by omega)]; exact q)
theorem zaql:OpR X (binaryOp .Pow) (rI CPow fun i j=>.int (i ^ j.toNat)):=opI fun _ _ _ _ _ _ _ hc q=>pow_int_small hc.1 hc.2.1 hc.2.2 q
theorem unI {f:Value→Sem Value}{g:Int→Int}
  (rule:∀ (i:Int) (t:Tok) (s:Shared) (Q:Value→Shared→Prop) (E:Value→Shared→Prop),Q (.int (g i) s.toks) { s with toks:=s.toks + 1 }→wpAny (model X.prog X.w) X.A (f (.int i t)) Q E s) :
  UnR X f (rU fun i=>.int (g i)):=by
 intro pins s σ H x v Q I rx h
 obtain ⟨i,rfl,q⟩:=h
 obtain ⟨t,rfl⟩:=rx
 exact rule i t s _ _ ⟨.int (g i),H,I.tok _,⟨_,rfl⟩,q⟩
theorem zanc:UnR X (unaryOp .USub) (rU fun i=>.int (-i)):=unI fun _ _ _ _ _ q=>neg_int q
end
def scal:V→V→Bool
 | .non,.non=>true | .non,.int _=>true | .int _,.non=>true | .non,.bl _=>true | .bl _,.non=>true | .non,.str _=>true | .str _,.non=>true
 | .int _,.int _=>true | .bl _,.bl _=>true | .str _,.str _=>true | .byt _,.byt _=>true
 | .int _,.str _=>true | .str _,.int _=>true | .bl _,.str _=>true | .str _,.bl _=>true
 | _,_=>false
def rEq:R2:=fun x y H Q=>scal x y=true∧Q (.bl (decide (x=y))) H
def rNe:R2:=fun x y H Q=>scal x y=true∧Q (.bl (!decide (x=y))) H
theorem zaj5 {i j:Int}:decide (V.int i=V.int j)=(i == j):=by
 rw [Bool.eq_iff_iff]
 simp
theorem zand {i j:Bool}:decide (V.bl i=V.bl j)=(i == j):=by
 rw [Bool.eq_iff_iff]
 simp
theorem zaj6 {i j:Str}:decide (V.str i=V.str j)=(i == j):=by
 rw [Bool.eq_iff_iff]
 simp
theorem zaj7 {i j:Array UInt8}:decide (V.byt i=V.byt j)=(i.toList == j.toList):=by
 rw [Bool.eq_iff_iff]
 cases i
 cases j
 simp
section
variable {X:Cx}{a b c:Expr}{ta tb tc:TE}{pos:Pos}
theorem zab1 {pins:List (Addr × Obj)}{σ:St}{H:Hp}{s:Shared}{Q:VK}{k k':Bool} (I:Inv X pins σ H s) (q:Q (.bl k) H) (e:k=k'):EP X pins σ Q (.bool k') s:=by
 subst e
 exact ⟨.bl k,H,I,rfl,q⟩
theorem zaa3:OpR X (compareOp .Eq) rEq:=by
 intro pins s σ H x y v u Q I rx ry h
 obtain ⟨hs,q⟩:=h
 cases x with
 | non =>
  cases rx
  cases y with
  | non=>cases ry; exact PySem.EqNone.eq_none_none (zab1 I q (by simp))
  | bl j=>cases ry; exact PySem.EqNone.eq_none_bool (zab1 I q (by simp))
  | int j=>obtain ⟨t',rfl⟩:=ry; exact PySem.EqNone.eq_none_int (zab1 I q (by simp))
  | str j=>obtain ⟨t',rfl⟩:=ry; exact PySem.EqNone.eq_none_str (zab1 I q (by simp))
  | _=>exact absurd (show false=true from hs) Bool.false_ne_true
 | bl i =>
  cases rx
  cases y with
  | non=>cases ry; exact PySem.EqNone.eq_bool_none (zab1 I q (by simp))
  | bl j=>cases ry; exact eq_bool (zab1 I q zand)
  | str j=>obtain ⟨t',rfl⟩:=ry; exact PySem.EqMixed.eq_bool_str (zab1 I q (by simp))
  | _=>exact absurd (show false=true from hs) Bool.false_ne_true
 | int i =>
  obtain ⟨t,rfl⟩:=rx
  cases y with
  | non=>cases ry; exact PySem.EqNone.eq_int_none (zab1 I q (by simp))
  | int j=>obtain ⟨t',rfl⟩:=ry; exact eq_int (zab1 I q zaj5)
  | str j=>obtain ⟨t',rfl⟩:=ry; exact PySem.EqMixed.eq_int_str (zab1 I q (by simp))
  | _=>exact absurd (show false=true from hs) Bool.false_ne_true
 | str i =>
  obtain ⟨t,rfl⟩:=rx
  cases y with
  | non=>cases ry; exact PySem.EqNone.eq_str_none (zab1 I q (by simp))
  | bl j=>cases ry; exact PySem.EqMixed.eq_str_bool (zab1 I q (by simp))
  | int j=>obtain ⟨t',rfl⟩:=ry; exact PySem.EqMixed.eq_str_int (zab1 I q (by simp))
  | str j=>obtain ⟨t',rfl⟩:=ry; exact eq_str (zab1 I q zaj6)
  | _=>exact absurd (show false=true from hs) Bool.false_ne_true
 | byt i =>
  obtain ⟨t,rfl⟩:=rx
  cases y with
  | byt j=>obtain ⟨t',rfl⟩:=ry; exact PySem.W.eq_bytes (zab1 I q zaj7)
  | _=>exact absurd (show false=true from hs) Bool.false_ne_true
 | _=>cases y <;> exact absurd (show false=true from hs) Bool.false_ne_true
theorem zaem:OpR X (compareOp .NotEq) rNe:=by
 intro pins s σ H x y v u Q I rx ry h
 obtain ⟨hs,q⟩:=h
 cases x with
 | non =>
  cases rx
  cases y with
  | non=>cases ry; exact PySem.EqNone.ne_none_none (zab1 I q (by simp))
  | bl j=>cases ry; exact PySem.EqNone.ne_none_bool (zab1 I q (by simp))
  | int j=>obtain ⟨t',rfl⟩:=ry; exact PySem.EqNone.ne_none_int (zab1 I q (by simp))
  | str j=>obtain ⟨t',rfl⟩:=ry; exact PySem.EqNone.ne_none_str (zab1 I q (by simp))
  | _=>exact absurd (show false=true from hs) Bool.false_ne_true
 | bl i =>
  cases rx
  cases y with
  | non=>cases ry; exact PySem.EqNone.ne_bool_none (zab1 I q (by simp))
  | bl j=>cases ry; exact ne_bool (zab1 I q (congrArg not zand))
  | str j=>obtain ⟨t',rfl⟩:=ry; exact PySem.EqMixed.ne_bool_str (zab1 I q (by simp))
  | _=>exact absurd (show false=true from hs) Bool.false_ne_true
 | int i =>
  obtain ⟨t,rfl⟩:=rx
  cases y with
  | non=>cases ry; exact PySem.EqNone.ne_int_none (zab1 I q (by simp))
  | int j=>obtain ⟨t',rfl⟩:=ry; exact ne_int (zab1 I q (congrArg not zaj5))
  | str j=>obtain ⟨t',rfl⟩:=ry; exact PySem.EqMixed.ne_int_str (zab1 I q (by simp))
  | _=>exact absurd (show false=true from hs) Bool.false_ne_true
 | str i =>
  obtain ⟨t,rfl⟩:=rx
  cases y with
  | non=>cases ry; exact PySem.EqNone.ne_str_none (zab1 I q (by simp))
  | bl j=>cases ry; exact PySem.EqMixed.ne_str_bool (zab1 I q (by simp))
  | int j=>obtain ⟨t',rfl⟩:=ry; exact PySem.EqMixed.ne_str_int (zab1 I q (by simp))
  | str j=>obtain ⟨t',rfl⟩:=ry; exact ne_str (zab1 I q (congrArg not zaj6))
  | _=>exact absurd (show false=true from hs) Bool.false_ne_true
 | byt i =>
  obtain ⟨t,rfl⟩:=rx
  cases y with
  | byt j=>obtain ⟨t',rfl⟩:=ry; exact PySem.W.ne_bytes (zab1 I q (congrArg not zaj7))
  | _=>exact absurd (show false=true from hs) Bool.false_ne_true
 | _=>cases y <;> exact absurd (show false=true from hs) Bool.false_ne_true
theorem zajf:OpR X (compareOp .Lt) (rI0 fun i j=>.bl (decide (i < j))):=opB0 fun _ _ _ _ _ _ _ q=>lt_int q
theorem zan9:OpR X (compareOp .LtE) (rI0 fun i j=>.bl (decide (i≤j))):=opB0 fun _ _ _ _ _ _ _ q=>le_int q
theorem zaoa:OpR X (compareOp .Gt) (rI0 fun i j=>.bl (decide (j < i))):=opB0 fun _ _ _ _ _ _ _ q=>gt_int q
theorem zaen:OpR X (compareOp .Is) (fun x y H Q=>y=.non∧Q (.bl (decide (x=.non))) H):=by
 intro pins s σ H x y v u Q I rx ry h
 obtain ⟨rfl,q⟩:=h
 cases ry
 refine is_none_gen (zab1 I q ?_)
 cases x <;> first
  | (cases rx; rfl)
  | (obtain ⟨t,rfl⟩:=rx; rfl)
theorem zaj8:OpR X (compareOp .IsNot) (fun x y H Q=>y=.non∧Q (.bl (!decide (x=.non))) H):=by
 intro pins s σ H x y v u Q I rx ry h
 obtain ⟨rfl,q⟩:=h
 cases ry
 refine isnot_none_gen (zab1 I q ?_)
 cases x <;> first
  | (cases rx; rfl)
  | (obtain ⟨t,rfl⟩:=rx; rfl)
theorem nomark (b:Expr) {op:CmpOp} (h:op≠.In:=by decide) (h2:op≠.NotIn:=by decide):behindInMarks op b=false:=by
 have e1:(op == CmpOp.In)=false:=by cases op <;> first | rfl | exact absurd rfl h
 have e2:(op == CmpOp.NotIn)=false:=by cases op <;> first | rfl | exact absurd rfl h2
 cases b <;> simp [behindInMarks,e1,e2]
theorem zaob {op:CmpOp}{r:R2} (ho:OpR X (compareOp op) r) (ha:PE X a ta) (hb:PE X b tb) (hm:behindInMarks op b=false):PE X (.Compare a [op] [b] pos) (tOp r ta tb):=by
 intro pins s σ H Q I h
 exact wpAny_Compare1 (binT ha hb I h fun v u s2 x y H2 I2 rx ry q=>ho pins s2 σ H2 x y v u Q I2 rx ry q) hm
def tTest (t:TE):TT:=fun σ H Q=>t σ H fun x H'=>∃ k,x=.bl k∧Q k H'
theorem zaoc {op:CmpOp}{r:R2} (ho:OpR X (compareOp op) r) (ha:PE X a ta) (hb:PE X b tb) (hm:behindInMarks op b=false):PT X (.Compare a [op] [b] pos) (tTest (tOp r ta tb)):=by
 intro pins s σ H Q I h
 refine wpAny_isTrue_Compare1 (thn (ha pins s σ H _ I h) fun v s1 ⟨x,H1,I1,r1,q1⟩=>thn (hb pins s1 σ H1 _ I1 q1) fun u s2 ⟨y,H2,I2,r2,q2⟩ =>
  thn (ho pins s2 σ H2 x y v u _ I2 r1 r2 q2) fun c s3 ⟨z,H3,I3,r3,k,e,q3⟩=>?_) hm
 subst e
 cases r3
 exact wpAny_truthy_bool ⟨H3,I3,q3⟩
def tChain (r r':R2) (ta tb tc:TE):TE:=fun σ H Q=>ta σ H fun x H1=>tb σ H1 fun y H2=>r x y H2 fun z H3=>∃ k,z=.bl k ∧
 (if k=true then tc σ H3 fun w' H4=>r' y w' H4 Q else Q (.bl false) H3)
theorem zamd {op op':CmpOp}{r r':R2} (ho:OpR X (compareOp op) r) (ho':OpR X (compareOp op') r') (ha:PE X a ta) (hb:PE X b tb) (hc:PE X c tc)
  (hm:lastMarks [op,op'] [b,c]=false:=by with_unfolding_all rfl):PE X (.Compare a [op,op'] [b,c] pos) (tChain r r' ta tb tc):=by
 intro pins s σ H Q I h
 refine Compare_chain (thn (ha pins s σ H _ I h) fun v s1 ⟨x,H1,I1,r1,q1⟩=>chain_link (thn (hb pins s1 σ H1 _ I1 q1) fun u s2 ⟨y,H2,I2,r2,q2⟩ =>
  thn (ho pins s2 σ H2 x y v u _ I2 r1 r2 q2) fun d s3 ⟨z,H3,I3,r3,k,e,q3⟩=>?_)) hm
 subst e
 cases r3
 refine wpAny_truthy_bool ?_
 cases k with
 | false=>exact ite_ff ⟨.bl false,H3,I3,rfl,q3⟩
 | true=>exact ite_tt (chain_last (thn (hc pins s3 σ H3 _ I3 q3) fun w' s4 ⟨z',H4,I4,r4,q4⟩=>ho' pins s4 σ H4 y z' u w' Q I4 r2 r4 q4))
theorem line63:(sizeLine:Nat) < 2 ^ 63:=by rw [sizeLine_eq]; decide
theorem vals1 {x:V}{us:List Value} (r:Vals [x] us):∃ u,us=[u]∧RelV x u:=by
 cases r with
 | cons r1 r2=>cases r2; exact ⟨_,rfl,r1⟩
theorem vals2 {x y:V}{us:List Value} (r:Vals [x,y] us):∃ u w',us=[u,w']∧RelV x u∧RelV y w':=by
 cases r with
 | cons r1 r2 =>
  cases r2 with
  | cons r3 r4=>cases r4; exact ⟨_,_,rfl,r1,r3⟩
theorem zaj9 (hc:X.calm=true):CallR X (.builtin "max") (fun xs H Q=>∃ i j,xs=[.int i,.int j]∧Q (.int (if j > i then j else i)) H):=by
 intro pins s σ H xs us Q I r h
 obtain ⟨i,j,rfl,q⟩:=h
 obtain ⟨u,w',rfl,⟨t,rfl⟩,⟨t',rfl⟩⟩:=vals2 r
 refine max_two_ints (I.ok.hd hc) fun h' tk k=>⟨_,H,I.kept k,?_,q⟩
 by_cases hj:j > i
 ·rw [if_pos hj,if_pos hj]; exact ⟨_,rfl⟩
 ·rw [if_neg hj,if_neg hj]; exact ⟨_,rfl⟩
theorem zag1 (hc:X.calm=true):CallR X (.builtin "min") (fun xs H Q=>∃ i j,xs=[.int i,.int j]∧Q (.int (if j < i then j else i)) H):=by
 intro pins s σ H xs us Q I r h
 obtain ⟨i,j,rfl,q⟩:=h
 obtain ⟨u,w',rfl,⟨t,rfl⟩,⟨t',rfl⟩⟩:=vals2 r
 refine min_two_ints (I.ok.hd hc) fun h' tk k=>⟨_,H,I.kept k,?_,q⟩
 by_cases hj:j < i
 ·rw [if_pos hj,if_pos hj]; exact ⟨_,rfl⟩
 ·rw [if_neg hj,if_neg hj]; exact ⟨_,rfl⟩
end
structure ObjM (h:Heap) (x dx C:Addr) (mA:Str→Option Value):Prop where
 obj:h.get? x=some (PySem.W.instObj C dx)
 ns:h.Ns1 dx mA
 ne:dx≠x
theorem zaka {h:Heap}{dx:Addr}{mA:Str→Option Value} (n:h.Ns1 dx mA):∃ od,h.get? dx=some od∧∀ name,PySem.W.lookIn name od=some (mA name):=by
 obtain ⟨o,es,ep,ho,hd,hk,_,hm⟩:=n
 refine ⟨o,ho,fun name=>?_⟩
 have e:=hm name
 unfold nsFind findBy at e
 rw [← Array.find?_toList] at e
 unfold PySem.W.lookIn
 rw [hd]
 dsimp only
 split
 ·rename_i y q
  rw [q] at e
  exact congrArg some e
 ·rename_i q
  rw [q] at e
  have a:es.toList.any (·.refKey)=false:=by
   rw [List.any_eq_false]
   intro y hy
   obtain ⟨z,t,hkey⟩:=hk y (Array.mem_toList_iff.mp hy)
   simp [DictEntry.refKey,hkey]
  have a':¬ es.toList.any (·.refKey)=true:=by rw [a]; exact Bool.false_ne_true
  rw [if_neg a']
  exact congrArg some e
theorem ObjM.look {h:Heap}{x dx C:Addr}{mA:Str→Option Value} (I:ObjM h x dx C mA):∃ od,PySem.W.InstAt h x (PySem.W.instObj C dx) C (some od)∧∀ name,PySem.W.lookIn name od=some (mA name) :=
 let ⟨od,ho,hl⟩:=zaka I.ns
 ⟨od,⟨I.obj,rfl,rfl,ho⟩,hl⟩
section
variable {prog:Program}{w:World}{A:Around}{E:Value→Shared→Prop}{s:Shared}{K:PySem.W.Frag}{x dx C f:Addr}{mA:Str→Option Value}{name:Str}{v:Value}
theorem zaod {expr:Bool}{Q:Value→Shared→Prop} (X:K.In s.heap) (I:ObjM s.heap x dx C mA) (hg:PySem.W.plainGet K C name=true) (hh:PySem.W.hasDictIn K C=true)
  (ha:PySem.W.findIn K (.ref C) name=some none) (hv:mA name=some v) (hv':PySem.W.handedIn v=true) (h:Q v { s with toks:=s.toks + 1 }) :
  wpAny (model prog w) A (getAttr (.ref x) name expr) Q E s:=by
 obtain ⟨od,J,hl⟩:=I.look
 exact PySem.W.get_value X J (PySem.W.plainGet_of hg).1 (PySem.W.findObj_own hh ha rfl (by rw [hl,hv])) hv' h
theorem zaoe {ns:List Str}{Q:Unit→Shared→Prop} (X:K.In s.heap) (I:ObjM s.heap x dx C mA)
  (hs:PySem.W.findIn K (.ref C) "__setattr__" = some (some (.builtin "object.__setattr__"))) (hp:PySem.W.plainOver K C=true) (ht:PySem.W.takerIn K C name=some none) (hh:PySem.W.hasDictIn K C=true)
  (hw:PySem.Within mA ns) (hsz:ns.length≤sizeLine)
  (h:∀ h',ObjM h' x dx C (fun y=>if y=name then some v else mA y)→Heap.SameBut dx s.heap h'→Q () { s with heap:=h',toks:=s.toks + 2 }) :
  wpAny (model prog w) A (setAttr (.ref x) name v) Q E s:=by
 obtain ⟨od,J,hl⟩:=I.look
 refine PySem.W.set_plain X J hs (PySem.W.osa_open (s:={ s with toks:=s.toks + 1 }) (r:=none) X J hp ht fun b=>?_)
 obtain ⟨cd,hc,hd'⟩:=PySem.W.any_some hh
 have hx:s.heap.get? x=some ⟨.ref C,some dx,.plain,#[]⟩:=I.obj
 refine wpAny_bind (wpAny_pure (wpAny_bind (wpAny_bind (wpAny_loadPart hx (wpAny_bind (PySem.W.Looks.here (s:={ s with toks:=s.toks + 1 }) (PySem.W.looks_clsIn X hc) ?_))))))
 rw [hd']
 refine wpAny_pure (a:=some dx) (wpAny_bind (wpAny_pure (wpAny_bind ?_)))
 refine wpAny_nsSet1 (s:={ s with toks:=s.toks + 1 }) I.ns fun h' hn2 hs2=>?_
 obtain ⟨oD,esD,epD,hoD,hdD,hcD⟩:=hn2.count (PySem.Within.cons name v hw)
 refine wpAny_bind (wpAny_lookBehind hoD (by rw [hdD]; exact pastItsLine_dict (Nat.le_trans hcD (by rw [List.length_cons]; omega))) ?_)
 exact wpAny_pure (h _ ⟨(hs2.2 _ (Ne.symm I.ne)).trans I.obj,hn2,I.ne⟩ hs2)
theorem zame {R:Result→Shared→Prop}{vs:List Value}{kw:List (Str × Value)} (X:K.In s.heap) (hm:PySem.W.makesIn K C=true)
  (hi:PySem.W.findIn K (.ref C) "__init__" = some (some (.ref f))) (hf:PySem.W.typeIn K (.ref f)=some (.type "function"))
  (h:codeAny (model prog w) (A.under (.builtin "type.__call__" ⟨.ref C :: vs,kw⟩)) (.call (.ref f) ⟨.ref (s.heap.objs.size + 1) :: vs,kw⟩) (PySem.W.InitBack (s.heap.objs.size + 1) R)
   { s with heap:=(s.heap.push PySem.W.emptyDict).push (PySem.W.instObj C s.heap.objs.size) }) :
  codeAny (model prog w) A (.call (.ref C) ⟨vs,kw⟩) R s:=by
 obtain ⟨hh,g,d,t,os⟩:=s
 exact PySem.W.make_core (PySem.W.makes_of X hm) (PySem.W.looks_findIn X hi) (fun self=>PySem.W.bind_fn X self hf) (.inl rfl) h
end
def putF (f:Str) (v:V):List (Str × V)→List (Str × V)
 | []=>[(f,v)]
 | (g,x) :: r=>if g=f then (g,v) :: r else (g,x) :: putF f v r
theorem zafk (f g:Str) (v:V):∀ fs:List (Str × V),(putF f v fs).lookup g=if g=f then some v else fs.lookup g
 | []=>by
  show List.lookup g [(f,v)]=_
  by_cases h:g=f
  ·have hb:(g == f)=true:=beq_iff_eq.mpr h
   simp only [List.lookup,hb,if_pos h]
  ·have hb:(g == f)=false:=beq_eq_false_iff_ne.mpr h
   simp only [List.lookup,hb,if_neg h]
 | (k,x) :: r=>by
  have ih:=zafk f g v r
  rw [show putF f v ((k,x) :: r)=(if k=f then (k,v) :: r else (k,x) :: putF f v r) from rfl]
  by_cases hk:k=f
  ·rw [if_pos hk]
   by_cases h:g=k
   ·have hb:(g == k)=true:=beq_iff_eq.mpr h
    simp only [List.lookup,hb,if_pos (h.trans hk)]
   ·have hb:(g == k)=false:=beq_eq_false_iff_ne.mpr h
    simp only [List.lookup,hb,if_neg (fun e:g=f=>h (e.trans hk.symm))]
  ·rw [if_neg hk]
   by_cases h:g=k
   ·have hb:(g == k)=true:=beq_iff_eq.mpr h
    simp only [List.lookup,hb,if_neg (fun e:g=f=>hk (h.symm.trans e))]
   ·have hb:(g == k)=false:=beq_eq_false_iff_ne.mpr h
    simp only [List.lookup,hb]
    exact ih
theorem zafl (f:Str) (v:V):∀ fs:List (Str × V),f∈(putF f v fs).map (·.1)∧∀ g,g∈fs.map (·.1)→g∈(putF f v fs).map (·.1)
 | []=>⟨by simp [putF],fun g h=>by simp at h⟩
 | (k,x) :: r=>by
  obtain ⟨i1,i2⟩:=zafl f v r
  rw [show putF f v ((k,x) :: r)=(if k=f then (k,v) :: r else (k,x) :: putF f v r) from rfl]
  by_cases hk:k=f
  ·rw [if_pos hk]
   subst hk
   exact ⟨by simp,fun g h=>by simpa using h⟩
  ·rw [if_neg hk]
   refine ⟨?_,fun g h=>?_⟩
   ·rw [List.map_cons]
    exact List.mem_cons_of_mem _ i1
   ·rw [List.map_cons] at h ⊢
    rcases List.mem_cons.mp h with e | e
    ·exact List.mem_cons.mpr (.inl e)
    ·exact List.mem_cons_of_mem _ (i2 g e)
theorem zafm (f:Str) (v:V):∀ fs:List (Str × V),(putF f v fs).length≤fs.length + 1
 | []=>by simp [putF]
 | (k,x) :: r=>by
  have ih:=zafm f v r
  rw [show putF f v ((k,x) :: r)=(if k=f then (k,v) :: r else (k,x) :: putF f v r) from rfl]
  by_cases hk:k=f
  ·rw [if_pos hk,List.length_cons,List.length_cons]; omega
  ·rw [if_neg hk,List.length_cons,List.length_cons]; omega
theorem RelO.some_of {v:V}{o:Option Value} (r:RelO (some v) o):∃ u,o=some u∧RelV v u:=by
 cases o with
 | none=>exact (show False from r).elim
 | some u=>exact ⟨u,rfl,r⟩
theorem zakb {v:V}{u:Value} (r:RelV v u):PySem.W.handedIn u=true:=by
 cases v with
 | non=>cases (show u=Value.none from r); rfl
 | bl b=>cases (show u=Value.bool b from r); rfl
 | int i=>obtain ⟨t,e⟩:=(show ∃ t,u=Value.int i t from r); cases e; rfl
 | str x=>obtain ⟨t,e⟩:=(show ∃ t,u=Value.str x t from r); cases e; rfl
 | byt b=>obtain ⟨t,e⟩:=(show ∃ t,u=Value.bytes b t from r); cases e; rfl
 | flt b=>obtain ⟨t,e⟩:=(show ∃ t,u=Value.float b t from r); cases e; rfl
 | ref a=>cases (show u=Value.ref a from r); rfl
 | ty n=>cases (show u=Value.type n from r); rfl
section
variable {P:Program}{w:World}{H H':Hp}{h h':Heap}{a C dx:Addr}{fs fs':List (Str × V)}
theorem zaf7 (hok:HOk P w H h) (e:H a=some (.ins C dx fs)):∃ mA,ObjM h a dx C mA∧(∀ f,RelO (fs.lookup f) (mA f))∧PySem.Within mA (fs.map (·.1))∧fs.length≤1000∧H dx=some (.own a):=by
 obtain ⟨d,z,ne,ob,mA,n,r,q⟩:=(show ObjOk P w H h a (.ins C dx fs) from hok a _ e)
 exact ⟨mA,⟨ob,n,ne⟩,r,q,z,d⟩
end
structure Cls (K:PySem.W.Frag) (C:Addr):Prop where
 pg:PySem.W.plainGet K C Str.empty=true
 hd:PySem.W.hasDictIn K C=true
 po:PySem.W.plainOver K C=true
 sa:PySem.W.findIn K (.ref C) "__setattr__" = some (some (.builtin "object.__setattr__"))
theorem Cls.get {K:PySem.W.Frag}{C:Addr} (c:Cls K C) (f:Str):PySem.W.plainGet K C f=true:=c.pg
def NoAttr (K:PySem.W.Frag) (C:Addr) (f:Str):Prop:=PySem.W.findIn K (.ref C) f=some none
theorem NoAttr.taker {K:PySem.W.Frag}{C:Addr}{f:Str} (n:NoAttr K C f):PySem.W.takerIn K C f=some none:=by
 unfold PySem.W.takerIn
 rw [show PySem.W.findIn K (.ref C) f=some none from n]
 rfl
section
variable {X:Cx}{pins:List (Addr × Obj)}{σ:St}{H:Hp}{s:Shared}{a C dx:Addr}{fs:List (Str × V)}{f:Str}{v:V}{A:Around}{E:Value→Shared→Prop}
theorem zajg {b:Bool}{Q:Value→Shared→Prop} (I:Inv X pins σ H s) (e:H a=some (.ins C dx fs)) (c:Cls X.K C) (n:NoAttr X.K C f) (l:fs.lookup f=some v)
  (h:∀ u s',Inv X pins σ H s'→RelV v u→Q u s'):wpAny (model X.prog X.w) A (getAttr (.ref a) f b) Q E s:=by
 obtain ⟨mA,O,r,_,_,_⟩:=zaf7 I.hok e
 obtain ⟨u,hu,ru⟩:=RelO.some_of (v:=v) (o:=mA f) (by rw [← l]; exact r f)
 exact zaod I.kIn O (c.get f) c.hd n hu (zakb ru) (h u _ (I.tok _) ru)
theorem zajh {y:V}{u:Value}{Q:Unit→Shared→Prop} (I:Inv X pins σ H s) (e:H a=some (.ins C dx fs)) (c:Cls X.K C) (n:NoAttr X.K C f) (hl:fs.length < 1000) (ry:RelV y u)
  (h:∀ s',Inv X pins σ (upd H a (.ins C dx (putF f y fs))) s'→Q () s'):wpAny (model X.prog X.w) A (setAttr (.ref a) f u) Q E s:=by
 obtain ⟨mA,O,r,wi,_,ho⟩:=zaf7 I.hok e
 have hz:(fs.map (·.1)).length≤sizeLine:=by rw [List.length_map,sizeLine_eq]; omega
 refine zaoe I.kIn O c.sa c.po n.taker c.hd wi hz fun h' O' sb=>h _ ?_
 have hd:∃ o,h'.get? dx=some o:=let ⟨o,_,_,e',_⟩:=O'.ns; ⟨o,e'⟩
 refine I.write (x:=a) (e:=dx) (by rw [e]; exact True.intro) (.inr ho) (fun b q hb z=>(sb.2 b hb).trans z) hd ?_
 refine ⟨by rw [zabs O.ne]; exact ho,?_,O.ne,O'.obj,_,O'.ns,fun g=>?_,fun g hg=>?_⟩
 ·have:=zafm f y fs; omega
 ·show RelO ((putF f y fs).lookup g) (if g=f then some u else mA g)
  rw [zafk]
  by_cases q:g=f
  ·rw [if_pos q,if_pos q]; exact ry
  ·rw [if_neg q,if_neg q]; exact r g
 ·by_cases q:g=f
  ·rw [q]; exact (zafl f y fs).1
  ·refine (zafl f y fs).2 g (wi g fun z=>hg ?_)
   show (if g=f then some u else mA g)=none
   rw [if_neg q]; exact z
theorem Inv.made (I:Inv X pins σ H s):Inv X pins σ (upd (upd H s.heap.objs.size (.own (s.heap.objs.size + 1))) (s.heap.objs.size + 1) (.ins C s.heap.objs.size []))
  { s with heap:=(s.heap.push PySem.W.emptyDict).push (PySem.W.instObj C s.heap.objs.size) }:=by
 have e1:(s.heap.push PySem.W.emptyDict).get? s.heap.objs.size=some PySem.W.emptyDict:=Heap.get?_push_size s.heap rfl
 have e2:((s.heap.push PySem.W.emptyDict).push (PySem.W.instObj C s.heap.objs.size)).get? (s.heap.objs.size + 1)=some (PySem.W.instObj C s.heap.objs.size):=by
  have:=Heap.get?_push_size (s.heap.push PySem.W.emptyDict) (o:=PySem.W.instObj C s.heap.objs.size) rfl
  rwa [Heap.size_push] at this
 have e3:(s.heap.push PySem.W.emptyDict).Ns s.heap.objs.size (fun _=>none):=⟨PySem.W.emptyDict,#[],_,e1,rfl,(fun e he=>absurd he (by simp)),fun _=>rfl⟩
 have I1:=I.laid (a:=s.heap.objs.size) (o:=.own (s.heap.objs.size + 1)) (h':=s.heap.push PySem.W.emptyDict) (t':=s.toks) (fun b u q=>Heap.get?_push_of_some _ q) (Nat.le_refl _) ⟨_,e1⟩
 refine I1.laid (a:=s.heap.objs.size + 1) (o:=.ins C s.heap.objs.size []) (t':=s.toks) (fun b u q=>Heap.get?_push_of_some _ q) (Nat.le_of_eq (Heap.size_push _ _)) ?_
 have ne:s.heap.objs.size≠s.heap.objs.size + 1:=Nat.ne_of_lt (Nat.lt_succ_self _)
 refine ⟨by rw [zabs ne,zaai],Nat.zero_le _,ne,e2,fun _=>none,(Heap.Ns1.of_empty e3).at fun o q=>Heap.get?_push_of_some _ q,fun _=>True.intro,fun y hy=>absurd rfl hy⟩
theorem zaof {prog:Program}{w:World}{env:Env}{e:Expr}{f:Str}{pos:Pos}{s:Shared}{Q:Value→Shared→Prop} (hb:attributeBase e f env (eval e env)=eval e env)
  (h:wpAny (model prog w) A (eval e env) (fun o s₁=>wpAny (model prog w) A (getAttr o f true) Q E s₁) E s):wpAny (model prog w) A (eval (.Attribute e f pos) env) Q E s :=
 Attribute_any_ h (by rw [arm_eval_Attribute,hb])
end
def tFld (K:PySem.W.Frag) (ta:TE) (f:Str):TE:=fun σ H Q=>ta σ H fun x H1=>∃ a C dx fs v,x=.ref a∧H1 a=some (.ins C dx fs)∧Cls K C∧NoAttr K C f∧fs.lookup f=some v∧Q v H1
def sFld (K:PySem.W.Frag) (ta tv:TE) (f:Str):TS:=fun D σ H=>tv σ H fun y H1=>ta σ H1 fun x H2=>∃ a C dx fs,x=.ref a∧H2 a=some (.ins C dx fs)∧Cls K C∧NoAttr K C f∧fs.length < 1000 ∧
 D.nx σ (upd H2 a (.ins C dx (putF f y fs)))
section
variable {X:Cx}{o e value:Expr}{f:Str}{pos pos' tpos:Pos}{ta tv:TE}
theorem zane (he:PE X e ta) (hb:attributeBase e f X.env (eval e X.env)=eval e X.env):PE X (.Attribute e f pos) (tFld X.K ta f):=by
 intro pins s σ H Q I h
 refine zaof hb (thn (he pins s σ H _ I h) fun u s1 ⟨x,H1,I1,rx,a,C,dx,fs,v,ex,ea,c,n,l,q⟩=>?_)
 subst ex
 obtain rfl:u=Value.ref a:=rx
 exact zajg I1 ea c n l fun u' s2 I2 ru=>⟨v,H1,I2,ru,q⟩
theorem zaqm (ha:PE X o ta) (hv:PE X value tv) (hs:swapsWith value (some (.Attribute o f pos')) pos.line X.env=pure false):PS X (.Assign [.Attribute o f pos'] value pos) (sFld X.K ta tv f):=by
 intro pins s σ H D I h
 refine plainObj_wpAny_Assign_Attribute (thn (hv pins s σ H _ I h) fun u s1 ⟨y,H1,I1,ry,q⟩=>thn (ha pins s1 σ H1 _ I1 q) fun ov s2 ⟨x,H2,I2,rx,a,C,dx,fs,ex,ea,c,n,l,q2⟩=>?_) hs
 subst ex
 obtain rfl:ov=Value.ref a:=rx
 exact zajh I2 ea c n l ry fun s3 I3=>⟨σ,_,I3,q2⟩
end
section
variable {X:Cx}{pins:List (Addr × Obj)}{σ:St}{H:Hp}{s:Shared}{A:Around}{E:Value→Shared→Prop}{Q:Value→Shared→Prop}{c:Value}{b:Bool}
inductive TyOf (K:PySem.W.Frag) (H:Hp):V→Value→Prop where
 | non:TyOf K H .non (.type "NoneType")
 | bl (x:Bool):TyOf K H (.bl x) (.type "bool")
 | int (i:Int):TyOf K H (.int i) (.type "int")
 | str (x:Str):TyOf K H (.str x) (.type "str")
 | flt (x:UInt64):TyOf K H (.flt x) (.type "float")
 | lst {a:Addr}{xs:List V} (e:H a=some (.lst xs)):TyOf K H (.ref a) (.type "list")
 | frz {a:Addr}{o:Obj}{xs:List V} (e:H a=some (.frz o (.lst xs))):TyOf K H (.ref a) (.type "list")
 | tup {a:Addr}{xs:List V} (e:H a=some (.tup xs)):TyOf K H (.ref a) (.type "tuple")
 | dK {a:Addr}{kvs:List (Key × V)} (e:H a=some (.dK kvs)):TyOf K H (.ref a) (.type "dict")
 | dT {a:Addr}{kvs:List (List Key × V)} (e:H a=some (.dT kvs)):TyOf K H (.ref a) (.type "dict")
 | ins {a C dx:Addr}{fs:List (Str × V)} (e:H a=some (.ins C dx fs)) (cl:Cls K C) (ha:PySem.W.findIn K (.ref C) "__class__" = some (some (.builtin "object.__class__")))
   (hn:PySem.W.specialIn K (.builtin "object.__class__") "__get__" = some (some (.builtin "getset_descriptor.__get__"))) (htk:PySem.W.takesIn K (.builtin "object.__class__")=some true)
   (hm:PySem.W.mroIn K C (.type "object")=some true):TyOf K H (.ref a) (.ref C)
theorem zakc {x:V}{u t:Value} (I:Inv X pins σ H s) (rx:RelV x u) (ty:TyOf X.K H x t) (e:PySem.W.kitOne X.K t c=some b) (h:∀ tk,Q (.bool b) { s with toks:=tk }) :
  wpAny (model X.prog X.w) A (call (.builtin "isinstance") [u,c]) Q E s:=by
 cases ty with
 | non=>cases (show u=Value.none from rx); exact PySem.W.kia_one PySem.W.kitx_none I.kIn True.intro e (fun z=>nomatch z) h
 | bl y=>cases (show u=Value.bool y from rx); exact PySem.W.kia_one PySem.W.kitx_bool I.kIn True.intro e (fun z=>nomatch z) h
 | int i=>obtain ⟨t,q⟩:=(show ∃ t,u=Value.int i t from rx); cases q; exact PySem.W.kia_one PySem.W.kitx_int I.kIn True.intro e (fun z=>nomatch z) h
 | str y=>obtain ⟨t,q⟩:=(show ∃ t,u=Value.str y t from rx); cases q; exact PySem.W.kia_one PySem.W.kitx_str I.kIn True.intro e (fun z=>nomatch z) h
 | flt y=>obtain ⟨t,q⟩:=(show ∃ t,u=Value.float y t from rx); cases q; exact PySem.W.kia_one PySem.W.kitx_float I.kIn True.intro e (fun z=>nomatch z) h
 | @lst a xs ea =>
  cases (show u=Value.ref a from rx)
  obtain ⟨_,_,n,_,h1⟩:=(show ObjOk X.prog X.w H s.heap a (.lst xs) from I.hok a _ ea)
  exact PySem.W.kia_one PySem.W.kitx_list I.kIn ⟨_,h1,rfl⟩ e (fun z=>nomatch z) h
 | @frz a ob xs ea =>
  cases (show u=Value.ref a from rx)
  obtain ⟨_,_,_,n,_,h1⟩:=(show ObjOk X.prog X.w H s.heap a (.frz ob (.lst xs)) from I.hok a _ ea)
  exact PySem.W.kia_one PySem.W.kitx_list I.kIn ⟨_,h1,rfl⟩ e (fun z=>nomatch z) h
 | @tup a xs ea =>
  cases (show u=Value.ref a from rx)
  obtain ⟨_,_,_,p⟩:=(show ObjOk X.prog X.w H s.heap a (.tup xs) from I.hok a _ ea)
  obtain ⟨o,h1,h2,_⟩:=p
  exact PySem.W.kia_one PySem.W.kitx_tuple I.kIn ⟨o,h1,h2⟩ e (fun z=>nomatch z) h
 | @dK a kvs ea =>
  cases (show u=Value.ref a from rx)
  obtain ⟨_,_,vs,_,p⟩:=(show ObjOk X.prog X.w H s.heap a (.dK kvs) from I.hok a _ ea)
  obtain ⟨o,es,ep,h1,h2,_⟩:=p
  exact PySem.W.kia_one PySem.W.kitx_dict I.kIn ⟨o,h1,h2.1⟩ e (fun z=>nomatch z) h
 | @dT a kvs ea =>
  cases (show u=Value.ref a from rx)
  obtain ⟨_,_,xs,_,o,es,ep,h1,h2,_⟩:=(show ObjOk X.prog X.w H s.heap a (.dT kvs) from I.hok a _ ea)
  exact PySem.W.kia_one PySem.W.kitx_dict I.kIn ⟨o,h1,h2.1⟩ e (fun z=>nomatch z) h
 | @ins a C dx fs ea cl ha hn htk hm =>
  cases (show u=Value.ref a from rx)
  obtain ⟨mA,O,_⟩:=zaf7 I.hok ea
  obtain ⟨od,J,_⟩:=O.look
  exact PySem.W.kia_one (PySem.W.kitx_own (cl.get _) cl.hd ha hn htk hm) I.kIn J e (fun z=>nomatch z) h
end
structure Room (k:Nat) (A:Around):Prop where
 hd:A.handled=none
 dp:A.depth + 3 * k + 5 < recursionLimit
 un:A.units + 16 * k + 200 < cLine
theorem Room.mono {j k:Nat}{A:Around} (r:Room k A) (h:j≤k):Room j A:=⟨r.hd,by have:=r.dp; omega,by have:=r.un; omega⟩
theorem Room.deeper {k:Nat}{A:Around} (r:Room (k + 1) A) (env:Env):Room k (A.deeper env) :=
 ⟨r.hd,by have:=r.dp; show A.depth + 1 + 3 * k + 5 < _; omega,by have:=r.un; show A.units + 3 + 16 * k + 200 < _; omega⟩
theorem zaji {A:Around}{C:Addr}{us:List Value}{kw:List (Str × Value)}:(A.under (.builtin "type.__call__" ⟨.ref C :: us,kw⟩)).depth=A.depth + 1:=by
 first | rfl | simp [Around.under,Code.weight,Code.isCreation,Code.isGuard,Code.isCaller,Code.frames,Code.isFrame,guardIds]
theorem zajj {A:Around}{C:Addr}{us:List Value}{kw:List (Str × Value)}:(A.under (.builtin "type.__call__" ⟨.ref C :: us,kw⟩)).units=A.units + 1:=by
 first | rfl | simp [Around.under,Code.cUnits,Code.frames,Code.isFrame]
theorem Room.make {k:Nat}{A:Around} (r:Room (k + 1) A) (C:Addr) (us:List Value) (kw:List (Str × Value)):Room k (A.under (.builtin "type.__call__" ⟨.ref C :: us,kw⟩)) :=
 ⟨r.hd,by have:=r.dp; rw [zaji]; omega,by have:=r.un; rw [zajj]; omega⟩
theorem Room.depth {k:Nat}{A:Around} (r:Room k A):A.depth < recursionLimit:=by have:=r.dp; omega
theorem Room.units {k:Nat}{A:Around} (r:Room k A):A.units + 64 < cLine:=by have:=r.un; omega
def tNil:TA:=fun _ H Q=>Q [] H
def tCons (ta:TE) (tr:TA):TA:=fun σ H Q=>ta σ H fun x H1=>tr σ H1 fun xs H2=>Q (x :: xs) H2
section
variable {X:Cx}{e:Expr}{es:List Expr}{te:TE}{t:TA}{pos:Pos}
theorem zaqn:PA X [] tNil:=fun _ _ _ _ H Q I h=>Calls.spliced_nil ⟨[],H,I,.nil,h⟩
theorem zaog (ha:PE X e te) (hr:PA X es t) (hs:starEach (e :: es) X.env=(false,eval e X.env) :: starEach es X.env:=by rfl):PA X (e :: es) (tCons te t):=by
 intro pos pins s σ H Q I h
 rw [hs]
 show wpAny _ _ (spliced ((false,eval e X.env) :: backTo pos (starEach es X.env))) _ _ s
 refine Calls.spliced_cons (thn (ha pins s σ H _ I h) fun u s1 ⟨x,H1,I1,r1,q1⟩=>?_)
 exact thn (hr pos pins s1 σ H1 _ I1 q1) fun us s2 ⟨xs,H2,I2,r2,q2⟩=>⟨x :: xs,H2,I2,.cons r1 r2,q2⟩
def tTup (t:TA):TE:=fun σ H Q=>t σ H fun xs H1=>xs.length≤sizeLine∧∀ p,H1 p=none→Q (.ref p) (upd H1 p (.tup xs))
def tLst (t:TA):TE:=fun σ H Q=>t σ H fun xs H1=>xs.length≤sizeLine∧∀ p,H1 p=none→Q (.ref p) (upd H1 p (.lst xs))
theorem zaqo {x1} (h:PA X es t):PE X (.Tuple es x1 pos) (tTup t):=by
 intro pins s σ H Q I hq
 refine wpAny_Tuple_spliced (thn (h pos pins s σ H _ I hq) fun us s1 ⟨xs,H1,I1,r,z,q⟩=>⟨by rw [← r.length]; exact z,?_⟩)
 have hf:H1 s1.heap.objs.size=none:=I1.hok.fresh (Nat.le_refl _)
 refine ⟨.ref s1.heap.objs.size,upd H1 s1.heap.objs.size (.tup xs),I1.laid (t':=s1.toks) (fun b u e=>Heap.get?_push_of_some _ e) (Nat.le_refl _) ?_,rfl,q _ hf⟩
 exact ⟨z,us,r,⟨_,Heap.get?_push_size _ rfl,rfl,_,rfl⟩⟩
theorem zaqp (h:PA X es t):PE X (.List es pos) (tLst t):=by
 intro pins s σ H Q I hq
 refine wpAny_List_spliced (thn (h pos pins s σ H _ I hq) fun us s1 ⟨xs,H1,I1,r,z,q⟩=>⟨by rw [← r.length]; exact z,?_⟩)
 have hf:H1 s1.heap.objs.size=none:=I1.hok.fresh (Nat.le_refl _)
 refine ⟨.ref s1.heap.objs.size,upd H1 s1.heap.objs.size (.lst xs),I1.laid (t':=s1.toks) (fun b u e=>Heap.get?_push_of_some _ e) (Nat.le_refl _) ?_,rfl,q _ hf⟩
 exact ⟨z,us,0,r,Heap.get?_push_size _ rfl⟩
end
abbrev Sp:=List V→Hp→VK→XK→Prop
abbrev CXT:=List Env→Hp→Shared→XK→Value→Shared→Prop
structure Env0 (P:Program) (w:World) (K:PySem.W.Frag) (mg:Str→Option Value) (base:Heap) (A:Around) (outer:List Env) (s:Shared) (H:Hp):Prop where
 frames:A.frames=some outer
 mod:Mod K mg base
 bs:∀ b o,base.get? b=some o→s.heap.get? b=some o∧H b=none
 bsz:base.objs.size≤s.heap.objs.size
 funs:s.heap.FunFrames base outer
 frf:∀ b∈frs outer,H b=none
 hok:HOk P w H s.heap
 bare:AllBare s.gens
def CE (outer:List Env) (P:Program) (w:World) (H:Hp) (s:Shared) (Q:VK) (u:Value) (s':Shared):Prop :=
 ∃ v H',s'.os=s.os∧AllBare s'.gens∧Un (frs outer) [] H H' s.heap s'.heap∧HOk P w H' s'.heap∧RelV v u∧Q v H'
def CR (CX:CXT) (outer:List Env) (P:Program) (w:World) (H:Hp) (s:Shared) (Q:VK) (E:XK) (r:Result) (s':Shared):Prop :=
 match r with
 | .ok (.ret u)=>CE outer P w H s Q u s'
 | .ok _=>False
 | .error e=>CX outer H s E e s'
structure FnOk (P:Program) (w:World) (K:PySem.W.Frag) (mg:Str→Option Value) (base:Heap) (CX:CXT) (k:Nat) (f:Addr) (fd:FuncData) (ps:List Str) (sp:Sp):Prop where
 len:∀ vs H Q E,sp vs H Q E→vs.length=ps.length
 run:∀ (A:Around) (outer:List Env) (s:Shared) (H:Hp) (args:Args) (us:List Value) (vs:List V) (Q:VK) (E:XK),Room k A→Env0 P w K mg base A outer s H→BindsTo s fd args (ps.zip us)→Vals vs us→sp vs H Q E →
  codeAny (model P w) A (.call (.ref f) args) (CR CX outer P w H s Q E) s
theorem FnOk.mono {P:Program}{w:World}{K:PySem.W.Frag}{mg:Str→Option Value}{base:Heap}{CX:CXT}{j k:Nat}{f:Addr}{fd:FuncData}{ps:List Str}{sp:Sp} (F:FnOk P w K mg base CX j f fd ps sp) (h:j≤k) :
  FnOk P w K mg base CX k f fd ps sp:=⟨F.len,fun A outer s H args us vs Q E hr=>F.run A outer s H args us vs Q E (hr.mono h)⟩
theorem FnOk.imp {P:Program}{w:World}{K:PySem.W.Frag}{mg:Str→Option Value}{base:Heap}{CX:CXT}{k:Nat}{f:Addr}{fd:FuncData}{ps:List Str}{sp sp':Sp} (F:FnOk P w K mg base CX k f fd ps sp)
  (h:∀ vs H Q E,sp' vs H Q E→sp vs H Q E):FnOk P w K mg base CX k f fd ps sp' :=
 ⟨fun vs H Q E q=>F.len vs H Q E (h _ _ _ _ q),fun A outer s H args us vs Q E hr he hb hv hs=>F.run A outer s H args us vs Q E hr he hb hv (h _ _ _ _ hs)⟩
theorem Env0.make {P:Program}{w:World}{K:PySem.W.Frag}{mg:Str→Option Value}{base:Heap}{A:Around}{outer:List Env}{s:Shared}{H:Hp} (e:Env0 P w K mg base A outer s H) (C:Addr) (us:List Value) (kw:List (Str × Value)) :
  Env0 P w K mg base (A.under (.builtin "type.__call__" ⟨.ref C :: us,kw⟩)) outer s H:=⟨by first | exact e.frames | (simpa [Around.under,Code.envs,Code.isFrame,pushEnvs] using e.frames),e.mod,e.bs,e.bsz,e.funs,e.frf,e.hok,e.bare⟩
section
variable {X:Cx}{pins:List (Addr × Obj)}{σ:St}{H:Hp}{s s':Shared}
theorem Inv.env0 (I:Inv X pins σ H s):Env0 X.prog X.w X.K X.mg X.base X.A X.stack s H :=
 ⟨I.ok.frames,I.ok.mod,I.bs,Nat.le_trans I.ok.bsz I.sz,I.stack,I.stkFree,I.hok,I.bare⟩
theorem Inv.after {Q:VK}{u:Value} (I:Inv X pins σ H s) (h:CE X.stack X.prog X.w H s Q u s'):EP X pins σ Q u s':=by
 obtain ⟨v,H',os,bare,un,hok,r,q⟩:=h
 obtain ⟨hh,g,d,t,os'⟩:=s'
 obtain rfl:os'=s.os:=os
 exact ⟨v,H',I.call (h':=hh) (g':=g) (d':=d) (t':=t) (ch:=[]) un hok bare (fun b z=>absurd z (by simp)),r,q⟩
end
def tCall (sp:Sp) (dvs:List V) (E:XK) (t:TA):TE:=fun σ H Q=>t σ H fun vs H1=>sp (vs++dvs) H1 Q E
def tMake (C:Addr) (sp:Sp) (dvs:List V) (E:XK) (t:TA):TE:=fun σ H Q=>t σ H fun vs H1=>∀ x dx,H1 x=none→H1 dx=none→dx≠x →
 sp (.ref x :: (vs++dvs)) (upd (upd H1 dx (.own x)) x (.ins C dx [])) (fun v H2=>v=.non∧Q (.ref x) H2) E
def Binds (K:PySem.W.Frag) (fd:FuncData) (ps:List Str) (ds:List Value):Prop :=
 ∀ (s:Shared) (us:List Value),K.In s.heap→(us++ds).length=ps.length→BindsTo s fd ⟨us,[]⟩ (ps.zip (us++ds))
theorem Binds.all {K:PySem.W.Frag}{fd:FuncData}{ps:List Str} (h:∀ us:List Value,us.length=ps.length→bindArgs fd ⟨us,[]⟩=pure (ps.zip us)):Binds K fd ps []:=fun s us _ hl=>by
 rw [List.append_nil] at hl ⊢
 exact .of_eq (h us hl)
def Passes (CX:CXT) (X:Cx) (E:XK):Prop:=∀ (pins:List (Addr × Obj)) (σ:St) (H:Hp) (s:Shared) (e:Value) (s':Shared),Inv X pins σ H s→CX X.stack H s E e s'→X.xe e s'
section
variable {X:Cx}{CX:CXT}{k:Nat}{f C:Addr}{fd:FuncData}{ps:List Str}{sp:Sp}{dvs:List V}{ds:List Value}{E:XK}{x m:Str}{p pos apos:Pos}{e o:Expr}{es:List Expr}{ta:TE}{t:TA}
theorem zanf {pins:List (Addr × Obj)}{σ:St}{H:Hp}{s:Shared}{Q:VK}{us:List Value}{vs:List V} (F:FnOk X.prog X.w X.K X.mg X.base CX k f fd ps sp) (hr:Room k X.A) (hb:Binds X.K fd ps ds) (hd:Vals dvs ds) (hx:Passes CX X E)
  (I:Inv X pins σ H s) (r:Vals vs us) (h:sp (vs++dvs) H Q E):wpAny (model X.prog X.w) X.A (call (.ref f) us) (EP X pins σ Q) X.xe s:=by
 have r2:Vals (vs++dvs) (us++ds):=r.append hd
 have hl:(us++ds).length=ps.length:=by rw [← r2.length]; exact F.len _ _ _ _ h
 refine wpAny_call (codeAny_mono (F.run X.A X.stack s H ⟨us,[]⟩ (us++ds) (vs++dvs) Q E hr I.env0 (hb s us I.kIn hl) r2 h) fun r s' hq=>?_)
 cases r with
 | error e=>exact hx pins σ H s e s' I hq
 | ok fl =>
  cases fl with
  | ret u=>exact I.after hq
  | next=>exact False.elim hq
  | brk=>exact False.elim hq
  | cont=>exact False.elim hq
theorem zaoh (F:FnOk X.prog X.w X.K X.mg X.base CX k f fd ps sp) (hr:Room k X.A) (hg:Gl X x) (hm:X.mg x=some (.ref f)) (hk:PySem.W.keepIn X.K (.ref f)=true) (hb:Binds X.K fd ps ds) (hd:Vals dvs ds) (hx:Passes CX X E)
  (ha:PA X (e :: es) t) (hdb:(x == ("__debug__" : Str))=false:=by decide) (he:starEach (e :: es) X.env=(false,eval e X.env) :: starEach es X.env:=by rfl) (hpl:(backTo pos (starEach es X.env)).any (·.1)=false:=by rfl) :
  PE X (.Call (.Name x p) (e :: es) [] pos) (tCall sp dvs E t):=by
 intro pins s σ H Q I h
 refine wpAny_Call_Name_kw (zahw I hg hm ?_ hdb)
 refine PySem.W.callWith_K (h₀:=X.base) I.ok.mod.kin hk (thn (ha pos pins s σ H _ I h) fun us s1 ⟨vs,H1,I1,r,q⟩=>⟨I1.kIn,?_⟩) he hpl
 exact zanf F hr hb hd hx I1 r q
structure Mk (K:PySem.W.Frag) (C f:Addr):Prop where
 makes:PySem.W.makesIn K C=true
 init:PySem.W.findIn K (.ref C) "__init__" = some (some (.ref f))
 fn:PySem.W.isFn K (.ref f)=true
 kp:PySem.W.keepIn K (.ref C)=true
theorem zamf {pins:List (Addr × Obj)}{σ:St}{H:Hp}{s:Shared}{Q:VK}{us:List Value}{vs:List V} (M:Mk X.K C f) (F:FnOk X.prog X.w X.K X.mg X.base CX k f fd ps sp) (hr:Room (k + 1) X.A) (hb:Binds X.K fd ps ds) (hd:Vals dvs ds)
  (hx:Passes CX X E) (I:Inv X pins σ H s) (r:Vals vs us)
  (h:∀ x dx,H x=none→H dx=none→dx≠x→sp (.ref x :: (vs++dvs)) (upd (upd H dx (.own x)) x (.ins C dx [])) (fun v H2=>v=.non∧Q (.ref x) H2) E) :
  wpAny (model X.prog X.w) X.A (call (.ref C) us) (EP X pins σ Q) X.xe s:=by
 have hq:=h (s.heap.objs.size + 1) s.heap.objs.size (I.hok.fresh (Nat.le_succ _)) (I.hok.fresh (Nat.le_refl _)) (Nat.ne_of_lt (Nat.lt_succ_self _))
 have I2:=Inv.made (C:=C) I
 have r2:Vals (V.ref (s.heap.objs.size + 1) :: (vs++dvs)) (Value.ref (s.heap.objs.size + 1) :: (us++ds)):=.cons rfl (r.append hd)
 have hl:(Value.ref (s.heap.objs.size + 1) :: us++ds).length=ps.length:=by
  have e:=r2.length
  rw [F.len _ _ _ _ hq] at e
  exact e.symm
 refine wpAny_call (zame (f:=f) I.kIn M.makes M.init (beq_iff_eq.mp M.fn) (codeAny_mono (F.run _ X.stack _ _ ⟨Value.ref (s.heap.objs.size + 1) :: us,[]⟩ (Value.ref (s.heap.objs.size + 1) :: (us++ds)) _ _ E (hr.make C us [])
  (I2.env0.make C us []) (hb _ (Value.ref (s.heap.objs.size + 1) :: us) I2.kIn hl) r2 hq) fun r s' hq'=>?_))
 cases r with
 | error e=>exact hx pins σ _ _ e s' I2 hq'
 | ok fl =>
  cases fl with
  | ret u =>
   obtain ⟨v,H',I3,rv,ev,q3⟩:=I2.after hq'
   subst ev
   exact ⟨rv,⟨V.ref (s.heap.objs.size + 1),H',I3,rfl,q3⟩⟩
  | next=>exact False.elim hq'
  | brk=>exact False.elim hq'
  | cont=>exact False.elim hq'
theorem zaoi (M:Mk X.K C f) (F:FnOk X.prog X.w X.K X.mg X.base CX k f fd ps sp) (hr:Room (k + 1) X.A) (hg:Gl X x) (hm:X.mg x=some (.ref C)) (hb:Binds X.K fd ps ds) (hd:Vals dvs ds) (hx:Passes CX X E)
  (ha:PA X (e :: es) t) (hdb:(x == ("__debug__" : Str))=false:=by decide) (he:starEach (e :: es) X.env=(false,eval e X.env) :: starEach es X.env:=by rfl) (hpl:(backTo pos (starEach es X.env)).any (·.1)=false:=by rfl) :
  PE X (.Call (.Name x p) (e :: es) [] pos) (tMake C sp dvs E t):=by
 intro pins s σ H Q I h
 refine wpAny_Call_Name_kw (zahw I hg hm ?_ hdb)
 refine PySem.W.callWith_K (h₀:=X.base) I.ok.mod.kin M.kp (thn (ha pos pins s σ H _ I h) fun us s1 ⟨vs,H1,I1,r,q⟩=>⟨I1.kIn,?_⟩) he hpl
 exact zamf M F hr hb hd hx I1 r q
end
structure FnScope (N P:List Str) (sc:Scope):Prop where
 kind:sc.kind=.function
 co:sc.isCoroutine=false
 gen:sc.isGenerator=false
 nd:N.Nodup
 pre:N.take P.length=P
 par:∀ x∈P,sc.names.lookup x=some .local∨sc.names.lookup x=some .cell
 nofree:∀ y∈sc.names,y.2≠.free
theorem zag2 {kindOf:Str→Option NameKind}{x:Str}:∀ {binds:List (Str × Value)}{m:Str→Option Value},(∀ v,(x,v) ∉ binds)→bindL kindOf binds m x=m x
 | [],_,_=>rfl
 | (n,v) :: r,m,h=>by
  unfold bindL
  rw [zag2 fun w hw=>h w (List.mem_cons_of_mem _ hw)]
  split
  ·have:x≠n:=by rintro rfl; exact h v List.mem_cons_self
   simp [this]
  ·rfl
theorem zag3 {kindOf:Str→Option NameKind}{x:Str}:∀ {binds:List (Str × Value)}{m:Str→Option Value},(∀ v,(x,v) ∉ binds)→bindC kindOf binds m x=m x
 | [],_,_=>rfl
 | (n,v) :: r,m,h=>by
  unfold bindC
  rw [zag3 fun w hw=>h w (List.mem_cons_of_mem _ hw)]
  split
  ·rfl
  ·have:x≠n:=by rintro rfl; exact h v List.mem_cons_self
   simp [this]
theorem zag4 {kindOf:Str→Option NameKind}{x:Str}{v:Value}:∀ {P:List Str}{vs:List Value}{i:Nat}{m:Str→Option Value},P.Nodup→P[i]?=some x→vs[i]?=some v→kindOf x=some .local →
  bindL kindOf (P.zip vs) m x=some v
 | [],_,_,_,_,h,_,_=>by simp at h
 | _ :: _,[],_,_,_,_,h,_=>by simp at h
 | p :: P,w :: vs,0,m,nd,h1,h2,hk=>by
  simp at h1 h2; subst h1; subst h2
  show bindL kindOf ((p,w) :: P.zip vs) m p=_
  unfold bindL
  rw [zag2 fun v hv=>(List.nodup_cons.mp nd).1 (List.of_mem_zip hv).1,if_pos hk]
  simp
 | p :: P,w :: vs,i + 1,m,nd,h1,h2,hk=>by
  show bindL kindOf ((p,w) :: P.zip vs) m x=_
  unfold bindL
  exact zag4 (i:=i) (List.nodup_cons.mp nd).2 (by simpa using h1) (by simpa using h2) hk
theorem zag5 {kindOf:Str→Option NameKind}{x:Str}{v:Value}:∀ {P:List Str}{vs:List Value}{i:Nat}{m:Str→Option Value},P.Nodup→P[i]?=some x→vs[i]?=some v→kindOf x≠some .local →
  bindC kindOf (P.zip vs) m x=some v
 | [],_,_,_,_,h,_,_=>by simp at h
 | _ :: _,[],_,_,_,_,h,_=>by simp at h
 | p :: P,w :: vs,0,m,nd,h1,h2,hk=>by
  simp at h1 h2; subst h1; subst h2
  show bindC kindOf ((p,w) :: P.zip vs) m p=_
  unfold bindC
  rw [zag3 fun v hv=>(List.nodup_cons.mp nd).1 (List.of_mem_zip hv).1,if_neg hk]
  simp
 | p :: P,w :: vs,i + 1,m,nd,h1,h2,hk=>by
  show bindC kindOf ((p,w) :: P.zip vs) m x=_
  unfold bindC
  exact zag5 (i:=i) (List.nodup_cons.mp nd).2 (by simpa using h1) (by simpa using h2) hk
def start (N:List Str) (vs:List V):St:=vs.map some++List.replicate (N.length - vs.length) none
def cxOf (CX:CXT) (P:Program) (w:World) (K:PySem.W.Frag) (mg:Str→Option Value) (base:Heap) (N:List Str) (qual:Str) (scope:Scope) (f:Addr) (cd:Value) (A:Around) (outer:List Env) (s:Shared) (H:Hp) (E:XK):Cx where
 prog:=P
 w:=w
 K:=K
 mg:=mg
 base:=base
 A:=A.deeper (envOfC qual scope s.heap.objs.size f cd)
 N:=N
 s₀:=s
 H₀:=H
 env:=envOfC qual scope s.heap.objs.size f cd
 outer:=outer
 stack:=envOfC qual scope s.heap.objs.size f cd :: outer
 ex:=[]
 calm:=true
 fn:=fun _=>true
 pn:=[]
 xe:=fun e s'=>wpAny (model P w) (A.deeper (envOfC qual scope s.heap.objs.size f cd)) (leaving (envOfC qual scope s.heap.objs.size f cd) e) (fun _ s''=>CX outer H s E e s'') (fun e' s''=>CX outer H s E e' s'') s'
theorem zaiw {sc:Scope}{n:Nat}{x:Str} (h:sc.names.lookup x=some .cell):∃ c,(cellsFrom n sc.names []).lookup x=some c:=by
 have q:=PySem.W.cellsFrom_some sc.names n [] (.inl h)
 exact Option.isSome_iff_exists.mp q
theorem zakd {CX:CXT}{P:Program}{w:World}{K:PySem.W.Frag}{mg:Str→Option Value}{base:Heap}{N ps:List Str}{qual:Str}{scope:Scope}{f:Addr}{cd:Value}{A:Around}{outer:List Env}{s s1:Shared}{H:Hp}{E:XK}{us:List Value}{vs:List V}
  (S:FnScope N ps scope) (hd:A.handled=none) (e0:Env0 P w K mg base A outer s H) (hl:vs.length=ps.length) (r:Vals vs us)
  (x:InCallC s s.heap.objs.size (bindL (envOfC qual scope s.heap.objs.size f cd).kindOf (ps.zip us) fun _=>none) (cellsFrom (s.heap.objs.size + 1) scope.names []) (bindC (envOfC qual scope s.heap.objs.size f cd).kindOf (ps.zip us) fun _=>none) s1) :
  Inv (cxOf CX P w K mg base N qual scope f cd A outer s H E) [] (start N vs) H s1:=by
 have hpl:ps.length≤N.length:=by have:=congrArg List.length S.pre; rw [List.length_take] at this; omega
 obtain ⟨h1,tk,rfl,hk⟩:=x.done
 have noA:∀ b:Addr,b ∉ (cxOf CX P w K mg base N qual scope f cd A outer s H E).ex:=fun b z=>absurd (show b∈([]:List Addr) from z) (by simp)
 refine ⟨⟨e0.mod,S.kind,rfl,rfl,Nat.le_refl _,fun y z c h1 h2=>?_,fun y hy=>?_,fun y c _ h=>?_,fun _=>hd,Around.frames_deeper e0.frames,.inr ⟨rfl,rfl⟩,fun b z=>absurd z (noA b),e0.bs,e0.bsz,fun b _ _=>noA b,fun b z=>absurd z (noA b),e0.funs,e0.frf⟩,
  rfl,e0.bare,Un.kept hk,⟨_,x.toInCall.ns,fun i y v h1 h2 h3=>?_⟩,fun y c h=>⟨_,x.cell y c h⟩,e0.hok.fresh (Nat.le_refl _),fun y c h=>?_,fun p hp=>absurd (show p∈([]:List (Addr × Obj)) from hp) (by simp),e0.hok.kept hk,?_⟩
 ·exact name_of_addr x.apart (PySem.mem_of_lookup h1) (PySem.mem_of_lookup h2)
 ·have hy:scope.names.lookup y=some .cell∨scope.names.lookup y=some .free:=hy
  rcases hy with hy | hy
  ·exact zaiw hy
  ·exact absurd rfl (S.nofree _ (PySem.mem_of_lookup hy))
 ·exact Nat.le_of_lt (x.above y c (PySem.mem_of_lookup h))
 ·have hi:i < vs.length:=by
   unfold start at h2
   by_cases hi:i < vs.length
   ·exact hi
   ·rw [List.getElem?_append_right (by simpa using hi)] at h2
    rw [List.getElem?_replicate] at h2
    split at h2 <;> cases h2
  have ha:vs[i]?=some v:=by
   unfold start at h2
   rw [List.getElem?_append_left (by simpa using hi),List.getElem?_map] at h2
   cases e:vs[i]? with
   | none=>rw [e] at h2; cases h2
   | some a=>rw [e] at h2; cases h2; rfl
  obtain ⟨u,hu,rv⟩:=r.get ha
  have hp:ps[i]?=some y:=by
   rw [← S.pre,List.getElem?_take_of_lt (by omega)]; exact h1
  have ndP:ps.Nodup:=by rw [← S.pre]; exact S.nd.sublist (List.take_sublist _ _)
  refine ⟨u,rv,?_⟩
  rcases S.par y (List.mem_of_getElem? hp) with k | k
  ·exact .inl ⟨k,zag4 ndP hp hu k⟩
  ·obtain ⟨c,e⟩:=zaiw (n:=s.heap.objs.size + 1) k
   refine .inr ⟨.inl k,c,e,?_⟩
   have q:=x.cell y c e
   rw [zag5 ndP hp hu (by show scope.names.lookup y≠_; rw [k]; decide)] at q
   exact q
 ·exact e0.hok.fresh (Nat.le_of_lt (x.above y c (PySem.mem_of_lookup h)))
 ·unfold start
  show _=N.length
  rw [List.length_append,List.length_map,List.length_replicate]
  omega
theorem zar9 {CX:CXT}{P:Program}{w:World}{K:PySem.W.Frag}{mg:Str→Option Value}{base:Heap}{k:Nat}{f:Addr}{name qual:Str}{params:Arguments}{body:List Stmt}{scope:Scope}{dV kV doc pm cdv ct oc:Value}{an od:Option Addr}
  {osl:Array (Option Value)}{N ps:List Str}{sp:Sp} (lk:K.lookup f=some ⟨oc,od,.func (PySem.W.fnOf name qual params body scope dV kV doc pm an cdv ct),osl⟩) (hcd:PySem.W.codeIn K cdv qual=true) (S:FnScope N ps scope)
  (len:∀ vs H Q E,sp vs H Q E→vs.length=ps.length)
  (hbody:∀ (A:Around) (outer:List Env) (s:Shared) (H:Hp) (vs:List V) (Q:VK) (E:XK),Room k (A.deeper (envOfC qual scope s.heap.objs.size f cdv))→sp vs H Q E →
   ∃ t,PSs (cxOf CX P w K mg base N qual scope f cdv A outer s H E) body t∧t { nx:=fun _ H'=>Q .non H',rt:=Q } (start N vs) H) :
  FnOk P w K mg base CX (k + 1) f (PySem.W.fnOf name qual params body scope dV kV doc pm an cdv ct) ps sp:=by
 refine ⟨len,fun A outer s H args us vs Q E hr e0 hb r hsp=>?_⟩
 have hl:=len _ _ _ _ hsp
 have KX:K.In s.heap:=e0.mod.kin.keeps fun b o e=>(e0.bs b o e).1
 have lim:s.heap.NoLimit:=e0.mod.nolimit.keeps fun b o e=>(e0.bs b o e).1
 have hkind:∀ y∈ps.zip us,scope.names.lookup y.1=some .local∨(scope.names.lookup y.1=some .cell∧((cellsFrom (s.heap.objs.size + 1) scope.names []).lookup y.1).isSome=true):=fun ⟨n,v⟩ hy=>by
  rcases S.par n (List.of_mem_zip hy).1 with q | q
  ·exact .inl q
  ·exact .inr ⟨q,PySem.W.cellsFrom_some _ _ _ (.inl q)⟩
 refine codeAny_call_function hr.depth (KX _ _ lk) rfl S.co S.gen rfl (PySem.W.codeRec_of KX hcd) (hb _ _ _ _ ?_)
 refine wpAny_newFunctionEnv_cells S.kind hkind fun env he s1 x=>?_
 subst he
 refine ⟨lim.keeps x.toInCall.keep,codeAny_func ?_⟩
 obtain ⟨t,ht,hq⟩:=hbody A outer s H vs Q E (hr.deeper _) hsp
 have I:Inv (cxOf CX P w K mg base N qual scope f cdv A outer s H E) [] (start N vs) H s1:=zakd S hr.hd e0 hl r x
 refine wpAny_mono (ht [] s1 (start N vs) H _ I hq) (fun fl s' hs=>?_) fun e s' hs=>hs
 have fin:∀ {σ':St}{H':Hp}{v:V}{u:Value},Inv (cxOf CX P w K mg base N qual scope f cdv A outer s H E) [] σ' H' s'→RelV v u→Q v H'→CE outer P w H s Q u s' :=
  fun {σ' H' v u} J rv q=>⟨v,H',J.os,J.bare,J.base,J.hok,rv,q⟩
 cases fl with
 | ret u =>
  obtain ⟨v,σ',H',J,rv,q⟩:=hs
  exact fin J rv q
 | next =>
  obtain ⟨σ',H',J,q⟩:=hs
  exact fin (v:=V.non) (u:=Value.none) J rfl q
 | brk =>
  obtain ⟨_,_,_,q⟩:=hs
  exact False.elim q
 | cont =>
  obtain ⟨_,_,_,q⟩:=hs
  exact False.elim q
section
variable {X:Cx}{x:Str}{p pos:Pos}{e:Expr}{es:List Expr}{t:TA}{id T:String}{r:List V→Hp→VK→Prop}
def tCB (r:List V→Hp→VK→Prop) (t:TA):TE:=fun σ H Q=>t σ H fun vs H1=>r vs H1 Q
theorem zamg (hc:CallR X (.builtin id) r) (hg:Gl X x) (hm:X.mg x=none) (hv:bootBuiltins x=some (.builtin id)) (ha:PA X (e :: es) t) (hn:x ≠ "__name__" := by decide) (hdb:(x == ("__debug__" : Str))=false:=by decide)
  (he:starEach (e :: es) X.env=(false,eval e X.env) :: starEach es X.env:=by rfl) (hpl:(backTo pos (starEach es X.env)).any (·.1)=false:=by rfl):PE X (.Call (.Name x p) (e :: es) [] pos) (tCB r t):=by
 intro pins s σ H Q I h
 refine wpAny_Call_Name_kw (zafj I hg hm hv ?_ hn hdb)
 exact PyProof.Rows.callWith_builtin1 (thn (ha pos pins s σ H _ I h) fun us s1 ⟨vs,H1,I1,r1,q1⟩=>hc pins s1 σ H1 vs us Q I1 r1 q1) he hpl
theorem zake (hc:CallR X (.type T) r) (hg:Gl X x) (hm:X.mg x=none) (hv:bootBuiltins x=some (.type T)) (ha:PA X (e :: es) t) (hn:x ≠ "__name__" := by decide) (hdb:(x == ("__debug__" : Str))=false:=by decide)
  (he:starEach (e :: es) X.env=(false,eval e X.env) :: starEach es X.env:=by rfl) (hpl:(backTo pos (starEach es X.env)).any (·.1)=false:=by rfl):PE X (.Call (.Name x p) (e :: es) [] pos) (tCB r t):=by
 intro pins s σ H Q I h
 refine wpAny_Call_Name_kw (zafj I hg hm hv ?_ hn hdb)
 exact PyProof.Rows.callWith_type1 (thn (ha pos pins s σ H _ I h) fun us s1 ⟨vs,H1,I1,r1,q1⟩=>hc pins s1 σ H1 vs us Q I1 r1 q1) he hpl
end
end L2
namespace HT
open PySem PyProof.Rows
section
variable {prog:Program}{w:World}{A:Around}{E:Value→Shared→Prop}{s:Shared}
def sIx (n d:Nat):Option Int→Nat
 | none=>d
 | some v=>if v < 0 then (v + (n:Int)).toNat else min v.toNat n
theorem sIx_none (n d:Nat):sIx n d none=d:=rfl
theorem sIx_nat (n d k:Nat):sIx n d (some (k:Int))=min k n:=by
 show (if (k:Int) < 0 then ((k:Int) + (n:Int)).toNat else min (k:Int).toNat n)=min k n
 rw [if_neg (by omega),Int.toNat_natCast]
theorem zaqq (n d:Nat) (hd:d≤n) (o:Option Int):sIx n d o≤n:=by
 cases o with
 | none=>exact hd
 | some v =>
  show (if v < 0 then (v + (n:Int)).toNat else min v.toNat n)≤n
  by_cases hv:v < 0
  ·rw [if_pos hv]; omega
  ·rw [if_neg hv]; exact Nat.min_le_right _ _
theorem zakf (v:Int) (n d:Nat):(if v < 0 then max (v + (n:Int)) 0 else min v (n:Int))=((sIx n d (some v):Nat):Int):=by
 show (if v < 0 then max (v + (n:Int)) 0 else min v (n:Int))=(((if v < 0 then (v + (n:Int)).toNat else min v.toNat n):Nat):Int)
 by_cases hv:v < 0
 ·simp only [if_pos hv]; omega
 ·simp only [if_neg hv]; omega
theorem zajk (lo hi:Option Int) (n:Nat):Builtin.Slice.sliceAdjust lo hi 1 (n:Int)=(((sIx n 0 lo:Nat):Int),((sIx n n hi:Nat):Int)):=by
 have h1:¬ ((1:Int) < 0):=by omega
 unfold Builtin.Slice.sliceAdjust
 simp only [h1,if_false]
 refine Prod.ext ?_ ?_
 ·cases lo with
  | none=>rfl
  | some v=>exact zakf v n 0
 ·cases hi with
  | none=>rfl
  | some v=>exact zakf v n n
theorem zajl (i j:Nat):Builtin.Slice.slicePlaces (i:Int) (j:Int) 1=j - i:=by
 unfold Builtin.Slice.slicePlaces
 have h1:(1:Int) > 0:=by omega
 simp only [h1,if_true,Int.ediv_one]
 split <;> omega
theorem zafy {v:Value}{o:Option Int}{Q:Option Int→Shared→Prop} (p:IsPart v o) (h:Q o s):wpAny (model prog w) A (Builtin.Slice.slicePartIndex v) Q E s:=by
 cases p with
 | none=>exact slicePart_none h
 | int i t=>exact slicePart_int h
theorem zad6 {sl:Addr}{vl vu:Value}{lo hi:Option Int}{n:Nat}{Q:Int × Int × Nat→Shared→Prop} (hs:s.heap.IsSliceOf sl vl vu .none) (pl:IsPart vl lo) (pu:IsPart vu hi)
  (h:Q (((sIx n 0 lo:Nat):Int),1,sIx n n hi - sIx n 0 lo) s):wpAny (model prog w) A (Builtin.Slice.sliceApplied (.ref sl) (pure (n:Int))) Q E s:=by
 obtain ⟨os,hos,hcs,hds⟩:=id hs
 unfold Builtin.Slice.sliceApplied Builtin.Slice.sliceFields
 refine wpAny_bind (wpAny_bind (wpAny_field hos hds (x:=vl) rfl (wpAny_bind (wpAny_field hos hds (x:=vu) rfl (wpAny_bind (wpAny_field hos hds (x:=.none) rfl (wpAny_pure ?_)))))))
 refine wpAny_bind (slicePart_none ?_)
 show wpAny _ _ (if ((1:Int) == 0)=true then _ else _) _ _ s
 rw [if_neg (by decide)]
 refine wpAny_bind (zafy pl (wpAny_bind (zafy pu (wpAny_bind (wpAny_pure ?_)))))
 show wpAny _ _ (match Builtin.Slice.sliceAdjust lo hi 1 (n:Int) with | (lo,hi)=>pure (lo,(1:Int),Builtin.Slice.slicePlaces lo hi 1)) _ _ s
 rw [zajk lo hi n]
 show wpAny _ _ (pure (((sIx n 0 lo:Nat):Int),(1:Int),Builtin.Slice.slicePlaces ((sIx n 0 lo:Nat):Int) ((sIx n n hi:Nat):Int) 1)) _ _ s
 rw [zajl]
 exact wpAny_pure h
theorem zamh (xs:Array Value) (i k:Nat):((List.range k).filterMap fun (m:Nat)=>xs[((i:Int) + (m:Int) * 1).toNat]?).toArray=((xs.toList.drop i).take k).toArray:=by
 have e:(fun (m:Nat)=>xs[((i:Int) + (m:Int) * 1).toNat]?)=fun m=>xs[i + m]?:=by
  funext m
  have:((i:Int) + (m:Int) * 1).toNat=i + m:=by omega
  rw [this]
 rw [e]
 have:=pick_run xs i k
 rw [List.filterMap_map] at this
 have e2:((fun x=>xs[x]?) ∘ fun x=>i + x)=fun m=>xs[i + m]?:=rfl
 rw [e2] at this
 rw [this]
theorem getItem_tuple_cut {t sl:Addr}{items:Array Value}{vl vu:Value}{lo hi:Option Int}{Q:Value→Shared→Prop} (ht:IsTup s.heap t items) (hs:s.heap.IsSliceOf sl vl vu .none) (pl:IsPart vl lo) (pu:IsPart vu hi)
  (hw:¬ (sIx items.size 0 lo=0∧sIx items.size items.size hi=items.size))
  (h:Q (.ref s.heap.objs.size) { s with heap:=s.heap.push { cls:=.type "tuple",data:=.seq ((items.toList.drop (sIx items.size 0 lo)).take (sIx items.size items.size hi - sIx items.size 0 lo)).toArray } })
  (hsz:items.size≤sizeLine):wpAny (model prog w) A (getItem (.ref t) (.ref sl)) Q E s:=by
 have htake:sizeOk (.seq ((items.toList.drop (sIx items.size 0 lo)).take (sIx items.size items.size hi - sIx items.size 0 lo)).toArray):=by
  show ((items.toList.drop (sIx items.size 0 lo)).take (sIx items.size items.size hi - sIx items.size 0 lo)).toArray.size≤sizeLine
  rw [List.size_toArray,List.length_take,List.length_drop,Array.length_toList]
  omega
 have hj:sIx items.size items.size hi≤items.size:=zaqq _ _ (Nat.le_refl _) hi
 obtain ⟨os,hos,hcs,hds⟩:=id hs
 have hTs:s.TypeIs (.ref sl) "slice" := ⟨os,hos,hcs⟩
 unfold getItem
 try with_reducible refine wpAny_holding ?_
 first | refine wpAny_bind (wpAny_pure ?_) | skip
 refine wpAny_bind (wpAny_sequenceKey ht.typeIs (by decide) ?_)
 refine wpAny_bind (wpAny_callSpecial?_slot (name:=Str.ofString "__getitem__") ht.typeIs PyProof.Rows.slot_tuple_getitem
  (wpAny_call_entry PyProof.Rows.slot_tuple_getitem ht.typeIs entry_tuple_getitem ?_ (args_tuple_getitem _ _)))
 show wpAny _ _ (Builtin.Tuple.tupleItemsOf (.ref t) >>= _) _ _ s
 refine wpAny_bind (tupleItemsOf_ ht ?_)
 refine wpAny_bind (wpAny_typeOf hTs ?_)
 rw [if_pos (by decide)]
 refine wpAny_bind (zad6 hs pl pu ?_)
 have hno:¬ ((((sIx items.size 0 lo:Nat):Int) == 0 && (1:Int) == 1 && (sIx items.size items.size hi - sIx items.size 0 lo) == items.size)=true):=by
  intro q
  rw [Bool.and_eq_true,Bool.and_eq_true] at q
  have q1:((sIx items.size 0 lo:Nat):Int)=0:=eq_of_beq q.1.1
  have q2:sIx items.size items.size hi - sIx items.size 0 lo=items.size:=eq_of_beq q.2
  exact hw ⟨by omega,by omega⟩
 show wpAny _ _ (if (((sIx items.size 0 lo:Nat):Int) == 0 && (1:Int) == 1 && (sIx items.size items.size hi - sIx items.size 0 lo) == items.size)=true then _ else _) _ _ s
 rw [if_neg hno,zamh]
 first
  | exact wpAny_bind (m:=Builtin.Tuple.tupleExact _) (wpAny_newObj_type (wpAny_pure ⟨_,rfl,wpAny_pure h⟩) htake)
  | exact wpAny_bind (m:=Builtin.Tuple.tupleExact _) (wpAny_newObj_type (wpAny_bind (wpAny_pure (wpAny_pure ⟨_,rfl,wpAny_pure h⟩))) htake)
  | exact wpAny_bind (wpAny_bind (m:=Builtin.Tuple.tupleExact _) (wpAny_newObj_type (wpAny_pure (wpAny_pure ⟨_,rfl,wpAny_pure h⟩)) htake))
  | exact wpAny_bind (wpAny_bind (m:=Builtin.Tuple.tupleExact _) (wpAny_newObj_type (wpAny_pure ⟨_,rfl,wpAny_pure h⟩) htake))
end
end HT
namespace L2
open PySem PySem.Spec PyProof.Rows
abbrev TO:=St→Hp→(Option Int→Hp→Prop)→Prop
def PO (X:Cx) (e:Option Expr) (t:TO):Prop :=
 ∀ (pins:List (Addr × Obj)) (s:Shared) (σ:St) (H:Hp) (Q:Option Int→Hp→Prop),Inv X pins σ H s→t σ H Q →
  wpAny (model X.prog X.w) X.A (evalPart e X.env) (fun u s'=>∃ o H',Inv X pins σ H' s'∧IsPart u o∧Q o H') X.xe s
def tNoPart:TO:=fun _ H Q=>Q none H
def tPart (t:TE):TO:=fun σ H Q=>t σ H fun x H1=>∃ i,x=.int i∧Q (some i) H1
section
variable {X:Cx}{e:Expr}{te:TE}{lo hi:Option Expr}{tl th:TO}{pos p2:Pos}
theorem zaoj:PO X none tNoPart:=by
 intro pins s σ H Q I h
 rw [evalPart_none]
 exact wpAny_pure ⟨none,H,I,.none,h⟩
theorem zaok (h:PE X e te):PO X (some e) (tPart te):=by
 intro pins s σ H Q I hw
 rw [evalPart_some]
 refine thn (h pins s σ H _ I hw) fun u s1 ⟨x,H1,I1,r1,q1⟩=>?_
 obtain ⟨i,rfl,q⟩:=q1
 obtain ⟨t,rfl⟩:=r1
 exact ⟨some i,H1,I1,.int i t,q⟩
def SlR (X:Cx) (r:V→Option Int→Option Int→Hp→VK→Prop):Prop :=
 ∀ (pins:List (Addr × Obj)) (s:Shared) (σ:St) (H:Hp) (x:V) (v vl vu:Value) (lo hi:Option Int) (sl:Addr) (Q:VK),Inv X pins σ H s→RelV x v→s.heap.IsSliceOf sl vl vu .none→IsPart vl lo→IsPart vu hi→r x lo hi H Q →
  ∃ T id,typeLookup (.type T) "__getitem__" = pure (some (.builtin id))∧s.TypeIs v T∧wpAny (model X.prog X.w) X.A (getItem v (.ref sl)) (EP X pins σ Q) X.xe s
def tSl (r:V→Option Int→Option Int→Hp→VK→Prop) (te:TE) (tl th:TO):TE:=fun σ H Q=>te σ H fun x H1=>tl σ H1 fun l H2=>th σ H2 fun u H3=>r x l u H3 Q
theorem zami {r:V→Option Int→Option Int→Hp→VK→Prop} (hr:SlR X r) (he:PE X e te) (hl:PO X lo tl) (hu:PO X hi th):PE X (.Subscript e (.Slice lo hi none p2) pos) (tSl r te tl th):=by
 intro pins s σ H Q I h
 refine Subscript_ (thn (he pins s σ H _ I h) fun v s1 ⟨x,H1,I1,r1,q1⟩=>?_)
 refine wpAny_Slice (thn (hl pins s1 σ H1 _ I1 q1) fun vl s2 ⟨l,H2,I2,pl,q2⟩=>thn (hu pins s2 σ H2 _ I2 q2) fun vu s3 ⟨u,H3,I3,pu,q3⟩=>?_)
 rw [evalPart_none]
 refine wpAny_pure ?_
 have I4:Inv X pins σ H3 { s3 with heap:=s3.heap.push { cls:=.type "slice",data:=.fields #[vl,vu,.none] } }:=I3.kept (t':=s3.toks) fun b ob q=>Heap.get?_push_of_some _ q
 obtain ⟨T,id,hT,ht,hg⟩:=hr pins { s3 with heap:=s3.heap.push { cls:=.type "slice",data:=.fields #[vl,vu,.none] } } σ H3 x v vl vu l u s3.heap.objs.size Q I4 r1 (Heap.IsSliceOf.new ..) pl pu q3
 show wpAny (model X.prog X.w) X.A (subscriptTail e (.Slice lo hi none p2) v (.ref s3.heap.objs.size)) (EP X pins σ Q) X.xe { s3 with heap:=s3.heap.push { cls:=.type "slice",data:=.fields #[vl,vu,.none] } }
 exact tail_any (ops:=[.ref s3.heap.objs.size,v]) ht hT hg (by with_unfolding_all rfl)
def cutV (xs:List V) (lo hi:Option Int):List V:=(xs.drop (HT.sIx xs.length 0 lo)).take (HT.sIx xs.length xs.length hi - HT.sIx xs.length 0 lo)
theorem zafn (xs:List V) (lo hi:Option Int):(cutV xs lo hi).length≤xs.length:=by
 unfold cutV
 rw [List.length_take,List.length_drop]
 omega
def rSlT (K:PySem.W.Frag):V→Option Int→Option Int→Hp→VK→Prop:=fun x lo hi H Q=>∃ a xs,x=.ref a∧SqT K H a xs ∧
 ¬ (HT.sIx xs.length 0 lo=0∧HT.sIx xs.length xs.length hi=xs.length)∧∀ p,H p=none→Q (.ref p) (upd H p (.tup (cutV xs lo hi)))
theorem zag6:SlR X (rSlT X.K):=by
 intro pins s σ H x v vl vu lo hi sl Q I rx hs pl pu h
 obtain ⟨a,xs,rfl,hx,hw,q⟩:=h
 cases rx
 obtain ⟨its,r,ht,hz⟩:=I.tuple hx
 have hlen:its.toArray.size=xs.length:=by rw [List.size_toArray]; exact r.length.symm
 refine ⟨"tuple",_,PyProof.Rows.slot_tuple_getitem.lookup,ht.typeIs,?_⟩
 refine HT.getItem_tuple_cut ht hs pl pu (by rw [hlen]; exact hw) ?_ (by rw [hlen]; exact hz)
 rw [hlen]
 refine ⟨.ref s.heap.objs.size,_,I.laid (t':=s.toks) (o:=.tup (cutV xs lo hi)) (fun b ob q=>Heap.get?_push_of_some _ q) (Nat.le_refl _) ?_,rfl,q _ (I.hok.fresh (Nat.le_refl _))⟩
 exact ⟨Nat.le_trans (zafn xs lo hi) hz,_,(r.drop (HT.sIx xs.length 0 lo)).take (HT.sIx xs.length xs.length hi - HT.sIx xs.length 0 lo),IsTup.new _ _⟩
end
def ixN (n:Nat) (i:Int):Option Nat:=if 0≤i then (if i < n then some i.toNat else none) else if -(n:Int)≤i then some (i + n).toNat else none
def atI {α:Type} (xs:List α) (i:Int):Option α:=(ixN xs.length i).bind fun j=>xs[j]?
theorem zahy {n:Nat}{i:Int}{j:Nat} (h:ixN n i=some j):seqIndex? i n=some j∧j < n∧-(n:Int)≤i∧i < n:=by
 unfold ixN at h
 by_cases h0:0≤i
 ·rw [if_pos h0] at h
  by_cases h1:i < n
  ·rw [if_pos h1] at h
   have e:i.toNat=j:=Option.some.inj h
   exact ⟨by rw [seqIndex_of h0 h1,e],by omega,by omega,h1⟩
  ·rw [if_neg h1] at h; cases h
 ·rw [if_neg h0] at h
  by_cases h1:-(n:Int)≤i
  ·rw [if_pos h1] at h
   have e:(i + n).toNat=j:=Option.some.inj h
   exact ⟨by rw [seqIndex_neg (by omega) h1,e],by omega,h1,by omega⟩
  ·rw [if_neg h1] at h; cases h
theorem zakg {α:Type}{xs:List α}{i:Int}{v:α} (h:atI xs i=some v):∃ j,seqIndex? i xs.length=some j∧xs[j]?=some v∧j < xs.length∧-(xs.length:Int)≤i∧i < xs.length:=by
 unfold atI at h
 cases e:ixN xs.length i with
 | none=>rw [e] at h; cases h
 | some j =>
  rw [e] at h
  obtain ⟨h1,h2,h3,h4⟩:=zahy e
  exact ⟨j,h1,h,h2,h3,h4⟩
theorem zab4 {α:Type}{xs:List α}{j:Nat}{v:α} (h:xs[j]?=some v):atI xs (j:Int)=some v:=by
 have hj:j < xs.length:=(List.getElem?_eq_some_iff.mp h).1
 have e:ixN xs.length (j:Int)=some j:=by
  unfold ixN
  rw [if_pos (by omega),if_pos (by omega)]; simp
 unfold atI; rw [e]; exact h
def PlainIx (b:Expr):Prop:=∀ o i,subscripted b false o i=operate [o,i] (getItem o i)
def IxR (X:Cx) (r:R2):Prop :=
 ∀ (value slice:Expr) (pins:List (Addr × Obj)) (s:Shared) (σ:St) (H:Hp) (x y:V) (v u:Value) (Q:VK),Inv X pins σ H s→RelV x v→RelV y u→r x y H Q →
  subscripted slice false v u=operate [v,u] (getItem v u)→wpAny (model X.prog X.w) X.A (subscriptTail value slice v u) (EP X pins σ Q) X.xe s
def MtR (X:Cx) (id:String) (r:V→List V→Hp→VK→Prop):Prop :=
 ∀ (pins:List (Addr × Obj)) (s:Shared) (σ:St) (H:Hp) (x:V) (xs:List V) (v:Value) (us:List Value) (Q:VK),Inv X pins σ H s→RelV x v→Vals xs us→r x xs H Q →
  wpAny (model X.prog X.w) X.A (call (.builtin id) (v :: us)) (EP X pins σ Q) X.xe s
section
variable {X:Cx}{a b:Expr}{ta tb:TE}{pos:Pos}
theorem zasa {r:R2} (hr:IxR X r) (ha:PE X a ta) (hb:PE X b tb) (hs:PlainIx b):PE X (.Subscript a b pos) (tOp r ta tb):=by
 intro pins s σ H Q I h
 exact Subscript_ (binT ha hb I h fun v u s2 x y H2 I2 rx ry q=>hr a b pins s2 σ H2 x y v u Q I2 rx ry q (hs _ _))
def rIxL (K:PySem.W.Frag):R2:=fun x y H Q=>∃ p xs i v,x=.ref p∧y=.int i∧SqL K H p xs∧atI xs i=some v∧Q v H
def rIxT (K:PySem.W.Frag):R2:=fun x y H Q=>∃ p xs i v,x=.ref p∧y=.int i∧SqT K H p xs∧atI xs i=some v∧Q v H
theorem zaol:IxR X (rIxL X.K):=by
 intro value slice pins s σ H x y v u Q I rx ry h hs
 obtain ⟨p,xs,i,z,rfl,rfl,hq,he,q⟩:=h
 cases rx
 obtain ⟨t,rfl⟩:=ry
 obtain ⟨its,r,pl,hz⟩:=I.list hq
 obtain ⟨j,h1,h2,h3,h4,h5⟩:=zakg he
 obtain ⟨w,ew,rw'⟩:=r.get h2
 have hl:=r.length
 have hn:=line63
 have fin:EP X pins σ Q w s:=⟨z,H,I,rw',q⟩
 by_cases h0:0≤i
 ·have hj:i.toNat=j:=by
   rw [seqIndex_of h0 h5] at h1
   exact Option.some.inj h1
  exact item_listR pl.isList h0 (by omega) (by rw [hj]; simpa using ew) fin hs
 ·have hj:(i + (its.toArray.size:Int)).toNat=j:=by
   rw [seqIndex_neg (by omega) h4] at h1
   rw [List.size_toArray,← hl]
   exact Option.some.inj h1
  exact subscriptTail_builtinR (x:=w) pl.isList.typeIs slot_list_getitem.lookup
   (wpAny_getItem_list_neg (Q:=fun r s'=>r=w∧EP X pins σ Q r s') pl.isList (by omega) (by rw [List.size_toArray] <;> omega) (by omega) (by rw [hj]; simpa using ew) ⟨rfl,fin⟩) hs
theorem zaqr:IxR X (rIxT X.K):=by
 intro value slice pins s σ H x y v u Q I rx ry h hs
 obtain ⟨p,xs,i,z,rfl,rfl,hq,he,q⟩:=h
 cases rx
 obtain ⟨t,rfl⟩:=ry
 obtain ⟨its,r,pl,hz⟩:=I.tuple hq
 obtain ⟨j,h1,h2,h3,h4,h5⟩:=zakg he
 obtain ⟨w,ew,rw'⟩:=r.get h2
 have hl:=r.length
 have hn:=line63
 have fin:EP X pins σ Q w s:=⟨z,H,I,rw',q⟩
 exact subscriptTail_builtinR (x:=w) pl.typeIs slot_tuple_getitem.lookup
  (getItem_tuple (j:=j) (Q:=fun r s'=>r=w∧EP X pins σ Q r s') pl (by omega) (by omega) (by rw [List.size_toArray,← hl]; exact h1) (by simpa using ew) ⟨rfl,fin⟩) hs
theorem zajm (its:List Value) (n j:Nat) (u:Value):Obj.mapSeq (·.setIfInBounds j u) { cls:=.type "list",data:=.seq its.toArray n }={ cls:=.type "list",data:=.seq (its.set j u).toArray n }:=by
 simp [Obj.mapSeq]
theorem Inv.lst {pins:List (Addr × Obj)}{σ:St}{H:Hp}{s:Shared}{p:Addr}{xs:List V} (I:Inv X pins σ H s) (h:H p=some (.lst xs)) :
  ∃ (its:List Value) (n:Nat),Vals xs its∧s.heap.get? p=some { cls:=.type "list",data:=.seq its.toArray n }∧xs.length≤sizeLine:=by
 obtain ⟨z,its,n,r,e⟩:=I.hok p _ h
 exact ⟨its,n,r,e,z⟩
theorem Inv.lstUpd {pins:List (Addr × Obj)}{σ:St}{H:Hp}{s:Shared}{p:Addr}{xs ys:List V}{its its':List Value}{n n':Nat}{f:Obj→Obj} (I:Inv X pins σ H s) (h:H p=some (.lst xs))
  (ho:s.heap.get? p=some { cls:=.type "list",data:=.seq its.toArray n }) (hf:f { cls:=.type "list",data:=.seq its.toArray n }={ cls:=.type "list",data:=.seq its'.toArray n' }) (r:Vals ys its') (hz:ys.length≤sizeLine) (t:Nat) :
  Inv X pins σ (upd H p (.lst ys)) { s with heap:=s.heap.update p f,toks:=t }:=by
 have e:(s.heap.update p f).get? p=some { cls:=.type "list",data:=.seq its'.toArray n' }:=by
  rw [Heap.get?_update_self f ho (by rw [hf] <;> rfl),hf]
 refine I.write (x:=p) (e:=p) (by rw [h]; trivial) (.inl rfl) (fun b u hb q=>(Heap.get?_update_other _ _ (Ne.symm hb)).trans q) ⟨_,e⟩ ?_
 exact ⟨hz,its',n',r,e⟩
def rSetL:V→V→V→Hp→(Hp→Prop)→Prop:=fun o i v H Q=>∃ p xs k j,o=.ref p∧i=.int k∧H p=some (.lst xs)∧ixN xs.length k=some j∧Q (upd H p (.lst (xs.set j v)))
theorem zadm:PSet X rSetL:=by
 intro pins s σ H o i v ov iv u Q I ro ri rv h
 obtain ⟨p,xs,k,j,rfl,rfl,hp,hj,q⟩:=h
 cases ro
 obtain ⟨t,rfl⟩:=ri
 obtain ⟨its,n,r,ho,hz⟩:=I.lst hp
 obtain ⟨h1,h2,h3,h4⟩:=zahy hj
 have hl:=r.length
 have hn:=line63
 have I':Inv X pins σ (upd H p (.lst (xs.set j v))) { s with heap:=s.heap.update p (Obj.mapSeq (·.setIfInBounds j u)) } :=
  I.lstUpd hp ho (zajm its n j u) (r.set rv j) (by rw [List.length_set]; exact hz) s.toks
 by_cases h0:0≤k
 ·have hk:k.toNat=j:=by
   rw [seqIndex_of h0 h4] at h1
   exact Option.some.inj h1
  exact PySem.W.ki_setAt ho h0 (by omega) (by rw [List.size_toArray,← hl]; exact h4) (by rw [hk]; exact ⟨_,I',q⟩)
 ·have hk:(k + (its.toArray.size:Int)).toNat=j:=by
   rw [seqIndex_neg (by omega) h3] at h1
   rw [List.size_toArray,← hl]
   exact Option.some.inj h1
  exact PySem.W.ki_setBack ho (by omega) (by rw [List.size_toArray,← hl]; exact h3) (by omega) (by rw [hk]; exact ⟨_,I',q⟩)
theorem zag7 (lo hi:Option Int) (n:Nat):(sliceBounds lo hi none n).1=((HT.sIx n 0 lo:Nat):Int)∧(sliceBounds lo hi none n).2.1=((HT.sIx n n hi:Nat):Int)∧(sliceBounds lo hi none n).2.2=1:=by
 refine ⟨?_,?_,rfl⟩
 ·cases lo with
  | none=>simp [sliceBounds,HT.sIx]
  | some i =>
   simp only [sliceBounds,HT.sIx,Option.getD_none,show (1:Int) > 0 by decide,if_true]
   by_cases h:i < 0
   ·simp only [h,if_true] <;> omega
   ·simp only [h,if_false] <;> omega
 ·cases hi with
  | none=>simp [sliceBounds,HT.sIx]
  | some i =>
   simp only [sliceBounds,HT.sIx,Option.getD_none,show (1:Int) > 0 by decide,if_true]
   by_cases h:i < 0
   ·simp only [h,if_true] <;> omega
   ·simp only [h,if_false] <;> omega
theorem zaf8 (its:List Value) (lo hi:Option Int):slicePick its.toArray lo hi none=((its.drop (HT.sIx its.length 0 lo)).take (HT.sIx its.length its.length hi - HT.sIx its.length 0 lo)).toArray:=by
 obtain ⟨h1,h2,h3⟩:=zag7 lo hi its.toArray.size
 unfold slicePick
 rw [h1,h2,h3]
 simp only [sliceRange_one,pick_run,List.size_toArray] <;> rfl
def rSlL (K:PySem.W.Frag):V→Option Int→Option Int→Hp→VK→Prop:=fun x lo hi H Q=>∃ a xs,x=.ref a∧SqL K H a xs∧∀ p,H p=none→Q (.ref p) (upd H p (.lst (cutV xs lo hi)))
theorem zadd:SlR X (rSlL X.K):=by
 intro pins s σ H x v vl vu lo hi sl Q I rx hs pl pu h
 obtain ⟨a,xs,rfl,hx,q⟩:=h
 cases rx
 obtain ⟨its,r,ht,hz⟩:=I.list hx
 have hlen:=r.length
 refine ⟨"list",_,slot_list_getitem.lookup,ht.isList.typeIs,?_⟩
 refine wpAny_getItem_list_slice ht.isList hs pl pu .none (by simp) ?_ (by rw [List.size_toArray] <;> omega)
 rw [zaf8,← hlen]
 refine ⟨.ref s.heap.objs.size,_,I.laid (t':=s.toks) (o:=.lst (cutV xs lo hi)) (fun b ob q=>Heap.get?_push_of_some _ q) (Nat.le_refl _) ?_,rfl,q _ (I.hok.fresh (Nat.le_refl _))⟩
 exact ⟨Nat.le_trans (zafn xs lo hi) hz,_,0,(r.drop (HT.sIx xs.length 0 lo)).take (HT.sIx xs.length xs.length hi - HT.sIx xs.length 0 lo),Heap.get?_push_size _ rfl⟩
def flatV:V→Bool
 | .non=>true
 | .bl _=>true
 | .int _=>true
 | .str _=>true
 | _=>false
def eqV:V→V→Bool
 | .non,.non=>true
 | .bl a,.bl b=>a == b
 | .bl a,.int b=>(if a then 1 else 0) == b
 | .int a,.bl b=>a == (if b then 1 else 0)
 | .int a,.int b=>a == b
 | .str a,.str b=>a == b
 | _,_=>false
theorem zaqs {A:Around}{s:Shared}{y x:V}{u v:Value} (ry:RelV y u) (rx:RelV x v) (fy:flatV y=true) (fx:flatV x=true):SeqAt.EqAt A s u v (eqV y x):=by
 cases y with
 | non =>
  cases ry
  cases x with
  | non=>cases rx; exact SeqAt.EqAt.same _
  | bl b=>cases rx; exact SeqAt.EqAt.none_bool b
  | int b=>obtain ⟨t,rfl⟩:=rx; exact SeqAt.EqAt.none_int b t
  | str b=>obtain ⟨t,rfl⟩:=rx; exact SeqAt.EqAt.none_str b t
  | _=>exact absurd (show false=true from fx) Bool.false_ne_true
 | bl a =>
  cases ry
  cases x with
  | non=>cases rx; exact SeqAt.EqAt.bool_none a
  | bl b=>cases rx; exact SeqAt.EqAt.bool_bool a b
  | int b=>obtain ⟨t,rfl⟩:=rx; exact SeqAt.EqAt.bool_int a b t
  | str b=>obtain ⟨t,rfl⟩:=rx; exact SeqAt.EqAt.bool_str a b t
  | _=>exact absurd (show false=true from fx) Bool.false_ne_true
 | int a =>
  obtain ⟨t',rfl⟩:=ry
  cases x with
  | non=>cases rx; exact SeqAt.EqAt.int_none a t'
  | bl b=>cases rx; exact SeqAt.EqAt.int_bool a t' b
  | int b=>obtain ⟨t,rfl⟩:=rx; exact SeqAt.EqAt.int_int a t' b t
  | str b=>obtain ⟨t,rfl⟩:=rx; exact SeqAt.EqAt.int_str a t' b t
  | _=>exact absurd (show false=true from fx) Bool.false_ne_true
 | str a =>
  obtain ⟨t',rfl⟩:=ry
  cases x with
  | non=>cases rx; exact SeqAt.EqAt.str_none a t'
  | bl b=>cases rx; exact SeqAt.EqAt.str_bool a t' b
  | int b=>obtain ⟨t,rfl⟩:=rx; exact SeqAt.EqAt.str_int a t' b t
  | str b=>obtain ⟨t,rfl⟩:=rx; exact SeqAt.EqAt.str_str a t' b t
  | _=>exact absurd (show false=true from fx) Bool.false_ne_true
 | _=>exact absurd (show false=true from fy) Bool.false_ne_true
def eqU (x:V) (u:Value):Bool:=match u with
 | .none=>eqV .non x
 | .bool b=>eqV (.bl b) x
 | .int i _=>eqV (.int i) x
 | .str z _=>eqV (.str z) x
 | _=>false
theorem zang {x y:V}{u:Value} (r:RelV y u) (f:flatV y=true):eqU x u=eqV y x:=by
 cases y with
 | non=>cases r; rfl
 | bl b=>cases r; rfl
 | int i=>obtain ⟨t,rfl⟩:=r; rfl
 | str z=>obtain ⟨t,rfl⟩:=r; rfl
 | _=>exact absurd (show false=true from f) Bool.false_ne_true
theorem zafo {x:V}:∀ {xs:List V}{us:List Value},Vals xs us→xs.all flatV=true→us.any (eqU x)=xs.any fun y=>eqV y x
 | _,_,.nil,_=>rfl
 | y :: xs,u :: us,.cons r t,f=>by
  rw [List.all_cons,Bool.and_eq_true] at f
  rw [List.any_cons,List.any_cons,zang r f.1,zafo t f.2]
theorem zaeo {A:Around}{s:Shared}{x:V}{v:Value} (rx:RelV x v) (fx:flatV x=true):∀ {xs:List V}{us:List Value},Vals xs us→xs.all flatV=true→∀ u∈us,SeqAt.EqAt A s u v (eqU x u)
 | _,_,.nil,_=>fun u hu=>by cases hu
 | y :: xs,u :: us,.cons r t,f=>fun u' hu=>by
  rw [List.all_cons,Bool.and_eq_true] at f
  rcases List.mem_cons.mp hu with rfl | hu
  ·rw [zang r f.1]; exact zaqs r rx f.1 fx
  ·exact zaeo rx fx t f.2 u' hu
def inV (x:V) (xs:List V):Bool:=xs.any fun y=>eqV y x
def rIn (K:PySem.W.Frag) (neg:Bool):R2:=fun x y H Q=>∃ p xs,y=.ref p∧(SqL K H p xs∨SqT K H p xs)∧flatV x=true∧xs.all flatV=true∧Q (.bl (if neg then !inV x xs else inV x xs)) H
theorem zaep:OpR X (compareOp .In) (rIn X.K false):=by
 intro pins s σ H x y v u Q I rx ry h
 obtain ⟨p,xs,rfl,hq,fx,fs,q⟩:=h
 cases ry
 rcases hq with hq | hq
 ·obtain ⟨its,r,pl,hz⟩:=I.list hq
  refine SeqAt.in_listAt (eqU x) pl.isList (fun w hw=>zaeo rx fx r fs w (by simpa using hw)) ⟨.bl _,H,I,rfl,?_⟩
  rw [show its.toArray.any (eqU x)=its.any (eqU x) by simp,zafo r fs]
  exact q
 ·obtain ⟨its,r,pl,hz⟩:=I.tuple hq
  refine SeqAt.in_tupleAt (eqU x) pl (fun w hw=>zaeo rx fx r fs w (by simpa using hw)) ⟨.bl _,H,I,rfl,?_⟩
  rw [show its.toArray.any (eqU x)=its.any (eqU x) by simp,zafo r fs]
  exact q
theorem zad7:OpR X (compareOp .NotIn) (rIn X.K true):=by
 intro pins s σ H x y v u Q I rx ry h
 obtain ⟨p,xs,rfl,hq,fx,fs,q⟩:=h
 cases ry
 rcases hq with hq | hq
 ·obtain ⟨its,r,pl,hz⟩:=I.list hq
  refine SeqAt.notIn_listAt (eqU x) pl.isList (fun w hw=>zaeo rx fx r fs w (by simpa using hw)) ⟨.bl _,H,I,rfl,?_⟩
  rw [show its.toArray.any (eqU x)=its.any (eqU x) by simp,zafo r fs]
  exact q
 ·obtain ⟨its,r,pl,hz⟩:=I.tuple hq
  refine SeqAt.notIn_tupleAt (eqU x) pl (fun w hw=>zaeo rx fx r fs w (by simpa using hw)) ⟨.bl _,H,I,rfl,?_⟩
  rw [show its.toArray.any (eqU x)=its.any (eqU x) by simp,zafo r fs]
  exact q
theorem zaam:CallR X (.builtin "len") (fun xs H Q=>∃ p ys,xs=[.ref p]∧(SqL X.K H p ys∨SqT X.K H p ys)∧Q (.int ys.length) H):=by
 intro pins s σ H xs us Q I r h
 obtain ⟨p,ys,rfl,hq,q⟩:=h
 obtain ⟨u,rfl,rx⟩:=vals1 r
 cases rx
 have hn:=line63
 rcases hq with hq | hq
 ·obtain ⟨its,r',pl,hz⟩:=I.list hq
  have hlen:=r'.length
  exact Calls.call_len_list pl.isList (by simp only [List.size_toArray] <;> omega) ⟨.int ys.length,H,I.tok _,⟨s.toks + 1,by rw [List.size_toArray,hlen]⟩,q⟩
 ·obtain ⟨its,r',pl,hz⟩:=I.tuple hq
  have hlen:=r'.length
  exact len_tuple pl (by simp only [List.size_toArray] <;> omega) ⟨.int ys.length,H,I.tok _,⟨s.toks + 1,by rw [List.size_toArray,hlen]⟩,q⟩
theorem zab9:CallR X (.type "list") (fun xs H Q=>∃ p ys,xs=[.ref p]∧(SqL X.K H p ys∨SqT X.K H p ys)∧∀ l,H l=none→Q (.ref l) (upd H l (.lst ys))):=by
 intro pins s σ H xs us Q I r h
 obtain ⟨p,ys,rfl,hq,q⟩:=h
 obtain ⟨u,rfl,rx⟩:=vals1 r
 cases rx
 have fin:∀ (its:List Value),Vals ys its→ys.length≤sizeLine→∀ (h':Heap) (c':Nat),(∀ b o',s.heap.get? b=some o'→h'.get? b=some o') →
   h'.get? s.heap.objs.size=some { cls:=.type "list",dict:=none,data:=.seq its.toArray c',slots:=#[] }→EP X pins σ Q (.ref s.heap.objs.size) { s with heap:=h' }:=fun its r' hz h' c' kp e =>
  ⟨.ref s.heap.objs.size,_,I.laid (t':=s.toks) kp (Nat.le_refl _) (show ObjOk X.prog X.w _ h' _ (.lst ys) from ⟨hz,its,c',r',e⟩),rfl,q _ (I.hok.fresh (Nat.le_refl _))⟩
 rcases hq with hq | hq
 ·obtain ⟨its,r',pl,hz⟩:=I.list hq
  have hlen:=r'.length
  obtain ⟨o,ho,hc,n,hd⟩:=pl.isList
  exact call_list_seq p (.inl rfl) ho hc hd (fun h' c' kp e=>fin its r' hz h' c' kp e) (by simp only [List.size_toArray] <;> omega)
 ·obtain ⟨its,r',pl,hz⟩:=I.tuple hq
  have hlen:=r'.length
  obtain ⟨o,ho,hc,n,hd⟩:=pl
  exact call_list_seq p (.inr rfl) ho hc hd (fun h' c' kp e=>fin its r' hz h' c' kp e) (by simp only [List.size_toArray] <;> omega)
theorem zabo:CallR X (.type "tuple") (fun xs H Q=>∃ p ys,xs=[.ref p]∧((SqL X.K H p ys∧∀ l,H l=none→Q (.ref l) (upd H l (.tup ys)))∨(SqT X.K H p ys∧Q (.ref p) H))):=by
 intro pins s σ H xs us Q I r h
 obtain ⟨p,ys,rfl,h⟩:=h
 obtain ⟨u,rfl,rx⟩:=vals1 r
 cases rx
 rcases h with ⟨hq,q⟩ | ⟨hq,q⟩
 ·obtain ⟨its,r',pl,hz⟩:=I.list hq
  have hlen:=r'.length
  refine call_tuple_list pl.isList (fun h' kp=>?_) (by simp only [List.size_toArray] <;> omega)
  have I1:Inv X pins σ H { s with heap:=h' }:=I.kept (t':=s.toks) kp
  have I2:Inv X pins σ (upd H h'.objs.size (.tup ys)) { s with heap:=h'.push { cls:=.type "tuple",data:=.seq its.toArray } } :=
   I1.laid (t':=s.toks) (fun b o e=>Heap.get?_push_of_some _ e) (Nat.le_refl _) (show ObjOk X.prog X.w _ _ _ (.tup ys) from ⟨hz,its,r',IsTup.new _ _⟩)
  exact ⟨.ref h'.objs.size,_,I2,rfl,q _ (I1.hok.fresh (Nat.le_refl _))⟩
 ·obtain ⟨its,r',pl,hz⟩:=I.tuple hq
  exact call_tuple_same pl ⟨.ref p,H,I,rfl,q⟩
def tyV (K:PySem.W.Frag) (T:String) (x:V) (H:Hp):Prop:=match x with
 | .str _=>T = "str"
 | .int _=>T = "int"
 | .ref p=>(T = "list" ∧ ∃ xs,SqL K H p xs)∨(T = "tuple" ∧ ∃ o,K.lookup p=some o∧o.cls=.type "tuple" ∧ o.dict=none) ∨
   (T = "dict" ∧ ((∃ kvs,H p=some (.dK kvs))∨∃ kvs,H p=some (.dT kvs)))∨(T = "set" ∧ ∃ S n,H p=some (.set S n))
 | _=>False
theorem zaqt {pins:List (Addr × Obj)}{σ:St}{H:Hp}{s:Shared}{T:String}{x:V}{v:Value} (I:Inv X pins σ H s) (r:RelV x v) (ty:tyV X.K T x H) :
  s.TypeIs v T∧∀ a,v=.ref a→∃ ob,s.heap.get? a=some ob∧ob.dict=none:=by
 cases x with
 | str z =>
  obtain ⟨t,rfl⟩:=r
  cases (show T = "str" from ty)
  exact ⟨typeIs_str s z t,fun _ e=>nomatch e⟩
 | int i =>
  obtain ⟨t,rfl⟩:=r
  cases (show T = "int" from ty)
  exact ⟨typeIs_int s i t,fun _ e=>nomatch e⟩
 | ref p =>
  cases r
  rcases ty with ⟨rfl,xs,hq⟩ | ⟨rfl,o,hk,hc,hd⟩ | ⟨rfl,hk⟩ | ⟨rfl,S,n,hk⟩
  ·obtain ⟨its,_,pl,_⟩:=I.list hq
   refine ⟨pl.isList.typeIs,fun a e=>?_⟩
   cases e
   obtain ⟨o,n,e,c,hd,_⟩:=pl
   exact ⟨o,e,hd⟩
  ·refine ⟨⟨o,I.kIn p o hk,hc⟩,fun a e=>?_⟩
   cases e
   exact ⟨o,I.kIn _ o hk,hd⟩
  ·have z:∃ o,s.heap.get? p=some o∧o.ExactDict:=by
    rcases hk with ⟨kvs,hk⟩ | ⟨kvs,hk⟩
    ·obtain ⟨_,_,_,_,o,_,_,e,ex,_⟩:=I.hok p _ hk
     exact ⟨o,e,ex⟩
    ·obtain ⟨_,_,_,_,o,_,_,e,ex,_⟩:=I.hok p _ hk
     exact ⟨o,e,ex⟩
   obtain ⟨o,e,ex⟩:=z
   refine ⟨⟨o,e,ex.1⟩,fun a e2=>?_⟩
   cases e2
   exact ⟨o,e,ex.2.1⟩
  ·obtain ⟨o,_,_,_,e,ex,_⟩:=I.hok p _ hk
   refine ⟨⟨o,e,ex.1⟩,fun a e2=>?_⟩
   cases e2
   exact ⟨o,e,ex.2.1⟩
 | _=>exact False.elim ty
def tBM (K:PySem.W.Frag) (T:String) (r:V→List V→Hp→VK→Prop) (to:TE) (t:TA):TE:=fun σ H Q=>to σ H fun x H1=>tyV K T x H1∧t σ H1 fun xs H2=>r x xs H2 Q
variable {o e:Expr}{es:List Expr}{to:TE}{t:TA}{name:Str}{apos cpos:Pos}{T id:String}{r:V→List V→Hp→VK→Prop}
theorem zasb (pa:PlainAttrs T) (slot:Slot T name id) (hty:typeOf (.builtin id)=pure (.type "method_descriptor")) (hm:MtR X id r) (ho:PE X o to) (ha:PA X (e :: es) t)
  (hbase:attributeBase o name X.env (eval o X.env)=eval o X.env:=by rfl)
  (hfew:((backTo cpos (starEach (e :: es) X.env)).all (fun x=>!x.1) && (backToKw cpos (keywordEach [] X.env)).all (fun x=>x.1.isSome)
   && decide ((e :: es).length + ([]:List Keyword).length + (if ([]:List Keyword).isEmpty then 0 else 1) < 30))=true:=by rfl)
  (hline:(apos.endLine == cpos.line)=true:=by rfl) (hs:starEach (e :: es) X.env=(false,eval e X.env) :: starEach es X.env:=by rfl) (hplain:(backTo cpos (starEach es X.env)).any (·.1)=false:=by rfl) :
  PE X (.Call (.Attribute o name apos) (e :: es) [] cpos) (tBM X.K T r to t):=by
 intro pins s σ H Q I h
 refine wpAny_Call_method_late hbase hfew hline rfl (thn (ho pins s σ H _ I h) fun v s1 ⟨x,H1,I1,r1,ty,q1⟩=>?_)
 obtain ⟨h1,h2⟩:=zaqt I1 r1 ty
 refine ⟨T,id,pa,slot,hty,h1,h2,?_⟩
 have hA:=ha cpos pins s1 σ H1 _ I1 q1
 rw [hs] at hA ⊢
 refine Calls.callWith_builtin (by show (false || (backTo cpos (starEach es X.env)).any (·.1))=false; rw [hplain] <;> rfl) (Calls.evalArgs_plain ?_)
 exact thn hA fun us s2 ⟨vs,H2,I2,r2,q2⟩=>hm pins s2 σ H2 x vs v us Q I2 r1 r2 q2
end
def MtM (X:Cx) (id:String) (r:V→List V→Hp→VK→Prop):Prop :=
 ∀ (pins:List (Addr × Obj)) (s:Shared) (σ:St) (H:Hp) (x:V) (xs:List V) (v:Value) (us:List Value) (Q:VK),Inv X pins σ H s→RelV x v→Vals xs us→r x xs H Q →
  wpAny (model X.prog X.w) X.A (call (.builtin id) (v :: us)) (EP X pins σ Q) X.xe s
theorem Vals.one:∀ {x:V}{us:List Value},Vals [x] us→∃ u,us=[u]∧RelV x u
 | _,_,.cons r .nil=>⟨_,rfl,r⟩
theorem Vals.eraseIdx:∀ {xs:List V}{us:List Value} (i:Nat),Vals xs us→Vals (xs.eraseIdx i) (us.eraseIdx i)
 | _,_,_,.nil=>.nil
 | _,_,0,.cons _ t=>t
 | _,_,i + 1,.cons r t=>.cons r (Vals.eraseIdx i t)
theorem Vals.rep {xs:List V}{us:List Value} (h:Vals xs us):∀ k:Nat,Vals (List.replicate k xs).flatten (List.replicate k us).flatten
 | 0=>.nil
 | k + 1=>by
  rw [List.replicate_succ,List.replicate_succ,List.flatten_cons,List.flatten_cons]
  exact Vals.append h (Vals.rep h k)
theorem zag8 {α:Type}:∀ (l:List α) (i:Nat),(l.eraseIdx i).length≤l.length
 | [],_=>Nat.le_refl _
 | _ :: _,0=>Nat.le_succ _
 | _ :: r,i + 1=>Nat.succ_le_succ (zag8 r i)
theorem zag9 (its:List Value):∀ (k:Nat) (acc:List Value),
  List.foldl (fun x1 x2=>x1++x2) acc.toArray (List.replicate k its.toArray)=(acc++(List.replicate k its).flatten).toArray
 | 0,acc=>by simp
 | k + 1,acc=>by
  have e:acc.toArray++its.toArray=(acc++its).toArray:=by simp
  have e2:(acc++its)++(List.replicate k its).flatten=acc++(List.replicate (k + 1) its).flatten:=by
   rw [List.replicate_succ,List.flatten_cons,List.append_assoc]
  rw [← e2,← zag9 its k (acc++its),← e,List.replicate_succ,List.foldl_cons]
section
variable {X:Cx}{pins:List (Addr × Obj)}{σ:St}{H:Hp}{s:Shared}{l b:Addr}{xs ys zs:List V}
theorem Inv.lset {its its':List Value}{n:Nat}{f:Array Value→Array Value}{t':Nat} (I:Inv X pins σ H s) (hH:H l=some (.lst xs))
  (e:s.heap.get? l=some { cls:=.type "list",data:=.seq its.toArray n }) (hf:f its.toArray=its'.toArray) (hv:Vals ys its') (hz:ys.length≤sizeLine) :
  Inv X pins σ (upd H l (.lst ys)) { s with heap:=s.heap.update l (Obj.mapSeq f),toks:=t' }:=by
 have q:=PySem.IsL.update e f
 rw [hf] at q
 refine I.write (x:=l) (e:=l) (by rw [hH]; exact trivial) (.inl rfl) (fun b' u hb hu=>(Heap.get?_update_other s.heap (Obj.mapSeq f) (Ne.symm hb)).trans hu) ⟨_,q⟩ ?_
 exact ⟨hz,its',_,hv,q⟩
theorem Inv.lnew {its:List Value}{t':Nat} (I:Inv X pins σ H s) (hv:Vals ys its) (hz:ys.length≤sizeLine) :
  Inv X pins σ (upd H s.heap.objs.size (.lst ys)) { s with heap:=s.heap.push { cls:=.type "list",data:=.seq its.toArray },toks:=t' } :=
 I.laid (fun _ _ q=>Heap.get?_push_of_some _ q) (Nat.le_refl _) ⟨hz,its,0,hv,Heap.get?_push_size _ rfl⟩
theorem Inv.fresh (I:Inv X pins σ H s):H s.heap.objs.size=none:=I.hok.fresh (Nat.le_refl _)
theorem Inv.lstM (I:Inv X pins σ H s) (hH:H l=some (.lst xs)):xs.length≤sizeLine∧∃ (its:List Value) (n:Nat),Vals xs its∧xs.length=its.length∧s.heap.get? l=some { cls:=.type "list",data:=.seq its.toArray n }:=by
 obtain ⟨z,its,n,r,e⟩:=I.hok l _ hH
 exact ⟨z,its,n,r,r.length,e⟩
theorem notLongL {n:Nat} (h:n≤sizeLine):Builtin.List.listTooLong n=false:=by
 unfold Builtin.List.listTooLong
 exact decide_eq_false (by omega)
end
section
variable {X:Cx}
def rAppend:V→List V→Hp→VK→Prop:=fun x vs H Q=>∃ l xs y,x=.ref l∧vs=[y]∧H l=some (.lst xs)∧xs.length < sizeLine∧Q .non (upd H l (.lst (xs++[y])))
theorem zade:MtM X "list.append" rAppend:=by
 intro pins s σ H x vs v us Q I rx rv h
 obtain ⟨l,xs,y,rfl,rfl,hH,hz,q⟩:=h
 cases rx
 obtain ⟨u,rfl,ru⟩:=rv.one
 obtain ⟨z,its,n,r,hl,e⟩:=I.lstM hH
 refine call_meets F.slot_list_append ⟨_,e,rfl⟩ F.entry_list_append (F.args_list_append_2 _ _) (PySem.list_append l its.toArray n u (by rw [List.size_toArray]; omega)) ⟨e,?_⟩
 refine ⟨.non,_,I.lset (its':=its++[u]) hH e (by simp) (r.append (.cons ru .nil)) ?_,rfl,q⟩
 rw [List.length_append,List.length_singleton]
 omega
def rPopAt:V→List V→Hp→VK→Prop:=fun x vs H Q=>∃ l xs i k y,x=.ref l∧vs=[.int i]∧H l=some (.lst xs)∧-(2 ^ 63)≤i∧i < 2 ^ 63∧seqIndex? i xs.length=some k∧xs[k]?=some y∧Q y (upd H l (.lst (xs.eraseIdx k)))
theorem zamj:MtM X "list.pop" rPopAt:=by
 intro pins s σ H x vs v us Q I rx rv h
 obtain ⟨l,xs,i,k,y,rfl,rfl,hH,h1,h2,hk,hy,q⟩:=h
 cases rx
 obtain ⟨u,rfl,ru⟩:=rv.one
 obtain ⟨t,rfl⟩:=ru
 obtain ⟨z,its,n,r,hl,e⟩:=I.lstM hH
 obtain ⟨w,hw,rw'⟩:=r.get hy
 refine call_meets F.slot_list_pop ⟨_,e,rfl⟩ F.entry_list_pop (F.args_list_pop_2 _ _)
  (MeetsSeq.list_pop_at l its.toArray n i t k w (fitsIndex_both h1 h2) (by rw [List.size_toArray,← hl]; exact hk) (by rw [← Array.getElem?_toList]; exact hw) (by rw [List.size_toArray]; omega)) ⟨e,?_⟩
 refine ⟨y,_,I.lset (its':=its.eraseIdx k) hH e ?_ (r.eraseIdx k) ?_,rw',q⟩
 ·show its.toArray.eraseIdxIfInBounds k=(its.eraseIdx k).toArray
  rw [List.eraseIdxIfInBounds_toArray]
 ·have:=zag8 xs k
  omega
def rCat:R2:=fun x y H Q=>∃ l b xs zs,x=.ref l∧y=.ref b∧H l=some (.lst xs)∧H b=some (.lst zs)∧xs.length + zs.length≤sizeLine∧∀ p,H p=none→Q (.ref p) (upd H p (.lst (xs++zs)))
theorem zace:OpR X (binaryOp .Add) rCat:=by
 intro pins s σ H x y v u Q I rx ry h
 obtain ⟨l,b,xs,zs,rfl,rfl,hH,hB,hz,q⟩:=h
 cases rx
 cases ry
 obtain ⟨z,its,n,r,hl,e⟩:=I.lstM hH
 obtain ⟨z2,its2,n2,r2,hl2,e2⟩:=I.lstM hB
 refine PySem.P.add_list e e2 ?_ (by rw [List.size_toArray,List.size_toArray]; omega)
 have ea:its.toArray++its2.toArray=(its++its2).toArray:=by simp
 rw [ea]
 exact ⟨.ref _,_,I.lnew (t':=s.toks) (r.append r2) (by rw [List.length_append]; omega),rfl,q _ I.fresh⟩
def rRep:R2:=fun x y H Q=>∃ l k xs,x=.ref l∧y=.int k∧H l=some (.lst xs)∧-(2 ^ 63)≤k∧k < 2 ^ 63∧xs.length * k.toNat≤sizeLine ∧
 ∀ p,H p=none→Q (.ref p) (upd H p (.lst (List.replicate k.toNat xs).flatten))
theorem zaom {α:Type} (xs:List α) (k:Nat):(List.replicate k xs).flatten.length=k * xs.length:=by
 induction k with
 | zero=>simp
 | succ k ih=>rw [List.replicate_succ,List.flatten_cons,List.length_append,ih,Nat.succ_mul,Nat.add_comm]
theorem zaqu:OpR X (binaryOp .Mult) rRep:=by
 intro pins s σ H x y v u Q I rx ry h
 obtain ⟨l,k,xs,rfl,rfl,hH,h1,h2,hz,q⟩:=h
 cases rx
 obtain ⟨t,rfl⟩:=ry
 obtain ⟨z,its,n,r,hl,e⟩:=I.lstM hH
 have hlen:its.toArray.size * k.toNat≤sizeLine:=by rw [List.size_toArray,← hl]; exact hz
 have hcap:¬ its.toArray.size * k.toNat > (2 ^ 63 - 1) / 8:=by
  have:(sizeLine:Nat)≤(2 ^ 63 - 1) / 8:=by decide
  omega
 have hfit:¬ (!Builtin.List.listFitsIndex k)=true:=by
  rw [fitsIndex_both h1 h2]
  exact Bool.false_ne_true
 have hlong:¬ Builtin.List.listTooLong (its.toArray.size * k.toNat)=true:=by
  rw [notLongL hlen]
  exact Bool.false_ne_true
 have hnew:List.foldl (fun x1 x2=>x1++x2) #[] (List.replicate (if its.toArray.isEmpty=true then 0 else k.toNat) its.toArray)=(List.replicate k.toNat its).flatten.toArray:=by
  have f0:∀ m:Nat,List.foldl (fun x1 x2=>x1++x2) #[] (List.replicate m its.toArray)=(List.replicate m its).flatten.toArray:=fun m=>by
   have:=zag9 its m []
   rw [List.nil_append] at this
   exact this
  rw [f0]
  cases its with
  | nil=>simp
  | cons a r'=>rw [if_neg (by simp)]
 refine wpAny_binaryOp_repeat_ref (T := "list") (U := "int") (by decide) ⟨_,e,rfl⟩ (fun s'=>typeIs_int s' k t) noFill_list_mul F.fills_int_mul F.slot_int_rmul repeat_list F.slot_int_index.lookup
  (call_meets F.slot_int_rmul (typeIs_int s k t) F.entry_int_rmul (F.args_int_rmul_2 _ _) (int___rmul___int_list k t l its.toArray n)
   ⟨e,rfl,⟨_,e,rfl⟩,call_meets F.slot_list_mul ⟨_,e,rfl⟩ F.entry_list_mul (F.args_list_mul_2 _ _) (AutoListH.list___mul___list_int_3 l its.toArray n k t hfit hcap hlong) ⟨e,?_⟩⟩)
 rw [hnew]
 exact ⟨.ref _,_,I.lnew (t':=s.toks) (r.rep k.toNat) (by rw [zaom,Nat.mul_comm]; exact hz),rfl,q _ I.fresh⟩
end
end L2
namespace Att
open PySem PySem.W PySem.Calls PyProof.Rows
theorem zafp {P:Params}{h:Heap}:∀ (ns:List Int) (vs:List Value),WellAll P h vs (ns.map WData.int)→IntsAre vs ns:=by
 intro ns
 induction ns with
 | nil =>
  intro vs w
  rw [List.map_nil] at w
  cases w
  exact .nil
 | cons n ns ih =>
  intro vs w
  rw [List.map_cons] at w
  cases w with
  | cons a b =>
   cases a
   exact .cons _ _ (ih _ b)
theorem zakh {l:OpenLaw}{n:Nat} (hn:l.most=some n) {P:Params}{h:Heap}{args:List WData}{vals:List Value}
  (hpre:l.row.toRowW.claim.pre args=true) (hwl:WellAll P h vals args) :
  ∃ a vs ns,vals=[Value.ref a]∧args=[WData.list (ns.map WData.int)]∧h.get? a=some { cls:=.type "list",data:=.seq vs.toArray }∧IntsAre vs ns∧ns.length≤n:=by
 have hsh:WShape.hasAll [] args [.list .int]=true:=(pre_splitW hpre).1
 have hc:l.pre.holds [] { args:=args }=true:=(pre_splitW hpre).2
 obtain ⟨d,r,rfl,h1,h2⟩:=hasAllW_cons hsh
 obtain rfl:=hasAllW_nil h2
 obtain ⟨xs,rfl,h3⟩:=hasW_list h1
 obtain ⟨ns,rfl⟩:=items_int h3
 have hlen:ns.length≤n:=by
  unfold OpenLaw.pre at hc
  have h4:(WTm.not (.lt (.lit (.int (n:Int))) (.len (.arg 0)))).holds [] { args:=[.list (ns.map .int)] }=true:=by
   have h4:=(holds_andW hc).1
   rw [hn] at h4
   exact h4
  have h5:=condW_of h4 (w_not (w_lt w_lit (w_len_list (w_arg rfl))))
  rw [List.length_map] at h5
  refine Nat.le_of_not_lt fun q=>?_
  have q':(n:Int) < ((ns.length:Nat):Int):=by omega
  first
   | (rw [decide_eq_true q'] at h5; exact absurd h5 (by decide))
   | (simp at h5; omega)
 cases hwl with
 | cons w1 w2 =>
  cases w2
  cases w1 with
  | list ho hall=>exact ⟨_,_,ns,rfl,rfl,ho,zafp ns _ hall,hlen⟩
theorem zaki (l:OpenLaw) (args:List WData):l.row.toRowW.claim.post args (.bool true) args=true :=
 postW_of (r:=l.row.toRowW) (X:=(true == true))
  (show WShape.has [] (.bool true) .bool=true by first | rfl | decide | simp [WShape.has,WShape.arms,WShape.armsAll])
  (show (WTm.eq .res (.lit (.bool true))).value [] { args:=args,res:=some (.bool true),after:=args }=some (.bool (true == true)) from w_eq_bool (w_res rfl) w_lit) rfl
theorem attach_call {l:OpenLaw}{n:Nat}{q:Program}{loose:List Str}{XP:(Str→Option Value)→Heap→Prop}{YP:World→Heap→Prop}{d:DefRec}
  (hn:l.most=some n) (hdf:d.params.defaults=[])
  (call:∀ (w:World) (s₀ s₁:Shared) (mg mb:Str→Option Value) (fa:Addr) (o:Obj) (pm cd doc:Value) (a:Addr) (vs:List Value) (ns:List Int),
   Ground q loose [] XP w s₀ mg mb s₁.heap→YP w s₁.heap →
   s₁.heap.get? fa=some o→o.data=.func (docDef d.name d.params d.body d.scope pm cd doc)→s₁.heap.CodeRec cd d.name→mg d.name=some (.ref fa) →
   s₁.heap.get? a=some { cls:=.type "list",data:=.seq vs.toArray }→IntsAre vs ns→ns.length≤n→s₁.gens=#[] →
   codeAny (model l.prog w) callerA (.call (.ref fa) ⟨[.ref a],[]⟩) (fun r s'=>r=.ok (.ret (.bool true))∧OldK s₁.heap s'.heap∧s'.os=s₁.os∧AllBare s'.gens) s₁) :
  WalkO q loose XP YP l.row.toRowW d [] (fun f vs=>PySem.call f vs):=by
 intro w s₀ s₁ mg mb G Y fa o pm cd doc dV kV ho hd hcd hD hmg hg args vals as hpre hlay hrd hwl hlo
 obtain rfl:dV=.none:=Dflts.none hD hdf
 obtain rfl:kV=.none:=Dflts.noKw hD
 obtain ⟨a,vs,ns,rfl,rfl,hobj,hints,hlen⟩:=zakh hn hpre hwl
 refine enter_call (codeAny_mono (call w s₀ s₁ mg mb fa o pm cd doc a vs ns G Y ho (fd_plain hd) hcd hmg hobj hints hlen hg) fun r s' hq=>?_)
 obtain ⟨rfl,h2,h3,h4⟩:=hq
 exact ⟨.inl ⟨.bool true,.bool true,[],rfl,fun _=>rfl,.bool true,zaki l _,fun _=>⟨List.Pairwise.nil,fun _ hm=>(nomatch hm)⟩⟩,h2,h3,h4⟩
end Att
namespace L2
open PySem PySem.Spec PyProof.Rows
theorem zaha:∀ {vs:List Value}{ns:List Int},IntsAre vs ns→Vals (ns.map V.int) vs
 | _,_,.nil=>.nil
 | _,_,.cons n t h=>.cons ⟨t,rfl⟩ (zaha h)
def Only (H:Hp):Prop:=∀ b,H b=none∨∃ o xs,H b=some (.frz o (.lst xs))
theorem zamk {P:Program}{w:World}{K:PySem.W.Frag}{mg mb:Str→Option Value}{CX:CXT}{k:Nat}{fa a:Addr}{fd:FuncData}{x:Str}{sp:Sp}{s₁:Shared}{vs:List Value}{ns:List Int}
  (KX:K.In s₁.heap) (hns:s₁.heap.Ns mainGlobals mg) (hb:s₁.heap.Ns builtinsNs mb) (hbb:∀ x:Str,x ≠ "__name__" → mb x=bootBuiltins x) (hlim:s₁.heap.NoLimit) (hg:s₁.gens=#[])
  (ha:s₁.heap.get? a=some { cls:=.type "list",data:=.seq vs.toArray }) (hi:IntsAre vs ns) (hl:ns.length≤sizeLine) (hr:Room k callerA)
  (F:∀ base:Heap,K.In base→base.Ns mainGlobals mg→FnOk P w K mg base CX k fa fd [x] sp) (hbind:∀ (s:Shared) (u:Value),BindsTo s fd ⟨[u],[]⟩ [(x,u)])
  (hsp:∀ H:Hp,Only H→SqL K H a (ns.map V.int)→sp [.ref a] H (fun v _=>v=.bl true) fun _ _ _=>False)
  (hCX:∀ H e s',CX [] H s₁ (fun _ _ _=>False) e s'→False) :
  codeAny (model P w) callerA (.call (.ref fa) ⟨[.ref a],[]⟩) (fun r s'=>r=.ok (.ret (.bool true))∧OldK s₁.heap s'.heap∧s'.os=s₁.os∧AllBare s'.gens) s₁:=by
 have rv:=zaha hi
 have lenV:=hi.length
 have core:∀ H:Hp,Only H→SqL K H a (ns.map V.int)→HOk P w H s₁.heap→(∀ b,H b≠none→b=a)→(H a≠none→K.lookup a=none) →
   codeAny (model P w) callerA (.call (.ref fa) ⟨[.ref a],[]⟩) (fun r s'=>r=.ok (.ret (.bool true))∧OldK s₁.heap s'.heap∧s'.os=s₁.os∧AllBare s'.gens) s₁:=by
  intro H hO hS hok hA hK
  have base_of:∀ {b:Addr}{o:Obj},s₁.heap.get? b=some o→H b=none→(hidT s₁.heap H).get? b=some o:=fun e n=>zal8 e n
  have noA:∀ {b:Addr}{o:Obj}{es:Array DictEntry}{ep:Nat},s₁.heap.get? b=some o→o.data=.dict es ep→H b=none:=fun {b o es ep} e d=>by
   cases q:H b with
   | none=>rfl
   | some u =>
    have e':b=a:=hA b (by rw [q]; simp)
    subst e'
    rw [ha] at e; cases e
    have d':Data.seq vs.toArray _=Data.dict es ep:=d
    cases d'
  have nsK:∀ {b:Addr}{m:Str→Option Value},s₁.heap.Ns b m→(hidT s₁.heap H).Ns b m:=fun {b m} ⟨o,es,ep,e,d,r⟩=>⟨o,es,ep,base_of e (noA e d),d,r⟩
  have hKb:K.In (hidT s₁.heap H):=fun b o e=>base_of (KX b o e) (by
   cases q:H b with
   | none=>rfl
   | some u =>
    have e':b=a:=hA b (by rw [q]; simp)
    subst e'
    rw [hK (by rw [q]; simp)] at e; cases e)
  have hM:Mod K mg (hidT s₁.heap H):=⟨hKb,nsK hns,⟨mb,nsK hb,hbb⟩,let ⟨mc,h1,h2⟩:=hlim; ⟨mc,nsK h1,h2⟩⟩
  have e0:Env0 P w K mg (hidT s₁.heap H) callerA [] s₁ H:=⟨rfl,hM,fun b o e=>zany e,Nat.le_of_eq (zajz _ _),trivial,fun b hb=>absurd (show b∈([]:List Addr) from hb) (by simp),hok,.of_eq hg⟩
  refine codeAny_mono ((F _ hKb (nsK hns)).run callerA [] s₁ H ⟨[.ref a],[]⟩ [.ref a] [.ref a] _ _ hr e0 (hbind s₁ (.ref a)) (.cons rfl .nil) (hsp H hO hS)) fun r s' h=>?_
  cases r with
  | error e=>exact (hCX H e s' h).elim
  | ok fl =>
   cases fl with
   | next=>exact False.elim h
   | brk=>exact False.elim h
   | cont=>exact False.elim h
   | ret u =>
    obtain ⟨v,H',os,bare,un,hok',r',q⟩:=h
    have q':v=.bl true:=q
    subst q'
    obtain rfl:u=Value.bool true:=r'
    refine ⟨rfl,OldK.of_keep fun b o e=>?_,os,bare⟩
    cases q:H b with
    | none=>exact un.keep b o e q (by intro z; exact absurd (show b∈([]:List Addr) from z) (by simp)) (by simp)
    | some u =>
     rcases hO b with z | ⟨ob,xs,z⟩
     ·rw [q] at z; cases z
     ·have z2:=un.frzs b ob _ z
      obtain ⟨e1,_⟩:=hok b _ z
      obtain ⟨e2,_⟩:=hok' b _ z2
      rw [e] at e1; cases e1
      exact e2
 cases hk:K.lookup a with
 | some o =>
  have e:=KX a o hk
  rw [ha] at e
  cases e
  refine core (fun _=>none) (fun _=>.inl rfl) (.inr ⟨_,vs.toArray,_,hk,rfl,rfl,rfl,by rw [List.size_toArray,lenV]; exact hl,by simpa using rv⟩) (fun b u z=>by have z':(none:Option HO)=some u:=z; cases z') (fun b z=>absurd rfl z) fun z=>absurd rfl z
 | none =>
  refine core (fun b=>if b=a then some (.frz { cls:=.type "list",data:=.seq vs.toArray } (.lst (ns.map V.int))) else none) (fun b=>?_) (.inl (.inr ⟨{ cls:=.type "list",data:=.seq vs.toArray },if_pos rfl⟩)) (fun b u z=>?_) (fun b z=>?_) fun _=>hk
  ·by_cases hb:b=a
   ·exact .inr ⟨_,_,if_pos hb⟩
   ·exact .inl (if_neg hb)
  ·by_cases hb:b=a
   ·have z':=(if_pos hb).symm.trans z
    cases z'
    subst hb
    exact ⟨ha,by rw [List.length_map]; exact hl,vs,_,rv,ha⟩
   ·have z':=(if_neg hb).symm.trans z
    cases z'
  ·by_cases hb:b=a
   ·exact hb
   ·exact absurd (if_neg hb) z
theorem zaon {l:PySem.W.OpenLaw}{n k:Nat}{q:Program}{loose:List Str}{XP:(Str→Option Value)→Heap→Prop}{YP:World→Heap→Prop}{d:DefRec}{K:Params→PySem.W.Frag}{CX:World→CXT}{sp:World→Sp}{x:Str}
  (hn:l.most=some n) (hn2:n≤sizeLine) (hdf:d.params.defaults=[]) (hr:Room k callerA)
  (hY:∀ (w:World) (h:Heap),YP w h→(K w.params).In h)
  (F:∀ (w:World) (mg:Str→Option Value) (fa:Addr) (h:Heap),(K w.params).In h→h.Ns mainGlobals mg→mg d.name=some (.ref fa) →
   ∃ fd:FuncData,(∀ (s:Shared) (u:Value),BindsTo s fd ⟨[u],[]⟩ [(x,u)]) ∧
    ∀ base:Heap,(K w.params).In base→base.Ns mainGlobals mg→FnOk l.prog w (K w.params) mg base (CX w) k fa fd [x] (sp w))
  (hsp:∀ (w:World) (H:Hp) (a:Addr) (ns:List Int),ns.length≤n→Only H→SqL (K w.params) H a (ns.map V.int)→sp w [.ref a] H (fun v _=>v=.bl true) fun _ _ _=>False)
  (hCX:∀ (w:World) (H:Hp) (s:Shared) (e:Value) (s':Shared),CX w [] H s (fun _ _ _=>False) e s'→False) :
  PySem.W.WalkO q loose XP YP l.row.toRowW d [] (fun f vs=>PySem.call f vs):=by
 refine Att.attach_call hn hdf fun w s₀ s₁ mg mb fa o pm cd doc a vs ns G Y ho hd hcd hmg hobj hints hlen hg=>?_
 have KX:=hY w _ Y
 obtain ⟨fd,hb,hF⟩:=F w mg fa _ KX G.T.g hmg
 exact zamk KX G.T.g G.T.b G.T.builtins G.T.nolimit hg hobj hints (Nat.le_trans hlen hn2) hr hF hb (fun H hO hS=>hsp w H a ns hlen hO hS) fun H e s'=>hCX w H s₁ e s'
theorem zaml {l:PySem.W.OpenLaw}{n k:Nat}{q:Program}{loose:List Str}{XP:(Str→Option Value)→Heap→Prop}{YP:World→Heap→Prop}{d:DefRec}{K:Params→PySem.W.Frag}{CX:CXT}{sp:PySem.W.Frag→Sp}{x:Str}
  (hn:l.most=some n) (hn2:n≤sizeLine) (hdf:d.params.defaults=[]) (hr:Room k callerA)
  (hY:∀ (w:World) (h:Heap),YP w h→(K w.params).In h)
  (F:∀ (w:World) (mg:Str→Option Value) (fa:Addr) (h:Heap),(K w.params).In h→h.Ns mainGlobals mg→mg d.name=some (.ref fa) →
   ∃ fd:FuncData,(∀ (s:Shared) (u:Value),BindsTo s fd ⟨[u],[]⟩ [(x,u)]) ∧
    ∀ base:Heap,(K w.params).In base→base.Ns mainGlobals mg→FnOk l.prog w (K w.params) mg base CX k fa fd [x] (sp (K w.params)))
  (hsp:∀ (K:PySem.W.Frag) (H:Hp) (a:Addr) (ns:List Int),ns.length≤n→Only H→SqL K H a (ns.map V.int)→sp K [.ref a] H (fun v _=>v=.bl true) fun _ _ _=>False)
  (hCX:∀ (H:Hp) (s:Shared) (e:Value) (s':Shared),CX [] H s (fun _ _ _=>False) e s'→False) :
  PySem.W.WalkO q loose XP YP l.row.toRowW d [] (fun f vs=>PySem.call f vs) :=
 zaon (K:=K) (CX:=fun _=>CX) (sp:=fun w=>sp (K w.params)) hn hn2 hdf hr hY F (fun w H a ns h1 h2 h3=>hsp (K w.params) H a ns h1 h2 h3) fun _ H s e s'=>hCX H s e s'
def inClass (s:Stmt) (j:Nat):Stmt:=match s with
 | .ClassDef _ _ _ body _ _ _ _ _ _ _=>body.getD j (.Pass ⟨0,0,0,0⟩)
 | _=>.Pass ⟨0,0,0,0⟩
def defArgs (s:Stmt):Arguments:=match s with
 | .FunctionDef _ a _ _ _ _ _ _ _ _=>a
 | _=>{ posonlyargs:=[],args:=[],vararg:=none,kwonlyargs:=[],kw_defaults:=[],kwarg:=none,defaults:=[] }
def defBody (s:Stmt):List Stmt:=match s with
 | .FunctionDef _ _ b _ _ _ _ _ _ _=>b
 | _=>[]
def defScope (s:Stmt):Scope:=match s with
 | .FunctionDef _ _ _ _ _ _ sc _ _ _=>sc
 | _=>{ kind:=.function,names:=[],isGenerator:=false,isCoroutine:=false }
abbrev CX0:CXT:=fun _ _ _ _ _ _=>False
abbrev E0:XK:=fun _ _ _=>False
theorem pass0 {X:Cx}:Passes CX0 X E0:=fun _ _ _ _ _ _ _ h=>h.elim
structure Fun (K:PySem.W.Frag) (x qual:Str) (st:Stmt) (f:Addr) (fd:FuncData):Prop where
 ex:∃ (oc:Value) (od:Option Addr) (kV doc pm:Value) (an:Option Addr) (cdv ct:Value) (osl:Array (Option Value)),
  fd=PySem.W.fnOf x qual (defArgs st) (defBody st) (defScope st) .none kV doc pm an cdv ct∧K.lookup f=some ⟨oc,od,.func fd,osl⟩∧PySem.W.codeIn K cdv qual=true
 kp:PySem.W.keepIn K (.ref f)=true
section
variable {P:Program}{w:World}{K:PySem.W.Frag}{mg:Str→Option Value}{base:Heap}
theorem Fun.ok {x qual:Str}{st:Stmt}{f:Addr}{fd:FuncData}{N ps:List Str}{k:Nat}{sp:Sp} (F:Fun K x qual st f fd) (S:FnScope N ps (defScope st)) (len:∀ vs H Q E,sp vs H Q E→vs.length=ps.length)
  (hbody:∀ (cdv:Value) (A:Around) (outer:List Env) (s:Shared) (H:Hp) (vs:List V) (Q:VK) (E:XK),Room k (A.deeper (envOfC qual (defScope st) s.heap.objs.size f cdv))→sp vs H Q E →
   ∃ t,PSs (cxOf CX0 P w K mg base N qual (defScope st) f cdv A outer s H E).nox (defBody st) t∧t { nx:=fun _ H'=>Q .non H',rt:=Q } (start N vs) H):FnOk P w K mg base CX0 (k + 1) f fd ps sp:=by
 obtain ⟨oc,od,kV,doc,pm,an,cdv,ct,osl,rfl,lk,hcd⟩:=F.ex
 refine zar9 lk hcd S len fun A outer s H vs Q E hr hsp=>?_
 obtain ⟨t,h,q⟩:=hbody cdv A outer s H vs Q E hr hsp
 exact ⟨t,h.nox,q⟩
theorem Fun.binds {x qual:Str}{st:Stmt}{f:Addr}{fd:FuncData}{ps:List Str} (F:Fun K x qual st f fd)
  (h:∀ (kV doc pm:Value) (an:Option Addr) (cdv ct:Value) (us:List Value),us.length=ps.length→bindArgs (PySem.W.fnOf x qual (defArgs st) (defBody st) (defScope st) .none kV doc pm an cdv ct) ⟨us,[]⟩=pure (ps.zip us)):Binds K fd ps []:=by
 obtain ⟨oc,od,kV,doc,pm,an,cdv,ct,osl,rfl,lk,hcd⟩:=F.ex
 exact .all (h kV doc pm an cdv ct)
theorem zabu {x qual:Str}{st:Stmt}{f:Addr}{oc:Value}{od an:Option Addr}{osl:Array (Option Value)}{kV doc pm cdv ct:Value} (l:K.lookup f=some ⟨oc,od,.func (PySem.W.fnOf x qual (defArgs st) (defBody st) (defScope st) .none kV doc pm an cdv ct),osl⟩)
  (c:PySem.W.codeIn K cdv qual=true) (k:PySem.W.keepIn K (.ref f)=true):Fun K x qual st f (PySem.W.fnOf x qual (defArgs st) (defBody st) (defScope st) .none kV doc pm an cdv ct):=⟨⟨oc,od,kV,doc,pm,an,cdv,ct,osl,rfl,l,c⟩,k⟩
end
theorem zahz {A:Around}{k:Nat} (hr:Room k A):A.units + 1 < cLine:=Nat.lt_of_le_of_lt (Nat.add_le_add_left (by decide:1≤64) _) hr.units
theorem iteF {A B:Prop} (h:B):if false=true then A else B:=by
 rw [if_neg Bool.false_ne_true]
 exact h
theorem iteT {A B:Prop} (h:A):if true=true then A else B:=by
 rw [if_pos rfl]
 exact h
theorem ite2 {c A B:Prop} [Decidable c] (h1:c→A) (h2:¬ c→B):if c then A else B:=by
 by_cases h:c
 ·rw [if_pos h]
  exact h1 h
 ·rw [if_neg h]
  exact h2 h
end L2

namespace L2
open PySem PySem.Spec PyProof.Rows
section
variable {κ:Type} [DecidableEq κ]
def valV (kvs:List (κ × V)) (k:κ):Option V:=(kvs.find? fun kv=>decide (kv.1=k)).map (·.2)
def putK (kvs:List (κ × V)) (k:κ) (v:V):List (κ × V) :=
 if (kvs.any fun kv=>decide (kv.1=k))=true then kvs.map (fun kv=>if kv.1=k then (kv.1,v) else kv) else kvs++[(k,v)]
theorem zacy {p:κ × V}{r:List (κ × V)}{k:κ} (e:p.1=k):valV (p :: r) k=some p.2:=by simp [valV,List.find?_cons,e]
theorem zacz {p:κ × V}{r:List (κ × V)}{k:κ} (e:¬ p.1=k):valV (p :: r) k=valV r k:=by simp [valV,List.find?_cons,e]
theorem zafd (k:κ):∀ kvs:List (κ × V),(kvs.any fun kv=>decide (kv.1=k))=(valV kvs k).isSome
 | []=>rfl
 | p :: r=>by
  rw [List.any_cons]
  by_cases e:p.1=k
  ·simp only [zacy e,decide_eq_true e,Bool.true_or,Option.isSome_some]
  ·rw [zacz e,decide_eq_false e,Bool.false_or]; exact zafd k r
theorem zaix (k j:κ) (y:V):∀ kvs:List (κ × V),valV (kvs.map fun kv=>if kv.1=k then (kv.1,y) else kv) j=(valV kvs j).map fun x=>if j=k then y else x
 | []=>rfl
 | p :: r=>by
  have ih:=zaix k j y r
  rw [List.map_cons]
  by_cases h:p.1=k
  ·rw [if_pos h]
   by_cases e:p.1=j
   ·rw [zacy (p:=(p.1,y)) e,zacy e,Option.map_some,if_pos (e.symm.trans h)]
   ·rw [zacz (p:=(p.1,y)) e,zacz e,ih]
  ·rw [if_neg h]
   by_cases e:p.1=j
   ·rw [zacy (p:=p) e,zacy e,Option.map_some,if_neg (fun z=>h (e.trans z))]
   ·rw [zacz (p:=p) e,zacz e,ih]
theorem zahb (k j:κ) (y:V):∀ kvs:List (κ × V),valV kvs k=none→valV (kvs++[(k,y)]) j=if j=k then some y else valV kvs j
 | [],_=>by
  by_cases e:k=j
  ·rw [if_pos e.symm]; exact zacy (p:=(k,y)) e
  ·rw [if_neg (fun z=>e z.symm)]; exact zacz (p:=(k,y)) e
 | p :: r,hn=>by
  rw [List.cons_append]
  have hk:¬ p.1=k:=fun z=>by rw [zacy z] at hn; cases hn
  rw [zacz hk] at hn
  have ih:=zahb k j y r hn
  by_cases e:p.1=j
  ·rw [zacy e,zacy e,if_neg (fun z=>hk (e.trans z))]
  ·rw [zacz e,zacz e,ih]
theorem zafe (kvs:List (κ × V)) (k j:κ) (y:V):valV (putK kvs k y) j=if j=k then some y else valV kvs j:=by
 unfold putK
 by_cases a:(kvs.any fun kv=>decide (kv.1=k))=true
 ·rw [if_pos a,zaix]
  rw [zafd] at a
  by_cases e:j=k
  ·obtain ⟨x,hx⟩:=Option.isSome_iff_exists.mp a
   rw [if_pos e,e,hx,Option.map_some,if_pos rfl]
  ·rw [if_neg e]
   cases valV kvs j with
   | none=>rfl
   | some x=>rw [Option.map_some,if_neg e]
 ·rw [if_neg a]
  refine zahb k j y kvs ?_
  rw [zafd] at a
  cases q:valV kvs k with
  | none=>rfl
  | some x=>rw [q] at a; exact (a rfl).elim
theorem zadf (kvs:List (κ × V)) (k:κ) (v:V):(putK kvs k v).length≤kvs.length + 1:=by
 unfold putK
 split
 ·rw [List.length_map]; omega
 ·rw [List.length_append,List.length_cons,List.length_nil]; omega
theorem RelO.isSome_eq {o:Option V}{u:Option Value} (r:RelO o u):o.isSome=u.isSome:=by
 cases o with
 | none=>cases u with
  | none=>rfl
  | some _=>exact (show False from r).elim
 | some _=>cases u with
  | none=>exact (show False from r).elim
  | some _=>rfl
theorem RelO.getD {o:Option V}{u:Option Value}{d:V}{d':Value} (r:RelO o u) (rd:RelV d d'):RelV (o.getD d) (u.getD d'):=by
 cases o with
 | none=>cases u with
  | none=>exact rd
  | some _=>exact (show False from r).elim
 | some _=>cases u with
  | none=>exact (show False from r).elim
  | some _=>exact r
theorem KV.val {kvs:List (κ × V)}{vs:List (κ × Value)} (r:KV kvs vs) (k:κ):RelO (valV kvs k) (valueAt vs k):=by
 unfold KV at r
 induction r with
 | nil=>exact True.intro
 | @cons p q ps qs h t ih =>
  obtain ⟨h1,h2⟩:=h
  by_cases e:p.1=k
  ·have e':q.1=k:=h1.symm.trans e
   have b:valueAt (q :: qs) k=some q.2:=by simp [valueAt,List.find?_cons,e']
   rw [zacy e,b]; exact h2
  ·have e':¬ q.1=k:=fun z=>e (h1.trans z)
   have b:valueAt (q :: qs) k=valueAt qs k:=by simp [valueAt,List.find?_cons,e']
   rw [zacz e,b]; exact ih
theorem KV.any {kvs:List (κ × V)}{vs:List (κ × Value)} (r:KV kvs vs) (k:κ):(kvs.any fun kv=>decide (kv.1=k))=vs.any fun kv=>decide (kv.1=k):=by
 unfold KV at r
 induction r with
 | nil=>rfl
 | cons h t ih=>rw [List.any_cons,List.any_cons,ih,h.1]
theorem KV.repl {kvs:List (κ × V)}{vs:List (κ × Value)} (r:KV kvs vs) (k:κ) {y:V}{u:Value} (ry:RelV y u) :
  KV (kvs.map fun kv=>if kv.1=k then (kv.1,y) else kv) (vs.map fun kv=>if kv.1=k then (kv.1,u) else kv):=by
 unfold KV at r ⊢
 induction r with
 | nil=>exact .nil
 | @cons p q ps qs h t ih =>
  rw [List.map_cons,List.map_cons]
  refine .cons ?_ ih
  obtain ⟨h1,h2⟩:=h
  by_cases e:p.1=k
  ·rw [if_pos e,if_pos (h1.symm.trans e)]; exact ⟨h1,ry⟩
  ·rw [if_neg e,if_neg (fun z=>e (h1.trans z))]; exact ⟨h1,h2⟩
theorem KV.put {kvs:List (κ × V)}{vs:List (κ × Value)} (r:KV kvs vs) (k:κ) {y:V}{u:Value} (ry:RelV y u):KV (putK kvs k y) (stored vs k u):=by
 unfold putK stored
 rw [r.any k]
 by_cases e:(vs.any fun kv=>decide (kv.1=k))=true
 ·rw [if_pos e,if_pos e]; exact r.repl k ry
 ·rw [if_neg e,if_neg e]; exact Paired.snoc r ⟨rfl,ry⟩
theorem KV.length {kvs:List (κ × V)}{vs:List (κ × Value)} (r:KV kvs vs):kvs.length=vs.length:=Paired.length r
end
theorem zaf9 {P:Program}{w:World}{k:Key}{u:Value} (r:RelV (kV k) u):(mixKind P w).is k u=true:=by
 cases k with
 | inl i=>obtain ⟨t,e⟩:=(show ∃ t,u=Value.int i t from r); subst e; exact zahu P w i t
 | inr x=>obtain ⟨t,e⟩:=(show ∃ t,u=Value.str x t from r); subst e; exact zahv P w x t
theorem zahc {P:Program}{w:World}:∀ {ks:List Key}{us:List Value},Vals (ks.map kV) us→ItemsAre (mixKind P w) ks us
 | [],_,r=>by rw [List.map_nil] at r; cases r; exact .nil
 | k :: ks,_,r=>by
  rw [List.map_cons] at r
  cases r with
  | cons h t=>exact .cons (zaf9 h) (zahc t)
abbrev KT (H:Hp):List (List Key × V)→List (List Key × Addr × Value)→Prop:=Paired fun p q=>p.1=q.1∧H q.2.1=some (.tup (p.1.map kV))∧RelV p.2 q.2.2
theorem KT.val {H:Hp}{kvs:List (List Key × V)}{xs:List (List Key × Addr × Value)} (r:KT H kvs xs) (k:List Key):RelO (valV kvs k) ((atKey xs k).map (·.2)):=by
 induction r with
 | nil=>exact True.intro
 | @cons p q ps qs h t ih =>
  obtain ⟨h1,_,h2⟩:=h
  by_cases e:p.1=k
  ·have e':q.1=k:=h1.symm.trans e
   have b:atKey (q :: qs) k=some q.2:=by simp [atKey,List.find?_cons,e']
   rw [zacy e,b]; exact h2
  ·have e':¬ q.1=k:=fun z=>e (h1.trans z)
   have b:atKey (q :: qs) k=atKey qs k:=by simp [atKey,List.find?_cons,e']
   rw [zacz e,b]; exact ih
theorem KT.repl {H:Hp}{kvs:List (List Key × V)}{xs:List (List Key × Addr × Value)} (r:KT H kvs xs) (k:List Key) {y:V}{u:Value} (ry:RelV y u) :
  KT H (kvs.map fun kv=>if kv.1=k then (kv.1,y) else kv) (xs.map (putAt k u)):=by
 induction r with
 | nil=>exact .nil
 | @cons p q ps qs h t ih =>
  rw [List.map_cons,List.map_cons]
  refine .cons ?_ ih
  obtain ⟨h1,h2,h3⟩:=h
  unfold putAt
  by_cases e:p.1=k
  ·rw [if_pos e,if_pos (h1.symm.trans e)]; exact ⟨h1,h2,ry⟩
  ·rw [if_neg e,if_neg (fun z=>e (h1.trans z))]; exact ⟨h1,h2,h3⟩
theorem KT.put {H:Hp}{kvs:List (List Key × V)}{xs:List (List Key × Addr × Value)} (r:KT H kvs xs) (k:List Key) {b:Addr}{y:V}{u:Value} (hb:H b=some (.tup (k.map kV))) (ry:RelV y u) :
  KT H (putK kvs k y) (storedH xs k b u):=by
 have e:(kvs.any fun kv=>decide (kv.1=k))=(atKey xs k).isSome:=by
  rw [zafd,(r.val k).isSome_eq,Option.isSome_map]
 unfold putK storedH
 rw [e]
 by_cases q:(atKey xs k).isSome=true
 ·rw [if_pos q,if_pos q]; exact r.repl k ry
 ·rw [if_neg q,if_neg q]; exact Paired.snoc r ⟨rfl,hb,ry⟩
theorem KT.keeps {H H':Hp}{kvs:List (List Key × V)}{xs:List (List Key × Addr × Value)} (r:KT H kvs xs) (ht:∀ b ys,H b=some (.tup ys)→H' b=some (.tup ys)):KT H' kvs xs :=
 Paired.mapP r fun _ _ z=>⟨z.1,ht _ _ z.2.1,z.2.2⟩
section
variable {P:Program}{w:World}{H:Hp}{h:Heap}{a:Addr}
theorem zaqv {u:HO} (ok:HOk P w H h) (e:Rd H a u):ObjOk P w H h a u:=e.ok ok
theorem zah0 {kvs:List (Key × V)} (ok:HOk P w H h) (e:Rd H a (.dK kvs)):kvs.length≤sizeLine∧(a == sysModules)=false∧∃ vs,KV kvs vs∧h.DictOf (mixKind P w) a vs :=
 show ObjOk P w H h a (.dK kvs) from zaqv ok e
theorem zaqw {kvs:List (Key × V)} (ok:HOk P w H h) (e:H a=some (.dK kvs)):kvs.length≤sizeLine∧(a == sysModules)=false∧∃ vs,KV kvs vs∧h.DictOf (mixKind P w) a vs:=zah0 ok (.inl e)
theorem zahd {ks:List Key} (ok:HOk P w H h) (e:H a=some (.tup (ks.map kV))):(tupleKind (mixKind P w)).is h ks a:=by
 obtain ⟨_,its,r,o,h1,h2,n,h3⟩:=(show ObjOk P w H h a (.tup (ks.map kV)) from ok a _ e)
 exact ⟨o,its.toArray,n,h1,h2,h3,by simpa using zahc r⟩
theorem zajn {kvs:List (List Key × V)} (ok:HOk P w H h) (e:Rd H a (.dT kvs)):kvs.length≤sizeLine∧(a == sysModules)=false ∧
  ∃ xs,KT H kvs xs∧h.DictOfH (tupleKind (mixKind P w)) a xs:=by
 obtain ⟨z,y,xs,r,o,es,ep,h1,h2,h3,h4,h5⟩:=(show ObjOk P w H h a (.dT kvs) from zaqv ok e)
 refine ⟨z,y,xs,r,o,es,ep,h1,h2,h3,h4,fun x hx=>?_,h5⟩
 have all:∀ {l:List (List Key × V)}{m:List (List Key × Addr × Value)},KT H l m→∀ x∈m,(tupleKind (mixKind P w)).is h x.1 x.2.1:=by
  intro l m q
  induction q with
  | nil=>intro x hx; exact nomatch hx
  | @cons p q ps qs hq t ih =>
   intro x hx
   rcases List.mem_cons.mp hx with e | hx
   ·subst e
    exact zahd ok (by rw [← hq.1]; exact hq.2.1)
   ·exact ih x hx
 exact all r x hx
theorem zasc {kvs:List (List Key × V)} (ok:HOk P w H h) (e:H a=some (.dT kvs)):kvs.length≤sizeLine∧(a == sysModules)=false ∧
  ∃ xs,KT H kvs xs∧h.DictOfH (tupleKind (mixKind P w)) a xs:=zajn ok (.inl e)
end
def DGet (H:Hp) (a:Addr) (y:V) (r:Option V):Prop :=
 (∃ kvs k,Rd H a (.dK kvs)∧y=kV k∧r=valV kvs k)∨∃ kvs k b,Rd H a (.dT kvs)∧y=.ref b∧H b=some (.tup (k.map kV))∧r=valV kvs k
def DPut (H:Hp) (a:Addr) (y v:V) (H':Hp):Prop :=
 (∃ kvs k,H a=some (.dK kvs)∧y=kV k∧kvs.length < sizeLine∧H'=upd H a (.dK (putK kvs k v))) ∨
 ∃ kvs k b,H a=some (.dT kvs)∧y=.ref b∧H b=some (.tup (k.map kV))∧kvs.length < sizeLine∧H'=upd H a (.dT (putK kvs k v))
theorem DGet.k {H:Hp}{a:Addr}{kvs:List (Key × V)}{k:Key} (e:H a=some (.dK kvs)):DGet H a (kV k) (valV kvs k):=.inl ⟨kvs,k,.inl e,rfl,rfl⟩
theorem DPut.k {H:Hp}{a:Addr}{kvs:List (Key × V)}{k:Key}{v:V} (e:H a=some (.dK kvs)) (hl:kvs.length < sizeLine):DPut H a (kV k) v (upd H a (.dK (putK kvs k v))):=.inl ⟨kvs,k,e,rfl,hl,rfl⟩
section
variable {X:Cx}{pins:List (Addr × Obj)}{σ:St}{H:Hp}{s:Shared}{a:Addr}{y v:V}{u r:Value}{o:Option V}{A:Around}{E:Value→Shared→Prop}
theorem Inv.big (I:Inv X pins σ H s):sysModules < s.heap.objs.size:=by
 have h:mainGlobals < s.heap.objs.size:=(I.mod.glob.keeps I.bk).lt
 exact Nat.lt_trans (by decide) h
theorem zakj {Q:Value→Shared→Prop} (hu:A.units + 1 < cLine) (I:Inv X pins σ H s) (g:DGet H a y (some v)) (ry:RelV y u) (h:∀ w' s',Inv X pins σ H s'→RelV v w'→Q w' s') :
  wpAny (model X.prog X.w) A (getItem (.ref a) u) Q E s:=by
 rcases g with ⟨kvs,k,e,ey,l⟩ | ⟨kvs,k,b,e,ey,eb,l⟩
 ·subst ey
  obtain ⟨z,hd,vs,rel,dd⟩:=zah0 I.hok e
  obtain ⟨w',hw,rw'⟩:=RelO.some_of (v:=v) (o:=valueAt vs k) (by rw [l]; exact rel.val k)
  exact wpAny_getItem_of (zaf9 ry) dd.mapOf hw (h w' _ (I.tok _) rw')
 ·subst ey
  cases (show u=Value.ref b from ry)
  obtain ⟨z,hd,xs,rel,dd⟩:=zajn I.hok e
  obtain ⟨w',hw,rw'⟩:=RelO.some_of (v:=v) (o:=(atKey xs k).map (·.2)) (by rw [l]; exact rel.val k)
  obtain ⟨p,hp,hp2⟩:=Option.map_eq_some_iff.mp hw
  refine wpAny_getItem_heap (tupleKind_room_in1 hu) (zahd I.hok eb) dd hp ?_
  rw [hp2]
  exact h w' _ (I.tok _) rw'
theorem d_in {Q:Value→Shared→Prop} (hu:A.units + 1 < cLine) (I:Inv X pins σ H s) (g:DGet H a y o) (ry:RelV y u) (h:∀ s',Inv X pins σ H s'→Q (.bool o.isSome) s') :
  wpAny (model X.prog X.w) A (compareOp .In u (.ref a)) Q E s:=by
 rcases g with ⟨kvs,k,e,ey,l⟩ | ⟨kvs,k,b,e,ey,eb,l⟩
 ·subst ey
  obtain ⟨z,hd,vs,rel,dd⟩:=zah0 I.hok e
  refine wpAny_in_of (zaf9 ry) hd dd.mapOf ?_
  rw [← (rel.val k).isSome_eq,← l]
  exact h _ (I.tok _)
 ·subst ey
  cases (show u=Value.ref b from ry)
  obtain ⟨z,hd,xs,rel,dd⟩:=zajn I.hok e
  refine wpAny_in_heap (tupleKind_room_in1 hu) (zahd I.hok eb) hd dd ?_
  have q:=(rel.val k).isSome_eq
  rw [Option.isSome_map] at q
  rw [← q,← l]
  exact h _ (I.tok _)
theorem zah1 {h':Heap}{t':Nat}{ob:HO} (I:Inv X pins σ H s) (mu:Mut (H a)) (hs:Heap.SameBut a s.heap h') (he:∃ q,h'.get? a=some q) (new:ObjOk X.prog X.w (upd H a ob) h' a ob) :
  Inv X pins σ (upd H a ob) { s with heap:=h',toks:=t' } :=
 I.write (x:=a) (e:=a) mu (.inl rfl) (fun b q hb z=>(hs.2 b hb).trans z) he new
theorem zanh {P:Program}{w:World}{H':Hp}{h':Heap}{kvs:List (Key × V)}{vs:List (Key × Value)} (z:kvs.length≤sizeLine) (hd:(a == sysModules)=false) (rel:KV kvs vs) (dd:h'.DictOf (mixKind P w) a vs) :
  ObjOk P w H' h' a (.dK kvs):=⟨z,hd,vs,rel,dd⟩
theorem zakk {H':Hp}{Q:Unit→Shared→Prop} (hu:A.units + 1 < cLine) (I:Inv X pins σ H s) (g:DPut H a y v H') (ry:RelV y u) (rv:RelV v r) (h:∀ s',Inv X pins σ H' s'→Q () s') :
  wpAny (model X.prog X.w) A (setItem (.ref a) u r) Q E s:=by
 rcases g with ⟨kvs,k,e,ey,l,eH⟩ | ⟨kvs,k,b,e,ey,eb,l,eH⟩
 ·subst ey eH
  obtain ⟨z,hd,vs,rel,dd⟩:=zaqw I.hok e
  have hz:vs.length≤sizeLine:=by rw [← rel.length]; exact z
  have hl:(putK kvs k v).length≤sizeLine:=by have:=zadf kvs k v; omega
  refine wpAny_setItem_pairs (hsz:=hz) (zaf9 ry) dd fun h' dd' hs=>h _ ?_
  have he:∃ q,h'.get? a=some q:=let ⟨q,_,_,hq,_⟩:=dd'; ⟨q,hq⟩
  exact zah1 I (by rw [e]; exact True.intro) hs he (zanh hl hd (rel.put k rv) dd')
 ·subst ey eH
  cases (show u=Value.ref b from ry)
  obtain ⟨z,hd,xs,rel,dd⟩:=zasc I.hok e
  have hz:xs.length≤sizeLine:=by rw [← Paired.length rel]; exact z
  have hl:(putK kvs k v).length≤sizeLine:=by have:=zadf kvs k v; omega
  refine wpAny_setItem_heap (hsz:=hz) (tupleKind_room_in1 hu) (zahd I.hok eb) dd fun h' dd' hs=>h _ ?_
  obtain ⟨q,es,ep,hq,h2,h3,h4,_,h5⟩:=dd'
  refine zah1 I (by rw [e]; exact True.intro) hs ⟨q,hq⟩ ⟨hl,hd,_,(rel.put k eb rv).keeps fun c ys ec=>?_,q,es,ep,hq,h2,h3,h4,h5⟩
  rw [zabs (zajy ec e (fun z=>nomatch z))]
  exact ec
end
def NoSl (i:Expr):Prop:=∀ ov iv,subscripted i false ov iv=operate [ov,iv] (getItem ov iv)
theorem zakl {prog:Program}{w:World}{A:Around}{E:Value→Shared→Prop}{s:Shared}{env:Env}{value slice:Expr}{pos:Pos}{T id:String}{Q:Value→Shared→Prop}
  (hl:typeLookup (.type T) "__getitem__" = pure (some (.builtin id))) (hs:NoSl slice)
  (h:wpAny (model prog w) A (eval value env) (fun o s₁=>wpAny (model prog w) A (eval slice env) (fun i s₂=>s₂.TypeIs o T∧wpAny (model prog w) A (getItem o i) Q E s₂) E s₁) E s) :
  wpAny (model prog w) A (eval (.Subscript value slice pos) env) Q E s:=by
 refine Subscript_ (wpAny_mono h (fun o s₁ h₁=>wpAny_mono h₁ (fun i s₂ h₂=>?_) fun _ _ x=>x) fun _ _ x=>x)
 obtain ⟨hT,h₂⟩:=h₂
 unfold subscriptTail
 refine wpAny_bind ?_
 rw [getitemInPython_of_ne hT.not_modules]
 refine wpAny_bind (wpAny_specialOf hT hl ?_)
 have fin:wpAny (model prog w) A (subscripted slice false o i) (fun r s₃=>wpAny (model prog w) A (letTemporaryGo value o r >>= fun _=>pure r) Q E s₃) E s₂:=by
  rw [hs o i]
  exact wpAny_operating (wpAny_mono h₂ (fun r s₃ h₃=>wpAny_bind (wpAny_letTemporaryGo (wpAny_pure h₃))) fun _ _ x=>x)
 first
  | exact wpAny_pure (wpAny_bind fin)
  | exact wpAny_bind (wpAny_pure (wpAny_bind fin))
  | exact wpAny_bind fin
theorem zah2 {X:Cx}{pins:List (Addr × Obj)}{σ:St}{H:Hp}{s:Shared}{a:Addr}{y:V}{o:Option V} (I:Inv X pins σ H s) (g:DGet H a y o):s.TypeIs (.ref a) "dict" := by
 rcases g with ⟨kvs,k,e,_,_⟩ | ⟨kvs,k,b,e,_,_,_⟩
 ·obtain ⟨_,_,vs,_,dd⟩:=zah0 I.hok e
  exact dd.typeIs
 ·obtain ⟨_,_,xs,_,dd⟩:=zajn I.hok e
  exact dd.typeIs
def tDGet (td ty:TE):TE:=fun σ H Q=>td σ H fun x H1=>ty σ H1 fun y H2=>∃ a v,x=.ref a∧DGet H2 a y (some v)∧Q v H2
def tDIn (ty td:TE):TE:=fun σ H Q=>ty σ H fun y H1=>td σ H1 fun x H2=>∃ a o,x=.ref a∧DGet H2 a y o∧Q (.bl o.isSome) H2
def sDPut (td ty tv:TE):TS:=fun D σ H=>tv σ H fun v H1=>td σ H1 fun x H2=>ty σ H2 fun y H3=>∃ a H4,x=.ref a∧DPut H3 a y v H4∧D.nx σ H4
section
variable {X:Cx}{o i e value:Expr}{pos pos' tpos:Pos}{td ty tv:TE}
theorem zaoo (hu:X.A.units + 1 < cLine) (ho:PE X o td) (hi:PE X i ty) (hs:NoSl i):PE X (.Subscript o i pos) (tDGet td ty):=by
 intro pins s σ H Q I h
 refine zakl PySem.F.slot_dict_getitem.lookup hs (thn (ho pins s σ H _ I h) fun u s1 ⟨x,H1,I1,rx,q1⟩=>thn (hi pins s1 σ H1 _ I1 q1) fun iv s2 ⟨y,H2,I2,ry,a,v,ex,g,q2⟩=>?_)
 subst ex
 obtain rfl:u=Value.ref a:=rx
 exact ⟨zah2 I2 g,zakj hu I2 g ry fun w' s3 I3 rw'=>⟨v,H2,I3,rw',q2⟩⟩
theorem zaqx (hu:X.A.units + 1 < cLine) (hi:PE X i ty) (ho:PE X o td):PC X .In i o (tDIn ty td):=by
 intro pins s σ H Q I h
 refine thn (hi pins s σ H _ I h) fun iv s1 ⟨y,H1,I1,ry,q1⟩=>thn (ho pins s1 σ H1 _ I1 q1) fun u s2 ⟨x,H2,I2,rx,a,ov,ex,g,q2⟩=>?_
 subst ex
 obtain rfl:u=Value.ref a:=rx
 exact d_in hu I2 g ry fun s3 I3=>⟨.bl ov.isSome,H2,I3,rfl,q2⟩
theorem zaop (hu:X.A.units + 1 < cLine) (ho:PE X o td) (hi:PE X i ty) (hv:PE X value tv) (hs:swapsWith value (some (.Subscript o i pos')) pos.line X.env=pure false) :
  PS X (.Assign [.Subscript o i pos'] value pos) (sDPut td ty tv):=by
 intro pins s σ H D I h
 refine wpAny_Assign_Subscript (thn (hv pins s σ H _ I h) fun r s1 ⟨v,H1,I1,rv,q1⟩=>thn (ho pins s1 σ H1 _ I1 q1) fun u s2 ⟨x,H2,I2,rx,q2⟩=>thn (hi pins s2 σ H2 _ I2 q2) fun iv s3 ⟨y,H3,I3,ry,a,H4,ex,g,q3⟩=>?_) hs
 subst ex
 obtain rfl:u=Value.ref a:=rx
 exact zakk hu I3 g ry rv fun s4 I4=>⟨σ,H4,I4,q3⟩
end
theorem zamm {P:Program}{w:World}{H:Hp} (h:Heap) (hb:sysModules < h.objs.size):ObjOk P w H (h.push { cls:=.type "dict",data:=.dict #[] }) h.objs.size (.dK []) :=
 ⟨Nat.zero_le _,beq_eq_false_iff_ne.mpr (Ne.symm (Nat.ne_of_lt hb)),[],.nil,Heap.DictOf.new h⟩
def tPairs:List (TE × TE)→St→Hp→(List (V × V)→Hp→Prop)→Prop
 | [],_,H,Q=>Q [] H
 | (tk,tv) :: r,σ,H,Q=>tk σ H fun x H1=>tv σ H1 fun y H2=>tPairs r σ H2 fun ps H3=>Q ((x,y) :: ps) H3
abbrev VV:List (V × V)→List (Value × Value)→Prop:=Paired fun p q=>RelV p.1 q.1∧RelV p.2 q.2
def PPs (X:Cx) (pos:Pos) (keys:List (Option Expr)) (values:List Expr) (trs:List (TE × TE)):Prop :=
 ∀ (pins:List (Addr × Obj)) (s:Shared) (σ:St) (H:Hp) (Q:List (V × V)→Hp→Prop),Inv X pins σ H s→tPairs trs σ H Q →
  wpAny (model X.prog X.w) X.A (evalPairs (pairTrees keys values X.env pos)) (fun vs s'=>∃ ps H',Inv X pins σ H' s'∧VV ps vs∧Q ps H') X.xe s
theorem zaoq {X:Cx}{pos:Pos}:PPs X pos [] [] []:=fun pins s σ H Q I h=>pairTrees_nil_walk ⟨[],H,I,.nil,h⟩
theorem zamn {X:Cx}{pos:Pos}{k v:Expr}{ks:List (Option Expr)}{vs:List Expr}{tk tv:TE}{trs:List (TE × TE)} (hk:PE X k tk) (hv:PE X v tv) (hr:PPs X pos ks vs trs) :
  PPs X pos (some k :: ks) (v :: vs) ((tk,tv) :: trs):=fun pins s σ H Q I h =>
 pairTrees_cons_walk (thn (hk pins s σ H _ I h) fun u s1 ⟨x,H1,I1,rx,q1⟩=>thn (hv pins s1 σ H1 _ I1 q1) fun w2 s2 ⟨y,H2,I2,ry,q2⟩ =>
  thn (hr pins s2 σ H2 _ I2 q2) fun ws s3 ⟨ps,H3,I3,rel,q3⟩=>⟨(x,y) :: ps,H3,I3,.cons ⟨rx,ry⟩ rel,q3⟩)
def mergeK (kvs more:List (Key × V)):List (Key × V):=more.foldl (fun acc kv=>putK acc kv.1 kv.2) kvs
theorem KV.merge:∀ {more:List (Key × V)}{rs:List (Key × Value)}{kvs:List (Key × V)}{vs:List (Key × Value)},KV more rs→KV kvs vs→KV (mergeK kvs more) (merged vs rs):=by
 intro more rs kvs vs r
 unfold KV at r
 induction r generalizing kvs vs with
 | nil=>intro q; exact q
 | @cons p q ps qs h t ih =>
  intro r0
  have e:KV (putK kvs p.1 p.2) (stored vs q.1 q.2):=by
   have:=r0.put p.1 h.2
   rw [← h.1]; exact this
  exact ih e
theorem zaeq:∀ (more kvs:List (Key × V)),(mergeK kvs more).length≤kvs.length + more.length
 | [],kvs=>by show kvs.length≤kvs.length + 0; omega
 | p :: r,kvs=>by
  have h1:=zaeq r (putK kvs p.1 p.2)
  have h2:=zadf kvs p.1 p.2
  show (mergeK (putK kvs p.1 p.2) r).length≤_
  rw [List.length_cons]; omega
theorem zafz {P:Program}{w:World}:∀ {kvs:List (Key × V)}{ws:List (Value × Value)},VV (kvs.map fun kv=>(kV kv.1,kv.2)) ws→∃ rs,Carries (mixKind P w) ws rs∧KV kvs rs
 | [],_,r=>by rw [List.map_nil] at r; cases r; exact ⟨[],True.intro,.nil⟩
 | p :: kvs,_,r=>by
  rw [List.map_cons] at r
  cases r with
  | @cons a b as bs h t =>
   obtain ⟨rs,c,q⟩:=zafz (P:=P) (w:=w) t
   obtain ⟨b1,b2⟩:=b
   exact ⟨(p.1,b2) :: rs,⟨zaf9 h.1,rfl,c⟩,.cons ⟨rfl,h.2⟩ q⟩
def tDisp (trs:List (TE × TE)):TE:=fun σ H Q=>∀ p,H p=none→tPairs trs σ (upd H p (.dK [])) fun ps H2=>H2 p=some (.dK [])∧∃ kvs:List (Key × V),ps=kvs.map (fun kv=>(kV kv.1,kv.2))∧kvs.length≤15∧Q (.ref p) (upd H2 p (.dK (mergeK [] kvs)))
theorem zaor {X:Cx}{pos:Pos}{keys:List (Option Expr)}{values:List Expr}{trs:List (TE × TE)} (h:PPs X pos keys values trs) (hall:keys.all (·.isSome)=true) (hl:keys.length=values.length) (h0:keys≠[])
  (h15:keys.length≤15):PE X (.Dict keys values pos) (tDisp trs):=by
 intro pins s σ H Q I q
 have hn:=I.hok.fresh (Nat.le_refl s.heap.objs.size)
 have I1:=I.laid (a:=s.heap.objs.size) (o:=.dK []) (h':=s.heap.push { cls:=.type "dict",data:=.dict #[] }) (t':=s.toks) (fun _ _ q=>Heap.get?_push_of_some _ q) (Nat.le_refl _) (zamm s.heap I.big)
 refine wpAny_Dict_walk (knd:=mixKind X.prog X.w) hall hl h0 h15 (thn (h pins _ σ _ _ I1 (q _ hn)) fun ws s2 ⟨ps,H2,I2,rel,e,kvs,ep,lk,q2⟩=>?_)
 subst ep
 obtain ⟨rs,c,rk⟩:=zafz (P:=X.prog) (w:=X.w) rel
 obtain ⟨z,hd,vs0,r0,dd⟩:=zaqw I2.hok e
 cases r0
 refine ⟨rs,c,dd,fun h' dd' hs=>⟨.ref s.heap.objs.size,_,?_,rfl,q2⟩⟩
 have hz:(mergeK [] kvs).length≤sizeLine:=by
  have h1:=zaeq kvs []
  rw [List.length_nil] at h1
  rw [sizeLine_eq]; omega
 have he:∃ q,h'.get? s.heap.objs.size=some q:=let ⟨q,_,_,hq,_⟩:=dd'; ⟨q,hq⟩
 exact zah1 I2 (by rw [e]; exact True.intro) hs he (zanh hz hd (rk.merge .nil) dd')
structure M2 (X:Cx) (o:Expr) (m:Str) (apos:Pos) (e f:Expr) (cpos:Pos):Prop where
 base:attributeBase o m X.env (eval o X.env)=eval o X.env
 few:((backTo cpos (starEach [e,f] X.env)).all (fun x=>!x.1) && (backToKw cpos (keywordEach [] X.env)).all (fun x=>x.1.isSome)
  && decide (([e,f]:List Expr).length + ([]:List Keyword).length + (if ([]:List Keyword).isEmpty then 0 else 1) < 30))=true
 line:(apos.endLine == cpos.line)=true
 trees:backTo cpos (starEach [e,f] X.env)=[(false,eval e X.env),(false,eval f X.env)]
def IsD (H:Hp) (a:Addr):Prop:=(∃ kvs,Rd H a (.dK kvs))∨∃ kvs,Rd H a (.dT kvs)
theorem zaqy {X:Cx}{pins:List (Addr × Obj)}{σ:St}{H:Hp}{s:Shared}{a:Addr} (I:Inv X pins σ H s) (d:IsD H a) :
  s.TypeIs (.ref a) "dict" ∧ (∀ b,Value.ref a=.ref b→∃ ob,s.heap.get? b=some ob∧ob.dict=none)∧(a == sysModules)=false:=by
 rcases d with ⟨kvs,e⟩ | ⟨kvs,e⟩
 ·obtain ⟨_,hd,vs,_,dd⟩:=zah0 I.hok e
  refine ⟨dd.typeIs,fun b q=>?_,hd⟩
  cases q
  obtain ⟨ob,_,_,h1,h2,_⟩:=dd
  exact ⟨ob,h1,h2.2.1⟩
 ·obtain ⟨_,hd,xs,_,dd⟩:=zajn I.hok e
  refine ⟨dd.typeIs,fun b q=>?_,hd⟩
  cases q
  obtain ⟨ob,_,_,h1,h2,_⟩:=dd
  exact ⟨ob,h1,h2.2.1⟩
section
variable {X:Cx}{pins:List (Addr × Obj)}{σ:St}{H:Hp}{s:Shared}{a:Addr}{y d:V}{u r:Value}{o:Option V}{A:Around}{E:Value→Shared→Prop}
theorem zaqz {Q:Value→Shared→Prop} (hu:A.units + 1 < cLine) (I:Inv X pins σ H s) (g:DGet H a y o) (ry:RelV y u) (rd:RelV d r) (h:∀ w' s',Inv X pins σ H s'→RelV (o.getD d) w'→Q w' s') :
  wpAny (model X.prog X.w) A (call (.builtin "dict.get") [.ref a,u,r]) Q E s:=by
 rcases g with ⟨kvs,k,e,ey,l⟩ | ⟨kvs,k,b,e,ey,eb,l⟩
 ·subst ey
  obtain ⟨z,hd,vs,rel,dd⟩:=zah0 I.hok e
  refine call_meetsIn PySem.F.slot_dict_get dd.typeIs PySem.F.entry_dict_get (PySem.F.args_dict_get_3 _ _ _) (meets_dict_get_default (mixKind X.prog X.w) a (zaf9 ry) hd r) ⟨_,dd.mapOf,h _ _ (I.tok _) ?_⟩
  rw [l]
  exact (rel.val k).getD rd
 ·subst ey
  cases (show u=Value.ref b from ry)
  obtain ⟨z,hd,xs,rel,dd⟩:=zajn I.hok e
  refine call_meetsIn PySem.F.slot_dict_get dd.typeIs PySem.F.entry_dict_get (PySem.F.args_dict_get_3 _ _ _) (meetsH_dict_get_default (tupleKind (mixKind X.prog X.w)) a b hd r) ⟨tupleKind_room_in1 hu,k,xs,zahd I.hok eb,dd,h _ _ (I.tok _) ?_⟩
  rw [l]
  exact (rel.val k).getD rd
end
def tDGet2 (td ty tx:TE):TE:=fun σ H Q=>td σ H fun x H1=>∃ a,x=.ref a∧IsD H1 a∧ty σ H1 fun y H2=>tx σ H2 fun z H3=>∃ o,DGet H3 a y o∧Q (o.getD z) H3
section
variable {X:Cx}{o e f:Expr}{apos cpos:Pos}{td ty tx:TE}
theorem zamo (hu:X.A.units + 1 < cLine) (ho:PE X o td) (he:PE X e ty) (hf:PE X f tx) (m:M2 X o "get" apos e f cpos):PE X (.Call (.Attribute o "get" apos) [e,f] [] cpos) (tDGet2 td ty tx):=by
 intro pins s σ H Q I h
 refine wpAny_Call_method m.base m.few m.line PySem.F.plainAttrs_dict PySem.F.slot_dict_get PySem.F.type_dict_get (thn (ho pins s σ H _ I h) fun u s1 ⟨x,H1,I1,rx,a,ex,d,q1⟩=>?_)
 subst ex
 obtain rfl:u=Value.ref a:=rx
 obtain ⟨t1,t2,_⟩:=zaqy I1 d
 refine ⟨t1,t2,?_⟩
 rw [m.trees]
 refine Calls.callWith_builtin rfl (Calls.evalArgs_plain (Calls.spliced_cons (thn (he pins s1 σ H1 _ I1 q1) fun iv s2 ⟨y,H2,I2,ry,q2⟩ =>
  Calls.spliced_cons (thn (hf pins s2 σ H2 _ I2 q2) fun fv s3 ⟨z,H3,I3,rz,ov,g,q3⟩=>Calls.spliced_nil ?_))))
 exact zaqz hu I3 g ry rz fun w' s4 I4 rw'=>⟨_,H3,I4,rw',q3⟩
end
end L2

namespace L2
open PySem PySem.Spec PyProof.Rows
structure DefOk (P:Program) (w:World) (K:PySem.W.Frag) (mg:Str→Option Value) (base:Heap) (CX:CXT) (k:Nat) (x:Str) (ps:List Str) (sp:Sp):Prop where
 ex:∃ (f:Addr) (fd:FuncData),FnOk P w K mg base CX k f fd ps sp∧Binds K fd ps []∧PySem.W.keepIn K (.ref f)=true∧mg x=some (.ref f)
theorem DefOk.mono {P:Program}{w:World}{K:PySem.W.Frag}{mg:Str→Option Value}{base:Heap}{CX:CXT}{j k:Nat}{x:Str}{ps:List Str}{sp:Sp} (D:DefOk P w K mg base CX j x ps sp) (h:j≤k):DefOk P w K mg base CX k x ps sp:=by
 obtain ⟨f,fd,F,b⟩:=D.ex
 exact ⟨f,fd,F.mono h,b⟩
section
variable {X:Cx}{CX:CXT}{k:Nat}{ps:List Str}{sp:Sp}{E:XK}{x:Str}{p pos:Pos}{e:Expr}{es:List Expr}{t:TA}
theorem zamp (D:DefOk X.prog X.w X.K X.mg X.base CX k x ps sp) (hr:Room k X.A) (hg:Gl X x) (hx:Passes CX X E) (ha:PA X (e :: es) t) (hdb:(x == ("__debug__" : Str))=false:=by decide)
  (he:starEach (e :: es) X.env=(false,eval e X.env) :: starEach es X.env:=by rfl) (hpl:(backTo pos (starEach es X.env)).any (·.1)=false:=by rfl) :
  PE X (.Call (.Name x p) (e :: es) [] pos) (tCall sp [] E t):=by
 obtain ⟨f,fd,F,b,kp,m⟩:=D.ex
 exact zaoh F hr hg m kp b .nil hx ha hdb he hpl
end
def CDivW (_ j:Int):Prop:=0 < j∧j < 2 ^ 64
theorem zab3 {X:Cx}:OpR X (binaryOp .FloorDiv) (rI CDivW fun i j=>.int (i / j)):=opI fun i j _ _ _ _ _ hc q=>by
 have h1:(0:Int) < j:=hc.1
 have h2:j < 2 ^ 64:=hc.2
 have h3:j.natAbs.log2 < 64:=(Nat.log2_lt (by omega)).mpr (by omega)
 exact floordiv_int (by omega) (by rw [Int.fdiv_eq_ediv_of_nonneg i (by omega)]; exact q) (.inl (PyProof.noPylong_of_log2 (by omega)))
def Ch (W:List Addr) (H H':Hp):Prop:=∀ b o,H b=some o→b ∉ W→H' b=some o
theorem Ch.refl (W:List Addr) (H:Hp):Ch W H H:=fun _ _ h _=>h
theorem Ch.trans {W:List Addr}{H H1 H2:Hp} (a:Ch W H H1) (b:Ch W H1 H2):Ch W H H2:=fun c o h n=>b c o (a c o h n) n
theorem Ch.get {W:List Addr}{H H':Hp}{b:Addr}{o:HO} (c:Ch W H H') (h:H b=some o) (n:b ∉ W):H' b=some o:=c b o h n
theorem Ch.mono {W W':List Addr}{H H':Hp} (c:Ch W H H') (h:∀ b∈W,b∈W'):Ch W' H H':=fun b o q n=>c b o q fun z=>n (h b z)
theorem Ch.wk {W:List Addr}{H H':Hp} (c:Ch [] H H'):Ch W H H':=c.mono fun b h=>nomatch h
theorem Ch.new {W:List Addr}{H:Hp}{p:Addr} (h:H p=none) (o:HO):Ch W H (upd H p o):=fun b u q _=>by rw [zabs (zaa7 q h)]; exact q
theorem Ch.put {H:Hp}{p:Addr}{o:HO}:Ch [p] H (upd H p o):=fun b u q n=>by rw [zabs (fun z=>n (by simp [z]))]; exact q
def Scr (K:PySem.W.Frag) (H:Hp) (a:Addr) (ns:List Int):Prop :=
 ns.length≤63∧((∃ o,H a=some (.frz o (.lst (ns.map V.int)))) ∨
  ∃ (o:Obj) (its:Array Value) (n:Nat),K.lookup a=some o∧o.cls=.type "list" ∧ o.dict=none∧o.data=.seq its n∧its.size≤sizeLine∧Vals (ns.map V.int) its.toList)
theorem Scr.sq {K:PySem.W.Frag}{H:Hp}{a:Addr}{ns:List Int} (S:Scr K H a ns):SqL K H a (ns.map V.int):=by
 rcases S.2 with ⟨o,h⟩ | h
 ·exact .inl (.inr ⟨o,h⟩)
 ·exact .inr h
theorem Scr.ch {K:PySem.W.Frag}{H H':Hp}{a b:Addr}{ns:List Int}{xs:List V} (S:Scr K H a ns) (hb:H b=some (.lst xs)) (c:Ch [b] H H'):Scr K H' a ns:=by
 refine ⟨S.1,?_⟩
 rcases S.2 with ⟨o,h⟩ | h
 ·exact .inl ⟨o,c.get h (by
   intro z
   have e:a=b:=by simpa using z
   subst e
   rw [h] at hb
   cases hb)⟩
 ·exact .inr h
theorem Scr.same {K:PySem.W.Frag}{H H':Hp}{a:Addr}{ns:List Int} (S:Scr K H a ns) (c:Ch [] H H'):Scr K H' a ns:=by
 refine ⟨S.1,?_⟩
 rcases S.2 with ⟨o,h⟩ | h
 ·exact .inl ⟨o,c.get h (by simp)⟩
 ·exact .inr h
theorem Scr.of {K:PySem.W.Frag}{H:Hp}{a:Addr}{ns:List Int} (h:SqL K H a (ns.map V.int)) (hl:ns.length≤63) (hO:Only H):Scr K H a ns:=by
 refine ⟨hl,?_⟩
 rcases h with (h | ⟨o,h⟩) | h
 ·rcases hO a with z | ⟨o,xs,z⟩
  ·rw [h] at z; cases z
  ·rw [h] at z; cases z
 ·exact .inl ⟨o,h⟩
 ·exact .inr h
theorem zaba {H:Hp}{p q:Addr}{o u:HO} (hq:H q=none) (h:H p=some o):upd H q u p=some o:=by rw [zabs (zaa7 h hq)]; exact h
theorem zahe {H:Hp}{p q:Addr}{o u:HO} (n:p≠q) (h:H p=some o):upd H q u p=some o:=by rw [zabs n]; exact h
structure Loop (J:It) (g:TG) (tb:TS) (D:Ends) (σ:St) (H:Hp):Prop where
 ex:∃ W:Nat→Nat→St→Hp→Prop,(∃ m,W 0 m σ H)∧∀ i m σ H,W i m σ H →
  (J.stop i H∧D.nx σ H)∨(J.go i H∧∃ N:St→Hp→Prop,(∀ σ' H',N σ' H'→∃ m',m' < m∧W (i + 1) m' σ' H')∧∀ x H',J.yld i H x H'→g x σ H' fun σ2 H2=>tb { D with nx:=N,ct:=N,bk:=D.nx } σ2 H2)
def tLoop (wi:TI) (g:TG) (tb:TS):TS:=fun D σ H=>wi σ H fun J H1=>Loop J g tb D σ H1
theorem zaos {X:Cx}{tg iter:Expr}{body:List Stmt}{wi:TI}{g:TG}{tb:TS}{pos:Pos} (hp:PassesOwn (model X.prog X.w) X.A X.env X.xe) (hc:X.calm=true) (hi:PI X tg iter wi) (hg:PG X tg g) (hb:PSs X body tb)
  (hs:∀ x,foldedSetIterable iter X.env x=pure x:=by intro _; rfl):PS X (.For tg iter body [] pos) (tLoop wi g tb):=by
 have hi':PI X tg iter (fun σ H R=>∃ R0:It→Hp→Prop,wi σ H R0∧∀ J H1,R0 J H1→R J H1):=by
  intro pins s σ H R I ⟨R0,h,m⟩
  refine thn (hi pins s σ H _ I h) fun v s1 h1=>thn h1 fun itv s2 h2=>?_
  obtain ⟨it,fp,tn,J,H2,e,I2,T,st2,f2,r⟩:=h2
  exact ⟨it,fp,tn,J,H2,e,I2,T,st2,f2,m _ _ r⟩
 intro pins s σ H D I h
 exact zaqk hp hc hi' hg hb hs pins s σ H D I ⟨_,h,fun J H1 l=>l.ex⟩
theorem zaer {K:PySem.W.Frag}{a:Addr}{xs:List V}{g:TG}{tb:TS}{D:Ends}{σ:St}{H:Hp} (Pv:Nat→St→Hp→Prop) (h0:Pv 0 σ H) (hl:∀ i σ H,i≤xs.length→Pv i σ H→SqL K H a xs)
  (hs:∀ i x σ H,xs[i]?=some x→Pv i σ H→g x σ H fun σ2 H2=>tb { D with nx:=Pv (i + 1),ct:=Pv (i + 1),bk:=D.nx } σ2 H2) (hd:∀ σ H,Pv xs.length σ H→D.nx σ H):Loop (Itl K a) g tb D σ H:=⟨zamc Pv h0 hl hs hd⟩
theorem zamq {K:PySem.W.Frag}{a:Addr}{xs:List V}{g:TG}{tb:TS}{D:Ends}{σ:St}{H:Hp} (Pv:Nat→St→Hp→Prop) (h0:Pv 0 σ H) (hl:∀ i σ H,i≤xs.length→Pv i σ H→SqT K H a xs)
  (hs:∀ i x σ H,xs[i]?=some x→Pv i σ H→g x σ H fun σ2 H2=>tb { D with nx:=Pv (i + 1),ct:=Pv (i + 1),bk:=D.nx } σ2 H2) (hd:∀ σ H,Pv xs.length σ H→D.nx σ H):Loop (Itt K a) g tb D σ H:=⟨zan8 Pv h0 hl hs hd⟩
theorem zac3 {lo:Int}{n:Nat}{g:TG}{tb:TS}{D:Ends}{σ:St}{H:Hp} (Pv:Nat→St→Hp→Prop) (h0:Pv 0 σ H)
  (hs:∀ i σ H,i < n→Pv i σ H→g (.int (lo + i)) σ H fun σ2 H2=>tb { D with nx:=Pv (i + 1),ct:=Pv (i + 1),bk:=D.nx } σ2 H2) (hd:∀ σ H,Pv n σ H→D.nx σ H):Loop (Itr lo n) g tb D σ H:=⟨zaj4 Pv h0 hs hd⟩
structure Cut (t u:TS) (D:Ends) (σ:St) (H:Hp):Prop where
 ex:∃ P:St→Hp→Prop,t { D with nx:=P } σ H∧∀ σ' H',P σ' H'→u D σ' H'
def tCut (t u:TS):TS:=fun D σ H=>Cut t u D σ H
theorem zaot {X:Cx}{st:Stmt}{rest:List Stmt}{t u:TS} (h1:PS X st t) (h2:PSs X rest u):PSs X (st :: rest) (tCut t u):=by
 intro pins s σ H D I h
 obtain ⟨P,a,b⟩:=h.ex
 have h1':PS X st (fun D' σ' H'=>∃ P:St→Hp→Prop,t { D' with nx:=P } σ' H'∧∀ σ2 H2,P σ2 H2→D'.nx σ2 H2):=by
  intro pins s σ H D I ⟨P,a,b⟩
  refine thn (h1 pins s σ H _ I a) fun f s' q=>?_
  cases f with
  | next=>obtain ⟨σ7,H7,I7,n7⟩:=q; exact ⟨σ7,H7,I7,b _ _ n7⟩
  | cont=>exact q
  | brk=>exact q
  | ret v=>exact q
 exact zaiu h1' h2 pins s σ H D I ⟨P,a,b⟩
theorem zaa6 {t u:TS}{D:Ends}{σ:St}{H:Hp} (P:St→Hp→Prop) (h1:t { D with nx:=P } σ H) (h2:∀ σ' H',P σ' H'→u D σ' H'):Cut t u D σ H:=⟨P,h1,h2⟩
theorem zaiy {ns:List Int}{i:Int} (h0:0≤i) (h1:i < (ns.length:Int)):∃ n:Int,atI (ns.map V.int) i=some (.int n):=by
 have hk:i.toNat < ns.length:=by omega
 have ek:i=((i.toNat:Nat):Int):=by omega
 have q:atI (ns.map V.int) ((i.toNat:Nat):Int)=some (.int ns[i.toNat]):=zab4 (by rw [List.getElem?_map,List.getElem?_eq_getElem hk]; rfl)
 rw [← ek] at q
 exact ⟨_,q⟩
end L2

namespace L2
open PySem PySem.Spec PyProof.Rows
structure Atx {α:Type} (xs:List α) (i:Int) (R:α→Prop):Prop where
 ex:∃ v,atI xs i=some v∧R v
theorem Atx.of {α:Type}{xs:List α}{i:Int}{v:α}{R:α→Prop} (h:atI xs i=some v) (r:R v):Atx xs i R:=⟨v,h,r⟩
theorem zamr {α:Type}{xs:List α}{i:Int} (h0:0≤i) (h1:i < (xs.length:Int)):∃ h:i.toNat < xs.length,atI xs i=some xs[i.toNat]:=by
 have hk:i.toNat < xs.length:=by omega
 have ek:i=((i.toNat:Nat):Int):=by omega
 have q:atI xs ((i.toNat:Nat):Int)=some xs[i.toNat]:=zab4 (List.getElem?_eq_getElem hk)
 rw [← ek] at q
 exact ⟨hk,q⟩
theorem Atx.any {α:Type}{xs:List α}{i:Int}{R:α→Prop} (h0:0≤i) (h1:i < (xs.length:Int)) (h:∀ v,v∈xs→atI xs i=some v→R v):Atx xs i R:=by
 obtain ⟨hk,q⟩:=zamr h0 h1
 exact ⟨_,q,h _ (List.getElem_mem hk) q⟩
section
variable {X:Cx}
theorem IxR.imp {r r':R2} (h:IxR X r) (f:∀ x y H Q,r' x y H Q→r x y H Q):IxR X r':=fun value slice pins s σ H x y v u Q I rx ry q hs=>h value slice pins s σ H x y v u Q I rx ry (f _ _ _ _ q) hs
def aIxL (K:PySem.W.Frag):R2:=fun x y H Q=>∃ p xs i,x=.ref p∧y=.int i∧SqL K H p xs∧Atx xs i fun v=>Q v H
def aIxT (K:PySem.W.Frag):R2:=fun x y H Q=>∃ p xs i,x=.ref p∧y=.int i∧SqT K H p xs∧Atx xs i fun v=>Q v H
theorem zaaq:IxR X (aIxL X.K):=zaol.imp fun x y H Q ⟨p,xs,i,e1,e2,h,a⟩=>let ⟨v,hv,q⟩:=a.ex; ⟨p,xs,i,v,e1,e2,h,hv,q⟩
theorem zaa9:IxR X (aIxT X.K):=zaqr.imp fun x y H Q ⟨p,xs,i,e1,e2,h,a⟩=>let ⟨v,hv,q⟩:=a.ex; ⟨p,xs,i,v,e1,e2,h,hv,q⟩
end
end L2
namespace L2
open PySem
section
variable {es:List Expr}{env:Env}
theorem zaac {x pos}:starEach (.Name x pos :: es) env=(false,eval (.Name x pos) env) :: starEach es env:=rfl
theorem zaad {c k pos}:starEach (.Constant c k pos :: es) env=(false,eval (.Constant c k pos) env) :: starEach es env:=rfl
theorem zabh {a o b pos}:starEach (.BinOp a o b pos :: es) env=(false,eval (.BinOp a o b pos) env) :: starEach es env:=rfl
theorem zaf0 {a o pos}:starEach (.UnaryOp o a pos :: es) env=(false,eval (.UnaryOp o a pos) env) :: starEach es env:=rfl
theorem zab0 {a o b pos}:starEach (.Call a o b pos :: es) env=(false,eval (.Call a o b pos) env) :: starEach es env:=rfl
theorem zaa2 {a k pos}:starEach (.Tuple a k pos :: es) env=(false,eval (.Tuple a k pos) env) :: starEach es env:=rfl
theorem zabt {a pos}:starEach (.List a pos :: es) env=(false,eval (.List a pos) env) :: starEach es env:=rfl
theorem zaas {a b pos}:starEach (.Subscript a b pos :: es) env=(false,eval (.Subscript a b pos) env) :: starEach es env:=rfl
theorem zaiz {a b c pos}:starEach (.IfExp a b c pos :: es) env=(false,eval (.IfExp a b c pos) env) :: starEach es env:=rfl
theorem zaa4 {a b pos}:starEach (.Attribute a b pos :: es) env=(false,eval (.Attribute a b pos) env) :: starEach es env:=rfl
theorem zaeh {a b c pos}:starEach (.ListComp a b c pos :: es) env=(false,eval (.ListComp a b c pos) env) :: starEach es env:=rfl
end
end L2
namespace L2
open PySem
theorem Ch.own {W:List Addr}{H H':Hp}{p:Addr}{o:HO} (n:H p=none) (c:Ch W H H'):Ch W H (upd H' p o):=fun b u h k=>by
 rw [zabs (zaa7 h n)]
 exact c b u h k
theorem cut1 (x:V) (ys:List V):cutV (x :: ys) (some 1) none=ys:=by
 unfold cutV
 have e:HT.sIx (x :: ys).length 0 (some 1)=1:=by
  have z:=HT.sIx_nat (x :: ys).length 0 1
  rw [List.length_cons] at z ⊢
  refine z.trans ?_
  omega
 rw [e,HT.sIx_none,List.drop_succ_cons,List.drop_zero,List.take_of_length_le]
 simp
theorem zams (x:V) (ys:List V):¬ (HT.sIx (x :: ys).length 0 (some 1)=0∧HT.sIx (x :: ys).length (x :: ys).length none=(x :: ys).length):=by
 intro h
 have e:HT.sIx (x :: ys).length 0 (some 1)=1:=by
  have z:=HT.sIx_nat (x :: ys).length 0 1
  rw [List.length_cons] at z ⊢
  refine z.trans ?_
  omega
 rw [e] at h
 exact absurd h.1 (by decide)
end L2
namespace L2
open PySem
theorem Atx.head {α:Type}{x:α}{xs:List α}{R:α→Prop} (r:R x):Atx (x :: xs) 0 R:=⟨x,zab4 (j:=0) rfl,r⟩
end L2

namespace L2
open PySem PySem.Spec PyProof.Rows
inductive SK where
 | list | tuple
def SIt (k:SK) (h:Heap) (it l:Addr) (i:Nat):Prop:=match k with
 | .list=>h.IsListIter it l i
 | .tuple=>h.IsTupleIter it l i
def SIs (k:SK) (h:Heap) (l:Addr) (items:Array Value):Prop:=match k with
 | .list=>h.IsList l items
 | .tuple=>h.IsTuple l items
def Sq (k:SK) (K:PySem.W.Frag) (H:Hp) (a:Addr) (xs:List V):Prop:=match k with
 | .list=>SqL K H a xs
 | .tuple=>SqT K H a xs
theorem SIt.at {k:SK}{h h':Heap}{a l i} (x:SIt k h a l i) (e:∀ o,h.get? a=some o→h'.get? a=some o):SIt k h' a l i:=by
 cases k with
 | list=>exact Heap.IsListIter.at x e
 | tuple=>exact Heap.IsTupleIter.at x e
theorem SIt.obj {k:SK}{h:Heap}{a l i} (x:SIt k h a l i):∃ o,h.get? a=some o∧∀ v,o.data≠.cell v:=by
 cases k with
 | list=>obtain ⟨o,e,c,d⟩:=(show h.IsListIter a l i from x); exact ⟨o,e,fun v z=>by rw [d] at z; cases z⟩
 | tuple=>obtain ⟨o,e,c,d⟩:=(show h.IsTupleIter a l i from x); exact ⟨o,e,fun v z=>by rw [d] at z; cases z⟩
theorem SIs.at {k:SK}{h h':Heap}{a items} (x:SIs k h a items) (e:∀ o,h.get? a=some o→h'.get? a=some o):SIs k h' a items:=by
 cases k with
 | list=>exact Heap.IsList.at x e
 | tuple=>obtain ⟨o,ho,r⟩:=(show h.IsTuple a items from x); exact ⟨o,e _ ho,r⟩
theorem SIs.lt {k:SK}{h:Heap}{a items} (x:SIs k h a items):a < h.objs.size:=by
 cases k with
 | list=>obtain ⟨_,e,_⟩:=(show h.IsList a items from x); exact Heap.lt_size e
 | tuple=>obtain ⟨_,e,_⟩:=(show h.IsTuple a items from x); exact Heap.lt_size e
section
variable {prog:Program}{w:World}{A:Around}{E:Value→Shared→Prop}{s:Shared}
theorem zae1 {it l:Addr}{i:Nat}{items}{x:Value}{Q:Value→Shared→Prop} (hit:s.heap.IsTupleIter it l i)
  (hl:s.heap.IsTuple l items) (hx:items[i]?=some x)
  (hQ:∀ h',h'.IsTupleIter it l (i + 1)→Heap.SameBut it s.heap h'→Q x { s with heap:=h' }) :
  wpAny (model prog w) A (Builtin.SmallTypes.nextOf (.ref it)) Q E s:=by
 obtain ⟨o,ho,hc,hd⟩:=id hit
 obtain ⟨ol,hol,_,nl,hdl⟩:=hl
 unfold Builtin.SmallTypes.nextOf
 refine wpAny_bind (wpAny_callSpecial?_slot (name:=Str.ofString "__next__") hit.typeIs F.slot_tuple_iterator_next
  (wpAny_call_entry F.slot_tuple_iterator_next hit.typeIs F.entry_tuple_iterator_next ?_ (F.args_tuple_iterator_next_1 _)))
 show wpAny _ _ (field (.ref it) 0 >>= _) _ _ s
 refine wpAny_bind (wpAny_field ho hd (x:=.ref l) rfl ?_)
 show wpAny _ _ (if (Value.ref l == Value.none)=true then _ else _) _ _ s
 rw [if_neg (show ¬ ((Value.ref l == Value.none)=true) from Bool.false_ne_true)]
 show wpAny _ _ (field (.ref it) 1 >>= _) _ _ s
 refine wpAny_bind (wpAny_field ho hd (x:=.int i 0) rfl ?_)
 show wpAny _ _ (seqItems? (.ref l) >>= _) _ _ s
 refine wpAny_bind (wpAny_seqItems hol hdl ?_)
 simp only [Int.toNat_natCast,hx]
 refine wpAny_bind (wpAny_setField ho hd (by simp) (wpAny_pure ⟨x,rfl,wpAny_pure (hQ _ ?_ (Heap.SameBut.update ..))⟩))
 exact ⟨_,Heap.get?_update_self _ ho (Obj.isFreed_of_fields (Obj.data_mapFields hd _)),(Obj.cls_mapFields ..).trans hc,by
  rw [Obj.data_mapFields hd]; simp [rawInt]⟩
theorem zafa {it l:Addr}{i:Nat}{items}{Q:Value→Shared→Prop} (hh:A.handled=none)
  (hit:s.heap.IsTupleIter it l i) (hl:s.heap.IsTuple l items) (hx:items[i]?=none)
  (hE:∀ h' e,Heap.ExtBut it s.heap h'→(∃ o,h'.get? e=some o∧o.cls=.type "StopIteration")→E (.ref e) { s with heap:=h' }) :
  wpAny (model prog w) A (Builtin.SmallTypes.nextOf (.ref it)) Q E s:=by
 obtain ⟨o,ho,hc,hd⟩:=id hit
 obtain ⟨ol,hol,_,nl,hdl⟩:=hl
 unfold Builtin.SmallTypes.nextOf
 refine wpAny_bind (wpAny_callSpecial?_slot (name:=Str.ofString "__next__") hit.typeIs F.slot_tuple_iterator_next
  (wpAny_call_entry F.slot_tuple_iterator_next hit.typeIs F.entry_tuple_iterator_next ?_ (F.args_tuple_iterator_next_1 _)))
 show wpAny _ _ (field (.ref it) 0 >>= _) _ _ s
 refine wpAny_bind (wpAny_field ho hd (x:=.ref l) rfl ?_)
 show wpAny _ _ (if (Value.ref l == Value.none)=true then _ else _) _ _ s
 rw [if_neg (show ¬ ((Value.ref l == Value.none)=true) from Bool.false_ne_true)]
 show wpAny _ _ (field (.ref it) 1 >>= _) _ _ s
 refine wpAny_bind (wpAny_field ho hd (x:=.int i 0) rfl ?_)
 show wpAny _ _ (seqItems? (.ref l) >>= _) _ _ s
 refine wpAny_bind (wpAny_seqItems hol hdl ?_)
 simp only [Int.toNat_natCast,hx]
 refine wpAny_bind (wpAny_rule (wpAny_bind (wpAny_setField ho hd (by simp) ?_)))
 show wpAny _ _ (newExc (.type "StopIteration") [] >>= _) _ _ _
 refine wpAny_bind ?_
 simp only [newExc,newTuple]
 refine wpAny_bind (wpAny_newObj_type ?_ (by size_fits))
 refine wpAny_bind (m:=firstArgMember _ _) (wpAny_of_eq (a:=Value.none) (by first | rfl | (simp only [firstArgMember]; rfl)) ?_)
 refine wpAny_newObj_type ?_ (by size_fits)
 simp only [raiseNew]
 refine wpAny_bind (wpAny_handled ?_)
 first | rw [show A.in1.handled=none from hh] | rw [hh]
 refine wpAny_bind (wpAny_pure (wpAny_throw ?_))
 exact hE _ _ (((Heap.SameBut.update ..).extBut.push _).push _) ⟨_,Heap.get?_push_size _ rfl,rfl⟩
theorem zadz {k:SK}{it l:Addr}{i:Nat}{items}{x:Value}{Q:Value→Shared→Prop} (hit:SIt k s.heap it l i) (hl:SIs k s.heap l items) (hx:items[i]?=some x)
  (hQ:∀ h',SIt k h' it l (i + 1)→Heap.SameBut it s.heap h'→Q x { s with heap:=h' }):wpAny (model prog w) A (Builtin.SmallTypes.nextOf (.ref it)) Q E s:=by
 cases k with
 | list=>exact wpAny_nextOf_list_item hit hl hx hQ
 | tuple=>exact zae1 hit hl hx hQ
theorem zae2 {k:SK}{it l:Addr}{i:Nat}{items}{Q:Value→Shared→Prop} (hh:A.handled=none) (hit:SIt k s.heap it l i) (hl:SIs k s.heap l items) (hx:items[i]?=none)
  (hE:∀ h' e,Heap.ExtBut it s.heap h'→(∃ o,h'.get? e=some o∧o.cls=.type "StopIteration")→E (.ref e) { s with heap:=h' }) :
  wpAny (model prog w) A (Builtin.SmallTypes.nextOf (.ref it)) Q E s:=by
 cases k with
 | list=>exact wpAny_nextOf_list_end hh hit hl hx hE
 | tuple=>exact zafa hh hit hl hx hE
theorem SIt.ext {k:SK}{h h':Heap}{a b l i} (x:SIt k h a l i) (hs:Heap.ExtBut b h h') (hab:a≠b):SIt k h' a l i:=x.at fun o e=>hs _ _ hab e
theorem SIs.ext {k:SK}{h h':Heap}{a b items} (x:SIs k h a items) (hs:Heap.ExtBut b h h') (hab:a≠b):SIs k h' a items:=x.at fun o e=>hs _ _ hab e
theorem zakm {k1 k2:SK}{z TI TO i1 i2 l1 l2:Addr}{n1 n2:Nat}{xs ys:Array Value}{x y a b:Value}{Q:Value→Shared→Prop} (D:ZipApart z TI TO i1 i2 l1 l2)
  (hz:IsZip s.heap z TI TO .none) (hTI:IsPair s.heap TI (.ref i1) (.ref i2)) (hTO:IsPair s.heap TO a b)
  (h1:SIt k1 s.heap i1 l1 n1) (h2:SIt k2 s.heap i2 l2 n2) (hl1:SIs k1 s.heap l1 xs) (hl2:SIs k2 s.heap l2 ys) (hx:xs[n1]?=some x) (hy:ys[n2]?=some y)
  (hQ:∀ h',IsZip h' z TI TO (rawInt s.heap.objs.size)→IsPair h' TO x y→SIt k1 h' i1 l1 (n1 + 1)→SIt k2 h' i2 l2 (n2 + 1)→IsPair h' s.heap.objs.size x y→h'.objs.size=s.heap.objs.size + 1 →
   (∀ c o,c≠z→c≠TO→c≠i1→c≠i2→s.heap.get? c=some o→h'.get? c=some o)→Q (.ref s.heap.objs.size) { s with heap:=h' }) :
  wpAny (model prog w) A (Builtin.«zip.__next__» ⟨[.ref z],[]⟩) (fun fin s'=>∃ v,fin=.done (.ret v)∧Q v s') E s:=by
 show wpAny _ _ (field (.ref z) 2 >>= _) _ _ _
 refine wpAny_bind (wpAny_field hz rfl (x:=.bool false) rfl ?_)
 show wpAny _ _ (field (.ref z) 3 >>= _) _ _ _
 refine wpAny_bind (wpAny_field hz rfl (x:=.ref TI) rfl ?_)
 refine wpAny_bind (wpAny_seqItems hTI rfl ?_)
 show wpAny _ _ (Builtin.SmallTypes.ownedTupleIsFree (.ref z) >>= _) _ _ _
 refine wpAny_bind ?_
 unfold Builtin.SmallTypes.ownedTupleIsFree
 refine wpAny_bind (wpAny_field hz rfl (x:=.none) rfl (wpAny_pure ?_))
 simp only [if_true]
 refine wpAny_bind (wpAny_rule ?_)
 refine wpAny_bind (wpAny_field hz rfl (x:=.ref TO) rfl ?_)
 refine wpAny_bind (wpAny_setField_rec hz (by simp) fun h₁ hz₁ hs₁=>?_)
 replace hz₁:IsZip h₁ z TI TO .ellipsis:=hz₁
 refine wpAny_bind ?_
 simp only [List.zipIdx_cons,List.zipIdx_nil,List.forIn_cons,List.forIn_nil]
 refine wpAny_bind (wpAny_bind (wpAny_onRaise ?_))
 show wpAny _ _ (Builtin.SmallTypes.nextOf (.ref i1) >>= _) _ _ _
 refine wpAny_bind (zadz (h1.ext hs₁.extBut D.i1z) (hl1.ext hs₁.extBut D.l1z) hx fun h₂ h1₂ hs₂=>wpAny_pure ?_)
 have hTO₂:IsPair h₂ TO a b:=hs₂.extBut _ _ D.TOi1 (hs₁.extBut _ _ D.TOz hTO)
 refine wpAny_bind (wpAny_seqItems hTO₂ rfl ?_)
 refine wpAny_bind (wpAny_updateSeq_pair hTO₂ fun h₃ hTO₃ hs₃=>?_)
 replace hTO₃:IsPair h₃ TO x b:=hTO₃
 refine wpAny_bind (wpAny_letGo (wpAny_pure ?_))
 refine wpAny_bind (wpAny_bind (wpAny_onRaise ?_))
 show wpAny _ _ (Builtin.SmallTypes.nextOf (.ref i2) >>= _) _ _ _
 refine wpAny_bind (zadz (((h2.ext hs₁.extBut D.i2z).ext hs₂.extBut D.i12.symm).ext hs₃.extBut D.TOi2.symm)
  (((hl2.ext hs₁.extBut D.l2z).ext hs₂.extBut D.l2i1).ext hs₃.extBut D.l2TO) hy fun h₄ h2₄ hs₄=>wpAny_pure ?_)
 have hTO₄:IsPair h₄ TO x b:=hs₄.extBut _ _ D.TOi2 hTO₃
 refine wpAny_bind (wpAny_seqItems hTO₄ rfl ?_)
 refine wpAny_bind (wpAny_updateSeq_pair hTO₄ fun h₅ hTO₅ hs₅=>?_)
 replace hTO₅:IsPair h₅ TO x y:=hTO₅
 refine wpAny_bind (wpAny_letGo (wpAny_pure (wpAny_pure ?_)))
 refine wpAny_bind (wpAny_seqItems hTO₅ rfl ?_)
 refine wpAny_bind (wpAny_newTuple ?_)
 have hsz:h₅.objs.size=s.heap.objs.size:=by rw [hs₅.1,hs₄.1,hs₃.1,hs₂.1,hs₁.1]
 have hz₅:IsZip h₅ z TI TO .ellipsis:=hs₅.extBut _ _ D.TOz.symm (hs₄.extBut _ _ D.i2z.symm (hs₃.extBut _ _ D.TOz.symm (hs₂.extBut _ _ D.i1z.symm hz₁)))
 have hk₅:∀ c o,c≠z→c≠TO→c≠i1→c≠i2→s.heap.get? c=some o→h₅.get? c=some o:=fun c o c1 c2 c3 c4 e =>
  hs₅.extBut _ _ c2 (hs₄.extBut _ _ c4 (hs₃.extBut _ _ c2 (hs₂.extBut _ _ c3 (hs₁.extBut _ _ c1 e))))
 have h1₅:SIt k1 h₅ i1 l1 (n1 + 1):=((h1₂.ext hs₃.extBut D.TOi1.symm).ext hs₄.extBut D.i12).ext hs₅.extBut D.TOi1.symm
 have h2₅:SIt k2 h₅ i2 l2 (n2 + 1):=h2₄.ext hs₅.extBut D.TOi2.symm
 have hzlt:z < h₅.objs.size:=Heap.lt_size hz₅
 show wpAny _ _ (Builtin.SmallTypes.ownedTupleHandOut (.ref z) (.ref h₅.objs.size) >>= _) _ _ _
 refine wpAny_bind ?_
 unfold Builtin.SmallTypes.ownedTupleHandOut
 have hz₆:IsZip (h₅.push { cls:=.type "tuple",data:=.seq #[x,y] }) z TI TO .ellipsis:=Heap.get?_push_of_some _ hz₅
 refine wpAny_bind (wpAny_setField_rec hz₆ (by simp) fun h₇ hz₇ hs₇=>?_)
 replace hz₇:IsZip h₇ z TI TO (rawInt h₅.objs.size):=hz₇
 refine wpAny_setField_rec hz₇ (by simp) fun h₈ hz₈ hs₈=>?_
 replace hz₈:IsZip h₈ z TI TO (rawInt h₅.objs.size):=hz₈
 have up:∀ c o,c≠z→h₅.get? c=some o→h₈.get? c=some o:=fun c o c1 e=>hs₈.extBut _ _ c1 (hs₇.extBut _ _ c1 (Heap.get?_push_of_some _ e))
 have hT₈:IsPair h₈ h₅.objs.size x y:=hs₈.extBut _ _ (Nat.ne_of_gt hzlt) (hs₇.extBut _ _ (Nat.ne_of_gt hzlt) (Heap.get?_push_size _ rfl))
 have hz8:h₈.objs.size=h₅.objs.size + 1:=by rw [hs₈.1,hs₇.1,Heap.size_push]
 rw [hsz] at hz₈ hT₈ hz8
 refine wpAny_pure ⟨_,rfl,?_⟩
 show Q (.ref h₅.objs.size) _
 rw [hsz]
 exact hQ h₈ hz₈ (up _ _ D.TOz hTO₅) (h1₅.at fun o e=>up _ o D.i1z e) (h2₅.at fun o e=>up _ o D.i2z e) hT₈ hz8 fun c o c1 c2 c3 c4 e=>up c o c1 (hk₅ c o c1 c2 c3 c4 e)
theorem zamt {k1 k2:SK}{z TI TO i1 i2 l1 l2:Addr}{n1 n2:Nat}{xs ys:Array Value}{a b:Value}{Q:Fin→Shared→Prop} (hh:A.handled=none) (D:ZipApart z TI TO i1 i2 l1 l2)
  (hz:IsZip s.heap z TI TO .none) (hTI:IsPair s.heap TI (.ref i1) (.ref i2)) (hTO:IsPair s.heap TO a b)
  (h1:SIt k1 s.heap i1 l1 n1) (h2:SIt k2 s.heap i2 l2 n2) (hl1:SIs k1 s.heap l1 xs) (hl2:SIs k2 s.heap l2 ys) (hend:xs[n1]?=none∨ys[n2]?=none)
  (hE:∀ h' e,(∀ c o,c≠z→c≠TO→c≠i1→c≠i2→s.heap.get? c=some o→h'.get? c=some o)→(∃ o,h'.get? e=some o∧o.cls=.type "StopIteration")→E (.ref e) { s with heap:=h' }) :
  wpAny (model prog w) A (Builtin.«zip.__next__» ⟨[.ref z],[]⟩) Q E s:=by
 show wpAny _ _ (field (.ref z) 2 >>= _) _ _ _
 refine wpAny_bind (wpAny_field hz rfl (x:=.bool false) rfl ?_)
 show wpAny _ _ (field (.ref z) 3 >>= _) _ _ _
 refine wpAny_bind (wpAny_field hz rfl (x:=.ref TI) rfl ?_)
 refine wpAny_bind (wpAny_seqItems hTI rfl ?_)
 show wpAny _ _ (Builtin.SmallTypes.ownedTupleIsFree (.ref z) >>= _) _ _ _
 refine wpAny_bind ?_
 unfold Builtin.SmallTypes.ownedTupleIsFree
 refine wpAny_bind (wpAny_field hz rfl (x:=.none) rfl (wpAny_pure ?_))
 simp only [if_true]
 refine wpAny_bind (wpAny_rule ?_)
 refine wpAny_bind (wpAny_field hz rfl (x:=.ref TO) rfl ?_)
 refine wpAny_bind (wpAny_setField_rec hz (by simp) fun h₁ hz₁ hs₁=>?_)
 replace hz₁:IsZip h₁ z TI TO .ellipsis:=hz₁
 refine wpAny_bind ?_
 simp only [List.zipIdx_cons,List.zipIdx_nil,List.forIn_cons,List.forIn_nil]
 refine wpAny_bind (wpAny_bind (wpAny_onRaise ?_))
 show wpAny _ _ (Builtin.SmallTypes.nextOf (.ref i1) >>= _) _ _ _
 cases hx:xs[n1]? with
 | none =>
  refine wpAny_bind (zae2 hh (h1.ext hs₁.extBut D.i1z) (hl1.ext hs₁.extBut D.l1z) hx fun h₂ e hs₂ he=>?_)
  obtain ⟨oe,hoe,hce⟩:=he
  have hz₂:IsZip h₂ z TI TO .ellipsis:=hs₂ _ _ D.i1z.symm hz₁
  have hez:e≠z:=fun x=>by subst x; rw [hz₂] at hoe; cases hoe; simp at hce
  refine wpAny_setField_rec hz₂ (by simp) fun h₃ _ hs₃=>hE h₃ e (fun c o c1 _ c3 _ x=>hs₃.extBut _ _ c1 (hs₂ _ _ c3 (hs₁.extBut _ _ c1 x))) ⟨oe,hs₃.extBut _ _ hez hoe,hce⟩
 | some x =>
  have hy:ys[n2]?=none:=by rcases hend with h | h; rw [hx] at h; cases h; exact h
  refine wpAny_bind (zadz (h1.ext hs₁.extBut D.i1z) (hl1.ext hs₁.extBut D.l1z) hx fun h₂ h1₂ hs₂=>wpAny_pure ?_)
  have hTO₂:IsPair h₂ TO a b:=hs₂.extBut _ _ D.TOi1 (hs₁.extBut _ _ D.TOz hTO)
  refine wpAny_bind (wpAny_seqItems hTO₂ rfl ?_)
  refine wpAny_bind (wpAny_updateSeq_pair hTO₂ fun h₃ hTO₃ hs₃=>?_)
  refine wpAny_bind (wpAny_letGo (wpAny_pure ?_))
  refine wpAny_bind (wpAny_bind (wpAny_onRaise ?_))
  show wpAny _ _ (Builtin.SmallTypes.nextOf (.ref i2) >>= _) _ _ _
  refine wpAny_bind (zae2 hh (((h2.ext hs₁.extBut D.i2z).ext hs₂.extBut D.i12.symm).ext hs₃.extBut D.TOi2.symm)
   (((hl2.ext hs₁.extBut D.l2z).ext hs₂.extBut D.l2i1).ext hs₃.extBut D.l2TO) hy fun h₄ e hs₄ he=>?_)
  obtain ⟨oe,hoe,hce⟩:=he
  have hz₄:IsZip h₄ z TI TO .ellipsis:=hs₄ _ _ D.i2z.symm (hs₃.extBut _ _ D.TOz.symm (hs₂.extBut _ _ D.i1z.symm hz₁))
  have hez:e≠z:=fun x=>by subst x; rw [hz₄] at hoe; cases hoe; simp at hce
  refine wpAny_setField_rec hz₄ (by simp) fun h₅ _ hs₅=>hE h₅ e (fun c o c1 c2 c3 c4 x=>hs₅.extBut _ _ c1 (hs₄ _ _ c4 (hs₃.extBut _ _ c2 (hs₂.extBut _ _ c3 (hs₁.extBut _ _ c1 x))))) ⟨oe,hs₅.extBut _ _ hez hoe,hce⟩
end
section
variable {X:Cx}{pins:List (Addr × Obj)}{σ:List (Option V)}{H H':Hp}{s:Shared}{h':Heap}
theorem Inv.turnedL {t':Nat}{its:List Addr} (I:Inv X pins σ H s) (k:∀ b o,b ∉ its→s.heap.get? b=some o→h'.get? b=some o) (hf:∀ b∈its,FpOk X pins H b):Inv X pins σ H { s with heap:=h',toks:=t' }:=by
 have nit:∀ b u,H b=some u→b ∉ its:=fun b u e z=>by rw [(hf b z).1] at e; cases e
 refine I.step (g':=s.gens) (d':=s.drawn) (ch:=its) (fun b hb=>?_) (fun b o _ _ hc e _=>k b o hc e) (fun b o _ _ hc e _=>⟨o.slots,k b o hc e⟩) (fun _ _ _ _ n=>n)
  (fun b o hc e=>⟨o,k b o hc e⟩) (fun _ _ e=>e) (fun _ _ _ e=>e) (fun b ps e=>⟨#[],by rw [e]; simp⟩) (fun m hm=>?_) (fun b u e=>?_) I.bare
 ·obtain ⟨f0,f1,f2,f3,f4,f5⟩:=hf b hb
  exact ⟨f3,f1,f4,f5⟩
 ·obtain ⟨o,es,ep,ho,r⟩:=hm
  exact ⟨o,es,ep,k _ o (fun z=>(hf _ z).2.1 rfl) ho,r⟩
 ·refine (I.hok b u e).stay (fun c v hc q=>k c v ?_ q) (fun _ q=>q) fun _ _ q=>q
  rcases hc with z | z
  ·rw [z]; exact nit b u e
  ·exact nit c _ z
theorem Inv.turnedNew {t':Nat}{its:List Addr}{T:Addr}{o:HO} (I:Inv X pins σ H s) (k:∀ b ob,b ∉ its→s.heap.get? b=some ob→h'.get? b=some ob) (hf:∀ b∈its,FpOk X pins H b)
  (hT:s.heap.objs.size≤T) (new:ObjOk X.prog X.w (upd H T o) h' T o):Inv X pins σ (upd H T o) { s with heap:=h',toks:=t' }:=by
 have nit:∀ b u,H b=some u→b ∉ its:=fun b u e z=>by rw [(hf b z).1] at e; cases e
 have hn:H T=none:=I.hok.fresh hT
 have neT:∀ b ob,s.heap.get? b=some ob→b≠T:=fun b ob e=>Nat.ne_of_lt (Nat.lt_of_lt_of_le (Heap.lt_size e) hT)
 have up:∀ b u,H b=some u→upd H T o b=some u:=fun b u e=>by rw [zabs (zaa7 e hn)]; exact e
 refine I.step (g':=s.gens) (d':=s.drawn) (ch:=its) (fun b hb=>?_) (fun b ob _ _ hc e _=>k b ob hc e) (fun b ob _ _ hc e _=>⟨ob.slots,k b ob hc e⟩) (fun b ob _ e n=>by rw [zabs (neT b ob e)]; exact n)
  (fun b ob hc e=>⟨ob,k b ob hc e⟩) (fun b _ e=>up b _ e) (fun b _ _ e=>up b _ e) (fun b ps e=>⟨#[],by rw [up b _ e]; simp⟩) (fun m hm=>?_) (fun b u e=>?_) I.bare
 ·obtain ⟨f0,f1,f2,f3,f4,f5⟩:=hf b hb
  exact ⟨f3,f1,f4,f5⟩
 ·obtain ⟨ob,es,ep,ho,r⟩:=hm
  exact ⟨ob,es,ep,k _ ob (fun z=>(hf _ z).2.1 rfl) ho,r⟩
 ·by_cases hb:b=T
  ·subst hb; rw [zaai] at e; cases e; exact new
  ·rw [zabs hb] at e
   refine (I.hok b u e).stay (fun c v hc q=>k c v ?_ q) (fun c q=>up c _ q) fun c xs q=>up c _ q
   rcases hc with z | z
   ·rw [z]; exact nit b u e
   ·exact nit c _ z
end
theorem Inv.sis {X:Cx}{pins:List (Addr × Obj)}{σ:St}{H:Hp}{s:Shared}{k:SK}{a:Addr}{xs:List V} (I:Inv X pins σ H s) (h:Sq k X.K H a xs):∃ its:List Value,Vals xs its∧SIs k s.heap a its.toArray:=by
 cases k with
 | list=>obtain ⟨its,r,p,_⟩:=I.list h; exact ⟨its,r,p.isList⟩
 | tuple=>obtain ⟨its,r,p,_⟩:=I.tuple h; exact ⟨its,r,(show s.heap.IsTuple a its.toArray from p)⟩
theorem Inv.sq_inj {X:Cx}{pins:List (Addr × Obj)}{σ:St}{H:Hp}{s:Shared}{k:SK}{a:Addr}{xs ys:List V} (I:Inv X pins σ H s) (h:Sq k X.K H a xs) (h':Sq k X.K H a ys):xs=ys:=by
 cases k with
 | list=>exact I.list_inj h h'
 | tuple=>exact I.tuple_inj h h'
def Itz (K:PySem.W.Frag) (k1 k2:SK) (a b:Addr):It :=
 ⟨fun i H=>∃ xs ys x y,Sq k1 K H a xs∧Sq k2 K H b ys∧xs[i]?=some x∧ys[i]?=some y,
  fun i H v H'=>∃ T,H T=none∧v=.ref T∧∀ xs ys,Sq k1 K H a xs→Sq k2 K H b ys→∃ x y,xs[i]?=some x∧ys[i]?=some y∧H'=upd H T (.tup [x,y]),
  fun i H=>∃ xs ys,Sq k1 K H a xs∧Sq k2 K H b ys∧(xs.length≤i∨ys.length≤i)⟩
theorem zamu {P:Program}{w:World}{K:PySem.W.Frag}{elts:List Expr}{kk:Nat}{tpos:Pos}{k1 k2:SK}{z TI TO i1 i2 a b:Addr} (D:ZipApart z TI TO i1 i2 a b) :
  Turn P w K (.Tuple elts kk tpos) (Itz K k1 k2 a b) [z,TI,TO,i1,i2] z (fun i h=>IsZip h z TI TO .none∧IsPair h TI (.ref i1) (.ref i2)∧(∃ c d,IsPair h TO c d)∧SIt k1 h i1 a i∧SIt k2 h i2 b i) where
 mem:=by simp
 obj:=fun i h st b hb=>by
  obtain ⟨hz,hTI,⟨c,d,hTO⟩,h1,h2⟩:=st
  simp only [List.mem_cons,List.not_mem_nil,or_false] at hb
  rcases hb with rfl | rfl | rfl | rfl | rfl
  ·exact ⟨_,hz,fun v q=>nomatch q⟩
  ·exact ⟨_,hTI,fun v q=>nomatch q⟩
  ·exact ⟨_,hTO,fun v q=>nomatch q⟩
  ·exact h1.obj
  ·exact h2.obj
 keep:=fun i h h' st k=>by
  obtain ⟨hz,hTI,⟨c,d,hTO⟩,h1,h2⟩:=st
  exact ⟨k _ (by simp) _ hz,k _ (by simp) _ hTI,⟨c,d,k _ (by simp) _ hTO⟩,h1.at fun o e=>k _ (by simp) o e,h2.at fun o e=>k _ (by simp) o e⟩
 item:=by
  intro X hP hw hK hc i pins s σ H E I hf st hg
  subst hP hw hK
  obtain ⟨hz,hTI,⟨c,d,hTO⟩,h1,h2⟩:=st
  obtain ⟨xs,ys,x,y,q1,q2,hx,hy⟩:=hg
  obtain ⟨ix,rx,px⟩:=I.sis q1
  obtain ⟨iy,ry,py⟩:=I.sis q2
  obtain ⟨u,hu,ru⟩:=rx.get hx
  obtain ⟨v,hv,rv⟩:=ry.get hy
  have hT:s.TypeIs (.ref z) "zip" := ⟨_,hz,rfl⟩
  unfold pyNext
  refine wpAny_bind (wpAny_attempt (wpAny_callSpecial?_slot (name:=Str.ofString "__next__") hT F.slot_zip_next
   (wpAny_call_entry F.slot_zip_next hT F.entry_zip_next
    (zakm D hz hTI hTO h1 h2 px py (x:=u) (y:=v) (by simpa using hu) (by simpa using hv) fun h' a1 a2 a3 a4 a5 a6 a7=>wpAny_pure ?_) (F.args_zip_next_1 _))))
  refine ⟨_,rfl,wpAny_letOwnedTupleGo_zip (s:={ s with heap:=h' }) a1 fun h'' b1 b2=>?_⟩
  have zlt:z < s.heap.objs.size:=Heap.lt_size hz
  have k2:∀ c o,c ∉ [z,TI,TO,i1,i2]→s.heap.get? c=some o→h''.get? c=some o:=fun c o hc e=>by
   simp only [List.mem_cons,List.not_mem_nil,or_false,not_or] at hc
   exact b2.extBut _ _ hc.1 (a7 c o hc.1 hc.2.2.1 hc.2.2.2.1 hc.2.2.2.2 e)
  have hT2:IsPair h'' s.heap.objs.size u v:=b2.extBut _ _ (Nat.ne_of_gt zlt) a5
  refine ⟨.ref s.heap.objs.size,upd H s.heap.objs.size (.tup [x,y]),I.turnedNew (t':=s.toks) (o:=.tup [x,y]) k2 hf (Nat.le_refl _) ⟨by show 2≤sizeLine; decide,[u,v],.cons ru (.cons rv .nil),⟨_,hT2,rfl,_,rfl⟩⟩,rfl,
   ⟨_,I.hok.fresh (Nat.le_refl _),rfl,fun xs' ys' e1 e2=>?_⟩,⟨b1,?_,⟨_,_,b2.extBut _ _ D.TOz a2⟩,a3.at fun o e=>b2.extBut _ _ D.i1z e,a4.at fun o e=>b2.extBut _ _ D.i2z e⟩,fun b hb=>?_⟩
  ·rw [I.sq_inj e1 q1,I.sq_inj e2 q2]
   exact ⟨x,y,hx,hy,rfl⟩
  ·exact b2.extBut _ _ D.TIz (a7 _ _ D.TIz D.TITO D.TIi1 D.TIi2 hTI)
  ·have blt:b < s.heap.objs.size:=by
    simp only [List.mem_cons,List.not_mem_nil,or_false] at hb
    rcases hb with rfl | rfl | rfl | rfl | rfl
    ·exact zlt
    ·exact Heap.lt_size hTI
    ·exact Heap.lt_size hTO
    ·obtain ⟨o,e,_⟩:=h1.obj; exact Heap.lt_size e
    ·obtain ⟨o,e,_⟩:=h2.obj; exact Heap.lt_size e
   rw [zabs (Nat.ne_of_lt blt)]
   exact (hf b hb).1
 done:=by
  intro X hP hw hK hc i pins s σ H E I hf st hg
  subst hP hw hK
  obtain ⟨hz,hTI,⟨c,d,hTO⟩,h1,h2⟩:=st
  obtain ⟨xs,ys,q1,q2,hl⟩:=hg
  obtain ⟨ix,rx,px⟩:=I.sis q1
  obtain ⟨iy,ry,py⟩:=I.sis q2
  have l1:=rx.length
  have l2:=ry.length
  have hend:ix.toArray[i]?=none∨iy.toArray[i]?=none:=by
   rcases hl with h | h
   ·exact .inl (by simp; omega)
   ·exact .inr (by simp; omega)
  have hT:s.TypeIs (.ref z) "zip" := ⟨_,hz,rfl⟩
  unfold pyNext
  refine wpAny_bind (wpAny_attempt (wpAny_callSpecial?_slot (name:=Str.ofString "__next__") hT F.slot_zip_next
   (wpAny_call_entry F.slot_zip_next hT F.entry_zip_next (zamt (I.ok.hd hc) D hz hTI hTO h1 h2 px py hend fun h' e hk he=>?_) (F.args_zip_next_1 _))))
  obtain ⟨o,ho,hc'⟩:=he
  refine wpAny_bind (wpAny_isInstance (T := "StopIteration") (b:=true) ⟨o,ho,hc'⟩ isSubtype_stop ?_)
  refine wpAny_pure ⟨rfl,I.turnedL (t':=s.toks) (its:=[z,TI,TO,i1,i2]) (fun b o hb e=>?_) hf⟩
  simp only [List.mem_cons,List.not_mem_nil,or_false,not_or] at hb
  exact hk b o hb.1 hb.2.2.1 hb.2.2.2.1 hb.2.2.2.2 e
 self:=fun _ _ _ _ _ st h=>wpAny_pyIter_zip st.1 h
def itObj (k:SK) (l:Addr):Obj:=match k with
 | .list=>{ cls:=.type "list_iterator",data:=.fields #[.ref l,.int 0 0] }
 | .tuple=>{ cls:=.type "tuple_iterator",data:=.fields #[.ref l,.int 0 0] }
theorem zaga {k:SK}{l it:Addr}{h:Heap} (e:h.get? it=some (itObj k l)):SIt k h it l 0:=by
 cases k with
 | list=>exact ⟨_,e,rfl,rfl⟩
 | tuple=>exact ⟨_,e,rfl,rfl⟩
abbrev zS1 (h:Heap) (k1:SK) (l1:Addr):Heap:=h.push (itObj k1 l1)
abbrev zS2 (h:Heap) (k1 k2:SK) (l1 l2:Addr):Heap:=(zS1 h k1 l1).push (itObj k2 l2)
abbrev zS3 (h:Heap) (k1 k2:SK) (l1 l2:Addr):Heap:=(zS2 h k1 k2 l1 l2).push { cls:=.type "tuple",data:=.seq #[.ref h.objs.size,.ref (zS1 h k1 l1).objs.size] }
abbrev zS4 (h:Heap) (k1 k2:SK) (l1 l2:Addr):Heap:=(zS3 h k1 k2 l1 l2).push { cls:=.type "tuple",data:=.seq #[.none,.none] }
abbrev zS5 (h:Heap) (k1 k2:SK) (l1 l2:Addr):Heap:=(zS4 h k1 k2 l1 l2).push { cls:=.type "zip",data:=.fields #[.none,.bool false,.bool false,.ref (zS2 h k1 k2 l1 l2).objs.size,.ref (zS3 h k1 k2 l1 l2).objs.size] }
set_option maxHeartbeats 4000000 in
theorem zafv (k1 k2:SK) (l1 l2:Addr) (xs ys:Array Value) :
  Meets (Builtin.«zip.__new__» ⟨[.type "zip",.ref l1,.ref l2],[]⟩) (fun _ R s=>SIs k1 s.heap l1 xs∧SIs k2 s.heap l2 ys ∧
   R (.ok (.ret (.ref (zS4 s.heap k1 k2 l1 l2).objs.size))) { s with heap:=zS5 s.heap k1 k2 l1 l2 }):=by
 cases k1 with
 | list =>
  cases k2 with
  | list =>
   exact .of_wp fun prog w A R s h=>by
    obtain ⟨hp,g,d,tk,os⟩:=s; obtain ⟨hl1,hl2,h⟩:=h
    have hsub:=sub_zip
    have hL1:Heap.IsList (Shared.heap ⟨hp,g,d,tk,os⟩) l1 xs:=hl1
    have hL2:Heap.IsList (Shared.heap ⟨hp.push { cls:=.type "list_iterator",data:=.fields #[.ref l1,.int 0 0] },g,d,tk,os⟩) l2 ys:=Heap.IsList.push hl2 _
    wp_walk using wpAny_pyIter_list hL1,wpAny_pyIter_list hL2
    exact ⟨_,rfl,h⟩
  | tuple =>
   exact .of_wp fun prog w A R s h=>by
    obtain ⟨hp,g,d,tk,os⟩:=s; obtain ⟨hl1,hl2,h⟩:=h
    have hsub:=sub_zip
    have hL1:Heap.IsList (Shared.heap ⟨hp,g,d,tk,os⟩) l1 xs:=hl1
    have hL2:Heap.IsTuple (Shared.heap ⟨hp.push { cls:=.type "list_iterator",data:=.fields #[.ref l1,.int 0 0] },g,d,tk,os⟩) l2 ys:=SIs.at (k:=.tuple) hl2 fun o e=>Heap.get?_push_of_some _ e
    wp_walk using wpAny_pyIter_list hL1,wpAny_pyIter_tuple hL2
    exact ⟨_,rfl,h⟩
 | tuple =>
  cases k2 with
  | list =>
   exact .of_wp fun prog w A R s h=>by
    obtain ⟨hp,g,d,tk,os⟩:=s; obtain ⟨hl1,hl2,h⟩:=h
    have hsub:=sub_zip
    have hL1:Heap.IsTuple (Shared.heap ⟨hp,g,d,tk,os⟩) l1 xs:=hl1
    have hL2:Heap.IsList (Shared.heap ⟨hp.push { cls:=.type "tuple_iterator",data:=.fields #[.ref l1,.int 0 0] },g,d,tk,os⟩) l2 ys:=SIs.at (k:=.list) hl2 fun o e=>Heap.get?_push_of_some _ e
    wp_walk using wpAny_pyIter_tuple hL1,wpAny_pyIter_list hL2
    exact ⟨_,rfl,h⟩
  | tuple =>
   exact .of_wp fun prog w A R s h=>by
    obtain ⟨hp,g,d,tk,os⟩:=s; obtain ⟨hl1,hl2,h⟩:=h
    have hsub:=sub_zip
    have hL1:Heap.IsTuple (Shared.heap ⟨hp,g,d,tk,os⟩) l1 xs:=hl1
    have hL2:Heap.IsTuple (Shared.heap ⟨hp.push { cls:=.type "tuple_iterator",data:=.fields #[.ref l1,.int 0 0] },g,d,tk,os⟩) l2 ys:=SIs.at (k:=.tuple) hl2 fun o e=>Heap.get?_push_of_some _ e
    wp_walk using wpAny_pyIter_tuple hL1,wpAny_pyIter_tuple hL2
    exact ⟨_,rfl,h⟩
section
variable {prog:Program}{w:World}{A:Around}{E:Value→Shared→Prop}{s:Shared}
theorem zakn {k1 k2:SK}{l1 l2:Addr}{xs ys:Array Value}{Q:Value→Shared→Prop} (hl1:SIs k1 s.heap l1 xs) (hl2:SIs k2 s.heap l2 ys)
  (h:∀ h',IsZip h' (s.heap.objs.size + 4) (s.heap.objs.size + 2) (s.heap.objs.size + 3) .none→IsPair h' (s.heap.objs.size + 2) (.ref s.heap.objs.size) (.ref (s.heap.objs.size + 1)) →
   IsPair h' (s.heap.objs.size + 3) .none .none→SIt k1 h' s.heap.objs.size l1 0→SIt k2 h' (s.heap.objs.size + 1) l2 0 →
   (∀ c o,s.heap.get? c=some o→h'.get? c=some o)→Q (.ref (s.heap.objs.size + 4)) { s with heap:=h' }) :
  wpAny (model prog w) A (call (.type "zip") [.ref l1,.ref l2]) Q E s:=by
 refine callType_new F.called_zip (by decide) (F.typeCall_zip_2 _ _) (F.newCall_zip_2 _ _) (fun obj=>F.args_object_init_3 obj _ _) F.entry_zip_new
  (zafv k1 k2 l1 l2 xs ys) ⟨hl1,hl2,?_⟩
 have z1:(zS1 s.heap k1 l1).objs.size=s.heap.objs.size + 1:=Heap.size_push ..
 have z2:(zS2 s.heap k1 k2 l1 l2).objs.size=s.heap.objs.size + 2:=by rw [Heap.size_push,z1]
 have z3:(zS3 s.heap k1 k2 l1 l2).objs.size=s.heap.objs.size + 3:=by rw [Heap.size_push,z2]
 have z4:(zS4 s.heap k1 k2 l1 l2).objs.size=s.heap.objs.size + 4:=by rw [Heap.size_push,z3]
 have r1:(itObj k1 l1).isFreed=false:=by cases k1 <;> rfl
 have r2:(itObj k2 l2).isFreed=false:=by cases k2 <;> rfl
 have g5:(zS5 s.heap k1 k2 l1 l2).get? (zS4 s.heap k1 k2 l1 l2).objs.size=some _:=Heap.get?_push_size _ rfl
 have g4:(zS5 s.heap k1 k2 l1 l2).get? (zS3 s.heap k1 k2 l1 l2).objs.size=some _:=Heap.get?_push_of_some _ (Heap.get?_push_size _ rfl)
 have g3:(zS5 s.heap k1 k2 l1 l2).get? (zS2 s.heap k1 k2 l1 l2).objs.size=some _:=Heap.get?_push_of_some _ (Heap.get?_push_of_some _ (Heap.get?_push_size _ rfl))
 have g2:(zS5 s.heap k1 k2 l1 l2).get? (zS1 s.heap k1 l1).objs.size=some _:=Heap.get?_push_of_some _ (Heap.get?_push_of_some _ (Heap.get?_push_of_some _ (Heap.get?_push_size _ r2)))
 have g1:(zS5 s.heap k1 k2 l1 l2).get? s.heap.objs.size=some _:=Heap.get?_push_of_some _ (Heap.get?_push_of_some _ (Heap.get?_push_of_some _ (Heap.get?_push_of_some _ (Heap.get?_push_size _ r1))))
 show _∧_
 rw [z2,z3,z4] at g5
 rw [z1,z2] at g3
 rw [z3] at g4
 rw [z1] at g2
 rw [z4]
 exact ⟨⟨_,g5,rfl⟩,h _ g5 g3 g4 (zaga g1) (zaga g2) fun c o x =>
  Heap.get?_push_of_some _ (Heap.get?_push_of_some _ (Heap.get?_push_of_some _ (Heap.get?_push_of_some _ (Heap.get?_push_of_some _ x))))⟩
end
section
variable {X:Cx}{elts:List Expr}{kk:Nat}{tpos:Pos}
def iZip (K:PySem.W.Frag) (k1 k2:SK) (ta:TA):TI:=fun σ H R=>ta σ H fun vs H1=>∃ a b,vs=[.ref a,.ref b]∧(∃ xs,Sq k1 K H1 a xs)∧(∃ ys,Sq k2 K H1 b ys)∧R (Itz K k1 k2 a b) H1
theorem zaq0 (k1 k2:SK) {a b:Expr}{ta:TA}{p pos:Pos} (hg:Gl X "zip") (hm:X.mg "zip" = none) (ha:PA X [a,b] ta) (hs:starEach [a,b] X.env=[(false,eval a X.env),(false,eval b X.env)]:=by rfl) (hs2:starEach [b] X.env=[(false,eval b X.env)]:=by rfl) :
  PI X (.Tuple elts kk tpos) (.Call (.Name "zip" p) [a,b] [] pos) (iZip X.K k1 k2 ta):=by
 intro pins s σ H R I h
 refine Call_ (zafj I hg hm boot_zip (PyProof.Rows.callWith_type1 (thn (ha pos pins s σ H _ I h) fun us s1 ⟨vs,H1,I1,r1,q1⟩=>?_) (by rw [hs,hs2]) (by rw [hs2]; rfl)))
 obtain ⟨a',b',e,⟨xs,qx⟩,⟨ys,qy⟩,q⟩:=q1
 subst e
 obtain ⟨u,v,rfl,ru,rv⟩:=vals2 r1
 cases ru
 cases rv
 obtain ⟨ix,rx,px⟩:=I1.sis qx
 obtain ⟨iy,ry,py⟩:=I1.sis qy
 refine zakn px py fun h' b1 b2 b3 b4 b5 b6=>wpAny_pyIter_zip (s:={ s1 with heap:=h' }) b1 ?_
 have nn:∀ b,s1.heap.objs.size≤b→FpOk X pins H1 b:=fun b hb=>I1.fpOk hb (I1.hok.fresh hb)
 refine ⟨_,[s1.heap.objs.size + 4,s1.heap.objs.size + 2,s1.heap.objs.size + 3,s1.heap.objs.size,s1.heap.objs.size + 1],_,_,H1,rfl,I1.kept (t':=s1.toks) b6,zamu (k1:=k1) (k2:=k2) (zipApart_new px.lt py.lt),⟨b1,b2,⟨_,_,b3⟩,b4,b5⟩,fun b hb=>?_,q⟩
 simp only [List.mem_cons,List.not_mem_nil,or_false] at hb
 rcases hb with rfl | rfl | rfl | rfl | rfl
 ·exact nn _ (Nat.le_add_right _ _)
 ·exact nn _ (Nat.le_add_right _ _)
 ·exact nn _ (Nat.le_add_right _ _)
 ·exact nn _ (Nat.le_refl _)
 ·exact nn _ (Nat.le_add_right _ _)
theorem zaes {K:PySem.W.Frag}{k1 k2:SK}{a b:Addr}{xs ys:List V}{g:TG}{tb:TS}{D:Ends}{σ:St}{H:Hp} (Pv:Nat→St→Hp→Prop) (h0:Pv 0 σ H)
  (hl:∀ i σ H,i≤min xs.length ys.length→Pv i σ H→Sq k1 K H a xs∧Sq k2 K H b ys)
  (hs:∀ i x y σ H T,xs[i]?=some x→ys[i]?=some y→Pv i σ H→H T=none→g (.ref T) σ (upd H T (.tup [x,y])) fun σ2 H2=>tb { D with nx:=Pv (i + 1),ct:=Pv (i + 1),bk:=D.nx } σ2 H2)
  (hd:∀ σ H,Pv (min xs.length ys.length) σ H→D.nx σ H):Loop (Itz K k1 k2 a b) g tb D σ H:=by
 refine ⟨fun i m σ H=>m=min xs.length ys.length - i∧i≤min xs.length ys.length∧Pv i σ H,⟨min xs.length ys.length,by simp,Nat.zero_le _,h0⟩,?_⟩
 rintro i m σ H ⟨rfl,hi,p⟩
 obtain ⟨q1,q2⟩:=hl i σ H hi p
 by_cases hlt:i < min xs.length ys.length
 ·have l1:i < xs.length:=by omega
  have l2:i < ys.length:=by omega
  refine .inr ⟨⟨xs,ys,xs[i],ys[i],q1,q2,by simp [l1],by simp [l2]⟩,Pv (i + 1),fun σ' H' p'=>⟨min xs.length ys.length - (i + 1),by omega,rfl,hlt,p'⟩,fun x H' y=>?_⟩
  obtain ⟨T,hT,rfl,y⟩:=y
  obtain ⟨u,v,e1,e2,rfl⟩:=y xs ys q1 q2
  exact hs i u v σ H T e1 e2 p hT
 ·have e:i=min xs.length ys.length:=by omega
  refine .inl ⟨⟨xs,ys,q1,q2,by omega⟩,?_⟩
  subst e
  exact hd σ H p
end
end L2

namespace L2
open PySem PySem.Spec PyProof.Rows PySem.Builtin PySem.Builtin.Str
section
variable {X:Cx}
def rIsT (K:PySem.W.Frag):List V→Hp→VK→Prop:=fun xs H Q=>∃ x T t b,xs=[x,.ty T]∧TyOf K H x t∧PySem.W.kitOne K t (.type T)=some b∧Q (.bl b) H
theorem zac0:CallR X (.builtin "isinstance") (rIsT X.K):=by
 intro pins s σ H xs us Q I r h
 obtain ⟨x,T,t,b,rfl,ty,e,q⟩:=h
 obtain ⟨u,v,rfl,ru,rv⟩:=vals2 r
 cases rv
 exact zakc I ru ty e fun tk=>⟨.bl b,H,I.tok _,rfl,q⟩
example (K:PySem.W.Frag):PySem.W.kitOne K (.type "int") (.type "int")=some true:=rfl
example (K:PySem.W.Frag):PySem.W.kitOne K (.type "str") (.type "int")=some false:=rfl
example (K:PySem.W.Frag):PySem.W.kitOne K (.type "tuple") (.type "int")=some false:=rfl
example (K:PySem.W.Frag):PySem.W.kitOne K (.type "bool") (.type "int")=some true:=rfl
end
def ent (w:World) (x:Str × Tok × Value):DictEntry:=⟨hashStr w x.1,.str x.1 x.2.1,x.2.2⟩
structure KD (P:Program) (w:World) (K:PySem.W.Frag) (a:Addr) (kvs:List (Key × V)):Prop where
 ex:∃ (o:Obj) (es:Array DictEntry) (ep:Nat) (vs:List (Key × Value)),K.lookup a=some o∧o.ExactDict∧o.data=.dict es ep∧KeysOf (mixKind P w) es∧Pairs (mixKind P w) es.toList vs∧(vs.map (·.1)).Nodup∧KV kvs vs
 ns:(a == sysModules)=false
def DK (P:Program) (w:World) (K:PySem.W.Frag) (H:Hp) (a:Addr) (kvs:List (Key × V)):Prop:=Rd H a (.dK kvs)∨KD P w K a kvs
theorem Inv.dict {X:Cx}{pins:List (Addr × Obj)}{σ:St}{H:Hp}{s:Shared}{a:Addr}{kvs:List (Key × V)} (I:Inv X pins σ H s) (h:DK X.prog X.w X.K H a kvs) :
  (a == sysModules)=false∧∃ vs,KV kvs vs∧s.heap.DictOf (mixKind X.prog X.w) a vs:=by
 rcases h with h | h
 ·obtain ⟨_,b,c⟩:=zah0 I.hok h
  exact ⟨b,c⟩
 ·obtain ⟨o,es,ep,vs,h1,h2,h3,h4,h5,h6,h7⟩:=h.ex
  exact ⟨h.ns,vs,h7,o,es,ep,I.kIn a o h1,h2,h3,h4,h5,h6⟩
theorem zah3 {P:Program}{w:World}{s:Shared}{a:Addr}{vs:List (Key × Value)} (d:s.heap.DictOf (mixKind P w) a vs):s.TypeIs (.ref a) "dict" := by
 obtain ⟨o,es,ep,h1,h2,_⟩:=d
 exact ⟨o,h1,h2.1⟩
section
variable {X:Cx}
def rIxD (X:Cx):R2:=fun x y H Q=>∃ a kvs k v,x=.ref a∧y=kV k∧DK X.prog X.w X.K H a kvs∧valV kvs k=some v∧Q v H
theorem zaq1 {o i:Expr}{td ty:TE}{pos:Pos} (ho:PE X o td) (hi:PE X i ty) (hs:NoSl i):PE X (.Subscript o i pos) (tOp (rIxD X) td ty):=by
 intro pins s σ H Q I h
 refine zakl PySem.F.slot_dict_getitem.lookup hs (thn (ho pins s σ H _ I h) fun u s1 ⟨x,H1,I1,rx,q1⟩=>thn (hi pins s1 σ H1 _ I1 q1) fun iv s2 ⟨y,H2,I2,ry,q2⟩=>?_)
 obtain ⟨a,kvs,k,v,rfl,rfl,dk,hv,q⟩:=q2
 obtain rfl:u=Value.ref a:=rx
 obtain ⟨_,vs,rel,dd⟩:=I2.dict dk
 obtain ⟨w',hw,rw'⟩:=RelO.some_of (v:=v) (o:=valueAt vs k) (by rw [← hv]; exact rel.val k)
 exact ⟨zah3 dd,wpAny_getItem_of (zaf9 ry) dd.mapOf hw ⟨v,H2,I2.tok _,rw',q⟩⟩
def rInD (X:Cx) (neg:Bool):R2:=fun x y H Q=>∃ a kvs k,y=.ref a∧x=kV k∧DK X.prog X.w X.K H a kvs∧Q (.bl (if neg then !(valV kvs k).isSome else (valV kvs k).isSome)) H
theorem zaf1:OpR X (compareOp .In) (rInD X false):=by
 intro pins s σ H x y v u Q I rx ry h
 obtain ⟨a,kvs,k,rfl,rfl,dk,q⟩:=h
 obtain rfl:u=Value.ref a:=ry
 obtain ⟨hd,vs,rel,dd⟩:=I.dict dk
 refine wpAny_in_of (zaf9 rx) hd dd.mapOf ?_
 rw [← (rel.val k).isSome_eq]
 exact ⟨.bl (valV kvs k).isSome,H,I.tok _,rfl,q⟩
theorem zaet:OpR X (compareOp .NotIn) (rInD X true):=by
 intro pins s σ H x y v u Q I rx ry h
 obtain ⟨a,kvs,k,rfl,rfl,dk,q⟩:=h
 obtain rfl:u=Value.ref a:=ry
 obtain ⟨hd,vs,rel,dd⟩:=I.dict dk
 refine wpAny_notIn_of (zaf9 rx) hd dd.mapOf ?_
 rw [← (rel.val k).isSome_eq]
 exact ⟨.bl (!(valV kvs k).isSome),H,I.tok _,rfl,q⟩
end
theorem zaq2 {P:Program}{w:World}{K:PySem.W.Frag}{a:Addr}{od:Option Addr}{ep:Nat}{sl:Array (Option Value)}{es:Array DictEntry} (xs:List (Str × Tok × Value)) (vs:List V)
  (l:K.lookup a=some ⟨.type "dict",od,.dict es ep,sl⟩) (he:es.toList=xs.map (ent w)) (hx:(⟨.type "dict",od,.dict es ep,sl⟩:Obj).ExactDict) (ns:(a == sysModules)=false)
  (nd:(xs.map (·.1)).Nodup) (hv:Vals vs (xs.map (·.2.2))):KD P w K a ((xs.map fun x=>(Sum.inr x.1:Key)).zip vs):=by
 refine ⟨⟨_,es,ep,xs.map fun x=>(Sum.inr x.1,x.2.2),l,hx,rfl,?_,?_,?_,?_⟩,ns⟩
 ·intro e h
  rw [← Array.mem_toList_iff,he] at h
  obtain ⟨x,hx,rfl⟩:=List.mem_map.mp h
  exact ⟨Sum.inr x.1,zafi x.1 x.2.1,rfl⟩
 ·rw [he]
  clear he nd hv l hx
  induction xs with
  | nil=>exact .nil
  | cons x xs ih=>exact .cons (zafi x.1 x.2.1) rfl ih
 ·rw [List.map_map]
  have e:(xs.map (fun x=>(Sum.inr x.1:Key)))=(xs.map (·.1)).map Sum.inr:=by rw [List.map_map]; rfl
  show (xs.map (fun x=>(Sum.inr x.1:Key))).Nodup
  rw [e]
  exact List.Pairwise.map _ (fun a b h z=>h (Sum.inr.inj z)) nd
 ·clear he nd l hx
  induction xs generalizing vs with
  | nil=>cases hv; exact .nil
  | cons x xs ih =>
   cases hv with
   | cons r rr=>exact .cons ⟨rfl,r⟩ (ih _ rr)
end L2

namespace L2
open PySem PySem.Spec PyProof.Rows
structure Pr (p:Prop):Prop where
 h:p
section
variable {X:Cx}
theorem zako {i:Nat}{x:Str}{pos:Pos} (hN:X.N[i]?=some x) (hv:Vis X.env.scope x) (hd:(x == ("__debug__" : Str))=false:=by decide) (hcd:(x == ("__classdict__" : Str))=false:=by decide):Pr (PE X (.Name x pos) (tVar i)):=⟨zap4 hN hv hd hcd⟩
theorem zaae {i j pos}:Pr (PE X (.Constant (.int i) j pos) (tC (.int i))):=⟨zap5⟩
theorem zaa5 {b j pos}:Pr (PE X (.Constant (.bool b) j pos) (tC (.bl b))):=⟨zar3⟩
theorem zabv {j pos}:Pr (PE X (.Constant .none j pos) (tC .non)):=⟨zap6⟩
theorem zaaj {x j pos}:Pr (PE X (.Constant (.str x) j pos) (tC (.str x))):=⟨zap7⟩
theorem zadn {x:Str}{v:V}{u:Value}{pos:Pos} (hg:Gl X x) (hm:X.mg x=some u) (r:RelV v u) (hd:(x == ("__debug__" : Str))=false:=by decide):Pr (PE X (.Name x pos) (tC v)):=⟨zanz hg hm r hd⟩
theorem zach {x:Str}{v:V}{u:Value}{pos:Pos} (hg:Gl X x) (hm:X.mg x=none) (hv:bootBuiltins x=some u) (r:RelV v u) (hn:x ≠ "__name__" := by decide) (hd:(x == ("__debug__" : Str))=false:=by decide):Pr (PE X (.Name x pos) (tC v)):=⟨zan0 hg hm hv r hn hd⟩
end
section
variable {X:Cx}{a b c:Expr}{ta tb tc:TE}{pos:Pos}
theorem zaav {op:Operator}{r:R2} (ho:OpR X (binaryOp op) r) (ha:Pr (PE X a ta)) (hb:Pr (PE X b tb)):Pr (PE X (.BinOp a op b pos) (tOp r ta tb)):=⟨zar7 ho ha.h hb.h⟩
theorem zani {op:UnaryOp}{r:V→Hp→VK→Prop} (ho:UnR X (unaryOp op) r) (ha:Pr (PE X a ta)):Pr (PE X (.UnaryOp op a pos) (tUn r ta)):=⟨zar8 ho ha.h⟩
theorem zaar {op:CmpOp}{r:R2} (ho:OpR X (compareOp op) r) (ha:Pr (PE X a ta)) (hb:Pr (PE X b tb)) (hm:behindInMarks op b=false):Pr (PE X (.Compare a [op] [b] pos) (tOp r ta tb)):=⟨zaob ho ha.h hb.h hm⟩
theorem zafq {op op':CmpOp}{r r':R2} (ho:OpR X (compareOp op) r) (ho':OpR X (compareOp op') r') (ha:Pr (PE X a ta)) (hb:Pr (PE X b tb)) (hc:Pr (PE X c tc)) (hm:lastMarks [op,op'] [b,c]=false:=by with_unfolding_all rfl):Pr (PE X (.Compare a [op,op'] [b,c] pos) (tChain r r' ta tb tc)):=⟨zamd ho ho' ha.h hb.h hc.h hm⟩
end
section
variable {X:Cx}
variable {a b:Expr}{ta tb:TE}{pos:Pos}
variable {tA tB':TT}{rest:List Expr}
theorem zaaw (ha:Pr (PE X a ta)) (hb:Pr (PE X (.BoolOp .And (b :: rest) pos) tb)):Pr (PE X (.BoolOp .And (a :: b :: rest) pos) (tAndV ta tb)):=⟨zaqe ha.h hb.h⟩
end
section
variable {X:Cx}
variable {a b:Expr}{ta tb:TE}{pos:Pos}
variable {tA tB':TT}{rest:List Expr}
theorem zact (ha:Pr (PE X a ta)) (hb:Pr (PE X (.BoolOp .Or (b :: rest) pos) tb)):Pr (PE X (.BoolOp .Or (a :: b :: rest) pos) (tOrV ta tb)):=⟨zar5 ha.h hb.h⟩
end
section
variable {X:Cx}
variable {a b:Expr}{ta tb:TE}{pos:Pos}
variable {tA tB':TT}{rest:List Expr}
theorem zaau {op}{t:TE} (h:Pr (PE X a t)):Pr (PE X (.BoolOp op [a] pos) t):=⟨zaqd h.h⟩
end
section
variable {X:Cx}
variable {a b:Expr}{ta tb:TE}{pos:Pos}
variable {tA tB':TT}{rest:List Expr}
theorem zah4 (ha:Pr (PE X a ta)):Pr (PE X (.UnaryOp .Not a pos) (tNotV ta)):=⟨zaqf ha.h⟩
end
section
variable {X:Cx}
variable {a b:Expr}{ta tb:TE}{pos:Pos}
variable {tA tB':TT}{rest:List Expr}
theorem zaeu {c:Expr} (hc:Pr (PT X c tA)) (ha:Pr (PE X a ta)) (hb:Pr (PE X b tb)):Pr (PE X (.IfExp c a b pos) (tIf tA ta tb)):=⟨zal9 hc.h ha.h hb.h⟩
end
section
variable {X:Cx}{e:Expr}{es:List Expr}{te:TE}{t:TA}{pos:Pos}
theorem zaay {x1} (h:Pr (PA X es t)):Pr (PE X (.Tuple es x1 pos) (tTup t)):=⟨zaqo h.h⟩
theorem zaa0 (h:Pr (PA X es t)):Pr (PE X (.List es pos) (tLst t)):=⟨zaqp h.h⟩
end
section
variable {X:Cx}{e:Expr}{te:TE}{lo hi:Option Expr}{tl th:TO}{pos p2:Pos}
theorem zabw {r:V→Option Int→Option Int→Hp→VK→Prop} (hr:SlR X r) (he:Pr (PE X e te)) (hl:Pr (PO X lo tl)) (hu:Pr (PO X hi th)):Pr (PE X (.Subscript e (.Slice lo hi none p2) pos) (tSl r te tl th)):=⟨zami hr he.h hl.h hu.h⟩
end
section
variable {X:Cx}{a b:Expr}{ta tb:TE}{pos:Pos}
theorem zaao {r:R2} (hr:IxR X r) (ha:Pr (PE X a ta)) (hb:Pr (PE X b tb)) (hs:PlainIx b):Pr (PE X (.Subscript a b pos) (tOp r ta tb)):=⟨zasa hr ha.h hb.h hs⟩
end
section
variable {X:Cx}
theorem zagb {o i:Expr}{td ty:TE}{pos:Pos} (ho:Pr (PE X o td)) (hi:Pr (PE X i ty)) (hs:NoSl i):Pr (PE X (.Subscript o i pos) (tOp (rIxD X) td ty)):=⟨zaq1 ho.h hi.h hs⟩
end
section
variable {X:Cx}{o e value:Expr}{f:Str}{pos pos' tpos:Pos}{ta tv:TE}
theorem zab7 (he:Pr (PE X e ta)) (hb:attributeBase e f X.env (eval e X.env)=eval e X.env):Pr (PE X (.Attribute e f pos) (tFld X.K ta f)):=⟨zane he.h hb⟩
end
section
variable {X:Cx}{CX:CXT}{k:Nat}{ps:List Str}{sp:Sp}{E:XK}{x:Str}{p pos:Pos}{e:Expr}{es:List Expr}{t:TA}
theorem zaah (D:DefOk X.prog X.w X.K X.mg X.base CX k x ps sp) (hr:Room k X.A) (hg:Gl X x) (hx:Passes CX X E) (ha:Pr (PA X (e :: es) t)) (hdb:(x == ("__debug__" : Str))=false:=by decide) (he:starEach (e :: es) X.env=(false,eval e X.env) :: starEach es X.env:=by rfl) (hpl:(backTo pos (starEach es X.env)).any (·.1)=false:=by rfl):Pr (PE X (.Call (.Name x p) (e :: es) [] pos) (tCall sp [] E t)):=⟨zamp D hr hg hx ha.h hdb he hpl⟩
end
section
variable {X:Cx}{x:Str}{p pos:Pos}{e:Expr}{es:List Expr}{t:TA}{id T:String}{r:List V→Hp→VK→Prop}
theorem zaap (hc:CallR X (.builtin id) r) (hg:Gl X x) (hm:X.mg x=none) (hv:bootBuiltins x=some (.builtin id)) (ha:Pr (PA X (e :: es) t)) (hn:x ≠ "__name__" := by decide) (hdb:(x == ("__debug__" : Str))=false:=by decide) (he:starEach (e :: es) X.env=(false,eval e X.env) :: starEach es X.env:=by rfl) (hpl:(backTo pos (starEach es X.env)).any (·.1)=false:=by rfl):Pr (PE X (.Call (.Name x p) (e :: es) [] pos) (tCB r t)):=⟨zamg hc hg hm hv ha.h hn hdb he hpl⟩
theorem zabg (hc:CallR X (.type T) r) (hg:Gl X x) (hm:X.mg x=none) (hv:bootBuiltins x=some (.type T)) (ha:Pr (PA X (e :: es) t)) (hn:x ≠ "__name__" := by decide) (hdb:(x == ("__debug__" : Str))=false:=by decide) (he:starEach (e :: es) X.env=(false,eval e X.env) :: starEach es X.env:=by rfl) (hpl:(backTo pos (starEach es X.env)).any (·.1)=false:=by rfl):Pr (PE X (.Call (.Name x p) (e :: es) [] pos) (tCB r t)):=⟨zake hc hg hm hv ha.h hn hdb he hpl⟩
end
section
variable {X:Cx}{a b:Expr}{ta tb:TE}{pos:Pos}
variable {o e:Expr}{es:List Expr}{to:TE}{t:TA}{name:Str}{apos cpos:Pos}{T id:String}{r:V→List V→Hp→VK→Prop}
theorem zae7 (pa:PlainAttrs T) (slot:Slot T name id) (hty:typeOf (.builtin id)=pure (.type "method_descriptor")) (hm:MtR X id r) (ho:Pr (PE X o to)) (ha:Pr (PA X (e :: es) t)) (hbase:attributeBase o name X.env (eval o X.env)=eval o X.env:=by rfl) (hfew:((backTo cpos (starEach (e :: es) X.env)).all (fun x=>!x.1) && (backToKw cpos (keywordEach [] X.env)).all (fun x=>x.1.isSome)
   && decide ((e :: es).length + ([]:List Keyword).length + (if ([]:List Keyword).isEmpty then 0 else 1) < 30))=true:=by rfl) (hline:(apos.endLine == cpos.line)=true:=by rfl) (hs:starEach (e :: es) X.env=(false,eval e X.env) :: starEach es X.env:=by rfl) (hplain:(backTo cpos (starEach es X.env)).any (·.1)=false:=by rfl):Pr (PE X (.Call (.Attribute o name apos) (e :: es) [] cpos) (tBM X.K T r to t)):=⟨zasb pa slot hty hm ho.h ha.h hbase hfew hline hs hplain⟩
end
section
variable {X:Cx}{a b c:Expr}{ta tb tc:TE}{pos:Pos}
theorem zaak {op:CmpOp}{r:R2} (ho:OpR X (compareOp op) r) (ha:Pr (PE X a ta)) (hb:Pr (PE X b tb)) (hm:behindInMarks op b=false):Pr (PT X (.Compare a [op] [b] pos) (tTest (tOp r ta tb))):=⟨zaoc ho ha.h hb.h hm⟩
end
section
variable {X:Cx}
variable {a b:Expr}{ta tb:TE}{pos:Pos}
variable {tA tB':TT}{rest:List Expr}
theorem zabp (ha:Pr (PT X a tA)):Pr (PT X (.UnaryOp .Not a pos) (tNot tA)):=⟨zaqc ha.h⟩
end
section
variable {X:Cx}
variable {a b:Expr}{ta tb:TE}{pos:Pos}
theorem zabf {e:Expr}{t:TE} (h:Pr (PE X e t)) (he:∀ whole,isTrue e X.env whole=(do let v ← whole; standAt e.pos; holding [v] (truthy v)):=by intro _; rfl):Pr (PT X e (tB t)):=⟨zap9 h.h he⟩
end
section
theorem zabx {X:Cx}{e:Expr}{t:TT} (h:Pr (PW X e t)):Pr (PT X e t):=⟨PW.pt h.h⟩
end
section
variable {X:Cx}
variable {a b:Expr}{ta tb:TE}{pos:Pos}
variable {tA tB':TT}{rest:List Expr}
theorem zac1 (ha:Pr (PT X a tA)) (hb:Pr (PW X (.BoolOp .And (b :: rest) pos) tB')):Pr (PW X (.BoolOp .And (a :: b :: rest) pos) (tAnd tA tB')):=⟨zaqb ha.h hb.h⟩
end
section
variable {X:Cx}
variable {a b:Expr}{ta tb:TE}{pos:Pos}
variable {tA tB':TT}{rest:List Expr}
theorem zacq (ha:Pr (PT X a tA)):Pr (PW X (.BoolOp .And [a] pos) tA):=⟨zan1 ha.h⟩
end
section
variable {X:Cx}
variable {a b:Expr}{ta tb:TE}{pos:Pos}
variable {tA tB':TT}{rest:List Expr}
theorem zack (ha:Pr (PT X a tA)) (hb:Pr (PW X (.BoolOp .Or (b :: rest) pos) tB')):Pr (PW X (.BoolOp .Or (a :: b :: rest) pos) (tOr tA tB')):=⟨zar4 ha.h hb.h⟩
end
section
variable {X:Cx}
variable {a b:Expr}{ta tb:TE}{pos:Pos}
variable {tA tB':TT}{rest:List Expr}
theorem zab8 (ha:Pr (PT X a tA)):Pr (PW X (.BoolOp .Or [a] pos) tA):=⟨zaqa ha.h⟩
end
section
variable {X:Cx}{e:Expr}{es:List Expr}{te:TE}{t:TA}{pos:Pos}
theorem zaab  : Pr (PA X [] tNil):=⟨zaqn⟩
theorem zaaa (ha:Pr (PE X e te)) (hr:Pr (PA X es t)) (hs:starEach (e :: es) X.env=(false,eval e X.env) :: starEach es X.env:=by rfl):Pr (PA X (e :: es) (tCons te t)):=⟨zaog ha.h hr.h hs⟩
end
section
variable {X:Cx}{e:Expr}{te:TE}{lo hi:Option Expr}{tl th:TO}{pos p2:Pos}
theorem zaca  : Pr (PO X none tNoPart):=⟨zaoj⟩
theorem zab6 (h:Pr (PE X e te)):Pr (PO X (some e) (tPart te)):=⟨zaok h.h⟩
end
section
variable {X:Cx}{tg:Expr}
theorem zac6 {l:Expr}{tl:TE} (hl:Pr (PE X l tl)):Pr (PI X tg l (iList X.K tl)):=⟨zaj1 hl.h⟩
theorem zakp {l:Expr}{tl:TE} (hl:Pr (PE X l tl)):Pr (PI X tg l (iTup X.K tl)):=⟨zanb hl.h⟩
theorem zacu {a:Expr}{ta:TA}{p pos:Pos} (hg:Gl X "range") (hm:X.mg "range" = none) (ha:Pr (PA X [a] ta)) (hs:starEach [a] X.env=[(false,eval a X.env)]:=by rfl):Pr (PI X tg (.Call (.Name "range" p) [a] [] pos) (iRng1 ta)):=⟨zaj2 hg hm ha.h hs⟩
theorem zajo {a b:Expr}{ta:TA}{p pos:Pos} (hg:Gl X "range") (hm:X.mg "range" = none) (ha:Pr (PA X [a,b] ta)) (hs:starEach [a,b] X.env=[(false,eval a X.env),(false,eval b X.env)]:=by rfl) (hs2:starEach [b] X.env=[(false,eval b X.env)]:=by rfl):Pr (PI X tg (.Call (.Name "range" p) [a,b] [] pos) (iRng2 ta)):=⟨zaj3 hg hm ha.h hs hs2⟩
end
section
variable {X:Cx}{elts:List Expr}{kk:Nat}{tpos:Pos}
theorem zafr (k1 k2:SK) {a b:Expr}{ta:TA}{p pos:Pos} (hg:Gl X "zip") (hm:X.mg "zip" = none) (ha:Pr (PA X [a,b] ta)) (hs:starEach [a,b] X.env=[(false,eval a X.env),(false,eval b X.env)]:=by rfl) (hs2:starEach [b] X.env=[(false,eval b X.env)]:=by rfl):Pr (PI X (.Tuple elts kk tpos) (.Call (.Name "zip" p) [a,b] [] pos) (iZip X.K k1 k2 ta)):=⟨zaq0 k1 k2 hg hm ha.h hs hs2⟩
end
section
variable {X:Cx}{pos:Pos}
theorem zaa1 {i:Nat}{x:Str} (hN:X.N.Nodup) (hi:X.N[i]?=some x) (hx:Loc X.env.scope x) (hf:X.fn x=true∨X.env.scope.names.lookup x=some .local:=by first | exact .inl rfl | exact .inr rfl | assumption):Pr (PG X (.Name x pos) (gName i)):=⟨zan5 hN hi hx hf⟩
theorem zacn  : Pr (PGs X [] gNil):=⟨zan6⟩
theorem zabd {e:Expr}{es:List Expr}{t:TG}{u:TGs} (h1:Pr (PG X e t)) (h2:Pr (PGs X es u)) (hs:(assignEach (e :: es) X.env).map (·.2)=assign e X.env :: (assignEach es X.env).map (·.2):=by rfl):Pr (PGs X (e :: es) (gCons t u)):=⟨zamb h1.h h2.h hs⟩
theorem zad0 {es:List Expr}{k:Nat}{t:TGs}{n:Nat} (hc:X.calm=true) (h:Pr (PGs X es t)) (hn:(assignEach es X.env).length=n:=by rfl) (hst:(assignEach es X.env).findIdx? (·.1)=none:=by rfl):Pr (PG X (.Tuple es k pos) (gTup X.K n t)):=⟨zana hc h.h hn hst⟩
theorem zad8 {o i:Expr}{to ti:TE}{t:TSet} (ho:Pr (PE X o to)) (hi:Pr (PE X i ti)) (hs:PSet X t) (ha:∀ v,assign (.Subscript o i pos) X.env v=(do
   let ov ← holding [v] (eval o X.env)
   let iv ← holding [v,ov] (eval i X.env)
   standAt pos
   holding [v,ov,iv] (setItem ov iv v)
   release [v,ov,iv] []):=by intro _; rfl):Pr (PG X (.Subscript o i pos) (gSub to ti t)):=⟨zaqh ho.h hi.h hs ha⟩
end
section
variable {X:Cx}{st:Stmt}{rest:List Stmt}{t u:TS}{e:Expr}{te:TE}{pos:Pos}
theorem zaal (he:Pr (PE X e te)):Pr (PS X (.Return (some e) pos) (tRet te)):=⟨zaqg he.h⟩
end
section
variable {X:Cx}{pos:Pos}
theorem zaat {i:Nat}{x:Str}{e:Expr}{te:TE}{pos':Pos} (hN:X.N.Nodup) (hi:X.N[i]?=some x) (hx:Loc X.env.scope x) (he:Pr (PE X e te)) (hs:swapsWith e (some (.Name x pos')) pos.line X.env=pure false:=by rfl) (hf:X.fn x=true∨X.env.scope.names.lookup x=some .local:=by first | exact .inl rfl | exact .inr rfl | assumption):Pr (PS X (.Assign [.Name x pos'] e pos) (tAsg te (gName i))):=⟨zaqj hN hi hx he.h hs hf⟩
theorem zac4 {tg e:Expr}{te:TE}{g:TG} (he:Pr (PE X e te)) (hg:Pr (PG X tg g)) (hs:swapsWithSole [tg] e pos.line X.env=pure false:=by rfl) (hw:swappedStores [tg] e X.env=pure none:=by rfl) (h1:(assignEach [tg] X.env).map (·.2)=[assign tg X.env]:=by rfl):Pr (PS X (.Assign [tg] e pos) (tAsg te g)):=⟨zaqi he.h hg.h hs hw h1⟩
end
section
variable {X:Cx}{st:Stmt}{rest:List Stmt}{t u:TS}{e:Expr}{te:TE}{pos:Pos}
theorem zaax {c:Expr}{a b:List Stmt}{tc:TT} (hc:Pr (PT X c tc)) (ha:Pr (PSs X a t)) (hb:Pr (PSs X b u)):Pr (PS X (.If c a b pos) (tIfS tc t u)):=⟨zar6 hc.h ha.h hb.h⟩
end
section
theorem zaby {X:Cx}{tg iter:Expr}{body:List Stmt}{wi:TI}{g:TG}{tb:TS}{pos:Pos} (hp:PassesOwn (model X.prog X.w) X.A X.env X.xe) (hc:X.calm=true) (hi:Pr (PI X tg iter wi)) (hg:Pr (PG X tg g)) (hb:Pr (PSs X body tb)) (hs:∀ x,foldedSetIterable iter X.env x=pure x:=by intro _; rfl):Pr (PS X (.For tg iter body [] pos) (tLoop wi g tb)):=⟨zaos hp hc hi.h hg.h hb.h hs⟩
end
section
variable {X:Cx}{st:Stmt}{rest:List Stmt}{t u:TS}{e:Expr}{te:TE}{pos:Pos}
theorem zado (he:Pr (PE X e te)) (hs:swapsWith e none pos.line X.env=pure false:=by rfl):Pr (PS X (.Expr e pos) (tDrop te)):=⟨zan4 he.h hs⟩
theorem zae8  : Pr (PS X (.Continue pos) tCont):=⟨zahx⟩
theorem zaan  : Pr (PSs X [] tNext):=⟨zan2⟩
theorem zaag (h1:Pr (PS X st t)):Pr (PSs X [st] t):=⟨zan3 h1.h⟩
theorem zaaf (h1:Pr (PS X st t)) (h2:Pr (PSs X rest u)):Pr (PSs X (st :: rest) (tSeq t u)):=⟨zaiu h1.h h2.h⟩
end
section
theorem zaaz {X:Cx}{st:Stmt}{rest:List Stmt}{t u:TS} (h1:Pr (PS X st t)) (h2:Pr (PSs X rest u)):Pr (PSs X (st :: rest) (tCut t u)):=⟨zaot h1.h h2.h⟩
end
section
variable {X:Cx}{o e value:Expr}{f:Str}{pos pos' tpos:Pos}{ta tv:TE}
theorem zakq (ha:Pr (PE X o ta)) (hv:Pr (PE X value tv)) (hs:swapsWith value (some (.Attribute o f pos')) pos.line X.env=pure false):Pr (PS X (.Assign [.Attribute o f pos'] value pos) (sFld X.K ta tv f)):=⟨zaqm ha.h hv.h hs⟩
end
end L2

namespace L2
open PySem PySem.Spec PyProof.Rows
def relab (sc outer:Scope):Scope :=
 { sc with names:=sc.names.map fun (n,k)=>if (k == .free && outer.kind == .function && outer.names.lookup n == some .cell) then (n,.cell) else (n,k) }
structure CompOk (sc outer:Scope) (own:List Str) (N:List Str) (fr:List Nat) (N':List Str):Prop where
 kind:sc.kind=.function
 nocell:∀ y∈sc.names,y.2≠.cell
 loc:∀ y∈sc.names,y.2=.local→sc.names.lookup y.1=some .local
 fre:∀ y∈sc.names,y.2=.free→outer.names.lookup y.1=some .cell∨outer.names.lookup y.1=some .free
 nd:N'.Nodup
 all:N'.map some=own.map some++fr.map fun j=>N[j]?
 frk:∀ j∈fr,∀ x,N[j]?=some x→sc.names.lookup x=some .free∧(outer.names.lookup x=some .cell∨outer.names.lookup x=some .free)
def cst (n:Nat) (fr:List Nat) (σ:St):St:=List.replicate n none++fr.map fun j=>(σ[j]?).join
theorem zafs {env:Env}{sc:Scope} (h:∀ y∈sc.names,y.2=.free→∃ c,env.cells.lookup y.1=some c) :
  ∃ cl,closureFor sc env=pure cl∧(∀ x c,cl.lookup x=some c→env.cells.lookup x=some c)∧∀ y∈sc.names,y.2=.free→∃ c,cl.lookup y.1=some c:=by
 have key:∀ (l:List (Str × NameKind)) (cs:List (Str × Addr)),(∀ y∈l,y.2=.free→∃ c,env.cells.lookup y.1=some c)→(∀ x c,cs.lookup x=some c→env.cells.lookup x=some c) →
   ∃ cl,(forIn l cs fun x r=>if (x.2 == NameKind.free)=true then do let a ← cellOf env x.1; pure (ForInStep.yield ((x.1,a) :: r)) else pure (ForInStep.yield r))=(pure cl:Sem _)∧(∀ x c,cl.lookup x=some c→env.cells.lookup x=some c) ∧
    (∀ x,(∃ c,cs.lookup x=some c)→∃ c,cl.lookup x=some c)∧∀ y∈l,y.2=.free→∃ c,cl.lookup y.1=some c:=by
  intro l
  induction l with
  | nil=>intro cs _ h2; exact ⟨cs,rfl,h2,fun _ z=>z,fun y hy=>nomatch hy⟩
  | cons y l ih =>
   intro cs h1 h2
   obtain ⟨n,k⟩:=y
   by_cases hk:k=.free
   ·subst hk
    obtain ⟨c,hc⟩:=h1 (n,.free) List.mem_cons_self rfl
    obtain ⟨cl,e,a,b,d⟩:=ih ((n,c) :: cs) (fun y hy=>h1 y (List.mem_cons_of_mem _ hy)) (fun x c' hx=>by
     rw [List.lookup_cons] at hx
     split at hx
     ·rename_i q
      have:x=n:=by simpa using q
      cases hx; subst this; exact hc
     ·exact h2 x c' hx)
    refine ⟨cl,?_,a,fun x ⟨c',hx⟩=>b x ?_,fun y hy hf=>?_⟩
    ·rw [List.forIn_cons]
     have e1:cellOf env n=pure c:=by unfold cellOf; rw [hc]
     simp only [beq_self_eq_true,if_true,e1,pure_bind]
     exact e
    ·rw [List.lookup_cons]
     split
     ·exact ⟨_,rfl⟩
     ·exact ⟨c',hx⟩
    ·rcases List.mem_cons.mp hy with rfl | hy
     ·exact b n ⟨c,by simp [List.lookup_cons]⟩
     ·exact d y hy hf
   ·obtain ⟨cl,e,a,b,d⟩:=ih cs (fun y hy=>h1 y (List.mem_cons_of_mem _ hy)) h2
    refine ⟨cl,?_,a,b,fun y hy hf=>?_⟩
    ·rw [List.forIn_cons]
     have hb:(k == NameKind.free)=false:=by simpa using hk
     simp only [hb,Bool.false_eq_true,if_false,pure_bind]
     exact e
    ·rcases List.mem_cons.mp hy with rfl | hy
     ·exact absurd hf hk
     ·exact d y hy hf
 obtain ⟨cl,e,a,_,d⟩:=key sc.names [] h (fun x c hx=>by simp at hx)
 refine ⟨cl,?_,a,d⟩
 unfold closureFor
 simp only [e,pure_bind]
def cxC (X:Cx) (sc:Scope) (cl:List (Str × Addr)) (N':List Str) (C:Addr) (s:Shared) (H:Hp) (fp:List Addr):Cx :=
 { X with N:=N',s₀:=s,H₀:=H,env:=compEnvC sc cl C X.env,outer:=X.stack,stack:=X.stack,ex:=fp,fn:=fun _=>false,pn:=[],xe:=fun _ _=>False }
theorem zadp {outer:Scope}:∀ {names:List (Str × NameKind)}{x:Str}{k:NameKind},
  (names.map fun (n,k)=>if (k == NameKind.free && outer.kind == .function && outer.names.lookup n == some .cell) then (n,NameKind.cell) else (n,k)).lookup x=some k →
   names.lookup x=some k∨(names.lookup x=some .free∧k=.cell)
 | [],x,k,h=>by simp at h
 | (n,k') :: r,x,k,h=>by
  rw [List.map_cons] at h
  by_cases hc:(k' == NameKind.free && outer.kind == .function && outer.names.lookup n == some .cell)=true
  ·simp only [hc,if_true] at h
   rw [List.lookup_cons] at h ⊢
   cases hx:x == n with
   | true =>
    rw [hx] at h
    simp only [Option.some.injEq] at h
    have hf:k'=.free:=by
     have:=(Bool.and_eq_true_iff.mp (Bool.and_eq_true_iff.mp hc).1).1
     simpa using this
    exact .inr ⟨by simp [hf],h.symm⟩
   | false=>rw [hx] at h; exact zadp h
  ·simp only [hc,Bool.false_eq_true,if_false] at h
   rw [List.lookup_cons] at h ⊢
   cases hx:x == n with
   | true=>rw [hx] at h; exact .inl (by simpa using h)
   | false=>rw [hx] at h; exact zadp h
theorem zae3 {outer:Scope}:∀ {names:List (Str × NameKind)}{x:Str},names.lookup x=some .free →
  (names.map fun (n,k)=>if (k == NameKind.free && outer.kind == .function && outer.names.lookup n == some .cell) then (n,NameKind.cell) else (n,k)).lookup x=some .cell ∨
  (names.map fun (n,k)=>if (k == NameKind.free && outer.kind == .function && outer.names.lookup n == some .cell) then (n,NameKind.cell) else (n,k)).lookup x=some .free
 | [],x,h=>by simp at h
 | (n,k') :: r,x,h=>by
  rw [List.lookup_cons] at h
  rw [List.map_cons]
  by_cases hc:(k' == NameKind.free && outer.kind == .function && outer.names.lookup n == some .cell)=true
  ·simp only [hc,if_true]
   rw [List.lookup_cons]
   cases hx:x == n with
   | true=>exact .inl rfl
   | false=>rw [hx] at h; exact zae3 h
  ·simp only [hc,Bool.false_eq_true,if_false]
   rw [List.lookup_cons]
   cases hx:x == n with
   | true=>rw [hx] at h; exact .inr h
   | false=>rw [hx] at h; exact zae3 h
theorem zad1 {α:Type}:∀ {l:List (Str × α)}{x:Str}{k:α},l.lookup x=some k→(x,k)∈l
 | [],_,_,h=>by simp at h
 | (n,k') :: r,x,k,h=>by
  rw [List.lookup_cons] at h
  cases hx:x == n with
  | true =>
   rw [hx] at h
   have e:x=n:=by simpa using hx
   have e2:k'=k:=by simpa using h
   rw [e,e2]; exact List.mem_cons_self
  | false=>rw [hx] at h; exact List.mem_cons_of_mem _ (zad1 h)
section
variable {X:Cx}{pins:List (Addr × Obj)}{σ:St}{H:Hp}{s:Shared}{sc:Scope}{own:List Str}{fr:List Nat}{N':List Str}{cl:List (Str × Addr)}
theorem zah5 (I:Inv X pins σ H s) (cs:CompOk sc X.env.scope own X.N fr N') (h1:∀ x c,cl.lookup x=some c→X.env.cells.lookup x=some c) (h2:∀ y∈sc.names,y.2=.free→∃ c,cl.lookup y.1=some c)
  {fp:List Addr} (hf:∀ b∈fp,FpOk X pins H b∧∃ o,s.heap.get? b=some o) {h':Heap}{t':Nat}{C D:Addr}{o:Obj} (hC:s.heap.objs.size≤C) (hD:s.heap.objs.size≤D) (hDC:D≠C)
  (k:∀ b u,s.heap.get? b=some u→h'.get? b=some u) (hn:h'.Ns C fun _=>none) (hDo:h'.get? D=some o) (hd:∀ v,o.data≠.cell v) :
  Inv (cxC X sc cl N' C s H fp) [(D,o)] (cst own.length fr σ) H { s with heap:=h',toks:=t' }:=by
 have lt:∀ b u,s.heap.get? b=some u→b < s.heap.objs.size:=fun b u e=>Heap.lt_size e
 have fpC:∀ b∈fp,b≠C:=fun b hb z=>by
  obtain ⟨_,o,e⟩:=hf b hb
  have:=lt b o e
  rw [z] at this
  exact absurd (Nat.lt_of_lt_of_le this hC) (Nat.lt_irrefl _)
 have lenN:N'.length=own.length + fr.length:=by
  have:=congrArg List.length cs.all
  simpa using this
 refine ⟨⟨I.ok.mod,cs.kind,I.ok.glob,I.ok.blt,hC,fun x y c e1 e2=>I.ok.inj x y c (h1 x c e1) (h1 y c e2),fun x hx=>?_,fun x c z=>absurd z Bool.false_ne_true,I.ok.hd,I.ok.frames,.inl rfl,fun b hb=>⟨fpC b hb,fun x c e=>(hf b hb).1.2.2.2.2.1 x c (h1 x c e)⟩,
   I.bs,Nat.le_trans I.ok.bsz I.sz,fun b o' e hb=>?_,fun b hb z=>?_,I.stack,I.stkFree⟩,
  rfl,I.bare,Un.kept k,⟨_,hn,fun i x v e1 e2 e3=>?_⟩,fun x c e=>?_,I.hok.fresh hC,fun x c e=>I.freeC x c (h1 x c e),fun p hp=>?_,I.hok.kept k,?_⟩
 ·have hx':(relab sc X.env.scope).names.lookup x=some .cell∨(relab sc X.env.scope).names.lookup x=some .free:=hx
  have hfree:sc.names.lookup x=some .free:=by
   rcases hx' with z | z
   ·rcases zadp z with q | q
    ·exact absurd rfl (cs.nocell _ (zad1 q))
    ·exact q.1
   ·rcases zadp z with q | q
    ·exact q
    ·exact q.1
  exact h2 (x,.free) (zad1 hfree) rfl
 ·have q:=(hf b hb).1.2.2.2.1
  rcases q with q | q
  ·exact I.ok.noex b o' e q
  ·exact absurd (Nat.lt_of_lt_of_le (Heap.lt_size (I.ok.bs b o' e).1) q) (Nat.lt_irrefl _)
 ·have z':b∈frs X.stack:=z
  rcases List.mem_cons.mp (I.stkSub b z') with q | q
  ·exact (hf b hb).1.2.1 q
  ·exact (hf b hb).1.2.2.1 q
 ·-- a name of the block at its entry is one of the def's
  have hi:own.length≤i:=by
   by_cases hi:i < own.length
   ·have e2':(cst own.length fr σ)[i]?=some none:=by
     unfold cst
     rw [List.getElem?_append_left (by simpa using hi),List.getElem?_replicate,if_pos hi]
    rw [e2'] at e2; cases e2
   ·omega
  have e2':(fr.map fun j=>(σ[j]?).join)[i - own.length]?=some (some v):=by
   unfold cst at e2
   rwa [List.getElem?_append_right (by simpa using hi),List.length_replicate] at e2
  rw [List.getElem?_map] at e2'
  have e1a:(N'.map some)[i]?=some (some x):=by
   have e1:N'[i]?=some x:=e1
   rw [List.getElem?_map,e1]; rfl
  rw [cs.all,List.getElem?_append_right (by simpa using hi),List.length_map,List.getElem?_map] at e1a
  cases ej:fr[i - own.length]? with
  | none=>rw [ej] at e2'; cases e2'
  | some j =>
   rw [ej] at e2' e1a
   have hj:j∈fr:=List.mem_of_getElem? ej
   have nj:X.N[j]?=some x:=by simpa using e1a
   have sj:σ[j]?=some (some v):=by
    have:(σ[j]?).join=some v:=by simpa using e2'
    cases q:σ[j]? with
    | none=>rw [q] at this; cases this
    | some y=>rw [q] at this; simp at this; rw [this]
   obtain ⟨kf,ko⟩:=cs.frk j hj x nj
   obtain ⟨m,hm,hl⟩:=I.loc
   obtain ⟨u,r,l⟩:=hl j x v nj sj (.inr ko)
   refine ⟨u,r,.inr ?_⟩
   have lk:X.env.kindOf x=some .cell∨X.env.kindOf x=some .free:=ko
   rcases l with ⟨z,_⟩ | ⟨_,c,ec,ic⟩
   ·rcases lk with q | q <;> rw [z] at q <;> cases q
   ·obtain ⟨c',hc'⟩:=h2 (x,.free) (zad1 kf) rfl
    have:c'=c:=by
     have:=h1 x c' hc'
     rw [ec] at this; exact (Option.some.inj this).symm
    subst this
    refine ⟨zae3 kf,c',hc',?_⟩
    obtain ⟨oc,hoc,hcd⟩:=ic
    exact ⟨oc,k c' oc hoc,hcd⟩
 ·obtain ⟨v,oc,hoc,hcd⟩:=I.cell x c (h1 x c e)
  exact ⟨v,oc,k c oc hoc,hcd⟩
 ·have hp':p∈[(D,o)]:=hp
  have e:p=(D,o):=by simpa using hp'
  subst e
  refine ⟨hDo,I.hok.fresh hD,hDC,fun z=>?_,hd⟩
  have z':D∈frs X.stack:=z
  obtain ⟨_,o2,ho2,_⟩:=I.stack.mem z'
  exact absurd (Nat.lt_of_lt_of_le (Heap.lt_size ho2) hD) (Nat.lt_irrefl _)
 ·show (cst own.length fr σ).length=N'.length
  unfold cst
  rw [List.length_append,List.length_replicate,List.length_map,lenN]
theorem zakr (I:Inv X pins σ H s) {fp:List Addr} (hf:∀ b∈fp,FpOk X pins H b∧∃ o,s.heap.get? b=some o) {C D:Addr}{its:List Value}{ys:List V}{n:Nat}{σ':St}{H':Hp}{s':Shared}
  (hD:s.heap.objs.size≤D) (J:Inv (cxC X sc cl N' C s H fp) [(D,{ cls:=.type "list",data:=.seq its.toArray n })] σ' H' s') (r:Vals ys its) (hz:ys.length≤sizeLine):Inv X pins σ (upd H' D (.lst ys)) s':=by
 obtain ⟨hDo,hDn,hDC,hDf,hDc⟩:=J.pin (D,{ cls:=.type "list",data:=.seq its.toArray n }) (List.mem_append_right _ List.mem_cons_self)
 have u:Un (frs X.stack) fp H H' s.heap s'.heap:=J.base
 have os:s'.os=s.os:=J.os
 have lt:∀ b ob,s.heap.get? b=some ob→b≠D:=fun b ob e z=>by
  have:=Heap.lt_size e
  rw [z] at this
  exact absurd (Nat.lt_of_lt_of_le this hD) (Nat.lt_irrefl _)
 refine I.call' (ch:=fp) os ⟨u.keep,u.slot,fun b ob e n hx=>?_,u.there,fun b xs e=>?_,fun b ob x e=>?_,fun b ps e=>?_⟩ ?_ J.bare (fun b hb=>?_)
 ·rw [zabs (lt b ob e)]; exact u.free b ob e n hx
 ·have:=u.tups b xs e
  rw [zabs (zaa7 this hDn)]; exact this
 ·have:=u.frzs b ob x e
  rw [zabs (zaa7 this hDn)]; exact this
 ·obtain ⟨m,q⟩:=u.tbls b ps e
  exact ⟨m,by rw [zabs (zaa7 q hDn)]; exact q⟩
 ·intro b ob e
  by_cases hb:b=D
  ·subst hb
   rw [zaai] at e; cases e
   exact ⟨hz,its,n,r,hDo⟩
  ·rw [zabs hb] at e
   exact (J.hok b ob e).stay (fun c v _ q=>q) (fun c q=>by rw [zabs (zaa7 q hDn)]; exact q) fun c xs q=>by rw [zabs (zaa7 q hDn)]; exact q
 ·obtain ⟨_,f1,_,f3,f4,f5⟩:=(hf b hb).1
  exact ⟨f3,f1,f4,f5⟩
end
def PIf (X:Cx) (ifs:List Expr) (t:TT):Prop :=
 ∀ (pins:List (Addr × Obj)) (s:Shared) (σ:St) (H:Hp) (Q:Bool→Hp→Prop),Inv X pins σ H s→t σ H Q →
  wpAny (model X.prog X.w) X.A (forIn ifs true fun c r=>if r=true then do let ok ← isTrue c X.env (eval c X.env); pure (ForInStep.yield ok) else pure (ForInStep.yield r)) (TP X pins σ Q) X.xe s
def tYes:TT:=fun _ H Q=>Q true H
theorem zaou {X:Cx}:PIf X [] tYes:=fun _ _ _ H _ I h=>wpAny_tests_nil ⟨H,I,h⟩
theorem zaov {X:Cx}{c:Expr}{t:TT} (h:PT X c t):PIf X [c] t:=fun pins s σ H Q I q=>wpAny_tests_one (h pins s σ H Q I q)
structure Comp (J:It) (g:TG) (tt:TT) (te:TE) (Q:List V→Hp→Prop) (σ:St) (H:Hp):Prop where
 ex:∃ W:Nat→Nat→List V→St→Hp→Prop,(∃ m,W 0 m [] σ H)∧∀ i m ys σ H,W i m ys σ H→ys.length < sizeLine ∧
  ((J.stop i H∧Q ys H)∨(J.go i H∧∃ N:List V→St→Hp→Prop,(∀ ys' σ' H',N ys' σ' H'→∃ m',m' < m∧W (i + 1) m' ys' σ' H') ∧
    ∀ x H',J.yld i H x H'→g x σ H' fun σ2 H2=>tt σ2 H2 fun b H3=>if b=true then te σ2 H3 fun y H4=>N (ys++[y]) σ2 H4 else N ys σ2 H3))
section
variable {prog:Program}{w:World}{A:Around}{R:Result→Shared→Prop}{s:Shared}
theorem zahf {elt target iter:Expr}{ifs:List Expr}{scope:Scope}{pos:Pos}{it acc:Value}{env:Env} (I:Nat→Shared→Prop)
  (turn:∀ n s,I n s→wpAny (model prog w) A (pyNext it) (fun r s₁=>match r with
   | none=>R (.ok .next) s₁
   | some v=>wpAny (model prog w) A (letOwnedTupleGo target it v) (fun _ s₁=>wpAny (model prog w) A (assign target env v) (fun _ s₂ =>
     wpAny (model prog w) A (forIn ifs true fun c r=>if r=true then do let ok ← isTrue c env (eval c env); pure (ForInStep.yield ok) else pure (ForInStep.yield r)) (fun ok s₃ =>
      if ok=true then wpAny (model prog w) A (eval elt env) (fun x s₄ =>
       wpAny (model prog w) A (call (.builtin "list.append") [acc,x]) (fun _ s₅=>∃ m,m < n∧I m s₅) (fun _ _=>False) s₄) (fun _ _=>False) s₃
      else ∃ m,m < n∧I m s₃) (fun _ _=>False) s₂) (fun _ _=>False) s₁) (fun _ _=>False) s₁) (fun _ _=>False) s)
  (n:Nat) (h:I n s):codeAny (model prog w) A (.compLoop (.ListComp elt [⟨target,iter,ifs,0⟩] scope pos) 0 it acc env) R s:=by
 refine codeAny_loop rfl I (fun n s hI=>?_) n h
 show wpAny _ A ((compTurn (.ListComp elt [⟨target,iter,ifs,0⟩] scope pos) 0 it acc env).onRaise (fun x=>do noteFrame x env; theTreesLotGoes x)) _ _ s
 refine wpAny_noted (wpAny_noRaise ?_)
 rw [compTurn_list]
 refine wpAny_bind (wpAny_standAt (wpAny_bind (wpAny_mono (turn n s hI) (fun r s₁ h₁=>?_) fun _ _ h'=>h')))
 cases r with
 | none=>exact wpAny_pure h₁
 | some v =>
  refine wpAny_bind (wpAny_mono h₁ (fun _ s₁ h₁=>?_) fun _ _ h'=>h')
  refine wpAny_bind (wpAny_mono h₁ (fun _ s₂ h₂=>wpAny_bind (wpAny_mono h₂ (fun ok s₃ h₃=>?_) fun _ _ h'=>h')) fun _ _ h'=>h')
  cases ok with
  | false=>exact wpAny_pure ⟨rfl,h₃⟩
  | true =>
   exact wpAny_bind (wpAny_bind (wpAny_mono h₃ (fun x s₄ h₄=>wpAny_bind (wpAny_mono h₄ (fun _ s₅ h₅=>wpAny_pure (wpAny_pure ⟨rfl,h₅⟩)) fun _ _ h'=>h')) fun _ _ h'=>h'))
end
end L2

namespace L2
open PySem PySem.Spec PyProof.Rows
structure TurnX (G:Cx→Prop) (P:Program) (w:World) (K:PySem.W.Frag) (tg:Expr) (J:It) (fp:List Addr) (it:Addr) (tn:Nat→Heap→Prop):Prop where
 obj:∀ i h,tn i h→∀ b∈fp,∃ o,h.get? b=some o∧∀ v,o.data≠.cell v
 keep:∀ i h h',tn i h→(∀ b∈fp,∀ o,h.get? b=some o→h'.get? b=some o)→tn i h'
 item:∀ (X:Cx),X.prog=P→X.w=w→X.K=K→G X→∀ (i:Nat) (pins:List (Addr × Obj)) (s:Shared) (σ:St) (H:Hp) (E:Value→Shared→Prop),Inv X pins σ H s→(∀ b∈fp,FpOk X pins H b)→tn i s.heap→J.go i H →
  wpAny (model P w) X.A (pyNext (.ref it)) (fun r s1=>∃ u,r=some u ∧
   wpAny (model P w) X.A (letOwnedTupleGo tg (.ref it) u) (fun _ s2=>∃ x H',Inv X pins σ H' s2∧RelV x u∧J.yld i H x H'∧tn (i + 1) s2.heap∧∀ b∈fp,H' b=none) E s1) E s
 done:∀ (X:Cx),X.prog=P→X.w=w→X.K=K→G X→∀ (i:Nat) (pins:List (Addr × Obj)) (s:Shared) (σ:St) (H:Hp) (E:Value→Shared→Prop),Inv X pins σ H s→(∀ b∈fp,FpOk X pins H b)→tn i s.heap→J.stop i H →
  wpAny (model P w) X.A (pyNext (.ref it)) (fun r s1=>r=none∧Inv X pins σ H s1) E s
 self:∀ (A:Around) (i:Nat) (s:Shared) (Q:Value→Shared→Prop) (E:Value→Shared→Prop),tn i s.heap→Q (.ref it) s→wpAny (model P w) A (pyIter (.ref it)) Q E s
theorem Turn.x {P:Program}{w:World}{K:PySem.W.Frag}{tg:Expr}{J:It}{fp:List Addr}{it:Addr}{tn:Nat→Heap→Prop} (T:Turn P w K tg J fp it tn):TurnX (fun X=>X.calm=true) P w K tg J fp it tn:=⟨T.obj,T.keep,T.item,T.done,T.self⟩
section
variable {X:Cx}{sc:Scope}{own:List Str}{fr:List Nat}{N':List Str}{tg elt iter:Expr}{ifs:List Expr}{g:TG}{tt:TT}{te:TE}{wi:TI}{pos:Pos}
theorem zaf2 {G:Cx→Prop}{pins:List (Addr × Obj)}{σ:St}{H:Hp}{s2:Shared}{it:Addr}{fp:List Addr}{tn:Nat→Heap→Prop}{J:It}{QQ:List V→Hp→Prop}{cl:List (Str × Addr)}{RR:Value→Addr→Result→Shared→Prop}{E:Value→Shared→Prop}
  (I2:Inv X pins σ H s2) (hc:∀ cl C s H fp,G (cxC X sc cl N' C s H fp)) (T:TurnX G X.prog X.w X.K tg J fp it tn) (st:tn 0 s2.heap) (f2:∀ b∈fp,FpOk X pins H b) (cs:CompOk sc X.env.scope own X.N fr N')
  (h1:∀ x c,cl.lookup x=some c→X.env.cells.lookup x=some c) (h2:∀ y∈sc.names,y.2=.free→∃ c,cl.lookup y.1=some c)
  (hg:∀ cl C s H fp,PG (cxC X sc cl N' C s H fp) tg g) (hif:∀ cl C s H fp,PIf (cxC X sc cl N' C s H fp) ifs tt) (he:∀ cl C s H fp,PE (cxC X sc cl N' C s H fp) elt te)
  (KK:Comp J g tt te QQ (cst own.length fr σ) H)
  (hRR:∀ D C m H' ys s',s2.heap.objs.size≤C→s'.heap.Ns C m→H' D=none→(upd H' D (.lst ys)) C=none→QQ ys H'→Inv X pins σ (upd H' D (.lst ys)) s'→RR (.ref D) C (.ok .next) s') :
  wpAny (model X.prog X.w) X.A (newList []) (fun acc s₃=>wpAny (model X.prog X.w) X.A (newFunctionEnv sc X.env.globals cl [] X.env.qual none .none (some X.env)) (fun cenv s₄ =>
   codeAny (model X.prog X.w) X.A (.compStart (.ListComp elt [⟨tg,iter,ifs,0⟩] sc pos) 0 (.ref it) acc { cenv with scope:=relabel sc X.env }) (RR acc cenv.locals) s₄) E s₃) E s2:=by
 refine wpAny_newObj_type (wpAny_newFunctionEnv cs.nocell (by intro y hy; simp at hy) (fun h₁ hns₁ hsb₁=>?_) cs.kind)
 dsimp only at hns₁ hsb₁ ⊢
 generalize hH2:s2.heap.push { cls:=.type "list",dict:=none,data:=.seq ([]:List Value).toArray }=H2 at hns₁ hsb₁ ⊢
 have hC:H2.objs.size=s2.heap.objs.size + 1:=by rw [← hH2,Heap.size_push]
 have hDC:s2.heap.objs.size≠H2.objs.size:=by rw [hC]; exact Nat.ne_of_lt (Nat.lt_succ_self _)
 have hCle:s2.heap.objs.size≤H2.objs.size:=by rw [hC]; exact Nat.le_succ _
 have below:∀ b,b < s2.heap.objs.size→b≠H2.objs.size∧b≠s2.heap.objs.size:=fun b hb=>⟨by rw [hC]; exact Nat.ne_of_lt (Nat.lt_succ_of_lt hb),Nat.ne_of_lt hb⟩
 have old:∀ b o,s2.heap.get? b=some o→h₁.get? b=some o:=fun b o e=>hsb₁.extBut b o (below b (Heap.lt_size e)).1 (Heap.get?_push_of_some _ (hH2 ▸ Heap.get?_push_of_some _ e))
 have hacc:h₁.get? s2.heap.objs.size=some { cls:=.type "list",data:=.seq ([]:List Value).toArray 0 }:=hsb₁.extBut _ _ hDC (Heap.get?_push_of_some _ (hH2 ▸ Heap.get?_push_size _ rfl))
 have fpo:∀ b∈fp,FpOk X pins H b∧∃ o,s2.heap.get? b=some o:=fun b hb=>⟨f2 b hb,let ⟨o,e,_⟩:=T.obj 0 _ st b hb; ⟨o,e⟩⟩
 have st1:tn 0 h₁:=T.keep _ _ _ st fun b hb o e=>old b o e
 have hns:h₁.Ns H2.objs.size fun _=>none:=by simpa using hns₁
 obtain ⟨W,⟨m0,w0⟩,turn⟩:=KK.ex
 have loop:∀ s₃:Shared,s₃={ s2 with heap:=h₁,toks:=s2.toks + ([]:List (Str × Value)).length } →
   codeAny (model X.prog X.w) X.A (.compLoop (.ListComp elt [⟨tg,iter,ifs,0⟩] sc pos) 0 (.ref it) (.ref s2.heap.objs.size) (compEnvC sc cl H2.objs.size X.env)) (RR (.ref s2.heap.objs.size) H2.objs.size) s₃:=by
  rintro s₃ rfl
  have J0:Inv (cxC X sc cl N' H2.objs.size s2 H fp) [(s2.heap.objs.size,{ cls:=.type "list",data:=.seq ([]:List Value).toArray 0 })] (cst own.length fr σ) H { s2 with heap:=h₁,toks:=s2.toks + ([]:List (Str × Value)).length } :=
   zah5 I2 cs h1 h2 fpo hCle (Nat.le_refl _) hDC old hns hacc (fun v z=>by cases z)
  have stat:∀ {pl:List (Addr × Obj)}{H':Hp},(∀ p∈pl,p.1=s2.heap.objs.size)→(∀ b∈fp,H' b=none)→∀ b∈fp,FpOk (cxC X sc cl N' H2.objs.size s2 H fp) pl H' b:=fun {pl H'} hpl hn b hb=>by
   obtain ⟨f,ob,e⟩:=fpo b hb
   refine ⟨hn b hb,(below b (Heap.lt_size e)).1,fun z=>?_,.inl hb,fun x c ec=>f.2.2.2.2.1 x c (h1 x c ec),fun p hp=>?_⟩
   ·have z':b∈frs X.stack:=z
    rcases List.mem_cons.mp (I2.stkSub b z') with q | q
    ·exact f.2.1 q
    ·exact f.2.2.1 q
   ·have hp':p∈pl:=hp
    rw [hpl p hp']
    exact Ne.symm (below b (Heap.lt_size e)).2
  have one:∀ (o:Obj),∀ p∈[(s2.heap.objs.size,o)],p.1=s2.heap.objs.size:=fun o p hp=>by
   have:p=(s2.heap.objs.size,o):=by simpa using hp
   rw [this]
  refine zahf (env:=compEnvC sc cl H2.objs.size X.env) (fun n s'=>∃ i ys its k σ' H',Inv (cxC X sc cl N' H2.objs.size s2 H fp) [(s2.heap.objs.size,{ cls:=.type "list",data:=.seq (its:List Value).toArray k })] σ' H' s'∧tn i s'.heap∧(∀ b∈fp,H' b=none)∧Vals ys its∧W i n ys σ' H')
   ?_ m0 ⟨0,[],[],0,_,H,J0,st1,fun b hb=>(f2 b hb).1,.nil,w0⟩
  rintro n s3 ⟨i,ys,its,k,σ3,H3,I3,st3,fr3,rv,w3⟩
  obtain ⟨hlen,alt⟩:=turn i n ys σ3 H3 w3
  rcases alt with ⟨stop,qn⟩ | ⟨go,N,hN,step⟩
  ·refine wpAny_mono (T.done (cxC X sc cl N' H2.objs.size s2 H fp) rfl rfl rfl (hc _ _ _ _ _) i _ s3 σ3 H3 (fun _ _=>False) I3 (stat (one _) fr3) st3 stop) (fun r s4 ⟨hr,I4⟩=>?_) fun _ _ z=>z
   subst hr
   obtain ⟨m,hm,_⟩:=I4.loc
   have hDn:H3 s2.heap.objs.size=none:=(I4.pin (s2.heap.objs.size,{ cls:=.type "list",data:=.seq its.toArray k }) (List.mem_append_right _ List.mem_cons_self)).2.1
   exact hRR _ _ m H3 ys s4 hCle hm hDn (by rw [zabs (Ne.symm hDC)]; exact I4.free) qn (zakr I2 fpo (Nat.le_refl _) I4 rv (Nat.le_of_lt hlen))
  ·refine wpAny_mono (T.item (cxC X sc cl N' H2.objs.size s2 H fp) rfl rfl rfl (hc _ _ _ _ _) i _ s3 σ3 H3 (fun _ _=>False) I3 (stat (one _) fr3) st3 go) (fun r s4 ⟨u,hr,h4⟩=>?_) fun _ _ z=>z
   subst hr
   refine wpAny_mono h4 (fun _ s5 ⟨x,H5,I5,r5,y5,st5,fr5⟩=>?_) fun _ _ z=>z
   have I5':=I5.pinned (stat (one _) fr5) (T.obj _ _ st5)
   refine wpAny_mono (hg cl H2.objs.size s2 H fp _ s5 σ3 H5 x u _ I5' r5 (step x H5 y5)) (fun _ s6 ⟨σ6,H6,I6,q6⟩=>?_) fun _ _ z=>z
   refine wpAny_mono (hif cl H2.objs.size s2 H fp _ s6 σ6 H6 _ I6 q6) (fun b s7 ⟨H7,I7,q7⟩=>?_) fun _ _ z=>z
   have fps:∀ {σ8:St}{H8:Hp}{s8:Shared},Inv (cxC X sc cl N' H2.objs.size s2 H fp) ([(s2.heap.objs.size,{ cls:=.type "list",data:=.seq its.toArray k })]++pinsAt fp s5.heap) σ8 H8 s8 →
     tn (i + 1) s8.heap∧∀ b∈fp,H8 b=none:=fun {σ8 H8 s8} I8=>by
    refine ⟨T.keep _ _ _ st5 fun b hb o e=>(I8.pin (b,o) (List.mem_append_right _ (List.mem_append_right _ (zaee hb e)))).1,fun b hb=>?_⟩
    obtain ⟨o,e,d⟩:=T.obj _ _ st5 b hb
    exact (I8.pin (b,o) (List.mem_append_right _ (List.mem_append_right _ (zaee hb e)))).2.1
   cases b with
   | false =>
    obtain ⟨m',hm,w7⟩:=hN ys σ6 H7 q7
    exact ⟨m',hm,i + 1,ys,its,k,σ6,H7,I7.unpinned,(fps I7).1,(fps I7).2,rv,w7⟩
   | true =>
    have q7':te σ6 H7 fun y H4=>N (ys++[y]) σ6 H4:=q7
    refine wpAny_mono (he cl H2.objs.size s2 H fp _ s7 σ6 H7 _ I7 q7') (fun uy s8 ⟨y,H8,I8,r8,n8⟩=>?_) fun _ _ z=>z
    obtain ⟨m',hm,w8⟩:=hN _ _ _ n8
    obtain ⟨hDo,hDn,hDL,hDf,_⟩:=I8.pin (s2.heap.objs.size,{ cls:=.type "list",data:=.seq its.toArray k }) (List.mem_append_right _ (List.mem_append_left _ List.mem_cons_self))
    have hys:its.toArray.size≤sizeLine:=by rw [List.size_toArray,← rv.length]; exact Nat.le_of_lt hlen
    refine wpAny_list_append_plain (hsz:=hys) (⟨k,hDo⟩:s8.heap.PlainList s2.heap.objs.size its.toArray) fun h9 ⟨k',hl9⟩ hs9=>?_
    have hDp:∀ p∈(cxC X sc cl N' H2.objs.size s2 H fp).pn++pinsAt fp s5.heap,p.1≠s2.heap.objs.size:=fun p hp=>by
     have hp':p∈pinsAt fp s5.heap:=by
      have hp2:p∈([]:List (Addr × Obj))++pinsAt fp s5.heap:=hp
      simpa using hp2
     obtain ⟨hb,_⟩:=zagz hp'
     obtain ⟨_,ob,e⟩:=fpo p.1 hb
     exact (below p.1 (Heap.lt_size e)).2
    have I8':Inv (cxC X sc cl N' H2.objs.size s2 H fp) (pinsAt fp s5.heap) σ6 H8 s8:=I8.pins_of fun p hp=>I8.pin p (List.mem_append_right _ (List.mem_append_right _ hp))
    have I9:Inv (cxC X sc cl N' H2.objs.size s2 H fp) (pinsAt fp s5.heap) σ6 H8 { s8 with heap:=h9 }:=I8'.turned (t':=s8.toks) (it:=s2.heap.objs.size) (fun b o hb e=>(hs9.2 b hb).trans e) hDn hDL (.inr (Nat.le_refl _))
     (fun x c e z=>by
      obtain ⟨v,q⟩:=I2.cell x c (h1 x c e)
      have:=q.lt
      rw [z] at this
      exact absurd this (Nat.lt_irrefl _)) hDp
    have key:=fps I8
    refine ⟨m',hm,i + 1,ys++[y],its++[uy],k',σ6,H8,I9.pins_of fun p hp=>?_,T.keep _ _ _ key.1 fun b hb o e=>?_,key.2,rv.append (.cons r8 .nil),w8⟩
    ·have e:p=(s2.heap.objs.size,{ cls:=.type "list",data:=.seq (its++[uy]).toArray k' }):=by simpa using hp
     subst e
     refine ⟨?_,hDn,hDL,hDf,fun v z=>by cases z⟩
     have:(its++[uy]).toArray=its.toArray.push uy:=by simp
     rw [this]; exact hl9
    ·obtain ⟨_,ob,e2⟩:=fpo b hb
     exact (hs9.2 b (below b (Heap.lt_size e2)).2).trans e
 exact codeAny_compStart_list (loop _ rfl) (wpAny_mono (T.self X.A 0 _ (fun it' s'=>it'=.ref it∧s'={ s2 with heap:=h₁,toks:=s2.toks + ([]:List (Str × Value)).length }) _ st1 ⟨rfl,rfl⟩) (fun it' s' ⟨e1,e2⟩=>by subst e1 e2; exact loop _ rfl) fun _ _ z=>z)
def tComp (n:Nat) (fr:List Nat) (wi:TI) (g:TG) (tt:TT) (te:TE):TE:=fun σ H Q=>wi σ H fun J H1=>Comp J g tt te (fun ys H2=>∀ D,H2 D=none→Q (.ref D) (upd H2 D (.lst ys))) (cst n fr σ) H1
theorem zaow (hc:X.calm=true) (cs:CompOk sc X.env.scope own X.N fr N') (hi:PI X tg iter wi) (hg:∀ cl C s H fp,PG (cxC X sc cl N' C s H fp) tg g) (hif:∀ cl C s H fp,PIf (cxC X sc cl N' C s H fp) ifs tt)
  (he:∀ cl C s H fp,PE (cxC X sc cl N' C s H fp) elt te) (hs:∀ x,foldedSetIterable iter X.env x=pure x:=by intro _; rfl):PE X (.ListComp elt [⟨tg,iter,ifs,0⟩] sc pos) (tComp own.length fr wi g tt te):=by
 intro pins s σ H Q I h
 obtain ⟨cl,ecl,h1,h2⟩:=zafs (env:=X.env) (sc:=sc) fun y hy hf=>I.ok.has y.1 (cs.fre y hy hf)
 rw [eval_ListComp]
 refine wpAny_comprehension_free (use:=none) rfl hs ecl cs.kind cs.loc (thn (hi pins s σ H _ I h) fun v s1 q1=>thn q1 fun itv s2 q2=>?_)
 obtain ⟨it,fp,tn,J,H2,rfl,I2,T,st,f2,KK⟩:=q2
 refine zaf2 (RR:=fun acc C=>compPost (model X.prog X.w) X.A X.xe none (EP X pins σ Q) acc C) I2 (fun _ _ _ _ _=>hc) T.x st f2 cs h1 h2 hg hif he KK fun D C m H' ys s' hC hn hD hCn hq I'=>?_
 refine ⟨m,hn,fun h' hs'=>⟨.ref D,upd H' D (.lst ys),?_,rfl,hq D hD⟩⟩
 obtain ⟨f0,f1,f2,f3,f4,f5⟩:=I2.fpOk hC hCn
 exact I'.turned (t':=s'.toks) (it:=C) (fun b o hb e=>(hs'.2 b hb).trans e) f0 (Ne.symm (Ne.symm f1)) f3 f4 f5
def tSetC (i n:Nat) (fr:List Nat) (wi:TI) (g:TG) (tt:TT) (te:TE):TS:=fun D σ H=>wi σ H fun J H1=>Comp J g tt te (fun ys H2=>∀ p,H2 p=none→D.nx (σ.set i (some (.ref p))) (upd H2 p (.lst ys))) (cst n fr σ) H1
theorem zaox {i:Nat}{y:Str}{py spos:Pos} (hN:X.N.Nodup) (hy:X.N[i]?=some y) (hx:Loc X.env.scope y) (hc:X.calm=true) (cs:CompOk sc X.env.scope own X.N fr N') (hi:PI X tg iter wi)
  (hg:∀ cl C s H fp,PG (cxC X sc cl N' C s H fp) tg g) (hif:∀ cl C s H fp,PIf (cxC X sc cl N' C s H fp) ifs tt) (he:∀ cl C s H fp,PE (cxC X sc cl N' C s H fp) elt te)
  (hsw:swapsWith (.ListComp elt [⟨tg,iter,ifs,0⟩] sc pos) (some (.Name y py)) spos.line X.env=pure true) (hfn:X.fn y=true∨X.env.scope.names.lookup y=some .local:=by first | exact .inl rfl | exact .inr rfl | assumption) (hs:∀ x,foldedSetIterable iter X.env x=pure x:=by intro _; rfl) :
  PS X (.Assign [.Name y py] (.ListComp elt [⟨tg,iter,ifs,0⟩] sc pos) spos) (tSetC i own.length fr wi g tt te):=by
 intro pins s σ H D I h
 obtain ⟨cl,ecl,h1,h2⟩:=zafs (env:=X.env) (sc:=sc) fun y hy hf=>I.ok.has y.1 (cs.fre y hy hf)
 rw [exec_Assign_Name_used _ _ _ _ hsw]
 refine wpAny_bind (wpAny_standAt (wpAny_bind ?_))
 show wpAny _ X.A (do let _ ← comprehension (.ListComp elt [⟨tg,iter,ifs,0⟩] sc pos) sc X.env _ (newList []) false (eval iter X.env) (some (assign (.Name y py) X.env))) _ _ s
 refine wpAny_bind (wpAny_mono (wpAny_comprehension_free (use:=some (assign (.Name y py) X.env)) (Q:=fun _ s'=>∃ σ' H',Inv X pins σ' H' s'∧D.nx σ' H') rfl hs ecl cs.kind cs.loc (thn (hi pins s σ H _ I h) fun v s1 q1=>thn q1 fun itv s2 q2=>?_))
  (fun _ s' hq=>wpAny_pure (wpAny_pure hq)) fun _ _ e=>e)
 obtain ⟨it,fp,tn,J,H2,rfl,I2,T,st,f2,KK⟩:=q2
 refine zaf2 (RR:=fun acc C=>compPost (model X.prog X.w) X.A X.xe (some (assign (.Name y py) X.env)) (fun _ s'=>∃ σ' H',Inv X pins σ' H' s'∧D.nx σ' H') acc C) I2 (fun _ _ _ _ _=>hc) T.x st f2 cs h1 h2 hg hif he KK fun p C m H' ys s' hC hn hD hCn hq I'=>?_
 obtain ⟨f0,f1,f2,f3,f4,f5⟩:=I2.fpOk hC hCn
 show wpAny _ X.A (assign (.Name y py) X.env (.ref p)) _ _ _
 refine wpAny_assign_Name (zagy (v:=.ref p) I' hN hy hx rfl (fun s'' I'' ⟨a,hsa,ha⟩=>?_) hfn)
 have hCa:C≠a:=by
  rcases ha with z | z
  ·rw [z]; exact f1
  ·exact Ne.symm (f4 y a z)
 refine ⟨m,hn.sameBut hsa hCa,fun h' hs'=>⟨_,_,?_,hq p hD⟩⟩
 exact I''.turned (t':=s''.toks) (it:=C) (fun b o hb e=>(hs'.2 b hb).trans e) f0 f1 f3 f4 f5
end
theorem zagc {J:It}{g:TG}{tt:TT}{te:TE}{Q:List V→Hp→Prop}{σ:St}{H:Hp} (n:Nat) (Pv:Nat→List V→St→Hp→Prop) (h0:Pv 0 [] σ H) (hl:∀ i ys σ H,i≤n→Pv i ys σ H→ys.length < sizeLine)
  (go:∀ i ys σ H,i < n→Pv i ys σ H→J.go i H) (stop:∀ ys σ H,Pv n ys σ H→J.stop n H)
  (turn:∀ i ys σ H,i < n→Pv i ys σ H→∀ x H',J.yld i H x H'→g x σ H' fun σ2 H2=>tt σ2 H2 fun b H3=>if b=true then te σ2 H3 fun y H4=>Pv (i + 1) (ys++[y]) σ2 H4 else Pv (i + 1) ys σ2 H3)
  (after:∀ ys σ H,Pv n ys σ H→Q ys H):Comp J g tt te Q σ H:=by
 refine ⟨fun i m ys σ H=>i≤n∧m=n - i∧Pv i ys σ H,⟨n,Nat.zero_le _,rfl,h0⟩,fun i m ys σ H ⟨hi,hm,p⟩=>⟨hl i ys σ H hi p,?_⟩⟩
 rcases Nat.lt_or_ge i n with h | h
 ·exact .inr ⟨go i ys σ H h p,Pv (i + 1),fun ys' σ' H' q=>⟨n - (i + 1),by omega,h,rfl,q⟩,turn i ys σ H h p⟩
 ·have e:i=n:=Nat.le_antisymm hi h
  subst e
  exact .inl ⟨stop ys σ H p,after ys σ H p⟩
theorem zaf3 {lo:Int}{n:Nat}{g:TG}{tt:TT}{te:TE}{Q:List V→Hp→Prop}{σ:St}{H:Hp} (Pv:Nat→List V→St→Hp→Prop) (hn:n < sizeLine) (h0:Pv 0 [] σ H) (hl:∀ i ys σ H,i≤n→Pv i ys σ H→ys.length≤i)
  (turn:∀ i ys σ H,i < n→Pv i ys σ H→g (.int (lo + i)) σ H fun σ2 H2=>tt σ2 H2 fun b H3=>if b=true then te σ2 H3 fun y H4=>Pv (i + 1) (ys++[y]) σ2 H4 else Pv (i + 1) ys σ2 H3)
  (after:∀ ys σ H,Pv n ys σ H→Q ys H):Comp (Itr lo n) g tt te Q σ H :=
 zagc n Pv h0 (fun i ys σ H hi p=>Nat.lt_of_le_of_lt (Nat.le_trans (hl i ys σ H hi p) hi) hn) (fun i _ _ _ hi _=>hi) (fun _ _ _ _=>Nat.le_refl _) (fun i ys σ H hi p x H' y=>by obtain ⟨rfl,rfl⟩:=y; exact turn i ys σ _ hi p) after
theorem zadg {K:PySem.W.Frag}{a:Addr} (xs:List V) {g:TG}{tt:TT}{te:TE}{Q:List V→Hp→Prop}{σ:St}{H:Hp} (Pv:Nat→List V→St→Hp→Prop) (hn:xs.length < sizeLine) (h0:Pv 0 [] σ H) (hl:∀ i ys σ H,i≤xs.length→Pv i ys σ H→ys.length≤i∧SqL K H a xs)
  (turn:∀ i ys σ H x,xs[i]?=some x→Pv i ys σ H→g x σ H fun σ2 H2=>tt σ2 H2 fun b H3=>if b=true then te σ2 H3 fun y H4=>Pv (i + 1) (ys++[y]) σ2 H4 else Pv (i + 1) ys σ2 H3)
  (after:∀ ys σ H,Pv xs.length ys σ H→Q ys H):Comp (Itl K a) g tt te Q σ H :=
 zagc xs.length Pv h0 (fun i ys σ H hi p=>Nat.lt_of_le_of_lt (Nat.le_trans (hl i ys σ H hi p).1 hi) hn) (fun i ys σ H hi p=>⟨xs,xs[i],(hl i ys σ H (Nat.le_of_lt hi) p).2,List.getElem?_eq_getElem hi⟩)
  (fun ys σ H p=>⟨xs,(hl _ ys σ H (Nat.le_refl _) p).2,Nat.le_refl _⟩) (fun i ys σ H hi p x H' y=>by obtain ⟨rfl,y⟩:=y; exact turn i ys σ _ x (y xs (hl i ys σ _ (Nat.le_of_lt hi) p).2) p) after
theorem zai0 {K:PySem.W.Frag}{a:Addr} (xs:List V) {g:TG}{tt:TT}{te:TE}{Q:List V→Hp→Prop}{σ:St}{H:Hp} (Pv:Nat→List V→St→Hp→Prop) (hn:xs.length < sizeLine) (h0:Pv 0 [] σ H) (hl:∀ i ys σ H,i≤xs.length→Pv i ys σ H→ys.length≤i∧SqT K H a xs)
  (turn:∀ i ys σ H x,xs[i]?=some x→Pv i ys σ H→g x σ H fun σ2 H2=>tt σ2 H2 fun b H3=>if b=true then te σ2 H3 fun y H4=>Pv (i + 1) (ys++[y]) σ2 H4 else Pv (i + 1) ys σ2 H3)
  (after:∀ ys σ H,Pv xs.length ys σ H→Q ys H):Comp (Itt K a) g tt te Q σ H :=
 zagc xs.length Pv h0 (fun i ys σ H hi p=>Nat.lt_of_le_of_lt (Nat.le_trans (hl i ys σ H hi p).1 hi) hn) (fun i ys σ H hi p=>⟨xs,xs[i],(hl i ys σ H (Nat.le_of_lt hi) p).2,List.getElem?_eq_getElem hi⟩)
  (fun ys σ H p=>⟨xs,(hl _ ys σ H (Nat.le_refl _) p).2,Nat.le_refl _⟩) (fun i ys σ H hi p x H' y=>by obtain ⟨rfl,y⟩:=y; exact turn i ys σ _ x (y xs (hl i ys σ _ (Nat.le_of_lt hi) p).2) p) after
end L2

namespace L2
open PySem PySem.Spec PyProof.Rows
open AutoSeq1 (wpAny_loadPart') in
set_option maxHeartbeats 4000000 in
theorem zaft (k:SK) (l:Addr) (xs:Array Value) :
  Meets (Builtin.«enumerate.__new__» ⟨[.type "enumerate",.ref l],[]⟩) (fun _ R s=>SIs k s.heap l xs ∧
   R (.ok (.ret (.ref (s.heap.push (itObj k l)).objs.size))) { s with heap:=(s.heap.push (itObj k l)).push { cls:=.type "enumerate",data:=.fields #[.none,.bool false,.ref s.heap.objs.size,rawInt 0,.none,.none] } }):=by
 cases k with
 | list =>
  exact .of_wp fun prog w A R s h=>by
   obtain ⟨hp,g,d,tk,os⟩:=s; obtain ⟨hL,h⟩:=h
   have hsub:=sub_enumerate
   have hL:Heap.IsList (Shared.heap ⟨hp,g,d,tk,os⟩) l xs:=hL
   obtain ⟨ol,hl,hlc,nl,hld⟩:=id hL
   wp_walk using wpAny_loadPart' hl
   refine wpAny_stack_any fun st=>wpAny_pure ?_
   split
   ·rename_i c _ _ _ _ _
    cases (c == Value.type "enumerate")
    ·wp_walk using wpAny_loadPart' hl,wpAny_pyIter_list hL
     exact ⟨_,rfl,h⟩
    ·wp_walk using wpAny_loadPart' hl,wpAny_pyIter_list hL
     exact ⟨_,rfl,h⟩
   ·wp_walk using wpAny_loadPart' hl,wpAny_pyIter_list hL
    exact ⟨_,rfl,h⟩
 | tuple =>
  exact .of_wp fun prog w A R s h=>by
   obtain ⟨hp,g,d,tk,os⟩:=s; obtain ⟨hL,h⟩:=h
   have hsub:=sub_enumerate
   have hL:Heap.IsTuple (Shared.heap ⟨hp,g,d,tk,os⟩) l xs:=hL
   obtain ⟨ol,hl,hlc,nl,hld⟩:=id hL
   wp_walk using wpAny_loadPart' hl
   refine wpAny_stack_any fun st=>wpAny_pure ?_
   split
   ·rename_i c _ _ _ _ _
    cases (c == Value.type "enumerate")
    ·wp_walk using wpAny_loadPart' hl,wpAny_pyIter_tuple hL
     exact ⟨_,rfl,h⟩
    ·wp_walk using wpAny_loadPart' hl,wpAny_pyIter_tuple hL
     exact ⟨_,rfl,h⟩
   ·wp_walk using wpAny_loadPart' hl,wpAny_pyIter_tuple hL
    exact ⟨_,rfl,h⟩
section
variable {prog:Program}{w:World}{A:Around}{E:Value→Shared→Prop}{s:Shared}
theorem zajp {k:SK}{l:Addr}{xs:Array Value}{Q:Value→Shared→Prop} (hL:SIs k s.heap l xs)
  (h:∀ h',IsEnum h' (s.heap.objs.size + 1) s.heap.objs.size 0 .none→SIt k h' s.heap.objs.size l 0→(∀ b o,s.heap.get? b=some o→h'.get? b=some o)→Q (.ref (s.heap.objs.size + 1)) { s with heap:=h' }) :
  wpAny (model prog w) A (call (.type "enumerate") [.ref l]) Q E s:=by
 refine callType_new F.called_enumerate (by decide) (F.typeCall_enumerate_1 _) (F.newCall_enumerate_1 _) (fun obj=>F.args_object_init_2 obj _) F.entry_enumerate_new (zaft k l xs) ⟨hL,?_⟩
 have hz:(s.heap.push (itObj k l)).objs.size=s.heap.objs.size + 1:=Heap.size_push ..
 have r1:(itObj k l).isFreed=false:=by cases k <;> rfl
 have he:=Heap.get?_push_size (s.heap.push (itObj k l)) (o:={ cls:=.type "enumerate",data:=.fields #[.none,.bool false,.ref s.heap.objs.size,rawInt 0,.none,.none] }) rfl
 rw [hz] at he
 show _∧_
 rw [hz]
 exact ⟨⟨_,he,rfl⟩,h _ he (zaga (Heap.get?_push_of_some _ (Heap.get?_push_size _ r1))) fun b o x=>Heap.get?_push_of_some _ (Heap.get?_push_of_some _ x)⟩
theorem zajq {k:SK}{e it l:Addr}{i:Nat}{items:Array Value}{x old:Value}{Q:Value→Shared→Prop}
  (he:IsEnum s.heap e it i old) (hit:SIt k s.heap it l i) (hl:SIs k s.heap l items) (hx:items[i]?=some x) (hne:e≠it)
  (hQ:∀ h',IsEnumOut h' e it ((i:Int) + 1) x s.heap.objs.size→SIt k h' it l (i + 1) →
   h'.get? s.heap.objs.size=some { cls:=.type "tuple",data:=.seq #[.int i s.toks,x] }→h'.objs.size=s.heap.objs.size + 1 →
   (∀ b o,b≠e→b≠it→s.heap.get? b=some o→h'.get? b=some o)→Q (.ref s.heap.objs.size) { s with heap:=h',toks:=s.toks + 1 }) :
  wpAny (model prog w) A (Builtin.«enumerate.__next__» ⟨[.ref e],[]⟩) (fun fin s'=>∃ v,fin=.done (.ret v)∧Q v s') E s:=by
 obtain ⟨hp,g,d,tk,os⟩:=s
 show wpAny _ _ (field (.ref e) 2 >>= _) _ _ _
 refine wpAny_bind (wpAny_field he rfl (x:=.ref it) rfl ?_)
 refine wpAny_bind (zadz hit hl hx fun h₁ hit₁ hs₁=>?_)
 replace hs₁:Heap.SameBut it hp h₁:=hs₁
 have he₁:IsEnum h₁ e it i old:=(hs₁.2 e hne).trans he
 show wpAny _ _ (field (.ref e) 3 >>= _) _ _ ⟨h₁,g,d,tk,os⟩
 refine wpAny_bind (wpAny_field he₁ rfl (x:=rawInt i) rfl ?_)
 show wpAny _ _ (field (.ref e) 4 >>= _) _ _ ⟨h₁,g,d,tk,os⟩
 refine wpAny_bind (wpAny_field he₁ rfl (x:=.none) rfl ?_)
 show wpAny _ _ (mkInt i >>= _) _ _ ⟨h₁,g,d,tk,os⟩
 refine wpAny_bind (wpAny_mkInt ?_)
 show wpAny _ _ (setField (.ref e) 3 (rawInt ((i:Int) + 1)) >>= _) _ _ ⟨h₁,g,d,tk + 1,os⟩
 refine wpAny_bind (wpAny_setField_rec he₁ (by simp) fun h₂ he₂ hs₂=>?_)
 replace hs₂:Heap.SameBut e h₁ h₂:=hs₂
 replace he₂:IsEnum h₂ e it ((i:Int) + 1) old:=he₂
 show wpAny _ _ (setField (.ref e) 4 .none >>= _) _ _ ⟨h₂,g,d,tk + 1,os⟩
 refine wpAny_bind (wpAny_setField_rec he₂ (by simp) fun h₃ he₃ hs₃=>?_)
 replace hs₃:Heap.SameBut e h₂ h₃:=hs₃
 replace he₃:IsEnum h₃ e it ((i:Int) + 1) old:=he₃
 show wpAny _ _ (newTuple [.int i tk,x] >>= _) _ _ ⟨h₃,g,d,tk + 1,os⟩
 refine wpAny_bind (wpAny_newTuple ?_)
 have he₄:IsEnum (h₃.push { cls:=.type "tuple",data:=.seq #[.int i tk,x] }) e it ((i:Int) + 1) old:=Heap.get?_push_of_some _ he₃
 generalize hh₄:h₃.push { cls:=.type "tuple",data:=.seq #[.int i tk,x] }=h₄ at he₄
 have hsz:h₃.objs.size=hp.objs.size:=by rw [hs₃.1,hs₂.1,hs₁.1]
 have hel:e < hp.objs.size:=Heap.lt_size he
 have ht₄:h₄.get? hp.objs.size=some { cls:=.type "tuple",data:=.seq #[.int i tk,x] }:=by rw [← hh₄,← hsz]; exact Heap.get?_push_size _ rfl
 have hz₄:h₄.objs.size=hp.objs.size + 1:=by rw [← hh₄,Heap.size_push,hsz]
 have hk₄:∀ b o,b≠e→b≠it→hp.get? b=some o→h₄.get? b=some o:=fun b o hbe hbi hb=>by
  rw [← hh₄]; exact Heap.get?_push_of_some _ (hs₃.extBut b o hbe (hs₂.extBut b o hbe (hs₁.extBut b o hbi hb)))
 have hit₄:SIt k h₄ it l (i + 1):=by
  rw [← hh₄]; exact ((hit₁.ext hs₂.extBut (Ne.symm hne)).ext hs₃.extBut (Ne.symm hne)).at fun o ho=>Heap.get?_push_of_some _ ho
 show wpAny _ _ (Builtin.SmallTypes.ownedTupleIsFree (.ref e) >>= _) _ _ ⟨h₄,g,d,tk + 1,os⟩
 rw [hsz]
 clear hh₄ he₃ hs₃ he₂ hs₂ he₁ hs₁ hit₁ hsz h₃ h₂ h₁
 refine wpAny_bind ?_
 ·unfold Builtin.SmallTypes.ownedTupleIsFree
  refine wpAny_bind (wpAny_field he₄ rfl (x:=.none) rfl (wpAny_pure ?_))
  simp only [if_true]
  refine wpAny_bind (wpAny_rule ?_)
  refine wpAny_bind (wpAny_field he₄ rfl (x:=old) rfl ?_)
  refine wpAny_bind (wpAny_setField_rec he₄ (by simp) fun h₅ he₅ hs₅=>?_)
  replace hs₅:Heap.SameBut e h₄ h₅:=hs₅
  replace he₅:IsEnum h₅ e it ((i:Int) + 1) x:=he₅
  show wpAny _ _ (Builtin.SmallTypes.ownedTupleHandOut (.ref e) (.ref hp.objs.size) >>= _) _ _ ⟨h₅,g,d,tk + 1,os⟩
  refine wpAny_bind ?_
  ·unfold Builtin.SmallTypes.ownedTupleHandOut
   refine wpAny_bind (wpAny_setField_rec he₅ (by simp) fun h₆ he₆ hs₆=>?_)
   replace hs₆:Heap.SameBut e h₅ h₆:=hs₆
   replace he₆:IsEnumOut h₆ e it ((i:Int) + 1) x hp.objs.size:=he₆
   refine wpAny_setField_rec he₆ (by simp) fun h₇ he₇ hs₇=>?_
   replace hs₇:Heap.SameBut e h₆ h₇:=hs₇
   replace he₇:IsEnumOut h₇ e it ((i:Int) + 1) x hp.objs.size:=he₇
   refine wpAny_bind (wpAny_letGo (wpAny_pure ⟨_,rfl,hQ h₇ he₇ ?_ ?_ ?_ ?_⟩))
   ·exact ((hit₄.ext hs₅.extBut (Ne.symm hne)).ext hs₆.extBut (Ne.symm hne)).ext hs₇.extBut (Ne.symm hne)
   ·exact hs₇.extBut _ _ (Nat.ne_of_gt hel) (hs₆.extBut _ _ (Nat.ne_of_gt hel) (hs₅.extBut _ _ (Nat.ne_of_gt hel) ht₄))
   ·rw [hs₇.1,hs₆.1,hs₅.1,hz₄]
   ·exact fun b o hbe hbi hb=>hs₇.extBut b o hbe (hs₆.extBut b o hbe (hs₅.extBut b o hbe (hk₄ b o hbe hbi hb)))
theorem zae4 {k:SK}{e it l:Addr}{i:Nat}{items:Array Value}{x old:Value}{Q:Option Value→Shared→Prop}
  (he:IsEnum s.heap e it i old) (hit:SIt k s.heap it l i) (hl:SIs k s.heap l items) (hx:items[i]?=some x) (hne:e≠it)
  (hQ:∀ h',IsEnumOut h' e it ((i:Int) + 1) x s.heap.objs.size→SIt k h' it l (i + 1) →
   h'.get? s.heap.objs.size=some { cls:=.type "tuple",data:=.seq #[.int i s.toks,x] }→h'.objs.size=s.heap.objs.size + 1 →
   (∀ b o,b≠e→b≠it→s.heap.get? b=some o→h'.get? b=some o)→Q (some (.ref s.heap.objs.size)) { s with heap:=h',toks:=s.toks + 1 }) :
  wpAny (model prog w) A (pyNext (.ref e)) Q E s:=by
 have hT:s.TypeIs (.ref e) "enumerate" := ⟨_,he,rfl⟩
 unfold pyNext
 exact wpAny_bind (wpAny_attempt (wpAny_callSpecial?_slot (name:=Str.ofString "__next__") hT F.slot_enumerate_next
  (wpAny_call_entry F.slot_enumerate_next hT F.entry_enumerate_next
   (zajq he hit hl hx hne fun h' a b c d k=>wpAny_pure (hQ h' a b c d k)) (F.args_enumerate_next_1 _))))
theorem zafb {k:SK}{e it l:Addr}{i:Nat}{items:Array Value}{old:Value}{Q:Option Value→Shared→Prop} (hh:A.handled=none)
  (he:IsEnum s.heap e it i old) (hit:SIt k s.heap it l i) (hl:SIs k s.heap l items) (hx:items[i]?=none)
  (hQ:∀ h',Heap.ExtBut it s.heap h'→Q none { s with heap:=h' }):wpAny (model prog w) A (pyNext (.ref e)) Q E s:=by
 have hT:s.TypeIs (.ref e) "enumerate" := ⟨_,he,rfl⟩
 unfold pyNext
 refine wpAny_bind (wpAny_attempt (wpAny_callSpecial?_slot (name:=Str.ofString "__next__") hT F.slot_enumerate_next
  (wpAny_call_entry F.slot_enumerate_next hT F.entry_enumerate_next ?_ (F.args_enumerate_next_1 _))))
 show wpAny _ _ (field (.ref e) 2 >>= _) _ _ _
 refine wpAny_bind (wpAny_field he rfl (x:=.ref it) rfl ?_)
 refine wpAny_bind (zae2 hh hit hl hx fun h' x he' hx'=>?_)
 obtain ⟨o,ho,hc⟩:=hx'
 refine wpAny_bind (wpAny_isInstance (T := "StopIteration") (b:=true) ⟨o,ho,hc⟩ isSubtype_stop ?_)
 exact wpAny_pure (hQ _ he')
end
def Itn (K:PySem.W.Frag) (k:SK) (a:Addr):It :=
 ⟨fun i H=>∃ xs x,Sq k K H a xs∧xs[i]?=some x,
  fun i H v H'=>∃ T,H T=none∧v=.ref T∧∀ xs,Sq k K H a xs→∃ x,xs[i]?=some x∧H'=upd H T (.tup [.int i,x]),
  fun i H=>∃ xs,Sq k K H a xs∧xs.length≤i⟩
theorem zaks {P:Program}{w:World}{K:PySem.W.Frag}{elts:List Expr}{kk:Nat}{tpos:Pos}{k:SK}{e it a:Addr} (hne:e≠it) :
  Turn P w K (.Tuple elts kk tpos) (Itn K k a) [e,it] e (fun i h=>(∃ old,IsEnum h e it i old)∧SIt k h it a i) where
 mem:=by simp
 obj:=fun i h st b hb=>by
  obtain ⟨⟨old,he⟩,h1⟩:=st
  simp only [List.mem_cons,List.not_mem_nil,or_false] at hb
  rcases hb with rfl | rfl
  ·exact ⟨_,he,fun v q=>nomatch q⟩
  ·exact h1.obj
 keep:=fun i h h' st k=>by
  obtain ⟨⟨old,he⟩,h1⟩:=st
  exact ⟨⟨old,k _ (by simp) _ he⟩,h1.at fun o e=>k _ (by simp) o e⟩
 item:=by
  intro X hP hw hK hc i pins s σ H E I hf st hg
  subst hP hw hK
  obtain ⟨⟨old,he⟩,h1⟩:=st
  obtain ⟨xs,x,q1,hx⟩:=hg
  obtain ⟨ix,rx,px⟩:=I.sis q1
  obtain ⟨u,hu,ru⟩:=rx.get hx
  refine zae4 he h1 px (x:=u) (by simpa using hu) hne fun h' a1 a2 a3 a4 a5=>?_
  refine ⟨_,rfl,wpAny_letOwnedTupleGo_enum (s:={ s with heap:=h',toks:=s.toks + 1 }) a1 fun h'' b1 b2=>?_⟩
  have elt:e < s.heap.objs.size:=Heap.lt_size he
  have ilt:it < s.heap.objs.size:=by obtain ⟨o,ho,_⟩:=h1.obj; exact Heap.lt_size ho
  have k2:∀ c o,c ∉ [e,it]→s.heap.get? c=some o→h''.get? c=some o:=fun c o hc ec=>by
   simp only [List.mem_cons,List.not_mem_nil,or_false,not_or] at hc
   exact b2.extBut _ _ hc.1 (a5 c o hc.1 hc.2 ec)
  have hT2:h''.get? s.heap.objs.size=some { cls:=.type "tuple",data:=.seq #[.int i s.toks,u] }:=b2.extBut _ _ (Nat.ne_of_gt elt) a3
  refine ⟨.ref s.heap.objs.size,upd H s.heap.objs.size (.tup [.int i,x]),I.turnedNew (t':=s.toks + 1) (o:=.tup [.int i,x]) k2 hf (Nat.le_refl _)
   ⟨by show 2≤sizeLine; decide,[.int i s.toks,u],.cons ⟨_,rfl⟩ (.cons ru .nil),⟨_,hT2,rfl,_,rfl⟩⟩,rfl,
   ⟨_,I.hok.fresh (Nat.le_refl _),rfl,fun xs' e1=>?_⟩,⟨⟨u,by simpa using b1⟩,a2.at fun o eo=>b2.extBut _ _ (Ne.symm hne) eo⟩,fun b hb=>?_⟩
  ·rw [I.sq_inj e1 q1]
   exact ⟨x,hx,rfl⟩
  ·have blt:b < s.heap.objs.size:=by
    simp only [List.mem_cons,List.not_mem_nil,or_false] at hb
    rcases hb with rfl | rfl
    ·exact elt
    ·exact ilt
   rw [zabs (Nat.ne_of_lt blt)]
   exact (hf b hb).1
 done:=by
  intro X hP hw hK hc i pins s σ H E I hf st hg
  subst hP hw hK
  obtain ⟨⟨old,he⟩,h1⟩:=st
  obtain ⟨xs,q1,hl⟩:=hg
  obtain ⟨ix,rx,px⟩:=I.sis q1
  have l1:=rx.length
  refine zafb (I.ok.hd hc) he h1 px (by simp; omega) fun h' hk=>⟨rfl,I.turnedL (t':=s.toks) (its:=[e,it]) (fun b o hb eb=>?_) hf⟩
  simp only [List.mem_cons,List.not_mem_nil,or_false,not_or] at hb
  exact hk b o hb.2 eb
 self:=fun _ _ _ _ _ st h=>by
  obtain ⟨⟨old,he⟩,_⟩:=st
  exact wpAny_pyIter_enum he h
section
variable {X:Cx}{elts:List Expr}{kk:Nat}{tpos:Pos}
def iEnum (K:PySem.W.Frag) (k:SK) (ta:TA):TI:=fun σ H R=>ta σ H fun vs H1=>∃ a,vs=[.ref a]∧(∃ xs,Sq k K H1 a xs)∧R (Itn K k a) H1
theorem zaoy (k:SK) {a:Expr}{ta:TA}{p pos:Pos} (hg:Gl X "enumerate") (hm:X.mg "enumerate" = none) (ha:PA X [a] ta) (hs:starEach [a] X.env=[(false,eval a X.env)]:=by rfl) :
  PI X (.Tuple elts kk tpos) (.Call (.Name "enumerate" p) [a] [] pos) (iEnum X.K k ta):=by
 intro pins s σ H R I h
 refine Call_ (zafj I hg hm PyProof.Rows.Boot.«enumerate» (PyProof.Rows.callWith_type1 (thn (ha pos pins s σ H _ I h) fun us s1 ⟨vs,H1,I1,r1,q1⟩=>?_) hs rfl))
 obtain ⟨a',e,⟨xs,qx⟩,q⟩:=q1
 subst e
 cases r1 with
 | cons r rr =>
  cases rr
  cases r
  obtain ⟨ix,rx,px⟩:=I1.sis qx
  refine zajp px fun h' b1 b2 b3=>wpAny_pyIter_enum (s:={ s1 with heap:=h' }) b1 ?_
  have nn:∀ b,s1.heap.objs.size≤b→FpOk X pins H1 b:=fun b hb=>I1.fpOk hb (I1.hok.fresh hb)
  refine ⟨_,[s1.heap.objs.size + 1,s1.heap.objs.size],_,_,H1,rfl,I1.kept (t':=s1.toks) b3,zaks (k:=k) (Nat.ne_of_gt (Nat.lt_succ_self _)),⟨⟨_,b1⟩,b2⟩,fun b hb=>?_,q⟩
  simp only [List.mem_cons,List.not_mem_nil,or_false] at hb
  rcases hb with rfl | rfl
  ·exact nn _ (Nat.le_succ _)
  ·exact nn _ (Nat.le_refl _)
end
theorem zakt {K:PySem.W.Frag}{k:SK}{a:Addr}{xs:List V}{g:TG}{tb:TS}{D:Ends}{σ:St}{H:Hp} (Pv:Nat→St→Hp→Prop) (h0:Pv 0 σ H)
  (hl:∀ i σ H,i≤xs.length→Pv i σ H→Sq k K H a xs)
  (hs:∀ i x σ H T,xs[i]?=some x→Pv i σ H→H T=none→g (.ref T) σ (upd H T (.tup [.int i,x])) fun σ2 H2=>tb { D with nx:=Pv (i + 1),ct:=Pv (i + 1),bk:=D.nx } σ2 H2)
  (hd:∀ σ H,Pv xs.length σ H→D.nx σ H):Loop (Itn K k a) g tb D σ H:=by
 refine ⟨fun i m σ H=>m=xs.length - i∧i≤xs.length∧Pv i σ H,⟨xs.length,by simp,Nat.zero_le _,h0⟩,?_⟩
 rintro i m σ H ⟨rfl,hi,p⟩
 have q1:=hl i σ H hi p
 by_cases hlt:i < xs.length
 ·refine .inr ⟨⟨xs,xs[i],q1,by simp [hlt]⟩,Pv (i + 1),fun σ' H' p'=>⟨xs.length - (i + 1),by omega,rfl,hlt,p'⟩,fun x H' y=>?_⟩
  obtain ⟨T,hT,rfl,y⟩:=y
  obtain ⟨u,e1,rfl⟩:=y xs q1
  exact hs i u σ H T e1 p hT
 ·have e:i=xs.length:=by omega
  refine .inl ⟨⟨xs,q1,by omega⟩,?_⟩
  subst e
  exact hd σ H p
theorem zahg {K:PySem.W.Frag}{k:SK}{a:Addr} (xs:List V) {g:TG}{tt:TT}{te:TE}{Q:List V→Hp→Prop}{σ:St}{H:Hp} (Pv:Nat→List V→St→Hp→Prop) (hn:xs.length < sizeLine) (h0:Pv 0 [] σ H) (hl:∀ i ys σ H,i≤xs.length→Pv i ys σ H→ys.length≤i∧Sq k K H a xs)
  (turn:∀ i ys σ H x T,xs[i]?=some x→Pv i ys σ H→H T=none→g (.ref T) σ (upd H T (.tup [.int i,x])) fun σ2 H2=>tt σ2 H2 fun b H3=>if b=true then te σ2 H3 fun y H4=>Pv (i + 1) (ys++[y]) σ2 H4 else Pv (i + 1) ys σ2 H3)
  (after:∀ ys σ H,Pv xs.length ys σ H→Q ys H):Comp (Itn K k a) g tt te Q σ H :=
 zagc xs.length Pv h0 (fun i ys σ H hi p=>Nat.lt_of_le_of_lt (Nat.le_trans (hl i ys σ H hi p).1 hi) hn) (fun i ys σ H hi p=>⟨xs,xs[i],(hl i ys σ H (Nat.le_of_lt hi) p).2,List.getElem?_eq_getElem hi⟩)
  (fun ys σ H p=>⟨xs,(hl _ ys σ H (Nat.le_refl _) p).2,Nat.le_refl _⟩) (fun i ys σ H hi p x H' y=>by
   obtain ⟨T,hT,rfl,y⟩:=y
   obtain ⟨u,e1,rfl⟩:=y xs (hl i ys σ _ (Nat.le_of_lt hi) p).2
   exact turn i ys σ _ u T e1 p hT) after
end L2

namespace L2
open PySem PySem.Spec PyProof.Rows
section
variable {X:Cx}
theorem zah6 {prog:Program}{w:World}{A:Around}{bs:List Bool}:TruthOf prog w A (fun i v=>(bs.map fun b=>Value.bool b).toArray[i]?=some v) (fun i=>bs.getD i false):=by
 intro i v s Q E hP hQ
 have hP':(bs.map fun b=>Value.bool b)[i]?=some v:=by simpa using hP
 rw [List.getElem?_map] at hP'
 cases e:bs[i]? with
 | none=>rw [e] at hP'; cases hP'
 | some b =>
  rw [e] at hP'
  cases hP'
  have:bs.getD i false=b:=by rw [List.getD_eq_getElem?_getD,e]; rfl
  have hQ:Q (bs.getD i false) s:=hQ
  rw [this] at hQ
  exact wpAny_pure hQ
theorem zaku (bs:List Bool):((List.range bs.length).all fun i=>bs.getD i false)=bs.all id:=by
 rw [Bool.eq_iff_iff,List.all_eq_true,List.all_eq_true]
 constructor
 ·intro h b hb
  obtain ⟨i,hi,rfl⟩:=List.mem_iff_getElem.mp hb
  have:=h i (List.mem_range.mpr hi)
  rw [List.getD_eq_getElem?_getD,List.getElem?_eq_getElem hi] at this
  exact this
 ·intro h i hi
  have hi:=List.mem_range.mp hi
  rw [List.getD_eq_getElem?_getD,List.getElem?_eq_getElem hi]
  exact h _ (List.getElem_mem hi)
theorem zaf4:∀ {bs:List Bool}{its:List Value},Vals (bs.map V.bl) its→its=bs.map fun b=>Value.bool b
 | [],_,.nil=>rfl
 | b :: bs,_,.cons r t=>by rw [List.map_cons,zaf4 t]; cases r; rfl
theorem zai1 (hc:X.calm=true):CallR X (.builtin "all") (fun xs H Q=>∃ (p:Addr) (bs:List Bool),xs=[.ref p]∧H p=some (.lst (bs.map V.bl))∧Q (.bl (bs.all id)) H):=by
 intro pins s σ H xs us Q I r h
 obtain ⟨p,bs,rfl,hp,q⟩:=h
 obtain ⟨u,rfl,ru⟩:=vals1 r
 cases ru
 obtain ⟨z,its,n,rv,e⟩:=I.hok p _ hp
 have ei:=zaf4 rv
 subst ei
 have hl:s.heap.IsList p (bs.map fun b=>Value.bool b).toArray:=⟨_,e,rfl,n,rfl⟩
 refine call_all_walk (wpAny_pyIter_list hl ?_)
 have hne:p≠s.heap.objs.size:=Nat.ne_of_lt (Heap.lt_size e)
 refine ⟨s.heap.objs.size,_,_,_,_,_,_,rfl,Walks.list (by first | exact I.ok.hd hc | (show X.A.in1.handled=none; exact I.ok.hd hc)) s.heap.objs.size p hne (bs.map fun b=>Value.bool b).toArray,
  ⟨⟨_,Heap.get?_push_size _ rfl,rfl,rfl⟩,⟨_,Heap.get?_push_of_some _ e,rfl,n,rfl⟩⟩,zah6,fun h' tk hk=>?_⟩
 have sz:(bs.map fun b=>Value.bool b).toArray.size=bs.length:=by simp
 rw [sz,zaku]
 exact ⟨.bl (bs.all id),H,I.kept (t':=tk) fun b o eb=>hk b o (by simp; exact Nat.ne_of_lt (Heap.lt_size eb)) (Heap.get?_push_of_some _ eb),rfl,q⟩
end
end L2

namespace L2
open PySem PySem.Spec PyProof.Rows
section
variable {X:Cx}{pins:List (Addr × Obj)}{σ:St}{H:Hp}{s:Shared}{A:Around}{E:Value→Shared→Prop}{Q:Value→Shared→Prop}{b:Bool}
theorem zajr {x:V}{u t:Value}{tp:Addr}{its:List Value}{o:Obj}{n:Nat} (I:Inv X pins σ H s) (rx:RelV x u) (ty:TyOf X.K H x t) (ho:s.heap.get? tp=some o) (hoc:o.cls=.type "tuple") (hod:o.data=.seq its.toArray n)
  (e:PySem.W.kitAny X.K t its=some b) (h:∀ tk,Q (.bool b) { s with toks:=tk }) :
  wpAny (model X.prog X.w) A (call (.builtin "isinstance") [u,.ref tp]) Q E s:=by
 obtain ⟨c0,d0,t0,l0⟩:=o
 replace hoc:c0=.type "tuple" := hoc
 replace hod:t0=.seq its.toArray n:=hod
 subst hoc hod
 cases ty with
 | non=>cases (show u=Value.none from rx); exact PySem.W.kia_tup PySem.W.kitx_none I.kIn True.intro ho e (fun z=>nomatch z) h
 | bl y=>cases (show u=Value.bool y from rx); exact PySem.W.kia_tup PySem.W.kitx_bool I.kIn True.intro ho e (fun z=>nomatch z) h
 | int i=>obtain ⟨t,q⟩:=(show ∃ t,u=Value.int i t from rx); cases q; exact PySem.W.kia_tup PySem.W.kitx_int I.kIn True.intro ho e (fun z=>nomatch z) h
 | str y=>obtain ⟨t,q⟩:=(show ∃ t,u=Value.str y t from rx); cases q; exact PySem.W.kia_tup PySem.W.kitx_str I.kIn True.intro ho e (fun z=>nomatch z) h
 | flt y=>obtain ⟨t,q⟩:=(show ∃ t,u=Value.float y t from rx); cases q; exact PySem.W.kia_tup PySem.W.kitx_float I.kIn True.intro ho e (fun z=>nomatch z) h
 | @lst a xs ea =>
  cases (show u=Value.ref a from rx)
  obtain ⟨_,_,n,_,h1⟩:=(show ObjOk X.prog X.w H s.heap a (.lst xs) from I.hok a _ ea)
  exact PySem.W.kia_tup PySem.W.kitx_list I.kIn ⟨_,h1,rfl⟩ ho e (fun z=>nomatch z) h
 | @frz a ob xs ea =>
  cases (show u=Value.ref a from rx)
  obtain ⟨_,_,_,n,_,h1⟩:=(show ObjOk X.prog X.w H s.heap a (.frz ob (.lst xs)) from I.hok a _ ea)
  exact PySem.W.kia_tup PySem.W.kitx_list I.kIn ⟨_,h1,rfl⟩ ho e (fun z=>nomatch z) h
 | @tup a xs ea =>
  cases (show u=Value.ref a from rx)
  obtain ⟨_,_,_,p⟩:=(show ObjOk X.prog X.w H s.heap a (.tup xs) from I.hok a _ ea)
  obtain ⟨o,h1,h2,_⟩:=p
  exact PySem.W.kia_tup PySem.W.kitx_tuple I.kIn ⟨o,h1,h2⟩ ho e (fun z=>nomatch z) h
 | @dK a kvs ea =>
  cases (show u=Value.ref a from rx)
  obtain ⟨_,_,vs,_,p⟩:=(show ObjOk X.prog X.w H s.heap a (.dK kvs) from I.hok a _ ea)
  obtain ⟨o,es,ep,h1,h2,_⟩:=p
  exact PySem.W.kia_tup PySem.W.kitx_dict I.kIn ⟨o,h1,h2.1⟩ ho e (fun z=>nomatch z) h
 | @dT a kvs ea =>
  cases (show u=Value.ref a from rx)
  obtain ⟨_,_,xs,_,o,es,ep,h1,h2,_⟩:=(show ObjOk X.prog X.w H s.heap a (.dT kvs) from I.hok a _ ea)
  exact PySem.W.kia_tup PySem.W.kitx_dict I.kIn ⟨o,h1,h2.1⟩ ho e (fun z=>nomatch z) h
 | @ins a C dx fs ea cl ha hn htk hm =>
  cases (show u=Value.ref a from rx)
  obtain ⟨mA,O,_⟩:=zaf7 I.hok ea
  obtain ⟨od,J,_⟩:=O.look
  exact PySem.W.kia_tup (PySem.W.kitx_own (cl.get _) cl.hd ha hn htk hm) I.kIn J ho e (fun z=>nomatch z) h
end
def rIsTs (K:PySem.W.Frag):List V→Hp→VK→Prop:=fun xs H Q=>∃ (x:V) (p:Addr) (Ts:List String) (t:Value) (b:Bool),xs=[x,.ref p]∧H p=some (.tup (Ts.map V.ty))∧TyOf K H x t∧PySem.W.kitAny K t (Ts.map Value.type)=some b∧Q (.bl b) H
theorem zai2:∀ {Ts:List String}{us:List Value},Vals (Ts.map V.ty) us→us=Ts.map Value.type
 | [],_,.nil=>rfl
 | T :: Ts,_,.cons r t=>by rw [List.map_cons,zai2 t]; cases r; rfl
theorem zakv {X:Cx}:CallR X (.builtin "isinstance") (rIsTs X.K):=by
 intro pins s σ H xs us Q I r h
 obtain ⟨x,p,Ts,t,b,rfl,hp,ty,e,q⟩:=h
 obtain ⟨u,v,rfl,ru,rv⟩:=vals2 r
 cases rv
 obtain ⟨_,its,rt,o,ho,hoc,n,hod⟩:=I.hok p _ hp
 have:=zai2 rt
 subst this
 exact zajr I ru ty ho hoc hod e fun tk=>⟨.bl b,H,I.tok _,rfl,q⟩
example (K:PySem.W.Frag):PySem.W.kitAny K (.type "list") [.type "list",.type "tuple"]=some true:=rfl
example (K:PySem.W.Frag):PySem.W.kitAny K (.type "tuple") [.type "list",.type "tuple"]=some true:=rfl
example (K:PySem.W.Frag):PySem.W.kitAny K (.type "int") [.type "list",.type "tuple"]=some false:=rfl
end L2

namespace L2
open PySem PySem.Spec PyProof.Rows
structure MakeOk (P:Program) (w:World) (K:PySem.W.Frag) (mg:Str→Option Value) (base:Heap) (CX:CXT) (k:Nat) (C:Addr) (x:Str) (ps:List Str) (sp:Sp):Prop where
 ex:∃ (f:Addr) (fd:FuncData),FnOk P w K mg base CX k f fd ps sp∧Binds K fd ps []∧Mk K C f∧mg x=some (.ref C)
theorem MakeOk.mono {P:Program}{w:World}{K:PySem.W.Frag}{mg:Str→Option Value}{base:Heap}{CX:CXT}{j k:Nat}{C:Addr}{x:Str}{ps:List Str}{sp:Sp} (D:MakeOk P w K mg base CX j C x ps sp) (h:j≤k):MakeOk P w K mg base CX k C x ps sp:=by
 obtain ⟨f,fd,F,b⟩:=D.ex
 exact ⟨f,fd,F.mono h,b⟩
section
variable {X:Cx}{CX:CXT}{k:Nat}{C:Addr}{ps:List Str}{sp:Sp}{E:XK}{x m:Str}{p pos apos:Pos}{e o:Expr}{es:List Expr}{ta:TE}{t:TA}
theorem zad9 (D:MakeOk X.prog X.w X.K X.mg X.base CX k C x ps sp) (hr:Room (k + 1) X.A) (hg:Gl X x) (hx:Passes CX X E)
  (ha:Pr (PA X (e :: es) t)) (hdb:(x == ("__debug__" : Str))=false:=by decide) (he:starEach (e :: es) X.env=(false,eval e X.env) :: starEach es X.env:=by rfl) (hpl:(backTo pos (starEach es X.env)).any (·.1)=false:=by rfl) :
  Pr (PE X (.Call (.Name x p) (e :: es) [] pos) (tMake C sp [] E t)):=by
 obtain ⟨f,fd,F,b,M,hm⟩:=D.ex
 exact ⟨zaoi M F hr hg hm b .nil hx ha.h hdb he hpl⟩
end
section
variable {X:Cx}{sc:Scope}{own:List Str}{fr:List Nat}{N':List Str}{tg elt iter:Expr}{ifs:List Expr}{g:TG}{tt:TT}{te:TE}{wi:TI}{pos:Pos}
theorem zac7:Pr (PIf X [] tYes):=⟨zaou⟩
theorem zagd {c:Expr}{t:TT} (h:Pr (PT X c t)):Pr (PIf X [c] t):=⟨zaov h.h⟩
theorem zadq (hc:X.calm=true) (cs:CompOk sc X.env.scope own X.N fr N') (hi:Pr (PI X tg iter wi)) (hg:∀ cl C s H fp,Pr (PG (cxC X sc cl N' C s H fp) tg g)) (hif:∀ cl C s H fp,Pr (PIf (cxC X sc cl N' C s H fp) ifs tt))
  (he:∀ cl C s H fp,Pr (PE (cxC X sc cl N' C s H fp) elt te)) (hs:∀ x,foldedSetIterable iter X.env x=pure x:=by intro _; rfl):Pr (PE X (.ListComp elt [⟨tg,iter,ifs,0⟩] sc pos) (tComp own.length fr wi g tt te)) :=
 ⟨zaow hc cs hi.h (fun a b c d e=>(hg a b c d e).h) (fun a b c d e=>(hif a b c d e).h) (fun a b c d e=>(he a b c d e).h) hs⟩
theorem zaev {i:Nat}{y:Str}{py spos:Pos} (hN:X.N.Nodup) (hy:X.N[i]?=some y) (hx:Loc X.env.scope y) (hc:X.calm=true) (cs:CompOk sc X.env.scope own X.N fr N') (hi:Pr (PI X tg iter wi))
  (hg:∀ cl C s H fp,Pr (PG (cxC X sc cl N' C s H fp) tg g)) (hif:∀ cl C s H fp,Pr (PIf (cxC X sc cl N' C s H fp) ifs tt)) (he:∀ cl C s H fp,Pr (PE (cxC X sc cl N' C s H fp) elt te))
  (hsw:swapsWith (.ListComp elt [⟨tg,iter,ifs,0⟩] sc pos) (some (.Name y py)) spos.line X.env=pure true) (hfn:X.fn y=true∨X.env.scope.names.lookup y=some .local:=by first | exact .inl rfl | exact .inr rfl | assumption) (hs:∀ x,foldedSetIterable iter X.env x=pure x:=by intro _; rfl) :
  Pr (PS X (.Assign [.Name y py] (.ListComp elt [⟨tg,iter,ifs,0⟩] sc pos) spos) (tSetC i own.length fr wi g tt te)) :=
 ⟨zaox hN hy hx hc cs hi.h (fun a b c d e=>(hg a b c d e).h) (fun a b c d e=>(hif a b c d e).h) (fun a b c d e=>(he a b c d e).h) hsw hfn hs⟩
theorem zage (k:SK) {elts:List Expr}{kk:Nat}{tpos:Pos}{a:Expr}{ta:TA}{p pos:Pos} (hg:Gl X "enumerate") (hm:X.mg "enumerate" = none) (ha:Pr (PA X [a] ta)) (hs:starEach [a] X.env=[(false,eval a X.env)]:=by rfl) :
  Pr (PI X (.Tuple elts kk tpos) (.Call (.Name "enumerate" p) [a] [] pos) (iEnum X.K k ta)):=⟨zaoy k hg hm ha.h hs⟩
theorem zaew:Pr (PPs X pos [] [] []):=⟨zaoq⟩
theorem zacl {k v:Expr}{ks:List (Option Expr)}{vs:List Expr}{tk tv:TE}{trs:List (TE × TE)} (hk:Pr (PE X k tk)) (hv:Pr (PE X v tv)) (hr:Pr (PPs X pos ks vs trs)):Pr (PPs X pos (some k :: ks) (v :: vs) ((tk,tv) :: trs)):=⟨zamn hk.h hv.h hr.h⟩
theorem zaex {keys:List (Option Expr)}{values:List Expr}{trs:List (TE × TE)} (h:Pr (PPs X pos keys values trs)) (hall:keys.all (·.isSome)=true) (hl:keys.length=values.length) (h0:keys≠[])
  (h15:keys.length≤15):Pr (PE X (.Dict keys values pos) (tDisp trs)):=⟨zaor h.h hall hl h0 h15⟩
theorem zahh {o e f:Expr}{td ty tx:TE}{apos cpos:Pos} (hu:X.A.units + 1 < cLine) (ho:Pr (PE X o td)) (he:Pr (PE X e ty)) (hf:Pr (PE X f tx)) (m:M2 X o "get" apos e f cpos):Pr (PE X (.Call (.Attribute o "get" apos) [e,f] [] cpos) (tDGet2 td ty tx)):=⟨zamo hu ho.h he.h hf.h m⟩
theorem zahi {st:Stmt}:Pr (PS X st tNever):=⟨zama⟩
theorem compOk {sc outer:Scope}{own N:List Str}{fr:List Nat}{N':List Str} (h1:sc.kind=.function) (h2:∀ y∈sc.names,y.2≠.cell) (h3:∀ y∈sc.names,y.2=.local→sc.names.lookup y.1=some .local)
  (h4:∀ y∈sc.names,y.2=.free→outer.names.lookup y.1=some .cell∨outer.names.lookup y.1=some .free) (h5:N'.Nodup) (h6:N'.map some=own.map some++fr.map fun j=>N[j]?)
  (h7:∀ x∈fr.filterMap (fun j=>N[j]?),sc.names.lookup x=some .free∧(outer.names.lookup x=some .cell∨outer.names.lookup x=some .free)):CompOk sc outer own N fr N' :=
 ⟨h1,h2,h3,h4,h5,h6,fun j hj x hx=>h7 x (List.mem_filterMap.mpr ⟨j,hj,hx⟩)⟩
end
def rIsT2 (K:PySem.W.Frag):List V→Hp→VK→Prop:=fun xs H Q=>∃ (x:V) (p:Addr) (T1 T2:String) (t:Value) (b:Bool),xs=[x,.ref p]∧H p=some (.tup [.ty T1,.ty T2])∧TyOf K H x t∧PySem.W.kitAny K t [.type T1,.type T2]=some b∧Q (.bl b) H
theorem zahj {X:Cx}:CallR X (.builtin "isinstance") (rIsT2 X.K):=fun pins s σ H xs us Q I r h=>by
 obtain ⟨x,p,T1,T2,t,b,e,hp,ty,k,q⟩:=h
 exact zakv pins s σ H xs us Q I r ⟨x,p,[T1,T2],t,b,e,hp,ty,k,q⟩
theorem iteD {c:Prop} [Decidable c] {A B:Prop} (hc:c) (h:A):if decide c=true then A else B:=by rw [if_pos (decide_eq_true hc)]; exact h
theorem iteNn {c:Prop} [Decidable c] {A B:Prop} (hc:c) (h:B):if (!decide c)=true then A else B:=by rw [if_neg (by simp [hc])]; exact h
def Tu (H H':Hp):Prop:=∀ b xs,H b=some (.tup xs)→H' b=some (.tup xs)
theorem Tu.same {H H':Hp} (c:Ch [] H H'):Tu H H':=fun b xs h=>c b _ h (by simp)
theorem Tu.ch {H H':Hp}{b:Addr}{o:HO} (c:Ch [b] H H') (hb:H b=some o) (ho:∀ xs,o≠.tup xs):Tu H H':=fun d xs h=>c d _ h (by
 intro z
 have e:d=b:=by simpa using z
 subst e
 rw [hb] at h
 exact ho xs (Option.some.inj h))
theorem Tu.lst {H H':Hp}{b:Addr}{ys:List V} (c:Ch [b] H H') (hb:H b=some (.lst ys)):Tu H H':=Tu.ch c hb (fun xs z=>by cases z)
end L2

namespace L2
open PySem PySem.Spec PyProof.Rows
section
variable {X:Cx}{a b o e value:Expr}{es:List Expr}{f:Str}{ta tb te:TE}{pos:Pos}{tg l:Expr}
theorem zaey (K:PySem.W.Frag) (hK:X.K=K):IxR X (aIxL K):=hK ▸ zaaq
theorem zaef (K:PySem.W.Frag) (hK:X.K=K):IxR X (aIxT K):=hK ▸ zaa9
theorem zai3 (K:PySem.W.Frag) (hK:X.K=K) (he:Pr (PE X e ta)) (hb:attributeBase e f X.env (eval e X.env)=eval e X.env):Pr (PE X (.Attribute e f pos) (tFld K ta f)):=hK ▸ ⟨zane he.h hb⟩
theorem zakw (K:PySem.W.Frag) (hK:X.K=K) {tl:TE} (hl:Pr (PE X l tl)):Pr (PI X tg l (iList K tl)):=hK ▸ ⟨zaj1 hl.h⟩
theorem zamv (K:PySem.W.Frag) (hK:X.K=K) {tl:TE} (hl:Pr (PE X l tl)):Pr (PI X tg l (iTup K tl)):=hK ▸ ⟨zanb hl.h⟩
theorem zai4 (K:PySem.W.Frag) (n:Nat) (hK:X.K=K) {k:Nat}{t:TGs} (hc:X.calm=true) (h:Pr (PGs X es t)) (hn:(assignEach es X.env).length=n:=by rfl) (hst:(assignEach es X.env).findIdx? (·.1)=none:=by rfl) :
  Pr (PG X (.Tuple es k pos) (gTup K n t)):=hK ▸ ⟨zana hc h.h hn hst⟩
end
end L2

namespace L2
open PySem PySem.Spec PyProof.Rows PySem.SeqAt
def Sca (x:V):Prop:=(∃ i,x=.int i)∨∃ t,x=.str t
structure ScaL (xs:List V):Prop where
 h:∀ z∈xs,Sca z
theorem zakx {α:Type} [BEq α] [LawfulBEq α] [DecidableEq α] (a b:α):(a == b)=decide (a=b):=by
 by_cases h:a=b
 ·subst h; simp
 ·rw [decide_eq_false h]; exact beq_eq_false_iff_ne.mpr h
theorem zaq3 {A:Around}{s:Shared}{x y:V}{u v:Value} (hx:Sca x) (hy:Sca y) (ru:RelV x u) (rv:RelV y v):EqAt A s u v (decide (x=y)):=by
 rcases hx with ⟨i,rfl⟩ | ⟨i,rfl⟩ <;> rcases hy with ⟨j,rfl⟩ | ⟨j,rfl⟩ <;> obtain ⟨t,rfl⟩:=ru <;> obtain ⟨t',rfl⟩:=rv
 ·have:=EqAt.int_int (A:=A) (s:=s) i t j t'
  rw [zakx] at this
  rwa [show decide (V.int i=V.int j)=decide (i=j) from by by_cases h:i=j <;> simp [h]]
 ·rw [show decide (V.int i=V.str j)=false from by simp]
  exact EqAt.int_str i t j t'
 ·rw [show decide (V.str i=V.int j)=false from by simp]
  exact EqAt.str_int i t j t'
 ·have:=EqAt.str_str (A:=A) (s:=s) i t j t'
  rw [show decide (V.str i=V.str j)=(i == j) from by
   by_cases h:i=j
   ·subst h; simp
   ·rw [decide_eq_false (fun z=>h (V.str.inj z))]; exact (beq_eq_false_iff_ne.mpr h).symm]
  exact this
theorem zai5 {xs ys:List V}:((List.range (min xs.length ys.length)).all (fun j=>decide (xs[j]?=ys[j]?)) && xs.length == ys.length)=decide (xs=ys):=by
 by_cases h:xs=ys
 ·subst h
  simp
 ·rw [decide_eq_false h]
  by_cases hl:xs.length=ys.length
  ·rw [Bool.and_eq_false_iff]
   refine .inl ?_
   rw [List.all_eq_false]
   refine Classical.byContradiction fun z=>h (List.ext_getElem? fun j=>?_)
   by_cases hj:j < xs.length
   ·refine Classical.byContradiction fun y=>z ⟨j,List.mem_range.mpr (by omega),by simpa using y⟩
   ·rw [List.getElem?_eq_none (by omega),List.getElem?_eq_none (by omega)]
  ·rw [Bool.and_eq_false_iff]
   exact .inr (beq_eq_false_iff_ne.mpr hl)
theorem zaff {A:Around}{s:Shared}{xs ys:List V}{us vs:List Value} (hx:ScaL xs) (hy:ScaL ys) (ru:Vals xs us) (rv:Vals ys vs) (j:Nat) (h1:j < us.toArray.size) (h2:j < vs.toArray.size) :
  EqAt A s us.toArray[j] vs.toArray[j] (decide (xs[j]?=ys[j]?)):=by
 have l1:=ru.length
 have l2:=rv.length
 have h1':j < us.length:=by simpa using h1
 have h2':j < vs.length:=by simpa using h2
 have gx:xs[j]?=some (xs[j]'(by omega)):=List.getElem?_eq_getElem (by omega)
 have gy:ys[j]?=some (ys[j]'(by omega)):=List.getElem?_eq_getElem (by omega)
 obtain ⟨w1,hw1,r1⟩:=ru.get gx
 obtain ⟨w2,hw2,r2⟩:=rv.get gy
 have k1:us.toArray[j]=w1:=by
  have:=List.getElem?_eq_getElem h1'
  rw [hw1] at this
  simpa using (Option.some.inj this).symm
 have k2:vs.toArray[j]=w2:=by
  have:=List.getElem?_eq_getElem h2'
  rw [hw2] at this
  simpa using (Option.some.inj this).symm
 rw [k1,k2,gx,gy]
 have e:decide (some (xs[j]'(by omega))=some (ys[j]'(by omega)))=decide (xs[j]'(by omega)=ys[j]'(by omega)):=by
  by_cases h:(xs[j]'(by omega))=(ys[j]'(by omega)) <;> simp [h]
 rw [e]
 exact zaq3 (hx.h _ (List.getElem_mem _)) (hy.h _ (List.getElem_mem _)) r1 r2
section
variable {X:Cx}
def rEqT:R2:=fun x y H Q=>∃ (a b:Addr) (xs ys:List V),x=.ref a∧y=.ref b∧H a=some (.tup xs)∧H b=some (.tup ys)∧ScaL xs∧ScaL ys∧Q (.bl (decide (xs=ys))) H
def rNeT:R2:=fun x y H Q=>∃ (a b:Addr) (xs ys:List V),x=.ref a∧y=.ref b∧H a=some (.tup xs)∧H b=some (.tup ys)∧ScaL xs∧ScaL ys∧Q (.bl (!decide (xs=ys))) H
theorem zacv (hu:X.A.units + 64 < cLine):OpR X (compareOp .Eq) rEqT:=by
 intro pins s σ H x y v u Q I rx ry h
 obtain ⟨a,b,xs,ys,rfl,rfl,ha,hb,hx,hy,q⟩:=h
 cases rx
 cases ry
 obtain ⟨z,its,rv,t1⟩:=I.hok a _ ha
 obtain ⟨z2,its2,rv2,t2⟩:=I.hok b _ hb
 have key:=RcAt.tuples (A:=X.A) (s:=s) t1 t2 (by omega) (zaff hx hy rv rv2)
 have e:((List.range (min its.toArray.size its2.toArray.size)).all (fun j=>decide (xs[j]?=ys[j]?)) && its.toArray.size == its2.toArray.size)=decide (xs=ys):=by
  rw [← zai5,List.size_toArray,List.size_toArray,← rv.length,← rv2.length]
 rw [e] at key
 exact key X.prog X.w X.xe _ ⟨.bl _,H,I,rfl,q⟩
theorem zaq4 (hu:X.A.units + 64 < cLine):OpR X (compareOp .NotEq) rNeT:=by
 intro pins s σ H x y v u Q I rx ry h
 obtain ⟨a,b,xs,ys,rfl,rfl,ha,hb,hx,hy,q⟩:=h
 cases rx
 cases ry
 obtain ⟨z,its,rv,t1⟩:=I.hok a _ ha
 obtain ⟨z2,its2,rv2,t2⟩:=I.hok b _ hb
 have key:=RcNeAt.tuples (A:=X.A) (s:=s) t1 t2 (by omega) (zaff hx hy rv rv2)
 have e:((List.range (min its.toArray.size its2.toArray.size)).all (fun j=>decide (xs[j]?=ys[j]?)) && its.toArray.size == its2.toArray.size)=decide (xs=ys):=by
  rw [← zai5,List.size_toArray,List.size_toArray,← rv.length,← rv2.length]
 rw [e] at key
 exact key X.prog X.w X.xe _ ⟨.bl _,H,I,rfl,q⟩
def rEqS:R2:=fun x y H Q=>∃ (a b:Addr) (xs ys:List V),x=.ref a∧y=.ref b∧H a=some (.lst xs)∧H b=some (.lst ys)∧ScaL xs∧ScaL ys∧Q (.bl (decide (xs=ys))) H
theorem zai6 (hu:X.A.units + 64 < cLine):OpR X (compareOp .Eq) rEqS:=by
 intro pins s σ H x y v u Q I rx ry h
 obtain ⟨a,b,xs,ys,rfl,rfl,ha,hb,hx,hy,q⟩:=h
 cases rx
 cases ry
 obtain ⟨z,its,n,rv,e⟩:=I.hok a _ ha
 obtain ⟨z2,its2,n2,rv2,e2⟩:=I.hok b _ hb
 have i1:s.heap.IsList a its.toArray:=⟨_,e,rfl,n,rfl⟩
 have i2:s.heap.IsList b its2.toArray:=⟨_,e2,rfl,n2,rfl⟩
 by_cases hl:xs.length=ys.length
 ·have key:=RcAt.lists (A:=X.A) (s:=s) i1 i2 (by simp [← rv.length,← rv2.length,hl]) (by omega) (zaff hx hy rv rv2)
  have ea:((List.range its.toArray.size).all (fun j=>decide (xs[j]?=ys[j]?)))=decide (xs=ys):=by
   rw [← zai5,List.size_toArray,← rv.length,← hl,Nat.min_self]; simp
  rw [ea] at key
  exact key X.prog X.w X.xe _ ⟨.bl _,H,I,rfl,q⟩
 ·have key:=RcAt.lists_lengths (A:=X.A) (s:=s) i1 i2 (by simp [← rv.length,← rv2.length,hl]) (by omega)
  have ea:decide (xs=ys)=false:=decide_eq_false fun z=>hl (by rw [z])
  rw [ea] at q
  exact key X.prog X.w X.xe _ ⟨.bl _,H,I,rfl,q⟩
end
end L2


namespace L2
open PySem PySem.W PyProof.Rows PySem.SeqAt
theorem zaq5 (k:Key):Sca (kV k):=by
 cases k with
 | inl i=>exact .inl ⟨i,rfl⟩
 | inr x=>exact .inr ⟨x,rfl⟩
end L2

namespace L2
open PySem PySem.W PyProof.Rows
section
variable {X:Cx}{o e f:Expr}{apos cpos:Pos}{td ty tx:TE}
theorem zaea {i:Expr}{pos:Pos} (hu:X.A.units + 1 < cLine) (ho:Pr (PE X o td)) (hi:Pr (PE X i ty)) (hs:NoSl i):Pr (PE X (.Subscript o i pos) (tDGet td ty)):=⟨zaoo hu ho.h hi.h hs⟩
theorem zacr {i value:Expr}{tv:TE}{pos pos':Pos} (hu:X.A.units + 1 < cLine) (ho:Pr (PE X o td)) (hi:Pr (PE X i ty)) (hv:Pr (PE X value tv)) (hs:swapsWith value (some (.Subscript o i pos')) pos.line X.env=pure false) :
  Pr (PS X (.Assign [.Subscript o i pos'] value pos) (sDPut td ty tv)):=⟨zaop hu ho.h hi.h hv.h hs⟩
end
end L2

namespace L2
open PySem PySem.W PyProof.Rows
def sqO (k:SK) (xs:List V):HO:=match k with
 | .list=>.lst xs
 | .tuple=>.tup xs
def ItK (K:PySem.W.Frag) (k:SK) (a:Addr):It:=match k with
 | .list=>Itl K a
 | .tuple=>Itt K a
def iSq (K:PySem.W.Frag) (k:SK) (tl:TE):TI:=fun σ H R=>tl σ H fun x H1=>∃ a,x=.ref a∧(∃ xs,Sq k K H1 a xs)∧R (ItK K k a) H1
section
variable {X:Cx}{tg l:Expr}
theorem zagf (K:PySem.W.Frag) (hK:X.K=K) (k:SK) {tl:TE} (hl:Pr (PE X l tl)):Pr (PI X tg l (iSq K k tl)):=by
 cases k with
 | list=>exact zakw K hK hl
 | tuple=>exact zamv K hK hl
end
end L2

namespace L2
open PySem PySem.Spec PyProof.Rows PySem.SeqAt
section
variable {X:Cx}
theorem zai7 (n:Nat):(List.range n).all (fun _=>true)=true:=by simp
theorem zadh {α β:Type}{R:α→β→Prop}:∀ {xs:List α}{ys:List β},Paired R xs ys→∀ (j:Nat) (h1:j < xs.length) (h2:j < ys.length),R xs[j] ys[j]
 | _,_,.nil,j,h1,_=>absurd h1 (Nat.not_lt_zero _)
 | _,_,.cons a t,0,_,_=>a
 | _,_,.cons a t,j + 1,h1,h2=>by
  have:=zadh t j (by simpa using h1) (by simpa using h2)
  simpa using this
end
end L2

namespace L2
open PySem PySem.Spec PyProof.Rows PySem.SeqAt
section
variable {X:Cx}
def Pl (x:V):Prop:=(∃ i,x=.int i)∨∃ p,x=.ref p
def EqD (H:Hp) (x y:V):Prop:=(x=y∧Pl x)∨∃ u v zs,x=.ref u∧y=.ref v∧H u=some (.tup zs)∧H v=some (.tup zs)∧∀ z∈zs,Pl z
theorem zaky {A:Around}{s:Shared}{x:V}{v u:Value} (h:Pl x) (r1:RelV x v) (r2:RelV x u):EqAt A s v u true:=by
 rcases h with ⟨i,rfl⟩ | ⟨p,rfl⟩
 ·obtain ⟨t,rfl⟩:=r1
  obtain ⟨t',rfl⟩:=r2
  have:=EqAt.int_int (A:=A) (s:=s) i t i t'
  rwa [beq_self_eq_true] at this
 ·cases r1
  cases r2
  exact EqAt.same _
def rNeD:R2:=fun x y H Q=>∃ (a b:Addr) (xs ys:List V),x=.ref a∧y=.ref b∧H a=some (.tup xs)∧H b=some (.tup ys)∧Paired (EqD H) xs ys∧Q (.bl false) H
theorem zagg {xs:List V}{us:List Value} (r:Vals xs us) (j:Nat) (h1:j < xs.length) (h2:j < us.length):RelV xs[j] us[j]:=zadh r j h1 h2
theorem zaq6 (hu:X.A.units + 64 < cLine):OpR X (compareOp .NotEq) rNeD:=by
 intro pins s σ H x y v u Q I rx ry h
 obtain ⟨a,b,xs,ys,rfl,rfl,ha,hb,pr,q⟩:=h
 cases rx
 cases ry
 obtain ⟨z,its,rv,t1⟩:=I.hok a _ ha
 obtain ⟨z2,its2,rv2,t2⟩:=I.hok b _ hb
 have l1:=rv.length
 have l2:=rv2.length
 have el:=Paired.length pr
 have key:=RcNeAt.tuples (A:=X.A) (s:=s) (e:=fun _=>true) t1 t2 (by omega) (fun j h1 h2=>by
  have j1:j < its.length:=by simpa using h1
  have j2:j < its2.length:=by simpa using h2
  have r1:=zagg rv j (by omega) j1
  have r2:=zagg rv2 j (by omega) j2
  simp only [List.getElem_toArray]
  rcases zadh pr j (by omega) (by omega) with ⟨e,pl⟩ | ⟨u,v,zs,e1,e2,g1,g2,pl⟩
  ·rw [← e] at r2
   exact zaky pl r1 r2
  ·rw [e1] at r1
   rw [e2] at r2
   have q1:its[j]=.ref u:=r1
   have q2:its2[j]=.ref v:=r2
   rw [q1,q2]
   by_cases ne:u=v
   ·rw [ne]; exact EqAt.same _
   ·obtain ⟨_,as,ra,ta⟩:=I.hok _ _ g1
    obtain ⟨_,bs,rb,tb⟩:=I.hok _ _ g2
    have m1:=ra.length
    have m2:=rb.length
    have k:=RcAt.tuples (A:=X.A.in1) (s:=s) (e:=fun _=>true) ta tb (show X.A.units + 1 < cLine by omega) (fun i h1 h2=>by
     have i1:i < as.length:=by simpa using h1
     have i2:i < bs.length:=by simpa using h2
     simp only [List.getElem_toArray]
     exact zaky (pl _ (List.getElem_mem (by omega))) (zagg ra i (by omega) i1) (zagg rb i (by omega) i2))
    have e:((List.range (min as.toArray.size bs.toArray.size)).all (fun _=>true) && as.toArray.size == bs.toArray.size)=true:=by
     rw [zai7]
     simp only [List.size_toArray,Bool.true_and,beq_iff_eq]
     omega
    rw [e] at k
    exact EqAt.of_refs ne k)
 have e:(!((List.range (min its.toArray.size its2.toArray.size)).all (fun _=>true) && its.toArray.size == its2.toArray.size))=false:=by
  rw [zai7]
  simp only [List.size_toArray,Bool.true_and,Bool.not_eq_false',beq_iff_eq]
  omega
 rw [e] at key
 exact key X.prog X.w X.xe _ ⟨.bl _,H,I,rfl,q⟩
theorem zagh {i o:Expr}{ty td:TE}{pos:Pos} (hu:X.A.units + 1 < cLine) (hi:Pr (PE X i ty)) (ho:Pr (PE X o td)) (h1:behindInMarks .In o=false:=by rfl):Pr (PE X (.Compare i [.In] [o] pos) (tDIn ty td)):=⟨zap8 (zaqx hu hi.h ho.h) h1⟩
end
theorem zajs {H:Hp}{a:Addr}{kvs:List (Key × V)}{x:Str}{v:V} (e:H a=some (.dK kvs)) (h:valV kvs (.inr x)=some v):DGet H a (.str x) (some v):=h ▸ DGet.k (k:=.inr x) e
end L2

namespace L2
open PySem
structure AF (sc:Scope) (N:List Str):Prop where
 h:∀ x∈N,(sc.names.lookup x=some .local∨sc.names.lookup x=some .cell)∧(x == ("__debug__" : Str))=false∧(x == ("__classdict__" : Str))=false
structure AV (sc:Scope) (N:List Str):Prop where
 h:∀ x∈N,(sc.names.lookup x=some .local∨sc.names.lookup x=some .cell∨sc.names.lookup x=some .free)∧(x == ("__debug__" : Str))=false∧(x == ("__classdict__" : Str))=false
structure AK (sc:Scope) (N:List Str):Prop where
 h:∀ x∈N,sc.names.lookup x=some .local
structure AG (sc:Scope) (N:List Str):Prop where
 h:∀ x∈N,sc.names.lookup x=some .globalImplicit
theorem AF.l {sc:Scope}{N:List Str} (A:AF sc N) (i:Nat) {x:Str} (e:N[i]?=some x):sc.names.lookup x=some .local∨sc.names.lookup x=some .cell:=(A.h x (List.mem_of_getElem? e)).1
theorem AK.k {sc:Scope}{N:List Str} (A:AK sc N) (i:Nat) {x:Str} (e:N[i]?=some x):sc.names.lookup x=some .local:=A.h x (List.mem_of_getElem? e)
theorem AG.g {sc:Scope}{N:List Str} (A:AG sc N) (i:Nat) {x:Str} (e:N[i]?=some x):sc.names.lookup x=some .globalImplicit:=A.h x (List.mem_of_getElem? e)
theorem qv {X:Cx}{x:Str}{pos:Pos} (A:AF X.env.scope X.N) (i:Nat) (e:X.N[i]?=some x):Pr (PE X (.Name x pos) (tVar i)) :=
 have a:=A.h x (List.mem_of_getElem? e)
 zako e (a.1.elim .inl fun h=>.inr (.inl h)) a.2.1 a.2.2
theorem qw {X:Cx}{x:Str}{pos:Pos} (A:AV X.env.scope X.N) (i:Nat) (e:X.N[i]?=some x):Pr (PE X (.Name x pos) (tVar i)) :=
 have a:=A.h x (List.mem_of_getElem? e)
 zako e a.1 a.2.1 a.2.2
end L2

namespace L2
open PySem PySem.Spec PyProof.Rows PySem.SeqAt
section
variable {X:Cx}
def isNon:V→Bool
 | .non=>true
 | _=>false
def nonV:Value→Bool
 | .none=>true
 | _=>false
theorem zai8:∀ {ys:List V}{us:List Value},Vals ys us→(∀ z∈ys,z=.non∨∃ p,z=.ref p)→us.any nonV=ys.any isNon
 | _,_,.nil,_=>rfl
 | y :: ys,u :: us,.cons r t,h=>by
  have ih:=zai8 t fun z hz=>h z (List.mem_cons_of_mem _ hz)
  rw [List.any_cons,List.any_cons,ih]
  rcases h y (by simp) with e | ⟨p,e⟩
  ·subst e; cases r; rfl
  ·subst e; cases r; rfl
def rInO:R2:=fun x y H Q=>∃ (b:Addr) (ys:List V),x=.non∧y=.ref b∧H b=some (.lst ys)∧(∀ z∈ys,z=.non∨∃ p,z=.ref p∧((∃ zs,H p=some (.lst zs))∨∃ zs,H p=some (.tup zs)))∧Q (.bl (ys.any isNon)) H
theorem zanj (hu:X.A.units + 64 < cLine):OpR X (compareOp .In) rInO:=by
 intro pins s σ H x y v u Q I rx ry h
 obtain ⟨b,ys,rfl,rfl,hb,hz,q⟩:=h
 cases rx
 cases ry
 obtain ⟨z,its,n,rv,e⟩:=I.hok b _ hb
 have i1:s.heap.IsList b its.toArray:=⟨_,e,rfl,n,rfl⟩
 have ea:its.toArray.any nonV=ys.any isNon:=by
  rw [List.any_toArray]
  exact zai8 rv fun z h=>(hz z h).elim .inl fun ⟨p,e,_⟩=>.inr ⟨p,e⟩
 refine in_listAt nonV i1 (fun y hy=>?_) ⟨.bl (ys.any isNon),H,I,by rw [ea]; rfl,q⟩
 obtain ⟨j,hj⟩:=List.getElem?_of_mem (by simpa using hy:y∈its)
 have hjl:=(List.getElem?_eq_some_iff.mp hj).1
 have gx:ys[j]?=some (ys[j]'(by have:=rv.length; omega)):=List.getElem?_eq_getElem (by have:=rv.length; omega)
 obtain ⟨w1,hw1,r1⟩:=rv.get gx
 rw [hj] at hw1
 cases hw1
 rcases hz _ (List.getElem_mem _) with ep | ⟨p,ep,hp⟩
 ·rw [ep] at r1
  cases r1
  exact EqAt.same _
 rw [ep] at r1
 cases r1
 rcases hp with ⟨zs,hp⟩ | ⟨zs,hp⟩
 ·obtain ⟨_,as,m,ra,ea⟩:=I.hok p _ hp
  exact EqAt.list_none ⟨_,ea,rfl,m,rfl⟩ (by show X.A.units + 1 < cLine; omega)
 ·obtain ⟨_,as,ra,ta⟩:=I.hok p _ hp
  exact EqAt.tuple_none ta (by show X.A.units + 1 < cLine; omega)
end
end L2

namespace L2
open PySem PySem.Spec PyProof.Rows PySem.SeqAt
inductive Wd (H:Hp):V→Prop
 | non:Wd H .non
 | int (i:Int):Wd H (.int i)
 | bl (b:Bool):Wd H (.bl b)
 | lst {p:Addr}{xs:List V} (h:H p=some (.lst xs)):Wd H (.ref p)
 | tup {p:Addr}{xs:List V} (h:H p=some (.tup xs)):Wd H (.ref p)
theorem Wd.ch {H H':Hp}{v:V} (h:Wd H v) (c:Ch [] H H'):Wd H' v:=by
 cases h with
 | non=>exact .non
 | int i=>exact .int i
 | bl b=>exact .bl b
 | lst h=>exact .lst (c.get h (by simp))
 | tup h=>exact .tup (c.get h (by simp))
section
variable {X:Cx}
def isStr:V→Bool
 | .str _=>true
 | _=>false
def rEqW:R2:=fun x y H Q=>Wd H x∧isStr y=true∧Q (.bl false) H
theorem zaco (hu:X.A.units + 64 < cLine):OpR X (compareOp .Eq) rEqW:=by
 intro pins s σ H x y v u Q I rx ry h
 obtain ⟨wd,hs,q⟩:=h
 obtain ⟨sx,rfl⟩:∃ sx,y=.str sx:=by cases y <;> first | exact ⟨_,rfl⟩ | cases hs
 obtain ⟨t,rfl⟩:=ry
 cases wd with
 | non=>cases rx; exact RcAt.none_str _ _ X.prog X.w X.xe _ ⟨.bl _,H,I,rfl,q⟩
 | int i=>obtain ⟨t,rfl⟩:=rx; exact RcAt.int_str _ _ _ _ X.prog X.w X.xe _ ⟨.bl _,H,I,rfl,q⟩
 | bl b=>cases rx; exact RcAt.bool_str _ _ _ X.prog X.w X.xe _ ⟨.bl _,H,I,rfl,q⟩
 | lst h =>
  cases rx
  obtain ⟨z,its,n,rv,e⟩:=I.hok _ _ h
  exact RcAt.list_str _ _ ⟨_,e,rfl,n,rfl⟩ (by omega) X.prog X.w X.xe _ ⟨.bl _,H,I,rfl,q⟩
 | tup h =>
  cases rx
  obtain ⟨z,its,rv,t1⟩:=I.hok _ _ h
  exact RcAt.tuple_str _ _ t1 (by omega) X.prog X.w X.xe _ ⟨.bl _,H,I,rfl,q⟩
def rNeWd:R2:=fun x y H Q=>∃ (a b:Addr) (i j:Int) (v:V) (t:Str),x=.ref a∧y=.ref b∧H a=some (.tup [.int i,v])∧H b=some (.tup [.int j,.str t])∧Wd H v∧Q (.bl true) H
theorem zaoz (hu:X.A.units + 64 < cLine):OpR X (compareOp .NotEq) rNeWd:=by
 intro pins s σ H x y v u Q I rx ry h
 obtain ⟨a,b,i,j,v,sx,rfl,rfl,ha,hb,wd,q⟩:=h
 cases rx
 cases ry
 obtain ⟨z,its,rv,t1⟩:=I.hok a _ ha
 obtain ⟨z2,its2,rv2,t2⟩:=I.hok b _ hb
 obtain ⟨u1,u2,rfl,r1,r2⟩:∃ u1 u2,its=[u1,u2]∧RelV (.int i) u1∧RelV v u2:=by
  cases rv with
  | cons r1 t=>cases t with
   | cons r2 t=>cases t; exact ⟨_,_,rfl,r1,r2⟩
 obtain ⟨w1,w2,rfl,s1,s2⟩:∃ w1 w2,its2=[w1,w2]∧RelV (.int j) w1∧RelV (.str sx) w2:=by
  cases rv2 with
  | cons r1 t=>cases t with
   | cons r2 t=>cases t; exact ⟨_,_,rfl,r1,r2⟩
 obtain ⟨t3,rfl⟩:=r1
 obtain ⟨t4,rfl⟩:=s1
 obtain ⟨t5,rfl⟩:=s2
 have k2:EqAt X.A.in1 s u2 (.str sx t5) false:=by
  cases wd with
  | non=>cases r2; exact EqAt.none_str _ _
  | int i=>obtain ⟨t,rfl⟩:=r2; exact EqAt.int_str _ _ _ _
  | bl b=>cases r2; exact EqAt.bool_str _ _ _
  | lst h =>
   cases r2
   obtain ⟨z,its,n,rv,e⟩:=I.hok _ _ h
   exact EqAt.list_str _ _ ⟨_,e,rfl,n,rfl⟩ (show X.A.units + 1 < cLine by omega)
  | tup h =>
   cases r2
   obtain ⟨z,its,rv,t1⟩:=I.hok _ _ h
   exact EqAt.tuple_str _ _ t1 (show X.A.units + 1 < cLine by omega)
 have key:=RcNeAt.tuples (A:=X.A) (s:=s) (e:=fun n=>if n=0 then i == j else false) t1 t2 (by omega) (fun n h1 h2=>by
  have h1:n < 2:=h1
  rcases (show n=0∨n=1 by omega) with rfl | rfl
  ·exact EqAt.int_int _ _ _ _
  ·exact k2)
 have e:(!((List.range (min ([.int i t3,u2]:List Value).toArray.size ([.int j t4,.str sx t5]:List Value).toArray.size)).all (fun n=>if n=0 then i == j else false) && ([.int i t3,u2]:List Value).toArray.size == ([.int j t4,.str sx t5]:List Value).toArray.size))=true:=by
  have:(List.range (min ([.int i t3,u2]:List Value).toArray.size ([.int j t4,.str sx t5]:List Value).toArray.size)).all (fun n=>if n=0 then i == j else false)=false:=by
   rw [List.all_eq_false]
   exact ⟨1,by simp,by simp⟩
  rw [this]; rfl
 rw [e] at key
 exact key X.prog X.w X.xe _ ⟨.bl _,H,I,rfl,q⟩
structure NeC (x y:V) (H:Hp) (Q:VK):Prop where
 h:rNeT x y H Q∨rNeWd x y H Q
theorem zaq7 (hu:X.A.units + 64 < cLine):OpR X (compareOp .NotEq) NeC:=by
 intro pins s σ H x y v u Q I rx ry h
 rcases h.h with h | h
 ·exact zaq4 hu pins s σ H x y v u Q I rx ry h
 ·exact zaoz hu pins s σ H x y v u Q I rx ry h
end
end L2

namespace L2
open PySem PySem.Spec PyProof.Rows PySem.SeqAt
def CtOf (H:Hp) (v:V):Option (List V)→Prop
 | none=>v=.non
 | some us=>∃ p,v=.ref p∧H p=some (.tup us)∧ScaL us
section
variable {X:Cx}
def rNeLP:R2:=fun x y H Q=>∃ (a b:Addr) (xs ys:List V) (cs ds:List (Option (List V))),x=.ref a∧y=.ref b∧H a=some (.lst xs)∧H b=some (.lst ys)∧Paired (CtOf H) xs cs∧Paired (CtOf H) ys ds∧Q (.bl (!decide (cs=ds))) H
theorem zao0 (hu:X.A.units + 64 < cLine):OpR X (compareOp .NotEq) rNeLP:=by
 intro pins s σ H x y v u Q I rx ry h
 obtain ⟨a,b,xs,ys,cs,ds,rfl,rfl,ha,hb,hc,hd,q⟩:=h
 cases rx
 cases ry
 obtain ⟨z,its,n,rv,e⟩:=I.hok a _ ha
 obtain ⟨z2,its2,n2,rv2,e2⟩:=I.hok b _ hb
 have i1:s.heap.IsList a its.toArray:=⟨_,e,rfl,n,rfl⟩
 have i2:s.heap.IsList b its2.toArray:=⟨_,e2,rfl,n2,rfl⟩
 have l1:=rv.length
 have l2:=rv2.length
 have m1:=Paired.length hc
 have m2:=Paired.length hd
 by_cases hl:xs.length=ys.length
 ·have key:=RcNeAt.lists (A:=X.A) (s:=s) (e:=fun j=>decide (cs[j]?=ds[j]?)) i1 i2 (by simp [← l1,← l2,hl]) (by omega) (fun j h1 h2=>by
   have j1:j < its.length:=by simpa using h1
   have j2:j < its2.length:=by simpa using h2
   have g1:cs[j]?=some (cs[j]'(by omega)):=List.getElem?_eq_getElem (by omega)
   have g2:ds[j]?=some (ds[j]'(by omega)):=List.getElem?_eq_getElem (by omega)
   have c1:CtOf H (xs[j]'(by omega)) (cs[j]'(by omega)):=zadh hc j (by omega) (by omega)
   have c2:CtOf H (ys[j]'(by omega)) (ds[j]'(by omega)):=zadh hd j (by omega) (by omega)
   have r1:RelV (xs[j]'(by omega)) its[j]:=zadh rv j (by omega) j1
   have r2:RelV (ys[j]'(by omega)) its2[j]:=zadh rv2 j (by omega) j2
   simp only [List.getElem_toArray]
   rw [g1,g2]
   generalize cs[j]'(by omega)=c at c1
   generalize ds[j]'(by omega)=d at c2
   generalize xs[j]'(by omega)=x at c1 r1
   generalize ys[j]'(by omega)=y at c2 r2
   generalize its[j]=u1 at r1
   generalize its2[j]=u2 at r2
   cases c with
   | none =>
    have c1:x=.non:=c1
    subst c1
    cases r1
    cases d with
    | none =>
     have c2:y=.non:=c2
     subst c2
     cases r2
     rw [decide_eq_true rfl]
     exact EqAt.same _
    | some vs =>
     obtain ⟨p,rfl,hp,_⟩:=c2
     cases r2
     obtain ⟨_,as,ra,ta⟩:=I.hok p _ hp
     rw [decide_eq_false (by simp)]
     exact EqAt.none_tuple ta (by show X.A.units + 1 < cLine; omega)
   | some us =>
    obtain ⟨p,rfl,hp,sp⟩:=c1
    cases r1
    obtain ⟨_,as,ra,ta⟩:=I.hok p _ hp
    cases d with
    | none =>
     have c2:y=.non:=c2
     subst c2
     cases r2
     rw [decide_eq_false (by simp)]
     exact EqAt.tuple_none ta (by show X.A.units + 1 < cLine; omega)
    | some vs =>
     obtain ⟨p2,rfl,hp2,sp2⟩:=c2
     cases r2
     obtain ⟨_,bs,rb,tb⟩:=I.hok p2 _ hp2
     by_cases ne:p=p2
     ·subst ne
      rw [hp] at hp2
      cases hp2
      rw [decide_eq_true rfl]
      exact EqAt.same _
     ·have k:=RcAt.tuples (A:=X.A.in1) (s:=s) ta tb (show X.A.units + 1 < cLine by omega) (zaff sp sp2 ra rb)
      have e:((List.range (min as.toArray.size bs.toArray.size)).all (fun j=>decide (us[j]?=vs[j]?)) && as.toArray.size == bs.toArray.size)=decide (some (some us)=some (some vs)):=by
       rw [List.size_toArray,List.size_toArray,← ra.length,← rb.length]
       have:=zai5 (xs:=us) (ys:=vs)
       rw [this]
       by_cases z:us=vs <;> simp [z]
      rw [e] at k
      exact EqAt.of_refs ne k)
  have ea:((List.range its.toArray.size).all (fun j=>decide (cs[j]?=ds[j]?)))=decide (cs=ds):=by
   rw [List.size_toArray,← l1,m1]
   have:cs.length=ds.length:=by omega
   by_cases z:cs=ds
   ·subst z; simp
   ·rw [decide_eq_false z,List.all_eq_false]
    have:∃ j,j < cs.length∧cs[j]?≠ds[j]?:=by
     refine Classical.byContradiction fun h=>z (List.ext_getElem? fun j=>?_)
     by_cases hj:j < cs.length
     ·exact Classical.byContradiction fun hn=>h ⟨j,hj,hn⟩
     ·rw [List.getElem?_eq_none (by omega),List.getElem?_eq_none (by omega)]
    obtain ⟨j,hj,hn⟩:=this
    exact ⟨j,by simpa using hj,by simp [hn]⟩
  rw [ea] at key
  exact key X.prog X.w X.xe _ ⟨.bl _,H,I,rfl,q⟩
 ·have key:=RcNeAt.lists_lengths (A:=X.A) (s:=s) i1 i2 (by simp [← l1,← l2,hl]) (by omega)
  have ea:decide (cs=ds)=false:=decide_eq_false fun z=>hl (by rw [m1,m2,z])
  rw [ea] at q
  exact key X.prog X.w X.xe _ ⟨.bl _,H,I,rfl,q⟩
end
end L2

namespace L2
open PySem PySem.W PyProof.Rows PySem.Calls
structure TabOk (P:Program) (w:World) (K:PySem.W.Frag) (mg:Str→Option Value) (base:Heap) (CX:CXT) (k:Nat) (ps:List Str) (sp:Addr→Sp) (A:Addr→Prop):Prop where
 at_:∀ f,A f→∃ fd:FuncData,FnOk P w K mg base CX k f fd ps (sp f)∧Binds K fd ps []∧PySem.W.keepIn K (.ref f)=true
def tCallV (sp:Addr→Sp) (A:Addr→Prop) (E:XK) (tf:TE) (t:TA):TE:=fun σ H Q=>tf σ H fun x H1=>∃ f,x=.ref f∧A f∧t σ H1 fun vs H2=>sp f vs H2 Q E
section
variable {X:Cx}
theorem zahk {CX:CXT}{k:Nat}{ps:List Str}{sp:Addr→Sp}{A:Addr→Prop}{E:XK}{o i e:Expr}{es:List Expr}{p pos:Pos}{tf:TE}{t:TA} (T:TabOk X.prog X.w X.K X.mg X.base CX k ps sp A) (hr:Room k X.A) (hx:Passes CX X E) (hf:Pr (PE X (.Subscript o i p) tf)) (ha:Pr (PA X (e :: es) t))
  (ht:eval (.Call (.Subscript o i p) (e :: es) [] pos) X.env=(eval (.Subscript o i p) X.env >>= fun f=>callWith pos f [] (backTo pos (starEach (e :: es) X.env)) (backToKw pos (keywordEach [] X.env))):=by rfl)
  (he:starEach (e :: es) X.env=(false,eval e X.env) :: starEach es X.env:=by rfl) (hpl:(backTo pos (starEach es X.env)).any (·.1)=false:=by rfl) :
  Pr (PE X (.Call (.Subscript o i p) (e :: es) [] pos) (tCallV sp A E tf t)):=by
 refine ⟨fun pins s σ H Q I h=>?_⟩
 rw [ht]
 refine wpAny_bind (thn (hf.h pins s σ H _ I h) fun u s1 ⟨x,H1,I1,rx,f,ex,af,q⟩=>?_)
 subst ex
 obtain rfl:u=Value.ref f:=rx
 obtain ⟨fd,F,b,kp⟩:=T.at_ f af
 refine PySem.W.callWith_K (h₀:=X.base) I.ok.mod.kin kp (thn (ha.h pos pins s1 σ H1 _ I1 q) fun us s2 ⟨vs,H2,I2,r,q2⟩=>⟨I2.kIn,?_⟩) he hpl
 exact zanf F hr b .nil hx I2 r (by rw [List.append_nil]; exact q2)
theorem dputS {H:Hp}{a:Addr}{kvs:List (Key × V)}{x:Str}{v:V} (e:H a=some (.dK kvs)) (hl:kvs.length < sizeLine):DPut H a (.str x) v (upd H a (.dK (putK kvs (.inr x) v))):=DPut.k (k:=.inr x) e hl
end
end L2

namespace HT
open PySem PySem.Spec PyProof.Rows L2
section
variable {prog:Program}{w:World}{A:Around}{E:_}{s:Shared}
theorem whole_tup {t sl:Addr}{its:Array Value}{vl vu:Value}{lo hi:Option Int}{Q:Value→Shared→Prop} (it:IsTup s.heap t its) (is:s.heap.IsSliceOf sl vl vu .none) (pl:IsPart vl lo) (pu:IsPart vu hi) (z0:sIx its.size 0 lo=0) (z1:sIx its.size its.size hi=its.size) (h:Q (.ref t) s):wpAny (model prog w) A (getItem (.ref t) (.ref sl)) Q E s:=by
 obtain ⟨o,ho,hc,_⟩:=id is
 unfold getItem
 try with_reducible refine wpAny_holding ?_
 first | refine wpAny_bind (wpAny_pure ?_) | skip
 refine wpAny_bind (wpAny_sequenceKey it.typeIs (by decide) (wpAny_bind (wpAny_callSpecial?_slot (name:=Str.ofString "__getitem__") it.typeIs slot_tuple_getitem (wpAny_call_entry slot_tuple_getitem it.typeIs entry_tuple_getitem ?_ (args_tuple_getitem _ _)))))
 refine wpAny_bind (m:=Builtin.Tuple.tupleItemsOf (.ref t)) (tupleItemsOf_ it (wpAny_bind (wpAny_typeOf (show s.TypeIs (.ref sl) "slice" from ⟨o,ho,hc⟩) ?_)))
 rw [if_pos (by decide)]
 refine wpAny_bind (zad6 is pl pu ?_)
 show wpAny _ _ (if (((sIx its.size 0 lo:Nat):Int) == 0 && (1:Int) == 1 && (sIx its.size its.size hi - sIx its.size 0 lo) == its.size)=true then _ else _) _ _ s
 rw [z0,z1,if_pos (by simp)]
 refine wpAny_bind (wpAny_bind (wpAny_typeOf it.typeIs ?_))
 refine wpAny_pure ?_
 rw [if_pos (by decide)]
 refine wpAny_bind (wpAny_rule ?_)
 exact wpAny_pure ⟨_,rfl,wpAny_pure h⟩
end
end HT
namespace L2
open PySem PySem.Spec PyProof.Rows
section
variable {X:Cx}
def rSlU:V→Option Int→Option Int→Hp→VK→Prop:=fun x lo hi H Q=>∃ a xs,x=.ref a∧H a=some (.tup xs)∧∀ t H',Ch [] H H'→H' t=some (.tup (cutV xs lo hi))→Q (.ref t) H'
theorem zakz:SlR X rSlU:=by
 intro pins s σ H x v vl vu lo hi sl Q I rx hs pl pu h
 obtain ⟨a,xs,rfl,ga,q⟩:=h
 have hx:SqT X.K H a xs:=.of ga
 by_cases e:HT.sIx xs.length 0 lo=0∧HT.sIx xs.length xs.length hi=xs.length
 ·cases rx
  obtain ⟨its,r,ht,_⟩:=I.tuple hx
  have hl:its.toArray.size=xs.length:=by rw [List.size_toArray]; exact r.length.symm
  exact ⟨"tuple",_,slot_tuple_getitem.lookup,ht.typeIs,HT.whole_tup ht hs pl pu (by rw [hl]; exact e.1) (by rw [hl]; exact e.2) ⟨.ref a,H,I,rfl,q a H (Ch.refl _ _) (by rw [ga]; unfold cutV; rw [e.1,e.2,Nat.sub_zero,List.drop_zero,List.take_length])⟩⟩
 ·exact zag6 pins s σ H _ v vl vu lo hi sl Q I rx hs pl pu ⟨a,xs,rfl,hx,e,fun p hp=>q p _ (Ch.new hp _) zaai⟩
end
end L2

namespace L2
open PySem PySem.Spec PyProof.Rows
def aIxQ (K:PySem.W.Frag):R2:=fun x y H Q=>∃ p xs i,x=.ref p∧y=.int i∧(SqL K H p xs∨SqT K H p xs)∧Atx xs i fun v=>Q v H
theorem zab5 {X:Cx} (K:PySem.W.Frag) (hK:X.K=K):IxR X (aIxQ K):=by
 subst hK
 intro value slice pins s σ H x y u w Q I rx ry h
 obtain ⟨p,xs,i,e1,e2,hs,a⟩:=h
 rcases hs with hs | hs
 ·exact zaaq value slice pins s σ H x y u w Q I rx ry ⟨p,xs,i,e1,e2,hs,a⟩
 ·exact zaa9 value slice pins s σ H x y u w Q I rx ry ⟨p,xs,i,e1,e2,hs,a⟩
end L2

namespace L2
open PySem PySem.W PyProof.Rows
section
variable {pg:Program}{wo:World}{Ar:Around}{Ex:Value→Shared→Prop}
theorem zahl {j l:Addr}{vs:Array Value} (ne:l≠j):∀ (m k:Nat) (s:Shared) (Z:List Value→Shared→Prop),s.heap.IsListIter j l k→s.heap.IsList l vs→k + m≤vs.size →
  (∀ g,g.IsListIter j l (k + m)→Heap.SameBut j s.heap g→Z ((vs.toList.drop k).take m) { s with heap:=g })→wpAny (model pg wo) Ar (draw (.ref j) m) Z Ex s
 | 0,k,s,Z,ij,_,_,z=>wpAny_pure (by simpa using z s.heap ij (Heap.SameBut.refl ..))
 | m + 1,k,s,Z,ij,il,le,z=>by
  have lt:k < vs.size:=by omega
  refine wpAny_bind (wpAny_pyNext_list_item ij il (x:=vs[k]) (by simp [lt]) fun g1 i1 s1=>?_)
  refine wpAny_bind (wpAny_holding (zahl ne m (k + 1) _ _ i1 (il.extBut s1.extBut ne) (by omega) fun g2 i2 s2=>wpAny_pure ?_))
  have e:vs.toList.drop k=vs[k] :: vs.toList.drop (k + 1):=by simp [List.drop_eq_getElem_cons,lt]
  have r:=z g2 (by rw [← Nat.add_assoc,Nat.add_right_comm] ; exact i2) (s1.trans s2)
  rw [e] at r
  exact r
theorem zah7 {s:Shared}{l:Addr}{vs:Array Value}{Z:List Value→Shared→Prop} (nh:Ar.handled=none) (il:s.heap.IsList l vs) (z:∀ g,Heap.ExtBut s.heap.objs.size s.heap g→Z vs.toList { s with heap:=g }) :
  wpAny (model pg wo) Ar (unpackItems (.ref l) vs.size none) Z Ex s:=by
 have ne:l≠s.heap.objs.size:=let ⟨o,ho,_⟩:=il; Nat.ne_of_lt (Heap.lt_size ho)
 unfold unpackItems
 refine wpAny_bind ?_
 unfold notIterableAtAll
 refine wpAny_bind (wpAny_specialOf il.typeIs slot_list_iter.lookup (wpAny_pure ?_))
 rw [if_neg Bool.false_ne_true]
 refine wpAny_bind (wpAny_holding (wpAny_pyIter_list il ?_))
 refine wpAny_bind (wpAny_holding (zahl ne vs.size 0 _ _ ⟨_,Heap.get?_push_size _ rfl,rfl,rfl⟩ (il.push _) (by omega) fun g1 i1 s1=>?_))
 have al:(vs.toList.drop 0).take vs.size=vs.toList:=List.take_of_length_le (by simp)
 rw [al,if_neg (by simp)]
 refine wpAny_bind (wpAny_holding (wpAny_pyNext_list_end nh i1 ((il.push _).extBut s1.extBut ne) (by simp) fun g2 e2=>?_))
 exact wpAny_pure (z g2 fun b o nb e=>e2 b o nb (s1.extBut b o nb (Heap.get?_push_of_some _ e)))
end
section
variable {X:Cx}
def gLst (K:PySem.W.Frag) (n:Nat) (t:TGs):TG:=fun v σ H Q=>∃ a xs,v=.ref a∧SqL K H a xs∧xs.length=n∧t xs σ H Q
theorem zak0 {es:List Expr}{k n:Nat}{pos:Pos}{t:TGs} (hc:X.calm=true) (h:Pr (PGs X es t)) (hn:(assignEach es X.env).length=n:=by rfl) (hst:(assignEach es X.env).findIdx? (·.1)=none:=by rfl):Pr (PG X (.Tuple es k pos) (gLst X.K n t)):=⟨by
 intro pins s σ H v u Q I r hw
 obtain ⟨a,xs,rfl,hq,hl,hw⟩:=hw
 cases r
 obtain ⟨its,rv,⟨o,m,eo,ec,_,ed⟩,hz⟩:=I.list hq
 have lt:(assignEach es X.env).length=its.toArray.size:=by rw [hn,← hl,rv.length]; simp
 rw [arm_assign_Tuple]
 refine wpAny_bind (wpAny_standAt ?_)
 unfold unpack
 rw [lt,hst]
 refine wpAny_bind (wpAny_holding (zah7 (I.ok.hd hc) ⟨o,eo,ec,m,ed⟩ fun g x=>?_))
 have I1:Inv X pins σ H { s with heap:=g }:=I.kept (t':=s.toks) fun b o e=>x b o (Nat.ne_of_lt (Heap.lt_size e)) e
 exact h.h pins _ σ H xs _ Q I1 (by simpa using rv) hw⟩
end
end L2

set_option maxHeartbeats 4000000
namespace B17
open PySem L2
abbrev Vs (sc:Scope) (x:Str):Prop:=sc.names.lookup x=some NameKind.local∨sc.names.lookup x=some NameKind.cell∨sc.names.lookup x=some NameKind.free
abbrev Lc (sc:Scope) (x:Str):Prop:=sc.names.lookup x=some NameKind.local∨sc.names.lookup x=some NameKind.cell
abbrev Gi (sc:Scope) (x:Str):Prop:=sc.names.lookup x=some NameKind.globalImplicit
abbrev Nd (x:Str):Prop:=(x == ("__debug__" : Str))=false
abbrev Nc (x:Str):Prop:=(x == ("__classdict__" : Str))=false
local macro_rules | `(tactic| walk_at "few")=>`(tactic| (with_reducible show (List.length (α:=Str × V) _) < 1000); first | exact (by decide:0 < 1000) | exact (by decide:1 < 1000) | exact (by decide:2 < 1000) | exact (by decide:3 < 1000) | exact (by decide:4 < 1000) | exact (by decide:5 < 1000) | exact (by decide:6 < 1000))
local macro_rules | `(tactic| walk_at "get")=>`(tactic| first
 | with_reducible assumption
 | exact zaai
 | (apply zaba; (focus with_reducible assumption); (focus walk_at "get"))
 | (apply zahe; (focus walk_at "ne"); (focus walk_at "get"))
 | (apply Ch.get; (focus with_reducible assumption); (focus walk_at "get"); (focus walk_at "notin")))
local macro_rules | `(tactic| walk_at "ne")=>`(tactic| first | with_reducible assumption | (apply Ne.symm; with_reducible assumption) | (apply zajy; (focus with_reducible assumption); (focus with_reducible assumption); (focus (intro z; cases z))))
local macro_rules | `(tactic| walk_at "notin")=>`(tactic| first | exact List.not_mem_nil | (simp only [List.mem_cons,List.not_mem_nil,or_false,not_or,not_false_eq_true]; first | walk_at "ne" | trivial))
local macro_rules | `(tactic| walk_at "scr")=>`(tactic| first
 | with_reducible assumption
 | (apply Scr.ch; (focus with_reducible assumption); (focus with_reducible assumption); (focus walk_at "ch"))
 | (apply Scr.same; (focus with_reducible assumption); (focus walk_at "ch")))
local macro_rules | `(tactic| walk_at "ch")=>`(tactic| first
 | with_reducible assumption
 | exact Ch.refl _ _
 | exact Ch.put
 | (apply Ch.new; with_reducible assumption)
 | (apply Ch.wk; with_reducible assumption)
 | (apply Ch.own; (focus with_reducible assumption); (focus walk_at "ch"))
 | (apply Ch.trans; (rotate_left; focus with_reducible assumption); (focus walk_at "ch"))
 | (apply Ch.trans; (rotate_left; focus (apply Ch.wk; with_reducible assumption)); (focus walk_at "ch"))
 | (apply Ch.trans; (rotate_left; focus exact Ch.put); (focus walk_at "ch"))
 | (apply Ch.trans; (rotate_left; focus (apply Ch.new; with_reducible assumption)); (focus walk_at "ch")))
local macro_rules | `(tactic| walk_at "sq")=>`(tactic| first
 | (apply Scr.sq; walk_at "scr")
 | (apply Exists.intro; walk_at "sq")
 | (refine (‹∀ H:Hp,SqT _ H _ _›) _)
 | (apply SqL.of; walk_at "get")
 | (apply SqT.of; walk_at "get")
 | (apply Or.inl; apply Scr.sq; walk_at "scr")
 | (apply Or.inl; apply SqL.of; walk_at "get")
 | (apply Or.inr; apply SqT.of; walk_at "get"))
local macro_rules | `(tactic| walk_at "arith")=>`(tactic| first
 | omega
 | (simp only [List.length_map,List.length_cons,List.length_nil,List.length_append,List.length_singleton,List.length_replicate]; done)
 | ((try dsimp only); (try simp only [List.length_map,List.length_cons,List.length_nil,List.length_append,List.length_singleton,List.length_replicate,sizeLine_eq]); omega)
 | ((try dsimp only); (try simp only [List.length_map,List.length_cons,List.length_nil,List.length_append,List.length_singleton,List.length_replicate,sizeLine_eq] at *); omega))
local macro_rules | `(tactic| walk_at "cond")=>`(tactic| first
 | (refine Or.inl (And.intro ?_ ?_) <;> walk_at "arith")
 | (refine Or.inr (And.intro ?_ ?_) <;> walk_at "arith")
 | (refine And.intro ?_ (And.intro ?_ ?_) <;> walk_at "arith")
 | (refine And.intro ?_ ?_ <;> walk_at "arith"))
local macro_rules | `(tactic| walk_at "len")=>`(tactic| first
 | with_reducible assumption
 | exact len_one
 | (apply len_slice; walk_at "len")
 | (apply len_app; (focus walk_at "len"); (focus walk_at "len"))
 | exact Nat.le_refl _)
local macro_rules | `(tactic| walk_at "lens")=>`(tactic| first
 | (apply len_sum; (focus walk_at "len"); (focus walk_at "len"); (focus first | decide +kernel | walk_at "arith"))
 | (apply len_top; (focus walk_at "len"); (focus first | decide +kernel | walk_at "arith")))
local macro_rules | `(tactic| walk_at "side")=>`(tactic| first
 | with_reducible rfl | with_reducible assumption | walk_at "sq" | walk_at "get" | walk_at "scr" | walk_at "ch" | walk_at "ty" | exact TyOf.int _ | exact TyOf.str _ | (apply TyOf.tup; walk_at "get") | (apply TyOf.lst; walk_at "get") | exact TyOf.bl _ | exact TyOf.non | walk_at "few" | decide | omega | walk_at "arith" | walk_at "cond" | ((try simp only [List.length_map]); with_reducible assumption) | walk_at "lens" | (apply Or.inr; with_reducible assumption) | walk_at "user" | exact rfl | assumption)
local macro_rules | `(tactic| walk_at "ty")=>`(tactic| (refine Or.inl (And.intro rfl ?_); apply Exists.intro; walk_at "sq"))
local macro_rules | `(tactic| walk_at "user")=>`(tactic| fail)
local macro_rules | `(tactic| walk_at "rd1")=>`(tactic| first
 | apply Exists.intro
 | (refine And.intro rfl ?_)
 | (refine And.intro (show V.str _=L2.kV (Sum.inr _) from rfl) ?_)
 | (refine And.intro (show V.int _=L2.kV (Sum.inl _) from rfl) ?_)
 | (refine And.intro (L2.zams _ _) ?_)
 | (apply And.intro; (focus (walk_at "side"; done)))
 | apply Atx.head
 | (apply Atx.of; (focus first | exact rfl | with_reducible assumption | ((try simp only [List.length_map]); with_reducible assumption)))
 | (apply Or.inl; apply Exists.intro; (refine And.intro rfl ?_))
 | (apply Or.inr; apply Exists.intro; (refine And.intro rfl ?_))
 | (apply Or.inl; apply And.intro; (focus walk_at "sq"))
 | (apply Or.inr; apply And.intro; (focus walk_at "sq"))
 | (intro _)
 | walk_at "fin")
local macro_rules | `(tactic| walk_at "fin")=>`(tactic| first | exact rfl | (walk_at "get"; done))
local macro_rules | `(tactic| walk_at "rd")=>`(tactic| repeat walk_at "rd1")
section
def top (i:Nat):Stmt:=PySem.Challenge.pw_bitfloor_k23_keeps_ends_and_forms.main.body.getD i (.Pass ⟨0,0,0,0⟩)
def SqX (k:SK) (H:Hp) (a:Addr) (xs:List V):Prop:=match k with
 | .list=>H a=some (.lst xs)
 | .tuple=>H a=some (.tup xs)
section
variable {P:Program}{w:World}{K:PySem.W.Frag}{mg:Str→Option Value}{base:Heap}{f:Addr}{fd:FuncData}{k:Nat}
theorem zabj:bootBuiltins "isinstance" = some (.builtin "isinstance"):=by decide +kernel
theorem zagi:bootBuiltins "bool" = some (.type "bool"):=by decide +kernel
theorem zagj:("bool" : Str) ≠ "__name__" := by decide +kernel
theorem zagk:Nd "bool" := by decide +kernel
theorem zabk:("isinstance" : Str) ≠ "__name__" := by decide +kernel
theorem zabl:Nd "isinstance" := by decide +kernel
theorem zak1:bootBuiltins "int" = some (.type "int"):=by decide +kernel
theorem zak2:("int" : Str) ≠ "__name__" := by decide +kernel
theorem zak3:Nd "int" := by decide +kernel
theorem zaei:Nd "is_whole" := by decide +kernel
theorem zacb:bootBuiltins "tuple" = some (.type "tuple"):=by decide +kernel
theorem zacc:("tuple" : Str) ≠ "__name__" := by decide +kernel
theorem zacd:Nd "tuple" := by decide +kernel
theorem zadi:bootBuiltins "list" = some (.type "list"):=by decide +kernel
theorem zadj:("list" : Str) ≠ "__name__" := by decide +kernel
theorem zadk:Nd "list" := by decide +kernel
theorem zank:bootBuiltins "str" = some (.type "str"):=by decide +kernel
theorem zanl:("str" : Str) ≠ "__name__" := by decide +kernel
theorem zanm:Nd "str" := by decide +kernel
theorem zabb:("len" : Str) ≠ "__name__" := by decide +kernel
theorem zabc:Nd "len" := by decide +kernel
theorem zaci:Nd "is_below" := by decide +kernel
theorem zac8:Nd "FEED_COUNTS" := by decide +kernel
theorem zann:bootBuiltins "all" = some (.builtin "all"):=by decide +kernel
theorem zano:("all" : Str) ≠ "__name__" := by decide +kernel
theorem zanp:Nd "all" := by decide +kernel
theorem zae5:Nd "is_gate" := by decide +kernel
theorem gl4:AG (defScope (top 4)) ["isinstance", "bool", "int"]:=⟨by decide +kernel⟩
theorem av4:AF (defScope (top 4)) ["thing"]:=⟨by decide +kernel⟩
def spWhole:Sp:=fun vs H Q _=>∃ i:Int,vs=[.int i]∧Q (.bl true) H
theorem scWhole:FnScope ["thing"] ["thing"] (defScope (top 4)):=⟨rfl,rfl,rfl,by decide +kernel,rfl,by decide +kernel,by decide +kernel⟩
theorem zamw (F:Fun K "is_whole" "is_whole" (top 4) f fd) (z_isinstance:mg "isinstance" = none) (z_int:mg "int" = none) (z_bool:mg "bool" = none):FnOk P w K mg base CX0 (k + 1) f fd ["thing"] spWhole:=by
 have nd:=scWhole.nd
 refine F.ok scWhole (fun vs H Q E h=>by obtain ⟨i,rfl,_⟩:=h; rfl) (fun cdv A outer s H vs Q E hr h=>?_)
 obtain ⟨i,rfl,q⟩:=h
 refine ⟨_,(Pr.h (zaag (zaal (zaaw (zaap zac0 (gl4.g 0 rfl) z_isinstance zabj (zaaa (qv av4 0 rfl) (zaaa (zach (v:=.ty "int") (gl4.g 2 rfl) z_int zak1 rfl zak2 zak3) zaab)) zabk zabl) (zaau (zah4 (zaap zac0 (gl4.g 0 rfl) z_isinstance zabj (zaaa (qv av4 0 rfl) (zaaa (zach (v:=.ty "bool") (gl4.g 1 rfl) z_bool zagi rfl zagj zagk) zaab)) zabk zabl))))))),?_⟩
 (try dsimp only [cxOf])
 walk_at "rd"
 exact q
theorem av5:AF (defScope (top 5)) ["thing", "bound"]:=⟨by decide +kernel⟩
theorem gl5:AG (defScope (top 5)) ["is_whole"]:=⟨by decide +kernel⟩
def spBelow:Sp:=fun vs H Q _=>∃ i b:Int,vs=[.int i,.int b]∧0≤i∧i < b∧Q (.bl true) H
theorem scBelow:FnScope ["thing", "bound"] ["thing", "bound"] (defScope (top 5)):=⟨rfl,rfl,rfl,by decide +kernel,rfl,by decide +kernel,by decide +kernel⟩
theorem zamx (F:Fun K "is_below" "is_below" (top 5) f fd) (Dis_whole:DefOk P w K mg base CX0 k "is_whole" ["thing"] spWhole):FnOk P w K mg base CX0 (k + 1) f fd ["thing", "bound"] spBelow:=by
 have nd:=scBelow.nd
 refine F.ok scBelow (fun vs H Q E h=>by obtain ⟨i,b,rfl,_⟩:=h; rfl) (fun cdv A outer s H vs Q E hr h=>?_)
 obtain ⟨i,b,rfl,h0,h1,q⟩:=h
 refine ⟨_,(Pr.h (zaag (zaal (zaaw (zaah Dis_whole hr (gl5.g 0 rfl) pass0 (zaaa (qv av5 0 rfl) zaab zaac) zaei) (zaau (zafq zan9 zajf zaae (qv av5 0 rfl) (qv av5 1 rfl))))))),?_⟩
 (try dsimp only [cxOf])
 walk_at "rd"
 refine iteD h0 ?_
 walk_at "rd"
 show Q (.bl (decide (i < b))) H
 rw [decide_eq_true h1]
 exact q
theorem gl6:AG (defScope (top 6)) ["tuple", "list", "isinstance"]:=⟨by decide +kernel⟩
theorem av6:AF (defScope (top 6)) ["thing"]:=⟨by decide +kernel⟩
def spListed:Sp:=fun vs H Q _=>∃ (kd:SK) (a:Addr) (xs:List V),vs=[.ref a]∧SqX kd H a xs∧∀ H',Ch [] H H'→Q (.bl true) H'
theorem scListed:FnScope ["thing"] ["thing"] (defScope (top 6)):=⟨rfl,rfl,rfl,by decide +kernel,rfl,by decide +kernel,by decide +kernel⟩
theorem zak4 (F:Fun K "is_listed" "is_listed" (top 6) f fd) (z_isinstance:mg "isinstance" = none) (z_list:mg "list" = none) (z_tuple:mg "tuple" = none):FnOk P w K mg base CX0 (k + 1) f fd ["thing"] spListed:=by
 have nd:=scListed.nd
 refine F.ok scListed (fun vs H Q E h=>by obtain ⟨kd,a,xs,rfl,_⟩:=h; rfl) (fun cdv A outer s H vs Q E hr h=>?_)
 obtain ⟨kd,a,xs,rfl,hx,q⟩:=h
 refine ⟨_,(Pr.h (zaag (zaal (zaap zahj (gl6.g 2 rfl) z_isinstance zabj (zaaa (qv av6 0 rfl) (zaaa (zaay (zaaa (zach (v:=.ty "list") (gl6.g 1 rfl) z_list zadi rfl zadj zadk) (zaaa (zach (v:=.ty "tuple") (gl6.g 0 rfl) z_tuple zacb rfl zacc zacd) zaab zaac) zaac)) zaab)) zabk zabl)))),?_⟩
 (try dsimp only [cxOf])
 cases kd with
 | list =>
  have hx:H a=some (.lst xs):=hx
  walk_at "rd"
  exact q _ (Ch.new (by assumption) _)
 | tuple =>
  have hx:H a=some (.tup xs):=hx
  walk_at "rd"
  exact q _ (Ch.new (by assumption) _)
end
inductive Gt where
 | inp | zero | one
 | keep (f:Int) (a:Nat)
 | not (a:Nat)
 | and (a b:Nat)
 | or (a b:Nat)
 | xor (a b:Nat)
 | pick (a b c:Nat)
deriving DecidableEq
def Gt.vs:Gt→List V
 | .inp=>[.str "in"]
 | .zero=>[.str "zero"]
 | .one=>[.str "one"]
 | .keep f a=>[.str "keep",.int f,.int a]
 | .not a=>[.str "not",.int a]
 | .and a b=>[.str "and",.int a,.int b]
 | .or a b=>[.str "or",.int a,.int b]
 | .xor a b=>[.str "xor",.int a,.int b]
 | .pick a b c=>[.str "pick",.int a,.int b,.int c]
def Gt.ok (i n:Nat):Gt→Prop
 | .inp=>True
 | .zero=>True
 | .one=>True
 | .keep f a=>0≤f∧f < 2∧a < n
 | .not a=>a < i
 | .and a b=>a < i∧b < i
 | .or a b=>a < i∧b < i
 | .xor a b=>a < i∧b < i
 | .pick a b c=>a < i∧b < i∧c < i
structure Gs (H:Hp) (gs:List Gt) (xs:List V):Prop where
 len:xs.length=gs.length
 at_:∀ (i:Nat) (g:Gt),gs[i]?=some g→∃ p,xs[i]?=some (.ref p)∧H p=some (.tup g.vs)
theorem Gs.tu {H H':Hp}{gs:List Gt}{xs:List V} (h:Gs H gs xs) (t:Tu H H'):Gs H' gs xs:=⟨h.len,fun i g e=>let ⟨p,a,b⟩:=h.at_ i g e; ⟨p,a,t p _ b⟩⟩
def Oks (gs:List Gt):Prop:=∀ (i:Nat) (g:Gt),gs[i]?=some g→g.ok i gs.length
def FC:List (Str × Int):=[("in",0),("zero",0),("one",0),("not",1),("and",2),("or",2),("xor",2),("pick",3)]
theorem zacw {K:PySem.W.Frag}{pt:Addr}{zs:List Int}{i:Int}{H:Hp}{Q':List V→Hp→Prop} (hz:∀ z∈zs,0≤z∧z < i) (hp:H pt=some (.tup (zs.map V.int))) (hl:zs.length < 100)
  (h:∀ ys H',Ch [] H H'→ys=List.replicate zs.length (V.bl true)→Q' ys H'):Comp (Itt K pt) (gName 0) tYes (tCall spBelow [] E0 (tCons (tVar 0) (tCons (tVar 1) tNil))) Q' [none,some (.int i)] H:=by
 refine zai0 (zs.map V.int) (fun j ys σ H'=>H'=H∧ys=List.replicate j (V.bl true)∧∃ u,σ=[u,some (.int i)]) (by rw [List.length_map,sizeLine_eq]; omega) ⟨rfl,rfl,_,rfl⟩ ?_ ?_ ?_
 ·rintro j ys σ H' hj ⟨rfl,rfl,u,rfl⟩
  exact ⟨by simp,SqT.of hp⟩
 ·rintro j ys σ H' x hx ⟨rfl,rfl,u,rfl⟩
  obtain ⟨z,hz',rfl⟩:∃ z∈zs,x=.int z:=by
   rw [List.getElem?_map] at hx
   obtain ⟨z,h1,h2⟩:=Option.map_eq_some_iff.mp hx
   exact ⟨z,List.mem_of_getElem? h1,h2.symm⟩
  obtain ⟨h0,h1⟩:=hz z hz'
  exact ⟨_,rfl,_,rfl,z,i,rfl,h0,h1,rfl,by rw [← List.replicate_succ'],_,rfl⟩
 ·rintro ys σ H' ⟨rfl,rfl,_⟩
  exact h _ _ (Ch.refl _ _) (by rw [List.length_map])
section
variable {P:Program}{w:World}{K:PySem.W.Frag}{mg:Str→Option Value}{base:Heap}{f:Addr}{fd:FuncData}{k:Nat}
theorem gl10:AG (defScope (top 10)) ["isinstance", "str", "len", "tuple", "is_below", "FEED_COUNTS", "all"]:=⟨by decide +kernel⟩
theorem av10:AF (defScope (top 10)) ["thing", "ahead", "total"]:=⟨by decide +kernel⟩
def zagl:Scope:={ kind:=PySem.ScopeKind.function,names:=[ (PySem.Str.ofString ".0",PySem.NameKind.local),(PySem.Str.ofString "feed",PySem.NameKind.local),(PySem.Str.ofString "is_below",PySem.NameKind.globalImplicit),(PySem.Str.ofString "ahead",PySem.NameKind.free)],isGenerator:=false,isCoroutine:=false,more:=[]:PySem.Scope }
theorem zagm:CompOk zagl (defScope (top 10)) (["feed"]:List Str) (["thing", "ahead", "total"]:List Str) [1] (["feed", "ahead"]:List Str):=compOk rfl (by decide +kernel) (by decide +kernel) (by decide +kernel) (by decide +kernel) rfl (by decide +kernel)
theorem zagn:AK (relab zagl (defScope (top 10))) ["feed"]:=⟨by decide +kernel⟩
theorem zak5:AG (relab zagl (defScope (top 10))) ["is_below"]:=⟨by decide +kernel⟩
theorem zago:AV (relab zagl (defScope (top 10))) ["feed", "ahead"]:=⟨by decide +kernel⟩
def spGate:Sp:=fun vs H Q _=>∃ (p:Addr) (g:Gt) (i n:Nat) (i' n':Int),vs=[.ref p,.int i',.int n']∧H p=some (.tup g.vs)∧i'=(i:Int)∧n'=(n:Int)∧g.ok i n∧∀ H',Ch [] H H'→Q (.bl true) H'
theorem scGate:FnScope ["thing", "ahead", "total"] ["thing", "ahead", "total"] (defScope (top 10)):=⟨rfl,rfl,rfl,by decide +kernel,rfl,by decide +kernel,by decide +kernel⟩
theorem zao1 {fa:Addr}{kvs:List (Key × V)} (F:Fun K "is_gate" "is_gate" (top 10) f fd) (Dis_below:DefOk P w K mg base CX0 k "is_below" ["thing", "bound"] spBelow)
  (m_FEED_COUNTS:mg "FEED_COUNTS" = some (.ref fa)) (hKD:KD P w K fa kvs) (hF:∀ w n,(w,n)∈FC→valV kvs (Sum.inr w)=some (.int n))
  (z_isinstance:mg "isinstance" = none) (z_tuple:mg "tuple" = none) (z_str:mg "str" = none) (z_len:mg "len" = none) (z_all:mg "all" = none):FnOk P w K mg base CX0 (k + 1) f fd ["thing", "ahead", "total"] spGate:=by
 have nd:=scGate.nd
 refine F.ok scGate (fun vs H Q E h=>by obtain ⟨p,g,i,n,i',n',rfl,_⟩:=h; rfl) (fun cdv A outer s H vs Q E hr h=>?_)
 obtain ⟨p,g,i,n,i',n',rfl,hp,rfl,rfl,hok,q⟩:=h
 refine ⟨_,(Pr.h (zaaf (zaax (zabx (zack (zabp (zabf (zaap zac0 (gl10.g 0 rfl) z_isinstance zabj (zaaa (qv av10 0 rfl) (zaaa (zach (v:=.ty "tuple") (gl10.g 3 rfl) z_tuple zacb rfl zacc zacd) zaab)) zabk zabl))) (zack (zaak zaa3 (zaap zaam (gl10.g 2 rfl) z_len PySem.boot_len (zaaa (qv av10 0 rfl) zaab zaac) zabb zabc) zaae (nomark _)) (zab8 (zabp (zabf (zaap zac0 (gl10.g 0 rfl) z_isinstance zabj (zaaa (zaao zaa9 (qv av10 0 rfl) zaae (fun _ _=>rfl)) (zaaa (zach (v:=.ty "str") (gl10.g 1 rfl) z_str zank rfl zanl zanm) zaab)) zabk zabl))))))) (zaag (zaal zaa5)) zaan) (zaaf (zaax (zaak zaa3 (zaao zaa9 (qv av10 0 rfl) zaae (fun _ _=>rfl)) zaaj (nomark _)) (zaag (zaal (zaaw (zaar zaa3 (zaap zaam (gl10.g 2 rfl) z_len PySem.boot_len (zaaa (qv av10 0 rfl) zaab zaac) zabb zabc) zaae (nomark _)) (zaaw (zaah Dis_below hr (gl10.g 4 rfl) pass0 (zaaa (zaao zaa9 (qv av10 0 rfl) zaae (fun _ _=>rfl)) (zaaa zaae zaab zaad) zaas) zaci) (zaau (zaah Dis_below hr (gl10.g 4 rfl) pass0 (zaaa (zaao zaa9 (qv av10 0 rfl) zaae (fun _ _=>rfl)) (zaaa (qv av10 2 rfl) zaab zaac) zaas) zaci)))))) zaan) (zaaf (zaax (zabx (zack (zaak zaet (zaao zaa9 (qv av10 0 rfl) zaae (fun _ _=>rfl)) (zadn (v:=.ref _) (gl10.g 5 rfl) m_FEED_COUNTS rfl zac8) rfl) (zab8 (zaak zaem (zaap zaam (gl10.g 2 rfl) z_len PySem.boot_len (zaaa (qv av10 0 rfl) zaab zaac) zabb zabc) (zaav zacx zaae (zagb (zadn (v:=.ref _) (gl10.g 5 rfl) m_FEED_COUNTS rfl zac8) (zaao zaa9 (qv av10 0 rfl) zaae (fun _ _=>rfl)) (fun _ _=>rfl))) (nomark _))))) (zaag (zaal zaa5)) zaan) (zaag (zaal (zaap (zai1 rfl) (gl10.g 6 rfl) z_all zann (zaaa (zadq rfl zagm (zakp (zabw zag6 (qv av10 0 rfl) (zab6 zaae) zaca)) (fun _ _ _ _ _=>(zaa1 (i:=0) zagm.nd rfl (Or.inl (zagn.k 0 rfl)) (Or.inr (zagn.k 0 rfl)))) (fun _ _ _ _ _=>zac7) (fun _ _ _ _ _=>(zaah Dis_below hr (zak5.g 0 rfl) pass0 (zaaa (qw zago 0 rfl) (zaaa (qw zago 1 rfl) zaab zaac) zaac) zaci))) zaab zaeh) zano zanp))))))),?_⟩
 (try dsimp only [cxOf])
 cases g with
 | inp =>
  have hv:=hF "in" 0 (by decide +kernel)
  have hp:H p=some (.tup [.str "in"]):=hp
  walk_at "rd"
  rw [hv]
  refine iteF ?_
  walk_at "rd"
  rename_i pt hpt
  refine zacw (zs:=[]) (by simp <;> omega) (by rw [zaai,cut1]; rfl) (by simp) fun ys H' c e=>?_
  subst e
  intro D hD
  exact ⟨D,[],rfl,zaai,q _ (((Ch.new hpt _).trans c).trans (Ch.new hD _))⟩
 | zero =>
  have hv:=hF "zero" 0 (by decide +kernel)
  have hp:H p=some (.tup [.str "zero"]):=hp
  walk_at "rd"
  rw [hv]
  refine iteF ?_
  walk_at "rd"
  rename_i pt hpt
  refine zacw (zs:=[]) (by simp <;> omega) (by rw [zaai,cut1]; rfl) (by simp) fun ys H' c e=>?_
  subst e
  intro D hD
  exact ⟨D,[],rfl,zaai,q _ (((Ch.new hpt _).trans c).trans (Ch.new hD _))⟩
 | one =>
  have hv:=hF "one" 0 (by decide +kernel)
  have hp:H p=some (.tup [.str "one"]):=hp
  walk_at "rd"
  rw [hv]
  refine iteF ?_
  walk_at "rd"
  rename_i pt hpt
  refine zacw (zs:=[]) (by simp <;> omega) (by rw [zaai,cut1]; rfl) (by simp) fun ys H' c e=>?_
  subst e
  intro D hD
  exact ⟨D,[],rfl,zaai,q _ (((Ch.new hpt _).trans c).trans (Ch.new hD _))⟩
 | not a =>
  have hv:=hF "not" 1 (by decide +kernel)
  have hp:H p=some (.tup [.str "not",.int a]):=hp
  have ha:a < i:=hok
  walk_at "rd"
  rw [hv]
  refine iteF ?_
  walk_at "rd"
  rename_i pt hpt
  refine zacw (zs:=[(a:Int)]) (by simp <;> omega) (by rw [zaai,cut1]; rfl) (by simp) fun ys H' c e=>?_
  subst e
  intro D hD
  exact ⟨D,[true],rfl,zaai,q _ (((Ch.new hpt _).trans c).trans (Ch.new hD _))⟩
 | and a b =>
  have hv:=hF "and" 2 (by decide +kernel)
  have hp:H p=some (.tup [.str "and",.int a,.int b]):=hp
  obtain ⟨ha,hb⟩:a < i∧b < i:=hok
  walk_at "rd"
  rw [hv]
  refine iteF ?_
  walk_at "rd"
  rename_i pt hpt
  refine zacw (zs:=[(a:Int),(b:Int)]) (by simp <;> omega) (by rw [zaai,cut1]; rfl) (by simp) fun ys H' c e=>?_
  subst e
  intro D hD
  exact ⟨D,[true,true],rfl,zaai,q _ (((Ch.new hpt _).trans c).trans (Ch.new hD _))⟩
 | or a b =>
  have hv:=hF "or" 2 (by decide +kernel)
  have hp:H p=some (.tup [.str "or",.int a,.int b]):=hp
  obtain ⟨ha,hb⟩:a < i∧b < i:=hok
  walk_at "rd"
  rw [hv]
  refine iteF ?_
  walk_at "rd"
  rename_i pt hpt
  refine zacw (zs:=[(a:Int),(b:Int)]) (by simp <;> omega) (by rw [zaai,cut1]; rfl) (by simp) fun ys H' c e=>?_
  subst e
  intro D hD
  exact ⟨D,[true,true],rfl,zaai,q _ (((Ch.new hpt _).trans c).trans (Ch.new hD _))⟩
 | xor a b =>
  have hv:=hF "xor" 2 (by decide +kernel)
  have hp:H p=some (.tup [.str "xor",.int a,.int b]):=hp
  obtain ⟨ha,hb⟩:a < i∧b < i:=hok
  walk_at "rd"
  rw [hv]
  refine iteF ?_
  walk_at "rd"
  rename_i pt hpt
  refine zacw (zs:=[(a:Int),(b:Int)]) (by simp <;> omega) (by rw [zaai,cut1]; rfl) (by simp) fun ys H' c e=>?_
  subst e
  intro D hD
  exact ⟨D,[true,true],rfl,zaai,q _ (((Ch.new hpt _).trans c).trans (Ch.new hD _))⟩
 | pick a b c =>
  have hv:=hF "pick" 3 (by decide +kernel)
  have hp:H p=some (.tup [.str "pick",.int a,.int b,.int c]):=hp
  obtain ⟨ha,hb,hc⟩:a < i∧b < i∧c < i:=hok
  walk_at "rd"
  rw [hv]
  refine iteF ?_
  walk_at "rd"
  rename_i pt hpt
  refine zacw (zs:=[(a:Int),(b:Int),(c:Int)]) (by simp <;> omega) (by rw [zaai,cut1]; rfl) (by simp) fun ys H' c e=>?_
  subst e
  intro D hD
  exact ⟨D,[true,true,true],rfl,zaai,q _ (((Ch.new hpt _).trans c).trans (Ch.new hD _))⟩
 | keep ff a =>
  have hp:H p=some (.tup [.str "keep",.int ff,.int a]):=hp
  obtain ⟨h1,h2,h3⟩:0≤ff∧ff < 2∧a < n:=hok
  walk_at "rd"
  exact q _ (Ch.refl _ _)
theorem av13:AF (defScope (top 13)) ["gate"]:=⟨by decide +kernel⟩
theorem gl13:AG (defScope (top 13)) ["list"]:=⟨by decide +kernel⟩
def Gt.feeds:Gt→List Nat
 | .inp=>[]
 | .zero=>[]
 | .one=>[]
 | .keep f a=>[a]
 | .not a=>[a]
 | .and a b=>[a,b]
 | .or a b=>[a,b]
 | .xor a b=>[a,b]
 | .pick a b c=>[a,b,c]
theorem freeN {H:Hp}{p r:Addr}{o:HO} (hp:H p=none) (hr:upd H p o r=none):H r=none:=by
 by_cases e:r=p
 ·rw [e]; exact hp
 ·rw [zabs e] at hr; exact hr
def nV (a:Nat):V:=.int (a:Int)
def spFeeds:Sp:=fun vs H Q _=>∃ (p:Addr) (g:Gt),vs=[.ref p]∧H p=some (.tup g.vs)∧∀ r H',Ch [] H H'→H r=none→H' r=some (.lst (g.feeds.map nV))→Q (.ref r) H'
theorem scFeeds:FnScope ["gate"] ["gate"] (defScope (top 13)):=⟨rfl,rfl,rfl,by decide +kernel,rfl,by decide +kernel,by decide +kernel⟩
theorem zamy (F:Fun K "feeds_of" "feeds_of" (top 13) f fd) (z_list:mg "list" = none):FnOk P w K mg base CX0 (k + 1) f fd ["gate"] spFeeds:=by
 have nd:=scFeeds.nd
 refine F.ok scFeeds (fun vs H Q E h=>by obtain ⟨p,g,rfl,_⟩:=h; rfl) (fun cdv A outer s H vs Q E hr h=>?_)
 obtain ⟨p,g,rfl,hp,q⟩:=h
 refine ⟨_,(Pr.h (zaaf (zaax (zaak zaa3 (zaao zaa9 (qv av13 0 rfl) zaae (fun _ _=>rfl)) zaaj (nomark _)) (zaag (zaal (zaa0 (zaaa (zaao zaa9 (qv av13 0 rfl) zaae (fun _ _=>rfl)) zaab zaas)))) zaan) (zaag (zaal (zabg zab9 (gl13.g 0 rfl) z_list zadi (zaaa (zabw zag6 (qv av13 0 rfl) (zab6 zaae) zaca) zaab zaas) zadj zadk))))),?_⟩
 (try dsimp only [cxOf])
 cases g with
 | keep ff a =>
  have hp:H p=some (.tup [.str "keep",.int ff,.int a]):=hp
  walk_at "rd"
  exact q _ _ (Ch.new (by assumption) _) (by assumption) zaai
 | inp =>
  have hp:H p=some (.tup [.str "in"]):=hp
  walk_at "rd"
  rename_i pt hpt r hr1
  exact q _ _ ((Ch.new hpt _).trans (Ch.new hr1 _)) (freeN hpt hr1) (by rw [zaai,cut1]; rfl)
 | zero =>
  have hp:H p=some (.tup [.str "zero"]):=hp
  walk_at "rd"
  rename_i pt hpt r hr1
  exact q _ _ ((Ch.new hpt _).trans (Ch.new hr1 _)) (freeN hpt hr1) (by rw [zaai,cut1]; rfl)
 | one =>
  have hp:H p=some (.tup [.str "one"]):=hp
  walk_at "rd"
  rename_i pt hpt r hr1
  exact q _ _ ((Ch.new hpt _).trans (Ch.new hr1 _)) (freeN hpt hr1) (by rw [zaai,cut1]; rfl)
 | not a =>
  have hp:H p=some (.tup [.str "not",.int a]):=hp
  walk_at "rd"
  rename_i pt hpt r hr1
  exact q _ _ ((Ch.new hpt _).trans (Ch.new hr1 _)) (freeN hpt hr1) (by rw [zaai,cut1]; rfl)
 | and a b =>
  have hp:H p=some (.tup [.str "and",.int a,.int b]):=hp
  walk_at "rd"
  rename_i pt hpt r hr1
  exact q _ _ ((Ch.new hpt _).trans (Ch.new hr1 _)) (freeN hpt hr1) (by rw [zaai,cut1]; rfl)
 | or a b =>
  have hp:H p=some (.tup [.str "or",.int a,.int b]):=hp
  walk_at "rd"
  rename_i pt hpt r hr1
  exact q _ _ ((Ch.new hpt _).trans (Ch.new hr1 _)) (freeN hpt hr1) (by rw [zaai,cut1]; rfl)
 | xor a b =>
  have hp:H p=some (.tup [.str "xor",.int a,.int b]):=hp
  walk_at "rd"
  rename_i pt hpt r hr1
  exact q _ _ ((Ch.new hpt _).trans (Ch.new hr1 _)) (freeN hpt hr1) (by rw [zaai,cut1]; rfl)
 | pick a b c =>
  have hp:H p=some (.tup [.str "pick",.int a,.int b,.int c]):=hp
  walk_at "rd"
  rename_i pt hpt r hr1
  exact q _ _ ((Ch.new hpt _).trans (Ch.new hr1 _)) (freeN hpt hr1) (by rw [zaai,cut1]; rfl)
def numsOf (t:Gt→Bool):List Gt→Nat→List Nat
 | [],_=>[]
 | g :: gs,i=>if t g then i :: numsOf t gs (i + 1) else numsOf t gs (i + 1)
def Gt.isIn:Gt→Bool
 | .inp=>true
 | _=>false
def Gt.isKeep:Gt→Bool
 | .keep _ _=>true
 | _=>false
theorem zad2 (t:Gt→Bool):∀ (a b:List Gt) (i:Nat),numsOf t (a++b) i=numsOf t a i++numsOf t b (i + a.length)
 | [],b,i=>by simp [numsOf]
 | g :: a,b,i=>by
  have:=zad2 t a b (i + 1)
  simp only [List.cons_append,numsOf,List.length_cons]
  rw [this,show i + 1 + a.length=i + (a.length + 1) by omega]
  split <;> simp
theorem zad3 (t:Gt→Bool) {gs:List Gt}{i:Nat}{g:Gt} (h:gs[i]?=some g):numsOf t (gs.take (i + 1)) 0=numsOf t (gs.take i) 0++if t g then [i] else []:=by
 have hi:i < gs.length:=(List.getElem?_eq_some_iff.mp h).1
 rw [List.take_add_one,h,zad2]
 simp only [Option.toList_some,numsOf,Nat.zero_add,List.length_take,Nat.min_eq_left (Nat.le_of_lt hi)]
theorem zadb (t:Gt→Bool):∀ (gs:List Gt) (i:Nat),(numsOf t gs i).length≤gs.length
 | [],_=>by simp [numsOf]
 | g :: gs,i=>by
  have:=zadb t gs (i + 1)
  simp only [numsOf,List.length_cons]
  split <;> simp <;> omega
end
theorem chFree {H H':Hp} (c:Ch [] H H') {r:Addr} (h:H' r=none):H r=none:=by
 cases e:H r with
 | none=>rfl
 | some o=>rw [c r o e (by simp)] at h; cases h
def fldsNet (gp op:Addr):List (Str × V):=[("gates",.ref gp),("outs",.ref op)]
theorem zacj (gp op:Addr):List.lookup (Str.ofString "gates") (fldsNet gp op)=some (.ref gp):=rfl
theorem zadr (gp op:Addr):List.lookup (Str.ofString "outs") (fldsNet gp op)=some (.ref op):=rfl
structure NetAt (C:Addr) (H:Hp) (nt gp op:Addr) (gs:List Gt) (xs:List V) (os:List Nat):Prop where
 ob:∃ dx,H nt=some (.ins C dx (fldsNet gp op))
 gt:H gp=some (.tup xs)
 gg:Gs H gs xs
 ot:H op=some (.tup (os.map nV))
section
variable {P:Program}{w:World}{K:PySem.W.Frag}{mg:Str→Option Value}{base:Heap}{f:Addr}{fd:FuncData}{k:Nat}
theorem zagp:∀ g:Gt,∃ (wd:Str) (rs:List V),g.vs=.str wd :: rs∧decide (V.str wd=V.str "in")=g.isIn
 | .inp=>⟨_,_,rfl,rfl⟩
 | .zero=>⟨_,_,rfl,rfl⟩
 | .one=>⟨_,_,rfl,rfl⟩
 | .keep _ _=>⟨_,_,rfl,rfl⟩
 | .not _=>⟨_,_,rfl,rfl⟩
 | .and _ _=>⟨_,_,rfl,rfl⟩
 | .or _ _=>⟨_,_,rfl,rfl⟩
 | .xor _ _=>⟨_,_,rfl,rfl⟩
 | .pick _ _ _=>⟨_,_,rfl,rfl⟩
theorem gl12:AG (defScope (top 12)) ["enumerate"]:=⟨by decide +kernel⟩
theorem av12:AF (defScope (top 12)) ["net"]:=⟨by decide +kernel⟩
def zah8:Scope:={ kind:=PySem.ScopeKind.function,names:=[ (PySem.Str.ofString ".0",PySem.NameKind.local),(PySem.Str.ofString "number",PySem.NameKind.local),(PySem.Str.ofString "gate",PySem.NameKind.local)],isGenerator:=false,isCoroutine:=false,more:=[]:PySem.Scope }
theorem zah9:CompOk zah8 (defScope (top 12)) (["number", "gate"]:List Str) (["net"]:List Str) [] (["number", "gate"]:List Str):=compOk rfl (by decide +kernel) (by decide +kernel) (by decide +kernel) (by decide +kernel) rfl (by decide +kernel)
theorem zagq:AK (relab zah8 (defScope (top 12))) ["number", "gate"]:=⟨by decide +kernel⟩
theorem zak6:AV (relab zah8 (defScope (top 12))) ["number", "gate"]:=⟨by decide +kernel⟩
def spIns (C:Addr):Sp:=fun vs H Q _=>∃ (nt gp op:Addr) (gs:List Gt) (xs:List V) (os:List Nat),vs=[.ref nt]∧NetAt C H nt gp op gs xs os∧gs.length≤1000∧∀ r H',Ch [] H H'→H r=none→H' r=some (.lst ((numsOf Gt.isIn gs 0).map nV))→Q (.ref r) H'
theorem scIns:FnScope ["net"] ["net"] (defScope (top 12)):=⟨rfl,rfl,rfl,by decide +kernel,rfl,by decide +kernel,by decide +kernel⟩
theorem zak7 {C:Addr} (F:Fun K "ins_of" "ins_of" (top 12) f fd) (cl:Cls K C) (nG:NoAttr K C "gates") (z_enumerate:mg "enumerate" = none):FnOk P w K mg base CX0 (k + 1) f fd ["net"] (spIns C):=by
 have nd:=scIns.nd
 refine F.ok scIns (fun vs H Q E h=>by obtain ⟨nt,gp,op,gs,xs,os,rfl,_⟩:=h; rfl) (fun cdv A outer s H vs Q E hr h=>?_)
 obtain ⟨nt,gp,op,gs,xs,os,rfl,⟨⟨dx,hn⟩,hg,hgs,ho⟩,hlen,q⟩:=h
 refine ⟨_,(Pr.h (zaag (zaal (zadq rfl zah9 (zage .tuple (gl12.g 0 rfl) z_enumerate (zaaa (zab7 (qv av12 0 rfl) rfl) zaab zaa4)) (fun _ _ _ _ _=>(zai4 K 2 rfl rfl (zabd (zaa1 (i:=0) zah9.nd rfl (Or.inl (zagq.k 0 rfl)) (Or.inr (zagq.k 0 rfl))) (zabd (zaa1 (i:=1) zah9.nd rfl (Or.inl (zagq.k 1 rfl)) (Or.inr (zagq.k 1 rfl))) zacn)))) (fun _ _ _ _ _=>(zagd (zaak zaa3 (zaao (zaef K rfl) (qw zak6 1 rfl) zaae (fun _ _=>rfl)) zaaj (nomark _)))) (fun _ _ _ _ _=>(qw zak6 0 rfl)))))),?_⟩
 (try dsimp only [cxOf])
 have fg:=zacj gp op
 have hx:=hgs.len
 walk_at "rd"
 refine zahg xs (fun i ys σ H'=>Ch [] H H'∧ys=(numsOf Gt.isIn (gs.take i) 0).map nV∧∃ u v,σ=[u,v]) (by rw [sizeLine_eq]; omega) ⟨Ch.refl _ _,rfl,_,_,rfl⟩ ?_ ?_ ?_
 ·rintro i ys σ H' hi ⟨c,rfl,_⟩
  refine ⟨?_,SqT.of (c.get hg (by simp))⟩
  have:=zadb Gt.isIn (gs.take i) 0
  rw [List.length_take] at this
  rw [List.length_map]; omega
 ·rintro i ys σ H' x T hx' ⟨c,rfl,u,v,rfl⟩ hT
  have hi:i < gs.length:=by rw [← hx]; exact (List.getElem?_eq_some_iff.mp hx').1
  obtain ⟨g,hgi⟩:∃ g,gs[i]?=some g:=⟨_,List.getElem?_eq_getElem hi⟩
  obtain ⟨p,ep,hp⟩:=hgs.at_ i g hgi
  rw [hx'] at ep
  cases ep
  have hp1:H' p=some (.tup g.vs):=c.get hp (by simp)
  have nt:=zad3 Gt.isIn hgi
  obtain ⟨wd,rs,ev,hd⟩:=zagp g
  rw [ev] at hp1
  walk_at "rd"
  rw [hd]
  cases ht:Gt.isIn g with
  | true =>
   refine iteT ?_
   walk_at "rd"
   refine ⟨?_,_,_,rfl⟩
   rw [nt,ht]; simp [nV]
  | false =>
   refine iteF ?_
   refine ⟨c.trans (Ch.new hT _),?_,_,_,rfl⟩
   rw [nt,ht]; simp
 ·rintro ys σ H' ⟨c,rfl,_⟩
  intro D hD
  refine q _ _ (c.trans (Ch.new hD _)) (chFree c hD) ?_
  rw [zaai,hx,List.take_length]
theorem gl11m0:AG (defScope (inClass (top 11) 0)) ["enumerate", "is_gate", "len", "is_below", "tuple"]:=⟨by decide +kernel⟩
theorem av11m0:AF (defScope (inClass (top 11) 0)) ["self", "gates", "outs", "number", "gate", "out"]:=⟨by decide +kernel⟩
def spNet (C:Addr):Sp:=fun vs H Q _=>∃ (nt dx gl ol:Addr) (gs:List Gt) (xs:List V) (os:List Nat),vs=[.ref nt,.ref gl,.ref ol]∧H nt=some (.ins C dx [])∧H gl=some (.lst xs)∧Gs H gs xs∧Oks gs∧gs.length≤1000 ∧
 H ol=some (.lst (os.map nV))∧(∀ o∈os,o < gs.length)∧os.length≤1000∧∀ gp op H',Ch [nt] H H'→NetAt C H' nt gp op gs xs os→Q .non H'
theorem scNet:FnScope ["self", "gates", "outs", "number", "gate", "out"] ["self", "gates", "outs"] (defScope (inClass (top 11) 0)):=⟨rfl,rfl,rfl,by decide +kernel,rfl,by decide +kernel,by decide +kernel⟩
theorem zaq8 {C:Addr} (F:Fun K "__init__" "Net.__init__" (inClass (top 11) 0) f fd) (cl:Cls K C) (nG:NoAttr K C "gates") (nO:NoAttr K C "outs") (Dis_gate:DefOk P w K mg base CX0 k "is_gate" ["thing", "ahead", "total"] spGate)
  (Dis_below:DefOk P w K mg base CX0 k "is_below" ["thing", "bound"] spBelow) (z_enumerate:mg "enumerate" = none) (z_len:mg "len" = none) (z_tuple:mg "tuple" = none):FnOk P w K mg base CX0 (k + 1) f fd ["self", "gates", "outs"] (spNet C):=by
 have nd:=scNet.nd
 refine F.ok scNet (fun vs H Q E h=>by obtain ⟨nt,dx,gl,ol,gs,xs,os,rfl,_⟩:=h; rfl) (fun cdv A outer s H vs Q E hr h=>?_)
 obtain ⟨nt,dx,gl,ol,gs,xs,os,rfl,hn,hg,hgs,hok,hlen,ho,hos,hol,q⟩:=h
 refine ⟨_,(Pr.h (zaaf (zaby PassesOwn.never rfl (zage .list (gl11m0.g 0 rfl) z_enumerate (zaaa (qv av11m0 1 rfl) zaab zaac)) (zad0 rfl (zabd (zaa1 (i:=3) nd rfl (av11m0.l 3 rfl)) (zabd (zaa1 (i:=4) nd rfl (av11m0.l 4 rfl)) zacn))) (zaag (zaax (zabp (zabf (zaah Dis_gate hr (gl11m0.g 1 rfl) pass0 (zaaa (qv av11m0 4 rfl) (zaaa (qv av11m0 3 rfl) (zaaa (zaap zaam (gl11m0.g 2 rfl) z_len PySem.boot_len (zaaa (qv av11m0 1 rfl) zaab zaac) zabb zabc) zaab zab0) zaac) zaac) zae5))) (zaag zahi) zaan))) (zaaf (zaby PassesOwn.never rfl (zac6 (qv av11m0 2 rfl)) (zaa1 (i:=5) nd rfl (av11m0.l 5 rfl)) (zaag (zaax (zabp (zabf (zaah Dis_below hr (gl11m0.g 3 rfl) pass0 (zaaa (qv av11m0 5 rfl) (zaaa (zaap zaam (gl11m0.g 2 rfl) z_len PySem.boot_len (zaaa (qv av11m0 1 rfl) zaab zaac) zabb zabc) zaab zab0) zaac) zaci))) (zaag zahi) zaan))) (zaaf (zakq (qv av11m0 0 rfl) (zabg zabo (gl11m0.g 4 rfl) z_tuple zacb (zaaa (qv av11m0 1 rfl) zaab zaac) zacc zacd) rfl) (zaag (zakq (qv av11m0 0 rfl) (zabg zabo (gl11m0.g 4 rfl) z_tuple zacb (zaaa (qv av11m0 2 rfl) zaab zaac) zacc zacd) rfl)))))),?_⟩
 (try dsimp only [cxOf])
 have hx:=hgs.len
 walk_at "rd"
 refine zakt (xs:=xs) (fun i σ H'=>Ch [] H H'∧∃ u v r,σ=[some (.ref nt),some (.ref gl),some (.ref ol),u,v,r]) ⟨Ch.refl _ _,_,_,_,rfl⟩ ?_ ?_ ?_
 ·rintro i σ H' hi ⟨c,_⟩
  exact SqL.of (c.get hg (by simp))
 ·rintro i x σ H' T hx' ⟨c,u,v,r,rfl⟩ hT
  have hi:i < gs.length:=by rw [← hx]; exact (List.getElem?_eq_some_iff.mp hx').1
  obtain ⟨g,hgi⟩:∃ g,gs[i]?=some g:=⟨_,List.getElem?_eq_getElem hi⟩
  obtain ⟨p,ep,hp⟩:=hgs.at_ i g hgi
  rw [hx'] at ep
  cases ep
  have hp1:H' p=some (.tup g.vs):=c.get hp (by simp)
  have hg1:H' gl=some (.lst xs):=c.get hg (by simp)
  have hok1:g.ok i xs.length:=by rw [hx]; exact hok i g hgi
  walk_at "rd"
 ·rintro σ H1 ⟨c1,u,v,r,rfl⟩
  have ho1:H1 ol=some (.lst (os.map nV)):=c1.get ho (by simp)
  have hg1:H1 gl=some (.lst xs):=c1.get hg (by simp)
  walk_at "rd"
  refine zaer (xs:=os.map nV) (fun i σ H'=>Ch [] H H'∧∃ u v r,σ=[some (.ref nt),some (.ref gl),some (.ref ol),u,v,r]) ⟨c1,_,_,_,rfl⟩ ?_ ?_ ?_
  ·rintro i σ H' hi ⟨c,_⟩
   exact SqL.of (c.get ho (by simp))
  ·rintro i x σ H' hx' ⟨c,u,v,r,rfl⟩
   obtain ⟨o,ho',rfl⟩:∃ o∈os,x=nV o:=by
    rw [List.getElem?_map] at hx'
    obtain ⟨z,h1,h2⟩:=Option.map_eq_some_iff.mp hx'
    exact ⟨z,List.mem_of_getElem? h1,h2.symm⟩
   have:=hos o ho'
   have hg2:H' gl=some (.lst xs):=c.get hg (by simp)
   unfold nV
   walk_at "rd"
  ·rintro σ H2 ⟨c2,u,v,r,rfl⟩
   have ho2:H2 ol=some (.lst (os.map nV)):=c2.get ho (by simp)
   have hg2:H2 gl=some (.lst xs):=c2.get hg (by simp)
   have hn2:H2 nt=some (.ins C dx []):=c2.get hn (by simp)
   walk_at "rd"
   rename_i l1 hl1 l2 hl2
   (try refine ⟨by show 1 < 1000; decide,?_⟩)
   have n1:l1≠nt:=(zaa7 hn2 hl1).symm
   have n2:l2≠nt:=by
    intro z
    rw [z,zaai] at hl2
    cases hl2
   have cF:Ch [nt] H (upd (upd (upd (upd H2 l1 (.tup xs)) nt (.ins C dx (putF "gates" (.ref l1) []))) l2 (.tup (os.map nV))) nt (.ins C dx (putF "outs" (.ref l2) (putF "gates" (.ref l1) [])))) :=
    ((((Ch.wk c2).trans (Ch.new hl1 _)).trans Ch.put).trans (Ch.new hl2 _)).trans Ch.put
   refine q l1 l2 _ cF ⟨⟨dx,zaai⟩,?_,hgs.tu (Tu.ch cF hn (fun xs z=>by cases z)),?_⟩
   ·exact zahe n1 (zaba hl2 (zahe n1 zaai))
   ·exact zahe n2 zaai
end
end

section
def spNext (K:PySem.W.Frag):Sp:=fun vs H Q _=>∃ (a b:Addr) (ns:List Int) (c:Int),vs=[.ref a,.ref b]∧Scr K H a ns∧H b=some (.lst [.int c])∧0≤c∧c < 2 ^ 60 ∧
 ∀ (n:Int) (H':Hp),0≤n→n < 2147483629→Ch [b] H H'→H' b=some (.lst [.int (c + 1)])→Q (.int n) H'
theorem zai9 {α:Type} (x:α):∀ n:Nat,(List.replicate n [x]).flatten=List.replicate n x
 | 0=>rfl
 | n + 1=>by rw [List.replicate_succ,List.flatten_cons,zai9 x n,List.replicate_succ]; rfl
section
variable {P:Program}{w:World}{K:PySem.W.Frag}{mg:Str→Option Value}{base:Heap}{f:Addr}{fd:FuncData}{k:Nat}
theorem av32:AF (defScope (top 32)) ["_law_script", "_law_at", "_law_cell", "_law_figures", "_law_k", "_law_m"]:=⟨by decide +kernel⟩
theorem gl32:AG (defScope (top 32)) ["len", "range"]:=⟨by decide +kernel⟩
theorem scNext:FnScope ["_law_script", "_law_at", "_law_cell", "_law_figures", "_law_k", "_law_m"] ["_law_script", "_law_at"] (defScope (top 32)):=⟨rfl,rfl,rfl,by decide +kernel,rfl,by decide +kernel,by decide +kernel⟩
theorem zao2 (F:Fun K "_law_next" "_law_next" (top 32) f fd) (z_len:mg "len" = none) (z_range:mg "range" = none) :
  FnOk P w K mg base CX0 (k + 1) f fd ["_law_script", "_law_at"] (spNext K):=by
 have nd:=scNext.nd
 refine F.ok scNext (fun vs H Q E h=>?_) (fun cdv A outer s H vs Q E hr h=>?_)
 ·obtain ⟨a,b,ns,c,rfl,_⟩:=h
  rfl
 obtain ⟨a,b,ns,c,rfl,hS,hb,h0,h1,q⟩:=h
 refine ⟨_,(Pr.h (zaaf (zac4 (zaav zacx (zaao zaaq (qv av32 1 rfl) zaae (fun _ _=>rfl)) zaae) (zad8 (qv av32 1 rfl) zaae zadm)) (zaaf (zaat (i:=2) nd rfl (av32.l 2 rfl) zaae) (zaaz (zaax (zaak zaoa (zaap zaam (gl32.g 0 rfl) z_len PySem.boot_len (zaaa (qv av32 0 rfl) zaab zaac) zabb zabc) zaae (nomark _)) (zaag (zaat (i:=2) nd rfl (av32.l 2 rfl) (zaao zaaq (qv av32 0 rfl) (zaav zabn (zaao zaaq (qv av32 1 rfl) zaae (fun _ _=>rfl)) (zaap zaam (gl32.g 0 rfl) z_len PySem.boot_len (zaaa (qv av32 0 rfl) zaab zaac) zabb zabc)) (fun _ _=>rfl)))) zaan) (zaaz (zaax (zabx (zac1 (zaak zaoa (zaap zaam (gl32.g 0 rfl) z_len PySem.boot_len (zaaa (qv av32 0 rfl) zaab zaac) zabb zabc) zaae (nomark _)) (zacq (zaak zaa3 (zaav zabn (zaao zaaq (qv av32 0 rfl) zaae (fun _ _=>rfl)) zaae) zaae (nomark _))))) (zaaf (zaat (i:=3) nd rfl (av32.l 3 rfl) (qv av32 2 rfl)) (zaaf (zaby PassesOwn.never rfl (zacu (gl32.g 1 rfl) z_range (zaaa (zaav zabn (zaav zab3 (zaao zaaq (qv av32 1 rfl) zaae (fun _ _=>rfl)) (zaap zaam (gl32.g 0 rfl) z_len PySem.boot_len (zaaa (qv av32 0 rfl) zaab zaac) zabb zabc)) zaae) zaab zabh)) (zaa1 (i:=4) nd rfl (av32.l 4 rfl)) (zaag (zaat (i:=3) nd rfl (av32.l 3 rfl) (zaav zab3 (qv av32 3 rfl) zaae)))) (zaag (zaax (zabx (zack (zaak zad7 (qv av32 3 rfl) (zaay (zaaa zaae (zaaa (zani zanc zaae) zaab zaf0) zaad)) rfl) (zab8 (zaak zajf (zaao zaaq (qv av32 1 rfl) zaae (fun _ _=>rfl)) (zaap zaam (gl32.g 0 rfl) z_len PySem.boot_len (zaaa (qv av32 0 rfl) zaab zaac) zabb zabc) (nomark _))))) (zaag (zaal (zaav zabn (qv av32 3 rfl) zaae))) zaan)))) zaan) (zaaf (zaat (i:=5) nd rfl (av32.l 5 rfl) (zaav zabn (zaav zafx (zaav zacx (zaav zacx (zaav zabn (qv av32 2 rfl) zaae) (zaav zafx (zaav zafx (zaao zaaq (qv av32 1 rfl) zaae (fun _ _=>rfl)) (zaao zaaq (qv av32 1 rfl) zaae (fun _ _=>rfl))) zaae)) zaae) zaae) zaae)) (zaaf (zaat (i:=5) nd rfl (av32.l 5 rfl) (zaav zabn (zaav zafx (qv av32 5 rfl) (qv av32 5 rfl)) zaae)) (zaag (zaal (zaav zabn (zaav zafx (zaav zacx (qv av32 5 rfl) (zaav zafx (zaao zaaq (qv av32 1 rfl) zaae (fun _ _=>rfl)) zaae)) zaae) zaae)))))))))),?_⟩
 have h63:ns.length≤63:=hS.1
 (try dsimp only [cxOf])
 walk_at "rd"
 refine zaa6 (fun σ H'=>∃ n:Int,σ=[some (.ref a),some (.ref b),some (.int n),none,none,none]∧Ch [b] H H'∧H' b=some (.lst [.int (c + 1)])) ?_ ?_
 ·walk_at "rd"
  refine ite2 (fun hc=>?_) (fun hc=>?_)
  ·have hc':0 < (ns.length:Int):=by simpa using hc
   have e1:0≤(c + 1) % (ns.length:Int):=Int.emod_nonneg _ (by omega)
   have e2:(c + 1) % (ns.length:Int) < (ns.length:Int):=Int.emod_lt_of_pos _ hc'
   obtain ⟨n,hn⟩:=zaiy e1 e2
   walk_at "rd"
  ·walk_at "rd"
 ·rintro σ H1 ⟨n,rfl,c1,b1⟩
  have hS1:Scr K H1 a ns:=hS.ch hb c1
  refine zaa6 (fun σ H'=>∃ u v w,σ=[some (.ref a),some (.ref b),some (.int n),u,v,w]∧Ch [b] H H'∧H' b=some (.lst [.int (c + 1)])) ?_ ?_
  ·walk_at "rd"
   refine ite2 (fun hc=>?_) (fun hc=>iteF ?_)
   ·have hc':0 < (ns.length:Int):=by simpa using hc
    obtain ⟨n0,hn0⟩:=zaiy (ns:=ns) (i:=0) (by omega) hc'
    walk_at "rd"
    refine ite2 (fun hd=>?_) (fun hd=>?_)
    ·walk_at "rd"
     refine zac3 (fun i σ H'=>H'=H1∧∃ g kk,σ=[some (.ref a),some (.ref b),some (.int n),some (.int g),kk,none]) ⟨rfl,_,_,rfl⟩ ?_ ?_
     ·rintro i σ H' hi ⟨rfl,g,kk,rfl⟩
      walk_at "rd"
     ·rintro σ H' ⟨rfl,g,kk,rfl⟩
      walk_at "rd"
      refine ite2 (fun hd=>iteT ?_) (fun hd=>?_)
      ·walk_at "rd"
       exact q _ _ (Int.emod_nonneg _ (by decide)) (Int.lt_of_lt_of_le (Int.emod_lt_of_pos _ (by decide)) (by decide)) (c1.trans (Ch.new (by assumption) _)) (by walk_at "get")
      ·walk_at "rd"
       refine ite2 (fun he=>?_) (fun he=>?_)
       ·walk_at "rd"
        exact q _ _ (Int.emod_nonneg _ (by decide)) (Int.lt_of_lt_of_le (Int.emod_lt_of_pos _ (by decide)) (by decide)) (c1.trans (Ch.new (by assumption) _)) (by walk_at "get")
       ·walk_at "rd"
    ·walk_at "rd"
   ·walk_at "rd"
  ·rintro σ H2 ⟨u,v,w,rfl,c2,b2⟩
   walk_at "rd"
   exact q _ _ (Int.emod_nonneg _ (by decide)) (Int.emod_lt_of_pos _ (by decide)) c2 b2
end
theorem Gs.push {H:Hp}{gs:List Gt}{xs:List V}{gl p:Addr}{g:Gt}{ys:List V} (h:Gs H gs xs) (hg:H gl=some (.lst ys)) (hp:H p=some (.tup g.vs)):Gs (upd H gl (.lst (xs++[.ref p]))) (gs++[g]) (xs++[.ref p]):=by
 have t:Tu H (upd H gl (.lst (xs++[.ref p]))):=Tu.lst Ch.put hg
 refine ⟨by simp [h.len],fun i g' e=>?_⟩
 by_cases hi:i < gs.length
 ·rw [List.getElem?_append_left hi] at e
  obtain ⟨p',h1,h2⟩:=h.at_ i g' e
  exact ⟨p',by rw [List.getElem?_append_left (by rw [h.len]; exact hi)]; exact h1,t _ _ h2⟩
 ·rw [List.getElem?_append_right (by omega)] at e
  have hi0:i - gs.length=0:=by
   rcases Nat.eq_zero_or_pos (i - gs.length) with z | z
   ·exact z
   ·rw [List.getElem?_eq_none (by simp; omega)] at e; cases e
  rw [hi0] at e
  cases e
  refine ⟨p,?_,t _ _ hp⟩
  rw [List.getElem?_append_right (by rw [h.len]; omega),h.len,hi0]; rfl
theorem Gs.set {H:Hp}{gs:List Gt}{xs:List V}{gl p:Addr}{g:Gt}{ys:List V}{j:Nat} (h:Gs H gs xs) (hg:H gl=some (.lst ys)) (hp:H p=some (.tup g.vs)):Gs (upd H gl (.lst (xs.set j (.ref p)))) (gs.set j g) (xs.set j (.ref p)):=by
 have t:Tu H (upd H gl (.lst (xs.set j (.ref p)))):=Tu.lst Ch.put hg
 refine ⟨by simp [h.len],fun i g' e=>?_⟩
 rw [List.getElem?_set] at e ⊢
 split at e
 ·split at e
  ·cases e
   rename_i h1 h2
   refine ⟨p,?_,t _ _ hp⟩
   rw [if_pos h1,if_pos (by rw [h.len]; exact h2)]
  ·cases e
 ·rename_i h1
  obtain ⟨p',h2,h3⟩:=h.at_ i g' e
  exact ⟨p',by rw [if_neg h1]; exact h2,t _ _ h3⟩
theorem Gt.ok_mono {g:Gt}{i n m:Nat} (h:g.ok i n) (hm:n≤m):g.ok i m:=by
 cases g <;> simp only [Gt.ok] at * <;> first | trivial | omega
theorem Oks.push {gs:List Gt}{g:Gt} (h:Oks gs) (hg:g.ok gs.length (gs.length + 1)):Oks (gs++[g]):=by
 intro i g' e
 rw [List.length_append,List.length_singleton]
 by_cases hi:i < gs.length
 ·rw [List.getElem?_append_left hi] at e
  exact Gt.ok_mono (h i g' e) (by omega)
 ·rw [List.getElem?_append_right (by omega)] at e
  have hi0:i - gs.length=0:=by
   rcases Nat.eq_zero_or_pos (i - gs.length) with z | z
   ·exact z
   ·rw [List.getElem?_eq_none (by simp; omega)] at e; cases e
  rw [hi0] at e
  cases e
  rw [show i=gs.length by omega]; exact hg
theorem Oks.set {gs:List Gt}{g:Gt}{j:Nat} (h:Oks gs) (hg:g.ok j gs.length):Oks (gs.set j g):=by
 intro i g' e
 rw [List.length_set]
 rw [List.getElem?_set] at e
 split at e
 ·split at e
  ·cases e
   rename_i h1 _
   rw [← h1]; exact hg
  ·cases e
 ·exact h i g' e
theorem zaf5 {t:Gt→Bool}{g g':Gt}:∀ {gs:List Gt}{j:Nat},gs[j]?=some g→t g=t g'→(gs.set j g').countP t=gs.countP t
 | [],_,h,_=>by simp at h
 | a :: gs,0,h,e=>by
  simp at h
  subst h
  simp [List.countP_cons,e]
 | a :: gs,j + 1,h,e=>by
  have:=zaf5 (gs:=gs) (j:=j) (by simpa using h) e
  simp [List.countP_cons,this]
def WS:List Str:=["and", "or", "xor", "pick", "not", "and", "xor", "or", "zero", "one"]
def arW (x:Str):Nat:=if x = "zero" then 0 else if x = "one" then 0 else if x = "not" then 1 else if x = "pick" then 3 else 2
theorem mkG {x:Str} (hx:x∈WS) {fs:List Nat} (hl:fs.length=arW x) {i:Nat} (hf:∀ a∈fs,a < i):∃ g:Gt,g.vs=.str x :: fs.map nV∧g.ok i (i + 1)∧g.isIn=false∧g.isKeep=false:=by
 have two:∀ {fs:List Nat},fs.length=2→∃ a b,fs=[a,b]:=fun {fs} h=>by
  match fs,h with
  | [a,b],_=>exact ⟨a,b,rfl⟩
 have d2:∀ {y:Str},arW y=2→fs.length=arW y→∃ a b,fs=[a,b]:=fun h1 h2=>two (h2.trans h1)
 simp only [WS,List.mem_cons,List.not_mem_nil,or_false] at hx
 rcases hx with rfl | rfl | rfl | rfl | rfl | rfl | rfl | rfl | rfl | rfl
 ·obtain ⟨a,b,rfl⟩:=d2 (by decide +kernel) hl
  exact ⟨.and a b,rfl,⟨hf a (by simp),hf b (by simp)⟩,rfl,rfl⟩
 ·obtain ⟨a,b,rfl⟩:=d2 (by decide +kernel) hl
  exact ⟨.or a b,rfl,⟨hf a (by simp),hf b (by simp)⟩,rfl,rfl⟩
 ·obtain ⟨a,b,rfl⟩:=d2 (by decide +kernel) hl
  exact ⟨.xor a b,rfl,⟨hf a (by simp),hf b (by simp)⟩,rfl,rfl⟩
 ·have hl:fs.length=3:=hl.trans (by decide +kernel)
  match fs,hl with
  | [a,b,c],_=>exact ⟨.pick a b c,rfl,⟨hf a (by simp),hf b (by simp),hf c (by simp)⟩,rfl,rfl⟩
 ·have hl:fs.length=1:=hl.trans (by decide +kernel)
  match fs,hl with
  | [a],_=>exact ⟨.not a,rfl,hf a (by simp),rfl,rfl⟩
 ·obtain ⟨a,b,rfl⟩:=d2 (by decide +kernel) hl
  exact ⟨.and a b,rfl,⟨hf a (by simp),hf b (by simp)⟩,rfl,rfl⟩
 ·obtain ⟨a,b,rfl⟩:=d2 (by decide +kernel) hl
  exact ⟨.xor a b,rfl,⟨hf a (by simp),hf b (by simp)⟩,rfl,rfl⟩
 ·obtain ⟨a,b,rfl⟩:=d2 (by decide +kernel) hl
  exact ⟨.or a b,rfl,⟨hf a (by simp),hf b (by simp)⟩,rfl,rfl⟩
 ·have hl:fs.length=0:=hl.trans (by decide +kernel)
  match fs,hl with
  | [],_=>exact ⟨.zero,rfl,trivial,rfl,rfl⟩
 ·have hl:fs.length=0:=hl.trans (by decide +kernel)
  match fs,hl with
  | [],_=>exact ⟨.one,rfl,trivial,rfl,rfl⟩
end

section
def Gt.src:Gt→Bool
 | .inp=>true
 | .keep _ _=>true
 | _=>false
def Gt.wd:Gt→Str
 | .inp => "in"
 | .zero => "zero"
 | .one => "one"
 | .keep _ _ => "keep"
 | .not _ => "not"
 | .and _ _ => "and"
 | .or _ _ => "or"
 | .xor _ _ => "xor"
 | .pick _ _ _ => "pick"
def Gt.ks:Gt→List Key
 | .inp=>[.inr "in"]
 | .zero=>[.inr "zero"]
 | .one=>[.inr "one"]
 | .keep f a=>[.inr "keep",.inl f,.inl a]
 | .not a=>[.inr "not",.inl a]
 | .and a b=>[.inr "and",.inl a,.inl b]
 | .or a b=>[.inr "or",.inl a,.inl b]
 | .xor a b=>[.inr "xor",.inl a,.inl b]
 | .pick a b c=>[.inr "pick",.inl a,.inl b,.inl c]
theorem Gt.vs_ks (g:Gt):g.vs=g.ks.map kV:=by cases g <;> rfl
theorem Gt.ks_wd (g:Gt):g.ks.head?=some (.inr g.wd):=by cases g <;> rfl
theorem Gt.wd_inj {g h:Gt} (e:g.wd=h.wd):g.ctorIdx=h.ctorIdx:=by
 cases g <;> cases h <;> first | rfl | (exfalso; revert e; simp only [Gt.wd]; decide +kernel)
theorem Gt.ks_inj {g h:Gt} (e:g.ks=h.ks):g=h:=by
 have e1:g.wd=h.wd:=by
  have:=congrArg List.head? e
  rw [Gt.ks_wd,Gt.ks_wd] at this
  exact Sum.inr.inj (Option.some.inj this)
 have e2:=Gt.wd_inj e1
 cases g <;> cases h <;> first | rfl | (exfalso; revert e2; simp [Gt.ctorIdx]; done) | (simp only [Gt.ks,List.cons.injEq,Sum.inl.injEq,Int.natCast_inj,and_true,true_and] at e; simp [e])
theorem Gt.vs_inj {g h:Gt} (e:g.vs=h.vs):g=h:=by
 refine Gt.ks_inj ?_
 rw [Gt.vs_ks,Gt.vs_ks] at e
 refine List.map_inj_right (f:=kV) (fun a b z=>?_) |>.mp e
 cases a <;> cases b <;> simp [kV] at z <;> simp [z]
theorem Gt.vs_sca (g:Gt):ScaL g.vs:=by
 refine ⟨fun z hz=>?_⟩
 rw [Gt.vs_ks] at hz
 obtain ⟨k,_,rfl⟩:=List.mem_map.mp hz
 exact zaq5 k
def isZ (gs:List Gt) (n:Nat):Bool:=decide (gs[n]?=some .zero)
def isO (gs:List Gt) (n:Nat):Bool:=decide (gs[n]?=some .one)
def opsd (gs:List Gt) (a b:Nat):Bool:=decide (gs[a]?=some (.not b)) || decide (gs[b]?=some (.not a))
end

section
structure GA (H:Hp) (gl:Addr) (al:List Gt):Prop where
 ex:∃ xs,H gl=some (.lst xs)∧Gs H al xs
theorem GA.ch {H H':Hp}{gl:Addr}{al:List Gt} (g:GA H gl al) (c:Ch [] H H'):GA H' gl al:=let ⟨xs,a,b⟩:=g.ex; ⟨xs,c.get a (by simp),b.tu (Tu.same c)⟩
theorem GA.at {H:Hp}{gl:Addr}{al:List Gt} (r:GA H gl al) {n:Nat}{g:Gt} (h:al[n]?=some g):∃ xs p,H gl=some (.lst xs)∧atI xs (n:Int)=some (.ref p)∧H p=some (.tup g.vs)∧n < xs.length:=by
 obtain ⟨xs,hg,gg⟩:=r.ex
 obtain ⟨p,ep,hp⟩:=gg.at_ n g h
 exact ⟨xs,p,hg,zab4 ep,hp,(List.getElem?_eq_some_iff.mp ep).1⟩
theorem zaq9 (g h:Gt):decide (g.vs=h.vs)=decide (g=h):=by
 by_cases e:g=h
 ·subst e; simp
 ·rw [decide_eq_false e,decide_eq_false fun z=>e (Gt.vs_inj z)]
theorem zabr {gs:List Gt}{n:Nat}{g h:Gt} (e:gs[n]?=some g):decide (gs[n]?=some h)=decide (g.vs=h.vs):=by
 rw [e,zaq9]
 by_cases z:g=h <;> simp [z]
theorem zae6 (a b:Nat):decide (V.int (a:Int)=V.int (b:Int))=decide (a=b):=by
 by_cases e:a=b
 ·subst e; simp
 ·rw [decide_eq_false e,decide_eq_false fun z=>e (by injection z with z; omega)]
theorem zabz {a b:Str} (h:decide (V.str a=V.str b)=true):a=b:=V.str.inj (of_decide_eq_true h)
theorem zabm {a b:Str} (h:¬ decide (V.str a=V.str b)=true):¬ a=b:=fun z=>h (decide_eq_true (by rw [z]))
local macro_rules | `(tactic| walk_at "user")=>`(tactic| first
 | (apply GA.ch; (focus with_reducible assumption); (focus walk_at "ch"))
 | exact Gt.vs_sca _)
section
variable {P:Program}{w:World}{K:PySem.W.Frag}{mg:Str→Option Value}{base:Heap}{f:Addr}{fd:FuncData}{k:Nat}
theorem zabe:Nd "is_one" := by decide +kernel
theorem zaa8:Nd "is_zero" := by decide +kernel
theorem zabi:Nd "are_opposed" := by decide +kernel
theorem av15:AF (defScope (top 15)) ["gates", "number"]:=⟨by decide +kernel⟩
theorem zaf6:FnScope ["gates", "number"] ["gates", "number"] (defScope (top 15)):=⟨rfl,rfl,rfl,by decide +kernel,rfl,by decide +kernel,by decide +kernel⟩
def spIsG (t:List Gt→Nat→Bool):Sp:=fun vs H Q _=>∃ (gl:Addr) (al:List Gt) (n:Nat),vs=[.ref gl,.int (n:Int)]∧GA H gl al∧n < al.length∧∀ H',Ch [] H H'→Q (.bl (t al n)) H'
theorem zajt (F:Fun K "is_zero" "is_zero" (top 15) f fd):FnOk P w K mg base CX0 (k + 1) f fd ["gates", "number"] (spIsG isZ):=by
 have nd:=zaf6.nd
 refine F.ok zaf6 (fun vs H Q E h=>by obtain ⟨gl,al,n,rfl,_⟩:=h; rfl) (fun cdv A outer s0 H vs Q E hr h=>?_)
 obtain ⟨gl,al,n,rfl,r,hn,q⟩:=h
 refine ⟨_,(Pr.h (zaag (zaal (zaar (zacv hr.units) (zaao zaaq (qv av15 0 rfl) (qv av15 1 rfl) (fun _ _=>rfl)) (zaay (zaaa zaaj zaab zaad)) (nomark _))))),?_⟩
 (try dsimp only [cxOf])
 obtain ⟨g,eg⟩:∃ g,al[n]?=some g:=⟨_,List.getElem?_eq_getElem hn⟩
 obtain ⟨xs,p,hg,at1,hp,lx⟩:=r.at eg
 have sc:=Gt.vs_sca g
 have sc2:=Gt.vs_sca .zero
 have q:∀ H',Ch [] H H'→Q (.bl (decide (al[n]?=some .zero))) H':=q
 rw [zabr eg] at q
 walk_at "rd"
 rename_i T hT
 exact q _ (Ch.new hT _)
theorem av16:AF (defScope (top 16)) ["gates", "number"]:=⟨by decide +kernel⟩
theorem zahm:FnScope ["gates", "number"] ["gates", "number"] (defScope (top 16)):=⟨rfl,rfl,rfl,by decide +kernel,rfl,by decide +kernel,by decide +kernel⟩
theorem zak8 (F:Fun K "is_one" "is_one" (top 16) f fd):FnOk P w K mg base CX0 (k + 1) f fd ["gates", "number"] (spIsG isO):=by
 have nd:=zahm.nd
 refine F.ok zahm (fun vs H Q E h=>by obtain ⟨gl,al,n,rfl,_⟩:=h; rfl) (fun cdv A outer s0 H vs Q E hr h=>?_)
 obtain ⟨gl,al,n,rfl,r,hn,q⟩:=h
 refine ⟨_,(Pr.h (zaag (zaal (zaar (zacv hr.units) (zaao zaaq (qv av16 0 rfl) (qv av16 1 rfl) (fun _ _=>rfl)) (zaay (zaaa zaaj zaab zaad)) (nomark _))))),?_⟩
 (try dsimp only [cxOf])
 obtain ⟨g,eg⟩:∃ g,al[n]?=some g:=⟨_,List.getElem?_eq_getElem hn⟩
 obtain ⟨xs,p,hg,at1,hp,lx⟩:=r.at eg
 have sc:=Gt.vs_sca g
 have sc2:=Gt.vs_sca .one
 have q:∀ H',Ch [] H H'→Q (.bl (decide (al[n]?=some .one))) H':=q
 rw [zabr eg] at q
 walk_at "rd"
 rename_i T hT
 exact q _ (Ch.new hT _)
theorem av17:AF (defScope (top 17)) ["gates", "number", "other"]:=⟨by decide +kernel⟩
def spOpG:Sp:=fun vs H Q _=>∃ (gl:Addr) (al:List Gt) (a b:Nat),vs=[.ref gl,.int (a:Int),.int (b:Int)]∧GA H gl al∧a < al.length∧b < al.length∧∀ H',Ch [] H H'→Q (.bl (opsd al a b)) H'
theorem zanq:FnScope ["gates", "number", "other"] ["gates", "number", "other"] (defScope (top 17)):=⟨rfl,rfl,rfl,by decide +kernel,rfl,by decide +kernel,by decide +kernel⟩
theorem zara (F:Fun K "are_opposed" "are_opposed" (top 17) f fd):FnOk P w K mg base CX0 (k + 1) f fd ["gates", "number", "other"] spOpG:=by
 have nd:=zanq.nd
 refine F.ok zanq (fun vs H Q E h=>by obtain ⟨gl,al,a,b,rfl,_⟩:=h; rfl) (fun cdv A outer s0 H vs Q E hr h=>?_)
 obtain ⟨gl,al,a,b,rfl,r,ha,hb,q⟩:=h
 refine ⟨_,(Pr.h (zaag (zaal (zact (zaar (zacv hr.units) (zaao zaaq (qv av17 0 rfl) (qv av17 1 rfl) (fun _ _=>rfl)) (zaay (zaaa zaaj (zaaa (qv av17 2 rfl) zaab zaac) zaad)) (nomark _)) (zaau (zaar (zacv hr.units) (zaao zaaq (qv av17 0 rfl) (qv av17 2 rfl) (fun _ _=>rfl)) (zaay (zaaa zaaj (zaaa (qv av17 1 rfl) zaab zaac) zaad)) (nomark _))))))),?_⟩
 (try dsimp only [cxOf])
 obtain ⟨g,eg⟩:∃ g,al[a]?=some g:=⟨_,List.getElem?_eq_getElem ha⟩
 obtain ⟨xs,p,hg,at1,hp,lx⟩:=r.at eg
 obtain ⟨g2,eg2⟩:∃ g2,al[b]?=some g2:=⟨_,List.getElem?_eq_getElem hb⟩
 obtain ⟨xs2,p2,hg2,at2,hp2,lx2⟩:=r.at eg2
 rw [hg] at hg2
 cases hg2
 have sc:=Gt.vs_sca g
 have sc1:=Gt.vs_sca g2
 have sc2:=Gt.vs_sca (.not b)
 have sc3:=Gt.vs_sca (.not a)
 have q:∀ H',Ch [] H H'→Q (.bl (decide (al[a]?=some (.not b)) || decide (al[b]?=some (.not a)))) H':=q
 rw [zabr eg,zabr eg2] at q
 cases e1:decide (g.vs=(Gt.not b).vs) with
 | true =>
  have e2:decide (g.vs=[V.str "not",V.int b])=true:=e1
  rw [e1,Bool.true_or] at q
  walk_at "rd"
  rename_i T hT
  rw [e2]
  exact q _ (Ch.new hT _)
 | false =>
  have e2:decide (g.vs=[V.str "not",V.int b])=false:=e1
  rw [e1,Bool.false_or] at q
  walk_at "rd"
  rename_i T hT
  rw [e2]
  refine iteF ?_
  walk_at "rd"
  rename_i T2 hT2
  exact q _ ((Ch.new hT _).trans (Ch.new hT2 _))
theorem av18:AF (defScope (top 18)) ["gates", "why", "it", "feeds", "x"]:=⟨by decide +kernel⟩
theorem gl18:AG (defScope (top 18)) ["is_one", "is_zero"]:=⟨by decide +kernel⟩
def notB (al:List Gt) (why:Str) (it x:Nat):Bool:=if why = "inner" then decide (al[x]?=some (.not it)) else if why = "one" then isZ al x && isO al it else if why = "zero" then isO al x && isZ al it else false
def spNotB:Sp:=fun vs H Q _=>∃ (gl fl:Addr) (al:List Gt) (why:Str) (it x:Nat),vs=[.ref gl,.str why,.int (it:Int),.ref fl]∧GA H gl al∧H fl=some (.lst [.int (x:Int)])∧it < al.length∧x < al.length∧∀ H',Ch [] H H'→Q (.bl (notB al why it x)) H'
theorem scNotB:FnScope ["gates", "why", "it", "feeds", "x"] ["gates", "why", "it", "feeds"] (defScope (top 18)):=⟨rfl,rfl,rfl,by decide +kernel,rfl,by decide +kernel,by decide +kernel⟩
theorem zao3 (F:Fun K "not_holds" "not_holds" (top 18) f fd) (Dis_zero:DefOk P w K mg base CX0 k "is_zero" ["gates", "number"] (spIsG isZ)) (Dis_one:DefOk P w K mg base CX0 k "is_one" ["gates", "number"] (spIsG isO)) (Dare_opposed:DefOk P w K mg base CX0 k "are_opposed" ["gates", "number", "other"] spOpG):FnOk P w K mg base CX0 (k + 1) f fd ["gates", "why", "it", "feeds"] spNotB:=by
 have nd:=scNotB.nd
 refine F.ok scNotB (fun vs H Q E h=>by obtain ⟨gl,fl,al,why,it,x,rfl,_⟩:=h; rfl) (fun cdv A outer s0 H vs Q E hr h=>?_)
 obtain ⟨gl,fl,al,why,it,x,rfl,r,hf,li,lx,q⟩:=h
 refine ⟨_,(Pr.h (zaaf (zaat (i:=4) nd rfl (av18.l 4 rfl) (zaao zaaq (qv av18 3 rfl) zaae (fun _ _=>rfl))) (zaaf (zaax (zaak zaa3 (qv av18 1 rfl) zaaj (nomark _)) (zaag (zaal (zaar (zacv hr.units) (zaao zaaq (qv av18 0 rfl) (qv av18 4 rfl) (fun _ _=>rfl)) (zaay (zaaa zaaj (zaaa (qv av18 2 rfl) zaab zaac) zaad)) (nomark _)))) zaan) (zaaf (zaax (zaak zaa3 (qv av18 1 rfl) zaaj (nomark _)) (zaag (zaal (zaaw (zaah Dis_zero hr (gl18.g 1 rfl) pass0 (zaaa (qv av18 0 rfl) (zaaa (qv av18 4 rfl) zaab zaac) zaac) zaa8) (zaau (zaah Dis_one hr (gl18.g 0 rfl) pass0 (zaaa (qv av18 0 rfl) (zaaa (qv av18 2 rfl) zaab zaac) zaac) zabe))))) zaan) (zaaf (zaax (zaak zaa3 (qv av18 1 rfl) zaaj (nomark _)) (zaag (zaal (zaaw (zaah Dis_one hr (gl18.g 0 rfl) pass0 (zaaa (qv av18 0 rfl) (zaaa (qv av18 4 rfl) zaab zaac) zaac) zabe) (zaau (zaah Dis_zero hr (gl18.g 1 rfl) pass0 (zaaa (qv av18 0 rfl) (zaaa (qv av18 2 rfl) zaab zaac) zaac) zaa8))))) zaan) (zaag (zaal zaa5))))))),?_⟩
 (try dsimp only [cxOf])
 have c0:=Ch.refl [] H
 obtain ⟨g,eg⟩:∃ g,al[x]?=some g:=⟨_,List.getElem?_eq_getElem lx⟩
 obtain ⟨xs,p,hg,at1,hp,lp⟩:=r.at eg
 have sc:=Gt.vs_sca g
 have sc2:=Gt.vs_sca (.not it)
 walk_at "rd"
 refine ite2 (fun ez=>?_) (fun ez=>?_)
 ·have hw:=zabz ez
  subst hw
  clear ez
  have e0:=zabr (h:=.not it) eg
  rw [show notB al _ it x=decide (al[x]?=some (.not it)) from by simp [notB],e0] at q
  walk_at "rd"
  rename_i T hT
  exact q _ (Ch.new hT _)
 have w0:=zabm ez
 clear ez
 walk_at "rd"
 refine ite2 (fun ez=>?_) (fun ez=>?_)
 ·have hw:=zabz ez
  subst hw
  clear ez
  have s0:¬ (Str.ofString "one" = Str.ofString "inner"):=by decide +kernel
  walk_at "rd"
  rename_i H1 d1
  have c1:=c0.trans d1
  (try dsimp only)
  refine ite2 (fun h1=>?_) (fun h1=>?_)
  ·walk_at "rd"
   rename_i H2 d2
   have c2:=c1.trans d2
   rw [show notB al (Str.ofString "one") it x=isO al it from by simp [notB,s0,h1]] at q
   exact q _ c2
  ·rw [show notB al (Str.ofString "one") it x=false from by simp [notB,s0,h1]] at q
   exact q _ c1
 have w1:=zabm ez
 clear ez
 walk_at "rd"
 refine ite2 (fun ez=>?_) (fun ez=>?_)
 ·have hw:=zabz ez
  subst hw
  clear ez
  have s0:¬ (Str.ofString "zero" = Str.ofString "inner"):=by decide +kernel
  have s1:¬ (Str.ofString "zero" = Str.ofString "one"):=by decide +kernel
  walk_at "rd"
  rename_i H1 d1
  have c1:=c0.trans d1
  (try dsimp only)
  refine ite2 (fun h2=>?_) (fun h2=>?_)
  ·walk_at "rd"
   rename_i H2 d2
   have c2:=c1.trans d2
   rw [show notB al (Str.ofString "zero") it x=isZ al it from by simp [notB,s0,s1,h2]] at q
   exact q _ c2
  ·rw [show notB al (Str.ofString "zero") it x=false from by simp [notB,s0,s1,h2]] at q
   exact q _ c1
 have w2:=zabm ez
 clear ez
 walk_at "rd"
 rw [show notB al why it x=false from by simp [notB,w0,w1,w2]] at q
 exact q _ c0
theorem av19:AF (defScope (top 19)) ["gates", "why", "it", "feeds", "x", "y"]:=⟨by decide +kernel⟩
theorem gl19:AG (defScope (top 19)) ["is_one", "are_opposed", "is_zero"]:=⟨by decide +kernel⟩
def andB (al:List Gt) (why:Str) (it x y:Nat):Bool:=if why = "first" then decide (it=x) && (isO al y || decide (y=x)) else if why = "second" then decide (it=y) && isO al x else if why = "zero" then isZ al it && (isZ al x || (isZ al y || opsd al x y)) else false
def spAndB:Sp:=fun vs H Q _=>∃ (gl fl:Addr) (al:List Gt) (why:Str) (it x y:Nat),vs=[.ref gl,.str why,.int (it:Int),.ref fl]∧GA H gl al∧H fl=some (.lst [.int (x:Int),.int (y:Int)])∧it < al.length∧x < al.length∧y < al.length∧∀ H',Ch [] H H'→Q (.bl (andB al why it x y)) H'
theorem scAndB:FnScope ["gates", "why", "it", "feeds", "x", "y"] ["gates", "why", "it", "feeds"] (defScope (top 19)):=⟨rfl,rfl,rfl,by decide +kernel,rfl,by decide +kernel,by decide +kernel⟩
theorem zao4 (F:Fun K "and_holds" "and_holds" (top 19) f fd) (Dis_zero:DefOk P w K mg base CX0 k "is_zero" ["gates", "number"] (spIsG isZ)) (Dis_one:DefOk P w K mg base CX0 k "is_one" ["gates", "number"] (spIsG isO)) (Dare_opposed:DefOk P w K mg base CX0 k "are_opposed" ["gates", "number", "other"] spOpG):FnOk P w K mg base CX0 (k + 1) f fd ["gates", "why", "it", "feeds"] spAndB:=by
 have nd:=scAndB.nd
 refine F.ok scAndB (fun vs H Q E h=>by obtain ⟨gl,fl,al,why,it,x,y,rfl,_⟩:=h; rfl) (fun cdv A outer s0 H vs Q E hr h=>?_)
 obtain ⟨gl,fl,al,why,it,x,y,rfl,r,hf,li,lx,ly,q⟩:=h
 refine ⟨_,(Pr.h (zaaf (zaat (i:=4) nd rfl (av19.l 4 rfl) (zaao zaaq (qv av19 3 rfl) zaae (fun _ _=>rfl))) (zaaf (zaat (i:=5) nd rfl (av19.l 5 rfl) (zaao zaaq (qv av19 3 rfl) zaae (fun _ _=>rfl))) (zaaf (zaax (zaak zaa3 (qv av19 1 rfl) zaaj (nomark _)) (zaag (zaal (zaaw (zaar zaa3 (qv av19 2 rfl) (qv av19 4 rfl) (nomark _)) (zaau (zact (zaah Dis_one hr (gl19.g 0 rfl) pass0 (zaaa (qv av19 0 rfl) (zaaa (qv av19 5 rfl) zaab zaac) zaac) zabe) (zaau (zaar zaa3 (qv av19 5 rfl) (qv av19 4 rfl) (nomark _)))))))) zaan) (zaaf (zaax (zaak zaa3 (qv av19 1 rfl) zaaj (nomark _)) (zaag (zaal (zaaw (zaar zaa3 (qv av19 2 rfl) (qv av19 5 rfl) (nomark _)) (zaau (zaah Dis_one hr (gl19.g 0 rfl) pass0 (zaaa (qv av19 0 rfl) (zaaa (qv av19 4 rfl) zaab zaac) zaac) zabe))))) zaan) (zaaf (zaax (zaak zaa3 (qv av19 1 rfl) zaaj (nomark _)) (zaag (zaal (zaaw (zaah Dis_zero hr (gl19.g 2 rfl) pass0 (zaaa (qv av19 0 rfl) (zaaa (qv av19 2 rfl) zaab zaac) zaac) zaa8) (zaau (zact (zaah Dis_zero hr (gl19.g 2 rfl) pass0 (zaaa (qv av19 0 rfl) (zaaa (qv av19 4 rfl) zaab zaac) zaac) zaa8) (zact (zaah Dis_zero hr (gl19.g 2 rfl) pass0 (zaaa (qv av19 0 rfl) (zaaa (qv av19 5 rfl) zaab zaac) zaac) zaa8) (zaau (zaah Dare_opposed hr (gl19.g 1 rfl) pass0 (zaaa (qv av19 0 rfl) (zaaa (qv av19 4 rfl) (zaaa (qv av19 5 rfl) zaab zaac) zaac) zaac) zabi)))))))) zaan) (zaag (zaal zaa5)))))))),?_⟩
 (try dsimp only [cxOf])
 have c0:=Ch.refl [] H
 walk_at "rd"
 refine ite2 (fun ez=>?_) (fun ez=>?_)
 ·have hw:=zabz ez
  subst hw
  clear ez
  walk_at "rd"
  (try dsimp only)
  refine ite2 (fun ez=>?_) (fun ez=>?_)
  ·have h3:it=x:=by simp at ez; omega
   clear ez
   walk_at "rd"
   rename_i H1 d1
   have c1:=c0.trans d1
   (try dsimp only)
   refine ite2 (fun h4=>?_) (fun h4=>?_)
   ·rw [show andB al (Str.ofString "first") it x y=true from by simp [andB,h3,h4]] at q
    exact q _ c1
   ·walk_at "rd"
    rw [zae6]
    rw [show andB al (Str.ofString "first") it x y=decide (y=x) from by simp [andB,h3,h4]] at q
    exact q _ c1
  ·have h3:¬ it=x:=by simp at ez; omega
   clear ez
   rw [show andB al (Str.ofString "first") it x y=false from by simp [andB,h3]] at q
   exact q _ c0
 have w0:=zabm ez
 clear ez
 walk_at "rd"
 refine ite2 (fun ez=>?_) (fun ez=>?_)
 ·have hw:=zabz ez
  subst hw
  clear ez
  have s0:¬ (Str.ofString "second" = Str.ofString "first"):=by decide +kernel
  walk_at "rd"
  (try dsimp only)
  refine ite2 (fun ez=>?_) (fun ez=>?_)
  ·have h5:it=y:=by simp at ez; omega
   clear ez
   walk_at "rd"
   rename_i H1 d1
   have c1:=c0.trans d1
   rw [show andB al (Str.ofString "second") it x y=isO al x from by simp [andB,s0,h5]] at q
   exact q _ c1
  ·have h5:¬ it=y:=by simp at ez; omega
   clear ez
   rw [show andB al (Str.ofString "second") it x y=false from by simp [andB,s0,h5]] at q
   exact q _ c0
 have w1:=zabm ez
 clear ez
 walk_at "rd"
 refine ite2 (fun ez=>?_) (fun ez=>?_)
 ·have hw:=zabz ez
  subst hw
  clear ez
  have s0:¬ (Str.ofString "zero" = Str.ofString "first"):=by decide +kernel
  have s1:¬ (Str.ofString "zero" = Str.ofString "second"):=by decide +kernel
  walk_at "rd"
  rename_i H1 d1
  have c1:=c0.trans d1
  (try dsimp only)
  refine ite2 (fun h6=>?_) (fun h6=>?_)
  ·walk_at "rd"
   rename_i H2 d2
   have c2:=c1.trans d2
   (try dsimp only)
   refine ite2 (fun h7=>?_) (fun h7=>?_)
   ·rw [show andB al (Str.ofString "zero") it x y=true from by simp [andB,s0,s1,h6,h7]] at q
    exact q _ c2
   ·walk_at "rd"
    rename_i H3 d3
    have c3:=c2.trans d3
    (try dsimp only)
    refine ite2 (fun h8=>?_) (fun h8=>?_)
    ·rw [show andB al (Str.ofString "zero") it x y=true from by simp [andB,s0,s1,h6,h7,h8]] at q
     exact q _ c3
    ·walk_at "rd"
     rename_i H4 d4
     have c4:=c3.trans d4
     rw [show andB al (Str.ofString "zero") it x y=opsd al x y from by simp [andB,s0,s1,h6,h7,h8]] at q
     exact q _ c4
  ·rw [show andB al (Str.ofString "zero") it x y=false from by simp [andB,s0,s1,h6]] at q
   exact q _ c1
 have w2:=zabm ez
 clear ez
 walk_at "rd"
 rw [show andB al why it x y=false from by simp [andB,w0,w1,w2]] at q
 exact q _ c0
theorem av20:AF (defScope (top 20)) ["gates", "why", "it", "feeds", "x", "y"]:=⟨by decide +kernel⟩
theorem gl20:AG (defScope (top 20)) ["is_zero", "are_opposed", "is_one"]:=⟨by decide +kernel⟩
def orB (al:List Gt) (why:Str) (it x y:Nat):Bool:=if why = "first" then decide (it=x) && (isZ al y || decide (y=x)) else if why = "second" then decide (it=y) && isZ al x else if why = "one" then isO al it && (isO al x || (isO al y || opsd al x y)) else false
def spOrB:Sp:=fun vs H Q _=>∃ (gl fl:Addr) (al:List Gt) (why:Str) (it x y:Nat),vs=[.ref gl,.str why,.int (it:Int),.ref fl]∧GA H gl al∧H fl=some (.lst [.int (x:Int),.int (y:Int)])∧it < al.length∧x < al.length∧y < al.length∧∀ H',Ch [] H H'→Q (.bl (orB al why it x y)) H'
theorem scOrB:FnScope ["gates", "why", "it", "feeds", "x", "y"] ["gates", "why", "it", "feeds"] (defScope (top 20)):=⟨rfl,rfl,rfl,by decide +kernel,rfl,by decide +kernel,by decide +kernel⟩
theorem zarb (F:Fun K "or_holds" "or_holds" (top 20) f fd) (Dis_zero:DefOk P w K mg base CX0 k "is_zero" ["gates", "number"] (spIsG isZ)) (Dis_one:DefOk P w K mg base CX0 k "is_one" ["gates", "number"] (spIsG isO)) (Dare_opposed:DefOk P w K mg base CX0 k "are_opposed" ["gates", "number", "other"] spOpG):FnOk P w K mg base CX0 (k + 1) f fd ["gates", "why", "it", "feeds"] spOrB:=by
 have nd:=scOrB.nd
 refine F.ok scOrB (fun vs H Q E h=>by obtain ⟨gl,fl,al,why,it,x,y,rfl,_⟩:=h; rfl) (fun cdv A outer s0 H vs Q E hr h=>?_)
 obtain ⟨gl,fl,al,why,it,x,y,rfl,r,hf,li,lx,ly,q⟩:=h
 refine ⟨_,(Pr.h (zaaf (zaat (i:=4) nd rfl (av20.l 4 rfl) (zaao zaaq (qv av20 3 rfl) zaae (fun _ _=>rfl))) (zaaf (zaat (i:=5) nd rfl (av20.l 5 rfl) (zaao zaaq (qv av20 3 rfl) zaae (fun _ _=>rfl))) (zaaf (zaax (zaak zaa3 (qv av20 1 rfl) zaaj (nomark _)) (zaag (zaal (zaaw (zaar zaa3 (qv av20 2 rfl) (qv av20 4 rfl) (nomark _)) (zaau (zact (zaah Dis_zero hr (gl20.g 0 rfl) pass0 (zaaa (qv av20 0 rfl) (zaaa (qv av20 5 rfl) zaab zaac) zaac) zaa8) (zaau (zaar zaa3 (qv av20 5 rfl) (qv av20 4 rfl) (nomark _)))))))) zaan) (zaaf (zaax (zaak zaa3 (qv av20 1 rfl) zaaj (nomark _)) (zaag (zaal (zaaw (zaar zaa3 (qv av20 2 rfl) (qv av20 5 rfl) (nomark _)) (zaau (zaah Dis_zero hr (gl20.g 0 rfl) pass0 (zaaa (qv av20 0 rfl) (zaaa (qv av20 4 rfl) zaab zaac) zaac) zaa8))))) zaan) (zaaf (zaax (zaak zaa3 (qv av20 1 rfl) zaaj (nomark _)) (zaag (zaal (zaaw (zaah Dis_one hr (gl20.g 2 rfl) pass0 (zaaa (qv av20 0 rfl) (zaaa (qv av20 2 rfl) zaab zaac) zaac) zabe) (zaau (zact (zaah Dis_one hr (gl20.g 2 rfl) pass0 (zaaa (qv av20 0 rfl) (zaaa (qv av20 4 rfl) zaab zaac) zaac) zabe) (zact (zaah Dis_one hr (gl20.g 2 rfl) pass0 (zaaa (qv av20 0 rfl) (zaaa (qv av20 5 rfl) zaab zaac) zaac) zabe) (zaau (zaah Dare_opposed hr (gl20.g 1 rfl) pass0 (zaaa (qv av20 0 rfl) (zaaa (qv av20 4 rfl) (zaaa (qv av20 5 rfl) zaab zaac) zaac) zaac) zabi)))))))) zaan) (zaag (zaal zaa5)))))))),?_⟩
 (try dsimp only [cxOf])
 have c0:=Ch.refl [] H
 walk_at "rd"
 refine ite2 (fun ez=>?_) (fun ez=>?_)
 ·have hw:=zabz ez
  subst hw
  clear ez
  walk_at "rd"
  (try dsimp only)
  refine ite2 (fun ez=>?_) (fun ez=>?_)
  ·have h9:it=x:=by simp at ez; omega
   clear ez
   walk_at "rd"
   rename_i H1 d1
   have c1:=c0.trans d1
   (try dsimp only)
   refine ite2 (fun h10=>?_) (fun h10=>?_)
   ·rw [show orB al (Str.ofString "first") it x y=true from by simp [orB,h9,h10]] at q
    exact q _ c1
   ·walk_at "rd"
    rw [zae6]
    rw [show orB al (Str.ofString "first") it x y=decide (y=x) from by simp [orB,h9,h10]] at q
    exact q _ c1
  ·have h9:¬ it=x:=by simp at ez; omega
   clear ez
   rw [show orB al (Str.ofString "first") it x y=false from by simp [orB,h9]] at q
   exact q _ c0
 have w0:=zabm ez
 clear ez
 walk_at "rd"
 refine ite2 (fun ez=>?_) (fun ez=>?_)
 ·have hw:=zabz ez
  subst hw
  clear ez
  have s0:¬ (Str.ofString "second" = Str.ofString "first"):=by decide +kernel
  walk_at "rd"
  (try dsimp only)
  refine ite2 (fun ez=>?_) (fun ez=>?_)
  ·have h11:it=y:=by simp at ez; omega
   clear ez
   walk_at "rd"
   rename_i H1 d1
   have c1:=c0.trans d1
   rw [show orB al (Str.ofString "second") it x y=isZ al x from by simp [orB,s0,h11]] at q
   exact q _ c1
  ·have h11:¬ it=y:=by simp at ez; omega
   clear ez
   rw [show orB al (Str.ofString "second") it x y=false from by simp [orB,s0,h11]] at q
   exact q _ c0
 have w1:=zabm ez
 clear ez
 walk_at "rd"
 refine ite2 (fun ez=>?_) (fun ez=>?_)
 ·have hw:=zabz ez
  subst hw
  clear ez
  have s0:¬ (Str.ofString "one" = Str.ofString "first"):=by decide +kernel
  have s1:¬ (Str.ofString "one" = Str.ofString "second"):=by decide +kernel
  walk_at "rd"
  rename_i H1 d1
  have c1:=c0.trans d1
  (try dsimp only)
  refine ite2 (fun h12=>?_) (fun h12=>?_)
  ·walk_at "rd"
   rename_i H2 d2
   have c2:=c1.trans d2
   (try dsimp only)
   refine ite2 (fun h13=>?_) (fun h13=>?_)
   ·rw [show orB al (Str.ofString "one") it x y=true from by simp [orB,s0,s1,h12,h13]] at q
    exact q _ c2
   ·walk_at "rd"
    rename_i H3 d3
    have c3:=c2.trans d3
    (try dsimp only)
    refine ite2 (fun h14=>?_) (fun h14=>?_)
    ·rw [show orB al (Str.ofString "one") it x y=true from by simp [orB,s0,s1,h12,h13,h14]] at q
     exact q _ c3
    ·walk_at "rd"
     rename_i H4 d4
     have c4:=c3.trans d4
     rw [show orB al (Str.ofString "one") it x y=opsd al x y from by simp [orB,s0,s1,h12,h13,h14]] at q
     exact q _ c4
  ·rw [show orB al (Str.ofString "one") it x y=false from by simp [orB,s0,s1,h12]] at q
   exact q _ c1
 have w2:=zabm ez
 clear ez
 walk_at "rd"
 rw [show orB al why it x y=false from by simp [orB,w0,w1,w2]] at q
 exact q _ c0
theorem av21:AF (defScope (top 21)) ["gates", "why", "it", "feeds", "x", "y"]:=⟨by decide +kernel⟩
theorem gl21:AG (defScope (top 21)) ["is_zero", "are_opposed", "is_one"]:=⟨by decide +kernel⟩
def xorB (al:List Gt) (why:Str) (it x y:Nat):Bool:=if why = "first" then decide (it=x) && isZ al y else if why = "second" then decide (it=y) && isZ al x else if why = "zero" then isZ al it && decide (x=y) else if why = "one" then isO al it && opsd al x y else if why = "not" then (isO al y && opsd al it x) || (isO al x && opsd al it y) else false
def spXorB:Sp:=fun vs H Q _=>∃ (gl fl:Addr) (al:List Gt) (why:Str) (it x y:Nat),vs=[.ref gl,.str why,.int (it:Int),.ref fl]∧GA H gl al∧H fl=some (.lst [.int (x:Int),.int (y:Int)])∧it < al.length∧x < al.length∧y < al.length∧∀ H',Ch [] H H'→Q (.bl (xorB al why it x y)) H'
theorem scXorB:FnScope ["gates", "why", "it", "feeds", "x", "y"] ["gates", "why", "it", "feeds"] (defScope (top 21)):=⟨rfl,rfl,rfl,by decide +kernel,rfl,by decide +kernel,by decide +kernel⟩
theorem zao5 (F:Fun K "xor_holds" "xor_holds" (top 21) f fd) (Dis_zero:DefOk P w K mg base CX0 k "is_zero" ["gates", "number"] (spIsG isZ)) (Dis_one:DefOk P w K mg base CX0 k "is_one" ["gates", "number"] (spIsG isO)) (Dare_opposed:DefOk P w K mg base CX0 k "are_opposed" ["gates", "number", "other"] spOpG):FnOk P w K mg base CX0 (k + 1) f fd ["gates", "why", "it", "feeds"] spXorB:=by
 have nd:=scXorB.nd
 refine F.ok scXorB (fun vs H Q E h=>by obtain ⟨gl,fl,al,why,it,x,y,rfl,_⟩:=h; rfl) (fun cdv A outer s0 H vs Q E hr h=>?_)
 obtain ⟨gl,fl,al,why,it,x,y,rfl,r,hf,li,lx,ly,q⟩:=h
 refine ⟨_,(Pr.h (zaaf (zaat (i:=4) nd rfl (av21.l 4 rfl) (zaao zaaq (qv av21 3 rfl) zaae (fun _ _=>rfl))) (zaaf (zaat (i:=5) nd rfl (av21.l 5 rfl) (zaao zaaq (qv av21 3 rfl) zaae (fun _ _=>rfl))) (zaaf (zaax (zaak zaa3 (qv av21 1 rfl) zaaj (nomark _)) (zaag (zaal (zaaw (zaar zaa3 (qv av21 2 rfl) (qv av21 4 rfl) (nomark _)) (zaau (zaah Dis_zero hr (gl21.g 0 rfl) pass0 (zaaa (qv av21 0 rfl) (zaaa (qv av21 5 rfl) zaab zaac) zaac) zaa8))))) zaan) (zaaf (zaax (zaak zaa3 (qv av21 1 rfl) zaaj (nomark _)) (zaag (zaal (zaaw (zaar zaa3 (qv av21 2 rfl) (qv av21 5 rfl) (nomark _)) (zaau (zaah Dis_zero hr (gl21.g 0 rfl) pass0 (zaaa (qv av21 0 rfl) (zaaa (qv av21 4 rfl) zaab zaac) zaac) zaa8))))) zaan) (zaaf (zaax (zaak zaa3 (qv av21 1 rfl) zaaj (nomark _)) (zaag (zaal (zaaw (zaah Dis_zero hr (gl21.g 0 rfl) pass0 (zaaa (qv av21 0 rfl) (zaaa (qv av21 2 rfl) zaab zaac) zaac) zaa8) (zaau (zaar zaa3 (qv av21 4 rfl) (qv av21 5 rfl) (nomark _)))))) zaan) (zaaf (zaax (zaak zaa3 (qv av21 1 rfl) zaaj (nomark _)) (zaag (zaal (zaaw (zaah Dis_one hr (gl21.g 2 rfl) pass0 (zaaa (qv av21 0 rfl) (zaaa (qv av21 2 rfl) zaab zaac) zaac) zabe) (zaau (zaah Dare_opposed hr (gl21.g 1 rfl) pass0 (zaaa (qv av21 0 rfl) (zaaa (qv av21 4 rfl) (zaaa (qv av21 5 rfl) zaab zaac) zaac) zaac) zabi))))) zaan) (zaaf (zaax (zabx (zac1 (zaak zaa3 (qv av21 1 rfl) zaaj (nomark _)) (zac1 (zabf (zaah Dis_one hr (gl21.g 2 rfl) pass0 (zaaa (qv av21 0 rfl) (zaaa (qv av21 5 rfl) zaab zaac) zaac) zabe)) (zacq (zabf (zaah Dare_opposed hr (gl21.g 1 rfl) pass0 (zaaa (qv av21 0 rfl) (zaaa (qv av21 2 rfl) (zaaa (qv av21 4 rfl) zaab zaac) zaac) zaac) zabi)))))) (zaag (zaal zaa5)) zaan) (zaag (zaal (zaaw (zaar zaa3 (qv av21 1 rfl) zaaj (nomark _)) (zaaw (zaah Dis_one hr (gl21.g 2 rfl) pass0 (zaaa (qv av21 0 rfl) (zaaa (qv av21 4 rfl) zaab zaac) zaac) zabe) (zaau (zaah Dare_opposed hr (gl21.g 1 rfl) pass0 (zaaa (qv av21 0 rfl) (zaaa (qv av21 2 rfl) (zaaa (qv av21 5 rfl) zaab zaac) zaac) zaac) zabi)))))))))))))),?_⟩
 (try dsimp only [cxOf])
 have c0:=Ch.refl [] H
 walk_at "rd"
 refine ite2 (fun ez=>?_) (fun ez=>?_)
 ·have hw:=zabz ez
  subst hw
  clear ez
  walk_at "rd"
  (try dsimp only)
  refine ite2 (fun ez=>?_) (fun ez=>?_)
  ·have h15:it=x:=by simp at ez; omega
   clear ez
   walk_at "rd"
   rename_i H1 d1
   have c1:=c0.trans d1
   rw [show xorB al (Str.ofString "first") it x y=isZ al y from by simp [xorB,h15]] at q
   exact q _ c1
  ·have h15:¬ it=x:=by simp at ez; omega
   clear ez
   rw [show xorB al (Str.ofString "first") it x y=false from by simp [xorB,h15]] at q
   exact q _ c0
 have w0:=zabm ez
 clear ez
 walk_at "rd"
 refine ite2 (fun ez=>?_) (fun ez=>?_)
 ·have hw:=zabz ez
  subst hw
  clear ez
  have s0:¬ (Str.ofString "second" = Str.ofString "first"):=by decide +kernel
  walk_at "rd"
  (try dsimp only)
  refine ite2 (fun ez=>?_) (fun ez=>?_)
  ·have h16:it=y:=by simp at ez; omega
   clear ez
   walk_at "rd"
   rename_i H1 d1
   have c1:=c0.trans d1
   rw [show xorB al (Str.ofString "second") it x y=isZ al x from by simp [xorB,s0,h16]] at q
   exact q _ c1
  ·have h16:¬ it=y:=by simp at ez; omega
   clear ez
   rw [show xorB al (Str.ofString "second") it x y=false from by simp [xorB,s0,h16]] at q
   exact q _ c0
 have w1:=zabm ez
 clear ez
 walk_at "rd"
 refine ite2 (fun ez=>?_) (fun ez=>?_)
 ·have hw:=zabz ez
  subst hw
  clear ez
  have s0:¬ (Str.ofString "zero" = Str.ofString "first"):=by decide +kernel
  have s1:¬ (Str.ofString "zero" = Str.ofString "second"):=by decide +kernel
  walk_at "rd"
  rename_i H1 d1
  have c1:=c0.trans d1
  (try dsimp only)
  refine ite2 (fun h17=>?_) (fun h17=>?_)
  ·walk_at "rd"
   rw [zae6]
   rw [show xorB al (Str.ofString "zero") it x y=decide (x=y) from by simp [xorB,s0,s1,h17]] at q
   exact q _ c1
  ·rw [show xorB al (Str.ofString "zero") it x y=false from by simp [xorB,s0,s1,h17]] at q
   exact q _ c1
 have w2:=zabm ez
 clear ez
 walk_at "rd"
 refine ite2 (fun ez=>?_) (fun ez=>?_)
 ·have hw:=zabz ez
  subst hw
  clear ez
  have s0:¬ (Str.ofString "one" = Str.ofString "first"):=by decide +kernel
  have s1:¬ (Str.ofString "one" = Str.ofString "second"):=by decide +kernel
  have s2:¬ (Str.ofString "one" = Str.ofString "zero"):=by decide +kernel
  walk_at "rd"
  rename_i H1 d1
  have c1:=c0.trans d1
  (try dsimp only)
  refine ite2 (fun h18=>?_) (fun h18=>?_)
  ·walk_at "rd"
   rename_i H2 d2
   have c2:=c1.trans d2
   rw [show xorB al (Str.ofString "one") it x y=opsd al x y from by simp [xorB,s0,s1,s2,h18]] at q
   exact q _ c2
  ·rw [show xorB al (Str.ofString "one") it x y=false from by simp [xorB,s0,s1,s2,h18]] at q
   exact q _ c1
 have w3:=zabm ez
 clear ez
 by_cases hn:why=Str.ofString "not"
 ·subst hn
  rw [show xorB al (Str.ofString "not") it x y=((isO al y && opsd al it x) || (isO al x && opsd al it y)) from by simp [xorB,w0,w1,w2,w3]] at q
  walk_at "rd"
  rename_i H1 d1
  have c1:=c0.trans d1
  (try dsimp only)
  refine ite2 (fun h1=>?_) (fun h1=>?_)
  ·walk_at "rd"
   rename_i H2 d2
   have c2:=c1.trans d2
   (try dsimp only)
   refine ite2 (fun h2=>?_) (fun h2=>?_)
   ·walk_at "rd"
    rw [show ((isO al y && opsd al it x) || (isO al x && opsd al it y))=true from by simp [h1,h2]] at q
    exact q _ c2
   ·walk_at "rd"
    rename_i H3 d3
    have c3:=c2.trans d3
    (try dsimp only)
    refine ite2 (fun t=>?_) (fun t=>?_)
    ·walk_at "rd"
     rename_i H4 d4
     have c4:=c3.trans d4
     (try dsimp only)
     rw [show ((isO al y && opsd al it x) || (isO al x && opsd al it y))=opsd al it y from by simp [h1,h2,t]] at q
     exact q _ c4
    ·rw [show ((isO al y && opsd al it x) || (isO al x && opsd al it y))=false from by simp [h1,h2,t]] at q
     exact q _ c3
  ·refine iteF ?_
   walk_at "rd"
   rename_i H2 d2
   have c2:=c1.trans d2
   (try dsimp only)
   refine ite2 (fun t=>?_) (fun t=>?_)
   ·walk_at "rd"
    rename_i H3 d3
    have c3:=c2.trans d3
    (try dsimp only)
    rw [show ((isO al y && opsd al it x) || (isO al x && opsd al it y))=opsd al it y from by simp [h1,t]] at q
    exact q _ c3
   ·rw [show ((isO al y && opsd al it x) || (isO al x && opsd al it y))=false from by simp [h1,t]] at q
    exact q _ c2
 have wn:decide (V.str why=V.str "not")=false:=decide_eq_false fun z=>hn (V.str.inj z)
 walk_at "rd"
 rw [wn]
 refine iteF ?_
 refine iteF ?_
 walk_at "rd"
 rw [wn]
 refine iteF ?_
 rw [show xorB al why it x y=false from by simp [xorB,hn,w0,w1,w2,w3]] at q
 exact q _ c0
theorem av22:AF (defScope (top 22)) ["gates", "why", "it", "feeds", "x", "y", "z"]:=⟨by decide +kernel⟩
theorem gl22:AG (defScope (top 22)) ["is_one", "is_zero", "are_opposed"]:=⟨by decide +kernel⟩
def pickB (al:List Gt) (why:Str) (it x y z:Nat):Bool:=if why = "second" then decide (it=y) && (isO al x || decide (y=z)) else if why = "third" then decide (it=z) && isZ al x else if why = "first" then decide (it=x) && (isO al y && isZ al z) else if why = "not" then opsd al it x && (isZ al y && isO al z) else false
def spPickB:Sp:=fun vs H Q _=>∃ (gl fl:Addr) (al:List Gt) (why:Str) (it x y z:Nat),vs=[.ref gl,.str why,.int (it:Int),.ref fl]∧GA H gl al∧H fl=some (.lst [.int (x:Int),.int (y:Int),.int (z:Int)])∧it < al.length∧x < al.length∧y < al.length∧z < al.length∧∀ H',Ch [] H H'→Q (.bl (pickB al why it x y z)) H'
theorem scPickB:FnScope ["gates", "why", "it", "feeds", "x", "y", "z"] ["gates", "why", "it", "feeds"] (defScope (top 22)):=⟨rfl,rfl,rfl,by decide +kernel,rfl,by decide +kernel,by decide +kernel⟩
theorem zamz (F:Fun K "pick_holds" "pick_holds" (top 22) f fd) (Dis_zero:DefOk P w K mg base CX0 k "is_zero" ["gates", "number"] (spIsG isZ)) (Dis_one:DefOk P w K mg base CX0 k "is_one" ["gates", "number"] (spIsG isO)) (Dare_opposed:DefOk P w K mg base CX0 k "are_opposed" ["gates", "number", "other"] spOpG):FnOk P w K mg base CX0 (k + 1) f fd ["gates", "why", "it", "feeds"] spPickB:=by
 have nd:=scPickB.nd
 refine F.ok scPickB (fun vs H Q E h=>by obtain ⟨gl,fl,al,why,it,x,y,z,rfl,_⟩:=h; rfl) (fun cdv A outer s0 H vs Q E hr h=>?_)
 obtain ⟨gl,fl,al,why,it,x,y,z,rfl,r,hf,li,lx,ly,lz,q⟩:=h
 refine ⟨_,(Pr.h (zaaf (zaat (i:=4) nd rfl (av22.l 4 rfl) (zaao zaaq (qv av22 3 rfl) zaae (fun _ _=>rfl))) (zaaf (zaat (i:=5) nd rfl (av22.l 5 rfl) (zaao zaaq (qv av22 3 rfl) zaae (fun _ _=>rfl))) (zaaf (zaat (i:=6) nd rfl (av22.l 6 rfl) (zaao zaaq (qv av22 3 rfl) zaae (fun _ _=>rfl))) (zaaf (zaax (zaak zaa3 (qv av22 1 rfl) zaaj (nomark _)) (zaag (zaal (zaaw (zaar zaa3 (qv av22 2 rfl) (qv av22 5 rfl) (nomark _)) (zaau (zact (zaah Dis_one hr (gl22.g 0 rfl) pass0 (zaaa (qv av22 0 rfl) (zaaa (qv av22 4 rfl) zaab zaac) zaac) zabe) (zaau (zaar zaa3 (qv av22 5 rfl) (qv av22 6 rfl) (nomark _)))))))) zaan) (zaaf (zaax (zaak zaa3 (qv av22 1 rfl) zaaj (nomark _)) (zaag (zaal (zaaw (zaar zaa3 (qv av22 2 rfl) (qv av22 6 rfl) (nomark _)) (zaau (zaah Dis_zero hr (gl22.g 1 rfl) pass0 (zaaa (qv av22 0 rfl) (zaaa (qv av22 4 rfl) zaab zaac) zaac) zaa8))))) zaan) (zaaf (zaax (zaak zaa3 (qv av22 1 rfl) zaaj (nomark _)) (zaag (zaal (zaaw (zaar zaa3 (qv av22 2 rfl) (qv av22 4 rfl) (nomark _)) (zaaw (zaah Dis_one hr (gl22.g 0 rfl) pass0 (zaaa (qv av22 0 rfl) (zaaa (qv av22 5 rfl) zaab zaac) zaac) zabe) (zaau (zaah Dis_zero hr (gl22.g 1 rfl) pass0 (zaaa (qv av22 0 rfl) (zaaa (qv av22 6 rfl) zaab zaac) zaac) zaa8)))))) zaan) (zaaf (zaax (zaak zaa3 (qv av22 1 rfl) zaaj (nomark _)) (zaag (zaal (zaaw (zaah Dare_opposed hr (gl22.g 2 rfl) pass0 (zaaa (qv av22 0 rfl) (zaaa (qv av22 2 rfl) (zaaa (qv av22 4 rfl) zaab zaac) zaac) zaac) zabi) (zaaw (zaah Dis_zero hr (gl22.g 1 rfl) pass0 (zaaa (qv av22 0 rfl) (zaaa (qv av22 5 rfl) zaab zaac) zaac) zaa8) (zaau (zaah Dis_one hr (gl22.g 0 rfl) pass0 (zaaa (qv av22 0 rfl) (zaaa (qv av22 6 rfl) zaab zaac) zaac) zabe)))))) zaan) (zaag (zaal zaa5)))))))))),?_⟩
 (try dsimp only [cxOf])
 have c0:=Ch.refl [] H
 walk_at "rd"
 refine ite2 (fun ez=>?_) (fun ez=>?_)
 ·have hw:=zabz ez
  subst hw
  clear ez
  walk_at "rd"
  (try dsimp only)
  refine ite2 (fun ez=>?_) (fun ez=>?_)
  ·have h19:it=y:=by simp at ez; omega
   clear ez
   walk_at "rd"
   rename_i H1 d1
   have c1:=c0.trans d1
   (try dsimp only)
   refine ite2 (fun h20=>?_) (fun h20=>?_)
   ·rw [show pickB al (Str.ofString "second") it x y z=true from by simp [pickB,h19,h20]] at q
    exact q _ c1
   ·walk_at "rd"
    rw [zae6]
    rw [show pickB al (Str.ofString "second") it x y z=decide (y=z) from by simp [pickB,h19,h20]] at q
    exact q _ c1
  ·have h19:¬ it=y:=by simp at ez; omega
   clear ez
   rw [show pickB al (Str.ofString "second") it x y z=false from by simp [pickB,h19]] at q
   exact q _ c0
 have w0:=zabm ez
 clear ez
 walk_at "rd"
 refine ite2 (fun ez=>?_) (fun ez=>?_)
 ·have hw:=zabz ez
  subst hw
  clear ez
  have s0:¬ (Str.ofString "third" = Str.ofString "second"):=by decide +kernel
  walk_at "rd"
  (try dsimp only)
  refine ite2 (fun ez=>?_) (fun ez=>?_)
  ·have h21:it=z:=by simp at ez; omega
   clear ez
   walk_at "rd"
   rename_i H1 d1
   have c1:=c0.trans d1
   rw [show pickB al (Str.ofString "third") it x y z=isZ al x from by simp [pickB,s0,h21]] at q
   exact q _ c1
  ·have h21:¬ it=z:=by simp at ez; omega
   clear ez
   rw [show pickB al (Str.ofString "third") it x y z=false from by simp [pickB,s0,h21]] at q
   exact q _ c0
 have w1:=zabm ez
 clear ez
 walk_at "rd"
 refine ite2 (fun ez=>?_) (fun ez=>?_)
 ·have hw:=zabz ez
  subst hw
  clear ez
  have s0:¬ (Str.ofString "first" = Str.ofString "second"):=by decide +kernel
  have s1:¬ (Str.ofString "first" = Str.ofString "third"):=by decide +kernel
  walk_at "rd"
  (try dsimp only)
  refine ite2 (fun ez=>?_) (fun ez=>?_)
  ·have h22:it=x:=by simp at ez; omega
   clear ez
   walk_at "rd"
   rename_i H1 d1
   have c1:=c0.trans d1
   (try dsimp only)
   refine ite2 (fun h23=>?_) (fun h23=>?_)
   ·walk_at "rd"
    rename_i H2 d2
    have c2:=c1.trans d2
    rw [show pickB al (Str.ofString "first") it x y z=isZ al z from by simp [pickB,s0,s1,h22,h23]] at q
    exact q _ c2
   ·rw [show pickB al (Str.ofString "first") it x y z=false from by simp [pickB,s0,s1,h22,h23]] at q
    exact q _ c1
  ·have h22:¬ it=x:=by simp at ez; omega
   clear ez
   rw [show pickB al (Str.ofString "first") it x y z=false from by simp [pickB,s0,s1,h22]] at q
   exact q _ c0
 have w2:=zabm ez
 clear ez
 walk_at "rd"
 refine ite2 (fun ez=>?_) (fun ez=>?_)
 ·have hw:=zabz ez
  subst hw
  clear ez
  have s0:¬ (Str.ofString "not" = Str.ofString "second"):=by decide +kernel
  have s1:¬ (Str.ofString "not" = Str.ofString "third"):=by decide +kernel
  have s2:¬ (Str.ofString "not" = Str.ofString "first"):=by decide +kernel
  walk_at "rd"
  rename_i H1 d1
  have c1:=c0.trans d1
  (try dsimp only)
  refine ite2 (fun h24=>?_) (fun h24=>?_)
  ·walk_at "rd"
   rename_i H2 d2
   have c2:=c1.trans d2
   (try dsimp only)
   refine ite2 (fun h25=>?_) (fun h25=>?_)
   ·walk_at "rd"
    rename_i H3 d3
    have c3:=c2.trans d3
    rw [show pickB al (Str.ofString "not") it x y z=isO al z from by simp [pickB,s0,s1,s2,h24,h25]] at q
    exact q _ c3
   ·rw [show pickB al (Str.ofString "not") it x y z=false from by simp [pickB,s0,s1,s2,h24,h25]] at q
    exact q _ c2
  ·rw [show pickB al (Str.ofString "not") it x y z=false from by simp [pickB,s0,s1,s2,h24]] at q
   exact q _ c1
 have w3:=zabm ez
 clear ez
 walk_at "rd"
 rw [show pickB al why it x y z=false from by simp [pickB,w0,w1,w2,w3]] at q
 exact q _ c0
end
end

section
theorem Ch.forget {W:List Addr}{H H':Hp} (c:Ch W H H') (h:∀ w∈W,H w=none):Ch [] H H':=fun a o e _=>c a o e fun z=>by rw [h a z] at e; cases e
theorem Ch.inst {H:Hp}{x dx C:Addr} (hx:H x=none) (hd:H dx=none) (n:dx≠x):Ch [] H (upd (upd H dx (.own x)) x (.ins C dx [])):=(Ch.new hd _).trans (Ch.new (by rw [zabs n.symm]; exact hx) _)
def rho (prs:List (Nat × Str)) (a:Nat):Nat:=(prs.getD a (0,Str.empty)).1
theorem zaeg {α:Type}{l:List α}{x y:α}{i:Nat} (e:(l++[x])[i]?=some y):(i < l.length∧l[i]?=some y)∨(i=l.length∧y=x):=by
 by_cases hi:i < l.length
 ·rw [List.getElem?_append_left hi] at e; exact .inl ⟨hi,e⟩
 ·rw [List.getElem?_append_right (by omega)] at e
  have hi0:i - l.length=0:=by
   rcases Nat.eq_zero_or_pos (i - l.length) with z | z
   ·exact z
   ·rw [List.getElem?_eq_none (by simp; omega)] at e; cases e
  rw [hi0] at e
  exact .inr ⟨by omega,by simpa using e.symm⟩
theorem Gs.snoc {H:Hp}{gs:List Gt}{xs:List V}{p:Addr}{g:Gt} (h:Gs H gs xs) (hp:H p=some (.tup g.vs)):Gs H (gs++[g]) (xs++[.ref p]):=by
 refine ⟨by simp [h.len],fun i g' e=>?_⟩
 rcases zaeg e with ⟨hi,e⟩ | ⟨rfl,rfl⟩
 ·obtain ⟨p',h1,h2⟩:=h.at_ i g' e
  exact ⟨p',by rw [List.getElem?_append_left (by rw [h.len]; exact hi)]; exact h1,h2⟩
 ·exact ⟨p,by rw [← h.len]; simp,hp⟩
theorem NetAt.ch {C:Addr}{H H':Hp}{nt gp op:Addr}{gs:List Gt}{xs:List V}{os:List Nat} (n:NetAt C H nt gp op gs xs os) (c:Ch [] H H'):NetAt C H' nt gp op gs xs os :=
 ⟨n.ob.imp fun _ h=>c.get h (by simp),c.get n.gt (by simp),n.gg.tu (Tu.same c),c.get n.ot (by simp)⟩
def Gt.ren (ρ:Nat→Nat):Gt→Gt
 | .inp=>.inp
 | .zero=>.zero
 | .one=>.one
 | .keep f a=>.keep f (ρ a)
 | .not a=>.not (ρ a)
 | .and a b=>.and (ρ a) (ρ b)
 | .or a b=>.or (ρ a) (ρ b)
 | .xor a b=>.xor (ρ a) (ρ b)
 | .pick a b c=>.pick (ρ a) (ρ b) (ρ c)
theorem zahn (ρ:Nat→Nat) (g:Gt):(g.ren ρ).feeds=g.feeds.map ρ:=by cases g <;> rfl
theorem zao6 (ρ:Nat→Nat) (g:Gt):(g.ren ρ).src=g.src:=by cases g <;> rfl
end

section
local macro_rules | `(tactic| walk_at "user")=>`(tactic| first
 | (apply GA.ch; (focus with_reducible assumption); (focus walk_at "ch"))
 | exact Gt.vs_sca _)
def Gt.two:Gt→Bool
 | .and _ _=>true
 | .or _ _=>true
 | .xor _ _=>true
 | _=>false
def Gt.trn (ρ:Nat→Nat):Gt→Gt
 | .and a b=>.and (ρ b) (ρ a)
 | .or a b=>.or (ρ b) (ρ a)
 | .xor a b=>.xor (ρ b) (ρ a)
 | g=>g
def ruB (al:List Gt) (ρ:Nat→Nat) (it:Nat) (why:Str):Gt→Bool
 | .not a=>notB al why it (ρ a)
 | .and a b=>andB al why it (ρ a) (ρ b)
 | .or a b=>orB al why it (ρ a) (ρ b)
 | .xor a b=>xorB al why it (ρ a) (ρ b)
 | .pick a b c=>pickB al why it (ρ a) (ρ b) (ρ c)
 | _=>false
def phB (al:List Gt) (ρ:Nat→Nat) (it:Nat) (why:Str):Gt→Bool
 | .keep f a=>decide (why = "keep") && decide (al[it]?=some (.keep f (ρ a)))
 | g=>if why = "same" then decide (al[it]?=some (g.ren ρ)) else if why = "turned" ∧ g.two=true then decide (al[it]?=some (g.trn ρ)) else ruB al ρ it why g
theorem zad4 {al:List Gt}{ρ:Nat→Nat}{it:Nat}{g:Gt} (hk:g.isKeep=false):phB al ρ it "same" g=decide (al[it]?=some (g.ren ρ)):=by
 cases g <;> first | (cases hk; done) | simp [phB]
theorem zagr {al:List Gt}{ρ:Nat→Nat}{it:Nat}{g:Gt} (h2:g.two=true):phB al ρ it "turned" g=decide (al[it]?=some (g.trn ρ)):=by
 have s:¬ (Str.ofString "turned" = Str.ofString "same"):=by decide +kernel
 cases g <;> first | (cases h2; done) | simp [phB,s,Gt.two]
theorem zacp {al:List Gt}{ρ:Nat→Nat}{it:Nat}{why:Str}{g:Gt} (hk:g.isKeep=false) (h0:¬ why = "same") (h1:¬ (why = "turned" ∧ g.two=true)):phB al ρ it why g=ruB al ρ it why g:=by
 cases g <;> first | (cases hk; done) | (simp only [phB]; rw [if_neg h0,if_neg h1])
def RU:List Str:=["not", "and", "or", "xor", "pick"]
def spRu (wo:Str):Sp:=fun vs H Q E=>(wo = "not" ∧ spNotB vs H Q E)∨(wo = "and" ∧ spAndB vs H Q E)∨(wo = "or" ∧ spOrB vs H Q E)∨(wo = "xor" ∧ spXorB vs H Q E)∨(wo = "pick" ∧ spPickB vs H Q E)
section
variable {P:Program}{w:World}{K:PySem.W.Frag}{mg:Str→Option Value}{base:Heap}{f:Addr}{fd:FuncData}{k:Nat}
theorem zafg:Nd "RULES" := by decide +kernel
theorem av24:AF (defScope (top 24)) ["gates", "gate", "it", "why", "feeds", "word"]:=⟨by decide +kernel⟩
theorem gl24:AG (defScope (top 24)) ["tuple", "RULES"]:=⟨by decide +kernel⟩
def spPH:Sp:=fun vs H Q _=>∃ (gl p fl:Addr) (al:List Gt) (g:Gt) (it:Nat) (why:Str) (ρ:Nat→Nat),vs=[.ref gl,.ref p,.int (it:Int),.str why,.ref fl]∧GA H gl al∧H p=some (.tup g.vs)∧g≠.inp∧H fl=some (.lst (g.feeds.map fun a=>V.int ((ρ a:Nat):Int)))∧it < al.length∧(∀ a∈g.feeds,ρ a < al.length)∧∀ H',Ch [] H H'→Q (.bl (phB al ρ it why g)) H'
theorem scPH:FnScope ["gates", "gate", "it", "why", "feeds", "word"] ["gates", "gate", "it", "why", "feeds"] (defScope (top 24)):=⟨rfl,rfl,rfl,by decide +kernel,rfl,by decide +kernel,by decide +kernel⟩
theorem zasd {ra:Addr}{rkv:List (Key × V)}{spt:Addr→Sp}{At:Addr→Prop} (F:Fun K "pair_holds" "pair_holds" (top 24) f fd) (T_RULES:TabOk P w K mg base CX0 k ["gates", "why", "it", "feeds"] spt At) (m_RULES:mg "RULES" = some (.ref ra)) (hKD:KD P w K ra rkv)
  (hT:∀ wo∈RU,∃ f,valV rkv (.inr wo)=some (.ref f)∧At f∧spt f=spRu wo) (hN:∀ wo,wo ∉ RU→valV rkv (.inr wo)=none) (z_tuple:mg "tuple" = none):FnOk P w K mg base CX0 (k + 1) f fd ["gates", "gate", "it", "why", "feeds"] spPH:=by
 have nd:=scPH.nd
 refine F.ok scPH (fun vs H Q E h=>by obtain ⟨gl,p,fl,al,g,it,why,ρ,rfl,_⟩:=h; rfl) (fun cdv A outer s0 H vs Q E hr h=>?_)
 obtain ⟨gl,p,fl,al,g,it,why,ρ,rfl,r,hp,ni,hf,li,lf,q⟩:=h
 refine ⟨_,(Pr.h (zaaf (zaat (i:=5) nd rfl (av24.l 5 rfl) (zaao zaa9 (qv av24 1 rfl) zaae (fun _ _=>rfl))) (zaaf (zaax (zaak zaa3 (qv av24 5 rfl) zaaj (nomark _)) (zaag (zaal (zaaw (zaar zaa3 (qv av24 3 rfl) zaaj (nomark _)) (zaau (zaar (zacv hr.units) (zaao zaaq (qv av24 0 rfl) (qv av24 2 rfl) (fun _ _=>rfl)) (zaay (zaaa zaaj (zaaa (zaao zaa9 (qv av24 1 rfl) zaae (fun _ _=>rfl)) (zaaa (zaao zaaq (qv av24 4 rfl) zaae (fun _ _=>rfl)) zaab zaas) zaas) zaad)) (nomark _)))))) zaan) (zaaf (zaax (zaak zaa3 (qv av24 3 rfl) zaaj (nomark _)) (zaag (zaal (zaar (zacv hr.units) (zaao zaaq (qv av24 0 rfl) (qv av24 2 rfl) (fun _ _=>rfl)) (zabg zabo (gl24.g 0 rfl) z_tuple zacb (zaaa (zaav zace (zaa0 (zaaa (qv av24 5 rfl) zaab zaac)) (qv av24 4 rfl)) zaab zabh) zacc zacd) (nomark _)))) zaan) (zaaf (zaax (zabx (zac1 (zaak zaa3 (qv av24 3 rfl) zaaj (nomark _)) (zacq (zaak zaep (qv av24 5 rfl) (zaay (zaaa zaaj (zaaa zaaj (zaaa zaaj zaab zaad) zaad) zaad)) rfl)))) (zaag (zaal (zaar (zacv hr.units) (zaao zaaq (qv av24 0 rfl) (qv av24 2 rfl) (fun _ _=>rfl)) (zaay (zaaa (qv av24 5 rfl) (zaaa (zaao zaaq (qv av24 4 rfl) zaae (fun _ _=>rfl)) (zaaa (zaao zaaq (qv av24 4 rfl) zaae (fun _ _=>rfl)) zaab zaas) zaas) zaac)) (nomark _)))) zaan) (zaag (zaal (zaaw (zaar zaf1 (qv av24 5 rfl) (zadn (v:=.ref _) (gl24.g 1 rfl) m_RULES rfl zafg) rfl) (zaau (zahk T_RULES hr pass0 (zagb (zadn (v:=.ref _) (gl24.g 1 rfl) m_RULES rfl zafg) (qv av24 5 rfl) (fun _ _=>rfl)) (zaaa (qv av24 0 rfl) (zaaa (qv av24 3 rfl) (zaaa (qv av24 2 rfl) (zaaa (qv av24 4 rfl) zaab zaac) zaac) zaac) zaac))))))))))),?_⟩
 (try dsimp only [cxOf])
 obtain ⟨t,et⟩:∃ t,al[it]?=some t:=⟨_,List.getElem?_eq_getElem li⟩
 obtain ⟨xs,pt,hg,at1,hpt,lx⟩:=r.at et
 have sct:=Gt.vs_sca t
 cases g with
 | inp=>exact absurd rfl ni
 | keep ff a =>
  have hp:H p=some (.tup [.str "keep",.int ff,.int a]):=hp
  have hf:H fl=some (.lst [.int ((ρ a:Nat):Int)]):=hf
  have q:∀ H',Ch [] H H'→Q (.bl (decide (why = "keep") && decide (al[it]?=some (.keep ff (ρ a))))) H':=q
  have sc2:=Gt.vs_sca (.keep ff (ρ a))
  rw [zabr et] at q
  walk_at "rd"
  refine ite2 (fun ez=>?_) (fun ez=>?_)
  ·have hw:=zabz ez
   subst hw
   rw [decide_eq_true rfl,Bool.true_and] at q
   walk_at "rd"
   rename_i T hT
   exact q _ (Ch.new hT _)
  ·have hw:=zabm ez
   rw [decide_eq_false hw,Bool.false_and] at q
   walk_at "rd"
   exact q _ (Ch.refl _ _)
 | zero =>
  have hp:H p=some (.tup [.str "zero"]):=hp
  have hf:H fl=some (.lst []):=hf
  have ev:=hN "zero" (by decide +kernel)
  have e3:inV (V.str "zero") [.str "and",.str "or",.str "xor"]=false:=by decide +kernel
  walk_at "rd"
  refine ite2 (fun ez=>?_) (fun ez=>?_)
  ·have hw:=zabz ez
   subst hw
   rw [zad4 rfl,zabr et] at q
   have sc2:=Gt.vs_sca (Gt.zero)
   walk_at "rd"
   rename_i e1 h1 e2 h2 e4 h4
   exact q _ (((Ch.new h1 _).trans (Ch.new h2 _)).trans (Ch.new h4 _))
  have w0:=zabm ez
  clear ez
  walk_at "rd"
  refine ite2 (fun ez=>?_) (fun ez=>?_)
  ·have hw:=zabz ez
   subst hw
   rw [zacp rfl w0 (fun z=>by cases z.2)] at q
   walk_at "rd"
   rename_i e1 h1
   rw [ev]
   refine iteF ?_
   exact q _ (Ch.new h1 _)
  ·have w1:=zabm ez
   clear ez
   refine iteF ?_
   rw [zacp rfl w0 (fun z=>w1 z.1)] at q
   walk_at "rd"
   rw [ev]
   refine iteF ?_
   exact q _ (Ch.refl _ _)
 | one =>
  have hp:H p=some (.tup [.str "one"]):=hp
  have hf:H fl=some (.lst []):=hf
  have ev:=hN "one" (by decide +kernel)
  have e3:inV (V.str "one") [.str "and",.str "or",.str "xor"]=false:=by decide +kernel
  walk_at "rd"
  refine ite2 (fun ez=>?_) (fun ez=>?_)
  ·have hw:=zabz ez
   subst hw
   rw [zad4 rfl,zabr et] at q
   have sc2:=Gt.vs_sca (Gt.one)
   walk_at "rd"
   rename_i e1 h1 e2 h2 e4 h4
   exact q _ (((Ch.new h1 _).trans (Ch.new h2 _)).trans (Ch.new h4 _))
  have w0:=zabm ez
  clear ez
  walk_at "rd"
  refine ite2 (fun ez=>?_) (fun ez=>?_)
  ·have hw:=zabz ez
   subst hw
   rw [zacp rfl w0 (fun z=>by cases z.2)] at q
   walk_at "rd"
   rename_i e1 h1
   rw [ev]
   refine iteF ?_
   exact q _ (Ch.new h1 _)
  ·have w1:=zabm ez
   clear ez
   refine iteF ?_
   rw [zacp rfl w0 (fun z=>w1 z.1)] at q
   walk_at "rd"
   rw [ev]
   refine iteF ?_
   exact q _ (Ch.refl _ _)
 | not a =>
  have hp:H p=some (.tup [.str "not",.int a]):=hp
  have hf:H fl=some (.lst [.int ((ρ a:Nat):Int)]):=hf
  obtain ⟨tf,ev,at_,esp⟩:=hT "not" (by decide +kernel)
  have la:=lf a (by simp [Gt.feeds])
  have e3:inV (V.str "not") [.str "and",.str "or",.str "xor"]=false:=by decide +kernel
  walk_at "rd"
  refine ite2 (fun ez=>?_) (fun ez=>?_)
  ·have hw:=zabz ez
   subst hw
   rw [zad4 rfl,zabr et] at q
   have sc2:=Gt.vs_sca (Gt.not (ρ a))
   walk_at "rd"
   rename_i e1 h1 e2 h2 e4 h4
   exact q _ (((Ch.new h1 _).trans (Ch.new h2 _)).trans (Ch.new h4 _))
  have w0:=zabm ez
  clear ez
  walk_at "rd"
  refine ite2 (fun ez=>?_) (fun ez=>?_)
  ·have hw:=zabz ez
   subst hw
   rw [zacp rfl w0 (fun z=>by cases z.2)] at q
   walk_at "rd"
   rename_i e1 h1
   rw [ev]
   refine iteT ?_
   walk_at "rd"
   rw [esp]
   exact .inl ⟨rfl,gl,fl,al,_,it,ρ a,rfl,GA.ch r (Ch.new h1 _),Ch.get (W:=[]) (Ch.new h1 _) hf List.not_mem_nil,li,la,fun H' c=>q _ ((Ch.new h1 _).trans c)⟩
  ·have w1:=zabm ez
   clear ez
   refine iteF ?_
   rw [zacp rfl w0 (fun z=>w1 z.1)] at q
   walk_at "rd"
   rw [ev]
   refine iteT ?_
   walk_at "rd"
   rw [esp]
   exact .inl ⟨rfl,gl,fl,al,_,it,ρ a,rfl,r,hf,li,la,q⟩
 | and a b =>
  have hp:H p=some (.tup [.str "and",.int a,.int b]):=hp
  have hf:H fl=some (.lst [.int ((ρ a:Nat):Int),.int ((ρ b:Nat):Int)]):=hf
  obtain ⟨tf,ev,at_,esp⟩:=hT "and" (by decide +kernel)
  have la:=lf a (by simp [Gt.feeds])
  have lb:=lf b (by simp [Gt.feeds])
  have e3:inV (V.str "and") [.str "and",.str "or",.str "xor"]=true:=by decide +kernel
  walk_at "rd"
  refine ite2 (fun ez=>?_) (fun ez=>?_)
  ·have hw:=zabz ez
   subst hw
   rw [zad4 rfl,zabr et] at q
   have sc2:=Gt.vs_sca (Gt.and (ρ a) (ρ b))
   walk_at "rd"
   rename_i e1 h1 e2 h2 e4 h4
   exact q _ (((Ch.new h1 _).trans (Ch.new h2 _)).trans (Ch.new h4 _))
  have w0:=zabm ez
  clear ez
  walk_at "rd"
  refine ite2 (fun ez=>?_) (fun ez=>?_)
  ·have hw:=zabz ez
   subst hw
   rw [zagr rfl,zabr et] at q
   have sc3:ScaL [V.str "and",V.int ((ρ b:Nat):Int),V.int ((ρ a:Nat):Int)]:=Gt.vs_sca (.and (ρ b) (ρ a))
   walk_at "rd"
   rename_i e1 h1 e2 h2
   exact q _ ((Ch.new h1 _).trans (Ch.new h2 _))
  ·have w1:=zabm ez
   clear ez
   refine iteF ?_
   rw [zacp rfl w0 (fun z=>w1 z.1)] at q
   walk_at "rd"
   rw [ev]
   refine iteT ?_
   walk_at "rd"
   rw [esp]
   exact .inr (.inl ⟨rfl,gl,fl,al,_,it,ρ a,ρ b,rfl,r,hf,li,la,lb,q⟩)
 | or a b =>
  have hp:H p=some (.tup [.str "or",.int a,.int b]):=hp
  have hf:H fl=some (.lst [.int ((ρ a:Nat):Int),.int ((ρ b:Nat):Int)]):=hf
  obtain ⟨tf,ev,at_,esp⟩:=hT "or" (by decide +kernel)
  have la:=lf a (by simp [Gt.feeds])
  have lb:=lf b (by simp [Gt.feeds])
  have e3:inV (V.str "or") [.str "and",.str "or",.str "xor"]=true:=by decide +kernel
  walk_at "rd"
  refine ite2 (fun ez=>?_) (fun ez=>?_)
  ·have hw:=zabz ez
   subst hw
   rw [zad4 rfl,zabr et] at q
   have sc2:=Gt.vs_sca (Gt.or (ρ a) (ρ b))
   walk_at "rd"
   rename_i e1 h1 e2 h2 e4 h4
   exact q _ (((Ch.new h1 _).trans (Ch.new h2 _)).trans (Ch.new h4 _))
  have w0:=zabm ez
  clear ez
  walk_at "rd"
  refine ite2 (fun ez=>?_) (fun ez=>?_)
  ·have hw:=zabz ez
   subst hw
   rw [zagr rfl,zabr et] at q
   have sc3:ScaL [V.str "or",V.int ((ρ b:Nat):Int),V.int ((ρ a:Nat):Int)]:=Gt.vs_sca (.or (ρ b) (ρ a))
   walk_at "rd"
   rename_i e1 h1 e2 h2
   exact q _ ((Ch.new h1 _).trans (Ch.new h2 _))
  ·have w1:=zabm ez
   clear ez
   refine iteF ?_
   rw [zacp rfl w0 (fun z=>w1 z.1)] at q
   walk_at "rd"
   rw [ev]
   refine iteT ?_
   walk_at "rd"
   rw [esp]
   exact .inr (.inr (.inl ⟨rfl,gl,fl,al,_,it,ρ a,ρ b,rfl,r,hf,li,la,lb,q⟩))
 | xor a b =>
  have hp:H p=some (.tup [.str "xor",.int a,.int b]):=hp
  have hf:H fl=some (.lst [.int ((ρ a:Nat):Int),.int ((ρ b:Nat):Int)]):=hf
  obtain ⟨tf,ev,at_,esp⟩:=hT "xor" (by decide +kernel)
  have la:=lf a (by simp [Gt.feeds])
  have lb:=lf b (by simp [Gt.feeds])
  have e3:inV (V.str "xor") [.str "and",.str "or",.str "xor"]=true:=by decide +kernel
  walk_at "rd"
  refine ite2 (fun ez=>?_) (fun ez=>?_)
  ·have hw:=zabz ez
   subst hw
   rw [zad4 rfl,zabr et] at q
   have sc2:=Gt.vs_sca (Gt.xor (ρ a) (ρ b))
   walk_at "rd"
   rename_i e1 h1 e2 h2 e4 h4
   exact q _ (((Ch.new h1 _).trans (Ch.new h2 _)).trans (Ch.new h4 _))
  have w0:=zabm ez
  clear ez
  walk_at "rd"
  refine ite2 (fun ez=>?_) (fun ez=>?_)
  ·have hw:=zabz ez
   subst hw
   rw [zagr rfl,zabr et] at q
   have sc3:ScaL [V.str "xor",V.int ((ρ b:Nat):Int),V.int ((ρ a:Nat):Int)]:=Gt.vs_sca (.xor (ρ b) (ρ a))
   walk_at "rd"
   rename_i e1 h1 e2 h2
   exact q _ ((Ch.new h1 _).trans (Ch.new h2 _))
  ·have w1:=zabm ez
   clear ez
   refine iteF ?_
   rw [zacp rfl w0 (fun z=>w1 z.1)] at q
   walk_at "rd"
   rw [ev]
   refine iteT ?_
   walk_at "rd"
   rw [esp]
   exact .inr (.inr (.inr (.inl ⟨rfl,gl,fl,al,_,it,ρ a,ρ b,rfl,r,hf,li,la,lb,q⟩)))
 | pick a b c =>
  have hp:H p=some (.tup [.str "pick",.int a,.int b,.int c]):=hp
  have hf:H fl=some (.lst [.int ((ρ a:Nat):Int),.int ((ρ b:Nat):Int),.int ((ρ c:Nat):Int)]):=hf
  obtain ⟨tf,ev,at_,esp⟩:=hT "pick" (by decide +kernel)
  have la:=lf a (by simp [Gt.feeds])
  have lb:=lf b (by simp [Gt.feeds])
  have lc:=lf c (by simp [Gt.feeds])
  have e3:inV (V.str "pick") [.str "and",.str "or",.str "xor"]=false:=by decide +kernel
  walk_at "rd"
  refine ite2 (fun ez=>?_) (fun ez=>?_)
  ·have hw:=zabz ez
   subst hw
   rw [zad4 rfl,zabr et] at q
   have sc2:=Gt.vs_sca (Gt.pick (ρ a) (ρ b) (ρ c))
   walk_at "rd"
   rename_i e1 h1 e2 h2 e4 h4
   exact q _ (((Ch.new h1 _).trans (Ch.new h2 _)).trans (Ch.new h4 _))
  have w0:=zabm ez
  clear ez
  walk_at "rd"
  refine ite2 (fun ez=>?_) (fun ez=>?_)
  ·have hw:=zabz ez
   subst hw
   rw [zacp rfl w0 (fun z=>by cases z.2)] at q
   walk_at "rd"
   rename_i e1 h1
   rw [ev]
   refine iteT ?_
   walk_at "rd"
   rw [esp]
   exact .inr (.inr (.inr (.inr (⟨rfl,gl,fl,al,_,it,ρ a,ρ b,ρ c,rfl,GA.ch r (Ch.new h1 _),Ch.get (W:=[]) (Ch.new h1 _) hf List.not_mem_nil,li,la,lb,lc,fun H' c=>q _ ((Ch.new h1 _).trans c)⟩))))
  ·have w1:=zabm ez
   clear ez
   refine iteF ?_
   rw [zacp rfl w0 (fun z=>w1 z.1)] at q
   walk_at "rd"
   rw [ev]
   refine iteT ?_
   walk_at "rd"
   rw [esp]
   exact .inr (.inr (.inr (.inr (⟨rfl,gl,fl,al,_,it,ρ a,ρ b,ρ c,rfl,r,hf,li,la,lb,lc,q⟩))))
end
end

section
theorem SqX.ch {kd:SK}{H H':Hp}{a:Addr}{xs:List V} (h:SqX kd H a xs) (c:Ch [] H H'):SqX kd H' a xs:=by
 cases kd <;> exact c.get h (by simp)
theorem SqX.sq {kd:SK}{K:PySem.W.Frag}{H:Hp}{a:Addr}{xs:List V} (h:SqX kd H a xs):Sq kd K H a xs:=by
 cases kd with
 | list=>exact SqL.of h
 | tuple=>exact SqT.of h
theorem SqX.or {kd:SK}{K:PySem.W.Frag}{H:Hp}{a:Addr}{xs:List V} (h:SqX kd H a xs):SqL K H a xs∨SqT K H a xs:=by
 cases kd with
 | list=>exact .inl (SqL.of h)
 | tuple=>exact .inr (SqT.of h)
theorem zags {K:PySem.W.Frag}{kd:SK}{a:Addr}{xs:List V}{g:TG}{tb:TS}{D:Ends}{σ:St}{H:Hp} (Pv:Nat→St→Hp→Prop) (h0:Pv 0 σ H) (hl:∀ i σ H,i≤xs.length→Pv i σ H→Sq kd K H a xs)
  (hs:∀ i x σ H,xs[i]?=some x→Pv i σ H→g x σ H fun σ2 H2=>tb { D with nx:=Pv (i + 1),ct:=Pv (i + 1),bk:=D.nx } σ2 H2) (hd:∀ σ H,Pv xs.length σ H→D.nx σ H):Loop (ItK K kd a) g tb D σ H:=by
 cases kd with
 | list=>exact zaer Pv h0 hl hs hd
 | tuple=>exact zamq Pv h0 hl hs hd
structure GsK (H:Hp) (gs:List Gt) (xs:List V):Prop where
 len:xs.length=gs.length
 at_:∀ (i:Nat) (g:Gt),gs[i]?=some g→∃ (p:Addr) (kd:SK),xs[i]?=some (.ref p)∧SqX kd H p g.vs
theorem GsK.ch {H H':Hp}{gs:List Gt}{xs:List V} (h:GsK H gs xs) (c:Ch [] H H'):GsK H' gs xs:=⟨h.len,fun i g e=>let ⟨p,kd,a,b⟩:=h.at_ i g e; ⟨p,kd,a,b.ch c⟩⟩
def WyAt (H:Hp) (v:V):Option Str→Prop
 | some s=>v=.str s
 | none=>Wd H v
theorem WyAt.ch {H H':Hp}{v:V}{o:Option Str} (h:WyAt H v o) (c:Ch [] H H'):WyAt H' v o:=by
 cases o with
 | none=>exact Wd.ch h c
 | some s=>exact h
abbrev Prs:=List (Option (Nat × Option Str))
structure PrK (H:Hp) (prs:Prs) (ps:List V):Prop where
 len:ps.length=prs.length
 at_:∀ (i:Nat) (p:Nat × Option Str),prs[i]?=some (some p)→∃ (a:Addr) (kd:SK) (v:V),ps[i]?=some (.ref a)∧SqX kd H a [nV p.1,v]∧WyAt H v p.2
 no:∀ i:Nat,prs[i]?=some none→ps[i]?=some .non
theorem PrK.ch {H H':Hp}{prs:Prs}{ps:List V} (h:PrK H prs ps) (c:Ch [] H H'):PrK H' prs ps:=⟨h.len,fun i p e=>let ⟨a,kd,v,b,d,w⟩:=h.at_ i p e; ⟨a,kd,v,b,d.ch c,w.ch c⟩,h.no⟩
theorem PrK.nil {H:Hp}:PrK H [] []:=⟨rfl,fun i p e=>by simp at e,fun i e=>by simp at e⟩
theorem PrK.push {H:Hp}{prs:Prs}{ps:List V}{a:Addr}{p:Nat × Option Str}{kd:SK}{v:V} (h:PrK H prs ps) (ha:SqX kd H a [nV p.1,v]) (hw:WyAt H v p.2):PrK H (prs++[some p]) (ps++[.ref a]):=by
 refine ⟨by simp [h.len],fun i x e=>?_,fun i e=>?_⟩
 ·rcases zaeg e with ⟨hi,e⟩ | ⟨rfl,e2⟩
  ·obtain ⟨a',kd',v',h1,h2⟩:=h.at_ i x e
   exact ⟨a',kd',v',by rw [List.getElem?_append_left (by rw [h.len]; exact hi)]; exact h1,h2⟩
  ·cases e2
   exact ⟨a,kd,v,by rw [← h.len]; simp,ha,hw⟩
 ·rcases zaeg e with ⟨hi,e⟩ | ⟨rfl,e2⟩
  ·rw [List.getElem?_append_left (by rw [h.len]; exact hi)]; exact h.no i e
  ·cases e2
theorem PrK.pushN {H:Hp}{prs:Prs}{ps:List V} (h:PrK H prs ps):PrK H (prs++[none]) (ps++[.non]):=by
 refine ⟨by simp [h.len],fun i x e=>?_,fun i e=>?_⟩
 ·rcases zaeg e with ⟨hi,e⟩ | ⟨rfl,e2⟩
  ·obtain ⟨a',kd',v',h1,h2⟩:=h.at_ i x e
   exact ⟨a',kd',v',by rw [List.getElem?_append_left (by rw [h.len]; exact hi)]; exact h1,h2⟩
  ·cases e2
 ·rcases zaeg e with ⟨hi,e⟩ | ⟨rfl,_⟩
  ·rw [List.getElem?_append_left (by rw [h.len]; exact hi)]; exact h.no i e
  ·rw [← h.len]; simp
structure WI (H0 H:Hp) (l:Addr) (al:List Gt):Prop where
 ch:Ch [] H0 H
 fr:H0 l=none
 ga:GA H l al
theorem WI.go {H0 H H1:Hp}{l:Addr}{al:List Gt} (h:WI H0 H l al) (c:Ch [] H H1):WI H0 H1 l al:=⟨h.ch.trans c,h.fr,h.ga.ch c⟩
theorem WI.push {H0 H:Hp}{l p:Addr}{al:List Gt}{xs:List V}{g:Gt} (h:WI H0 H l al) (hl:H l=some (.lst xs)) (hp:H p=some (.tup g.vs)):WI H0 (upd H l (.lst (xs++[.ref p]))) l (al++[g]):=by
 obtain ⟨ys,hy,gy⟩:=h.ga.ex
 rw [hl] at hy
 cases hy
 have c:Ch [l] H (upd H l (.lst (xs++[.ref p]))):=Ch.put
 refine ⟨Ch.forget ((Ch.wk h.ch).trans c) (fun w hw=>by simp at hw; rw [hw]; exact h.fr),h.fr,_,zaai,?_⟩
 have t:Tu H (upd H l (.lst (xs++[.ref p]))):=Tu.ch c hl (fun xs z=>by cases z)
 exact (gy.tu t).snoc (t p _ hp)
local macro_rules | `(tactic| walk_at "sqx")=>`(tactic| first
 | with_reducible assumption
 | (apply SqX.ch; (focus with_reducible assumption); (focus walk_at "ch")))
local macro_rules | `(tactic| walk_at "user")=>`(tactic| first
 | (apply GA.ch; (focus with_reducible assumption); (focus walk_at "ch"))
 | (apply SqX.or; (focus walk_at "sqx"))
 | (focus walk_at "sqx")
 | exact Gt.vs_sca _)
section
variable {P:Program}{w:World}{K:PySem.W.Frag}{mg:Str→Option Value}{base:Heap}{f:Addr}{fd:FuncData}{k:Nat}
theorem zacf:Nd "is_listed" := by decide +kernel
theorem zadc:Nd "is_pair" := by decide +kernel
theorem gl7:AG (defScope (top 7)) ["len", "is_listed"]:=⟨by decide +kernel⟩
theorem av7:AF (defScope (top 7)) ["thing"]:=⟨by decide +kernel⟩
def spPair:Sp:=fun vs H Q _=>∃ (kd:SK) (a:Addr) (x y:V),vs=[.ref a]∧SqX kd H a [x,y]∧∀ H',Ch [] H H'→Q (.bl true) H'
theorem scPair:FnScope ["thing"] ["thing"] (defScope (top 7)):=⟨rfl,rfl,rfl,by decide +kernel,rfl,by decide +kernel,by decide +kernel⟩
theorem zao7 (F:Fun K "is_pair" "is_pair" (top 7) f fd) (Dis_listed:DefOk P w K mg base CX0 k "is_listed" ["thing"] spListed) (z_len:mg "len" = none):FnOk P w K mg base CX0 (k + 1) f fd ["thing"] spPair:=by
 have nd:=scPair.nd
 refine F.ok scPair (fun vs H Q E h=>by obtain ⟨kd,a,x,y,rfl,_⟩:=h; rfl) (fun cdv A outer s0 H vs Q E hr h=>?_)
 obtain ⟨kd,a,x,y,rfl,hx,q⟩:=h
 refine ⟨_,(Pr.h (zaag (zaal (zaaw (zaah Dis_listed hr (gl7.g 1 rfl) pass0 (zaaa (qv av7 0 rfl) zaab zaac) zacf) (zaau (zaar zaa3 (zaap zaam (gl7.g 0 rfl) z_len PySem.boot_len (zaaa (qv av7 0 rfl) zaab zaac) zabb zabc) zaae (nomark _))))))),?_⟩
 (try dsimp only [cxOf])
 walk_at "rd"
 rename_i H1 c1
 exact q _ c1
theorem gl25:AG (defScope (top 25)) ["is_listed", "list", "len", "tuple", "is_gate"]:=⟨by decide +kernel⟩
theorem av25:AF (defScope (top 25)) ["small", "lost", "gates", "total", "thing", "gate"]:=⟨by decide +kernel⟩
def spWL (CN:Addr):Sp:=fun vs H Q _=>∃ (nt gp op ll:Addr) (sg:List Gt) (xs:List V) (so:List Nat) (kd:SK) (lo:List Gt) (zs:List V),vs=[.ref nt,.ref ll]∧NetAt CN H nt gp op sg xs so∧SqX kd H ll zs∧GsK H lo zs∧sg.length≤1000∧lo.length≤1000∧(∀ (j:Nat) (g:Gt),lo[j]?=some g→g≠.inp∧g.ok (sg.length + j) (sg.length + lo.length)) ∧
 ∀ (r:Addr) (H':Hp),Ch [] H H'→GA H' r (sg++lo)→Q (.ref r) H'
theorem scWL:FnScope ["small", "lost", "gates", "total", "thing", "gate"] ["small", "lost"] (defScope (top 25)):=⟨rfl,rfl,rfl,by decide +kernel,rfl,by decide +kernel,by decide +kernel⟩
theorem zase {CN:Addr} (F:Fun K "with_lost" "with_lost" (top 25) f fd) (cl:Cls K CN) (nG:NoAttr K CN "gates") (Dis_listed:DefOk P w K mg base CX0 k "is_listed" ["thing"] spListed) (Dis_gate:DefOk P w K mg base CX0 k "is_gate" ["thing", "ahead", "total"] spGate) (z_len:mg "len" = none) (z_list:mg "list" = none) (z_tuple:mg "tuple" = none):FnOk P w K mg base CX0 (k + 1) f fd ["small", "lost"] (spWL CN):=by
 have nd:=scWL.nd
 refine F.ok scWL (fun vs H Q E h=>by obtain ⟨nt,gp,op,ll,sg,xs,so,kd,lo,zs,rfl,_⟩:=h; rfl) (fun cdv A outer s0 H vs Q E hr h=>?_)
 obtain ⟨nt,gp,op,ll,sg,xs,so,kd,lo,zs,rfl,na,hll,gz,ls,l2,lok,q⟩:=h
 refine ⟨_,(Pr.h (zaaf (zaax (zabp (zabf (zaah Dis_listed hr (gl25.g 0 rfl) pass0 (zaaa (qv av25 1 rfl) zaab zaac) zacf))) (zaag (zaal zabv)) zaan) (zaaf (zaat (i:=2) nd rfl (av25.l 2 rfl) (zabg zab9 (gl25.g 1 rfl) z_list zadi (zaaa (zab7 (qv av25 0 rfl) rfl) zaab zaa4) zadj zadk)) (zaaf (zaat (i:=3) nd rfl (av25.l 3 rfl) (zaav zacx (zaap zaam (gl25.g 2 rfl) z_len PySem.boot_len (zaaa (qv av25 2 rfl) zaab zaac) zabb zabc) (zaap zaam (gl25.g 2 rfl) z_len PySem.boot_len (zaaa (qv av25 1 rfl) zaab zaac) zabb zabc))) (zaaf (zaby PassesOwn.never rfl (zagf K rfl kd (qv av25 1 rfl)) (zaa1 (i:=4) nd rfl (av25.l 4 rfl)) (zaaz (zaat (i:=5) nd rfl (av25.l 5 rfl) (zaeu (zabf (zaah Dis_listed hr (gl25.g 0 rfl) pass0 (zaaa (qv av25 4 rfl) zaab zaac) zacf)) (zabg zabo (gl25.g 3 rfl) z_tuple zacb (zaaa (qv av25 4 rfl) zaab zaac) zacc zacd) zabv)) (zaaf (zaax (zabx (zack (zabp (zabf (zaah Dis_gate hr (gl25.g 4 rfl) pass0 (zaaa (qv av25 5 rfl) (zaaa (zaap zaam (gl25.g 2 rfl) z_len PySem.boot_len (zaaa (qv av25 2 rfl) zaab zaac) zabb zabc) (zaaa (qv av25 3 rfl) zaab zaac) zab0) zaac) zae5))) (zab8 (zaak zaa3 (zaao zaa9 (qv av25 5 rfl) zaae (fun _ _=>rfl)) zaaj (nomark _))))) (zaag (zaal zabv)) zaan) (zaag (zado (zae7 PySem.F.plainAttrs_list PySem.F.slot_list_append PySem.F.type_list_append zade (qv av25 2 rfl) (zaaa (qv av25 5 rfl) zaab zaac))))))) (zaag (zaal (qv av25 2 rfl)))))))),?_⟩
 (try dsimp only [cxOf])
 obtain ⟨dx,ob⟩:=na.ob
 have gt:=na.gt
 have lx:xs.length=sg.length:=na.gg.len
 have lz:zs.length=lo.length:=gz.len
 walk_at "rd"
 rename_i H1 c1 l hl
 have gg1:=na.gg.tu (Tu.same c1)
 refine ⟨⟨_,((hll.ch c1).ch (Ch.new hl _)).sq⟩,?_⟩
 refine zags (xs:=zs) (fun i σ H'=>WI H H' l (sg++lo.take i)∧∃ u v,σ=[some (.ref nt),some (.ref ll),some (.ref l),some (.int ((xs.length:Int) + (zs.length:Int))),u,v]) ⟨?_,_,_,rfl⟩ ?_ ?_ ?_
 ·refine ⟨c1.trans (Ch.new hl _),chFree c1 hl,⟨xs,zaai,?_⟩⟩
  rw [List.take_zero,List.append_nil]
  exact gg1.tu (Tu.same (Ch.new hl _))
 ·rintro i σ H' hi ⟨wi,_⟩
  exact (hll.ch wi.ch).sq
 ·rintro i x σ H' hx ⟨wi,u,v,rfl⟩
  have li:i < lo.length:=by rw [← lz]; exact (List.getElem?_eq_some_iff.mp hx).1
  obtain ⟨g,eg⟩:∃ g,lo[i]?=some g:=⟨_,List.getElem?_eq_getElem li⟩
  obtain ⟨p,kp,e1,e2⟩:=gz.at_ i g eg
  rw [hx] at e1
  cases e1
  have hp1:=e2.ch wi.ch
  obtain ⟨ni,ok⟩:=lok i g eg
  walk_at "rd"
  refine zaa6 (fun σ H2=>∃ p2,WI H H2 l (sg++lo.take i)∧H2 p2=some (.tup g.vs)∧σ=[some (.ref nt),some (.ref ll),some (.ref l),some (.int ((xs.length:Int) + (zs.length:Int))),some (.ref p),some (.ref p2)]) ?_ ?_
  ·cases kp with
   | list =>
    have hp0:H' p=some (.lst g.vs):=hp1
    walk_at "rd"
    rename_i H2 c2 l2 hl2
    exact ⟨wi.go (c2.trans (Ch.new hl2 _)),zaai,rfl⟩
   | tuple =>
    have hp0:H' p=some (.tup g.vs):=hp1
    walk_at "rd"
    rename_i H2 c2
    exact ⟨wi.go c2,c2.get hp0 (by simp),rfl⟩
  ·rintro σ H2 ⟨p2,wi2,hp2,rfl⟩
   obtain ⟨ys,hy,gy⟩:=wi2.ga.ex
   have ly:ys.length=sg.length + i:=by rw [gy.len,List.length_append,List.length_take]; omega
   obtain ⟨wd,rs,ev,hd⟩:=zagp g
   have ei:g.isIn=false:=by cases g <;> first | rfl | exact absurd rfl ni
   rw [ei] at hd
   walk_at "rd"
   refine ⟨by rw [ly,lx,lz]; exact ok,fun H3 c3=>?_⟩
   have hp3:=c3.get hp2 (by simp)
   have hp4:=hp3
   rw [ev] at hp4
   have hy3:=c3.get hy (by simp)
   have wi3:=wi2.go c3
   walk_at "rd"
   rw [hd]
   refine iteF ?_
   walk_at "rd"
   refine ⟨?_,_,_,rfl⟩
   rw [List.take_add_one,eg]
   show WI _ _ _ (sg++(lo.take i++[g]))
   rw [← List.append_assoc]
   exact wi3.push hy3 hp3
 ·rintro σ H' ⟨wi,u,v,rfl⟩
  walk_at "rd"
  have e:sg++lo.take zs.length=sg++lo:=by rw [lz,List.take_length]
  rw [e] at wi
  exact q _ _ wi.ch wi.ga
theorem gl26:AG (defScope (top 26)) ["len", "is_listed", "is_below", "is_pair"]:=⟨by decide +kernel⟩
theorem av26:AF (defScope (top 26)) ["pairs", "count", "total", "pair"]:=⟨by decide +kernel⟩
def spAP:Sp:=fun vs H Q _=>∃ (kd:SK) (ql:Addr) (prs:Prs) (qs:List V) (n t:Nat),vs=[.ref ql,.int (n:Int),.int (t:Int)]∧SqX kd H ql qs∧PrK H prs qs∧(∀ p,some p∈prs→p.1 < t)∧∀ (H':Hp),Ch [] H H'→Q (.bl (decide (prs.length=n))) H'
theorem scAP:FnScope ["pairs", "count", "total", "pair"] ["pairs", "count", "total"] (defScope (top 26)):=⟨rfl,rfl,rfl,by decide +kernel,rfl,by decide +kernel,by decide +kernel⟩
theorem zasf (F:Fun K "are_pairs" "are_pairs" (top 26) f fd) (Dis_listed:DefOk P w K mg base CX0 k "is_listed" ["thing"] spListed) (Dis_pair:DefOk P w K mg base CX0 k "is_pair" ["thing"] spPair) (Dis_below:DefOk P w K mg base CX0 k "is_below" ["thing", "bound"] spBelow) (z_len:mg "len" = none):FnOk P w K mg base CX0 (k + 1) f fd ["pairs", "count", "total"] spAP:=by
 have nd:=scAP.nd
 refine F.ok scAP (fun vs H Q E h=>by obtain ⟨kd,ql,prs,qs,n,t,rfl,_⟩:=h; rfl) (fun cdv A outer s0 H vs Q E hr h=>?_)
 obtain ⟨kd,ql,prs,qs,n,t,rfl,hql,pp,lt,q⟩:=h
 refine ⟨_,(Pr.h (zaaf (zaax (zabx (zack (zabp (zabf (zaah Dis_listed hr (gl26.g 1 rfl) pass0 (zaaa (qv av26 0 rfl) zaab zaac) zacf))) (zab8 (zaak zaem (zaap zaam (gl26.g 0 rfl) z_len PySem.boot_len (zaaa (qv av26 0 rfl) zaab zaac) zabb zabc) (qv av26 1 rfl) (nomark _))))) (zaag (zaal zaa5)) zaan) (zaaf (zaby PassesOwn.never rfl (zagf K rfl kd (qv av26 0 rfl)) (zaa1 (i:=3) nd rfl (av26.l 3 rfl)) (zaag (zaax (zabx (zac1 (zaak zaj8 (qv av26 3 rfl) zabv (nomark _)) (zacq (zabp (zabx (zac1 (zabf (zaah Dis_pair hr (gl26.g 3 rfl) pass0 (zaaa (qv av26 3 rfl) zaab zaac) zadc)) (zacq (zabf (zaah Dis_below hr (gl26.g 2 rfl) pass0 (zaaa (zaao (zab5 K rfl) (qv av26 3 rfl) zaae (fun _ _=>rfl)) (zaaa (qv av26 2 rfl) zaab zaac) zaas) zaci))))))))) (zaag (zaal zaa5)) zaan))) (zaag (zaal zaa5))))),?_⟩
 (try dsimp only [cxOf])
 have lq:=pp.len
 walk_at "rd"
 rename_i H1 c1
 by_cases ln:prs.length=n
 ·rw [decide_eq_true ln] at q
  refine iteNn (by rw [lq,ln]) ?_
  walk_at "rd"
  refine ⟨⟨_,(hql.ch c1).sq⟩,?_⟩
  refine zags (xs:=qs) (fun i σ H'=>Ch [] H H'∧∃ u,σ=[some (.ref ql),some (.int (n:Int)),some (.int (t:Int)),u]) ⟨c1,_,rfl⟩ ?_ ?_ ?_
  ·rintro i σ H' hi ⟨c,_⟩
   exact (hql.ch c).sq
  ·rintro i x σ H' hx ⟨c,u,rfl⟩
   have li:i < prs.length:=by rw [← pp.len]; exact (List.getElem?_eq_some_iff.mp hx).1
   obtain ⟨p,ep⟩:∃ p,prs[i]?=some p:=⟨_,List.getElem?_eq_getElem li⟩
   cases p with
   | none =>
    rw [pp.no i ep] at hx
    cases hx
    walk_at "rd"
   | some p =>
    obtain ⟨a,kp,wv,e1,e2,_⟩:=pp.at_ i p ep
    rw [hx] at e1
    cases e1
    have ha:=e2.ch c
    have lp:=lt p (List.mem_of_getElem? ep)
    walk_at "rd"
  ·rintro σ H' ⟨c,u,rfl⟩
   walk_at "rd"
   exact q _ c
 ·rw [decide_eq_false ln] at q
  refine ite2 (fun _=>q _ c1) (fun h=>absurd (show prs.length=n by simp at h; omega) ln)
end
end

section
local macro_rules | `(tactic| walk_at "sqx")=>`(tactic| first
 | with_reducible assumption
 | (apply SqX.ch; (focus with_reducible assumption); (focus walk_at "ch")))
local macro_rules | `(tactic| walk_at "user")=>`(tactic| first
 | (apply GA.ch; (focus with_reducible assumption); (focus walk_at "ch"))
 | (apply NetAt.ch; (focus with_reducible assumption); (focus walk_at "ch"))
 | (apply SqX.or; (focus walk_at "sqx"))
 | (focus walk_at "sqx")
 | exact Gt.vs_sca _)
structure Box (Pd:Prop):Prop where
 h:Pd
theorem zac5 (g:Gt):g.feeds.length≤3:=by cases g <;> simp [Gt.feeds]
def zp:Option (Nat × Option Str)→Nat × Str:=fun o=>((o.map (·.1)).getD 0,Str.empty)
def dn (prs:Prs):List (Nat × Str):=prs.map zp
def prF (prs:Prs) (fs:List Nat):Prs:=fs.map fun a=>prs.getD a none
theorem zagt (prs:Prs) (a:Nat):(dn prs).getD a (0,Str.empty)=zp (prs.getD a none):=by
 unfold dn
 rw [List.getD_eq_getElem?_getD,List.getElem?_map,List.getD_eq_getElem?_getD]
 cases prs[a]? <;> rfl
theorem zao8 (prs:Prs) (fs:List Nat):((prF prs fs).map fun p=>nV (zp p).1)=fs.map fun a=>nV (rho (dn prs) a):=by
 unfold prF rho
 rw [List.map_map]
 refine List.map_congr_left fun a _=>?_
 rw [zagt]; rfl
theorem zafh {prs:Prs}{fs:List Nat}{j a:Nat}{p:Option (Nat × Option Str)} (h:fs[j]?=some a) (e:prs[a]?=some p):prF prs (fs.take (j + 1))=prF prs (fs.take j)++[p]:=by
 unfold prF
 rw [List.take_add_one,h]
 simp [List.getD_eq_getElem?_getD,e]
theorem zads {α β:Type}{xs:List α}{ys:List β}{f:α × β→Bool} (h:∀ (i:Nat) (x:α) (y:β),xs[i]?=some x→ys[i]?=some y→f (x,y)=true):(xs.zip ys).all f=true:=by
 rw [List.all_eq_true]
 intro p hp
 obtain ⟨i,hi⟩:=List.getElem?_of_mem hp
 obtain ⟨x,y⟩:=p
 obtain ⟨h1,h2⟩:=List.getElem?_zip_eq_some.mp hi
 exact h i x y h1 h2
theorem zadl {α β:Type}{xs:List α}{ys:List β}{f:α × β→Bool}{i:Nat}{x:α}{y:β} (h1:xs[i]?=some x) (h2:ys[i]?=some y) (h:f (x,y)=false):(xs.zip ys).all f=false:=by
 rw [List.all_eq_false]
 exact ⟨(x,y),List.mem_of_getElem? (List.getElem?_zip_eq_some.mpr ⟨h1,h2⟩),by rw [h]; decide⟩
def okI (prs:Prs) (p:Nat × Nat):Bool:=decide (prs[p.1]?=some (some (p.2,some (Str.ofString "in"))))
def ihB (net sg:List Gt) (prs:Prs):Bool:=decide ((numsOf Gt.isIn net 0).length=(numsOf Gt.isIn sg 0).length) && ((numsOf Gt.isIn net 0).zip (numsOf Gt.isIn sg 0)).all (okI prs)
def okO (prs:Prs) (p:Nat × Nat):Bool:=match prs[p.1]? with
 | some (some q)=>decide (q.1=p.2)
 | _=>false
def ohB (os so:List Nat) (prs:Prs):Bool:=decide (os.length=so.length) && (os.zip so).all (okO prs)
def phW (al:List Gt) (ρ:Nat→Nat) (it:Nat) (g:Gt):Option Str→Bool
 | some s=>phB al ρ it s g
 | none=>false
def okG (al:List Gt) (prs:Prs) (p:Gt × Option (Nat × Option Str)):Bool:=p.1.isIn || match p.2 with
 | none=>true
 | some q=>(prF prs p.1.feeds).all Option.isSome && phW al (rho (dn prs)) q.1 p.1 q.2
def ghB (net al:List Gt) (prs:Prs):Bool:=(net.zip prs).all (okG al prs)
theorem zafu (t:Gt→Bool):∀ (gs:List Gt) (i x:Nat),x∈numsOf t gs i→x < i + gs.length
 | [],_,_,h=>by simp [numsOf] at h
 | g :: gs,i,x,h=>by
  have ih:=zafu t gs (i + 1) x
  rw [List.length_cons]
  unfold numsOf at h
  split at h
  ·rcases List.mem_cons.mp h with z | z
   ·omega
   ·have:=ih z; omega
  ·have:=ih h; omega
theorem zak9 {H:Hp}:∀ {prs:Prs}{zs:List V},PrK H prs zs→zs.any isNon=!prs.all Option.isSome:=by
 intro prs zs pz
 have h:∀ j:Nat,(zs[j]?).map isNon=(prs[j]?).map fun o=>!o.isSome:=fun j=>by
  by_cases lj:j < prs.length
  ·have ej:=List.getElem?_eq_getElem lj
   cases eo:prs[j] with
   | none=>rw [eo] at ej; rw [ej,pz.no j ej]; rfl
   | some p =>
    rw [eo] at ej
    obtain ⟨a,kd,wv,e1,_⟩:=pz.at_ j p ej
    rw [ej,e1]; rfl
  ·rw [List.getElem?_eq_none (l:=zs) (by rw [pz.len]; omega),List.getElem?_eq_none (l:=prs) (by omega)]; rfl
 have e:zs.map isNon=prs.map fun o=>!o.isSome:=List.ext_getElem? fun j=>by rw [List.getElem?_map,List.getElem?_map]; exact h j
 have:(zs.map isNon).any id=(prs.map fun o=>!o.isSome).any id:=by rw [e]
 rw [List.any_map,List.any_map] at this
 rw [show zs.any isNon=zs.any (id ∘ isNon) from rfl,this]
 simp [List.any_eq_not_all_not]
structure PHc (vs:List V) (H:Hp) (Q:VK):Prop where
 ex:∃ (gl p fl:Addr) (al:List Gt) (g:Gt) (it:Nat) (wv:V) (wo:Option Str) (ρ:Nat→Nat),vs=[.ref gl,.ref p,.int (it:Int),wv,.ref fl]∧GA H gl al∧H p=some (.tup g.vs)∧g≠.inp∧H fl=some (.lst (g.feeds.map fun a=>nV (ρ a)))∧WyAt H wv wo∧it < al.length∧(∀ a∈g.feeds,ρ a < al.length)∧∀ H',Ch [] H H'→Q (.bl (phW al ρ it g wo)) H'
def spPHc:Sp:=fun vs H Q _=>PHc vs H Q
section
variable {P:Program}{w:World}{K:PySem.W.Frag}{mg:Str→Option Value}{base:Heap}{f:Addr}{fd:FuncData}{k:Nat}
theorem zaho:Nd "ins_of" := by decide +kernel
theorem zaia:Nd "feeds_of" := by decide +kernel
theorem zagu:Nd "pair_holds" := by decide +kernel
theorem av27:AF (defScope (top 27)) ["net", "small", "pairs", "ins", "small_ins", "number", "small_number"]:=⟨by decide +kernel⟩
theorem gl27:AG (defScope (top 27)) ["ins_of", "len", "zip", "tuple"]:=⟨by decide +kernel⟩
def spIH (CN:Addr):Sp:=fun vs H Q _=>∃ (nt gp op st gp2 op2 ql:Addr) (net sg:List Gt) (xs xs2:List V) (os so:List Nat) (prs:Prs) (qs:List V) (kd:SK),vs=[.ref nt,.ref st,.ref ql]∧NetAt CN H nt gp op net xs os∧NetAt CN H st gp2 op2 sg xs2 so∧net.length≤1000∧sg.length≤1000∧SqX kd H ql qs∧PrK H prs qs ∧
 prs.length=net.length∧∀ (H':Hp),Ch [] H H'→Q (.bl (ihB net sg prs)) H'
theorem scIH:FnScope ["net", "small", "pairs", "ins", "small_ins", "number", "small_number"] ["net", "small", "pairs"] (defScope (top 27)):=⟨rfl,rfl,rfl,by decide +kernel,rfl,by decide +kernel,by decide +kernel⟩
theorem zasg {CN:Addr} (F:Fun K "ins_hold" "ins_hold" (top 27) f fd) (Dins_of:DefOk P w K mg base CX0 k "ins_of" ["net"] (spIns CN)) (z_len:mg "len" = none) (z_zip:mg "zip" = none) (z_tuple:mg "tuple" = none):FnOk P w K mg base CX0 (k + 1) f fd ["net", "small", "pairs"] (spIH CN):=by
 have nd:=scIH.nd
 refine F.ok scIH (fun vs H Q E h=>by obtain ⟨nt,gp,op,st,gp2,op2,ql,net,sg,xs,xs2,os,so,prs,qs,kd,rfl,_⟩:=h; rfl) (fun cdv A outer s0 H vs Q E hr h=>?_)
 obtain ⟨nt,gp,op,st,gp2,op2,ql,net,sg,xs,xs2,os,so,prs,qs,kd,rfl,na,na2,l1,l2,hql,pp,lp,q⟩:=h
 refine ⟨_,(Pr.h (zaaf (zaat (i:=3) nd rfl (av27.l 3 rfl) (zaah Dins_of hr (gl27.g 0 rfl) pass0 (zaaa (qv av27 0 rfl) zaab zaac) zaho)) (zaaf (zaat (i:=4) nd rfl (av27.l 4 rfl) (zaah Dins_of hr (gl27.g 0 rfl) pass0 (zaaa (qv av27 1 rfl) zaab zaac) zaho)) (zaaf (zaax (zaak zaem (zaap zaam (gl27.g 1 rfl) z_len PySem.boot_len (zaaa (qv av27 3 rfl) zaab zaac) zabb zabc) (zaap zaam (gl27.g 1 rfl) z_len PySem.boot_len (zaaa (qv av27 4 rfl) zaab zaac) zabb zabc) (nomark _)) (zaag (zaal zaa5)) zaan) (zaaf (zaby PassesOwn.never rfl (zafr .list .list (gl27.g 2 rfl) z_zip (zaaa (qv av27 3 rfl) (zaaa (qv av27 4 rfl) zaab zaac) zaac)) (zad0 rfl (zabd (zaa1 (i:=5) nd rfl (av27.l 5 rfl)) (zabd (zaa1 (i:=6) nd rfl (av27.l 6 rfl)) zacn))) (zaag (zaax (zabx (zack (zaak zaen (zaao (zab5 K rfl) (qv av27 2 rfl) (qv av27 5 rfl) (fun _ _=>rfl)) zabv (nomark _)) (zab8 (zaak (zaq7 hr.units) (zabg zabo (gl27.g 3 rfl) z_tuple zacb (zaaa (zaao (zab5 K rfl) (qv av27 2 rfl) (qv av27 5 rfl) (fun _ _=>rfl)) zaab zaas) zacc zacd) (zaay (zaaa (qv av27 6 rfl) (zaaa zaaj zaab zaad) zaac)) (nomark _))))) (zaag (zaal zaa5)) zaan))) (zaag (zaal zaa5))))))),?_⟩
 (try dsimp only [cxOf])
 walk_at "rd"
 rename_i r1 H1 c1 f1 e1 r2 H2 c2 f2 e2
 have c12:=c1.trans c2
 have e12:=c2.get e1 (by simp)
 by_cases le:(numsOf Gt.isIn net 0).length=(numsOf Gt.isIn sg 0).length
 ·refine iteNn (by rw [List.length_map,List.length_map,le]) ?_
  walk_at "rd"
  refine zaes (xs:=(numsOf Gt.isIn net 0).map nV) (ys:=(numsOf Gt.isIn sg 0).map nV) (fun i σ H'=>Ch [] H H'∧Ch [] H2 H'∧Box (∀ j n m,j < i→(numsOf Gt.isIn net 0)[j]?=some n→(numsOf Gt.isIn sg 0)[j]?=some m→okI prs (n,m)=true)∧∃ u v,σ=[some (.ref nt),some (.ref st),some (.ref ql),some (.ref r1),some (.ref r2),u,v]) ⟨c12,Ch.refl _ _,⟨fun j n m h=>absurd h (Nat.not_lt_zero _)⟩,_,_,rfl⟩ ?_ ?_ ?_
  ·rintro i σ H' hi ⟨c,d,_⟩
   exact ⟨SqL.of (d.get e12 (by simp)),SqL.of (d.get e2 (by simp))⟩
  ·rintro i x y σ H' T hx hy ⟨c,d,bx,u,v,rfl⟩ hT
   rw [List.getElem?_map] at hx hy
   obtain ⟨n,en,rfl⟩:=Option.map_eq_some_iff.mp hx
   obtain ⟨m,em,rfl⟩:=Option.map_eq_some_iff.mp hy
   have ln:n < prs.length:=by
    have:=zafu _ _ _ _ (List.mem_of_getElem? en)
    omega
   have bad:okI prs (n,m)=false→ihB net sg prs=false:=fun z=>by
    unfold ihB
    rw [zadl en em z,Bool.and_false]
   have good:okI prs (n,m)=true→Box (∀ j n m,j < i + 1→(numsOf Gt.isIn net 0)[j]?=some n→(numsOf Gt.isIn sg 0)[j]?=some m→okI prs (n,m)=true):=fun z=>⟨fun j n' m' hj e1 e2=>by
    by_cases hj':j < i
    ·exact bx.h j n' m' hj' e1 e2
    ·have:j=i:=by omega
     subst this
     rw [en] at e1
     rw [em] at e2
     cases e1
     cases e2
     exact z⟩
   clear bx
   have cT:=Ch.new (W:=[]) hT (.tup [nV n,nV m])
   have hT1:upd H' T (.tup [nV n,nV m]) T=_:=zaai
   have cc:=c.trans cT
   have dd:=d.trans cT
   have hql1:=hql.ch cc
   obtain ⟨p,ep⟩:∃ p,prs[n]?=some p:=⟨_,List.getElem?_eq_getElem ln⟩
   cases p with
   | none =>
    have at1:=zab4 (pp.no n ep)
    have b:=bad (by unfold okI; rw [ep]; simp)
    rw [b] at q
    clear bad good
    unfold nV at *
    obtain ⟨HT,eHT⟩:∃ HT,HT=upd H' T (.tup [V.int (n:Int),V.int (m:Int)]):=⟨_,rfl⟩
    rw [← eHT] at hql1 hT1 cc dd ⊢
    walk_at "rd"
    exact q _ cc
   | some p =>
    obtain ⟨a,kp,wv,ea,ha,wy⟩:=pp.at_ n p ep
    have at1:=zab4 ea
    have ha1:=ha.ch cc
    have wy1:=wy.ch cc
    obtain ⟨p1,p2⟩:=p
    clear ha wy
    have cmp:∀ {J:Hp}{q1 q2:Addr}{R:VK},Ch [] (upd H' T (.tup [nV n,nV m])) J→J q1=some (.tup [nV p1,wv])→J q2=some (.tup [nV m,.str "in"])→(R (.bl (!okI prs (n,m))) J)→NeC (.ref q1) (.ref q2) J R:=fun {J q1 q2 R} cj g1 g2 r=>by
     cases p2 with
     | none =>
      have:okI prs (n,m)=false:=by unfold okI; rw [ep]; simp
      rw [this] at r
      exact ⟨.inr ⟨q1,q2,_,_,_,_,rfl,rfl,g1,g2,Wd.ch wy1 cj,r⟩⟩
     | some s =>
      have wy1:wv=.str s:=wy1
      subst wy1
      have sc:∀ (i:Int) (t:Str),ScaL [V.int i,V.str t]:=fun i t=>⟨fun z hz=>by
       simp at hz
       rcases hz with rfl | rfl
       ·exact .inl ⟨_,rfl⟩
       ·exact .inr ⟨_,rfl⟩⟩
      refine ⟨.inl ⟨q1,q2,_,_,rfl,rfl,g1,g2,sc _ _,sc _ _,?_⟩⟩
      have:okI prs (n,m)=decide ([nV p1,V.str s]=[nV m,V.str (Str.ofString "in")]):=by
       unfold okI
       rw [ep]
       unfold nV
       refine decide_eq_decide.mpr ?_
       simp
       intro _
       omega
      rw [← this]; exact r
    generalize okI prs (n,m)=bo at cmp bad good
    unfold nV at *
    obtain ⟨HT,eHT⟩:∃ HT,HT=upd H' T (.tup [V.int (n:Int),V.int (m:Int)]):=⟨_,rfl⟩
    rw [← eHT] at ha1 hql1 hT1 cc dd cmp ⊢
    cases kp with
    | list =>
     have ha2:HT a=some (.lst _):=ha1
     walk_at "rd"
     rename_i T1 hT1 T2 hT2
     have cN:=(Ch.new (W:=[]) hT1 (.tup [V.int (p1:Int),wv])).trans (Ch.new hT2 (.tup [V.int (m:Int),V.str (Str.ofString "in")]))
     refine cmp cN (zaba hT2 zaai) zaai ?_
     cases bo with
     | true=>exact ⟨_,rfl,iteF ⟨cc.trans cN,dd.trans cN,good rfl,_,_,rfl⟩⟩
     | false =>
      rw [bad rfl] at q
      exact ⟨_,rfl,iteT (q _ (cc.trans cN))⟩
    | tuple =>
     have ha2:HT a=some (.tup _):=ha1
     walk_at "rd"
     rename_i T2 hT2
     have cN:=Ch.new (W:=[]) hT2 (.tup [V.int (m:Int),V.str (Str.ofString "in")])
     refine cmp cN (zaba hT2 ha2) zaai ?_
     cases bo with
     | true=>exact ⟨_,rfl,iteF ⟨cc.trans cN,dd.trans cN,good rfl,_,_,rfl⟩⟩
     | false =>
      rw [bad rfl] at q
      exact ⟨_,rfl,iteT (q _ (cc.trans cN))⟩
  ·rintro σ H' ⟨c,d,bx,u,v,rfl⟩
   rw [List.length_map,List.length_map,← le,Nat.min_self] at bx
   have b:ihB net sg prs=true:=by
    unfold ihB
    rw [decide_eq_true le,Bool.true_and]
    exact zads fun i n m e1 e2=>bx.h i n m (List.getElem?_eq_some_iff.mp e1).1 e1 e2
   rw [b] at q
   clear bx
   walk_at "rd"
   exact q _ c
 ·have b:ihB net sg prs=false:=by
   unfold ihB
   rw [decide_eq_false le,Bool.false_and]
  rw [b] at q
  refine ite2 (fun _=>q _ c12) (fun h=>absurd (show (numsOf Gt.isIn net 0).length=(numsOf Gt.isIn sg 0).length by simp at h; omega) le)
theorem gl28:AG (defScope (top 28)) ["len", "zip"]:=⟨by decide +kernel⟩
theorem av28:AF (defScope (top 28)) ["net", "small", "pairs", "out", "small_out"]:=⟨by decide +kernel⟩
def spOH (CN:Addr):Sp:=fun vs H Q _=>∃ (nt gp op st gp2 op2 ql:Addr) (net sg:List Gt) (xs xs2:List V) (os so:List Nat) (prs:Prs) (qs:List V) (kd:SK),vs=[.ref nt,.ref st,.ref ql]∧NetAt CN H nt gp op net xs os∧NetAt CN H st gp2 op2 sg xs2 so∧SqX kd H ql qs∧PrK H prs qs ∧
 (∀ o∈os,o < prs.length)∧∀ (H':Hp),Ch [] H H'→Q (.bl (ohB os so prs)) H'
theorem scOH:FnScope ["net", "small", "pairs", "out", "small_out"] ["net", "small", "pairs"] (defScope (top 28)):=⟨rfl,rfl,rfl,by decide +kernel,rfl,by decide +kernel,by decide +kernel⟩
theorem zash {CN:Addr} (F:Fun K "outs_hold" "outs_hold" (top 28) f fd) (cl:Cls K CN) (nO:NoAttr K CN "outs") (z_len:mg "len" = none) (z_zip:mg "zip" = none):FnOk P w K mg base CX0 (k + 1) f fd ["net", "small", "pairs"] (spOH CN):=by
 have nd:=scOH.nd
 refine F.ok scOH (fun vs H Q E h=>by obtain ⟨nt,gp,op,st,gp2,op2,ql,net,sg,xs,xs2,os,so,prs,qs,kd,rfl,_⟩:=h; rfl) (fun cdv A outer s0 H vs Q E hr h=>?_)
 obtain ⟨nt,gp,op,st,gp2,op2,ql,net,sg,xs,xs2,os,so,prs,qs,kd,rfl,na,na2,hql,pp,lo,q⟩:=h
 refine ⟨_,(Pr.h (zaaf (zaax (zaak zaem (zaap zaam (gl28.g 0 rfl) z_len PySem.boot_len (zaaa (zab7 (qv av28 0 rfl) rfl) zaab zaa4) zabb zabc) (zaap zaam (gl28.g 0 rfl) z_len PySem.boot_len (zaaa (zab7 (qv av28 1 rfl) rfl) zaab zaa4) zabb zabc) (nomark _)) (zaag (zaal zaa5)) zaan) (zaaf (zaby PassesOwn.never rfl (zafr .tuple .tuple (gl28.g 1 rfl) z_zip (zaaa (zab7 (qv av28 0 rfl) rfl) (zaaa (zab7 (qv av28 1 rfl) rfl) zaab zaa4) zaa4)) (zad0 rfl (zabd (zaa1 (i:=3) nd rfl (av28.l 3 rfl)) (zabd (zaa1 (i:=4) nd rfl (av28.l 4 rfl)) zacn))) (zaag (zaax (zabx (zack (zaak zaen (zaao (zab5 K rfl) (qv av28 2 rfl) (qv av28 3 rfl) (fun _ _=>rfl)) zabv (nomark _)) (zab8 (zaak zaem (zaao (zab5 K rfl) (zaao (zab5 K rfl) (qv av28 2 rfl) (qv av28 3 rfl) (fun _ _=>rfl)) zaae (fun _ _=>rfl)) (qv av28 4 rfl) (nomark _))))) (zaag (zaal zaa5)) zaan))) (zaag (zaal zaa5))))),?_⟩
 (try dsimp only [cxOf])
 obtain ⟨⟨d1,ob1⟩,_,_,ot1⟩:=id na
 obtain ⟨⟨d2,ob2⟩,_,_,ot2⟩:=id na2
 have fo1:=zadr gp op
 have fo2:=zadr gp2 op2
 walk_at "rd"
 by_cases le:os.length=so.length
 ·refine iteNn (by rw [List.length_map,List.length_map,le]) ?_
  walk_at "rd"
  refine zaes (xs:=os.map nV) (ys:=so.map nV) (fun i σ H'=>Ch [] H H'∧Box (∀ j n m,j < i→os[j]?=some n→so[j]?=some m→okO prs (n,m)=true)∧∃ u v,σ=[some (.ref nt),some (.ref st),some (.ref ql),u,v]) ⟨Ch.refl _ _,⟨fun j n m h=>absurd h (Nat.not_lt_zero _)⟩,_,_,rfl⟩ ?_ ?_ ?_
  ·rintro i σ H' hi ⟨c,_⟩
   exact ⟨SqT.of (c.get ot1 (by simp)),SqT.of (c.get ot2 (by simp))⟩
  ·rintro i x y σ H' T hx hy ⟨c,bx,u,v,rfl⟩ hT
   rw [List.getElem?_map] at hx hy
   obtain ⟨n,en,rfl⟩:=Option.map_eq_some_iff.mp hx
   obtain ⟨m,em,rfl⟩:=Option.map_eq_some_iff.mp hy
   have ln:=lo n (List.mem_of_getElem? en)
   have bad:okO prs (n,m)=false→ohB os so prs=false:=fun z=>by
    unfold ohB
    rw [zadl en em z,Bool.and_false]
   have good:okO prs (n,m)=true→Box (∀ j n m,j < i + 1→os[j]?=some n→so[j]?=some m→okO prs (n,m)=true):=fun z=>⟨fun j n' m' hj e1 e2=>by
    by_cases hj':j < i
    ·exact bx.h j n' m' hj' e1 e2
    ·have:j=i:=by omega
     subst this
     rw [en] at e1
     rw [em] at e2
     cases e1
     cases e2
     exact z⟩
   clear bx
   have cT:=Ch.new (W:=[]) hT (.tup [nV n,nV m])
   have hT1:upd H' T (.tup [nV n,nV m]) T=_:=zaai
   have cc:=c.trans cT
   have hql1:=hql.ch cc
   obtain ⟨p,ep⟩:∃ p,prs[n]?=some p:=⟨_,List.getElem?_eq_getElem ln⟩
   cases p with
   | none =>
    have at1:=zab4 (pp.no n ep)
    have b:=bad (by unfold okO; rw [ep])
    rw [b] at q
    clear bad good
    unfold nV at *
    obtain ⟨HT,eHT⟩:∃ HT,HT=upd H' T (.tup [V.int (n:Int),V.int (m:Int)]):=⟨_,rfl⟩
    rw [← eHT] at hql1 hT1 cc ⊢
    walk_at "rd"
    exact q _ cc
   | some p =>
    obtain ⟨a,kp,wv,ea,ha,_⟩:=pp.at_ n p ep
    have at1:=zab4 ea
    have ha1:=ha.ch cc
    have ev:((p.1:Nat):Int)=m↔okO prs (n,m)=true:=by
     unfold okO
     rw [ep]
     simp
     omega
    generalize okO prs (n,m)=bo at ev bad good
    unfold nV at *
    obtain ⟨HT,eHT⟩:∃ HT,HT=upd H' T (.tup [V.int (n:Int),V.int (m:Int)]):=⟨_,rfl⟩
    rw [← eHT] at ha1 hql1 hT1 cc ⊢
    walk_at "rd"
    cases bo with
    | true =>
     refine iteNn (by rw [ev.mpr rfl]) ?_
     exact ⟨cc,good rfl,_,_,rfl⟩
    | false =>
     rw [bad rfl] at q
     refine ite2 (fun _=>q _ cc) (fun h=>?_)
     exact absurd (ev.mp (by simpa using h)) (by decide)
  ·rintro σ H' ⟨c,bx,u,v,rfl⟩
   rw [List.length_map,List.length_map,← le,Nat.min_self] at bx
   have b:ohB os so prs=true:=by
    unfold ohB
    rw [decide_eq_true le,Bool.true_and]
    exact zads fun i n m e1 e2=>bx.h i n m (List.getElem?_eq_some_iff.mp e1).1 e1 e2
   rw [b] at q
   clear bx
   walk_at "rd"
   exact q _ c
 ·have b:ohB os so prs=false:=by
   unfold ohB
   rw [decide_eq_false le,Bool.false_and]
  rw [b] at q
  refine ite2 (fun _=>q _ (Ch.refl _ _)) (fun h=>absurd (show os.length=so.length by simp at h; omega) le)
theorem gl29:AG (defScope (top 29)) ["zip", "feeds_of", "pair_holds"]:=⟨by decide +kernel⟩
theorem av29:AF (defScope (top 29)) ["net", "gates", "pairs", "gate", "pair", "feed_pairs"]:=⟨by decide +kernel⟩
def zaib:Scope:={ kind:=PySem.ScopeKind.function,names:=[ (PySem.Str.ofString ".0",PySem.NameKind.local),(PySem.Str.ofString "feed",PySem.NameKind.local),(PySem.Str.ofString "pairs",PySem.NameKind.free)],isGenerator:=false,isCoroutine:=false,more:=[]:PySem.Scope }
theorem zala:CompOk zaib (defScope (top 29)) (["feed"]:List Str) (["net", "gates", "pairs", "gate", "pair", "feed_pairs"]:List Str) [2] (["feed", "pairs"]:List Str):=compOk rfl (by decide +kernel) (by decide +kernel) (by decide +kernel) (by decide +kernel) rfl (by decide +kernel)
theorem zalb:AK (relab zaib (defScope (top 29))) ["feed"]:=⟨by decide +kernel⟩
theorem zalc:AV (relab zaib (defScope (top 29))) ["feed", "pairs"]:=⟨by decide +kernel⟩
def zaic:Scope:={ kind:=PySem.ScopeKind.function,names:=[(PySem.Str.ofString ".0",PySem.NameKind.local),(PySem.Str.ofString "feed_pair",PySem.NameKind.local)],isGenerator:=false,isCoroutine:=false,more:=[]:PySem.Scope }
theorem zald:CompOk zaic (defScope (top 29)) (["feed_pair"]:List Str) (["net", "gates", "pairs", "gate", "pair", "feed_pairs"]:List Str) [] (["feed_pair"]:List Str):=compOk rfl (by decide +kernel) (by decide +kernel) (by decide +kernel) (by decide +kernel) rfl (by decide +kernel)
theorem zale:AK (relab zaic (defScope (top 29))) ["feed_pair"]:=⟨by decide +kernel⟩
theorem zao9:AV (relab zaic (defScope (top 29))) ["feed_pair"]:=⟨by decide +kernel⟩
def spGH (CN:Addr):Sp:=fun vs H Q _=>∃ (nt gp op gl ql:Addr) (net al:List Gt) (xs:List V) (os:List Nat) (prs:Prs) (qs:List V) (kd:SK),vs=[.ref nt,.ref gl,.ref ql]∧NetAt CN H nt gp op net xs os∧Oks net∧GA H gl al∧SqX kd H ql qs∧PrK H prs qs ∧
 prs.length=net.length∧(∀ p,some p∈prs→p.1 < al.length)∧∀ (H':Hp),Ch [] H H'→Q (.bl (ghB net al prs)) H'
theorem scGH:FnScope ["net", "gates", "pairs", "gate", "pair", "feed_pairs"] ["net", "gates", "pairs"] (defScope (top 29)):=⟨rfl,rfl,rfl,by decide +kernel,rfl,by decide +kernel,by decide +kernel⟩
theorem zasi {CN:Addr} (F:Fun K "gates_hold" "gates_hold" (top 29) f fd) (cl:Cls K CN) (nG:NoAttr K CN "gates") (Dfeeds_of:DefOk P w K mg base CX0 k "feeds_of" ["gate"] spFeeds) (Dpair_holds:DefOk P w K mg base CX0 k "pair_holds" ["gates", "gate", "it", "why", "feeds"] spPHc) (z_zip:mg "zip" = none):FnOk P w K mg base CX0 (k + 1) f fd ["net", "gates", "pairs"] (spGH CN):=by
 have nd:=scGH.nd
 refine F.ok scGH (fun vs H Q E h=>by obtain ⟨nt,gp,op,gl,ql,net,al,xs,os,prs,qs,kd,rfl,_⟩:=h; rfl) (fun cdv A outer s0 H vs Q E hr h=>?_)
 obtain ⟨nt,gp,op,gl,ql,net,al,xs,os,prs,qs,kd,rfl,na,ok,ga,hql,pp,lp,lt,q⟩:=h
 refine ⟨_,(Pr.h (zaaf (zaby PassesOwn.never rfl (zafr .tuple kd (gl29.g 0 rfl) z_zip (zaaa (zab7 (qv av29 0 rfl) rfl) (zaaa (qv av29 2 rfl) zaab zaac) zaa4)) (zad0 rfl (zabd (zaa1 (i:=3) nd rfl (av29.l 3 rfl)) (zabd (zaa1 (i:=4) nd rfl (av29.l 4 rfl)) zacn))) (zaaf (zaax (zabx (zack (zaak zaa3 (zaao zaa9 (qv av29 3 rfl) zaae (fun _ _=>rfl)) zaaj (nomark _)) (zab8 (zaak zaen (qv av29 4 rfl) zabv (nomark _))))) (zaag zae8) zaan) (zaaz (zaev (i:=5) nd rfl (av29.l 5 rfl) rfl zala (zac6 (zaah Dfeeds_of hr (gl29.g 1 rfl) pass0 (zaaa (qv av29 3 rfl) zaab zaac) zaia)) (fun _ _ _ _ _=>(zaa1 (i:=0) zala.nd rfl (Or.inl (zalb.k 0 rfl)) (Or.inr (zalb.k 0 rfl)))) (fun _ _ _ _ _=>zac7) (fun _ _ _ _ _=>(zaao (zab5 K rfl) (qw zalc 1 rfl) (qw zalc 0 rfl) (fun _ _=>rfl))) rfl) (zaaf (zaax (zaak (zanj hr.units) zabv (qv av29 5 rfl) rfl) (zaag (zaal zaa5)) zaan) (zaag (zaax (zabp (zabf (zaah Dpair_holds hr (gl29.g 2 rfl) pass0 (zaaa (qv av29 1 rfl) (zaaa (qv av29 3 rfl) (zaaa (zaao (zab5 K rfl) (qv av29 4 rfl) zaae (fun _ _=>rfl)) (zaaa (zaao (zab5 K rfl) (qv av29 4 rfl) zaae (fun _ _=>rfl)) (zaaa (zadq rfl zald (zac6 (qv av29 5 rfl)) (fun _ _ _ _ _=>(zaa1 (i:=0) zald.nd rfl (Or.inl (zale.k 0 rfl)) (Or.inr (zale.k 0 rfl)))) (fun _ _ _ _ _=>zac7) (fun _ _ _ _ _=>(zaao (zab5 K rfl) (qw zao9 0 rfl) zaae (fun _ _=>rfl)))) zaab zaeh) zaas) zaas) zaac) zaac) zagu))) (zaag (zaal zaa5)) zaan)))))) (zaag (zaal zaa5)))),?_⟩
 (try dsimp only [cxOf])
 obtain ⟨⟨d1,ob1⟩,gt1,gg1,_⟩:=id na
 have fo1:=zacj gp op
 have lx:xs.length=net.length:=gg1.len
 walk_at "rd"
 refine ⟨⟨_,hql.sq⟩,?_⟩
 refine zaes (xs:=xs) (ys:=qs) (fun i σ H'=>Ch [] H H'∧Box (∀ j g p,j < i→net[j]?=some g→prs[j]?=some p→okG al prs (g,p)=true)∧∃ u v z,σ=[some (.ref nt),some (.ref gl),some (.ref ql),u,v,z]) ⟨Ch.refl _ _,⟨fun j n m h=>absurd h (Nat.not_lt_zero _)⟩,_,_,_,rfl⟩ ?_ ?_ ?_
 ·rintro i σ H' hi ⟨c,_⟩
  exact ⟨SqT.of (c.get gt1 (by simp)),(hql.ch c).sq⟩
 ·rintro i x y σ H' T hx hy ⟨c,bx,u,v,z,rfl⟩ hT
  have hi:i < net.length:=by rw [← lx]; exact (List.getElem?_eq_some_iff.mp hx).1
  obtain ⟨g,hgi⟩:∃ g,net[i]?=some g:=⟨_,List.getElem?_eq_getElem hi⟩
  obtain ⟨pr,hpi⟩:∃ pr,prs[i]?=some pr:=⟨_,List.getElem?_eq_getElem (by omega)⟩
  obtain ⟨p,ep,hp⟩:=gg1.at_ i g hgi
  rw [hx] at ep
  cases ep
  have bad:okG al prs (g,pr)=false→ghB net al prs=false:=fun z=>zadl hgi hpi z
  have good:okG al prs (g,pr)=true→Box (∀ j g p,j < i + 1→net[j]?=some g→prs[j]?=some p→okG al prs (g,p)=true):=fun z=>⟨fun j n' m' hj e1 e2=>by
    by_cases hj':j < i
    ·exact bx.h j n' m' hj' e1 e2
    ·have:j=i:=by omega
     subst this
     rw [hgi] at e1
     rw [hpi] at e2
     cases e1
     cases e2
     exact z⟩
  clear bx
  have cT:=Ch.new (W:=[]) hT (.tup [.ref p,y])
  have hT1:upd H' T (.tup [.ref p,y]) T=_:=zaai
  have cc:=c.trans cT
  obtain ⟨HT,eHT⟩:∃ HT,HT=upd H' T (.tup [.ref p,y]):=⟨_,rfl⟩
  rw [← eHT] at cc hT1 ⊢
  have hp1:=cc.get hp (by simp)
  obtain ⟨wd,rs,ev,hd⟩:=zagp g
  have hp2:=hp1
  rw [ev] at hp2
  walk_at "rd"
  rw [hd]
  cases ei:g.isIn with
  | true =>
   have gd:=good (by unfold okG; rw [ei]; rfl)
   clear good bad
   refine iteT ?_
   walk_at "rd"
  | false =>
  refine iteF ?_
  have ni:g≠.inp:=fun z=>by rw [z] at ei; cases ei
  cases pr with
  | none =>
   rw [pp.no i hpi] at hy
   cases hy
   have gd:=good (by unfold okG; rw [ei]; rfl)
   clear good bad
   walk_at "rd"
  | some pr =>
  obtain ⟨pa,kp,wv,ea,ha,wy⟩:=pp.at_ i pr hpi
  rw [hy] at ea
  cases ea
  have ha1:=ha.ch cc
  have okE:okG al prs (g,some pr)=((prF prs g.feeds).all Option.isSome && phW al (rho (dn prs)) pr.1 g pr.2):=by unfold okG; rw [ei]; rfl
  rw [okE] at bad good
  have lf:∀ a∈g.feeds,a < net.length:=fun a ha=>by
   have:=ok i g hgi
   cases g <;> simp [Gt.feeds,Gt.ok] at ha this <;> omega
  walk_at "rd"
  refine iteF ?_
  walk_at "rd"
  refine zaa6 (fun σ H2=>∃ fl zs,Ch [] H H2∧H2 fl=some (.lst zs)∧PrK H2 (prF prs g.feeds) zs∧σ=[some (.ref nt),some (.ref gl),some (.ref ql),some (.ref p),some (.ref pa),some (.ref fl)]) ?_ ?_
  ·walk_at "rd"
   rename_i r H3 c3 fr hr3
   have c13:=cc.trans c3
   have hq3:=hql.ch c13
   have pp3:=pp.ch c13
   refine zadg (g.feeds.map nV) (fun j zs σ H'=>H'=H3∧PrK H3 (prF prs (g.feeds.take j)) zs∧∃ u,σ=[u,some (.ref ql)]) (by rw [List.length_map,sizeLine_eq]; have:=zac5 g; omega) ⟨rfl,.nil,_,rfl⟩ ?_ ?_ ?_
   ·rintro j zs σ H' hj ⟨rfl,pz,_⟩
    refine ⟨?_,SqL.of hr3⟩
    rw [pz.len]
    simp [prF,List.length_take]
    rw [List.length_map] at hj
    omega
   ·rintro j zs σ H' x hx' ⟨rfl,pz,u,rfl⟩
    rw [List.getElem?_map] at hx'
    obtain ⟨n,en,rfl⟩:=Option.map_eq_some_iff.mp hx'
    have ln:=lf n (List.mem_of_getElem? en)
    obtain ⟨pn,epn⟩:∃ pn,prs[n]?=some pn:=⟨_,List.getElem?_eq_getElem (by omega)⟩
    cases pn with
    | none =>
     have at1:=zab4 (pp3.no n epn)
     have pz2:=pz.pushN
     rw [← zafh en epn] at pz2
     unfold nV at *
     walk_at "rd"
    | some pn =>
     obtain ⟨an,kn,wn,ean,han,hwn⟩:=pp3.at_ n pn epn
     have at1:=zab4 ean
     have pz2:=pz.push han hwn
     rw [← zafh en epn] at pz2
     unfold nV at *
     walk_at "rd"
   ·rintro zs σ H' ⟨rfl,pz,_⟩
    rw [List.length_map,List.take_length] at pz
    walk_at "rd"
    rename_i fl hfl
    exact ⟨pz.ch (Ch.new hfl _),rfl⟩
  ·rintro σ H2 ⟨fl,zs,c2,hfl,pz,rfl⟩
   have hz:∀ z∈zs,z=.non∨∃ p,z=.ref p∧((∃ zs,H2 p=some (.lst zs))∨∃ zs,H2 p=some (.tup zs)):=fun z hz=>by
    obtain ⟨j,hj⟩:=List.getElem?_of_mem hz
    have lj:j < (prF prs g.feeds).length:=by rw [← pz.len]; exact (List.getElem?_eq_some_iff.mp hj).1
    have ej:=List.getElem?_eq_getElem lj
    cases eo:(prF prs g.feeds)[j] with
    | none =>
     rw [eo] at ej
     rw [pz.no j ej] at hj
     cases hj
     exact .inl rfl
    | some p2 =>
     rw [eo] at ej
     obtain ⟨a,kj,_,e1,e2,_⟩:=pz.at_ j _ ej
     rw [hj] at e1
     cases e1
     cases kj with
     | list=>exact .inr ⟨a,rfl,.inl ⟨_,e2⟩⟩
     | tuple=>exact .inr ⟨a,rfl,.inr ⟨_,e2⟩⟩
   have ea:zs.any isNon=!(prF prs g.feeds).all Option.isSome:=zak9 pz
   have hp3:=c2.get hp (by simp)
   have ha3:=ha.ch c2
   have ga3:=ga.ch c2
   walk_at "rd"
   rw [ea]
   cases all:(prF prs g.feeds).all Option.isSome with
   | false =>
    rw [all,Bool.false_and] at bad
    rw [bad rfl] at q
    clear bad good
    refine iteT ?_
    walk_at "rd"
    exact q _ c2
   | true =>
   rw [all,Bool.true_and] at bad good
   refine iteF ?_
   walk_at "rd"
   refine zadg zs (fun j ys σ H'=>H'=H2∧ys=((prF prs g.feeds).take j).map (fun p=>nV (zp p).1)∧∃ u,σ=[u]) (by rw [pz.len,sizeLine_eq]; have:=zac5 g; simp only [prF,List.length_map]; omega) ⟨rfl,rfl,_,rfl⟩ ?_ ?_ ?_
   ·rintro j ys σ H' hj ⟨rfl,rfl,_⟩
    refine ⟨?_,SqL.of hfl⟩
    rw [pz.len] at hj
    simp [List.length_take]
    omega
   ·rintro j ys σ H' x hx' ⟨rfl,rfl,u,rfl⟩
    have lj:j < (prF prs g.feeds).length:=by rw [← pz.len]; exact (List.getElem?_eq_some_iff.mp hx').1
    obtain ⟨pj,epj⟩:∃ pj,(prF prs g.feeds)[j]?=some (some pj):=by
     have ej:=List.getElem?_eq_getElem lj
     have:=List.all_eq_true.mp all _ (List.getElem_mem lj)
     obtain ⟨pj,hj⟩:=Option.isSome_iff_exists.mp this
     exact ⟨pj,by rw [ej,hj]⟩
    obtain ⟨a,kj,_,e1,e2,_⟩:=pz.at_ j _ epj
    rw [hx'] at e1
    cases e1
    clear bad good
    walk_at "rd"
    refine ⟨?_,_,rfl⟩
    rw [List.take_add_one,epj]
    simp [zp]
   ·rintro ys σ H' ⟨rfl,rfl,_⟩
    rw [pz.len,List.take_length,zao8]
    have lr:∀ a∈g.feeds,rho (dn prs) a < al.length:=fun a ha=>by
     have la:=lf a ha
     have ia:=List.all_eq_true.mp all (prs.getD a none) (List.mem_map.mpr ⟨a,ha,rfl⟩)
     obtain ⟨pj,hj⟩:=Option.isSome_iff_exists.mp ia
     unfold rho
     rw [zagt,hj]
     have e:=List.getElem?_eq_getElem (l:=prs) (i:=a) (by omega)
     rw [List.getD_eq_getElem?_getD,e] at hj
     have hj:prs[a]=some pj:=hj
     exact lt pj (by rw [← hj]; exact List.getElem_mem _)
    have l1:=lt pr (List.mem_of_getElem? hpi)
    walk_at "rd"
    rename_i D hD
    have cD:=c2.trans (Ch.new hD (.lst (g.feeds.map fun a=>nV (rho (dn prs) a))))
    refine ⟨_,_,_,al,g,pr.1,wv,pr.2,rho (dn prs),rfl,ga3.ch (Ch.new hD _),zaba hD hp3,ni,zaai,wy.ch cD,l1,lr,fun H4 c4=>?_⟩
    have cF:=(c2.trans (Ch.new hD (.lst (g.feeds.map fun a=>nV (rho (dn prs) a))))).trans c4
    cases hb:phW al (rho (dn prs)) pr.1 g pr.2 with
    | true =>
     exact ⟨_,rfl,iteF ⟨cF,good hb,_,_,_,rfl⟩⟩
    | false =>
     rw [bad hb] at q
     exact ⟨_,rfl,iteT (q _ cF)⟩
 ·rintro σ H' ⟨c,bx,u,v,z,rfl⟩
  rw [lx,pp.len,lp,Nat.min_self] at bx
  have b:ghB net al prs=true:=zads fun i n m e1 e2=>bx.h i n m (List.getElem?_eq_some_iff.mp e1).1 e1 e2
  rw [b] at q
  clear bx
  walk_at "rd"
  exact q _ c
end
end

section
local macro_rules | `(tactic| walk_at "sqx")=>`(tactic| first
 | with_reducible assumption
 | (apply SqX.ch; (focus with_reducible assumption); (focus walk_at "ch")))
local macro_rules | `(tactic| walk_at "user")=>`(tactic| first
 | (apply GA.ch; (focus with_reducible assumption); (focus walk_at "ch"))
 | (apply NetAt.ch; (focus with_reducible assumption); (focus walk_at "ch"))
 | (apply SqX.or; (focus walk_at "sqx"))
 | (focus walk_at "sqx"))
def shB (net:List Gt) (os:List Nat) (sg:List Gt) (so:List Nat) (lo:List Gt) (prs:Prs):Bool:=decide (prs.length=net.length) && (ihB net sg prs && (ohB os so prs && ghB net (sg++lo) prs))
structure Ppr (net:List Gt) (os:List Nat) (sg lo:List Gt) (prs:Prs):Prop where
 ok:Oks net
 lt:∀ p,some p∈prs→p.1 < (sg++lo).length
 lk:∀ (j:Nat) (g:Gt),lo[j]?=some g→g≠.inp∧g.ok (sg.length + j) (sg.length + lo.length)
 lo:∀ o∈os,o < net.length
section
variable {P:Program}{w:World}{K:PySem.W.Frag}{mg:Str→Option Value}{base:Heap}{f:Addr}{fd:FuncData}{k:Nat}
theorem zadt:Nd "with_lost" := by decide +kernel
theorem zadu:Nd "are_pairs" := by decide +kernel
theorem zada:Nd "gates_hold" := by decide +kernel
theorem zadv:Nd "outs_hold" := by decide +kernel
theorem zad5:Nd "ins_hold" := by decide +kernel
theorem gl30:AG (defScope (top 30)) ["is_pair", "with_lost", "are_pairs", "len", "gates_hold", "outs_hold", "ins_hold"]:=⟨by decide +kernel⟩
theorem av30:AF (defScope (top 30)) ["net", "small", "paper", "gates", "pairs"]:=⟨by decide +kernel⟩
def spSH (CN:Addr):Sp:=fun vs H Q _=>∃ (nt gp op st gp2 op2 pp ll ql:Addr) (k1 k2 k3:SK) (net sg lo:List Gt) (xs xs2 zs qs:List V) (os so:List Nat) (prs:Prs),vs=[.ref nt,.ref st,.ref pp]∧NetAt CN H nt gp op net xs os∧NetAt CN H st gp2 op2 sg xs2 so∧SqX k1 H pp [.ref ll,.ref ql]∧SqX k2 H ll zs∧GsK H lo zs∧SqX k3 H ql qs∧PrK H prs qs ∧
 net.length≤1000∧sg.length≤1000∧lo.length≤1000∧Ppr net os sg lo prs∧∀ (H':Hp),Ch [] H H'→Q (.bl (shB net os sg so lo prs)) H'
theorem scSH:FnScope ["net", "small", "paper", "gates", "pairs"] ["net", "small", "paper"] (defScope (top 30)):=⟨rfl,rfl,rfl,by decide +kernel,rfl,by decide +kernel,by decide +kernel⟩
theorem zasj {CN:Addr} (F:Fun K "small_holds" "small_holds" (top 30) f fd) (cl:Cls K CN) (nG:NoAttr K CN "gates") (Dis_pair:DefOk P w K mg base CX0 k "is_pair" ["thing"] spPair) (Dwith_lost:DefOk P w K mg base CX0 k "with_lost" ["small", "lost"] (spWL CN)) (Dare_pairs:DefOk P w K mg base CX0 k "are_pairs" ["pairs", "count", "total"] spAP)
  (Dins_hold:DefOk P w K mg base CX0 k "ins_hold" ["net", "small", "pairs"] (spIH CN)) (Douts_hold:DefOk P w K mg base CX0 k "outs_hold" ["net", "small", "pairs"] (spOH CN)) (Dgates_hold:DefOk P w K mg base CX0 k "gates_hold" ["net", "gates", "pairs"] (spGH CN)) (z_len:mg "len" = none):FnOk P w K mg base CX0 (k + 1) f fd ["net", "small", "paper"] (spSH CN):=by
 have nd:=scSH.nd
 refine F.ok scSH (fun vs H Q E h=>by obtain ⟨nt,gp,op,st,gp2,op2,pp,ll,ql,k1,k2,k3,net,sg,lo,xs,xs2,zs,qs,os,so,prs,rfl,_⟩:=h; rfl) (fun cdv A outer s0 H vs Q E hr h=>?_)
 obtain ⟨nt,gp,op,st,gp2,op2,pp,ll,ql,k1,k2,k3,net,sg,lo,xs,xs2,zs,qs,os,so,prs,rfl,na,na2,hpp,hll,gz,hql,pq,l1,l2,l3,sh,q⟩:=h
 refine ⟨_,(Pr.h (zaaf (zaax (zabp (zabf (zaah Dis_pair hr (gl30.g 0 rfl) pass0 (zaaa (qv av30 2 rfl) zaab zaac) zadc))) (zaag (zaal zaa5)) zaan) (zaaz (zaat (i:=3) nd rfl (av30.l 3 rfl) (zaah Dwith_lost hr (gl30.g 1 rfl) pass0 (zaaa (qv av30 1 rfl) (zaaa (zaao (zab5 K rfl) (qv av30 2 rfl) zaae (fun _ _=>rfl)) zaab zaas) zaac) zadt)) (zaaf (zaax (zabx (zack (zaak zaen (qv av30 3 rfl) zabv (nomark _)) (zab8 (zabp (zabf (zaah Dare_pairs hr (gl30.g 2 rfl) pass0 (zaaa (zaao (zab5 K rfl) (qv av30 2 rfl) zaae (fun _ _=>rfl)) (zaaa (zaap zaam (gl30.g 3 rfl) z_len PySem.boot_len (zaaa (zab7 (qv av30 0 rfl) rfl) zaab zaa4) zabb zabc) (zaaa (zaap zaam (gl30.g 3 rfl) z_len PySem.boot_len (zaaa (qv av30 3 rfl) zaab zaac) zabb zabc) zaab zab0) zab0) zaas) zadu)))))) (zaag (zaal zaa5)) zaan) (zaaz (zaat (i:=4) nd rfl (av30.l 4 rfl) (zaao (zab5 K rfl) (qv av30 2 rfl) zaae (fun _ _=>rfl))) (zaag (zaal (zaaw (zaah Dins_hold hr (gl30.g 6 rfl) pass0 (zaaa (qv av30 0 rfl) (zaaa (qv av30 1 rfl) (zaaa (qv av30 4 rfl) zaab zaac) zaac) zaac) zad5) (zaaw (zaah Douts_hold hr (gl30.g 5 rfl) pass0 (zaaa (qv av30 0 rfl) (zaaa (qv av30 1 rfl) (zaaa (qv av30 4 rfl) zaab zaac) zaac) zaac) zadv) (zaau (zaah Dgates_hold hr (gl30.g 4 rfl) pass0 (zaaa (qv av30 0 rfl) (zaaa (qv av30 3 rfl) (zaaa (qv av30 4 rfl) zaab zaac) zaac) zaac) zada))))))))))),?_⟩
 (try dsimp only [cxOf])
 obtain ⟨⟨d1,ob1⟩,gt1,gg1,_⟩:=id na
 have fo1:=zacj gp op
 have lx:xs.length=net.length:=gg1.len
 walk_at "rd"
 rename_i H1 c1
 have na1:=na2.ch c1
 have hpp1:=hpp.ch c1
 have hll1:=hll.ch c1
 have gz1:=gz.ch c1
 have lk:=sh.lk
 clear hpp hll gz
 walk_at "rd"
 refine zaa6 (fun σ H2=>∃ r,Ch [] H H2∧GA H2 r (sg++lo)∧Ch [] H1 H2∧σ=[some (.ref nt),some (.ref st),some (.ref pp),some (.ref r),none]) ?_ ?_
 ·walk_at "rd"
 rintro σ H2 ⟨r,c2,ga,c12,rfl⟩
 obtain ⟨ys,hys,gy⟩:=ga.ex
 have hpp2:=hpp1.ch c12
 have hql2:=hql.ch c2
 have pq2:=pq.ch c2
 have ob2:=c2.get ob1 (by simp)
 have gt2:=c2.get gt1 (by simp)
 have lt:∀ p,some p∈prs→p.1 < ys.length:=by rw [gy.len]; exact sh.lt
 clear hpp1 hll1
 walk_at "rd"
 rename_i H3 c3
 by_cases lq:prs.length=net.length
 ·have lq2:prs.length=xs.length:=by omega
  rw [decide_eq_true lq2]
  refine iteF ?_
  have hpp3:=hpp2.ch c3
  clear hpp2
  walk_at "rd"
  refine zaa6 (fun σ H4=>Ch [] H H4∧GA H4 r (sg++lo)∧σ=[some (.ref nt),some (.ref st),some (.ref pp),some (.ref r),some (.ref ql)]) ?_ ?_
  ·walk_at "rd"
  rintro σ H4 ⟨c4,ga4,rfl⟩
  clear hql2 pq2 ob2 gt2 lt hpp3 hys gy ga c3 c2 gz1 na1 c1 c12
  have na4:=na.ch c4
  have nb4:=na2.ch c4
  have hq4:=hql.ch c4
  have pq4:=pq.ch c4
  have lo':∀ o∈os,o < prs.length:=fun o h=>by have:=sh.lo o h; omega
  clear hql pq
  have eB:shB net os sg so lo prs=(ihB net sg prs && (ohB os so prs && ghB net (sg++lo) prs)):=by
   unfold shB
   rw [decide_eq_true lq,Bool.true_and]
  rw [eB] at q
  walk_at "rd"
  rename_i H5 c5
  have na5:=na4.ch c5
  have nb5:=nb4.ch c5
  have ga5:=ga4.ch c5
  have hq5:=hq4.ch c5
  have pq5:=pq4.ch c5
  clear na4 nb4 ga4 hq4 pq4
  cases hi:ihB net sg prs with
  | false =>
   rw [hi,Bool.false_and] at q
   exact iteF (q _ (c4.trans c5))
  | true =>
  rw [hi,Bool.true_and] at q
  refine iteT ?_
  walk_at "rd"
  rename_i H6 c6
  have na6:=na5.ch c6
  have ga6:=ga5.ch c6
  have hq6:=hq5.ch c6
  have pq6:=pq5.ch c6
  have ok:=sh.ok
  have lt:=sh.lt
  clear na5 nb5 ga5 hq5 pq5
  cases ho:ohB os so prs with
  | false =>
   rw [ho,Bool.false_and] at q
   exact iteF (q _ ((c4.trans c5).trans c6))
  | true =>
  rw [ho,Bool.true_and] at q
  refine iteT ?_
  walk_at "rd"
  rename_i H7 c7
  exact q _ (((c4.trans c5).trans c6).trans c7)
 ·have lq2:¬ prs.length=xs.length:=by omega
  have eB:shB net os sg so lo prs=false:=by
   unfold shB
   rw [decide_eq_false lq,Bool.false_and]
  rw [eB] at q
  rw [decide_eq_false lq2]
  exact iteT (q _ (c2.trans c3))
end
end

section
local macro_rules | `(tactic| walk_at "rdw")=>`(tactic| repeat (first | walk_at "rd1" | refine iteF ?_))
theorem FnOk.or {P:Program}{w:World}{K:PySem.W.Frag}{mg:Str→Option Value}{base:Heap}{CX:CXT}{k:Nat}{f:Addr}{fd:FuncData}{ps:List Str}{s1 s2 s3:Sp} (h1:FnOk P w K mg base CX k f fd ps s1) (h2:FnOk P w K mg base CX k f fd ps s2) (h:∀ vs H Q E,s3 vs H Q E→s1 vs H Q E∨s2 vs H Q E):FnOk P w K mg base CX k f fd ps s3 :=
 ⟨fun vs H Q E q=>(h _ _ _ _ q).elim (h1.len vs H Q E) (h2.len vs H Q E),fun A outer s H args us vs Q E hr he hb hv hs=>(h _ _ _ _ hs).elim (h1.run A outer s H args us vs Q E hr he hb hv) (h2.run A outer s H args us vs Q E hr he hb hv)⟩
section
variable {P:Program}{w:World}{K:PySem.W.Frag}{mg:Str→Option Value}{base:Heap}{f:Addr}{fd:FuncData}{k:Nat}
def spRW (n:Nat):Sp:=fun vs H Q _=>∃ (gl fl:Addr) (wv:V) (it:Nat) (zs:List Nat),vs=[.ref gl,wv,.int (it:Int),.ref fl]∧H fl=some (.lst (zs.map nV))∧zs.length=n∧Wd H wv∧Q (.bl false) H
theorem zapa (F:Fun K "not_holds" "not_holds" (top 18) f fd) (Dis_zero:DefOk P w K mg base CX0 k "is_zero" ["gates", "number"] (spIsG isZ)) (Dis_one:DefOk P w K mg base CX0 k "is_one" ["gates", "number"] (spIsG isO)) (Dare_opposed:DefOk P w K mg base CX0 k "are_opposed" ["gates", "number", "other"] spOpG):FnOk P w K mg base CX0 (k + 1) f fd ["gates", "why", "it", "feeds"] (spRW 1):=by
 have nd:=scNotB.nd
 refine F.ok scNotB (fun vs H Q E h=>by obtain ⟨gl,fl,wv,it,zs,rfl,_⟩:=h; rfl) (fun cdv A outer s0 H vs Q E hr h=>?_)
 obtain ⟨gl,fl,wv,it,zs,rfl,hf,ln,wd,q⟩:=h
 refine ⟨_,(Pr.h (zaaf (zaat (i:=4) nd rfl (av18.l 4 rfl) (zaao zaaq (qv av18 3 rfl) zaae (fun _ _=>rfl))) (zaaf (zaax (zaak (zaco hr.units) (qv av18 1 rfl) zaaj (nomark _)) (zaag (zaal (zaar (zacv hr.units) (zaao zaaq (qv av18 0 rfl) (qv av18 4 rfl) (fun _ _=>rfl)) (zaay (zaaa zaaj (zaaa (qv av18 2 rfl) zaab zaac) zaad)) (nomark _)))) zaan) (zaaf (zaax (zaak (zaco hr.units) (qv av18 1 rfl) zaaj (nomark _)) (zaag (zaal (zaaw (zaah Dis_zero hr (gl18.g 1 rfl) pass0 (zaaa (qv av18 0 rfl) (zaaa (qv av18 4 rfl) zaab zaac) zaac) zaa8) (zaau (zaah Dis_one hr (gl18.g 0 rfl) pass0 (zaaa (qv av18 0 rfl) (zaaa (qv av18 2 rfl) zaab zaac) zaac) zabe))))) zaan) (zaaf (zaax (zaak (zaco hr.units) (qv av18 1 rfl) zaaj (nomark _)) (zaag (zaal (zaaw (zaah Dis_one hr (gl18.g 0 rfl) pass0 (zaaa (qv av18 0 rfl) (zaaa (qv av18 4 rfl) zaab zaac) zaac) zabe) (zaau (zaah Dis_zero hr (gl18.g 1 rfl) pass0 (zaaa (qv av18 0 rfl) (zaaa (qv av18 2 rfl) zaab zaac) zaac) zaa8))))) zaan) (zaag (zaal zaa5))))))),?_⟩
 (try dsimp only [cxOf])
 obtain ⟨x,rfl⟩:∃ x,zs=[x]:=by
  match zs,ln with
  | [x],_=>exact ⟨x,rfl⟩
 have hf:H fl=some (.lst [nV x]):=hf
 walk_at "rdw"
 exact q
theorem zapb (F:Fun K "and_holds" "and_holds" (top 19) f fd) (Dis_zero:DefOk P w K mg base CX0 k "is_zero" ["gates", "number"] (spIsG isZ)) (Dis_one:DefOk P w K mg base CX0 k "is_one" ["gates", "number"] (spIsG isO)) (Dare_opposed:DefOk P w K mg base CX0 k "are_opposed" ["gates", "number", "other"] spOpG):FnOk P w K mg base CX0 (k + 1) f fd ["gates", "why", "it", "feeds"] (spRW 2):=by
 have nd:=scAndB.nd
 refine F.ok scAndB (fun vs H Q E h=>by obtain ⟨gl,fl,wv,it,zs,rfl,_⟩:=h; rfl) (fun cdv A outer s0 H vs Q E hr h=>?_)
 obtain ⟨gl,fl,wv,it,zs,rfl,hf,ln,wd,q⟩:=h
 refine ⟨_,(Pr.h (zaaf (zaat (i:=4) nd rfl (av19.l 4 rfl) (zaao zaaq (qv av19 3 rfl) zaae (fun _ _=>rfl))) (zaaf (zaat (i:=5) nd rfl (av19.l 5 rfl) (zaao zaaq (qv av19 3 rfl) zaae (fun _ _=>rfl))) (zaaf (zaax (zaak (zaco hr.units) (qv av19 1 rfl) zaaj (nomark _)) (zaag (zaal (zaaw (zaar zaa3 (qv av19 2 rfl) (qv av19 4 rfl) (nomark _)) (zaau (zact (zaah Dis_one hr (gl19.g 0 rfl) pass0 (zaaa (qv av19 0 rfl) (zaaa (qv av19 5 rfl) zaab zaac) zaac) zabe) (zaau (zaar zaa3 (qv av19 5 rfl) (qv av19 4 rfl) (nomark _)))))))) zaan) (zaaf (zaax (zaak (zaco hr.units) (qv av19 1 rfl) zaaj (nomark _)) (zaag (zaal (zaaw (zaar zaa3 (qv av19 2 rfl) (qv av19 5 rfl) (nomark _)) (zaau (zaah Dis_one hr (gl19.g 0 rfl) pass0 (zaaa (qv av19 0 rfl) (zaaa (qv av19 4 rfl) zaab zaac) zaac) zabe))))) zaan) (zaaf (zaax (zaak (zaco hr.units) (qv av19 1 rfl) zaaj (nomark _)) (zaag (zaal (zaaw (zaah Dis_zero hr (gl19.g 2 rfl) pass0 (zaaa (qv av19 0 rfl) (zaaa (qv av19 2 rfl) zaab zaac) zaac) zaa8) (zaau (zact (zaah Dis_zero hr (gl19.g 2 rfl) pass0 (zaaa (qv av19 0 rfl) (zaaa (qv av19 4 rfl) zaab zaac) zaac) zaa8) (zact (zaah Dis_zero hr (gl19.g 2 rfl) pass0 (zaaa (qv av19 0 rfl) (zaaa (qv av19 5 rfl) zaab zaac) zaac) zaa8) (zaau (zaah Dare_opposed hr (gl19.g 1 rfl) pass0 (zaaa (qv av19 0 rfl) (zaaa (qv av19 4 rfl) (zaaa (qv av19 5 rfl) zaab zaac) zaac) zaac) zabi)))))))) zaan) (zaag (zaal zaa5)))))))),?_⟩
 (try dsimp only [cxOf])
 obtain ⟨x,y,rfl⟩:∃ x y,zs=[x,y]:=by
  match zs,ln with
  | [x,y],_=>exact ⟨x,y,rfl⟩
 have hf:H fl=some (.lst [nV x,nV y]):=hf
 walk_at "rdw"
 exact q
theorem zarc (F:Fun K "or_holds" "or_holds" (top 20) f fd) (Dis_zero:DefOk P w K mg base CX0 k "is_zero" ["gates", "number"] (spIsG isZ)) (Dis_one:DefOk P w K mg base CX0 k "is_one" ["gates", "number"] (spIsG isO)) (Dare_opposed:DefOk P w K mg base CX0 k "are_opposed" ["gates", "number", "other"] spOpG):FnOk P w K mg base CX0 (k + 1) f fd ["gates", "why", "it", "feeds"] (spRW 2):=by
 have nd:=scOrB.nd
 refine F.ok scOrB (fun vs H Q E h=>by obtain ⟨gl,fl,wv,it,zs,rfl,_⟩:=h; rfl) (fun cdv A outer s0 H vs Q E hr h=>?_)
 obtain ⟨gl,fl,wv,it,zs,rfl,hf,ln,wd,q⟩:=h
 refine ⟨_,(Pr.h (zaaf (zaat (i:=4) nd rfl (av20.l 4 rfl) (zaao zaaq (qv av20 3 rfl) zaae (fun _ _=>rfl))) (zaaf (zaat (i:=5) nd rfl (av20.l 5 rfl) (zaao zaaq (qv av20 3 rfl) zaae (fun _ _=>rfl))) (zaaf (zaax (zaak (zaco hr.units) (qv av20 1 rfl) zaaj (nomark _)) (zaag (zaal (zaaw (zaar zaa3 (qv av20 2 rfl) (qv av20 4 rfl) (nomark _)) (zaau (zact (zaah Dis_zero hr (gl20.g 0 rfl) pass0 (zaaa (qv av20 0 rfl) (zaaa (qv av20 5 rfl) zaab zaac) zaac) zaa8) (zaau (zaar zaa3 (qv av20 5 rfl) (qv av20 4 rfl) (nomark _)))))))) zaan) (zaaf (zaax (zaak (zaco hr.units) (qv av20 1 rfl) zaaj (nomark _)) (zaag (zaal (zaaw (zaar zaa3 (qv av20 2 rfl) (qv av20 5 rfl) (nomark _)) (zaau (zaah Dis_zero hr (gl20.g 0 rfl) pass0 (zaaa (qv av20 0 rfl) (zaaa (qv av20 4 rfl) zaab zaac) zaac) zaa8))))) zaan) (zaaf (zaax (zaak (zaco hr.units) (qv av20 1 rfl) zaaj (nomark _)) (zaag (zaal (zaaw (zaah Dis_one hr (gl20.g 2 rfl) pass0 (zaaa (qv av20 0 rfl) (zaaa (qv av20 2 rfl) zaab zaac) zaac) zabe) (zaau (zact (zaah Dis_one hr (gl20.g 2 rfl) pass0 (zaaa (qv av20 0 rfl) (zaaa (qv av20 4 rfl) zaab zaac) zaac) zabe) (zact (zaah Dis_one hr (gl20.g 2 rfl) pass0 (zaaa (qv av20 0 rfl) (zaaa (qv av20 5 rfl) zaab zaac) zaac) zabe) (zaau (zaah Dare_opposed hr (gl20.g 1 rfl) pass0 (zaaa (qv av20 0 rfl) (zaaa (qv av20 4 rfl) (zaaa (qv av20 5 rfl) zaab zaac) zaac) zaac) zabi)))))))) zaan) (zaag (zaal zaa5)))))))),?_⟩
 (try dsimp only [cxOf])
 obtain ⟨x,y,rfl⟩:∃ x y,zs=[x,y]:=by
  match zs,ln with
  | [x,y],_=>exact ⟨x,y,rfl⟩
 have hf:H fl=some (.lst [nV x,nV y]):=hf
 walk_at "rdw"
 exact q
theorem zapc (F:Fun K "xor_holds" "xor_holds" (top 21) f fd) (Dis_zero:DefOk P w K mg base CX0 k "is_zero" ["gates", "number"] (spIsG isZ)) (Dis_one:DefOk P w K mg base CX0 k "is_one" ["gates", "number"] (spIsG isO)) (Dare_opposed:DefOk P w K mg base CX0 k "are_opposed" ["gates", "number", "other"] spOpG):FnOk P w K mg base CX0 (k + 1) f fd ["gates", "why", "it", "feeds"] (spRW 2):=by
 have nd:=scXorB.nd
 refine F.ok scXorB (fun vs H Q E h=>by obtain ⟨gl,fl,wv,it,zs,rfl,_⟩:=h; rfl) (fun cdv A outer s0 H vs Q E hr h=>?_)
 obtain ⟨gl,fl,wv,it,zs,rfl,hf,ln,wd,q⟩:=h
 refine ⟨_,(Pr.h (zaaf (zaat (i:=4) nd rfl (av21.l 4 rfl) (zaao zaaq (qv av21 3 rfl) zaae (fun _ _=>rfl))) (zaaf (zaat (i:=5) nd rfl (av21.l 5 rfl) (zaao zaaq (qv av21 3 rfl) zaae (fun _ _=>rfl))) (zaaf (zaax (zaak (zaco hr.units) (qv av21 1 rfl) zaaj (nomark _)) (zaag (zaal (zaaw (zaar zaa3 (qv av21 2 rfl) (qv av21 4 rfl) (nomark _)) (zaau (zaah Dis_zero hr (gl21.g 0 rfl) pass0 (zaaa (qv av21 0 rfl) (zaaa (qv av21 5 rfl) zaab zaac) zaac) zaa8))))) zaan) (zaaf (zaax (zaak (zaco hr.units) (qv av21 1 rfl) zaaj (nomark _)) (zaag (zaal (zaaw (zaar zaa3 (qv av21 2 rfl) (qv av21 5 rfl) (nomark _)) (zaau (zaah Dis_zero hr (gl21.g 0 rfl) pass0 (zaaa (qv av21 0 rfl) (zaaa (qv av21 4 rfl) zaab zaac) zaac) zaa8))))) zaan) (zaaf (zaax (zaak (zaco hr.units) (qv av21 1 rfl) zaaj (nomark _)) (zaag (zaal (zaaw (zaah Dis_zero hr (gl21.g 0 rfl) pass0 (zaaa (qv av21 0 rfl) (zaaa (qv av21 2 rfl) zaab zaac) zaac) zaa8) (zaau (zaar zaa3 (qv av21 4 rfl) (qv av21 5 rfl) (nomark _)))))) zaan) (zaaf (zaax (zaak (zaco hr.units) (qv av21 1 rfl) zaaj (nomark _)) (zaag (zaal (zaaw (zaah Dis_one hr (gl21.g 2 rfl) pass0 (zaaa (qv av21 0 rfl) (zaaa (qv av21 2 rfl) zaab zaac) zaac) zabe) (zaau (zaah Dare_opposed hr (gl21.g 1 rfl) pass0 (zaaa (qv av21 0 rfl) (zaaa (qv av21 4 rfl) (zaaa (qv av21 5 rfl) zaab zaac) zaac) zaac) zabi))))) zaan) (zaaf (zaax (zabx (zac1 (zaak (zaco hr.units) (qv av21 1 rfl) zaaj (nomark _)) (zac1 (zabf (zaah Dis_one hr (gl21.g 2 rfl) pass0 (zaaa (qv av21 0 rfl) (zaaa (qv av21 5 rfl) zaab zaac) zaac) zabe)) (zacq (zabf (zaah Dare_opposed hr (gl21.g 1 rfl) pass0 (zaaa (qv av21 0 rfl) (zaaa (qv av21 2 rfl) (zaaa (qv av21 4 rfl) zaab zaac) zaac) zaac) zabi)))))) (zaag (zaal zaa5)) zaan) (zaag (zaal (zaaw (zaar (zaco hr.units) (qv av21 1 rfl) zaaj (nomark _)) (zaaw (zaah Dis_one hr (gl21.g 2 rfl) pass0 (zaaa (qv av21 0 rfl) (zaaa (qv av21 4 rfl) zaab zaac) zaac) zabe) (zaau (zaah Dare_opposed hr (gl21.g 1 rfl) pass0 (zaaa (qv av21 0 rfl) (zaaa (qv av21 2 rfl) (zaaa (qv av21 5 rfl) zaab zaac) zaac) zaac) zabi)))))))))))))),?_⟩
 (try dsimp only [cxOf])
 obtain ⟨x,y,rfl⟩:∃ x y,zs=[x,y]:=by
  match zs,ln with
  | [x,y],_=>exact ⟨x,y,rfl⟩
 have hf:H fl=some (.lst [nV x,nV y]):=hf
 walk_at "rdw"
theorem zam0 (F:Fun K "pick_holds" "pick_holds" (top 22) f fd) (Dis_zero:DefOk P w K mg base CX0 k "is_zero" ["gates", "number"] (spIsG isZ)) (Dis_one:DefOk P w K mg base CX0 k "is_one" ["gates", "number"] (spIsG isO)) (Dare_opposed:DefOk P w K mg base CX0 k "are_opposed" ["gates", "number", "other"] spOpG):FnOk P w K mg base CX0 (k + 1) f fd ["gates", "why", "it", "feeds"] (spRW 3):=by
 have nd:=scPickB.nd
 refine F.ok scPickB (fun vs H Q E h=>by obtain ⟨gl,fl,wv,it,zs,rfl,_⟩:=h; rfl) (fun cdv A outer s0 H vs Q E hr h=>?_)
 obtain ⟨gl,fl,wv,it,zs,rfl,hf,ln,wd,q⟩:=h
 refine ⟨_,(Pr.h (zaaf (zaat (i:=4) nd rfl (av22.l 4 rfl) (zaao zaaq (qv av22 3 rfl) zaae (fun _ _=>rfl))) (zaaf (zaat (i:=5) nd rfl (av22.l 5 rfl) (zaao zaaq (qv av22 3 rfl) zaae (fun _ _=>rfl))) (zaaf (zaat (i:=6) nd rfl (av22.l 6 rfl) (zaao zaaq (qv av22 3 rfl) zaae (fun _ _=>rfl))) (zaaf (zaax (zaak (zaco hr.units) (qv av22 1 rfl) zaaj (nomark _)) (zaag (zaal (zaaw (zaar zaa3 (qv av22 2 rfl) (qv av22 5 rfl) (nomark _)) (zaau (zact (zaah Dis_one hr (gl22.g 0 rfl) pass0 (zaaa (qv av22 0 rfl) (zaaa (qv av22 4 rfl) zaab zaac) zaac) zabe) (zaau (zaar zaa3 (qv av22 5 rfl) (qv av22 6 rfl) (nomark _)))))))) zaan) (zaaf (zaax (zaak (zaco hr.units) (qv av22 1 rfl) zaaj (nomark _)) (zaag (zaal (zaaw (zaar zaa3 (qv av22 2 rfl) (qv av22 6 rfl) (nomark _)) (zaau (zaah Dis_zero hr (gl22.g 1 rfl) pass0 (zaaa (qv av22 0 rfl) (zaaa (qv av22 4 rfl) zaab zaac) zaac) zaa8))))) zaan) (zaaf (zaax (zaak (zaco hr.units) (qv av22 1 rfl) zaaj (nomark _)) (zaag (zaal (zaaw (zaar zaa3 (qv av22 2 rfl) (qv av22 4 rfl) (nomark _)) (zaaw (zaah Dis_one hr (gl22.g 0 rfl) pass0 (zaaa (qv av22 0 rfl) (zaaa (qv av22 5 rfl) zaab zaac) zaac) zabe) (zaau (zaah Dis_zero hr (gl22.g 1 rfl) pass0 (zaaa (qv av22 0 rfl) (zaaa (qv av22 6 rfl) zaab zaac) zaac) zaa8)))))) zaan) (zaaf (zaax (zaak (zaco hr.units) (qv av22 1 rfl) zaaj (nomark _)) (zaag (zaal (zaaw (zaah Dare_opposed hr (gl22.g 2 rfl) pass0 (zaaa (qv av22 0 rfl) (zaaa (qv av22 2 rfl) (zaaa (qv av22 4 rfl) zaab zaac) zaac) zaac) zabi) (zaaw (zaah Dis_zero hr (gl22.g 1 rfl) pass0 (zaaa (qv av22 0 rfl) (zaaa (qv av22 5 rfl) zaab zaac) zaac) zaa8) (zaau (zaah Dis_one hr (gl22.g 0 rfl) pass0 (zaaa (qv av22 0 rfl) (zaaa (qv av22 6 rfl) zaab zaac) zaac) zabe)))))) zaan) (zaag (zaal zaa5)))))))))),?_⟩
 (try dsimp only [cxOf])
 obtain ⟨x,y,z,rfl⟩:∃ x y z,zs=[x,y,z]:=by
  match zs,ln with
  | [x,y,z],_=>exact ⟨x,y,z,rfl⟩
 have hf:H fl=some (.lst [nV x,nV y,nV z]):=hf
 walk_at "rdw"
 exact q
def arY (wo:Str):Nat:=if wo = "not" then 1 else if wo = "pick" then 3 else 2
def spPHW:Sp:=fun vs H Q _=>∃ (gl p fl:Addr) (al:List Gt) (g:Gt) (it:Nat) (wv:V) (ρ:Nat→Nat),vs=[.ref gl,.ref p,.int (it:Int),wv,.ref fl]∧H p=some (.tup g.vs)∧g≠.inp∧H fl=some (.lst (g.feeds.map fun a=>nV (ρ a)))∧Wd H wv∧Q (.bl false) H
theorem zard {ra:Addr}{rkv:List (Key × V)}{spt:Addr→Sp}{At:Addr→Prop} (F:Fun K "pair_holds" "pair_holds" (top 24) f fd) (T_RULES:TabOk P w K mg base CX0 k ["gates", "why", "it", "feeds"] spt At) (m_RULES:mg "RULES" = some (.ref ra)) (hKD:KD P w K ra rkv)
  (hT:∀ wo∈RU,∃ f,valV rkv (.inr wo)=some (.ref f)∧At f∧spt f=spRW (arY wo)) (hN:∀ wo,wo ∉ RU→valV rkv (.inr wo)=none) (z_tuple:mg "tuple" = none):FnOk P w K mg base CX0 (k + 1) f fd ["gates", "gate", "it", "why", "feeds"] spPHW:=by
 have nd:=scPH.nd
 refine F.ok scPH (fun vs H Q E h=>by obtain ⟨gl,p,fl,al,g,it,wv,ρ,rfl,_⟩:=h; rfl) (fun cdv A outer s0 H vs Q E hr h=>?_)
 obtain ⟨gl,p,fl,al,g,it,wv,ρ,rfl,hp,ni,hf,wd,q⟩:=h
 refine ⟨_,(Pr.h (zaaf (zaat (i:=5) nd rfl (av24.l 5 rfl) (zaao zaa9 (qv av24 1 rfl) zaae (fun _ _=>rfl))) (zaaf (zaax (zaak zaa3 (qv av24 5 rfl) zaaj (nomark _)) (zaag (zaal (zaaw (zaar (zaco hr.units) (qv av24 3 rfl) zaaj (nomark _)) (zaau (zaar (zacv hr.units) (zaao zaaq (qv av24 0 rfl) (qv av24 2 rfl) (fun _ _=>rfl)) (zaay (zaaa zaaj (zaaa (zaao zaa9 (qv av24 1 rfl) zaae (fun _ _=>rfl)) (zaaa (zaao zaaq (qv av24 4 rfl) zaae (fun _ _=>rfl)) zaab zaas) zaas) zaad)) (nomark _)))))) zaan) (zaaf (zaax (zaak (zaco hr.units) (qv av24 3 rfl) zaaj (nomark _)) (zaag (zaal (zaar (zacv hr.units) (zaao zaaq (qv av24 0 rfl) (qv av24 2 rfl) (fun _ _=>rfl)) (zabg zabo (gl24.g 0 rfl) z_tuple zacb (zaaa (zaav zace (zaa0 (zaaa (qv av24 5 rfl) zaab zaac)) (qv av24 4 rfl)) zaab zabh) zacc zacd) (nomark _)))) zaan) (zaaf (zaax (zabx (zac1 (zaak (zaco hr.units) (qv av24 3 rfl) zaaj (nomark _)) (zacq (zaak zaep (qv av24 5 rfl) (zaay (zaaa zaaj (zaaa zaaj (zaaa zaaj zaab zaad) zaad) zaad)) rfl)))) (zaag (zaal (zaar (zacv hr.units) (zaao zaaq (qv av24 0 rfl) (qv av24 2 rfl) (fun _ _=>rfl)) (zaay (zaaa (qv av24 5 rfl) (zaaa (zaao zaaq (qv av24 4 rfl) zaae (fun _ _=>rfl)) (zaaa (zaao zaaq (qv av24 4 rfl) zaae (fun _ _=>rfl)) zaab zaas) zaas) zaac)) (nomark _)))) zaan) (zaag (zaal (zaaw (zaar zaf1 (qv av24 5 rfl) (zadn (v:=.ref _) (gl24.g 1 rfl) m_RULES rfl zafg) rfl) (zaau (zahk T_RULES hr pass0 (zagb (zadn (v:=.ref _) (gl24.g 1 rfl) m_RULES rfl zafg) (qv av24 5 rfl) (fun _ _=>rfl)) (zaaa (qv av24 0 rfl) (zaaa (qv av24 3 rfl) (zaaa (qv av24 2 rfl) (zaaa (qv av24 4 rfl) zaab zaac) zaac) zaac) zaac))))))))))),?_⟩
 (try dsimp only [cxOf])
 cases g with
 | inp=>exact absurd rfl ni
 | keep ff a =>
  have hp:H p=some (.tup [.str "keep",.int ff,.int a]):=hp
  walk_at "rdw"
 | zero =>
  have hp:H p=some (.tup [.str "zero"]):=hp
  have ev:=hN "zero" (by decide +kernel)
  walk_at "rdw"
  rw [ev]
  exact iteF q
 | one =>
  have hp:H p=some (.tup [.str "one"]):=hp
  have ev:=hN "one" (by decide +kernel)
  walk_at "rdw"
  rw [ev]
  exact iteF q
 | not a =>
  have hp:H p=some (.tup [.str "not",.int a]):=hp
  obtain ⟨ft,ev,at_,esp⟩:=hT "not" (by decide +kernel)
  walk_at "rdw"
  rw [ev]
  refine iteT ?_
  walk_at "rdw"
  rw [esp]
  exact ⟨gl,fl,wv,it,[ρ a],rfl,hf,rfl,wd,q⟩
 | and a b =>
  have hp:H p=some (.tup [.str "and",.int a,.int b]):=hp
  obtain ⟨ft,ev,at_,esp⟩:=hT "and" (by decide +kernel)
  walk_at "rdw"
  rw [ev]
  refine iteT ?_
  walk_at "rdw"
  rw [esp]
  exact ⟨gl,fl,wv,it,[ρ a,ρ b],rfl,hf,rfl,wd,q⟩
 | or a b =>
  have hp:H p=some (.tup [.str "or",.int a,.int b]):=hp
  obtain ⟨ft,ev,at_,esp⟩:=hT "or" (by decide +kernel)
  walk_at "rdw"
  rw [ev]
  refine iteT ?_
  walk_at "rdw"
  rw [esp]
  exact ⟨gl,fl,wv,it,[ρ a,ρ b],rfl,hf,rfl,wd,q⟩
 | xor a b =>
  have hp:H p=some (.tup [.str "xor",.int a,.int b]):=hp
  obtain ⟨ft,ev,at_,esp⟩:=hT "xor" (by decide +kernel)
  walk_at "rdw"
  rw [ev]
  refine iteT ?_
  walk_at "rdw"
  rw [esp]
  exact ⟨gl,fl,wv,it,[ρ a,ρ b],rfl,hf,rfl,wd,q⟩
 | pick a b c =>
  have hp:H p=some (.tup [.str "pick",.int a,.int b,.int c]):=hp
  obtain ⟨ft,ev,at_,esp⟩:=hT "pick" (by decide +kernel)
  walk_at "rdw"
  rw [ev]
  refine iteT ?_
  walk_at "rdw"
  rw [esp]
  exact ⟨gl,fl,wv,it,[ρ a,ρ b,ρ c],rfl,hf,rfl,wd,q⟩
theorem zare (F1:FnOk P w K mg base CX0 k f fd ["gates", "gate", "it", "why", "feeds"] spPH) (F2:FnOk P w K mg base CX0 k f fd ["gates", "gate", "it", "why", "feeds"] spPHW):FnOk P w K mg base CX0 k f fd ["gates", "gate", "it", "why", "feeds"] spPHc :=
 FnOk.or F1 F2 fun vs H Q E h=>by
  obtain ⟨gl,p,fl,al,g,it,wv,wo,ρ,rfl,ga,hp,ni,hf,wy,li,lr,q⟩:=h.ex
  cases wo with
  | none=>exact .inr ⟨gl,p,fl,al,g,it,wv,ρ,rfl,hp,ni,hf,wy,q _ (Ch.refl _ _)⟩
  | some s =>
   have wy:wv=.str s:=wy
   subst wy
   exact .inl ⟨gl,p,fl,al,g,it,s,ρ,rfl,ga,hp,ni,hf,li,lr,q⟩
end
end

section
local macro_rules | `(tactic| walk_at "sqx")=>`(tactic| first
 | with_reducible assumption
 | (apply SqX.ch; (focus with_reducible assumption); (focus walk_at "ch")))
local macro_rules | `(tactic| walk_at "user")=>`(tactic| first
 | (apply SqX.or; (focus walk_at "sqx"))
 | (focus walk_at "sqx"))
inductive Th:V→Prop
 | int (i:Int):Th (.int i)
 | non:Th .non
 | bl (b:Bool):Th (.bl b)
 | str (x:Str):Th (.str x)
def isI:V→Bool
 | .int _=>true
 | _=>false
def belB (v:V) (b:Int):Bool:=match v with
 | .int i=>decide (0≤i) && decide (i < b)
 | _=>false
inductive GV
 | tup (xs:List V)
 | oth
def GvAt (H:Hp) (v:V):GV→Prop
 | .tup xs=>∃ p,v=.ref p∧H p=some (.tup xs)∧(∀ x∈xs,Th x)∧xs.length≤10
 | .oth=>Th v∨∃ p ys,v=.ref p∧H p=some (.lst ys)
def gateB (xs:List V) (a n:Int):Bool:=match xs with
 | .str w :: r=>if w=Str.ofString "keep" then (match r with
   | [x,y]=>belB x 2 && belB y n
   | _=>false)
  else (match List.lookup w FC with
   | some c=>decide ((r.length:Int)=c) && r.all (fun x=>belB x a)
   | none=>false)
 | _=>false
def gvB (a n:Int):GV→Bool
 | .tup xs=>gateB xs a n
 | .oth=>false
theorem zask {w u:Str}{A B:Prop} (h:w≠u) (b:B):if decide (V.str w=V.str u)=true then A else B:=by
 rw [decide_eq_false (fun z=>h (V.str.inj z))]
 exact iteF b
theorem zaeb (x y:V) (a n:Int):gateB [.str "keep",x,y] a n=(belB x 2 && belB y n):=by
 unfold gateB
 simp only
 rw [if_pos trivial]
theorem zaju {r:List V} (a n:Int) (h:r.length≠2):gateB (.str "keep" :: r) a n=false:=by
 unfold gateB
 simp only
 rw [if_pos trivial]
 split
 ·exact absurd rfl h
 ·rfl
theorem zahp {w:Str}{r:List V} (a n:Int) (hk:¬ w=Str.ofString "keep") (e:List.lookup w FC=none):gateB (.str w :: r) a n=false:=by
 unfold gateB
 simp only
 rw [if_neg hk,e]
theorem zaez {w:Str}{r:List V}{c:Int} (a n:Int) (hk:¬ w=Str.ofString "keep") (e:List.lookup w FC=some c):gateB (.str w :: r) a n=(decide ((r.length:Int)=c) && r.all (fun x=>belB x a)):=by
 unfold gateB
 simp only
 rw [if_neg hk,e]
inductive Pv
 | pl (v:V)
 | sq (xs:List V)
def PvAt (H:Hp) (v:V):Pv→Prop
 | .pl u=>v=u∧Th u
 | .sq xs=>∃ p kd,v=.ref p∧SqX kd H p xs
theorem PvAt.ch {H H':Hp}{v:V}{t:Pv} (h:PvAt H v t) (c:Ch [] H H'):PvAt H' v t:=by
 cases t with
 | pl u=>exact h
 | sq xs=>exact let ⟨p,kd,a,b⟩:=h; ⟨p,kd,a,b.ch c⟩
def Pv.listed:Pv→Bool
 | .pl _=>false
 | .sq _=>true
def Pv.pair:Pv→Bool
 | .pl _=>false
 | .sq xs=>decide (xs.length=2)
def Pv.below (b:Int):Pv→Bool
 | .pl v=>belB v b
 | .sq _=>false
section
variable {P:Program}{w:World}{K:PySem.W.Frag}{mg:Str→Option Value}{base:Heap}{f:Addr}{fd:FuncData}{k:Nat}
def spWholeX:Sp:=fun vs H Q _=>∃ (v:V) (t:Pv),vs=[v]∧PvAt H v t∧∀ H',Ch [] H H'→Q (.bl (match t with | .pl u=>isI u | _=>false)) H'
theorem zalf (F:Fun K "is_whole" "is_whole" (top 4) f fd) (z_isinstance:mg "isinstance" = none) (z_int:mg "int" = none) (z_bool:mg "bool" = none):FnOk P w K mg base CX0 (k + 1) f fd ["thing"] spWholeX:=by
 have nd:=scWhole.nd
 refine F.ok scWhole (fun vs H Q E h=>by obtain ⟨v,t,rfl,_⟩:=h; rfl) (fun cdv A outer s H vs Q E hr h=>?_)
 obtain ⟨v,t,rfl,t,q⟩:=h
 refine ⟨_,(Pr.h (zaag (zaal (zaaw (zaap zac0 (gl4.g 0 rfl) z_isinstance zabj (zaaa (qv av4 0 rfl) (zaaa (zach (v:=.ty "int") (gl4.g 2 rfl) z_int zak1 rfl zak2 zak3) zaab)) zabk zabl) (zaau (zah4 (zaap zac0 (gl4.g 0 rfl) z_isinstance zabj (zaaa (qv av4 0 rfl) (zaaa (zach (v:=.ty "bool") (gl4.g 1 rfl) z_bool zagi rfl zagj zagk) zaab)) zabk zabl))))))),?_⟩
 (try dsimp only [cxOf])
 rename_i t0
 cases t0 with
 | pl u =>
  obtain ⟨rfl,t⟩:=t
  cases t with
  | int i=>walk_at "rd"; exact q _ (Ch.refl _ _)
  | non=>walk_at "rd"; exact q _ (Ch.refl _ _)
  | bl b=>walk_at "rd"; exact q _ (Ch.refl _ _)
  | str x=>walk_at "rd"; exact q _ (Ch.refl _ _)
 | sq xs =>
  obtain ⟨p,kd,rfl,hx⟩:=t
  cases kd with
  | list =>
   have hx:H p=some (.lst xs):=hx
   walk_at "rd"
   exact q _ (Ch.refl _ _)
  | tuple =>
   have hx:H p=some (.tup xs):=hx
   walk_at "rd"
   exact q _ (Ch.refl _ _)
def spBelowX:Sp:=fun vs H Q _=>∃ (v:V) (b:Int),vs=[v,.int b]∧Th v∧Q (.bl (belB v b)) H
def spBelowP:Sp:=fun vs H Q _=>∃ (v:V) (b:Int) (t:Pv),vs=[v,.int b]∧PvAt H v t∧∀ H',Ch [] H H'→Q (.bl (t.below b)) H'
theorem zalg (F:Fun K "is_below" "is_below" (top 5) f fd) (Dis_whole:DefOk P w K mg base CX0 k "is_whole" ["thing"] spWholeX):FnOk P w K mg base CX0 (k + 1) f fd ["thing", "bound"] spBelowP:=by
 have nd:=scBelow.nd
 refine F.ok scBelow (fun vs H Q E h=>by obtain ⟨v,b,t,rfl,_⟩:=h; rfl) (fun cdv A outer s H vs Q E hr h=>?_)
 obtain ⟨v,b,t,rfl,hv,q⟩:=h
 refine ⟨_,(Pr.h (zaag (zaal (zaaw (zaah Dis_whole hr (gl5.g 0 rfl) pass0 (zaaa (qv av5 0 rfl) zaab zaac) zaei) (zaau (zafq zan9 zajf zaae (qv av5 0 rfl) (qv av5 1 rfl))))))),?_⟩
 (try dsimp only [cxOf])
 refine ⟨_,rfl,_,t,rfl,hv,fun H1 c1=>?_⟩
 cases t with
 | pl u =>
  obtain ⟨rfl,t⟩:=hv
  cases t with
  | int i =>
   walk_at "rd"
   refine ite2 (fun h0=>?_) (fun h0=>?_)
   ·walk_at "rd"
    have h0:0≤i:=by simpa using h0
    have e:Pv.below b (.pl (.int i))=decide (i < b):=by show (decide (0≤i) && decide (i < b))=_; rw [decide_eq_true h0,Bool.true_and]
    rw [e] at q
    exact q _ c1
   ·have h0:¬ 0≤i:=by simpa using h0
    have e:Pv.below b (.pl (.int i))=false:=by show (decide (0≤i) && decide (i < b))=_; rw [decide_eq_false h0,Bool.false_and]
    rw [e] at q
    walk_at "rd"
    all_goals first | exact q _ c1 | (rw [decide_eq_false h0]; exact q _ c1)
  | non=>walk_at "rd"; exact q _ c1
  | bl b=>walk_at "rd"; exact q _ c1
  | str x=>walk_at "rd"; exact q _ c1
 | sq xs=>walk_at "rd"; exact q _ c1
def spListedX:Sp:=fun vs H Q _=>∃ (v:V) (t:Pv),vs=[v]∧PvAt H v t∧∀ H',Ch [] H H'→Q (.bl t.listed) H'
theorem zajv (F:Fun K "is_listed" "is_listed" (top 6) f fd) (z_isinstance:mg "isinstance" = none) (z_list:mg "list" = none) (z_tuple:mg "tuple" = none):FnOk P w K mg base CX0 (k + 1) f fd ["thing"] spListedX:=by
 have nd:=scListed.nd
 refine F.ok scListed (fun vs H Q E h=>by obtain ⟨v,t,rfl,_⟩:=h; rfl) (fun cdv A outer s H vs Q E hr h=>?_)
 obtain ⟨v,t,rfl,hv,q⟩:=h
 refine ⟨_,(Pr.h (zaag (zaal (zaap zahj (gl6.g 2 rfl) z_isinstance zabj (zaaa (qv av6 0 rfl) (zaaa (zaay (zaaa (zach (v:=.ty "list") (gl6.g 1 rfl) z_list zadi rfl zadj zadk) (zaaa (zach (v:=.ty "tuple") (gl6.g 0 rfl) z_tuple zacb rfl zacc zacd) zaab zaac) zaac)) zaab)) zabk zabl)))),?_⟩
 (try dsimp only [cxOf])
 cases t with
 | pl u =>
  obtain ⟨rfl,t⟩:=hv
  cases t with
  | int i=>walk_at "rd"; exact q _ (Ch.new (by assumption) _)
  | non=>walk_at "rd"; exact q _ (Ch.new (by assumption) _)
  | bl b=>walk_at "rd"; exact q _ (Ch.new (by assumption) _)
  | str x=>walk_at "rd"; exact q _ (Ch.new (by assumption) _)
 | sq xs =>
  obtain ⟨p,kd,rfl,hx⟩:=hv
  cases kd with
  | list =>
   have hx:H p=some (.lst xs):=hx
   walk_at "rd"
   exact q _ (Ch.new (by assumption) _)
  | tuple =>
   have hx:H p=some (.tup xs):=hx
   walk_at "rd"
   exact q _ (Ch.new (by assumption) _)
def spPairX:Sp:=fun vs H Q _=>∃ (v:V) (t:Pv),vs=[v]∧PvAt H v t∧∀ H',Ch [] H H'→Q (.bl t.pair) H'
theorem zam1 (F:Fun K "is_pair" "is_pair" (top 7) f fd) (Dis_listed:DefOk P w K mg base CX0 k "is_listed" ["thing"] spListedX) (z_len:mg "len" = none):FnOk P w K mg base CX0 (k + 1) f fd ["thing"] spPairX:=by
 have nd:=scPair.nd
 refine F.ok scPair (fun vs H Q E h=>by obtain ⟨v,t,rfl,_⟩:=h; rfl) (fun cdv A outer s0 H vs Q E hr h=>?_)
 obtain ⟨v,t,rfl,hv,q⟩:=h
 refine ⟨_,(Pr.h (zaag (zaal (zaaw (zaah Dis_listed hr (gl7.g 1 rfl) pass0 (zaaa (qv av7 0 rfl) zaab zaac) zacf) (zaau (zaar zaa3 (zaap zaam (gl7.g 0 rfl) z_len PySem.boot_len (zaaa (qv av7 0 rfl) zaab zaac) zabb zabc) zaae (nomark _))))))),?_⟩
 (try dsimp only [cxOf])
 refine ⟨_,rfl,_,t,rfl,hv,fun H1 c1=>?_⟩
 cases t with
 | pl u=>walk_at "rd"; exact q _ c1
 | sq xs =>
  obtain ⟨p,kd,rfl,hx⟩:=hv
  have hx1:=hx.ch c1
  walk_at "rd"
  have e:decide (V.int ((xs.length:Nat):Int)=V.int 2)=decide (xs.length=2):=decide_eq_decide.mpr ⟨fun z=>by injection z with z; omega,fun z=>by rw [z]; rfl⟩
  rw [e]
  exact q _ c1
def spGateX:Sp:=fun vs H Q _=>∃ (v:V) (g:GV) (a n:Int),vs=[v,.int a,.int n]∧GvAt H v g∧∀ H',Ch [] H H'→Q (.bl (gvB a n g)) H'
theorem zam2 {fa:Addr}{kvs:List (Key × V)} (F:Fun K "is_gate" "is_gate" (top 10) f fd) (Dis_below:DefOk P w K mg base CX0 k "is_below" ["thing", "bound"] spBelowX)
  (m_FEED_COUNTS:mg "FEED_COUNTS" = some (.ref fa)) (hKD:KD P w K fa kvs) (hF:∀ w,valV kvs (Sum.inr w)=(List.lookup w FC).map V.int)
  (z_isinstance:mg "isinstance" = none) (z_tuple:mg "tuple" = none) (z_str:mg "str" = none) (z_len:mg "len" = none) (z_all:mg "all" = none):FnOk P w K mg base CX0 (k + 1) f fd ["thing", "ahead", "total"] spGateX:=by
 have nd:=scGate.nd
 refine F.ok scGate (fun vs H Q E h=>by obtain ⟨v,g,a,n,rfl,_⟩:=h; rfl) (fun cdv A outer s H vs Q E hr h=>?_)
 obtain ⟨v,g,a,n,rfl,gv,q⟩:=h
 refine ⟨_,(Pr.h (zaaf (zaax (zabx (zack (zabp (zabf (zaap zac0 (gl10.g 0 rfl) z_isinstance zabj (zaaa (qv av10 0 rfl) (zaaa (zach (v:=.ty "tuple") (gl10.g 3 rfl) z_tuple zacb rfl zacc zacd) zaab)) zabk zabl))) (zack (zaak zaa3 (zaap zaam (gl10.g 2 rfl) z_len PySem.boot_len (zaaa (qv av10 0 rfl) zaab zaac) zabb zabc) zaae (nomark _)) (zab8 (zabp (zabf (zaap zac0 (gl10.g 0 rfl) z_isinstance zabj (zaaa (zaao zaa9 (qv av10 0 rfl) zaae (fun _ _=>rfl)) (zaaa (zach (v:=.ty "str") (gl10.g 1 rfl) z_str zank rfl zanl zanm) zaab)) zabk zabl))))))) (zaag (zaal zaa5)) zaan) (zaaf (zaax (zaak zaa3 (zaao zaa9 (qv av10 0 rfl) zaae (fun _ _=>rfl)) zaaj (nomark _)) (zaag (zaal (zaaw (zaar zaa3 (zaap zaam (gl10.g 2 rfl) z_len PySem.boot_len (zaaa (qv av10 0 rfl) zaab zaac) zabb zabc) zaae (nomark _)) (zaaw (zaah Dis_below hr (gl10.g 4 rfl) pass0 (zaaa (zaao zaa9 (qv av10 0 rfl) zaae (fun _ _=>rfl)) (zaaa zaae zaab zaad) zaas) zaci) (zaau (zaah Dis_below hr (gl10.g 4 rfl) pass0 (zaaa (zaao zaa9 (qv av10 0 rfl) zaae (fun _ _=>rfl)) (zaaa (qv av10 2 rfl) zaab zaac) zaas) zaci)))))) zaan) (zaaf (zaax (zabx (zack (zaak zaet (zaao zaa9 (qv av10 0 rfl) zaae (fun _ _=>rfl)) (zadn (v:=.ref _) (gl10.g 5 rfl) m_FEED_COUNTS rfl zac8) rfl) (zab8 (zaak zaem (zaap zaam (gl10.g 2 rfl) z_len PySem.boot_len (zaaa (qv av10 0 rfl) zaab zaac) zabb zabc) (zaav zacx zaae (zagb (zadn (v:=.ref _) (gl10.g 5 rfl) m_FEED_COUNTS rfl zac8) (zaao zaa9 (qv av10 0 rfl) zaae (fun _ _=>rfl)) (fun _ _=>rfl))) (nomark _))))) (zaag (zaal zaa5)) zaan) (zaag (zaal (zaap (zai1 rfl) (gl10.g 6 rfl) z_all zann (zaaa (zadq rfl zagm (zakp (zabw zag6 (qv av10 0 rfl) (zab6 zaae) zaca)) (fun _ _ _ _ _=>(zaa1 (i:=0) zagm.nd rfl (Or.inl (zagn.k 0 rfl)) (Or.inr (zagn.k 0 rfl)))) (fun _ _ _ _ _=>zac7) (fun _ _ _ _ _=>(zaah Dis_below hr (zak5.g 0 rfl) pass0 (zaaa (qw zago 0 rfl) (zaaa (qw zago 1 rfl) zaab zaac) zaac) zaci))) zaab zaeh) zano zanp))))))),?_⟩
 (try dsimp only [cxOf])
 cases g with
 | oth =>
  have q:∀ H',Ch [] H H'→Q (.bl false) H':=q
  rcases gv with t | ⟨p,ys,rfl,hp⟩
  ·cases t with
   | int i=>walk_at "rd"; exact q H (Ch.refl _ _)
   | non=>walk_at "rd"; exact q H (Ch.refl _ _)
   | bl b=>walk_at "rd"; exact q H (Ch.refl _ _)
   | str x=>walk_at "rd"; exact q H (Ch.refl _ _)
  ·walk_at "rd"
   exact q H (Ch.refl _ _)
 | tup xs =>
  obtain ⟨p,rfl,hp,th,l10⟩:=gv
  have q:∀ H',Ch [] H H'→Q (.bl (gateB xs a n)) H':=q
  cases xs with
  | nil=>walk_at "rd"; exact q H (Ch.refl _ _)
  | cons x r =>
   cases th x (by simp) with
   | int i =>
    have es:((fun x:List Value=>x.contains (Value.type "str")) ((fun x=>List.map Value.type x.mro) Manifest.ty_int))=false:=by decide +kernel
    walk_at "rd"
    rw [es]
    walk_at "rd"
    exact q H (Ch.refl _ _)
   | non=>walk_at "rd"; exact q H (Ch.refl _ _)
   | bl b=>walk_at "rd"; exact q H (Ch.refl _ _)
   | str wd =>
    by_cases hk:wd=Str.ofString "keep"
    ·subst hk
     walk_at "rd"
     refine ite2 (fun h=>?_) (fun h=>?_)
     ·have h3:(((V.str (Str.ofString "keep") :: r).length:Nat):Int)=3:=by simpa using h
      rw [List.length_cons] at h3
      obtain ⟨x,y,rfl⟩:∃ x y,r=[x,y]:=by
       match r,h3 with
       | [x,y],_=>exact ⟨x,y,rfl⟩
       | [],h=>simp at h
       | [_],h=>simp at h
       | _ :: _ :: _ :: t,h=>simp at h; omega
      have tx:=th x (by simp)
      have ty:=th y (by simp)
      rw [zaeb] at q
      walk_at "rd"
      refine ite2 (fun hb=>?_) (fun hb=>?_)
      ·rw [hb,Bool.true_and] at q
       walk_at "rd"
       exact q H (Ch.refl _ _)
      ·have hb:belB x 2=false:=by simpa using hb
       rw [hb,Bool.false_and] at q
       walk_at "rd"
       exact q H (Ch.refl _ _)
     ·have h3:r.length≠2:=fun z=>h (by rw [List.length_cons,z]; rfl)
      rw [zaju a n h3] at q
      have hd:decide (V.int (((V.str (Str.ofString "keep") :: r).length:Nat):Int)=V.int 3)=false:=by simpa using h
      walk_at "rd"
      exact q H (Ch.refl _ _)
    ·walk_at "rd"
     refine zask hk ?_
     have hv:=hF wd
     cases e:List.lookup wd FC with
     | none =>
      rw [e] at hv
      have hv:valV kvs (Sum.inr wd)=none:=hv
      rw [zahp a n hk e] at q
      walk_at "rd"
      rw [hv]
      refine iteT ?_
      walk_at "rd"
      exact q H (Ch.refl _ _)
     | some c =>
      rw [e] at hv
      have hv:valV kvs (Sum.inr wd)=some (.int c):=hv
      rw [zaez a n hk e] at q
      walk_at "rd"
      rw [hv]
      refine iteF ?_
      walk_at "rd"
      refine ite2 (fun h=>?_) (fun h=>?_)
      ·have hd:decide ((r.length:Int)=c)=false:=by
        refine decide_eq_false fun z=>?_
        have:¬ (((V.str wd :: r).length:Nat):Int)=1 + c:=by simpa using h
        rw [List.length_cons] at this
        omega
       rw [hd,Bool.false_and] at q
       walk_at "rd"
       exact q H (Ch.refl _ _)
      ·have hd:decide ((r.length:Int)=c)=true:=by
        refine decide_eq_true ?_
        have:(((V.str wd :: r).length:Nat):Int)=1 + c:=by simpa using h
        rw [List.length_cons] at this
        omega
       rw [hd,Bool.true_and] at q
       walk_at "rd"
       rename_i pt hpt
       refine zai0 r (fun j ys σ H'=>H'=upd H pt (.tup (cutV (V.str wd :: r) (some 1) none))∧ys=(r.take j).map (fun x=>V.bl (belB x a))∧∃ u,σ=[u,some (.int a)]) (by rw [sizeLine_eq]; rw [List.length_cons] at l10; omega) ⟨rfl,rfl,_,rfl⟩ ?_ ?_ ?_
       ·rintro j ys σ H' hj ⟨rfl,rfl,_⟩
        exact ⟨by rw [List.length_map,List.length_take]; omega,SqT.of (by rw [zaai,cut1])⟩
       ·rintro j ys σ H' x hx ⟨rfl,rfl,u,rfl⟩
        have tx:=th x (List.mem_cons_of_mem _ (List.mem_of_getElem? hx))
        walk_at "rd"
        exact ⟨by rw [List.take_add_one,hx]; simp,_,rfl⟩
       ·rintro ys σ H' ⟨rfl,rfl,_⟩
        intro D hD
        refine ⟨D,r.map (fun x=>belB x a),rfl,by rw [zaai,List.take_length,List.map_map]; rfl,?_⟩
        rw [show (r.map fun x=>belB x a).all id=r.all fun x=>belB x a by rw [List.all_map]; rfl]
        exact q _ ((Ch.new hpt _).trans (Ch.new hD _))
end
end

section
section
variable {P:Program}{w:World}{K:PySem.W.Frag}{mg:Str→Option Value}{base:Heap}{f:Addr}{fd:FuncData}{k:Nat}
def spWholeT:Sp:=fun vs H Q _=>∃ v:V,vs=[v]∧Th v∧Q (.bl (isI v)) H
theorem zalh (F:Fun K "is_whole" "is_whole" (top 4) f fd) (z_isinstance:mg "isinstance" = none) (z_int:mg "int" = none) (z_bool:mg "bool" = none):FnOk P w K mg base CX0 (k + 1) f fd ["thing"] spWholeT:=by
 have nd:=scWhole.nd
 refine F.ok scWhole (fun vs H Q E h=>by obtain ⟨v,rfl,_⟩:=h; rfl) (fun cdv A outer s H vs Q E hr h=>?_)
 obtain ⟨v,rfl,t,q⟩:=h
 refine ⟨_,(Pr.h (zaag (zaal (zaaw (zaap zac0 (gl4.g 0 rfl) z_isinstance zabj (zaaa (qv av4 0 rfl) (zaaa (zach (v:=.ty "int") (gl4.g 2 rfl) z_int zak1 rfl zak2 zak3) zaab)) zabk zabl) (zaau (zah4 (zaap zac0 (gl4.g 0 rfl) z_isinstance zabj (zaaa (qv av4 0 rfl) (zaaa (zach (v:=.ty "bool") (gl4.g 1 rfl) z_bool zagi rfl zagj zagk) zaab)) zabk zabl))))))),?_⟩
 (try dsimp only [cxOf])
 cases t with
 | int i=>walk_at "rd"; exact q
 | non=>walk_at "rd"; exact q
 | bl b=>walk_at "rd"; exact q
 | str x=>walk_at "rd"; exact q
theorem zali (F:Fun K "is_below" "is_below" (top 5) f fd) (Dis_whole:DefOk P w K mg base CX0 k "is_whole" ["thing"] spWholeT):FnOk P w K mg base CX0 (k + 1) f fd ["thing", "bound"] spBelowX:=by
 have nd:=scBelow.nd
 refine F.ok scBelow (fun vs H Q E h=>by obtain ⟨v,b,rfl,_⟩:=h; rfl) (fun cdv A outer s H vs Q E hr h=>?_)
 obtain ⟨v,b,rfl,t,q⟩:=h
 refine ⟨_,(Pr.h (zaag (zaal (zaaw (zaah Dis_whole hr (gl5.g 0 rfl) pass0 (zaaa (qv av5 0 rfl) zaab zaac) zaei) (zaau (zafq zan9 zajf zaae (qv av5 0 rfl) (qv av5 1 rfl))))))),?_⟩
 (try dsimp only [cxOf])
 refine ⟨_,rfl,v,rfl,t,?_⟩
 cases t with
 | int i =>
  walk_at "rd"
  refine ite2 (fun h0=>?_) (fun h0=>?_)
  ·walk_at "rd"
   have h0:0≤i:=by simpa using h0
   have e:belB (.int i) b=decide (i < b):=by show (decide (0≤i) && decide (i < b))=_; rw [decide_eq_true h0,Bool.true_and]
   rw [e] at q
   exact q
  ·have h0:¬ 0≤i:=by simpa using h0
   have e:belB (.int i) b=false:=by show (decide (0≤i) && decide (i < b))=_; rw [decide_eq_false h0,Bool.false_and]
   rw [e] at q
   walk_at "rd"
   all_goals first | exact q | (rw [decide_eq_false h0]; exact q)
 | non=>walk_at "rd"; exact q
 | bl b=>walk_at "rd"; exact q
 | str x=>walk_at "rd"; exact q
end
end

section
local macro_rules | `(tactic| walk_at "sqx")=>`(tactic| first
 | with_reducible assumption
 | (apply SqX.ch; (focus with_reducible assumption); (focus walk_at "ch")))
local macro_rules | `(tactic| walk_at "user")=>`(tactic| first
 | (apply GA.ch; (focus with_reducible assumption); (focus walk_at "ch"))
 | (apply NetAt.ch; (focus with_reducible assumption); (focus walk_at "ch"))
 | (apply SqX.or; (focus walk_at "sqx"))
 | (focus walk_at "sqx"))
structure BadG (H:Hp) (a n:Int) (v:V):Prop where
 h:Th v∨∃ p kd xs,v=.ref p∧SqX kd H p xs∧(∀ x∈xs,Th x)∧xs.length≤10∧(gateB xs a n=false∨∃ ys,xs=.str "in" :: ys)
theorem BadG.ch {H H':Hp}{a n:Int}{v:V} (b:BadG H a n v) (c:Ch [] H H'):BadG H' a n v:=⟨b.h.elim .inl fun ⟨p,kd,xs,e,h,t⟩=>.inr ⟨p,kd,xs,e,h.ch c,t⟩⟩
structure BadL (kd:SK) (H:Hp) (m:Nat) (v:V):Prop where
 h:Th v∨∃ (p:Addr) (z:V) (zs:List V),v=.ref p∧SqX kd H p (z :: zs)∧zs.length≤1000∧BadG H (m:Int) ((m:Int) + ((zs.length:Int) + 1)) z
theorem BadL.ch {kd:SK}{H H':Hp}{m:Nat}{v:V} (b:BadL kd H m v) (c:Ch [] H H'):BadL kd H' m v:=⟨b.h.elim .inl fun ⟨p,z,zs,e,h,l,g⟩=>.inr ⟨p,z,zs,e,h.ch c,l,g.ch c⟩⟩
inductive ElAt (H:Hp) (t:Int) (v:V):Bool→Prop
 | non:v=.non→ElAt H t v true
 | pr {p:Addr}{kd:SK}{x y:V}{px:Pv}:v=.ref p→SqX kd H p [x,y]→PvAt H x px→ElAt H t v (px.below t)
 | oth {tv:Pv}:PvAt H v tv→v≠.non→tv.pair=false→ElAt H t v false
theorem ElAt.ch {H H':Hp}{t:Int}{v:V}{b:Bool} (h:ElAt H t v b) (c:Ch [] H H'):ElAt H' t v b:=by
 cases h with
 | non e=>exact .non e
 | pr e h p=>exact .pr e (h.ch c) (p.ch c)
 | oth h n p=>exact .oth (h.ch c) n p
structure BadP (kd:SK) (H:Hp) (n:Nat) (t:Int) (v:V):Prop where
 h:Th v∨∃ (p:Addr) (qs:List V),v=.ref p∧SqX kd H p qs∧(qs.length≠n∨((∀ z∈qs,∃ b,ElAt H t z b)∧∃ z∈qs,∀ H' b,Ch [] H H'→ElAt H' t z b→b=false))
section
variable {P:Program}{w:World}{K:PySem.W.Frag}{mg:Str→Option Value}{base:Heap}{f:Addr}{fd:FuncData}{k:Nat}
def spWLX (CN:Addr):Sp:=fun vs H Q _=>∃ (nt gp op:Addr) (sg:List Gt) (xs:List V) (so:List Nat) (v:V) (kd:SK),vs=[.ref nt,v]∧NetAt CN H nt gp op sg xs so∧BadL kd H sg.length v∧sg.length≤1000∧∀ (H':Hp),Ch [] H H'→Q .non H'
theorem zarf {CN:Addr} (F:Fun K "with_lost" "with_lost" (top 25) f fd) (cl:Cls K CN) (nG:NoAttr K CN "gates") (Dis_listed:DefOk P w K mg base CX0 k "is_listed" ["thing"] spListedX) (Dis_gate:DefOk P w K mg base CX0 k "is_gate" ["thing", "ahead", "total"] spGateX) (z_len:mg "len" = none) (z_list:mg "list" = none) (z_tuple:mg "tuple" = none):FnOk P w K mg base CX0 (k + 1) f fd ["small", "lost"] (spWLX CN):=by
 have nd:=scWL.nd
 refine F.ok scWL (fun vs H Q E h=>by obtain ⟨nt,gp,op,sg,xs,so,v,kd,rfl,_⟩:=h; rfl) (fun cdv A outer s0 H vs Q E hr h=>?_)
 obtain ⟨nt,gp,op,sg,xs,so,v,kd,rfl,na,bl,l1,q⟩:=h
 refine ⟨_,(Pr.h (zaaf (zaax (zabp (zabf (zaah Dis_listed hr (gl25.g 0 rfl) pass0 (zaaa (qv av25 1 rfl) zaab zaac) zacf))) (zaag (zaal zabv)) zaan) (zaaf (zaat (i:=2) nd rfl (av25.l 2 rfl) (zabg zab9 (gl25.g 1 rfl) z_list zadi (zaaa (zab7 (qv av25 0 rfl) rfl) zaab zaa4) zadj zadk)) (zaaf (zaat (i:=3) nd rfl (av25.l 3 rfl) (zaav zacx (zaap zaam (gl25.g 2 rfl) z_len PySem.boot_len (zaaa (qv av25 2 rfl) zaab zaac) zabb zabc) (zaap zaam (gl25.g 2 rfl) z_len PySem.boot_len (zaaa (qv av25 1 rfl) zaab zaac) zabb zabc))) (zaaf (zaby PassesOwn.never rfl (zagf K rfl kd (qv av25 1 rfl)) (zaa1 (i:=4) nd rfl (av25.l 4 rfl)) (zaaz (zaat (i:=5) nd rfl (av25.l 5 rfl) (zaeu (zabf (zaah Dis_listed hr (gl25.g 0 rfl) pass0 (zaaa (qv av25 4 rfl) zaab zaac) zacf)) (zabg zabo (gl25.g 3 rfl) z_tuple zacb (zaaa (qv av25 4 rfl) zaab zaac) zacc zacd) zabv)) (zaaf (zaax (zabx (zack (zabp (zabf (zaah Dis_gate hr (gl25.g 4 rfl) pass0 (zaaa (qv av25 5 rfl) (zaaa (zaap zaam (gl25.g 2 rfl) z_len PySem.boot_len (zaaa (qv av25 2 rfl) zaab zaac) zabb zabc) (zaaa (qv av25 3 rfl) zaab zaac) zab0) zaac) zae5))) (zab8 (zaak zaa3 (zaao zaa9 (qv av25 5 rfl) zaae (fun _ _=>rfl)) zaaj (nomark _))))) (zaag (zaal zabv)) zaan) (zaag (zado (zae7 PySem.F.plainAttrs_list PySem.F.slot_list_append PySem.F.type_list_append zade (qv av25 2 rfl) (zaaa (qv av25 5 rfl) zaab zaac))))))) (zaag (zaal (qv av25 2 rfl)))))))),?_⟩
 (try dsimp only [cxOf])
 obtain ⟨dx,ob⟩:=na.ob
 have gt:=na.gt
 have lx:xs.length=sg.length:=na.gg.len
 rcases bl.h with t | ⟨ll,z,zs,rfl,hll,lz,bg⟩
 ·refine ⟨_,rfl,v,.pl v,rfl,⟨rfl,t⟩,fun H1 c1=>?_⟩
  refine ⟨_,rfl,?_⟩
  refine iteT ?_
  exact q _ c1
 ·refine ⟨_,rfl,_,.sq (z :: zs),rfl,⟨ll,kd,rfl,hll⟩,fun H1 c1=>?_⟩
  have na1:=na.ch c1
  have ob1:=c1.get ob (by simp)
  have gt1:=c1.get gt (by simp)
  have hll1:=hll.ch c1
  walk_at "rd"
  rename_i l hl
  have c2:=c1.trans (Ch.new hl (.lst xs))
  have g2:upd H1 l (.lst xs) l=some (.lst xs):=zaai
  have hll2:=hll1.ch (Ch.new hl (.lst xs))
  refine ⟨⟨_,hll2.sq⟩,?_⟩
  refine zags (xs:=z :: zs) (fun i σ H'=>i=0∧H'=upd H1 l (.lst xs)∧∃ u v,σ=[some (.ref nt),some (.ref ll),some (.ref l),some (.int ((xs.length:Int) + ((z :: zs).length:Int))),u,v]) ⟨rfl,rfl,_,_,rfl⟩ ?_ ?_ ?_
  ·rintro i σ H' hi ⟨_,rfl,_⟩
   exact hll2.sq
  ·rintro i x σ H' hx ⟨rfl,rfl,u,v,rfl⟩
   have ex:z=x:=by simpa using hx
   subst ex
   have bg2:=bg.ch c2
   have el:(((z :: zs).length:Nat):Int)=(zs.length:Int) + 1:=by rw [List.length_cons]; omega
   rw [el,lx]
   generalize upd H1 l (.lst xs)=H2 at c2 g2 hll2 bg2 ⊢
   rcases bg2.h with t | ⟨p,kp,ys,rfl,hp,ty,l10,bad⟩
   ·refine zaa6 (fun σ H'=>H'=H'∧Ch [] H2 H'∧σ=[some (.ref nt),some (.ref ll),some (.ref l),some (.int ((sg.length:Int) + ((zs.length:Int) + 1))),some z,some .non]) ?_ ?_
    ·refine ⟨_,rfl,z,.pl z,rfl,⟨rfl,t⟩,fun H3 c3=>?_⟩
     refine ⟨_,rfl,?_⟩
     refine iteF ?_
     walk_at "rd"
    rintro σ H3 ⟨_,c3,rfl⟩
    have g3:=c3.get g2 (by simp)
    walk_at "rd"
    refine ⟨(show GvAt _ _ .oth from .inl .non),fun H4 c4=>?_⟩
    refine ⟨false,rfl,?_⟩
    refine iteT ?_
    refine iteT ?_
    exact q _ ((c2.trans c3).trans c4)
   ·refine zaa6 (fun σ H'=>∃ p2,H' p2=some (.tup ys)∧Ch [] H2 H'∧σ=[some (.ref nt),some (.ref ll),some (.ref l),some (.int ((sg.length:Int) + ((zs.length:Int) + 1))),some (.ref p),some (.ref p2)]) ?_ ?_
    ·refine ⟨_,rfl,.ref p,.sq ys,rfl,⟨p,kp,rfl,hp⟩,fun H3 c3=>?_⟩
     have hp3:=hp.ch c3
     refine ⟨_,rfl,?_⟩
     refine iteT ?_
     cases kp with
     | list =>
      have hp4:H3 p=some (.lst ys):=hp3
      walk_at "rd"
     | tuple =>
      have hp4:H3 p=some (.tup ys):=hp3
      walk_at "rd"
    rintro σ H3 ⟨p2,hp2,c3,rfl⟩
    have g3:=c3.get g2 (by simp)
    walk_at "rd"
    refine ⟨(show GvAt _ _ (.tup ys) from ⟨p2,rfl,hp2,ty,l10⟩),fun H4 c4=>?_⟩
    have hp4:=c4.get hp2 (by simp)
    have cF:=(c2.trans c3).trans c4
    rw [lx]
    cases eb:gateB ys (sg.length:Int) ((sg.length:Int) + ((zs.length:Int) + 1)) with
    | false =>
     refine ⟨false,congrArg V.bl eb,?_⟩
     refine iteT ?_
     refine iteT ?_
     exact q _ cF
    | true =>
     rcases bad with z | ⟨ys2,rfl⟩
     ·rw [eb] at z; cases z
     refine ⟨true,congrArg V.bl eb,?_⟩
     refine iteF ?_
     walk_at "rd"
     exact q _ cF
  ·rintro σ H' ⟨hi,_⟩
   exact absurd hi (by simp)
def spAPX:Sp:=fun vs H Q _=>∃ (v:V) (n:Nat) (t:Int) (kd:SK),vs=[v,.int (n:Int),.int t]∧BadP kd H n t v∧∀ (H':Hp),Ch [] H H'→Q (.bl false) H'
theorem zarg (F:Fun K "are_pairs" "are_pairs" (top 26) f fd) (Dis_listed:DefOk P w K mg base CX0 k "is_listed" ["thing"] spListedX) (Dis_pair:DefOk P w K mg base CX0 k "is_pair" ["thing"] spPairX) (Dis_below:DefOk P w K mg base CX0 k "is_below" ["thing", "bound"] spBelowP) (z_len:mg "len" = none):FnOk P w K mg base CX0 (k + 1) f fd ["pairs", "count", "total"] spAPX:=by
 have nd:=scAP.nd
 refine F.ok scAP (fun vs H Q E h=>by obtain ⟨v,n,t,kd,rfl,_⟩:=h; rfl) (fun cdv A outer s0 H vs Q E hr h=>?_)
 obtain ⟨v,n,t,kd,rfl,bp,q⟩:=h
 refine ⟨_,(Pr.h (zaaf (zaax (zabx (zack (zabp (zabf (zaah Dis_listed hr (gl26.g 1 rfl) pass0 (zaaa (qv av26 0 rfl) zaab zaac) zacf))) (zab8 (zaak zaem (zaap zaam (gl26.g 0 rfl) z_len PySem.boot_len (zaaa (qv av26 0 rfl) zaab zaac) zabb zabc) (qv av26 1 rfl) (nomark _))))) (zaag (zaal zaa5)) zaan) (zaaf (zaby PassesOwn.never rfl (zagf K rfl kd (qv av26 0 rfl)) (zaa1 (i:=3) nd rfl (av26.l 3 rfl)) (zaag (zaax (zabx (zac1 (zaak zaj8 (qv av26 3 rfl) zabv (nomark _)) (zacq (zabp (zabx (zac1 (zabf (zaah Dis_pair hr (gl26.g 3 rfl) pass0 (zaaa (qv av26 3 rfl) zaab zaac) zadc)) (zacq (zabf (zaah Dis_below hr (gl26.g 2 rfl) pass0 (zaaa (zaao (zab5 K rfl) (qv av26 3 rfl) zaae (fun _ _=>rfl)) (zaaa (qv av26 2 rfl) zaab zaac) zaas) zaci))))))))) (zaag (zaal zaa5)) zaan))) (zaag (zaal zaa5))))),?_⟩
 (try dsimp only [cxOf])
 rcases bp.h with tv | ⟨ql,qs,rfl,hql,bad⟩
 ·refine ⟨_,rfl,v,.pl v,rfl,⟨rfl,tv⟩,fun H1 c1=>?_⟩
  refine ⟨false,rfl,?_⟩
  exact iteT (q _ c1)
 ·refine ⟨_,rfl,_,.sq qs,rfl,⟨ql,kd,rfl,hql⟩,fun H1 c1=>?_⟩
  refine ⟨true,rfl,?_⟩
  refine iteF ?_
  have hql1:=hql.ch c1
  walk_at "rd"
  refine ite2 (fun _=>q _ c1) (fun h=>?_)
  have ln:qs.length=n:=by simp at h; omega
  rcases bad with z | ⟨all,zb,hzb,zbad⟩
  ·exact absurd ln z
  walk_at "rd"
  refine ⟨⟨_,hql1.sq⟩,?_⟩
  refine zags (xs:=qs) (fun i σ H'=>Ch [] H H'∧Box (∀ j z,j < i→qs[j]?=some z→ElAt H t z true)∧∃ u,σ=[some (.ref ql),some (.int (n:Int)),some (.int t),u]) ⟨c1,⟨fun j z h=>absurd h (Nat.not_lt_zero _)⟩,_,rfl⟩ ?_ ?_ ?_
  ·rintro i σ H' hi ⟨c,_⟩
   exact (hql.ch c).sq
  ·rintro i x σ H' hx ⟨c,bx,u,rfl⟩
   obtain ⟨b,el⟩:=all x (List.mem_of_getElem? hx)
   have good:b=true→Box (∀ j z,j < i + 1→qs[j]?=some z→ElAt H t z true):=fun e=>⟨fun j z hj ez=>by
    by_cases hj':j < i
    ·exact bx.h j z hj' ez
    ·have:j=i:=by omega
     subst this
     rw [hx] at ez
     cases ez
     rw [e] at el
     exact el⟩
   have el1:=el.ch c
   clear bx
   cases el1 with
   | non e =>
    subst e
    have gd:=good rfl
    clear good
    walk_at "rd"
   | pr e hp px =>
    rename_i p kp x0 y0 tx
    subst e
    walk_at "rd"
    refine ⟨(show PvAt _ _ (.sq [x0,y0]) from ⟨p,kp,rfl,hp⟩),fun H2 c2=>?_⟩
    refine ⟨true,rfl,?_⟩
    refine iteT ?_
    have hp2:=hp.ch c2
    have px2:=px.ch c2
    walk_at "rd"
    rename_i H3 c3
    cases eb:tx.below t with
    | true=>exact iteF ⟨(c.trans c2).trans c3,good eb,_,rfl⟩
    | false=>exact iteT (q _ ((c.trans c2).trans c3))
   | oth hv nn np =>
    rename_i tv
    walk_at "rd"
    refine ite2 (fun _=>?_) (fun h=>absurd (show (!decide (x=V.non))=true by simp [nn]) h)
    walk_at "rd"
    rename_i H2 c2
    rw [np]
    refine iteF ?_
    exact iteT (q _ (c.trans c2))
  ·rintro σ H' ⟨c,bx,u,rfl⟩
   obtain ⟨j,hj⟩:=List.getElem?_of_mem hzb
   have:=zbad _ _ (Ch.refl _ _) (bx.h j zb (List.getElem?_eq_some_iff.mp hj).1 hj)
   cases this
theorem BadP.ch {kd:SK}{H H':Hp}{n:Nat}{t:Int}{v:V} (b:BadP kd H n t v) (c:Ch [] H H'):BadP kd H' n t v:=⟨b.h.elim .inl fun ⟨p,qs,e,h,z⟩=>.inr ⟨p,qs,e,h.ch c,z.elim .inl fun ⟨a,zz,m,bz⟩=>.inr ⟨fun y hy=>let ⟨b,e⟩:=a y hy; ⟨b,e.ch c⟩,zz,m,fun H2 b2 c2=>bz H2 b2 (c.trans c2)⟩⟩⟩
def spSX1 (CN:Addr):Sp:=fun vs H Q _=>∃ (nt st:Addr) (v:V) (t:Pv) (k1 k3:SK),vs=[.ref nt,.ref st,v]∧PvAt H v t∧t.pair=false∧∀ (H':Hp),Ch [] H H'→Q (.bl false) H'
theorem zapd {CN:Addr} (F:Fun K "small_holds" "small_holds" (top 30) f fd) (cl:Cls K CN) (nG:NoAttr K CN "gates") (Dis_pair:DefOk P w K mg base CX0 k "is_pair" ["thing"] spPairX) (Dwith_lost:DefOk P w K mg base CX0 k "with_lost" ["small", "lost"] (spWLX CN)) (Dare_pairs:DefOk P w K mg base CX0 k "are_pairs" ["pairs", "count", "total"] spAPX)
  (Dins_hold:DefOk P w K mg base CX0 k "ins_hold" ["net", "small", "pairs"] (spIH CN)) (Douts_hold:DefOk P w K mg base CX0 k "outs_hold" ["net", "small", "pairs"] (spOH CN)) (Dgates_hold:DefOk P w K mg base CX0 k "gates_hold" ["net", "gates", "pairs"] (spGH CN)) (z_len:mg "len" = none):FnOk P w K mg base CX0 (k + 1) f fd ["net", "small", "paper"] (spSX1 CN):=by
 have nd:=scSH.nd
 refine F.ok scSH (fun vs H Q E h=>by obtain ⟨nt,st,v,t,k1,k3,rfl,_⟩:=h; rfl) (fun cdv A outer s0 H vs Q E hr h=>?_)
 obtain ⟨nt,st,v,t,k1,k3,rfl,hv,np,q⟩:=h
 refine ⟨_,(Pr.h (zaaf (zaax (zabp (zabf (zaah Dis_pair hr (gl30.g 0 rfl) pass0 (zaaa (qv av30 2 rfl) zaab zaac) zadc))) (zaag (zaal zaa5)) zaan) (zaaz (zaat (i:=3) nd rfl (av30.l 3 rfl) (zaah Dwith_lost hr (gl30.g 1 rfl) pass0 (zaaa (qv av30 1 rfl) (zaaa (zaao (zab5 K rfl) (qv av30 2 rfl) zaae (fun _ _=>rfl)) zaab zaas) zaac) zadt)) (zaaf (zaax (zabx (zack (zaak zaen (qv av30 3 rfl) zabv (nomark _)) (zab8 (zabp (zabf (zaah Dare_pairs hr (gl30.g 2 rfl) pass0 (zaaa (zaao (zab5 K rfl) (qv av30 2 rfl) zaae (fun _ _=>rfl)) (zaaa (zaap zaam (gl30.g 3 rfl) z_len PySem.boot_len (zaaa (zab7 (qv av30 0 rfl) rfl) zaab zaa4) zabb zabc) (zaaa (zaap zaam (gl30.g 3 rfl) z_len PySem.boot_len (zaaa (qv av30 3 rfl) zaab zaac) zabb zabc) zaab zab0) zab0) zaas) zadu)))))) (zaag (zaal zaa5)) zaan) (zaaz (zaat (i:=4) nd rfl (av30.l 4 rfl) (zaao (zab5 K rfl) (qv av30 2 rfl) zaae (fun _ _=>rfl))) (zaag (zaal (zaaw (zaah Dins_hold hr (gl30.g 6 rfl) pass0 (zaaa (qv av30 0 rfl) (zaaa (qv av30 1 rfl) (zaaa (qv av30 4 rfl) zaab zaac) zaac) zaac) zad5) (zaaw (zaah Douts_hold hr (gl30.g 5 rfl) pass0 (zaaa (qv av30 0 rfl) (zaaa (qv av30 1 rfl) (zaaa (qv av30 4 rfl) zaab zaac) zaac) zaac) zadv) (zaau (zaah Dgates_hold hr (gl30.g 4 rfl) pass0 (zaaa (qv av30 0 rfl) (zaaa (qv av30 3 rfl) (zaaa (qv av30 4 rfl) zaab zaac) zaac) zaac) zada))))))))))),?_⟩
 (try dsimp only [cxOf])
 refine ⟨_,rfl,v,t,rfl,hv,fun H1 c1=>?_⟩
 rw [np]
 refine ⟨false,rfl,?_⟩
 exact iteT (q _ c1)
def spSX2 (CN:Addr):Sp:=fun vs H Q _=>∃ (nt st gp2 op2 pp:Addr) (sg:List Gt) (xs2:List V) (so:List Nat) (lv wq:V) (k1 k2 k3:SK),vs=[.ref nt,.ref st,.ref pp]∧NetAt CN H st gp2 op2 sg xs2 so∧sg.length≤1000∧SqX k1 H pp [lv,wq]∧BadL k2 H sg.length lv∧∀ (H':Hp),Ch [] H H'→Q (.bl false) H'
theorem zape {CN:Addr} (F:Fun K "small_holds" "small_holds" (top 30) f fd) (cl:Cls K CN) (nG:NoAttr K CN "gates") (Dis_pair:DefOk P w K mg base CX0 k "is_pair" ["thing"] spPairX) (Dwith_lost:DefOk P w K mg base CX0 k "with_lost" ["small", "lost"] (spWLX CN)) (Dare_pairs:DefOk P w K mg base CX0 k "are_pairs" ["pairs", "count", "total"] spAPX)
  (Dins_hold:DefOk P w K mg base CX0 k "ins_hold" ["net", "small", "pairs"] (spIH CN)) (Douts_hold:DefOk P w K mg base CX0 k "outs_hold" ["net", "small", "pairs"] (spOH CN)) (Dgates_hold:DefOk P w K mg base CX0 k "gates_hold" ["net", "gates", "pairs"] (spGH CN)) (z_len:mg "len" = none):FnOk P w K mg base CX0 (k + 1) f fd ["net", "small", "paper"] (spSX2 CN):=by
 have nd:=scSH.nd
 refine F.ok scSH (fun vs H Q E h=>by obtain ⟨nt,st,gp2,op2,pp,sg,xs2,so,lv,wq,k1,k2,k3,rfl,_⟩:=h; rfl) (fun cdv A outer s0 H vs Q E hr h=>?_)
 obtain ⟨nt,st,gp2,op2,pp,sg,xs2,so,lv,wq,k1,k2,k3,rfl,na2,l2,hpp,bl,q⟩:=h
 refine ⟨_,(Pr.h (zaaf (zaax (zabp (zabf (zaah Dis_pair hr (gl30.g 0 rfl) pass0 (zaaa (qv av30 2 rfl) zaab zaac) zadc))) (zaag (zaal zaa5)) zaan) (zaaz (zaat (i:=3) nd rfl (av30.l 3 rfl) (zaah Dwith_lost hr (gl30.g 1 rfl) pass0 (zaaa (qv av30 1 rfl) (zaaa (zaao (zab5 K rfl) (qv av30 2 rfl) zaae (fun _ _=>rfl)) zaab zaas) zaac) zadt)) (zaaf (zaax (zabx (zack (zaak zaen (qv av30 3 rfl) zabv (nomark _)) (zab8 (zabp (zabf (zaah Dare_pairs hr (gl30.g 2 rfl) pass0 (zaaa (zaao (zab5 K rfl) (qv av30 2 rfl) zaae (fun _ _=>rfl)) (zaaa (zaap zaam (gl30.g 3 rfl) z_len PySem.boot_len (zaaa (zab7 (qv av30 0 rfl) rfl) zaab zaa4) zabb zabc) (zaaa (zaap zaam (gl30.g 3 rfl) z_len PySem.boot_len (zaaa (qv av30 3 rfl) zaab zaac) zabb zabc) zaab zab0) zab0) zaas) zadu)))))) (zaag (zaal zaa5)) zaan) (zaaz (zaat (i:=4) nd rfl (av30.l 4 rfl) (zaao (zab5 K rfl) (qv av30 2 rfl) zaae (fun _ _=>rfl))) (zaag (zaal (zaaw (zaah Dins_hold hr (gl30.g 6 rfl) pass0 (zaaa (qv av30 0 rfl) (zaaa (qv av30 1 rfl) (zaaa (qv av30 4 rfl) zaab zaac) zaac) zaac) zad5) (zaaw (zaah Douts_hold hr (gl30.g 5 rfl) pass0 (zaaa (qv av30 0 rfl) (zaaa (qv av30 1 rfl) (zaaa (qv av30 4 rfl) zaab zaac) zaac) zaac) zadv) (zaau (zaah Dgates_hold hr (gl30.g 4 rfl) pass0 (zaaa (qv av30 0 rfl) (zaaa (qv av30 3 rfl) (zaaa (qv av30 4 rfl) zaab zaac) zaac) zaac) zada))))))))))),?_⟩
 (try dsimp only [cxOf])
 refine ⟨_,rfl,_,.sq [lv,wq],rfl,⟨pp,k1,rfl,hpp⟩,fun H1 c1=>?_⟩
 refine ⟨true,rfl,?_⟩
 refine iteF ?_
 have na1:=na2.ch c1
 have hpp1:=hpp.ch c1
 have bl1:=bl.ch c1
 refine zaa6 (fun σ H2=>Ch [] H H2∧Ch [] H1 H2∧σ=[some (.ref nt),some (.ref st),some (.ref pp),some .non,none]) ?_ ?_
 ·walk_at "rd"
 rintro σ H2 ⟨c2,c12,rfl⟩
 walk_at "rd"
 refine iteT ?_
 exact iteT (q _ c2)
def spSX3 (CN:Addr):Sp:=fun vs H Q _=>∃ (nt gp op st gp2 op2 pp ll:Addr) (net sg:List Gt) (xs xs2:List V) (os so:List Nat) (wq:V) (k1 k2 k3:SK),vs=[.ref nt,.ref st,.ref pp]∧NetAt CN H nt gp op net xs os∧NetAt CN H st gp2 op2 sg xs2 so∧sg.length≤1000∧SqX k1 H pp [.ref ll,wq]∧SqX k2 H ll []∧BadP k3 H net.length (sg.length:Int) wq∧∀ (H':Hp),Ch [] H H'→Q (.bl false) H'
theorem zapf {CN:Addr} (F:Fun K "small_holds" "small_holds" (top 30) f fd) (cl:Cls K CN) (nG:NoAttr K CN "gates") (Dis_pair:DefOk P w K mg base CX0 k "is_pair" ["thing"] spPairX) (Dwith_lost:DefOk P w K mg base CX0 k "with_lost" ["small", "lost"] (spWL CN)) (Dare_pairs:DefOk P w K mg base CX0 k "are_pairs" ["pairs", "count", "total"] spAPX)
  (Dins_hold:DefOk P w K mg base CX0 k "ins_hold" ["net", "small", "pairs"] (spIH CN)) (Douts_hold:DefOk P w K mg base CX0 k "outs_hold" ["net", "small", "pairs"] (spOH CN)) (Dgates_hold:DefOk P w K mg base CX0 k "gates_hold" ["net", "gates", "pairs"] (spGH CN)) (z_len:mg "len" = none):FnOk P w K mg base CX0 (k + 1) f fd ["net", "small", "paper"] (spSX3 CN):=by
 have nd:=scSH.nd
 refine F.ok scSH (fun vs H Q E h=>by obtain ⟨nt,gp,op,st,gp2,op2,pp,ll,net,sg,xs,xs2,os,so,wq,k1,k2,k3,rfl,_⟩:=h; rfl) (fun cdv A outer s0 H vs Q E hr h=>?_)
 obtain ⟨nt,gp,op,st,gp2,op2,pp,ll,net,sg,xs,xs2,os,so,wq,k1,k2,k3,rfl,na,na2,l2,hpp,hll,bp,q⟩:=h
 refine ⟨_,(Pr.h (zaaf (zaax (zabp (zabf (zaah Dis_pair hr (gl30.g 0 rfl) pass0 (zaaa (qv av30 2 rfl) zaab zaac) zadc))) (zaag (zaal zaa5)) zaan) (zaaz (zaat (i:=3) nd rfl (av30.l 3 rfl) (zaah Dwith_lost hr (gl30.g 1 rfl) pass0 (zaaa (qv av30 1 rfl) (zaaa (zaao (zab5 K rfl) (qv av30 2 rfl) zaae (fun _ _=>rfl)) zaab zaas) zaac) zadt)) (zaaf (zaax (zabx (zack (zaak zaen (qv av30 3 rfl) zabv (nomark _)) (zab8 (zabp (zabf (zaah Dare_pairs hr (gl30.g 2 rfl) pass0 (zaaa (zaao (zab5 K rfl) (qv av30 2 rfl) zaae (fun _ _=>rfl)) (zaaa (zaap zaam (gl30.g 3 rfl) z_len PySem.boot_len (zaaa (zab7 (qv av30 0 rfl) rfl) zaab zaa4) zabb zabc) (zaaa (zaap zaam (gl30.g 3 rfl) z_len PySem.boot_len (zaaa (qv av30 3 rfl) zaab zaac) zabb zabc) zaab zab0) zab0) zaas) zadu)))))) (zaag (zaal zaa5)) zaan) (zaaz (zaat (i:=4) nd rfl (av30.l 4 rfl) (zaao (zab5 K rfl) (qv av30 2 rfl) zaae (fun _ _=>rfl))) (zaag (zaal (zaaw (zaah Dins_hold hr (gl30.g 6 rfl) pass0 (zaaa (qv av30 0 rfl) (zaaa (qv av30 1 rfl) (zaaa (qv av30 4 rfl) zaab zaac) zaac) zaac) zad5) (zaaw (zaah Douts_hold hr (gl30.g 5 rfl) pass0 (zaaa (qv av30 0 rfl) (zaaa (qv av30 1 rfl) (zaaa (qv av30 4 rfl) zaab zaac) zaac) zaac) zadv) (zaau (zaah Dgates_hold hr (gl30.g 4 rfl) pass0 (zaaa (qv av30 0 rfl) (zaaa (qv av30 3 rfl) (zaaa (qv av30 4 rfl) zaab zaac) zaac) zaac) zada))))))))))),?_⟩
 (try dsimp only [cxOf])
 obtain ⟨⟨d1,ob1⟩,gt1,gg1,_⟩:=id na
 have fo1:=zacj gp op
 have lx:xs.length=net.length:=gg1.len
 refine ⟨_,rfl,_,.sq [.ref ll,wq],rfl,⟨pp,k1,rfl,hpp⟩,fun H1 c1=>?_⟩
 refine ⟨true,rfl,?_⟩
 refine iteF ?_
 have na1:=na2.ch c1
 have hpp1:=hpp.ch c1
 have hll1:=hll.ch c1
 have gz1:GsK H1 [] []:=⟨rfl,fun i g e=>by simp at e⟩
 have lk:∀ (j:Nat) (g:Gt),([]:List Gt)[j]?=some g→g≠.inp∧g.ok (sg.length + j) (sg.length + ([]:List Gt).length):=fun j g e=>by simp at e
 refine zaa6 (fun σ H2=>∃ r,Ch [] H H2∧GA H2 r (sg++[])∧Ch [] H1 H2∧σ=[some (.ref nt),some (.ref st),some (.ref pp),some (.ref r),none]) ?_ ?_
 ·walk_at "rd"
 rintro σ H2 ⟨r,c2,ga,c12,rfl⟩
 obtain ⟨ys,hys,gy⟩:=ga.ex
 have ly:ys.length=sg.length:=by rw [gy.len,List.append_nil]
 have hpp2:=hpp1.ch c12
 have ob2:=c2.get ob1 (by simp)
 have gt2:=c2.get gt1 (by simp)
 have bp2:BadP k3 H2 xs.length (ys.length:Int) wq:=by rw [lx,ly]; exact bp.ch c2
 walk_at "rd"
 rename_i H3 c3
 exact iteT (q _ (c2.trans c3))
end
end

section
def hdw (al:List Gt) (a:Nat):Str:=(al.getD a .inp).wd
theorem zalj {al:List Gt}{a:Nat}{g:Gt} (e:al[a]?=some g):hdw al a=g.wd:=by unfold hdw; rw [List.getD_eq_getElem?_getD,e]; rfl
theorem zapg (g:Gt):decide (V.str g.wd=V.str "zero")=decide (g=.zero):=by
 cases g <;> simp only [Gt.wd] <;> first | rfl | (rw [decide_eq_false (by decide +kernel),decide_eq_false (by intro z; cases z)])
theorem zarh (g:Gt):decide (V.str g.wd=V.str "one")=decide (g=.one):=by
 cases g <;> simp only [Gt.wd] <;> first | rfl | (rw [decide_eq_false (by decide +kernel),decide_eq_false (by intro z; cases z)])
theorem zadw {al:List Gt}{a:Nat} (h:a < al.length):decide (V.str (hdw al a)=V.str "zero")=isZ al a:=by
 have e:=List.getElem?_eq_getElem h
 unfold isZ
 rw [zalj e,zapg,e]
 by_cases z:al[a]=.zero <;> simp [z]
theorem zaec {al:List Gt}{a:Nat} (h:a < al.length):decide (V.str (hdw al a)=V.str "one")=isO al a:=by
 have e:=List.getElem?_eq_getElem h
 unfold isO
 rw [zalj e,zarh,e]
 by_cases z:al[a]=.one <;> simp [z]
theorem zam3 (g:Gt):∃ rs,g.vs=.str g.wd :: rs:=by cases g <;> exact ⟨_,rfl⟩
theorem GA.hd {H:Hp}{gl:Addr}{al:List Gt} (r:GA H gl al) {n:Nat} (h:n < al.length):∃ xs p rs,H gl=some (.lst xs)∧atI xs (n:Int)=some (.ref p)∧H p=some (.tup (.str (hdw al n) :: rs))∧n < xs.length:=by
 have e:=List.getElem?_eq_getElem h
 obtain ⟨xs,p,a,b,c,d⟩:=r.at e
 obtain ⟨rs,er⟩:=zam3 al[n]
 rw [er,← zalj e] at c
 exact ⟨xs,p,rs,a,b,c,d⟩
def Val (t:TE) (σ:St) (H:Hp) (b:Bool):Prop:=∀ R:VK,(∀ H',Ch [] H H'→R (.bl b) H')→t σ H R
theorem Val.and {ta tb:TE}{σ:St}{H:Hp}{a b:Bool} (h1:Val ta σ H a) (h2:∀ H1,Ch [] H H1→Val tb σ H1 b):Val (tAndV ta tb) σ H (a && b):=fun R q=>h1 _ fun H1 c=>⟨a,rfl,by
 cases a with
 | true=>rw [if_pos rfl]; exact h2 H1 c R fun H' c'=>q H' (c.trans c')
 | false=>rw [if_neg (by simp)]; exact q H1 c⟩
theorem Val.or {ta tb:TE}{σ:St}{H:Hp}{a b:Bool} (h1:Val ta σ H a) (h2:∀ H1,Ch [] H H1→Val tb σ H1 b):Val (tOrV ta tb) σ H (a || b):=fun R q=>h1 _ fun H1 c=>⟨a,rfl,by
 cases a with
 | true=>rw [if_pos rfl]; exact q H1 c
 | false=>rw [if_neg (by simp)]; exact h2 H1 c R fun H' c'=>q H' (c.trans c')⟩
theorem zacs {td ty tv:TE}{D:Ends}{σ:St}{H:Hp} (b:Bool) (hv:Val tv σ H b) (h:∀ H',Ch [] H H'→td σ H' fun x H2=>ty σ H2 fun y H3=>∃ a H4,x=.ref a∧DPut H3 a y (.bl b) H4∧D.nx σ H4):sDPut td ty tv D σ H:=hv _ h
theorem Ch.own1 {H H1:Hp}{p:Addr}{o:HO} (c:Ch [] H H1) (hp:H p=none):Ch [] H (upd H1 p o):=fun a u h _=>by rw [zabs (zaa7 h hp)]; exact c a u h (by simp)
theorem zagv {v1:TE}{k1:Str}{g:TG}{D:Ends}{σ:St}{H:Hp} (b1:Bool) (h1:∀ p,H p=none→Val v1 σ (upd H p (.dK [])) b1) (q:∀ p H',H p=none→Ch [] H H'→H' p=some (.dK [(.inr k1,.bl b1)])→g (.ref p) σ H' D.nx):tAsg (tDisp [(tC (.str k1),v1)]) g D σ H:=fun p hp=>h1 p hp _ fun H' c =>
 ⟨c.get zaai (by simp),[(.inr k1,.bl b1)],rfl,by simp,q p _ hp (Ch.own1 ((Ch.new hp _).trans c) hp) zaai⟩
theorem zaja {v1 v2:TE}{k1 k2:Str}{g:TG}{D:Ends}{σ:St}{H:Hp} (b1 b2:Bool) (h1:∀ p,H p=none→Val v1 σ (upd H p (.dK [])) b1) (h2:∀ H1,Ch [] H H1→Val v2 σ H1 b2) (q:∀ p H',H p=none→Ch [] H H'→H' p=some (.dK (putK [(.inr k1,.bl b1)] (.inr k2) (.bl b2)))→g (.ref p) σ H' D.nx) :
  tAsg (tDisp [(tC (.str k1),v1),(tC (.str k2),v2)]) g D σ H:=fun p hp=>h1 p hp _ fun H' c=>h2 H' ((Ch.new hp _).trans c) _ fun H2 c2 =>
 ⟨(c.trans c2).get zaai (by simp),[(.inr k1,.bl b1),(.inr k2,.bl b2)],rfl,by simp,q p _ hp (Ch.own1 (((Ch.new hp _).trans c).trans c2) hp) zaai⟩
theorem zajb {H:Hp}{a:Addr}{kvs:List (Key × V)}{x:Str} (e:H a=some (.dK kvs)):DGet H a (.str x) (valV kvs (.inr x)):=DGet.k (k:=.inr x) e
structure LR (H H':Hp) (wl ra:Addr) (ws:List V) (n:Nat) (r:Str→Option Bool):Prop where
 ch:Ch [] H H'
 fr:H ra=none
 hw:H' wl=some (.lst ws)
 nw:wl≠ra
 ex:∃ kvs,H' ra=some (.dK kvs)∧kvs.length≤n∧∀ y,valV kvs (.inr y)=(r y).map V.bl
theorem LR.put {H H' H2:Hp}{wl ra:Addr}{ws:List V}{n:Nat}{r:Str→Option Bool} (l:LR H H' wl ra ws n r) (c:Ch [] H' H2) (hn:n≤8):∃ kvs,H2 ra=some (.dK kvs)∧kvs.length < sizeLine∧∀ key b,LR H (upd H2 ra (.dK (putK kvs (.inr key) (.bl b)))) wl ra ws (n + 1) (fun y=>if y=key then some b else r y):=by
 obtain ⟨kvs,e,ln,hv⟩:=l.ex
 refine ⟨kvs,c.get e (by simp),by rw [sizeLine_eq]; omega,fun key b=>⟨Ch.own1 (l.ch.trans c) l.fr,l.fr,by rw [zabs l.nw]; exact c.get l.hw (by simp),l.nw,_,zaai,Nat.le_trans (zadf _ _ _) (by omega),fun y=>?_⟩⟩
 rw [zafe]
 by_cases z:y=key
 ·rw [if_pos (by rw [z]),if_pos z]; rfl
 ·rw [if_neg (fun w=>z (Sum.inr.inj w)),if_neg z]; exact hv y
theorem LR.one {H H1 H':Hp}{wl ra:Addr}{ws:List V}{k1:Str}{b1:Bool} (c0:Ch [] H H1) (hw:H1 wl=some (.lst ws)) (fr:H1 ra=none) (c:Ch [] H1 H') (e:H' ra=some (.dK [(.inr k1,.bl b1)])):LR H H' wl ra ws 1 (fun y=>if y=k1 then some b1 else none):=by
 refine ⟨c0.trans c,chFree c0 fr,c.get hw (by simp),zaa7 hw fr,_,e,by simp,fun y=>?_⟩
 have:=zafe ([]:List (Key × V)) (.inr k1) (.inr y) (.bl b1)
 rw [show ([(.inr k1,.bl b1)]:List (Key × V))=putK [] (.inr k1) (.bl b1) from rfl,this]
 by_cases z:y=k1
 ·rw [if_pos (by rw [z]),if_pos z]; rfl
 ·rw [if_neg (fun w=>z (Sum.inr.inj w)),if_neg z]; rfl
theorem LR.two {H H1 H':Hp}{wl ra:Addr}{ws:List V}{k1 k2:Str}{b1 b2:Bool} (c0:Ch [] H H1) (hw:H1 wl=some (.lst ws)) (fr:H1 ra=none) (c:Ch [] H1 H') (e:H' ra=some (.dK (putK [(.inr k1,.bl b1)] (.inr k2) (.bl b2)))):LR H H' wl ra ws 2 (fun y=>if y=k2 then some b2 else if y=k1 then some b1 else none):=by
 refine ⟨c0.trans c,chFree c0 fr,c.get hw (by simp),zaa7 hw fr,_,e,zadf _ _ _,fun y=>?_⟩
 rw [show ([(.inr k1,.bl b1)]:List (Key × V))=putK [] (.inr k1) (.bl b1) from rfl,zafe,zafe]
 by_cases z:y=k2
 ·rw [if_pos (by rw [z]),if_pos z]; rfl
 rw [if_neg (fun w=>z (Sum.inr.inj w)),if_neg z]
 by_cases z:y=k1
 ·rw [if_pos (by rw [z]),if_pos z]; rfl
 ·rw [if_neg (fun w=>z (Sum.inr.inj w)),if_neg z]; rfl
theorem LR.ret {H H':Hp}{wl ra:Addr}{ws:List V}{n:Nat}{r:Str→Option Bool}{why:Str}{σ:St}{Q:VK} (l:LR H H' wl ra ws n r) (h4:σ[4]?=some (some (.str why))) (h7:σ[7]?=some (some (.ref ra))) (q:Q (.bl ((r why).getD false)) H'):tAndV (tDIn (tVar 4) (tVar 7)) (tDGet (tVar 7) (tVar 4)) σ H' Q:=by
 obtain ⟨kvs,e,_,hv⟩:=l.ex
 have hw:=hv why
 have dg:=zajb (x:=why) e
 refine ⟨_,h4,_,h7,ra,_,rfl,dg,_,rfl,?_⟩
 rw [hw]
 cases hr:r why with
 | none=>rw [hr] at q; exact q
 | some b =>
  rw [hr] at q hw
  rw [hw] at dg
  rw [show (Option.map V.bl (some b)).isSome=true from rfl,if_pos rfl]
  exact ⟨_,h7,_,h4,ra,_,rfl,dg,q⟩
theorem sca1 (a:Str):ScaL [V.str a]:=⟨fun z hz=>by simp at hz; rw [hz]; exact .inr ⟨_,rfl⟩⟩
theorem sca2 (a b:Str):ScaL [V.str a,V.str b]:=⟨fun z hz=>by simp at hz; rcases hz with rfl | rfl <;> exact .inr ⟨_,rfl⟩⟩
theorem dec1 (a b:V):decide ([a]=[b])=decide (a=b):=by simp
theorem dec2 (a b c d:V):decide ([a,b]=[c,d])=(decide (a=c) && decide (b=d)):=by
 by_cases h:a=c <;> by_cases h':b=d <;> simp [h,h']
theorem ifs3 {α:Type}{w a b c:Str}{A B C D:α} (h1:a≠b) (h2:a≠c) (h3:b≠c):(if w=c then C else if w=b then B else if w=a then A else D)=if w=a then A else if w=b then B else if w=c then C else D:=by
 by_cases e1:w=a
 ·subst e1; simp [h1,h2]
 by_cases e2:w=b
 ·subst e2; simp [e1,h3]
 ·simp [e1,e2]
theorem ifs4 {α:Type}{w a b c d:Str}{A B C D E:α} (nd:[a,b,c,d].Nodup):(if w=d then D else if w=c then C else if w=b then B else if w=a then A else E)=if w=a then A else if w=b then B else if w=c then C else if w=d then D else E:=by
 simp only [List.nodup_cons,List.mem_cons,List.not_mem_nil,or_false,not_or,List.nodup_nil,and_true,not_false_eq_true] at nd
 obtain ⟨⟨h1,h2,h3⟩,⟨h4,h5⟩,h6⟩:=nd
 by_cases e1:w=a
 ·subst e1; simp [h1,h2,h3]
 by_cases e2:w=b
 ·subst e2; simp [e1,h4,h5]
 by_cases e3:w=c
 ·subst e3; simp [e1,e2,h6]
 ·simp [e1,e2,e3]
theorem ifs6 {α:Type}{w a b c d e f:Str}{A B C D E F F' G:α} (nd:[a,b,c,d,e,f].Nodup):(if w=f then F else if w=f then F' else if w=e then E else if w=d then D else if w=c then C else if w=b then B else if w=a then A else G) =
  if w=a then A else if w=b then B else if w=c then C else if w=d then D else if w=e then E else if w=f then F else G:=by
 simp only [List.nodup_cons,List.mem_cons,List.not_mem_nil,or_false,not_or,List.nodup_nil,and_true,not_false_eq_true] at nd
 obtain ⟨⟨a1,a2,a3,a4,a5⟩,⟨b1,b2,b3,b4⟩,⟨c1,c2,c3⟩,⟨d1,d2⟩,e1⟩:=nd
 by_cases z1:w=a
 ·subst z1; simp [a1,a2,a3,a4,a5]
 by_cases z2:w=b
 ·subst z2; simp [z1,b1,b2,b3,b4]
 by_cases z3:w=c
 ·subst z3; simp [z1,z2,c1,c2,c3]
 by_cases z4:w=d
 ·subst z4; simp [z1,z2,z3,d1,d2]
 by_cases z5:w=e
 ·subst z5; simp [z1,z2,z3,z4,e1]
 by_cases z6:w=f
 ·rw [if_pos z6,if_neg z1,if_neg z2,if_neg z3,if_neg z4,if_neg z5,if_pos z6]
 ·simp [z1,z2,z3,z4,z5,z6]
theorem zam4 (a b:Nat):decide (a=b)=decide (b=a):=by
 by_cases h:a=b
 ·subst h; rfl
 ·rw [decide_eq_false h,decide_eq_false (fun z=>h z.symm)]
theorem inV2 (s a b:Str):inV (V.str s) [V.str a,V.str b]=(decide (V.str a=V.str s) || decide (V.str b=V.str s)):=by
 unfold inV
 simp only [List.any_cons,List.any_nil,Bool.or_false]
 simp only [eqV]
 congr 1 <;> (rw [zakx]; simp)
theorem zalk {al:List Gt}{it:Nat}{why:Str}{g:Gt} (w0:¬ why = "same") (h2:g.two=true):phB al (fun a=>a) it why g=if why = "turned" then decide (al[it]?=some (g.trn fun a=>a)) else ruB al (fun a=>a) it why g:=by
 by_cases e:why = "turned"
 ·subst e; rw [zagr h2,if_pos rfl]
 ·rw [if_neg e,zacp (by cases g <;> first | rfl | (cases h2)) w0 (fun z=>e z.1)]
theorem Val.cast {t:TE}{σ:St}{H:Hp}{a b:Bool} (e:a=b) (h:Val t σ H a):Val t σ H b:=e ▸ h
theorem LR.go {H H' H2:Hp}{wl ra:Addr}{ws:List V}{n:Nat}{r:Str→Option Bool} (l:LR H H' wl ra ws n r) (c:Ch [] H' H2):LR H H2 wl ra ws n r :=
 ⟨l.ch.trans c,l.fr,c.get l.hw (by simp),l.nw,let ⟨kvs,e,h⟩:=l.ex; ⟨kvs,c.get e (by simp),h⟩⟩
theorem ifm {c:Prop} [Decidable c] {A:Bool}{D:Option Bool}:(if c then some A else D).getD false=if c then A else D.getD false:=by split <;> rfl
theorem zari (g:Gt):g.ren (fun a=>a)=g:=by cases g <;> rfl
local macro_rules | `(tactic| walk_at "user")=>`(tactic| first
 | (apply GA.ch; (focus with_reducible assumption); (focus walk_at "ch"))
 | exact sca1 _
 | exact sca2 _ _
 | (apply dputS; (focus walk_at "get"); (focus with_reducible assumption))
 | exact Gt.vs_sca _)
local macro_rules | `(tactic| walk_at "val")=>`(tactic| (intro R hR; walk_at "rd"; first
 | (exact hR _ (by walk_at "ch"))
 | (rw [zae6]; exact hR _ (by walk_at "ch"))
 | (rw [zae6,zam4]; exact hR _ (by walk_at "ch"))
 | (rw [zadw]; (focus (exact hR _ (by walk_at "ch"))); (focus assumption))
 | (rw [zaec]; (focus (exact hR _ (by walk_at "ch"))); (focus assumption))
 | (rw [dec1,zadw]; (focus (exact hR _ (by walk_at "ch"))); (focus assumption))
 | (rw [dec1,zaec]; (focus (exact hR _ (by walk_at "ch"))); (focus assumption))
 | (rw [dec2,zaec,zadw]; (focus (exact hR _ (by walk_at "ch"))); (focus assumption); (focus assumption))
 | (rw [dec2,zadw,zaec]; (focus (exact hR _ (by walk_at "ch"))); (focus assumption); (focus assumption))
 | skip))
section
variable {P:Program}{w:World}{K:PySem.W.Frag}{mg:Str→Option Value}{base:Heap}{f:Addr}{fd:FuncData}{k:Nat}
theorem zac9:Nd "_law_nots" := by decide +kernel
theorem av34:AF (defScope (top 34)) ["_law_gates", "_law_one_here", "_law_other"]:=⟨by decide +kernel⟩
theorem zall:FnScope ["_law_gates", "_law_one_here", "_law_other"] ["_law_gates", "_law_one_here", "_law_other"] (defScope (top 34)):=⟨rfl,rfl,rfl,by decide +kernel,rfl,by decide +kernel,by decide +kernel⟩
theorem zaph (F:Fun K "_law_nots" "_law_nots" (top 34) f fd):FnOk P w K mg base CX0 (k + 1) f fd ["_law_gates", "_law_one_here", "_law_other"] spOpG:=by
 have nd:=zall.nd
 refine F.ok zall (fun vs H Q E h=>by obtain ⟨gl,al,a,b,rfl,_⟩:=h; rfl) (fun cdv A outer s0 H vs Q E hr h=>?_)
 obtain ⟨gl,al,a,b,rfl,r,ha,hb,q⟩:=h
 refine ⟨_,(Pr.h (zaag (zaal (zact (zaar (zacv hr.units) (zaao zaaq (qv av34 0 rfl) (qv av34 1 rfl) (fun _ _=>rfl)) (zaay (zaaa zaaj (zaaa (qv av34 2 rfl) zaab zaac) zaad)) (nomark _)) (zaau (zaar (zacv hr.units) (zaao zaaq (qv av34 0 rfl) (qv av34 2 rfl) (fun _ _=>rfl)) (zaay (zaaa zaaj (zaaa (qv av34 1 rfl) zaab zaac) zaad)) (nomark _))))))),?_⟩
 (try dsimp only [cxOf])
 obtain ⟨g,eg⟩:∃ g,al[a]?=some g:=⟨_,List.getElem?_eq_getElem ha⟩
 obtain ⟨xs,p,hg,at1,hp,lx⟩:=r.at eg
 obtain ⟨g2,eg2⟩:∃ g2,al[b]?=some g2:=⟨_,List.getElem?_eq_getElem hb⟩
 obtain ⟨xs2,p2,hg2,at2,hp2,lx2⟩:=r.at eg2
 rw [hg] at hg2
 cases hg2
 have sc:=Gt.vs_sca g
 have sc1:=Gt.vs_sca g2
 have sc2:=Gt.vs_sca (.not b)
 have sc3:=Gt.vs_sca (.not a)
 have q:∀ H',Ch [] H H'→Q (.bl (decide (al[a]?=some (.not b)) || decide (al[b]?=some (.not a)))) H':=q
 rw [zabr eg,zabr eg2] at q
 cases e1:decide (g.vs=(Gt.not b).vs) with
 | true =>
  have e2:decide (g.vs=[V.str "not",V.int b])=true:=e1
  rw [e1,Bool.true_or] at q
  walk_at "rd"
  rename_i T hT
  rw [e2]
  exact q _ (Ch.new hT _)
 | false =>
  have e2:decide (g.vs=[V.str "not",V.int b])=false:=e1
  rw [e1,Bool.false_or] at q
  walk_at "rd"
  rename_i T hT
  rw [e2]
  refine iteF ?_
  walk_at "rd"
  rename_i T2 hT2
  exact q _ ((Ch.new hT _).trans (Ch.new hT2 _))
theorem av35:AF (defScope (top 35)) ["_law_gates", "_law_word", "_law_some", "_law_number", "_law_why", "_law_words", "_law_own", "_law_rows", "_law_x", "_law_y", "_law_z", "_law_weak", "_law_strong"]:=⟨by decide +kernel⟩
theorem gl35:AG (defScope (top 35)) ["tuple", "_law_nots"]:=⟨by decide +kernel⟩
def zaid:Scope:={ kind:=PySem.ScopeKind.function,names:=[ (PySem.Str.ofString ".0",PySem.NameKind.local),(PySem.Str.ofString "_law_one_here",PySem.NameKind.local),(PySem.Str.ofString "_law_gates",PySem.NameKind.free)],isGenerator:=false,isCoroutine:=false,more:=[]:PySem.Scope }
theorem zalm:CompOk zaid (defScope (top 35)) (["_law_one_here"]:List Str) (["_law_gates", "_law_word", "_law_some", "_law_number", "_law_why", "_law_words", "_law_own", "_law_rows", "_law_x", "_law_y", "_law_z", "_law_weak", "_law_strong"]:List Str) [0] (["_law_one_here", "_law_gates"]:List Str):=compOk rfl (by decide +kernel) (by decide +kernel) (by decide +kernel) (by decide +kernel) rfl (by decide +kernel)
theorem zaln:AK (relab zaid (defScope (top 35))) ["_law_one_here"]:=⟨by decide +kernel⟩
theorem zalo:AV (relab zaid (defScope (top 35))) ["_law_one_here", "_law_gates"]:=⟨by decide +kernel⟩
def spRule:Sp:=fun vs H Q _=>∃ (gl sl:Addr) (al:List Gt) (g:Gt) (it:Nat) (why:Str),vs=[.ref gl,.str g.wd,.ref sl,.int (it:Int),.str why]∧GA H gl al∧H sl=some (.lst (g.feeds.map nV))∧g.src=false∧it < al.length∧(∀ a∈g.feeds,a < al.length)∧∀ H',Ch [] H H'→Q (.bl (phB al (fun a=>a) it why g)) H'
theorem scRule:FnScope ["_law_gates", "_law_word", "_law_some", "_law_number", "_law_why", "_law_words", "_law_own", "_law_rows", "_law_x", "_law_y", "_law_z", "_law_weak", "_law_strong"] ["_law_gates", "_law_word", "_law_some", "_law_number", "_law_why"] (defScope (top 35)):=⟨rfl,rfl,rfl,by decide +kernel,rfl,by decide +kernel,by decide +kernel⟩
theorem zapi (F:Fun K "_law_rule" "_law_rule" (top 35) f fd) (D_law_nots:DefOk P w K mg base CX0 k "_law_nots" ["_law_gates", "_law_one_here", "_law_other"] spOpG) (z_tuple:mg "tuple" = none):FnOk P w K mg base CX0 (k + 1) f fd ["_law_gates", "_law_word", "_law_some", "_law_number", "_law_why"] spRule:=by
 have nd:=scRule.nd
 refine F.ok scRule (fun vs H Q E h=>by obtain ⟨gl,sl,al,g,it,why,rfl,_⟩:=h; rfl) (fun cdv A outer s0 H vs Q E hr h=>?_)
 obtain ⟨gl,sl,al,g,it,why,rfl,r,hsl,sr,li,lf,q⟩:=h
 have hu:=zahz hr
 refine ⟨_,(Pr.h (zaaf (zaax (zaak zaa3 (qv av35 4 rfl) zaaj (nomark _)) (zaag (zaal (zaar (zacv hr.units) (zaao zaaq (qv av35 0 rfl) (qv av35 3 rfl) (fun _ _=>rfl)) (zabg zabo (gl35.g 0 rfl) z_tuple zacb (zaaa (zaav zace (zaa0 (zaaa (qv av35 1 rfl) zaab zaac)) (qv av35 2 rfl)) zaab zabh) zacc zacd) (nomark _)))) zaan) (zaaf (zaev (i:=5) nd rfl (av35.l 5 rfl) rfl zalm (zac6 (qv av35 2 rfl)) (fun _ _ _ _ _=>(zaa1 (i:=0) zalm.nd rfl (Or.inl (zaln.k 0 rfl)) (Or.inr (zaln.k 0 rfl)))) (fun _ _ _ _ _=>zac7) (fun _ _ _ _ _=>(zaao (zaef K rfl) (zaao (zaey K rfl) (qw zalo 1 rfl) (qw zalo 0 rfl) (fun _ _=>rfl)) zaae (fun _ _=>rfl))) rfl) (zaaz (zaat (i:=6) nd rfl (av35.l 6 rfl) (zaao zaa9 (zaao zaaq (qv av35 0 rfl) (qv av35 3 rfl) (fun _ _=>rfl)) zaae (fun _ _=>rfl))) (zaaf (zaax (zaak zaa3 (qv av35 1 rfl) zaaj (nomark _)) (zaaz (zaat (i:=7) nd rfl (av35.l 7 rfl) (zaex (zacl zaaj (zaar (zacv hr.units) (zaao zaaq (qv av35 0 rfl) (zaao zaaq (qv av35 2 rfl) zaae (fun _ _=>rfl)) (fun _ _=>rfl)) (zaay (zaaa zaaj (zaaa (qv av35 3 rfl) zaab zaac) zaad)) (nomark _)) (zacl zaaj (zaaw (zaar (zai6 hr.units) (qv av35 5 rfl) (zaa0 (zaaa zaaj zaab zaad)) (nomark _)) (zaau (zaar zaa3 (qv av35 6 rfl) zaaj (nomark _)))) zaew)) rfl rfl (by intro z; cases z) (by decide))) (zaaz (zacr hu (qv av35 7 rfl) zaaj (zaaw (zaar (zai6 hr.units) (qv av35 5 rfl) (zaa0 (zaaa zaaj zaab zaad)) (nomark _)) (zaau (zaar zaa3 (qv av35 6 rfl) zaaj (nomark _)))) rfl) (zaag (zaal (zaaw (zagh hu (qv av35 4 rfl) (qv av35 7 rfl)) (zaau (zaea hu (qv av35 7 rfl) (qv av35 4 rfl) (fun _ _=>rfl)))))))) zaan) (zaaf (zaax (zaak zaa3 (qv av35 1 rfl) zaaj (nomark _)) (zaaf (zac4 (qv av35 2 rfl) (zak0 rfl (zabd (zaa1 (i:=8) nd rfl (av35.l 8 rfl)) (zabd (zaa1 (i:=9) nd rfl (av35.l 9 rfl)) (zabd (zaa1 (i:=10) nd rfl (av35.l 10 rfl)) zacn))))) (zaaz (zaat (i:=7) nd rfl (av35.l 7 rfl) (zaex (zacl zaaj (zaaw (zaar zaa3 (qv av35 3 rfl) (qv av35 9 rfl) (nomark _)) (zaau (zact (zaar zaa3 (zaao zaaq (qv av35 5 rfl) zaae (fun _ _=>rfl)) zaaj (nomark _)) (zaau (zaar zaa3 (qv av35 9 rfl) (qv av35 10 rfl) (nomark _)))))) (zacl zaaj (zaaw (zaar zaa3 (qv av35 3 rfl) (qv av35 10 rfl) (nomark _)) (zaau (zaar zaa3 (zaao zaaq (qv av35 5 rfl) zaae (fun _ _=>rfl)) zaaj (nomark _)))) zaew)) rfl rfl (by intro z; cases z) (by decide))) (zaaz (zacr hu (qv av35 7 rfl) zaaj (zaaw (zaar zaa3 (qv av35 3 rfl) (qv av35 8 rfl) (nomark _)) (zaau (zaar (zai6 hr.units) (zabw zadd (qv av35 5 rfl) (zab6 zaae) zaca) (zaa0 (zaaa zaaj (zaaa zaaj zaab zaad) zaad)) (nomark _)))) rfl) (zaaz (zacr hu (qv av35 7 rfl) zaaj (zaaw (zaar (zai6 hr.units) (zabw zadd (qv av35 5 rfl) (zab6 zaae) zaca) (zaa0 (zaaa zaaj (zaaa zaaj zaab zaad) zaad)) (nomark _)) (zaau (zaah D_law_nots hr (gl35.g 1 rfl) pass0 (zaaa (qv av35 0 rfl) (zaaa (qv av35 3 rfl) (zaaa (qv av35 8 rfl) zaab zaac) zaac) zaac) zac9))) rfl) (zaag (zaal (zaaw (zagh hu (qv av35 4 rfl) (qv av35 7 rfl)) (zaau (zaea hu (qv av35 7 rfl) (qv av35 4 rfl) (fun _ _=>rfl)))))))))) zaan) (zaaf (zaax (zaak zad7 (qv av35 1 rfl) (zaa0 (zaaa zaaj (zaaa zaaj (zaaa zaaj zaab zaad) zaad) zaad)) rfl) (zaag (zaal zaa5)) zaan) (zaaf (zac4 (qv av35 2 rfl) (zak0 rfl (zabd (zaa1 (i:=8) nd rfl (av35.l 8 rfl)) (zabd (zaa1 (i:=9) nd rfl (av35.l 9 rfl)) zacn)))) (zaaz (zaat (i:=7) nd rfl (av35.l 7 rfl) (zaex (zacl zaaj (zaar (zacv hr.units) (zaao zaaq (qv av35 0 rfl) (qv av35 3 rfl) (fun _ _=>rfl)) (zaay (zaaa (qv av35 1 rfl) (zaaa (qv av35 9 rfl) (zaaa (qv av35 8 rfl) zaab zaac) zaac) zaac)) (nomark _)) zaew) rfl rfl (by intro z; cases z) (by decide))) (zaaf (zaax (zaak zaa3 (qv av35 1 rfl) zaaj (nomark _)) (zaaz (zacr hu (qv av35 7 rfl) zaaj (zaaw (zaar zaa3 (qv av35 3 rfl) (qv av35 8 rfl) (nomark _)) (zaau (zaar zaa3 (zaao zaaq (qv av35 5 rfl) zaae (fun _ _=>rfl)) zaaj (nomark _)))) rfl) (zaaz (zacr hu (qv av35 7 rfl) zaaj (zaaw (zaar zaa3 (qv av35 3 rfl) (qv av35 9 rfl) (nomark _)) (zaau (zaar zaa3 (zaao zaaq (qv av35 5 rfl) zaae (fun _ _=>rfl)) zaaj (nomark _)))) rfl) (zaaz (zacr hu (qv av35 7 rfl) zaaj (zaaw (zaar zaa3 (qv av35 6 rfl) zaaj (nomark _)) (zaau (zaar zaa3 (qv av35 8 rfl) (qv av35 9 rfl) (nomark _)))) rfl) (zaaz (zacr hu (qv av35 7 rfl) zaaj (zaaw (zaar zaa3 (qv av35 6 rfl) zaaj (nomark _)) (zaau (zaah D_law_nots hr (gl35.g 1 rfl) pass0 (zaaa (qv av35 0 rfl) (zaaa (qv av35 8 rfl) (zaaa (qv av35 9 rfl) zaab zaac) zaac) zaac) zac9))) rfl) (zaaz (zacr hu (qv av35 7 rfl) zaaj (zaaw (zaar zaa3 (zaao zaaq (qv av35 5 rfl) zaae (fun _ _=>rfl)) zaaj (nomark _)) (zaau (zaah D_law_nots hr (gl35.g 1 rfl) pass0 (zaaa (qv av35 0 rfl) (zaaa (qv av35 3 rfl) (zaaa (qv av35 8 rfl) zaab zaac) zaac) zaac) zac9))) rfl) (zaaz (zacr hu (qv av35 7 rfl) zaaj (zact (zaea hu (qv av35 7 rfl) zaaj (fun _ _=>rfl)) (zaau (zaaw (zaar zaa3 (zaao zaaq (qv av35 5 rfl) zaae (fun _ _=>rfl)) zaaj (nomark _)) (zaau (zaah D_law_nots hr (gl35.g 1 rfl) pass0 (zaaa (qv av35 0 rfl) (zaaa (qv av35 3 rfl) (zaaa (qv av35 9 rfl) zaab zaac) zaac) zaac) zac9))))) rfl) (zaag (zaal (zaaw (zagh hu (qv av35 4 rfl) (qv av35 7 rfl)) (zaau (zaea hu (qv av35 7 rfl) (qv av35 4 rfl) (fun _ _=>rfl)))))))))))) zaan) (zaaf (zac4 (zaay (zaaa zaaj (zaaa zaaj zaab zaad) zaad)) (zad0 rfl (zabd (zaa1 (i:=11) nd rfl (av35.l 11 rfl)) (zabd (zaa1 (i:=12) nd rfl (av35.l 12 rfl)) zacn)))) (zaaz (zaax (zaak zaa3 (qv av35 1 rfl) zaaj (nomark _)) (zaag (zac4 (zaay (zaaa zaaj (zaaa zaaj zaab zaad) zaad)) (zad0 rfl (zabd (zaa1 (i:=11) nd rfl (av35.l 11 rfl)) (zabd (zaa1 (i:=12) nd rfl (av35.l 12 rfl)) zacn))))) zaan) (zaaz (zacr hu (qv av35 7 rfl) zaaj (zaaw (zaar zaa3 (qv av35 3 rfl) (qv av35 8 rfl) (nomark _)) (zaau (zact (zaar zaa3 (zaao zaaq (qv av35 5 rfl) zaae (fun _ _=>rfl)) (qv av35 11 rfl) (nomark _)) (zaau (zaar zaa3 (qv av35 8 rfl) (qv av35 9 rfl) (nomark _)))))) rfl) (zaaz (zacr hu (qv av35 7 rfl) zaaj (zaaw (zaar zaa3 (qv av35 3 rfl) (qv av35 9 rfl) (nomark _)) (zaau (zaar zaa3 (zaao zaaq (qv av35 5 rfl) zaae (fun _ _=>rfl)) (qv av35 11 rfl) (nomark _)))) rfl) (zaaz (zacr hu (qv av35 7 rfl) (qv av35 12 rfl) (zaaw (zaar zaa3 (qv av35 6 rfl) (qv av35 12 rfl) (nomark _)) (zaau (zact (zaar zaep (qv av35 12 rfl) (qv av35 5 rfl) rfl) (zaau (zaah D_law_nots hr (gl35.g 1 rfl) pass0 (zaaa (qv av35 0 rfl) (zaaa (qv av35 8 rfl) (zaaa (qv av35 9 rfl) zaab zaac) zaac) zaac) zac9))))) rfl) (zaag (zaal (zaaw (zagh hu (qv av35 4 rfl) (qv av35 7 rfl)) (zaau (zaea hu (qv av35 7 rfl) (qv av35 4 rfl) (fun _ _=>rfl))))))))))))))))))))),?_⟩
 (try dsimp only [cxOf])
 obtain ⟨t,et⟩:∃ t,al[it]?=some t:=⟨_,List.getElem?_eq_getElem li⟩
 obtain ⟨xs,pt,hg,at1,hpt,lx⟩:=r.at et
 have sct:=Gt.vs_sca t
 walk_at "rd"
 refine ite2 (fun ez=>?_) (fun ez=>?_)
 ·have hw:=zabz ez
  subst hw
  rw [zad4 (by cases g <;> first | rfl | (cases sr)),zabr et,zari] at q
  have sc2:=Gt.vs_sca g
  have evs:[V.str g.wd]++g.feeds.map nV=g.vs:=by cases g <;> first | rfl | (cases sr)
  walk_at "rd"
  rename_i e1 h1
  rw [evs]
  refine ⟨by rw [sizeLine_eq]; have:=zac5 g; simp; omega,?_⟩
  walk_at "rd"
  rename_i e2 h2 e3 h3
  exact q _ (((Ch.new h1 _).trans (Ch.new h2 _)).trans (Ch.new h3 _))
 have w0:=zabm ez
 clear ez
 walk_at "rd"
 refine zadg (g.feeds.map nV) (fun j ys σ H'=>H'=H∧ys=(g.feeds.take j).map (fun a=>V.str (hdw al a))∧∃ u,σ=[u,some (.ref gl)]) (by rw [sizeLine_eq,List.length_map]; have:=zac5 g; omega) ⟨rfl,rfl,_,rfl⟩ ?_ ?_ ?_
 ·rintro j ys σ H' hj ⟨rfl,rfl,_⟩
  refine ⟨by simp [List.length_take]; omega,SqL.of hsl⟩
 ·rintro j ys σ H' x hx ⟨rfl,rfl,u,rfl⟩
  rw [List.getElem?_map] at hx
  obtain ⟨a,ea,rfl⟩:=Option.map_eq_some_iff.mp hx
  obtain ⟨xs2,p2,rs2,hg2,at2,hp2,lx2⟩:=r.hd (lf a (List.mem_of_getElem? ea))
  unfold nV
  walk_at "rd"
  refine ⟨?_,_,rfl⟩
  rw [List.take_add_one,ea]
  simp
 rintro ys σ H' ⟨rfl,rfl,_⟩
 rw [List.length_map,List.take_length]
 intro wl hwl
 obtain ⟨ws,ews⟩:∃ ws,g.feeds.map (fun a=>V.str (hdw al a))=ws:=⟨_,rfl⟩
 rw [ews]
 have cW:=Ch.new (W:=[]) hwl (.lst ws)
 have hw1:upd H' wl (.lst ws) wl=some (.lst ws):=zaai
 obtain ⟨H1,eH1⟩:∃ H1,H1=upd H' wl (.lst ws):=⟨_,rfl⟩
 rw [← eH1] at cW hw1 ⊢
 have r1:=r.ch cW
 have hsl1:=cW.get hsl (by simp)
 clear eH1 hg at1 hpt lx sct et
 refine zaa6 (fun σ H2=>H2=H1∧σ=[some (.ref gl),some (.str g.wd),some (.ref sl),some (.int (it:Int)),some (.str why),some (.ref wl),some (.str (hdw al it)),none,none,none,none,none,none]) ?_ ?_
 ·obtain ⟨xs2,p2,rs2,hg2,at2,hp2,lx2⟩:=r1.hd li
  walk_at "rd"
 rintro σ H2 ⟨rfl,rfl⟩
 cases g with
 | inp=>cases sr
 | keep f a=>cases sr
 | zero =>
  rw [zacp rfl w0 (fun z=>by cases z.2)] at q
  walk_at "rd"
  rename_i p1 h1
  exact q _ (cW.trans (Ch.new h1 _))
 | one =>
  rw [zacp rfl w0 (fun z=>by cases z.2)] at q
  walk_at "rd"
  rename_i p1 h1
  exact q _ (cW.trans (Ch.new h1 _))
 | not x =>
  have lx:x < al.length:=lf x (by simp [Gt.feeds])
  have hsl1:H2 sl=some (.lst [.int (x:Int)]):=hsl1
  have hw1:H2 wl=some (.lst [V.str (hdw al x)]):=by rw [hw1,← ews]; rfl
  clear ews
  rw [zacp rfl w0 (fun z=>by cases z.2)] at q
  walk_at "rd"
  refine iteD rfl ?_
  refine zaa6 (fun σ H'=>∃ ra,σ=[some (.ref gl),some (.str "not"),some (.ref sl),some (.int (it:Int)),some (.str why),some (.ref wl),some (.str (hdw al it)),some (.ref ra),none,none,none,none,none]∧LR H2 H' wl ra [V.str (hdw al x)] 2 (fun y=>if y = "one" then some (isZ al x && isO al it) else if y = "inner" then some (decide (al[x]?=some (.not it))) else none)) ?_ ?_
  ·refine zaja (decide (al[x]?=some (.not it))) (isZ al x && isO al it) (fun p hp=>?_) (fun H3 c3=>Val.and ?_ (fun H4 c4=>?_)) (fun p H3 fp c3 e3=>⟨p,rfl,LR.two (Ch.refl _ _) hw1 fp c3 e3⟩)
   ·have r2:=r1.ch (Ch.new hp (.dK []))
    obtain ⟨t,et⟩:∃ t,al[x]?=some t:=⟨_,List.getElem?_eq_getElem lx⟩
    obtain ⟨xs,pt,hg,at1,hpt,lx⟩:=r2.at et
    have sct:=Gt.vs_sca t
    have sc2:=Gt.vs_sca (.not it)
    have hs2:=(Ch.new (W:=[]) hp (.dK [])).get hsl1 (by simp)
    rw [zabr et]
    walk_at "val"
   ·have hw3:=c3.get hw1 (by simp)
    walk_at "val"
   ·walk_at "val"
  rintro σ H3 ⟨ra,rfl,l⟩
  have c3:=l.ch
  have hw3:=l.hw
  have r3:=r1.ch c3
  refine zaa6 (fun σ H'=>σ=[some (.ref gl),some (.str "not"),some (.ref sl),some (.int (it:Int)),some (.str why),some (.ref wl),some (.str (hdw al it)),some (.ref ra),none,none,none,none,none]∧LR H2 H' wl ra [V.str (hdw al x)] 3 (fun y'=>if y' = "zero" then some (isO al x && isZ al it) else if y' = "one" then some (isZ al x && isO al it) else if y' = "inner" then some (decide (al[x]?=some (.not it))) else none)) ?_ ?_
  ·refine zacs (isO al x && isZ al it) (Val.and ?_ (fun H5 c5=>?_)) (fun H4 c4=>?_)
   ·walk_at "val"
   ·walk_at "val"
   ·obtain ⟨kvs,hk,lk,lp⟩:=l.put c4 (by decide)
    exact ⟨_,rfl,_,_,rfl,dputS hk lk,rfl,lp _ _⟩
  rintro σ H3 ⟨rfl,l⟩
  have c3:=l.ch
  have hw3:=l.hw
  have r3:=r1.ch c3
  refine LR.ret l rfl rfl ?_
  dsimp only
  rw [ifm,ifm,ifm,ifs3 (by decide +kernel) (by decide +kernel) (by decide +kernel)]
  exact q _ (cW.trans c3)
 | and x y =>
  have lx:x < al.length:=lf x (by simp [Gt.feeds])
  have ly:y < al.length:=lf y (by simp [Gt.feeds])
  have hsl1:H2 sl=some (.lst [.int (x:Int),.int (y:Int)]):=hsl1
  have hw1:H2 wl=some (.lst [V.str (hdw al x),V.str (hdw al y)]):=by rw [hw1,← ews]; rfl
  clear ews
  rw [zalk w0 rfl] at q
  walk_at "rd"
  rename_i p1 h1
  have cP:=Ch.new (W:=[]) h1 (.lst [.str "and",.str "or",.str "xor"])
  have r2:=r1.ch cP
  have hw2:=cP.get hw1 (by simp)
  obtain ⟨H3,eH3⟩:∃ H3,H3=upd H2 p1 (.lst [.str "and",.str "or",.str "xor"]):=⟨_,rfl⟩
  rw [← eH3] at cP r2 hw2 ⊢
  refine zaa6 (fun σ H'=>∃ ra,σ=[some (.ref gl),some (.str "and"),some (.ref sl),some (.int (it:Int)),some (.str why),some (.ref wl),some (.str (hdw al it)),some (.ref ra),some (.int (x:Int)),some (.int (y:Int)),none,none,none]∧LR H2 H' wl ra [V.str (hdw al x),V.str (hdw al y)] 1 (fun y'=>if y' = "turned" then some (decide (al[it]?=some (.and y x))) else none)) ?_ ?_
  ·refine zagv (decide (al[it]?=some (.and y x))) (fun p hp=>?_) (fun p H4 fp c4 e4=>⟨p,rfl,LR.one cP hw2 fp c4 e4⟩)
   have r4:=r2.ch (Ch.new hp (.dK []))
   obtain ⟨t,et⟩:∃ t,al[it]?=some t:=⟨_,List.getElem?_eq_getElem li⟩
   obtain ⟨xs,pt,hg,at1,hpt,lx⟩:=r4.at et
   have sct:=Gt.vs_sca t
   have sc2:=Gt.vs_sca (.and y x)
   rw [zabr et]
   walk_at "val"
  clear eH3 cP r2 hw2 H3
  rintro σ H3 ⟨ra,rfl,l⟩
  have c3:=l.ch
  have hw3:=l.hw
  have r3:=r1.ch c3
  walk_at "rd"
  refine zaa6 (fun σ H'=>σ=[some (.ref gl),some (.str "and"),some (.ref sl),some (.int (it:Int)),some (.str why),some (.ref wl),some (.str (hdw al it)),some (.ref ra),some (.int (x:Int)),some (.int (y:Int)),none,some (.str "one"),some (.str "zero")]∧LR H2 H' wl ra [V.str (hdw al x),V.str (hdw al y)] 1 (fun y'=>if y' = "turned" then some (decide (al[it]?=some (.and y x))) else none)) ?_ ?_
  ·walk_at "rd"
   first
   | (rename_i p1 h1 p2 h2; exact l.go ((Ch.new h1 _).trans (Ch.new h2 _)))
   | (rename_i p1 h1; exact l.go (Ch.new h1 _))
  rintro σ H3 ⟨rfl,l⟩
  have c3:=l.ch
  have hw3:=l.hw
  have r3:=r1.ch c3
  refine zaa6 (fun σ H'=>σ=[some (.ref gl),some (.str "and"),some (.ref sl),some (.int (it:Int)),some (.str why),some (.ref wl),some (.str (hdw al it)),some (.ref ra),some (.int (x:Int)),some (.int (y:Int)),none,some (.str "one"),some (.str "zero")]∧LR H2 H' wl ra [V.str (hdw al x),V.str (hdw al y)] 2 (fun y'=>if y' = "first" then some (decide (it=x) && (isO al y || decide (y=x))) else if y' = "turned" then some (decide (al[it]?=some (.and y x))) else none)) ?_ ?_
  ·refine zacs (decide (it=x) && (isO al y || decide (y=x))) (Val.and ?_ (fun H5 c5=>Val.or ?_ (fun H6 c6=>?_))) (fun H4 c4=>?_)
   ·walk_at "val"
   ·walk_at "val"
   ·walk_at "val"
   ·obtain ⟨kvs,hk,lk,lp⟩:=l.put c4 (by decide)
    exact ⟨_,rfl,_,_,rfl,dputS hk lk,rfl,lp _ _⟩
  rintro σ H3 ⟨rfl,l⟩
  have c3:=l.ch
  have hw3:=l.hw
  have r3:=r1.ch c3
  refine zaa6 (fun σ H'=>σ=[some (.ref gl),some (.str "and"),some (.ref sl),some (.int (it:Int)),some (.str why),some (.ref wl),some (.str (hdw al it)),some (.ref ra),some (.int (x:Int)),some (.int (y:Int)),none,some (.str "one"),some (.str "zero")]∧LR H2 H' wl ra [V.str (hdw al x),V.str (hdw al y)] 3 (fun y'=>if y' = "second" then some (decide (it=y) && isO al x) else if y' = "first" then some (decide (it=x) && (isO al y || decide (y=x))) else if y' = "turned" then some (decide (al[it]?=some (.and y x))) else none)) ?_ ?_
  ·refine zacs (decide (it=y) && isO al x) (Val.and ?_ (fun H5 c5=>?_)) (fun H4 c4=>?_)
   ·walk_at "val"
   ·walk_at "val"
   ·obtain ⟨kvs,hk,lk,lp⟩:=l.put c4 (by decide)
    exact ⟨_,rfl,_,_,rfl,dputS hk lk,rfl,lp _ _⟩
  rintro σ H3 ⟨rfl,l⟩
  have c3:=l.ch
  have hw3:=l.hw
  have r3:=r1.ch c3
  refine zaa6 (fun σ H'=>σ=[some (.ref gl),some (.str "and"),some (.ref sl),some (.int (it:Int)),some (.str why),some (.ref wl),some (.str (hdw al it)),some (.ref ra),some (.int (x:Int)),some (.int (y:Int)),none,some (.str "one"),some (.str "zero")]∧LR H2 H' wl ra [V.str (hdw al x),V.str (hdw al y)] 4 (fun y'=>if y' = "zero" then some (isZ al it && (isZ al x || (isZ al y || opsd al x y))) else if y' = "second" then some (decide (it=y) && isO al x) else if y' = "first" then some (decide (it=x) && (isO al y || decide (y=x))) else if y' = "turned" then some (decide (al[it]?=some (.and y x))) else none)) ?_ ?_
  ·refine zacs (isZ al it && (isZ al x || (isZ al y || opsd al x y))) (Val.and ?_ (fun H5 c5=>Val.cast (Bool.or_assoc _ _ _) (Val.or ?_ (fun H6 c6=>?_)))) (fun H4 c4=>?_)
   ·walk_at "val"
   ·intro R hR
    walk_at "rd"
    rw [inV2,zadw lx,zadw ly]
    exact hR _ (Ch.refl _ _)
   ·walk_at "val"
   ·obtain ⟨kvs,hk,lk,lp⟩:=l.put c4 (by decide)
    exact ⟨_,rfl,_,rfl,_,_,rfl,dputS hk lk,rfl,lp _ _⟩
  rintro σ H3 ⟨rfl,l⟩
  have c3:=l.ch
  have hw3:=l.hw
  have r3:=r1.ch c3
  refine LR.ret l rfl rfl ?_
  dsimp only
  simp only [ifm]
  rw [ifs4 (by decide +kernel)]
  exact q _ (cW.trans c3)
 | or x y =>
  have lx:x < al.length:=lf x (by simp [Gt.feeds])
  have ly:y < al.length:=lf y (by simp [Gt.feeds])
  have hsl1:H2 sl=some (.lst [.int (x:Int),.int (y:Int)]):=hsl1
  have hw1:H2 wl=some (.lst [V.str (hdw al x),V.str (hdw al y)]):=by rw [hw1,← ews]; rfl
  clear ews
  rw [zalk w0 rfl] at q
  walk_at "rd"
  rename_i p1 h1
  have cP:=Ch.new (W:=[]) h1 (.lst [.str "and",.str "or",.str "xor"])
  have r2:=r1.ch cP
  have hw2:=cP.get hw1 (by simp)
  obtain ⟨H3,eH3⟩:∃ H3,H3=upd H2 p1 (.lst [.str "and",.str "or",.str "xor"]):=⟨_,rfl⟩
  rw [← eH3] at cP r2 hw2 ⊢
  refine zaa6 (fun σ H'=>∃ ra,σ=[some (.ref gl),some (.str "or"),some (.ref sl),some (.int (it:Int)),some (.str why),some (.ref wl),some (.str (hdw al it)),some (.ref ra),some (.int (x:Int)),some (.int (y:Int)),none,none,none]∧LR H2 H' wl ra [V.str (hdw al x),V.str (hdw al y)] 1 (fun y'=>if y' = "turned" then some (decide (al[it]?=some (.or y x))) else none)) ?_ ?_
  ·refine zagv (decide (al[it]?=some (.or y x))) (fun p hp=>?_) (fun p H4 fp c4 e4=>⟨p,rfl,LR.one cP hw2 fp c4 e4⟩)
   have r4:=r2.ch (Ch.new hp (.dK []))
   obtain ⟨t,et⟩:∃ t,al[it]?=some t:=⟨_,List.getElem?_eq_getElem li⟩
   obtain ⟨xs,pt,hg,at1,hpt,lx⟩:=r4.at et
   have sct:=Gt.vs_sca t
   have sc2:=Gt.vs_sca (.or y x)
   rw [zabr et]
   walk_at "val"
  clear eH3 cP r2 hw2 H3
  rintro σ H3 ⟨ra,rfl,l⟩
  have c3:=l.ch
  have hw3:=l.hw
  have r3:=r1.ch c3
  walk_at "rd"
  refine zaa6 (fun σ H'=>σ=[some (.ref gl),some (.str "or"),some (.ref sl),some (.int (it:Int)),some (.str why),some (.ref wl),some (.str (hdw al it)),some (.ref ra),some (.int (x:Int)),some (.int (y:Int)),none,some (.str "zero"),some (.str "one")]∧LR H2 H' wl ra [V.str (hdw al x),V.str (hdw al y)] 1 (fun y'=>if y' = "turned" then some (decide (al[it]?=some (.or y x))) else none)) ?_ ?_
  ·walk_at "rd"
   first
   | (rename_i p1 h1 p2 h2; exact l.go ((Ch.new h1 _).trans (Ch.new h2 _)))
   | (rename_i p1 h1; exact l.go (Ch.new h1 _))
  rintro σ H3 ⟨rfl,l⟩
  have c3:=l.ch
  have hw3:=l.hw
  have r3:=r1.ch c3
  refine zaa6 (fun σ H'=>σ=[some (.ref gl),some (.str "or"),some (.ref sl),some (.int (it:Int)),some (.str why),some (.ref wl),some (.str (hdw al it)),some (.ref ra),some (.int (x:Int)),some (.int (y:Int)),none,some (.str "zero"),some (.str "one")]∧LR H2 H' wl ra [V.str (hdw al x),V.str (hdw al y)] 2 (fun y'=>if y' = "first" then some (decide (it=x) && (isZ al y || decide (y=x))) else if y' = "turned" then some (decide (al[it]?=some (.or y x))) else none)) ?_ ?_
  ·refine zacs (decide (it=x) && (isZ al y || decide (y=x))) (Val.and ?_ (fun H5 c5=>Val.or ?_ (fun H6 c6=>?_))) (fun H4 c4=>?_)
   ·walk_at "val"
   ·walk_at "val"
   ·walk_at "val"
   ·obtain ⟨kvs,hk,lk,lp⟩:=l.put c4 (by decide)
    exact ⟨_,rfl,_,_,rfl,dputS hk lk,rfl,lp _ _⟩
  rintro σ H3 ⟨rfl,l⟩
  have c3:=l.ch
  have hw3:=l.hw
  have r3:=r1.ch c3
  refine zaa6 (fun σ H'=>σ=[some (.ref gl),some (.str "or"),some (.ref sl),some (.int (it:Int)),some (.str why),some (.ref wl),some (.str (hdw al it)),some (.ref ra),some (.int (x:Int)),some (.int (y:Int)),none,some (.str "zero"),some (.str "one")]∧LR H2 H' wl ra [V.str (hdw al x),V.str (hdw al y)] 3 (fun y'=>if y' = "second" then some (decide (it=y) && isZ al x) else if y' = "first" then some (decide (it=x) && (isZ al y || decide (y=x))) else if y' = "turned" then some (decide (al[it]?=some (.or y x))) else none)) ?_ ?_
  ·refine zacs (decide (it=y) && isZ al x) (Val.and ?_ (fun H5 c5=>?_)) (fun H4 c4=>?_)
   ·walk_at "val"
   ·walk_at "val"
   ·obtain ⟨kvs,hk,lk,lp⟩:=l.put c4 (by decide)
    exact ⟨_,rfl,_,_,rfl,dputS hk lk,rfl,lp _ _⟩
  rintro σ H3 ⟨rfl,l⟩
  have c3:=l.ch
  have hw3:=l.hw
  have r3:=r1.ch c3
  refine zaa6 (fun σ H'=>σ=[some (.ref gl),some (.str "or"),some (.ref sl),some (.int (it:Int)),some (.str why),some (.ref wl),some (.str (hdw al it)),some (.ref ra),some (.int (x:Int)),some (.int (y:Int)),none,some (.str "zero"),some (.str "one")]∧LR H2 H' wl ra [V.str (hdw al x),V.str (hdw al y)] 4 (fun y'=>if y' = "one" then some (isO al it && (isO al x || (isO al y || opsd al x y))) else if y' = "second" then some (decide (it=y) && isZ al x) else if y' = "first" then some (decide (it=x) && (isZ al y || decide (y=x))) else if y' = "turned" then some (decide (al[it]?=some (.or y x))) else none)) ?_ ?_
  ·refine zacs (isO al it && (isO al x || (isO al y || opsd al x y))) (Val.and ?_ (fun H5 c5=>Val.cast (Bool.or_assoc _ _ _) (Val.or ?_ (fun H6 c6=>?_)))) (fun H4 c4=>?_)
   ·walk_at "val"
   ·intro R hR
    walk_at "rd"
    rw [inV2,zaec lx,zaec ly]
    exact hR _ (Ch.refl _ _)
   ·walk_at "val"
   ·obtain ⟨kvs,hk,lk,lp⟩:=l.put c4 (by decide)
    exact ⟨_,rfl,_,rfl,_,_,rfl,dputS hk lk,rfl,lp _ _⟩
  rintro σ H3 ⟨rfl,l⟩
  have c3:=l.ch
  have hw3:=l.hw
  have r3:=r1.ch c3
  refine LR.ret l rfl rfl ?_
  dsimp only
  simp only [ifm]
  rw [ifs4 (by decide +kernel)]
  exact q _ (cW.trans c3)
 | xor x y =>
  have lx:x < al.length:=lf x (by simp [Gt.feeds])
  have ly:y < al.length:=lf y (by simp [Gt.feeds])
  have hsl1:H2 sl=some (.lst [.int (x:Int),.int (y:Int)]):=hsl1
  have hw1:H2 wl=some (.lst [V.str (hdw al x),V.str (hdw al y)]):=by rw [hw1,← ews]; rfl
  clear ews
  rw [zalk w0 rfl] at q
  walk_at "rd"
  rename_i p1 h1
  have cP:=Ch.new (W:=[]) h1 (.lst [.str "and",.str "or",.str "xor"])
  have r2:=r1.ch cP
  have hw2:=cP.get hw1 (by simp)
  obtain ⟨H3,eH3⟩:∃ H3,H3=upd H2 p1 (.lst [.str "and",.str "or",.str "xor"]):=⟨_,rfl⟩
  rw [← eH3] at cP r2 hw2 ⊢
  refine zaa6 (fun σ H'=>∃ ra,σ=[some (.ref gl),some (.str "xor"),some (.ref sl),some (.int (it:Int)),some (.str why),some (.ref wl),some (.str (hdw al it)),some (.ref ra),some (.int (x:Int)),some (.int (y:Int)),none,none,none]∧LR H2 H' wl ra [V.str (hdw al x),V.str (hdw al y)] 1 (fun y'=>if y' = "turned" then some (decide (al[it]?=some (.xor y x))) else none)) ?_ ?_
  ·refine zagv (decide (al[it]?=some (.xor y x))) (fun p hp=>?_) (fun p H4 fp c4 e4=>⟨p,rfl,LR.one cP hw2 fp c4 e4⟩)
   have r4:=r2.ch (Ch.new hp (.dK []))
   obtain ⟨t,et⟩:∃ t,al[it]?=some t:=⟨_,List.getElem?_eq_getElem li⟩
   obtain ⟨xs,pt,hg,at1,hpt,lx⟩:=r4.at et
   have sct:=Gt.vs_sca t
   have sc2:=Gt.vs_sca (.xor y x)
   rw [zabr et]
   walk_at "val"
  clear eH3 cP r2 hw2 H3
  rintro σ H3 ⟨ra,rfl,l⟩
  have c3:=l.ch
  have hw3:=l.hw
  have r3:=r1.ch c3
  walk_at "rd"
  refine zaa6 (fun σ H'=>σ=[some (.ref gl),some (.str "xor"),some (.ref sl),some (.int (it:Int)),some (.str why),some (.ref wl),some (.str (hdw al it)),some (.ref ra),some (.int (x:Int)),some (.int (y:Int)),none,none,none]∧LR H2 H' wl ra [V.str (hdw al x),V.str (hdw al y)] 2 (fun y'=>if y' = "first" then some (decide (it=x) && isZ al y) else if y' = "turned" then some (decide (al[it]?=some (.xor y x))) else none)) ?_ ?_
  ·refine zacs (decide (it=x) && isZ al y) (Val.and ?_ (fun H5 c5=>?_)) (fun H4 c4=>?_)
   ·walk_at "val"
   ·walk_at "val"
   ·obtain ⟨kvs,hk,lk,lp⟩:=l.put c4 (by decide)
    exact ⟨_,rfl,_,_,rfl,dputS hk lk,rfl,lp _ _⟩
  rintro σ H3 ⟨rfl,l⟩
  have c3:=l.ch
  have hw3:=l.hw
  have r3:=r1.ch c3
  refine zaa6 (fun σ H'=>σ=[some (.ref gl),some (.str "xor"),some (.ref sl),some (.int (it:Int)),some (.str why),some (.ref wl),some (.str (hdw al it)),some (.ref ra),some (.int (x:Int)),some (.int (y:Int)),none,none,none]∧LR H2 H' wl ra [V.str (hdw al x),V.str (hdw al y)] 3 (fun y'=>if y' = "second" then some (decide (it=y) && isZ al x) else if y' = "first" then some (decide (it=x) && isZ al y) else if y' = "turned" then some (decide (al[it]?=some (.xor y x))) else none)) ?_ ?_
  ·refine zacs (decide (it=y) && isZ al x) (Val.and ?_ (fun H5 c5=>?_)) (fun H4 c4=>?_)
   ·walk_at "val"
   ·walk_at "val"
   ·obtain ⟨kvs,hk,lk,lp⟩:=l.put c4 (by decide)
    exact ⟨_,rfl,_,_,rfl,dputS hk lk,rfl,lp _ _⟩
  rintro σ H3 ⟨rfl,l⟩
  have c3:=l.ch
  have hw3:=l.hw
  have r3:=r1.ch c3
  refine zaa6 (fun σ H'=>σ=[some (.ref gl),some (.str "xor"),some (.ref sl),some (.int (it:Int)),some (.str why),some (.ref wl),some (.str (hdw al it)),some (.ref ra),some (.int (x:Int)),some (.int (y:Int)),none,none,none]∧LR H2 H' wl ra [V.str (hdw al x),V.str (hdw al y)] 4 (fun y'=>if y' = "zero" then some (isZ al it && decide (x=y)) else if y' = "second" then some (decide (it=y) && isZ al x) else if y' = "first" then some (decide (it=x) && isZ al y) else if y' = "turned" then some (decide (al[it]?=some (.xor y x))) else none)) ?_ ?_
  ·refine zacs (isZ al it && decide (x=y)) (Val.and ?_ (fun H5 c5=>?_)) (fun H4 c4=>?_)
   ·walk_at "val"
   ·walk_at "val"
   ·obtain ⟨kvs,hk,lk,lp⟩:=l.put c4 (by decide)
    exact ⟨_,rfl,_,_,rfl,dputS hk lk,rfl,lp _ _⟩
  rintro σ H3 ⟨rfl,l⟩
  have c3:=l.ch
  have hw3:=l.hw
  have r3:=r1.ch c3
  refine zaa6 (fun σ H'=>σ=[some (.ref gl),some (.str "xor"),some (.ref sl),some (.int (it:Int)),some (.str why),some (.ref wl),some (.str (hdw al it)),some (.ref ra),some (.int (x:Int)),some (.int (y:Int)),none,none,none]∧LR H2 H' wl ra [V.str (hdw al x),V.str (hdw al y)] 5 (fun y'=>if y' = "one" then some (isO al it && opsd al x y) else if y' = "zero" then some (isZ al it && decide (x=y)) else if y' = "second" then some (decide (it=y) && isZ al x) else if y' = "first" then some (decide (it=x) && isZ al y) else if y' = "turned" then some (decide (al[it]?=some (.xor y x))) else none)) ?_ ?_
  ·refine zacs (isO al it && opsd al x y) (Val.and ?_ (fun H5 c5=>?_)) (fun H4 c4=>?_)
   ·walk_at "val"
   ·walk_at "val"
   ·obtain ⟨kvs,hk,lk,lp⟩:=l.put c4 (by decide)
    exact ⟨_,rfl,_,_,rfl,dputS hk lk,rfl,lp _ _⟩
  rintro σ H3 ⟨rfl,l⟩
  have c3:=l.ch
  have hw3:=l.hw
  have r3:=r1.ch c3
  refine zaa6 (fun σ H'=>σ=[some (.ref gl),some (.str "xor"),some (.ref sl),some (.int (it:Int)),some (.str why),some (.ref wl),some (.str (hdw al it)),some (.ref ra),some (.int (x:Int)),some (.int (y:Int)),none,none,none]∧LR H2 H' wl ra [V.str (hdw al x),V.str (hdw al y)] 6 (fun y'=>if y' = "not" then some (isO al y && opsd al it x) else if y' = "one" then some (isO al it && opsd al x y) else if y' = "zero" then some (isZ al it && decide (x=y)) else if y' = "second" then some (decide (it=y) && isZ al x) else if y' = "first" then some (decide (it=x) && isZ al y) else if y' = "turned" then some (decide (al[it]?=some (.xor y x))) else none)) ?_ ?_
  ·refine zacs (isO al y && opsd al it x) (Val.and ?_ (fun H5 c5=>?_)) (fun H4 c4=>?_)
   ·walk_at "val"
   ·walk_at "val"
   ·obtain ⟨kvs,hk,lk,lp⟩:=l.put c4 (by decide)
    exact ⟨_,rfl,_,_,rfl,dputS hk lk,rfl,lp _ _⟩
  rintro σ H3 ⟨rfl,l⟩
  have c3:=l.ch
  have hw3:=l.hw
  have r3:=r1.ch c3
  refine zaa6 (fun σ H'=>σ=[some (.ref gl),some (.str "xor"),some (.ref sl),some (.int (it:Int)),some (.str why),some (.ref wl),some (.str (hdw al it)),some (.ref ra),some (.int (x:Int)),some (.int (y:Int)),none,none,none]∧LR H2 H' wl ra [V.str (hdw al x),V.str (hdw al y)] 7 (fun y'=>if y' = "not" then some ((isO al y && opsd al it x) || (isO al x && opsd al it y)) else if y' = "not" then some (isO al y && opsd al it x) else if y' = "one" then some (isO al it && opsd al x y) else if y' = "zero" then some (isZ al it && decide (x=y)) else if y' = "second" then some (decide (it=y) && isZ al x) else if y' = "first" then some (decide (it=x) && isZ al y) else if y' = "turned" then some (decide (al[it]?=some (.xor y x))) else none)) ?_ ?_
  ·refine zacs ((isO al y && opsd al it x) || (isO al x && opsd al it y)) (Val.or ?_ (fun H6 c6=>Val.and ?_ (fun H5 c5=>?_))) (fun H4 c4=>?_)
   ·obtain ⟨kvs,hk,_,hv⟩:=l.ex
    have hv:=hv "not"
    intro R hR
    exact ⟨_,rfl,_,_,rfl,zajs hk (hv.trans rfl),hR _ (Ch.refl _ _)⟩
   ·walk_at "val"
   ·walk_at "val"
   ·obtain ⟨kvs,hk,lk,lp⟩:=l.put c4 (by decide)
    exact ⟨_,rfl,_,_,rfl,dputS hk lk,rfl,lp _ _⟩
  rintro σ H3 ⟨rfl,l⟩
  have c3:=l.ch
  have hw3:=l.hw
  have r3:=r1.ch c3
  refine LR.ret l rfl rfl ?_
  dsimp only
  simp only [ifm]
  rw [ifs6 (by decide +kernel)]
  exact q _ (cW.trans c3)
 | pick x y z =>
  have lx:x < al.length:=lf x (by simp [Gt.feeds])
  have ly:y < al.length:=lf y (by simp [Gt.feeds])
  have lz:z < al.length:=lf z (by simp [Gt.feeds])
  have hsl1:H2 sl=some (.lst [.int (x:Int),.int (y:Int),.int (z:Int)]):=hsl1
  have hw1:H2 wl=some (.lst [V.str (hdw al x),V.str (hdw al y),V.str (hdw al z)]):=by rw [hw1,← ews]; rfl
  clear ews
  rw [zacp rfl w0 (fun z=>by cases z.2)] at q
  walk_at "rd"
  refine zaa6 (fun σ H'=>∃ ra,σ=[some (.ref gl),some (.str "pick"),some (.ref sl),some (.int (it:Int)),some (.str why),some (.ref wl),some (.str (hdw al it)),some (.ref ra),some (.int (x:Int)),some (.int (y:Int)),some (.int (z:Int)),none,none]∧LR H2 H' wl ra [V.str (hdw al x),V.str (hdw al y),V.str (hdw al z)] 2 (fun y'=>if y' = "third" then some (decide (it=z) && isZ al x) else if y' = "second" then some (decide (it=y) && (isO al x || decide (y=z))) else none)) ?_ ?_
  ·refine zaja (decide (it=y) && (isO al x || decide (y=z))) (decide (it=z) && isZ al x) (fun p hp=>?_) (fun H3 c3=>Val.and ?_ (fun H4 c4=>?_)) (fun p H3 fp c3 e3=>⟨p,rfl,LR.two (Ch.refl _ _) hw1 fp c3 e3⟩)
   ·have hw4:=(Ch.new (W:=[]) hp (.dK [])).get hw1 (by simp)
    refine Val.and ?_ (fun H5 c5=>Val.or ?_ (fun H6 c6=>?_))
    ·walk_at "val"
    ·walk_at "val"
    ·walk_at "val"
   ·walk_at "val"
   ·have hw4:=c3.get hw1 (by simp)
    walk_at "val"
  rintro σ H3 ⟨ra,rfl,l⟩
  have c3:=l.ch
  have hw3:=l.hw
  have r3:=r1.ch c3
  refine zaa6 (fun σ H'=>σ=[some (.ref gl),some (.str "pick"),some (.ref sl),some (.int (it:Int)),some (.str why),some (.ref wl),some (.str (hdw al it)),some (.ref ra),some (.int (x:Int)),some (.int (y:Int)),some (.int (z:Int)),none,none]∧LR H2 H' wl ra [V.str (hdw al x),V.str (hdw al y),V.str (hdw al z)] 3 (fun y'=>if y' = "first" then some (decide (it=x) && (isO al y && isZ al z)) else if y' = "third" then some (decide (it=z) && isZ al x) else if y' = "second" then some (decide (it=y) && (isO al x || decide (y=z))) else none)) ?_ ?_
  ·refine zacs (decide (it=x) && (isO al y && isZ al z)) (Val.and ?_ (fun H5 c5=>?_)) (fun H4 c4=>?_)
   ·walk_at "val"
   ·intro R hR
    walk_at "rd"
    rename_i p1 h1 p2 h2
    rw [show cutV [V.str (hdw al x),V.str (hdw al y),V.str (hdw al z)] (some 1) none=[V.str (hdw al y),V.str (hdw al z)] from rfl,dec2,zaec ly,zadw lz] at *
    exact hR _ ((Ch.new h1 _).trans (Ch.new h2 _))
   ·obtain ⟨kvs,hk,lk,lp⟩:=l.put c4 (by decide)
    exact ⟨_,rfl,_,_,rfl,dputS hk lk,rfl,lp _ _⟩
  rintro σ H3 ⟨rfl,l⟩
  have c3:=l.ch
  have hw3:=l.hw
  have r3:=r1.ch c3
  refine zaa6 (fun σ H'=>σ=[some (.ref gl),some (.str "pick"),some (.ref sl),some (.int (it:Int)),some (.str why),some (.ref wl),some (.str (hdw al it)),some (.ref ra),some (.int (x:Int)),some (.int (y:Int)),some (.int (z:Int)),none,none]∧LR H2 H' wl ra [V.str (hdw al x),V.str (hdw al y),V.str (hdw al z)] 4 (fun y'=>if y' = "not" then some (opsd al it x && (isZ al y && isO al z)) else if y' = "first" then some (decide (it=x) && (isO al y && isZ al z)) else if y' = "third" then some (decide (it=z) && isZ al x) else if y' = "second" then some (decide (it=y) && (isO al x || decide (y=z))) else none)) ?_ ?_
  ·refine zacs (opsd al it x && (isZ al y && isO al z)) (Val.cast (Bool.and_comm _ _) (Val.and ?_ (fun H5 c5=>?_))) (fun H4 c4=>?_)
   ·intro R hR
    walk_at "rd"
    rename_i p1 h1 p2 h2
    rw [show cutV [V.str (hdw al x),V.str (hdw al y),V.str (hdw al z)] (some 1) none=[V.str (hdw al y),V.str (hdw al z)] from rfl,dec2,zadw ly,zaec lz] at *
    exact hR _ ((Ch.new h1 _).trans (Ch.new h2 _))
   ·walk_at "val"
   ·obtain ⟨kvs,hk,lk,lp⟩:=l.put c4 (by decide)
    exact ⟨_,rfl,_,_,rfl,dputS hk lk,rfl,lp _ _⟩
  rintro σ H3 ⟨rfl,l⟩
  have c3:=l.ch
  have hw3:=l.hw
  have r3:=r1.ch c3
  refine LR.ret l rfl rfl ?_
  dsimp only
  simp only [ifm]
  rw [ifs4 (by decide +kernel)]
  exact q _ (cW.trans c3)
end
end

section
local macro_rules | `(tactic| walk_at "user")=>`(tactic| first
 | (apply GA.ch; (focus with_reducible assumption); (focus walk_at "ch"))
 | (apply NetAt.ch; (focus with_reducible assumption); (focus walk_at "ch"))
 | exact Gt.vs_sca _)
theorem zady {α β:Type}{R S:α→β→Prop} (h:∀ x y,R x y→S x y):∀ {xs:List α}{ys:List β},Paired R xs ys→Paired S xs ys
 | _,_,.nil=>.nil
 | _,_,.cons a t=>.cons (h _ _ a) (zady h t)
theorem zaej {α β:Type}{R:α→β→Prop}{x:α}{y:β} (h:R x y):∀ {xs:List α}{ys:List β},Paired R xs ys→Paired R (xs++[x]) (ys++[y])
 | _,_,.nil=>.cons h .nil
 | _,_,.cons a t=>.cons a (zaej h t)
theorem CtOf.ch {H H':Hp}{v:V}{c:Option (List V)} (h:CtOf H v c) (k:Ch [] H H'):CtOf H' v c:=by
 cases c with
 | none=>exact h
 | some us=>exact let ⟨p,e,hp,s⟩:=h; ⟨p,e,k.get hp (by simp),s⟩
theorem zarj {al:List Gt}{ρ:Nat→Nat}{it:Nat}{s:Str}{g:Gt} (hk:g.isKeep=false):phB al (fun a=>a) it s (g.ren ρ)=phB al ρ it s g:=by
 cases g <;> first | (cases hk; done) | rfl | (by_cases h1:s=Str.ofString "same" <;> by_cases h2:s=Str.ofString "turned" <;> simp [phB,Gt.ren,Gt.two,Gt.trn,ruB,h1,h2] <;> rfl)
theorem zark (ρ:Nat→Nat) (g:Gt):(g.ren ρ).wd=g.wd:=by cases g <;> rfl
theorem zarl (g:Gt):decide (g.vs=[V.str (Str.ofString "in")])=g.isIn:=by
 have:=zaq9 g .inp
 rw [show [V.str (Str.ofString "in")]=(Gt.inp).vs from rfl,this]
 cases g <;> simp [Gt.isIn]
def ctP (o:Option (Nat × Option Str)):Option (List V):=o.map fun p=>[nV p.1,.str (p.2.getD Str.empty)]
theorem zanr {prs:Prs} (hw:∀ p,some p∈prs→∃ s,p.2=some s):∀ {xs ys:List Nat},xs.length=ys.length→(∀ x∈xs,x < prs.length)→decide ((xs.map fun k=>ctP (prs.getD k none))=ys.map fun m=>some [nV m,V.str (Str.ofString "in")])=(xs.zip ys).all (okI prs)
 | [],[],_,_=>rfl
 | [],_ :: _,h,_=>by cases h
 | _ :: _,[],h,_=>by cases h
 | x :: xs,y :: ys,h,hl=>by
  have ih:=zanr hw (xs:=xs) (ys:=ys) (by simpa using h) fun z hz=>hl z (List.mem_cons_of_mem _ hz)
  rw [List.zip_cons_cons,List.all_cons,← ih,List.map_cons,List.map_cons]
  have e:decide (ctP (prs.getD x none)=some [nV y,V.str (Str.ofString "in")])=okI prs (x,y):=by
   have lx:=hl x (by simp)
   have ex:=List.getElem?_eq_getElem lx
   unfold okI
   rw [List.getD_eq_getElem?_getD]
   rw [ex]
   cases ep:prs[x] with
   | none=>simp [ctP]
   | some p =>
    obtain ⟨s,hs⟩:=hw p (by rw [← ep]; exact List.getElem_mem _)
    obtain ⟨p1,p2⟩:=p
    have hs:p2=some s:=hs
    subst hs
    refine decide_eq_decide.mpr ?_
    simp [ctP,nV]
    intro _
    omega
  rw [← e]
  by_cases z:ctP (prs.getD x none)=some [nV y,V.str (Str.ofString "in")]
  ·rw [decide_eq_true z,Bool.true_and]
   exact decide_eq_decide.mpr ⟨fun t=>(List.cons.inj t).2,fun t=>by rw [z,t]⟩
  ·rw [decide_eq_false z,Bool.false_and]
   refine decide_eq_false fun t=>z ?_
   injection t
theorem Gt.vs_sca2 (n:Nat):ScaL [V.int (n:Int),V.str (Str.ofString "in")]:=⟨fun z hz=>by
 simp at hz
 rcases hz with rfl | rfl
 ·exact .inl ⟨_,rfl⟩
 ·exact .inr ⟨_,rfl⟩⟩
theorem zasl (g:Gt):decide (V.str g.wd=V.str "in")=g.isIn:=by
 obtain ⟨wd,rs,e,h⟩:=zagp g
 obtain ⟨rs2,e2⟩:=zam3 g
 rw [e2] at e
 injection e with e _
 rw [← e] at h
 exact h
theorem zapj (g:Gt):decide (V.str g.wd=V.str "keep")=g.isKeep:=by
 cases g <;> simp only [Gt.wd,Gt.isKeep] <;> first | rfl | decide +kernel
theorem zam5 {g:Gt} (h:g.isKeep=false) {rs:List V} (e:g.vs=.str g.wd :: rs):rs=g.feeds.map nV:=by
 cases g <;> first | (cases h; done) | (cases e; rfl)
theorem PrK.ct {H:Hp}{prs:Prs}{qs:List V} (pp:PrK H prs qs) (tk:∀ (i:Nat) (p:Nat × Option Str),prs[i]?=some (some p)→∃ a,qs[i]?=some (.ref a)∧H a=some (.tup [nV p.1,.str (p.2.getD Str.empty)])) {i:Nat}{o:Option (Nat × Option Str)} (e:prs[i]?=some o):∃ v,qs[i]?=some v∧CtOf H v (ctP o):=by
 cases o with
 | none=>exact ⟨_,pp.no i e,rfl⟩
 | some p =>
  obtain ⟨a,h1,h2⟩:=tk i p e
  refine ⟨_,h1,a,rfl,h2,⟨fun z hz=>?_⟩⟩
  simp at hz
  rcases hz with rfl | rfl
  ·exact .inl ⟨_,rfl⟩
  ·exact .inr ⟨_,rfl⟩
section
variable {P:Program}{w:World}{K:PySem.W.Frag}{mg:Str→Option Value}{base:Heap}{f:Addr}{fd:FuncData}{k:Nat}
theorem zahq:Nd "_law_rule" := by decide +kernel
theorem av36:AF (defScope (top 36)) ["_law_net_here", "_law_small", "_law_lost", "_law_pairs_here", "_law_gates", "_law_fed", "_law_small_fed", "_law_out", "_law_small_out", "_law_gate", "_law_pair", "_law_feeds", "_law_some", "_law_good"]:=⟨by decide +kernel⟩
theorem gl36:AG (defScope (top 36)) ["list", "range", "len", "zip", "tuple", "_law_rule"]:=⟨by decide +kernel⟩
def zaie:Scope:={ kind:=PySem.ScopeKind.function,names:=[ (PySem.Str.ofString ".0",PySem.NameKind.local),(PySem.Str.ofString "_law_k",PySem.NameKind.local),(PySem.Str.ofString "_law_net_here",PySem.NameKind.free)],isGenerator:=false,isCoroutine:=false,more:=[]:PySem.Scope }
theorem zalp:CompOk zaie (defScope (top 36)) (["_law_k"]:List Str) (["_law_net_here", "_law_small", "_law_lost", "_law_pairs_here", "_law_gates", "_law_fed", "_law_small_fed", "_law_out", "_law_small_out", "_law_gate", "_law_pair", "_law_feeds", "_law_some", "_law_good"]:List Str) [0] (["_law_k", "_law_net_here"]:List Str):=compOk rfl (by decide +kernel) (by decide +kernel) (by decide +kernel) (by decide +kernel) rfl (by decide +kernel)
theorem zalq:AK (relab zaie (defScope (top 36))) ["_law_k"]:=⟨by decide +kernel⟩
theorem zaif:AV (relab zaie (defScope (top 36))) ["_law_k", "_law_net_here"]:=⟨by decide +kernel⟩
def zaig:Scope:={ kind:=PySem.ScopeKind.function,names:=[ (PySem.Str.ofString ".0",PySem.NameKind.local),(PySem.Str.ofString "_law_k",PySem.NameKind.local),(PySem.Str.ofString "_law_small",PySem.NameKind.free)],isGenerator:=false,isCoroutine:=false,more:=[]:PySem.Scope }
theorem zalr:CompOk zaig (defScope (top 36)) (["_law_k"]:List Str) (["_law_net_here", "_law_small", "_law_lost", "_law_pairs_here", "_law_gates", "_law_fed", "_law_small_fed", "_law_out", "_law_small_out", "_law_gate", "_law_pair", "_law_feeds", "_law_some", "_law_good"]:List Str) [1] (["_law_k", "_law_small"]:List Str):=compOk rfl (by decide +kernel) (by decide +kernel) (by decide +kernel) (by decide +kernel) rfl (by decide +kernel)
theorem zals:AK (relab zaig (defScope (top 36))) ["_law_k"]:=⟨by decide +kernel⟩
theorem zaih:AV (relab zaig (defScope (top 36))) ["_law_k", "_law_small"]:=⟨by decide +kernel⟩
def zaii:Scope:={ kind:=PySem.ScopeKind.function,names:=[ (PySem.Str.ofString ".0",PySem.NameKind.local),(PySem.Str.ofString "_law_k",PySem.NameKind.local),(PySem.Str.ofString "_law_pairs_here",PySem.NameKind.free)],isGenerator:=false,isCoroutine:=false,more:=[]:PySem.Scope }
theorem zalt:CompOk zaii (defScope (top 36)) (["_law_k"]:List Str) (["_law_net_here", "_law_small", "_law_lost", "_law_pairs_here", "_law_gates", "_law_fed", "_law_small_fed", "_law_out", "_law_small_out", "_law_gate", "_law_pair", "_law_feeds", "_law_some", "_law_good"]:List Str) [3] (["_law_k", "_law_pairs_here"]:List Str):=compOk rfl (by decide +kernel) (by decide +kernel) (by decide +kernel) (by decide +kernel) rfl (by decide +kernel)
theorem zalu:AK (relab zaii (defScope (top 36))) ["_law_k"]:=⟨by decide +kernel⟩
theorem zalv:AV (relab zaii (defScope (top 36))) ["_law_k", "_law_pairs_here"]:=⟨by decide +kernel⟩
def zaij:Scope:={ kind:=PySem.ScopeKind.function,names:=[(PySem.Str.ofString ".0",PySem.NameKind.local),(PySem.Str.ofString "_law_k",PySem.NameKind.local)],isGenerator:=false,isCoroutine:=false,more:=[]:PySem.Scope }
theorem zalw:CompOk zaij (defScope (top 36)) (["_law_k"]:List Str) (["_law_net_here", "_law_small", "_law_lost", "_law_pairs_here", "_law_gates", "_law_fed", "_law_small_fed", "_law_out", "_law_small_out", "_law_gate", "_law_pair", "_law_feeds", "_law_some", "_law_good"]:List Str) [] (["_law_k"]:List Str):=compOk rfl (by decide +kernel) (by decide +kernel) (by decide +kernel) (by decide +kernel) rfl (by decide +kernel)
theorem zalx:AK (relab zaij (defScope (top 36))) ["_law_k"]:=⟨by decide +kernel⟩
theorem zapk:AV (relab zaij (defScope (top 36))) ["_law_k"]:=⟨by decide +kernel⟩
def zaik:Scope:={ kind:=PySem.ScopeKind.function,names:=[ (PySem.Str.ofString ".0",PySem.NameKind.local),(PySem.Str.ofString "_law_feed",PySem.NameKind.local),(PySem.Str.ofString "_law_pairs_here",PySem.NameKind.free)],isGenerator:=false,isCoroutine:=false,more:=[]:PySem.Scope }
theorem zaly:CompOk zaik (defScope (top 36)) (["_law_feed"]:List Str) (["_law_net_here", "_law_small", "_law_lost", "_law_pairs_here", "_law_gates", "_law_fed", "_law_small_fed", "_law_out", "_law_small_out", "_law_gate", "_law_pair", "_law_feeds", "_law_some", "_law_good"]:List Str) [3] (["_law_feed", "_law_pairs_here"]:List Str):=compOk rfl (by decide +kernel) (by decide +kernel) (by decide +kernel) (by decide +kernel) rfl (by decide +kernel)
theorem zalz:AK (relab zaik (defScope (top 36))) ["_law_feed"]:=⟨by decide +kernel⟩
theorem zal0:AV (relab zaik (defScope (top 36))) ["_law_feed", "_law_pairs_here"]:=⟨by decide +kernel⟩
def zail:Scope:={ kind:=PySem.ScopeKind.function,names:=[ (PySem.Str.ofString ".0",PySem.NameKind.local),(PySem.Str.ofString "_law_feed",PySem.NameKind.local),(PySem.Str.ofString "_law_pairs_here",PySem.NameKind.free)],isGenerator:=false,isCoroutine:=false,more:=[]:PySem.Scope }
theorem zal1:CompOk zail (defScope (top 36)) (["_law_feed"]:List Str) (["_law_net_here", "_law_small", "_law_lost", "_law_pairs_here", "_law_gates", "_law_fed", "_law_small_fed", "_law_out", "_law_small_out", "_law_gate", "_law_pair", "_law_feeds", "_law_some", "_law_good"]:List Str) [3] (["_law_feed", "_law_pairs_here"]:List Str):=compOk rfl (by decide +kernel) (by decide +kernel) (by decide +kernel) (by decide +kernel) rfl (by decide +kernel)
theorem zal2:AK (relab zail (defScope (top 36))) ["_law_feed"]:=⟨by decide +kernel⟩
theorem zal3:AV (relab zail (defScope (top 36))) ["_law_feed", "_law_pairs_here"]:=⟨by decide +kernel⟩
structure PrT (H:Hp) (prs:Prs) (qs:List V):Prop where
 pk:PrK H prs qs
 tk:∀ (i:Nat) (p:Nat × Option Str),prs[i]?=some (some p)→∃ a,qs[i]?=some (.ref a)∧H a=some (.tup [nV p.1,.str (p.2.getD Str.empty)])
 hw:∀ p,some p∈prs→∃ s,p.2=some s
theorem PrT.ch {H H':Hp}{prs:Prs}{qs:List V} (h:PrT H prs qs) (c:Ch [] H H'):PrT H' prs qs:=⟨h.pk.ch c,fun i p e=>let ⟨a,x,y⟩:=h.tk i p e; ⟨a,x,c.get y (by simp)⟩,h.hw⟩
def spWk (CN:Addr):Sp:=fun vs H Q _=>∃ (nt gp op st gp2 op2 ll ql:Addr) (net sg:List Gt) (xs xs2 qs:List V) (os so:List Nat) (prs:Prs),vs=[.ref nt,.ref st,.ref ll,.ref ql]∧NetAt CN H nt gp op net xs os∧NetAt CN H st gp2 op2 sg xs2 so∧H ll=some (.lst [])∧H ql=some (.lst qs)∧PrT H prs qs ∧
 net.length≤1000∧sg.length≤1000∧Ppr net os sg [] prs∧∀ (H':Hp),Ch [] H H'→Q (.bl (shB net os sg so [] prs)) H'
theorem scWk:FnScope ["_law_net_here", "_law_small", "_law_lost", "_law_pairs_here", "_law_gates", "_law_fed", "_law_small_fed", "_law_out", "_law_small_out", "_law_gate", "_law_pair", "_law_feeds", "_law_some", "_law_good"] ["_law_net_here", "_law_small", "_law_lost", "_law_pairs_here"] (defScope (top 36)):=⟨rfl,rfl,rfl,by decide +kernel,rfl,by decide +kernel,by decide +kernel⟩
theorem zasm {CN:Addr} (F:Fun K "_law_walk" "_law_walk" (top 36) f fd) (cl:Cls K CN) (nG:NoAttr K CN "gates") (nO:NoAttr K CN "outs") (D_law_rule:DefOk P w K mg base CX0 k "_law_rule" ["_law_gates", "_law_word", "_law_some", "_law_number", "_law_why"] spRule) (z_len:mg "len" = none) (z_range:mg "range" = none) (z_list:mg "list" = none) (z_tuple:mg "tuple" = none) (z_zip:mg "zip" = none):FnOk P w K mg base CX0 (k + 1) f fd ["_law_net_here", "_law_small", "_law_lost", "_law_pairs_here"] (spWk CN):=by
 have nd:=scWk.nd
 refine F.ok scWk (fun vs H Q E h=>by obtain ⟨nt,gp,op,st,gp2,op2,ll,ql,net,sg,xs,xs2,qs,os,so,prs,rfl,_⟩:=h; rfl) (fun cdv A outer s0 H vs Q E hr h=>?_)
 obtain ⟨nt,gp,op,st,gp2,op2,ll,ql,net,sg,xs,xs2,qs,os,so,prs,rfl,na,na2,hll,hql,pt,l1,l2,sh,q⟩:=h
 have hu:=zahz hr
 refine ⟨_,(Pr.h (zaaz (zaat (i:=4) nd rfl (av36.l 4 rfl) (zaav zace (zabg zab9 (gl36.g 0 rfl) z_list zadi (zaaa (zab7 (qv av36 1 rfl) rfl) zaab zaa4) zadj zadk) (qv av36 2 rfl))) (zaaz (zaev (i:=5) nd rfl (av36.l 5 rfl) rfl zalp (zacu (gl36.g 1 rfl) z_range (zaaa (zaap zaam (gl36.g 2 rfl) z_len PySem.boot_len (zaaa (zab7 (qv av36 0 rfl) rfl) zaab zaa4) zabb zabc) zaab zab0)) (fun _ _ _ _ _=>(zaa1 (i:=0) zalp.nd rfl (Or.inl (zalq.k 0 rfl)) (Or.inr (zalq.k 0 rfl)))) (fun _ _ _ _ _=>(zagd (zaak (zacv hr.units) (zaao (zaef K rfl) (zai3 K rfl (qw zaif 1 rfl) rfl) (qw zaif 0 rfl) (fun _ _=>rfl)) (zaay (zaaa zaaj zaab zaad)) (nomark _)))) (fun _ _ _ _ _=>(qw zaif 0 rfl)) rfl) (zaaz (zaev (i:=6) nd rfl (av36.l 6 rfl) rfl zalr (zacu (gl36.g 1 rfl) z_range (zaaa (zaap zaam (gl36.g 2 rfl) z_len PySem.boot_len (zaaa (zab7 (qv av36 1 rfl) rfl) zaab zaa4) zabb zabc) zaab zab0)) (fun _ _ _ _ _=>(zaa1 (i:=0) zalr.nd rfl (Or.inl (zals.k 0 rfl)) (Or.inr (zals.k 0 rfl)))) (fun _ _ _ _ _=>(zagd (zaak (zacv hr.units) (zaao (zaef K rfl) (zai3 K rfl (qw zaih 1 rfl) rfl) (qw zaih 0 rfl) (fun _ _=>rfl)) (zaay (zaaa zaaj zaab zaad)) (nomark _)))) (fun _ _ _ _ _=>(qw zaih 0 rfl)) rfl) (zaaf (zaax (zabx (zack (zaak zaem (zaap zaam (gl36.g 2 rfl) z_len PySem.boot_len (zaaa (qv av36 5 rfl) zaab zaac) zabb zabc) (zaap zaam (gl36.g 2 rfl) z_len PySem.boot_len (zaaa (qv av36 6 rfl) zaab zaac) zabb zabc) (nomark _)) (zack (zaak zaem (zaap zaam (gl36.g 2 rfl) z_len PySem.boot_len (zaaa (zab7 (qv av36 0 rfl) rfl) zaab zaa4) zabb zabc) (zaap zaam (gl36.g 2 rfl) z_len PySem.boot_len (zaaa (zab7 (qv av36 1 rfl) rfl) zaab zaa4) zabb zabc) (nomark _)) (zab8 (zaak zaem (zaap zaam (gl36.g 2 rfl) z_len PySem.boot_len (zaaa (qv av36 3 rfl) zaab zaac) zabb zabc) (zaap zaam (gl36.g 2 rfl) z_len PySem.boot_len (zaaa (zab7 (qv av36 0 rfl) rfl) zaab zaa4) zabb zabc) (nomark _)))))) (zaag (zaal zaa5)) zaan) (zaaf (zaax (zaak (zao0 hr.units) (zadq rfl zalt (zac6 (qv av36 5 rfl)) (fun _ _ _ _ _=>(zaa1 (i:=0) zalt.nd rfl (Or.inl (zalu.k 0 rfl)) (Or.inr (zalu.k 0 rfl)))) (fun _ _ _ _ _=>zac7) (fun _ _ _ _ _=>(zaao (zaey K rfl) (qw zalv 1 rfl) (qw zalv 0 rfl) (fun _ _=>rfl)))) (zadq rfl zalw (zac6 (qv av36 6 rfl)) (fun _ _ _ _ _=>(zaa1 (i:=0) zalw.nd rfl (Or.inl (zalx.k 0 rfl)) (Or.inr (zalx.k 0 rfl)))) (fun _ _ _ _ _=>zac7) (fun _ _ _ _ _=>(zaay (zaaa (qw zapk 0 rfl) (zaaa zaaj zaab zaad) zaac)))) (nomark _)) (zaag (zaal zaa5)) zaan) (zaaf (zaby PassesOwn.never rfl (zafr .tuple .tuple (gl36.g 3 rfl) z_zip (zaaa (zab7 (qv av36 0 rfl) rfl) (zaaa (zab7 (qv av36 1 rfl) rfl) zaab zaa4) zaa4)) (zad0 rfl (zabd (zaa1 (i:=7) nd rfl (av36.l 7 rfl)) (zabd (zaa1 (i:=8) nd rfl (av36.l 8 rfl)) zacn))) (zaag (zaax (zabx (zack (zaak zaen (zaao zaaq (qv av36 3 rfl) (qv av36 7 rfl) (fun _ _=>rfl)) zabv (nomark _)) (zab8 (zaak zaem (zaao zaa9 (zaao zaaq (qv av36 3 rfl) (qv av36 7 rfl) (fun _ _=>rfl)) zaae (fun _ _=>rfl)) (qv av36 8 rfl) (nomark _))))) (zaag (zaal zaa5)) zaan))) (zaaf (zaby PassesOwn.never rfl (zafr .tuple .list (gl36.g 3 rfl) z_zip (zaaa (zab7 (qv av36 0 rfl) rfl) (zaaa (qv av36 3 rfl) zaab zaac) zaa4)) (zad0 rfl (zabd (zaa1 (i:=9) nd rfl (av36.l 9 rfl)) (zabd (zaa1 (i:=10) nd rfl (av36.l 10 rfl)) zacn))) (zaaf (zaax (zabx (zack (zaak zaa3 (zaao zaa9 (qv av36 9 rfl) zaae (fun _ _=>rfl)) zaaj (nomark _)) (zab8 (zaak zaen (qv av36 10 rfl) zabv (nomark _))))) (zaag zae8) zaan) (zaaz (zaat (i:=11) nd rfl (av36.l 11 rfl) (zabg zab9 (gl36.g 0 rfl) z_list zadi (zaaa (zabw zakz (qv av36 9 rfl) (zab6 zaae) zaca) zaab zaas) zadj zadk)) (zaaz (zaax (zaak zaa3 (zaao zaa9 (qv av36 9 rfl) zaae (fun _ _=>rfl)) zaaj (nomark _)) (zaag (zaat (i:=11) nd rfl (av36.l 11 rfl) (zaa0 (zaaa (zaao zaa9 (qv av36 9 rfl) zaae (fun _ _=>rfl)) zaab zaas)))) zaan) (zaaf (zaax (zaak (zanj hr.units) zabv (zadq rfl zaly (zac6 (qv av36 11 rfl)) (fun _ _ _ _ _=>(zaa1 (i:=0) zaly.nd rfl (Or.inl (zalz.k 0 rfl)) (Or.inr (zalz.k 0 rfl)))) (fun _ _ _ _ _=>zac7) (fun _ _ _ _ _=>(zaao (zaey K rfl) (qw zal0 1 rfl) (qw zal0 0 rfl) (fun _ _=>rfl)))) rfl) (zaag (zaal zaa5)) zaan) (zaaz (zaev (i:=12) nd rfl (av36.l 12 rfl) rfl zal1 (zac6 (qv av36 11 rfl)) (fun _ _ _ _ _=>(zaa1 (i:=0) zal1.nd rfl (Or.inl (zal2.k 0 rfl)) (Or.inr (zal2.k 0 rfl)))) (fun _ _ _ _ _=>zac7) (fun _ _ _ _ _=>(zaao (zaef K rfl) (zaao (zaey K rfl) (qw zal3 1 rfl) (qw zal3 0 rfl) (fun _ _=>rfl)) zaae (fun _ _=>rfl))) rfl) (zaaz (zaat (i:=13) nd rfl (av36.l 13 rfl) (zaaw (zaar zaa3 (zaao zaa9 (qv av36 10 rfl) zaae (fun _ _=>rfl)) zaaj (nomark _)) (zaau (zaar (zacv hr.units) (zaao zaaq (qv av36 4 rfl) (zaao zaa9 (qv av36 10 rfl) zaae (fun _ _=>rfl)) (fun _ _=>rfl)) (zabg zabo (gl36.g 4 rfl) z_tuple zacb (zaaa (zaav zace (zabg zab9 (gl36.g 0 rfl) z_list zadi (zaaa (zabw zakz (qv av36 9 rfl) zaca (zab6 zaae)) zaab zaas) zadj zadk) (qv av36 12 rfl)) zaab zabh) zacc zacd) (nomark _))))) (zaaz (zaax (zaak zaem (zaao zaa9 (qv av36 9 rfl) zaae (fun _ _=>rfl)) zaaj (nomark _)) (zaag (zaat (i:=13) nd rfl (av36.l 13 rfl) (zaah D_law_rule hr (gl36.g 5 rfl) pass0 (zaaa (qv av36 4 rfl) (zaaa (zaao zaa9 (qv av36 9 rfl) zaae (fun _ _=>rfl)) (zaaa (qv av36 12 rfl) (zaaa (zaao zaa9 (qv av36 10 rfl) zaae (fun _ _=>rfl)) (zaaa (zaao zaa9 (qv av36 10 rfl) zaae (fun _ _=>rfl)) zaab zaas) zaas) zaac) zaas) zaac) zahq))) zaan) (zaag (zaax (zabp (zabf (qv av36 13 rfl))) (zaag (zaal zaa5)) zaan)))))))))) (zaag (zaal zaa5)))))))))),?_⟩
 (try dsimp only [cxOf])
 obtain ⟨⟨d1,ob1⟩,gt1,gg1,ot1⟩:=id na
 obtain ⟨⟨d2,ob2⟩,gt2,gg2,ot2⟩:=id na2
 have fg1:=zacj gp op
 have fg2:=zacj gp2 op2
 have fo1:=zadr gp op
 have fo2:=zadr gp2 op2
 have lx:xs.length=net.length:=gg1.len
 have lx2:xs2.length=sg.length:=gg2.len
 refine zaa6 (fun σ H'=>∃ gl,Ch [] H H'∧GA H' gl sg∧σ=[some (.ref nt),some (.ref st),some (.ref ll),some (.ref ql),some (.ref gl),none,none,none,none,none,none,none,none,none]) ?_ ?_
 ·walk_at "rd"
  rename_i l hl p hp
  have cL:Ch [] H (upd (upd H l (.lst xs2)) p (.lst (xs2++[]))):=(Ch.new hl _).trans (Ch.new hp _)
  exact ⟨⟨_,zaai,by rw [List.append_nil] at cL ⊢; exact gg2.tu (Tu.same cL)⟩,rfl⟩
 rintro σ H1 ⟨gl,c1,ga1,rfl⟩
 have oa2:=c1.get ob1 (by simp)
 have ga2:=c1.get gt1 (by simp)
 refine zaa6 (fun σ H'=>∃ fl,Ch [] H1 H'∧H' fl=some (.lst ((numsOf Gt.isIn net 0).map nV))∧σ=[some (.ref nt),some (.ref st),some (.ref ll),some (.ref ql),some (.ref gl),some (.ref fl),none,none,none,none,none,none,none,none]) ?_ ?_
 ·walk_at "rd"
  refine zaf3 (fun j ys σ H'=>Ch [] H1 H'∧ys=(numsOf Gt.isIn (net.take j) 0).map nV∧∃ u,σ=[u,some (.ref nt)]) (by rw [sizeLine_eq]; omega) ⟨Ch.refl _ _,rfl,_,rfl⟩ ?_ ?_ ?_
  ·rintro j ys σ H' hj ⟨_,rfl,_⟩
   rw [List.length_map]
   exact Nat.le_trans (zadb _ _ _) (by rw [List.length_take]; omega)
  ·rintro j ys σ H' hj ⟨c,rfl,u,rfl⟩
   have hj:j < net.length:=by rw [← lx]; simpa using hj
   obtain ⟨g,eg⟩:∃ g,net[j]?=some g:=⟨_,List.getElem?_eq_getElem hj⟩
   obtain ⟨p,ep,hp⟩:=gg1.at_ j g eg
   have at1:atI xs (0 + (j:Int))=some (.ref p):=by rw [Int.zero_add]; exact zab4 ep
   have obj:=c.get oa2 (by simp)
   have gtj:=c.get ga2 (by simp)
   have hpj:=c.get (c1.get hp (by simp)) (by simp)
   have sc1:=Gt.vs_sca g
   have sc2:ScaL [V.str (Str.ofString "in")]:=Gt.vs_sca .inp
   rw [zad3 _ eg]
   walk_at "rd"
   rename_i T hT
   have cT:=Ch.new (W:=[]) hT (.tup [V.str (Str.ofString "in")])
   rw [zarl]
   cases ei:g.isIn with
   | true =>
    refine iteT ?_
    walk_at "rd"
    exact ⟨by rw [List.map_append,Int.zero_add]; rfl,_,rfl⟩
   | false =>
    refine iteF ?_
    exact ⟨c.trans cT,by simp,_,rfl⟩
  ·rintro ys σ H' ⟨c,rfl,_⟩
   intro p hp
   exact ⟨p,c.trans (Ch.new hp _),by rw [zaai,Int.toNat_natCast,lx,List.take_length],rfl⟩
 rintro σ H2 ⟨f2,c2,e2,rfl⟩
 have oa3:=c2.get (c1.get ob2 (by simp)) (by simp)
 have ga3:=c2.get (c1.get gt2 (by simp)) (by simp)
 refine zaa6 (fun σ H'=>∃ fl,Ch [] H2 H'∧H' fl=some (.lst ((numsOf Gt.isIn sg 0).map nV))∧σ=[some (.ref nt),some (.ref st),some (.ref ll),some (.ref ql),some (.ref gl),some (.ref f2),some (.ref fl),none,none,none,none,none,none,none]) ?_ ?_
 ·walk_at "rd"
  refine zaf3 (fun j ys σ H'=>Ch [] H2 H'∧ys=(numsOf Gt.isIn (sg.take j) 0).map nV∧∃ u,σ=[u,some (.ref st)]) (by rw [sizeLine_eq]; omega) ⟨Ch.refl _ _,rfl,_,rfl⟩ ?_ ?_ ?_
  ·rintro j ys σ H' hj ⟨_,rfl,_⟩
   rw [List.length_map]
   exact Nat.le_trans (zadb _ _ _) (by rw [List.length_take]; omega)
  ·rintro j ys σ H' hj ⟨c,rfl,u,rfl⟩
   have hj:j < sg.length:=by rw [← lx2]; simpa using hj
   obtain ⟨g,eg⟩:∃ g,sg[j]?=some g:=⟨_,List.getElem?_eq_getElem hj⟩
   obtain ⟨p,ep,hp⟩:=gg2.at_ j g eg
   have at1:atI xs2 (0 + (j:Int))=some (.ref p):=by rw [Int.zero_add]; exact zab4 ep
   have obj:=c.get oa3 (by simp)
   have gtj:=c.get ga3 (by simp)
   have hpj:=c.get (c2.get (c1.get hp (by simp)) (by simp)) (by simp)
   have sc1:=Gt.vs_sca g
   have sc2:ScaL [V.str (Str.ofString "in")]:=Gt.vs_sca .inp
   rw [zad3 _ eg]
   walk_at "rd"
   rename_i T hT
   have cT:=Ch.new (W:=[]) hT (.tup [V.str (Str.ofString "in")])
   rw [zarl]
   cases ei:g.isIn with
   | true =>
    refine iteT ?_
    walk_at "rd"
    exact ⟨by rw [List.map_append,Int.zero_add]; rfl,_,rfl⟩
   | false =>
    refine iteF ?_
    exact ⟨c.trans cT,by simp,_,rfl⟩
  ·rintro ys σ H' ⟨c,rfl,_⟩
   intro p hp
   exact ⟨p,c.trans (Ch.new hp _),by rw [zaai,Int.toNat_natCast,lx2,List.take_length],rfl⟩
 rintro σ H3 ⟨f3,c3,e3,rfl⟩
 have c13:=c1.trans (c2.trans c3)
 have e23:=c3.get e2 (by simp)
 have na3:=na.ch c13
 have nb3:=na2.ch c13
 have ga4:=ga1.ch (c2.trans c3)
 have ql3:=c13.get hql (by simp)
 have pt3:=pt.ch c13
 have l3:=zadb Gt.isIn net 0
 have l4:=zadb Gt.isIn sg 0
 clear oa2 ga2 oa3 ga3
 obtain ⟨⟨d1,ob1⟩,gt1,gg1,ot1⟩:=id na3
 obtain ⟨⟨d2,ob2⟩,gt2,gg2,ot2⟩:=id nb3
 have lq:=pt3.pk.len
 walk_at "rd"
 by_cases le:(numsOf Gt.isIn net 0).length=(numsOf Gt.isIn sg 0).length
 case neg =>
  have b:shB net os sg so [] prs=false:=by
   unfold shB ihB
   rw [decide_eq_false le,Bool.false_and,Bool.false_and,Bool.and_false]
  rw [b] at q
  refine ite2 (fun _=>q _ c13) (fun h=>absurd (show (numsOf Gt.isIn net 0).length=(numsOf Gt.isIn sg 0).length by simp at h; omega) le)
 refine iteNn (by rw [List.length_map,List.length_map,le]) ?_
 walk_at "rd"
 by_cases lo:os.length=so.length
 case neg =>
  have b:shB net os sg so [] prs=false:=by
   unfold shB ohB
   rw [decide_eq_false lo,Bool.false_and,Bool.false_and,Bool.and_false,Bool.and_false]
  rw [b] at q
  refine ite2 (fun _=>q _ c13) (fun h=>absurd (show os.length=so.length by simp at h; omega) lo)
 refine iteNn (by rw [List.length_map,List.length_map,lo]) ?_
 walk_at "rd"
 by_cases lp:prs.length=net.length
 case neg =>
  have b:shB net os sg so [] prs=false:=by
   unfold shB
   rw [decide_eq_false lp,Bool.false_and]
  rw [b] at q
  refine ite2 (fun _=>q _ c13) (fun h=>absurd (show prs.length=net.length by simp at h; omega) lp)
 refine iteNn (by rw [lq,lp,lx]) ?_
 walk_at "rd"
 have eB:shB net os sg so [] prs=(ihB net sg prs && (ohB os so prs && ghB net sg prs)):=by
  unfold shB
  rw [decide_eq_true lp,Bool.true_and,List.append_nil]
 rw [eB] at q
 have eI:ihB net sg prs=((numsOf Gt.isIn net 0).zip (numsOf Gt.isIn sg 0)).all (okI prs):=by
  unfold ihB
  rw [decide_eq_true le,Bool.true_and]
 have il:∀ x∈numsOf Gt.isIn net 0,x < prs.length:=fun x hx=>by
  have:=zafu _ _ _ _ hx
  omega
 rw [← zanr pt.hw le il] at eI
 refine zadg ((numsOf Gt.isIn net 0).map nV) (fun j ys σ H'=>H'=H3∧Paired (CtOf H3) ys (((numsOf Gt.isIn net 0).take j).map fun k=>ctP (prs.getD k none))∧∃ u,σ=[u,some (.ref ql)]) (by rw [List.length_map,sizeLine_eq]; omega) ⟨rfl,.nil,_,rfl⟩ ?_ ?_ ?_
 ·rintro j ys σ H' hj ⟨rfl,py,_⟩
  have:=Paired.length py
  simp only [List.length_map,List.length_take] at this hj
  exact ⟨by omega,SqL.of e23⟩
 ·rintro j ys σ H' x hx ⟨rfl,py,u,rfl⟩
  rw [List.getElem?_map] at hx
  obtain ⟨n,en,rfl⟩:=Option.map_eq_some_iff.mp hx
  have ln:=il n (List.mem_of_getElem? en)
  have epn:=List.getElem?_eq_getElem ln
  obtain ⟨v,ev,cv⟩:=pt3.pk.ct pt3.tk epn
  have at1:=zab4 ev
  unfold nV
  walk_at "rd"
  refine ⟨?_,_,rfl⟩
  rw [List.take_add_one,en,List.map_append]
  refine zaej ?_ py
  show CtOf _ v (ctP (prs.getD n none))
  rw [List.getD_eq_getElem?_getD,epn]
  exact cv
 rintro ys1 σ H' ⟨rfl,py1,_⟩
 rw [List.length_map,List.take_length] at py1
 intro D1 hD1
 have cA:=Ch.new (W:=[]) hD1 (.lst ys1)
 have gA:upd H' D1 (.lst ys1) D1=some (.lst ys1):=zaai
 have py2:Paired (CtOf (upd H' D1 (.lst ys1))) ys1 _:=zady (fun _ _ h=>CtOf.ch h cA) py1
 have e3A:=cA.get e3 (by simp)
 generalize upd H' D1 (.lst ys1)=HA at cA gA py2 e3A ⊢
 walk_at "rd"
 refine zadg ((numsOf Gt.isIn sg 0).map nV) (fun j ys σ H2=>Ch [] HA H2∧Paired (CtOf H2) ys (((numsOf Gt.isIn sg 0).take j).map fun m=>some [nV m,V.str (Str.ofString "in")])∧∃ u,σ=[u]) (by rw [List.length_map,sizeLine_eq]; omega) ⟨Ch.refl _ _,.nil,_,rfl⟩ ?_ ?_ ?_
 ·rintro j ys σ H2 hj ⟨c,py,_⟩
  have:=Paired.length py
  simp only [List.length_map,List.length_take] at this hj
  exact ⟨by omega,SqL.of (c.get e3A (by simp))⟩
 ·rintro j ys σ H2 x hx ⟨c,py,u,rfl⟩
  rw [List.getElem?_map] at hx
  obtain ⟨n,en,rfl⟩:=Option.map_eq_some_iff.mp hx
  unfold nV at *
  walk_at "rd"
  rename_i p hp
  have cP:=Ch.new (W:=[]) hp (.tup [V.int (n:Int),V.str (Str.ofString "in")])
  refine ⟨?_,_,rfl⟩
  rw [List.take_add_one,en,List.map_append]
  exact zaej ⟨p,rfl,zaai,Gt.vs_sca2 n⟩ (zady (fun _ _ h=>CtOf.ch h cP) py)
 rintro ys2 σ H2 ⟨cB,pyB,_⟩
 rw [List.length_map,List.take_length] at pyB
 intro D2 hD2
 have cN:=Ch.new (W:=[]) hD2 (.lst ys2)
 walk_at "rd"
 refine ⟨zady (fun _ _ h=>CtOf.ch h (cB.trans cN)) py2,zady (fun _ _ h=>CtOf.ch h cN) pyB,?_⟩
 rw [← eI]
 have c4:=(c13.trans cA).trans (cB.trans cN)
 have cR:=cA.trans (cB.trans cN)
 generalize upd H2 D2 (.lst ys2)=H4 at c4 cR ⊢
 have na4:=na.ch c4
 have nb4:=na2.ch c4
 have ga5:=ga4.ch cR
 have ql4:=cR.get ql3 (by simp)
 have pt4:=pt3.ch cR
 clear eI il py1 hD1 cA gA py2 e3A cB pyB hD2 cN ga4 ql3 pt3 na3 nb3 ob1 gt1 gg1 ot1 ob2 gt2 gg2 ot2 e23 e3 e2 ga1 c2 c3
 cases hi:ihB net sg prs with
 | false =>
  rw [hi,Bool.false_and] at q
  exact ⟨_,rfl,iteT (q _ c4)⟩
 | true =>
 rw [hi,Bool.true_and] at q
 refine ⟨_,rfl,iteF ?_⟩
 obtain ⟨⟨d1,ob1⟩,gt1,gg1,ot1⟩:=id na4
 obtain ⟨⟨d2,ob2⟩,gt2,gg2,ot2⟩:=id nb4
 walk_at "rd"
 refine zaes (xs:=os.map nV) (ys:=so.map nV) (fun i σ H'=>H'=H'∧Ch [] H4 H'∧Box (∀ j n m,j < i→os[j]?=some n→so[j]?=some m→okO prs (n,m)=true)∧∃ u v,σ=[some (.ref nt),some (.ref st),some (.ref ll),some (.ref ql),some (.ref gl),some (.ref f2),some (.ref f3),u,v,none,none,none,none,none]) ⟨rfl,Ch.refl _ _,⟨fun j n m h=>absurd h (Nat.not_lt_zero _)⟩,_,_,rfl⟩ ?_ ?_ ?_
 ·rintro i σ H' hi ⟨_,c,_⟩
  exact ⟨SqT.of (c.get ot1 (by simp)),SqT.of (c.get ot2 (by simp))⟩
 ·rintro i x y σ H' T hx hy ⟨_,c,bx,u,v,rfl⟩ hT
  rw [List.getElem?_map] at hx hy
  obtain ⟨n,en,rfl⟩:=Option.map_eq_some_iff.mp hx
  obtain ⟨m,em,rfl⟩:=Option.map_eq_some_iff.mp hy
  have ln:n < prs.length:=by rw [lp]; exact sh.lo n (List.mem_of_getElem? en)
  have bad:okO prs (n,m)=false→ohB os so prs=false:=fun z=>by
   unfold ohB
   rw [zadl en em z,Bool.and_false]
  have good:okO prs (n,m)=true→Box (∀ j n m,j < i + 1→os[j]?=some n→so[j]?=some m→okO prs (n,m)=true):=fun z=>⟨fun j n' m' hj e1 e2=>by
   by_cases hj':j < i
   ·exact bx.h j n' m' hj' e1 e2
   ·have:j=i:=by omega
    subst this
    rw [en] at e1
    rw [em] at e2
    cases e1
    cases e2
    exact z⟩
  clear bx
  have cT:=Ch.new (W:=[]) hT (.tup [nV n,nV m])
  have hT1:upd H' T (.tup [nV n,nV m]) T=_:=zaai
  have cc:=c.trans cT
  have hql1:=cc.get ql4 (by simp)
  obtain ⟨p,ep⟩:∃ p,prs[n]?=some p:=⟨_,List.getElem?_eq_getElem ln⟩
  cases p with
  | none =>
   have at1:=zab4 (pt4.pk.no n ep)
   have b:=bad (by unfold okO; rw [ep])
   rw [b,Bool.false_and] at q
   clear bad good
   unfold nV at *
   obtain ⟨HT,eHT⟩:∃ HT,HT=upd H' T (.tup [V.int (n:Int),V.int (m:Int)]):=⟨_,rfl⟩
   rw [← eHT] at hql1 hT1 cc ⊢
   walk_at "rd"
   exact q _ (c4.trans cc)
  | some p =>
   obtain ⟨a,ea,ha⟩:=pt4.tk n p ep
   have at1:=zab4 ea
   have ha1:=cc.get ha (by simp)
   have ev:((p.1:Nat):Int)=m↔okO prs (n,m)=true:=by
    unfold okO
    rw [ep]
    simp
    omega
   generalize okO prs (n,m)=bo at ev bad good
   unfold nV at *
   obtain ⟨HT,eHT⟩:∃ HT,HT=upd H' T (.tup [V.int (n:Int),V.int (m:Int)]):=⟨_,rfl⟩
   rw [← eHT] at ha1 hql1 hT1 cc ⊢
   walk_at "rd"
   cases bo with
   | true =>
    refine iteNn (by rw [ev.mpr rfl]) ?_
    exact ⟨rfl,cc,good rfl,_,_,rfl⟩
   | false =>
    rw [bad rfl,Bool.false_and] at q
    refine ite2 (fun _=>q _ (c4.trans cc)) (fun h=>?_)
    exact absurd (ev.mp (by simpa using h)) (by decide)
 rintro σ H5 ⟨_,c5,bx,u,v,rfl⟩
 rw [List.length_map,List.length_map,← lo,Nat.min_self] at bx
 have hoT:ohB os so prs=true:=by
  unfold ohB
  rw [decide_eq_true lo,Bool.true_and]
  exact zads fun i n m e1 e2=>bx.h i n m (List.getElem?_eq_some_iff.mp e1).1 e1 e2
 rw [hoT,Bool.true_and] at q
 have na5:=na4.ch c5
 have ga6:=ga5.ch c5
 have ql5:=c5.get ql4 (by simp)
 have pt5:=pt4.ch c5
 have cH5:=c4.trans c5
 clear bx na4 nb4 ga5 ql4 pt4 ob1 gt1 gg1 ot1 ob2 gt2 gg2 ot2 c5 cR c4
 obtain ⟨⟨d1,ob1⟩,gt1,gg1,ot1⟩:=id na5
 walk_at "rd"
 refine zaes (xs:=xs) (ys:=qs) (fun i σ H'=>Ch [] H5 H'∧Box (∀ j g p,j < i→net[j]?=some g→prs[j]?=some p→okG sg prs (g,p)=true)∧∃ w1 w2 w3 w4 w5,σ=[some (.ref nt),some (.ref st),some (.ref ll),some (.ref ql),some (.ref gl),some (.ref f2),some (.ref f3),u,v,w1,w2,w3,w4,w5]) ⟨Ch.refl _ _,⟨fun j n m h=>absurd h (Nat.not_lt_zero _)⟩,_,_,_,_,_,rfl⟩ ?_ ?_ ?_
 ·rintro i σ H' hi ⟨c,_⟩
  exact ⟨SqT.of (c.get gt1 (by simp)),SqL.of (c.get ql5 (by simp))⟩
 ·rintro i x y σ H' T hx hy ⟨c,bx,w1,w2,w3,w4,w5,rfl⟩ hT
  have hi:i < net.length:=by rw [← lx]; exact (List.getElem?_eq_some_iff.mp hx).1
  obtain ⟨g,hgi⟩:∃ g,net[i]?=some g:=⟨_,List.getElem?_eq_getElem hi⟩
  obtain ⟨pr,hpi⟩:∃ pr,prs[i]?=some pr:=⟨_,List.getElem?_eq_getElem (by omega)⟩
  obtain ⟨p,ep,hp⟩:=gg1.at_ i g hgi
  rw [hx] at ep
  cases ep
  have bad:okG sg prs (g,pr)=false→ghB net sg prs=false:=fun z=>zadl hgi hpi z
  have good:okG sg prs (g,pr)=true→Box (∀ j g p,j < i + 1→net[j]?=some g→prs[j]?=some p→okG sg prs (g,p)=true):=fun z=>⟨fun j n' m' hj e1 e2=>by
    by_cases hj':j < i
    ·exact bx.h j n' m' hj' e1 e2
    ·have:j=i:=by omega
     subst this
     rw [hgi] at e1
     rw [hpi] at e2
     cases e1
     cases e2
     exact z⟩
  clear bx
  have cT:=Ch.new (W:=[]) hT (.tup [.ref p,y])
  have hT1:upd H' T (.tup [.ref p,y]) T=_:=zaai
  have cc:=c.trans cT
  obtain ⟨HT,eHT⟩:∃ HT,HT=upd H' T (.tup [.ref p,y]):=⟨_,rfl⟩
  rw [← eHT] at cc hT1 ⊢
  clear c cT eHT hT
  have hp1:=cc.get hp (by simp)
  obtain ⟨rs,ev⟩:=zam3 g
  have hp2:=hp1
  rw [ev] at hp2
  walk_at "rd"
  rw [zasl]
  cases ei:g.isIn with
  | true =>
   have gd:=good (by unfold okG; rw [ei]; rfl)
   clear good bad
   refine iteT ?_
   walk_at "rd"
  | false =>
  refine iteF ?_
  have ni:g≠.inp:=fun z=>by rw [z] at ei; cases ei
  cases pr with
  | none =>
   rw [pt5.pk.no i hpi] at hy
   cases hy
   have gd:=good (by unfold okG; rw [ei]; rfl)
   clear good bad
   walk_at "rd"
  | some pr =>
  obtain ⟨pa,ea,ha⟩:=pt5.tk i pr hpi
  rw [hy] at ea
  cases ea
  have ha1:=cc.get ha (by simp)
  obtain ⟨sw,esw⟩:=pt5.hw pr (List.mem_of_getElem? hpi)
  obtain ⟨it,wo⟩:=pr
  have esw:wo=some sw:=esw
  subst esw
  have ha1:HT pa=some (.tup [nV it,.str sw]):=ha1
  have okE:okG sg prs (g,some (it,some sw))=((prF prs g.feeds).all Option.isSome && phB sg (rho (dn prs)) it sw g):=by unfold okG; rw [ei]; rfl
  rw [okE] at bad good
  have lf:∀ a∈g.feeds,a < net.length:=fun a ha=>by
   have:=sh.ok i g hgi
   cases g <;> simp [Gt.feeds,Gt.ok] at ha this <;> omega
  have li:it < sg.length:=by
   have:=sh.lt (it,some sw) (List.mem_of_getElem? hpi)
   rw [List.append_nil] at this
   exact this
  walk_at "rd"
  refine iteF ?_
  refine zaa6 (fun σ H'=>∃ fl,Ch [] H5 H'∧Ch [] HT H'∧H' fl=some (.lst rs)∧σ=[some (.ref nt),some (.ref st),some (.ref ll),some (.ref ql),some (.ref gl),some (.ref f2),some (.ref f3),u,v,some (.ref p),some (.ref pa),some (.ref fl),w4,w5]) ?_ ?_
  ·walk_at "rd"
   exact ⟨by rw [zaai,cut1],rfl⟩
  rintro σ H6 ⟨fl0,c6,d6,gl6,rfl⟩
  have hp6:=d6.get hp2 (by simp)
  have hk:=zapj g
  refine zaa6 (fun σ H'=>∃ fl,Ch [] H5 H'∧Ch [] HT H'∧H' fl=some (.lst (g.feeds.map nV))∧σ=[some (.ref nt),some (.ref st),some (.ref ll),some (.ref ql),some (.ref gl),some (.ref f2),some (.ref f3),u,v,some (.ref p),some (.ref pa),some (.ref fl),w4,w5]) ?_ ?_
  ·walk_at "rd"
   rw [hk]
   cases ek:g.isKeep with
   | false =>
    refine iteF ?_
    exact ⟨fl0,c6,d6,by rw [gl6,zam5 ek ev],rfl⟩
   | true =>
    cases g with
    | keep ff a =>
     cases ev
     refine iteT ?_
     walk_at "rd"
    | _=>cases ek
  clear c6 d6 gl6 hp6
  rintro σ H6 ⟨fl,c6,d6,gl6,rfl⟩
  walk_at "rd"
  have hq6:=c6.get ql5 (by simp)
  have pp6:=pt5.pk.ch c6
  have tk6:=(pt5.ch c6).tk
  refine zadg (g.feeds.map nV) (fun j zs σ H'=>H'=H6∧PrK H6 (prF prs (g.feeds.take j)) zs∧∃ u,σ=[u,some (.ref ql)]) (by rw [List.length_map,sizeLine_eq]; have:=zac5 g; omega) ⟨rfl,.nil,_,rfl⟩ ?_ ?_ ?_
  ·rintro j zs σ H' hj ⟨rfl,pz,_⟩
   refine ⟨?_,SqL.of gl6⟩
   rw [pz.len]
   simp [prF,List.length_take]
   rw [List.length_map] at hj
   omega
  ·rintro j zs σ H' x hx' ⟨rfl,pz,u,rfl⟩
   rw [List.getElem?_map] at hx'
   obtain ⟨n,en,rfl⟩:=Option.map_eq_some_iff.mp hx'
   have ln:=lf n (List.mem_of_getElem? en)
   obtain ⟨pn,epn⟩:∃ pn,prs[n]?=some pn:=⟨_,List.getElem?_eq_getElem (by omega)⟩
   cases pn with
   | none =>
    have at1:=zab4 (pp6.no n epn)
    have pz2:=pz.pushN
    rw [← zafh en epn] at pz2
    unfold nV at *
    walk_at "rd"
   | some pn =>
    obtain ⟨an,kn,wn,ean,han,hwn⟩:=pp6.at_ n pn epn
    have at1:=zab4 ean
    have pz2:=pz.push han hwn
    rw [← zafh en epn] at pz2
    unfold nV at *
    walk_at "rd"
  rintro zs σ H' ⟨rfl,pz,_⟩
  rw [List.length_map,List.take_length] at pz
  intro D hD
  have cD:=Ch.new (W:=[]) hD (.lst zs)
  have gD:upd H' D (.lst zs) D=some (.lst zs):=zaai
  have pz:=pz.ch cD
  have c7:=c6.trans cD
  have d7:=d6.trans cD
  have gl7:=cD.get gl6 (by simp)
  generalize upd H' D (.lst zs)=H7 at cD gD pz c7 d7 gl7 ⊢
  clear pp6 tk6 hq6 gl6 hD
  have hz:∀ z∈zs,z=.non∨∃ p,z=.ref p∧((∃ zs,H7 p=some (.lst zs))∨∃ zs,H7 p=some (.tup zs)):=fun z hz=>by
   obtain ⟨j,hj⟩:=List.getElem?_of_mem hz
   have lj:j < (prF prs g.feeds).length:=by rw [← pz.len]; exact (List.getElem?_eq_some_iff.mp hj).1
   have ej:=List.getElem?_eq_getElem lj
   cases eo:(prF prs g.feeds)[j] with
   | none =>
    rw [eo] at ej
    rw [pz.no j ej] at hj
    cases hj
    exact .inl rfl
   | some p2 =>
    rw [eo] at ej
    obtain ⟨a,kj,_,e1,e2,_⟩:=pz.at_ j _ ej
    rw [hj] at e1
    cases e1
    cases kj with
    | list=>exact .inr ⟨a,rfl,.inl ⟨_,e2⟩⟩
    | tuple=>exact .inr ⟨a,rfl,.inr ⟨_,e2⟩⟩
  have ez:zs.any isNon=!(prF prs g.feeds).all Option.isSome:=zak9 pz
  walk_at "rd"
  rw [ez]
  cases all:(prF prs g.feeds).all Option.isSome with
  | false =>
   rw [all,Bool.false_and] at bad
   rw [bad rfl] at q
   exact iteT (q _ (cH5.trans c7))
  | true =>
  rw [all,Bool.true_and] at bad good
  refine iteF ?_
  have hq7:=c7.get ql5 (by simp)
  have tk7:=(pt5.ch c7).tk
  have fsome:∀ a∈g.feeds,∃ pj,prs[a]?=some (some pj):=fun a ha=>by
   have la:=lf a ha
   have ia:=List.all_eq_true.mp all (prs.getD a none) (List.mem_map.mpr ⟨a,ha,rfl⟩)
   obtain ⟨pj,hj⟩:=Option.isSome_iff_exists.mp ia
   have e:=List.getElem?_eq_getElem (l:=prs) (i:=a) (by omega)
   rw [List.getD_eq_getElem?_getD,e] at hj
   exact ⟨pj,by rw [e]; exact congrArg some hj⟩
  have rhoE:∀ (a:Nat) (pj:Nat × Option Str),prs[a]?=some (some pj)→rho (dn prs) a=pj.1:=fun a pj e=>by
   unfold rho
   rw [zagt,List.getD_eq_getElem?_getD,e]; rfl
  refine zaa6 (fun σ H'=>∃ sl,Ch [] H5 H'∧Ch [] HT H'∧H' sl=some (.lst (g.feeds.map fun a=>nV (rho (dn prs) a)))∧σ=[some (.ref nt),some (.ref st),some (.ref ll),some (.ref ql),some (.ref gl),some (.ref f2),some (.ref f3),u,v,some (.ref p),some (.ref pa),some (.ref fl),some (.ref sl),w5]) ?_ ?_
  ·walk_at "rd"
   refine zadg (g.feeds.map nV) (fun j ys σ H'=>H'=H7∧ys=(g.feeds.take j).map (fun a=>nV (rho (dn prs) a))∧∃ u,σ=[u,some (.ref ql)]) (by rw [List.length_map,sizeLine_eq]; have:=zac5 g; omega) ⟨rfl,rfl,_,rfl⟩ ?_ ?_ ?_
   ·rintro j ys σ H' hj ⟨rfl,rfl,_⟩
    refine ⟨?_,SqL.of gl7⟩
    rw [List.length_map] at hj
    rw [List.length_map,List.length_take]
    omega
   ·rintro j ys σ H' x hx' ⟨rfl,rfl,u,rfl⟩
    rw [List.getElem?_map] at hx'
    obtain ⟨n,en,rfl⟩:=Option.map_eq_some_iff.mp hx'
    obtain ⟨pn,epn⟩:=fsome n (List.mem_of_getElem? en)
    obtain ⟨an,ean,han⟩:=tk7 n pn epn
    have at1:=zab4 ean
    have er:=rhoE n pn epn
    clear bad good
    unfold nV at *
    walk_at "rd"
    refine ⟨?_,_,rfl⟩
    rw [List.take_add_one,en,List.map_append]
    show _=_++[V.int ((rho (dn prs) n:Nat):Int)]
    rw [er]
   ·rintro ys σ H' ⟨rfl,rfl,_⟩
    rw [List.length_map,List.take_length]
    intro D2 hD2
    exact ⟨D2,c7.trans (Ch.new hD2 _),d7.trans (Ch.new hD2 _),zaai,rfl⟩
  clear cD gD pz c7 d7 gl7 hz ez hq7 tk7
  rintro σ H8 ⟨sl,c8,d8,gs8,rfl⟩
  have hp8:=d8.get hp2 (by simp)
  have ha8:=d8.get ha1 (by simp)
  have ga8:=ga6.ch c8
  have lr:∀ a∈g.feeds,rho (dn prs) a < sg.length:=fun a ha=>by
   obtain ⟨pn,epn⟩:=fsome a ha
   rw [rhoE a pn epn]
   have:=sh.lt pn (List.mem_of_getElem? epn)
   rw [List.append_nil] at this
   exact this
  obtain ⟨t,et⟩:∃ t,sg[it]?=some t:=⟨_,List.getElem?_eq_getElem li⟩
  obtain ⟨xs8,pt8,hg8,at8,hpt8,lx8⟩:=ga8.at et
  have sct:=Gt.vs_sca t
  refine zaa6 (fun σ H'=>∃ b1,Ch [] H5 H'∧Ch [] HT H'∧Ch [] H8 H'∧(g.isKeep=true→b1=phB sg (rho (dn prs)) it sw g)∧σ=[some (.ref nt),some (.ref st),some (.ref ll),some (.ref ql),some (.ref gl),some (.ref f2),some (.ref f3),u,v,some (.ref p),some (.ref pa),some (.ref fl),some (.ref sl),some (.bl b1)]) ?_ ?_
  ·have scg:ScaL (V.str g.wd :: rs):=by rw [← ev]; exact Gt.vs_sca g
   have sc3:ScaL (cutV (V.str g.wd :: rs) none (some 2)++g.feeds.map fun a=>nV (rho (dn prs) a)):=⟨fun z hz=>by
    rcases List.mem_append.mp hz with h | h
    ·exact scg.h z (List.mem_of_mem_drop (List.mem_of_mem_take h))
    ·obtain ⟨a,_,rfl⟩:=List.mem_map.mp h
     exact .inl ⟨_,rfl⟩⟩
   have l3:(cutV (V.str g.wd :: rs) none (some 2)).length + (g.feeds.map fun a=>nV (rho (dn prs) a)).length≤sizeLine:=by
    have:=zac5 g
    rw [List.length_map,sizeLine_eq]
    have h1:(cutV (V.str g.wd :: rs) none (some 2)).length≤(V.str g.wd :: rs).length:=by
     unfold cutV
     rw [List.length_take,List.length_drop]; omega
    have h2:(V.str g.wd :: rs).length≤4:=by rw [← ev]; cases g <;> simp [Gt.vs]
    omega
   walk_at "rd"
   refine ite2 (fun ez=>?_) (fun ez=>?_)
   ·have hw:=zabz ez
    walk_at "rd"
    refine ⟨?_,rfl⟩
    intro ek
    cases g with
    | keep ff a =>
     cases ev
     show _=(decide (sw=Str.ofString "keep") && decide (sg[it]?=some (.keep ff (rho (dn prs) a))))
     rw [decide_eq_true hw,Bool.true_and,zabr et]
     rfl
    | _=>cases ek
   ·have hw:=zabm ez
    refine ⟨_,c8,d8,Ch.refl _ _,fun ek=>?_,rfl⟩
    cases g with
    | keep ff a =>
     show _=(decide (sw=Str.ofString "keep") && _)
     rw [decide_eq_false hw,Bool.false_and]
    | _=>cases ek
  rintro σ H9 ⟨b1,c9,d9,e89,hb1,rfl⟩
  have hp9:=d9.get hp2 (by simp)
  have ha9:=d9.get ha1 (by simp)
  have ga9:=ga6.ch c9
  have gs9:=e89.get gs8 (by simp)
  refine zaa6 (fun σ H'=>∃ b1,Ch [] H5 H'∧b1=phB sg (rho (dn prs)) it sw g∧σ=[some (.ref nt),some (.ref st),some (.ref ll),some (.ref ql),some (.ref gl),some (.ref f2),some (.ref f3),u,v,some (.ref p),some (.ref pa),some (.ref fl),some (.ref sl),some (.bl b1)]) ?_ ?_
  ·walk_at "rd"
   rw [hk]
   cases ek:g.isKeep with
   | true=>exact iteF ⟨_,c9,hb1 ek,rfl⟩
   | false =>
    refine iteT ?_
    have gsr:H9 sl=some (.lst ((g.ren (rho (dn prs))).feeds.map nV)):=by rw [zahn,List.map_map]; exact gs9
    have hp9r:H9 p=some (.tup (.str (g.ren (rho (dn prs))).wd :: rs)):=by rw [zark]; exact hp9
    clear hp9 gs9
    have sr:(g.ren (rho (dn prs))).src=false:=by rw [zao6]; cases g <;> first | rfl | (cases ek; done) | exact absurd rfl ni
    have lr2:∀ a∈(g.ren (rho (dn prs))).feeds,a < sg.length:=fun a ha=>by
     rw [zahn] at ha
     obtain ⟨b,hb,rfl⟩:=List.mem_map.mp ha
     exact lr b hb
    clear good bad
    walk_at "rd"
    rw [zarj ek]
    rfl
  rintro σ H10 ⟨b1,c10,hb,rfl⟩
  walk_at "rd"
  cases b1 with
  | true=>exact iteF ⟨c10,good hb.symm,_,_,_,_,_,rfl⟩
  | false =>
   rw [bad hb.symm] at q
   exact iteT (q _ (cH5.trans c10))
 ·rintro σ H' ⟨c,bx,w1,w2,w3,w4,w5,rfl⟩
  rw [lx,lq,lp,Nat.min_self] at bx
  have b:ghB net sg prs=true:=zads fun i n m e1 e2=>bx.h i n m (List.getElem?_eq_some_iff.mp e1).1 e1 e2
  rw [b] at q
  clear bx
  walk_at "rd"
  exact q _ (cH5.trans c)
end
end

section
local macro_rules | `(tactic| walk_at "user")=>`(tactic| first
 | (apply zajb; walk_at "get"))
theorem PrT.nil {H:Hp}:PrT H [] []:=⟨.nil,fun i p e=>by simp at e,fun p h=>by cases h⟩
theorem PrT.push {H:Hp}{prs:Prs}{qs:List V}{a:Addr}{n:Nat}{s:Str} (h:PrT H prs qs) (ha:H a=some (.tup [nV n,.str s])):PrT H (prs++[some (n,some s)]) (qs++[.ref a]):=by
 refine ⟨h.pk.push (kd:=.tuple) (p:=(n,some s)) ha rfl,fun i x e=>?_,fun p hp=>?_⟩
 ·rcases zaeg e with ⟨hi,e⟩ | ⟨rfl,e2⟩
  ·obtain ⟨a',h1,h2⟩:=h.tk i x e
   exact ⟨a',by rw [List.getElem?_append_left (by rw [h.pk.len]; exact hi)]; exact h1,h2⟩
  ·cases e2
   exact ⟨a,by rw [← h.pk.len]; simp,ha⟩
 ·rcases List.mem_append.mp hp with z | z
  ·exact h.hw p z
  ·cases List.mem_singleton.mp z; exact ⟨s,rfl⟩
theorem zaed {α:Type}{l:List α}{i j:Nat}{x y:α} (e:(l.set i x)[j]?=some y):(j=i∧y=x∧i < l.length)∨(j≠i∧l[j]?=some y):=by
 by_cases h:j=i
 ·subst h
  have:j < l.length:=by have:=(List.getElem?_eq_some_iff.mp e).1; rw [List.length_set] at this; exact this
  rw [List.getElem?_set_self this] at e
  exact .inl ⟨rfl,by injection e with e; exact e.symm,this⟩
 ·rw [List.getElem?_set_ne (fun z=>h z.symm)] at e
  exact .inr ⟨h,e⟩
theorem PrT.set {H:Hp}{prs:Prs}{qs:List V}{a:Addr}{i n:Nat}{s:Str} (h:PrT H prs qs) (ha:H a=some (.tup [nV n,.str s])):PrT H (prs.set i (some (n,some s))) (qs.set i (.ref a)):=by
 have g:∀ {j},j=i→i < prs.length→(qs.set i (.ref a))[j]?=some (V.ref a):=fun e l=>by rw [e]; exact List.getElem?_set_self (by rw [h.pk.len]; exact l)
 refine ⟨⟨by simp [h.pk.len],fun j p e=>?_,fun j e=>?_⟩,fun j p e=>?_,fun p hp=>?_⟩
 ·rcases zaed e with ⟨e1,e2,l⟩ | ⟨ne,e⟩
  ·cases e2
   exact ⟨a,.tuple,.str s,g e1 l,ha,rfl⟩
  ·obtain ⟨a',kd,v,h1,h2,h3⟩:=h.pk.at_ j p e
   exact ⟨a',kd,v,by rw [List.getElem?_set_ne (fun z=>ne z.symm)]; exact h1,h2,h3⟩
 ·rcases zaed e with ⟨_,e2,_⟩ | ⟨ne,e⟩
  ·cases e2
  ·rw [List.getElem?_set_ne (fun z=>ne z.symm)]; exact h.pk.no j e
 ·rcases zaed e with ⟨e1,e2,l⟩ | ⟨ne,e⟩
  ·cases e2
   exact ⟨a,g e1 l,ha⟩
  ·obtain ⟨a',h1,h2⟩:=h.tk j p e
   exact ⟨a',by rw [List.getElem?_set_ne (fun z=>ne z.symm)]; exact h1,h2⟩
 ·rcases List.mem_or_eq_of_mem_set hp with z | z
  ·exact h.hw p z
  ·cases z; exact ⟨s,rfl⟩
theorem PrT.setN {H:Hp}{prs:Prs}{qs:List V}{i:Nat} (h:PrT H prs qs):PrT H (prs.set i none) (qs.set i .non):=by
 refine ⟨⟨by simp [h.pk.len],fun j p e=>?_,fun j e=>?_⟩,fun j p e=>?_,fun p hp=>?_⟩
 ·rcases zaed e with ⟨_,e2,_⟩ | ⟨ne,e⟩
  ·cases e2
  ·obtain ⟨a',kd,v,h1,h2,h3⟩:=h.pk.at_ j p e
   exact ⟨a',kd,v,by rw [List.getElem?_set_ne (fun z=>ne z.symm)]; exact h1,h2,h3⟩
 ·rcases zaed e with ⟨e1,_,l⟩ | ⟨ne,e⟩
  ·rw [e1]; exact List.getElem?_set_self (by rw [h.pk.len]; exact l)
  ·rw [List.getElem?_set_ne (fun z=>ne z.symm)]; exact h.pk.no j e
 ·rcases zaed e with ⟨_,e2,_⟩ | ⟨ne,e⟩
  ·cases e2
  ·obtain ⟨a',h1,h2⟩:=h.tk j p e
   exact ⟨a',by rw [List.getElem?_set_ne (fun z=>ne z.symm)]; exact h1,h2⟩
 ·rcases List.mem_or_eq_of_mem_set hp with z | z
  ·exact h.hw p z
  ·cases z
theorem zans {n j:Nat} (h:j < n):ixN n (j:Int)=some j:=by
 unfold ixN
 rw [if_pos (by omega),if_pos (by omega)]
 simp
theorem PrT.erase {H:Hp}{prs:Prs}{qs:List V}{i:Nat} (h:PrT H prs qs):PrT H (prs.eraseIdx i) (qs.eraseIdx i):=by
 have g:∀ {j:Nat}{x:Option (Nat × Option Str)},(prs.eraseIdx i)[j]?=some x→∃ j',prs[j']?=some x∧(qs.eraseIdx i)[j]?=qs[j']?:=fun {j x} e=>by
  rw [List.getElem?_eraseIdx] at e ⊢
  by_cases z:j < i
  ·rw [if_pos z] at e ⊢; exact ⟨_,e,rfl⟩
  ·rw [if_neg z] at e ⊢; exact ⟨_,e,rfl⟩
 refine ⟨⟨by rw [List.length_eraseIdx,List.length_eraseIdx,h.pk.len],fun j p e=>?_,fun j e=>?_⟩,fun j p e=>?_,fun p hp=>h.hw p (List.mem_of_mem_eraseIdx hp)⟩
 ·obtain ⟨j',e1,e2⟩:=g e
  rw [e2]; exact h.pk.at_ j' p e1
 ·obtain ⟨j',e1,e2⟩:=g e
  rw [e2]; exact h.pk.no j' e1
 ·obtain ⟨j',e1,e2⟩:=g e
  rw [e2]; exact h.tk j' p e1
theorem PrT.imp {H H':Hp}{prs:Prs}{qs:List V} (h:PrT H prs qs) (t:Tu H H'):PrT H' prs qs:=by
 refine ⟨⟨h.pk.len,fun i p e=>?_,h.pk.no⟩,fun i p e=>let ⟨a,x,y⟩:=h.tk i p e; ⟨a,x,t _ _ y⟩,h.hw⟩
 obtain ⟨a,x,y⟩:=h.tk i p e
 obtain ⟨s,hs⟩:=h.hw p (List.mem_of_getElem? e)
 rw [hs] at y ⊢
 exact ⟨a,.tuple,.str s,x,t _ _ y,rfl⟩
section
variable {P:Program}{w:World}{K:PySem.W.Frag}{mg:Str→Option Value}{base:Heap}{f:Addr}{fd:FuncData}{k:Nat}
theorem zafw:Nd "small_holds" := by decide +kernel
structure SHc (CN:Addr) (vs:List V) (H:Hp) (Q:VK):Prop where
 ex:spSH CN vs H Q (fun _ _ _=>False)∨spSX1 CN vs H Q (fun _ _ _=>False)∨spSX2 CN vs H Q (fun _ _ _=>False)∨spSX3 CN vs H Q (fun _ _ _=>False)
def spSHc (CN:Addr):Sp:=fun vs H Q _=>SHc CN vs H Q
theorem zarm {CN:Addr}{ps:List Str} (h0:FnOk P w K mg base CX0 k f fd ps (spSH CN)) (h1:FnOk P w K mg base CX0 k f fd ps (spSX1 CN)) (h2:FnOk P w K mg base CX0 k f fd ps (spSX2 CN)) (h3:FnOk P w K mg base CX0 k f fd ps (spSX3 CN)):FnOk P w K mg base CX0 k f fd ps (spSHc CN) :=
 FnOk.or (s1:=spSH CN) (s2:=fun vs H Q E=>spSX1 CN vs H Q E∨spSX2 CN vs H Q E∨spSX3 CN vs H Q E) h0 (FnOk.or h1 (FnOk.or (s3:=fun vs H Q E=>spSX2 CN vs H Q E∨spSX3 CN vs H Q E) h2 h3 fun _ _ _ _ h=>h) fun _ _ _ _ h=>h) fun _ _ _ _ h=>h.ex
theorem av37:AF (defScope (top 37)) ["_law_net_here", "_law_small", "_law_paper", "_law_due", "_law_found"]:=⟨by decide +kernel⟩
theorem gl37:AG (defScope (top 37)) ["small_holds", "isinstance", "bool"]:=⟨by decide +kernel⟩
def spSaid (CN:Addr):Sp:=fun vs H Q _=>∃ (n s p:V) (due:Bool),vs=[n,s,p,.bl due]∧Box (∀ R:VK,(∀ H',Ch [] H H'→R (.bl due) H')→SHc CN [n,s,p] H R)∧∀ (H':Hp),Ch [] H H'→Q (.bl true) H'
theorem scSaid:FnScope ["_law_net_here", "_law_small", "_law_paper", "_law_due", "_law_found"] ["_law_net_here", "_law_small", "_law_paper", "_law_due"] (defScope (top 37)):=⟨rfl,rfl,rfl,by decide +kernel,rfl,by decide +kernel,by decide +kernel⟩
theorem zapl {CN:Addr} (F:Fun K "_law_said" "_law_said" (top 37) f fd) (Dsmall_holds:DefOk P w K mg base CX0 k "small_holds" ["net", "small", "paper"] (spSHc CN)) (z_isinstance:mg "isinstance" = none) (z_bool:mg "bool" = none):FnOk P w K mg base CX0 (k + 1) f fd ["_law_net_here", "_law_small", "_law_paper", "_law_due"] (spSaid CN):=by
 have nd:=scSaid.nd
 refine F.ok scSaid (fun vs H Q E h=>by obtain ⟨n,s,p,due,rfl,_⟩:=h; rfl) (fun cdv A outer s0 H vs Q E hr h=>?_)
 obtain ⟨n,s,p,due,rfl,⟨sh⟩,q⟩:=h
 refine ⟨_,(Pr.h (zaaf (zaat (i:=4) nd rfl (av37.l 4 rfl) (zaah Dsmall_holds hr (gl37.g 0 rfl) pass0 (zaaa (qv av37 0 rfl) (zaaa (qv av37 1 rfl) (zaaa (qv av37 2 rfl) zaab zaac) zaac) zaac) zafw)) (zaag (zaal (zaaw (zaap zac0 (gl37.g 1 rfl) z_isinstance zabj (zaaa (qv av37 4 rfl) (zaaa (zach (v:=.ty "bool") (gl37.g 2 rfl) z_bool zagi rfl zagj zagk) zaab)) zabk zabl) (zaau (zaar zaa3 (qv av37 4 rfl) (qv av37 3 rfl) (nomark _)))))))),?_⟩
 (try dsimp only [cxOf])
 walk_at "rd"
 refine sh _ fun H1 c1=>?_
 walk_at "rd"
 rw [decide_eq_true rfl]
 exact q _ c1
theorem av38:AF (defScope (top 38)) ["_law_gates", "_law_whys"]:=⟨by decide +kernel⟩
theorem gl38:AG (defScope (top 38)) ["enumerate"]:=⟨by decide +kernel⟩
def zaim:Scope:={ kind:=PySem.ScopeKind.function,names:=[ (PySem.Str.ofString ".0",PySem.NameKind.local),(PySem.Str.ofString "_law_k",PySem.NameKind.local),(PySem.Str.ofString "_law_gate",PySem.NameKind.local),(PySem.Str.ofString "_law_whys",PySem.NameKind.free)],isGenerator:=false,isCoroutine:=false,more:=[]:PySem.Scope }
theorem zain:CompOk zaim (defScope (top 38)) (["_law_k", "_law_gate"]:List Str) (["_law_gates", "_law_whys"]:List Str) [1] (["_law_k", "_law_gate", "_law_whys"]:List Str):=compOk rfl (by decide +kernel) (by decide +kernel) (by decide +kernel) (by decide +kernel) rfl (by decide +kernel)
theorem zagw:AK (relab zaim (defScope (top 38))) ["_law_k", "_law_gate"]:=⟨by decide +kernel⟩
theorem zaio:AV (relab zaim (defScope (top 38))) ["_law_k", "_law_gate", "_law_whys"]:=⟨by decide +kernel⟩
def whyOf:Gt→Str
 | .inp => "in"
 | .keep _ _ => "keep"
 | _ => "same"
def whyD:List (Key × V):=[(.inr "in",.str "in"),(.inr "keep",.str "keep")]
theorem zapm (g:Gt):(valV whyD (.inr g.wd)).getD (.str "same")=.str (whyOf g):=by
 cases g <;> simp only [Gt.wd,whyOf] <;> decide +kernel
def prsOf (gs:List Gt):Prs:=gs.mapIdx fun i g=>some (i,some (whyOf g))
def spPrs:Sp:=fun vs H Q _=>∃ (gl:Addr) (xs:List V) (gs:List Gt),vs=[.ref gl]∧H gl=some (.lst xs)∧Gs H gs xs∧gs.length≤1000∧∀ (r:Addr) (qs:List V) (H':Hp),Ch [] H H'→H r=none→H' r=some (.lst qs)→PrT H' (prsOf gs) qs→Q (.ref r) H'
theorem scPrs:FnScope ["_law_gates", "_law_whys"] ["_law_gates"] (defScope (top 38)):=⟨rfl,rfl,rfl,by decide +kernel,rfl,by decide +kernel,by decide +kernel⟩
theorem zarn (F:Fun K "_law_pairs" "_law_pairs" (top 38) f fd) (z_enumerate:mg "enumerate" = none):FnOk P w K mg base CX0 (k + 1) f fd ["_law_gates"] spPrs:=by
 have nd:=scPrs.nd
 refine F.ok scPrs (fun vs H Q E h=>by obtain ⟨gl,xs,gs,rfl,_⟩:=h; rfl) (fun cdv A outer s0 H vs Q E hr h=>?_)
 obtain ⟨gl,xs,gs,rfl,hg,gg,lg,q⟩:=h
 have hu:=zahz hr
 have lx:xs.length=gs.length:=gg.len
 refine ⟨_,(Pr.h (zaaf (zaat (i:=1) nd rfl (av38.l 1 rfl) (zaex (zacl zaaj zaaj (zacl zaaj zaaj zaew)) rfl rfl (by intro z; cases z) (by decide))) (zaag (zaal (zadq rfl zain (zage .list (gl38.g 0 rfl) z_enumerate (zaaa (qv av38 0 rfl) zaab zaac)) (fun _ _ _ _ _=>(zai4 K 2 rfl rfl (zabd (zaa1 (i:=0) zain.nd rfl (Or.inl (zagw.k 0 rfl)) (Or.inr (zagw.k 0 rfl))) (zabd (zaa1 (i:=1) zain.nd rfl (Or.inl (zagw.k 1 rfl)) (Or.inr (zagw.k 1 rfl))) zacn)))) (fun _ _ _ _ _=>zac7) (fun _ _ _ _ _=>(zaay (zaaa (qw zaio 0 rfl) (zaaa (zahh hu (qw zaio 2 rfl) (zaao (zaef K rfl) (qw zaio 1 rfl) zaae (fun _ _=>rfl)) zaaj ⟨rfl,rfl,rfl,rfl⟩) zaab zab0) zaac)))))))),?_⟩
 (try dsimp only [cxOf])
 walk_at "rd"
 rename_i d hd
 refine ⟨(show _=List.map (fun kv=>(kV kv.1,kv.2)) whyD from rfl),(by decide),?_⟩
 rw [show mergeK [] whyD=whyD from rfl]
 have c1:Ch [] H (upd (upd H d (.dK [])) d (.dK whyD)):=Ch.own hd (Ch.new hd _)
 have g1:(upd (upd H d (.dK [])) d (.dK whyD)) d=some (.dK whyD):=zaai
 generalize upd (upd H d (.dK [])) d (.dK whyD)=H1 at c1 g1 ⊢
 have hg1:=c1.get hg (by simp)
 walk_at "rd"
 refine zahg xs (fun i ys σ H'=>Ch [] H1 H'∧PrT H' (prsOf (gs.take i)) ys∧∃ u v,σ=[u,v,some (.ref d)]) (by rw [sizeLine_eq]; omega) ⟨Ch.refl _ _,.nil,_,_,rfl⟩ ?_ ?_ ?_
 ·rintro i ys σ H' hi ⟨c,pt,_⟩
  refine ⟨?_,SqL.of (c.get hg1 (by simp))⟩
  rw [pt.pk.len]
  simp [prsOf,List.length_take]
  omega
 ·rintro i ys σ H' x T hx ⟨c,pt,u,v,rfl⟩ hT
  have li:i < gs.length:=by rw [← lx]; exact (List.getElem?_eq_some_iff.mp hx).1
  obtain ⟨g,eg⟩:∃ g,gs[i]?=some g:=⟨_,List.getElem?_eq_getElem li⟩
  obtain ⟨p,ep,hp⟩:=gg.at_ i g eg
  rw [hx] at ep
  cases ep
  obtain ⟨rs,ev⟩:=zam3 g
  rw [ev] at hp
  have cT:=Ch.new (W:=[]) hT (.tup [.int (i:Int),.ref p])
  have hT1:upd H' T (.tup [.int (i:Int),.ref p]) T=_:=zaai
  have cc:=c.trans cT
  have pt1:=pt.ch cT
  generalize upd H' T (.tup [.int (i:Int),.ref p])=HT at cT hT1 cc pt1 ⊢
  have hp1:=cc.get (c1.get hp (by simp)) (by simp)
  have gd1:=cc.get g1 (by simp)
  have isd:IsD HT d:=.inl ⟨_,.inl gd1⟩
  walk_at "rd"
  rw [zapm]
  rename_i T2 hT2
  have eq:prsOf (gs.take (i + 1))=prsOf (gs.take i)++[some (i,some (whyOf g))]:=by
   unfold prsOf
   rw [List.take_add_one,eg]
   show List.mapIdx _ (gs.take i++[g])=_
   rw [List.mapIdx_concat,List.length_take,Nat.min_eq_left (Nat.le_of_lt li)]
  rw [eq]
  exact ⟨(pt1.ch (Ch.new hT2 _)).push zaai,_,_,rfl⟩
 rintro ys σ H' ⟨c,pt,_⟩
 rw [lx,List.take_length] at pt
 intro D hD
 have cD:=c1.trans (c.trans (Ch.new hD (.lst ys)))
 exact q D ys _ cD (chFree (c1.trans c) hD) zaai (pt.ch (Ch.new hD _))
theorem av39:AF (defScope (top 39)) ["_law_pairs_here", "_law_m", "_law_made", "_law_k"]:=⟨by decide +kernel⟩
theorem gl39:AG (defScope (top 39)) ["list", "len"]:=⟨by decide +kernel⟩
structure AllP (prs:Prs):Prop where
 a:∀ i,i < prs.length→∃ n s,prs[i]?=some (some (n,some s))∧n < prs.length
 n0:0 < prs.length
 l:prs.length≤1000
def spBp:Sp:=fun vs H Q _=>∃ (ql:Addr) (m:Int) (prs:Prs) (qs:List V),vs=[.ref ql,.int m]∧H ql=some (.lst qs)∧PrT H prs qs∧AllP prs∧0≤m∧m < 2 ^ 60∧∀ (r:Addr) (prs':Prs) (qs':List V) (H':Hp),Ch [] H H'→H r=none→H' r=some (.lst qs')→PrT H' prs' qs'→prs'.length≤prs.length + 1→(∀ p,some p∈prs'→p.1 < prs.length)→Q (.ref r) H'
theorem scBp:FnScope ["_law_pairs_here", "_law_m", "_law_made", "_law_k"] ["_law_pairs_here", "_law_m"] (defScope (top 39)):=⟨rfl,rfl,rfl,by decide +kernel,rfl,by decide +kernel,by decide +kernel⟩
theorem zasn (F:Fun K "_law_bent_pairs" "_law_bent_pairs" (top 39) f fd) (z_len:mg "len" = none) (z_list:mg "list" = none):FnOk P w K mg base CX0 (k + 1) f fd ["_law_pairs_here", "_law_m"] spBp:=by
 have nd:=scBp.nd
 refine F.ok scBp (fun vs H Q E h=>by obtain ⟨ql,m,prs,qs,rfl,_⟩:=h; rfl) (fun cdv A outer s0 H vs Q E hr h=>?_)
 obtain ⟨ql,m,prs,qs,rfl,hql,pt,ap,m0,m1,q⟩:=h
 have hu:=zahz hr
 refine ⟨_,(Pr.h (zaaf (zaat (i:=2) nd rfl (av39.l 2 rfl) (zabg zab9 (gl39.g 0 rfl) z_list zadi (zaaa (qv av39 0 rfl) zaab zaac) zadj zadk)) (zaaz (zaat (i:=3) nd rfl (av39.l 3 rfl) (zaav zabn (zaav zab3 (qv av39 1 rfl) zaae) (zaap zaam (gl39.g 1 rfl) z_len PySem.boot_len (zaaa (qv av39 2 rfl) zaab zaac) zabb zabc))) (zaaz (zaax (zaak zajf (zaav zabn (qv av39 1 rfl) zaae) zaae (nomark _)) (zaag (zac4 zabv (zad8 (qv av39 2 rfl) (qv av39 3 rfl) zadm))) (zaag (zaax (zaak zajf (zaav zabn (qv av39 1 rfl) zaae) zaae (nomark _)) (zaag (zac4 (zaay (zaaa (zaav zabn (zaav zab3 (qv av39 1 rfl) zaae) (zaap zaam (gl39.g 1 rfl) z_len PySem.boot_len (zaaa (qv av39 2 rfl) zaab zaac) zabb zabc)) (zaaa (zaao zaa9 (zaao zaaq (qv av39 2 rfl) (qv av39 3 rfl) (fun _ _=>rfl)) zaae (fun _ _=>rfl)) zaab zaas) zabh)) (zad8 (qv av39 2 rfl) (qv av39 3 rfl) zadm))) (zaag (zaax (zaak zaa3 (zaav zabn (qv av39 1 rfl) zaae) zaae (nomark _)) (zaag (zac4 (zaay (zaaa (zaao zaa9 (zaao zaaq (qv av39 2 rfl) (qv av39 3 rfl) (fun _ _=>rfl)) zaae (fun _ _=>rfl)) (zaaa (zaao zaaq (zaa0 (zaaa zaaj (zaaa zaaj (zaaa zaaj (zaaa zaaj (zaaa zaaj (zaaa zaaj zaab zaad) zaad) zaad) zaad) zaad) zaad)) (zaav zabn (zaav zab3 (qv av39 1 rfl) zaae) zaae) (fun _ _=>rfl)) zaab zaas) zaas)) (zad8 (qv av39 2 rfl) (qv av39 3 rfl) zadm))) (zaag (zaax (zaak zaa3 (zaav zabn (qv av39 1 rfl) zaae) zaae (nomark _)) (zaag (zado (zae7 PySem.F.plainAttrs_list PySem.F.slot_list_pop PySem.F.type_list_pop zamj (qv av39 2 rfl) (zaaa (qv av39 3 rfl) zaab zaac)))) (zaag (zado (zae7 PySem.F.plainAttrs_list PySem.F.slot_list_append PySem.F.type_list_append zade (qv av39 2 rfl) (zaaa (zaao zaaq (qv av39 2 rfl) (qv av39 3 rfl) (fun _ _=>rfl)) zaab zaas))))))))))) (zaag (zaal (qv av39 2 rfl))))))),?_⟩
 (try dsimp only [cxOf])
 have lq:=pt.pk.len
 have n0:1≤prs.length:=ap.n0
 have l1:=ap.l
 have k0:=Int.emod_nonneg (m / 8) (b:=(qs.length:Int)) (by omega)
 have k1:=Int.emod_lt_of_pos (m / 8) (b:=(qs.length:Int)) (by omega)
 walk_at "rd"
 rename_i l hl
 have cL:=Ch.new (W:=[]) hl (.lst qs)
 have gl:upd H l (.lst qs) l=some (.lst qs):=zaai
 generalize upd H l (.lst qs)=H1 at cL gl ⊢
 obtain ⟨kk,ek⟩:∃ kk:Nat,m / 8 % (qs.length:Int)=kk:=⟨_,(Int.toNat_of_nonneg k0).symm⟩
 have lk:kk < prs.length:=by omega
 refine zaa6 (fun σ H'=>H'=H1∧σ=[some (.ref ql),some (.int m),some (.ref l),some (.int (kk:Int))]) ?_ ?_
 ·walk_at "rd"
  show [_,_,_,some (V.int (m / 8 % (qs.length:Int)))]=_
  rw [ek]
 clear k0 k1
 rintro σ H2 ⟨eH,rfl⟩
 subst eH
 have ptL:=pt.ch cL
 obtain ⟨n,sw,ekk,ln⟩:=ap.a kk lk
 obtain ⟨pa,ea,ha⟩:=ptL.tk kk _ ekk
 have ha:H2 pa=some (.tup [nV n,.str sw]):=ha
 have at1:=zab4 ea
 have lb:∀ p,some p∈prs→p.1 < prs.length:=fun p hp=>by
  obtain ⟨i,hi⟩:=List.getElem?_of_mem hp
  obtain ⟨n',s',e',l'⟩:=ap.a i (List.getElem?_eq_some_iff.mp hi).1
  rw [hi] at e'
  cases e'
  exact l'
 have m97:=Int.emod_nonneg (m / 97) (b:=(qs.length:Int)) (by omega)
 have n97:=Int.emod_lt_of_pos (m / 97) (b:=(qs.length:Int)) (by omega)
 obtain ⟨n2,en2⟩:∃ n2:Nat,m / 97 % (qs.length:Int)=n2:=⟨_,(Int.toNat_of_nonneg m97).symm⟩
 have six:=Int.emod_nonneg (m / 97) (b:=6) (by omega)
 have six2:=Int.emod_lt_of_pos (m / 97) (b:=6) (by omega)
 refine zaa6 (fun σ H'=>∃ (prs':Prs) (qs':List V),Ch [] H H'∧H' l=some (.lst qs')∧PrT H' prs' qs'∧prs'.length≤prs.length + 1∧(∀ p,some p∈prs'→p.1 < prs.length)∧σ=[some (.ref ql),some (.int m),some (.ref l),some (.int (kk:Int))]) ?_ ?_
 ·have kz:ixN qs.length (kk:Int)=some kk:=zans (by omega)
  have ow:∀ {J:Hp} (X:List V),Ch [] H2 J→Ch [] H (upd J l (.lst X)):=fun X c=>Ch.own hl (cL.trans c)
  have tu:∀ {J:Hp} (X:List V),J l=some (.lst qs)→Tu J (upd J l (.lst X)):=fun X g=>Tu.ch Ch.put g (fun xs z=>by cases z)
  have ha':H2 pa=some (.tup [V.int (n:Int),.str sw]):=ha
  walk_at "rd"
  refine ite2 (fun h1=>?_) (fun h1=>?_)
  ·walk_at "rd"
   refine ⟨(ptL.setN (i:=kk)).imp (tu _ gl),by rw [List.length_set]; omega,fun p hp=>?_,rfl⟩
   rcases List.mem_or_eq_of_mem_set hp with z | z
   ·exact lb p z
   ·cases z
  walk_at "rd"
  refine ite2 (fun h2=>?_) (fun h2=>?_)
  ·walk_at "rd"
   rename_i T hT
   have eT:(upd H2 T (.tup [V.int (m / 97 % (qs.length:Int)),V.str sw])) T=some (.tup [nV n2,.str sw]):=by rw [zaai,en2]; rfl
   have cT:=Ch.new (W:=[]) hT (.tup [V.int (m / 97 % (qs.length:Int)),V.str sw])
   refine ⟨((ptL.ch cT).set (i:=kk) eT).imp (tu _ (cT.get gl (by simp))),by rw [List.length_set]; omega,fun p hp=>?_,rfl⟩
   rcases List.mem_or_eq_of_mem_set hp with z | z
   ·exact lb p z
   ·cases z
    show n2 < prs.length
    omega
  walk_at "rd"
  refine ite2 (fun h3=>?_) (fun h3=>?_)
  ·walk_at "rd"
   rename_i p6 h6
   refine Atx.any (by omega) (by show m / 97 % 6 < 6; omega) fun v hv _=>?_
   obtain ⟨s6,rfl⟩:∃ s6,v=.str s6:=by
    have hv:v∈[V.str "same",.str "keep",.str "in",.str "first",.str "turned",.str "zero"]:=hv
    simp only [List.mem_cons,List.not_mem_nil,or_false] at hv
    rcases hv with rfl | rfl | rfl | rfl | rfl | rfl <;> exact ⟨_,rfl⟩
   walk_at "rd"
   rename_i T hT
   have cT:=(Ch.new (W:=[]) h6 (.lst [.str "same",.str "keep",.str "in",.str "first",.str "turned",.str "zero"])).trans (Ch.new hT (.tup [V.int (n:Int),V.str s6]))
   have eT:(upd (upd H2 p6 (.lst [.str "same",.str "keep",.str "in",.str "first",.str "turned",.str "zero"])) T (.tup [V.int (n:Int),V.str s6])) T=some (.tup [nV n,.str s6]):=zaai
   refine ⟨((ptL.ch cT).set (i:=kk) eT).imp (tu _ (cT.get gl (by simp))),by rw [List.length_set]; omega,fun p hp=>?_,rfl⟩
   rcases List.mem_or_eq_of_mem_set hp with z | z
   ·exact lb p z
   ·cases z
    exact ln
  walk_at "rd"
  refine ite2 (fun h4=>?_) (fun h4=>?_)
  ·walk_at "rd"
   refine ⟨(zahy kz).1,?_⟩
   walk_at "rd"
   exact ⟨(ptL.erase (i:=kk)).imp (tu _ gl),by rw [List.length_eraseIdx]; split <;> omega,fun p hp=>lb p (List.mem_of_mem_eraseIdx hp),rfl⟩
  ·walk_at "rd"
   exact ⟨(ptL.push (n:=n) (s:=sw) ha).imp (tu _ gl),by simp,fun p hp=>by
    rcases List.mem_append.mp hp with z | z
    ·exact lb p z
    ·cases List.mem_singleton.mp z
     exact ln,rfl⟩
 rintro σ H2 ⟨prs',qs',c2,g2,pt2,lp2,lb2,rfl⟩
 walk_at "rd"
 exact q l prs' qs' _ c2 hl g2 pt2 lp2 lb2
end
end

section
section
variable {P:Program}{w:World}{K:PySem.W.Frag}{mg:Str→Option Value}{base:Heap}{f:Addr}{fd:FuncData}{k:Nat}
theorem zabq:Nd "_law_next" := by decide +kernel
theorem zaro:bootBuiltins "max" = some (.builtin "max"):=by decide +kernel
theorem zarp:("max" : Str) ≠ "__name__" := by decide +kernel
theorem zarq:Nd "max" := by decide +kernel
theorem zant:bootBuiltins "min" = some (.builtin "min"):=by decide +kernel
theorem zanu:("min" : Str) ≠ "__name__" := by decide +kernel
theorem zanv:Nd "min" := by decide +kernel
structure NS (H0 H':Hp) (b gl:Addr) (c B:Int) (gs:List Gt) (xs:List V) (ins:Nat):Prop where
 ch:Ch [b] H0 H'
 at_:∃ c',H' b=some (.lst [.int c'])∧c≤c'∧c'≤c + B
 gl:H' gl=some (.lst xs)
 gg:Gs H' gs xs
 ok:Oks gs
 ci:gs.countP Gt.isIn=ins
 lo:∀ i,i < ins→gs[i]?=some .inp
theorem NS.bump {H0 H' H1:Hp}{b gl:Addr}{c c' B:Int}{gs:List Gt}{xs:List V}{ins:Nat} (n:NS H0 H' b gl c B gs xs ins) (nb:gl≠b) (hb:H' b=some (.lst [.int c'])) (c1:Ch [b] H' H1) (hb1:H1 b=some (.lst [.int (c' + 1)])):NS H0 H1 b gl c (B + 1) gs xs ins:=by
 obtain ⟨c'',h1,h2,h3⟩:=n.at_
 rw [hb] at h1
 injection h1 with h1; injection h1 with h1; injection h1 with h1 _; injection h1 with h1
 subst h1
 exact ⟨n.ch.trans c1,⟨c' + 1,hb1,by omega,by omega⟩,c1.get n.gl (by simpa using nb),n.gg.tu (Tu.lst c1 hb),n.ok,n.ci,n.lo⟩
theorem NS.wk {H0 H':Hp}{b gl:Addr}{c B B':Int}{gs:List Gt}{xs:List V}{ins:Nat} (n:NS H0 H' b gl c B gs xs ins) (h:B≤B'):NS H0 H' b gl c B' gs xs ins:=by
 obtain ⟨c'',h1,h2,h3⟩:=n.at_
 exact ⟨n.ch,⟨c'',h1,h2,by omega⟩,n.gl,n.gg,n.ok,n.ci,n.lo⟩
theorem NS.same {H0 H' H1:Hp}{b gl:Addr}{c B:Int}{gs:List Gt}{xs:List V}{ins:Nat} (n:NS H0 H' b gl c B gs xs ins) (c1:Ch [] H' H1):NS H0 H1 b gl c B gs xs ins:=by
 obtain ⟨c'',h1,h2,h3⟩:=n.at_
 exact ⟨n.ch.trans (Ch.wk c1),⟨c'',c1.get h1 (by simp),h2,h3⟩,c1.get n.gl (by simp),n.gg.tu (Tu.same c1),n.ok,n.ci,n.lo⟩
theorem NS.push {H0 H':Hp}{b gl p:Addr}{c B:Int}{gs:List Gt}{xs:List V}{ins:Nat}{g:Gt} (n:NS H0 H' b gl c B gs xs ins) (nb:gl≠b) (fg:H0 gl=none) (hp:H' p=some (.tup g.vs)) (hg:g.ok gs.length (gs.length + 1)) (hi:g.isIn=false):NS H0 (upd H' gl (.lst (xs++[.ref p]))) b gl c B (gs++[g]) (xs++[.ref p]) ins:=by
 obtain ⟨c'',h1,h2,h3⟩:=n.at_
 refine ⟨Ch.own fg n.ch,⟨c'',zahe nb.symm h1,h2,h3⟩,zaai,n.gg.push n.gl hp,n.ok.push hg,?_,fun i h=>?_⟩
 ·rw [List.countP_append,n.ci]; simp [hi]
 ·have:=n.lo i h
  rw [List.getElem?_append_left (List.getElem?_eq_some_iff.mp this).1]; exact this
theorem NS.set {H0 H':Hp}{b gl p:Addr}{c B:Int}{gs:List Gt}{xs:List V}{ins j:Nat}{g g0:Gt} (n:NS H0 H' b gl c B gs xs ins) (nb:gl≠b) (fg:H0 gl=none) (hp:H' p=some (.tup g.vs)) (hj:gs[j]?=some g0) (hg:g.ok j gs.length) (hi:g0.isIn=g.isIn) (hl:ins≤j):NS H0 (upd H' gl (.lst (xs.set j (.ref p)))) b gl c B (gs.set j g) (xs.set j (.ref p)) ins:=by
 obtain ⟨c'',h1,h2,h3⟩:=n.at_
 refine ⟨Ch.own fg n.ch,⟨c'',zahe nb.symm h1,h2,h3⟩,zaai,n.gg.set n.gl hp,n.ok.set hg,?_,fun i h=>?_⟩
 ·rw [zaf5 hj hi,n.ci]
 ·rw [List.getElem?_set_ne (by omega)]; exact n.lo i h
theorem NS.own {H0 H':Hp}{b gl p:Addr}{c B:Int}{gs:List Gt}{xs ys zs:List V}{ins:Nat} (n:NS H0 H' b gl c B gs xs ins) (f:H0 p=none) (pb:p≠b) (pg:p≠gl) (hp:H' p=some (.lst ys)):NS H0 (upd H' p (.lst zs)) b gl c B gs xs ins:=by
 obtain ⟨c'',h1,h2,h3⟩:=n.at_
 exact ⟨Ch.own f n.ch,⟨c'',zahe pb.symm h1,h2,h3⟩,zahe pg.symm n.gl,n.gg.tu (Tu.lst Ch.put hp),n.ok,n.ci,n.lo⟩
theorem NS.fresh {H0 H':Hp}{b gl p:Addr}{c B c0:Int}{gs:List Gt}{xs:List V}{ins:Nat} (n:NS H0 H' b gl c B gs xs ins) (hb:H0 b=some (.lst [.int c0])) (h:H' p=none):H0 p=none∧p≠b∧p≠gl:=by
 have f:H0 p=none:=by
  cases e:H0 p with
  | none=>rfl
  | some o =>
   by_cases z:p=b
   ·obtain ⟨c9,h9,_⟩:=n.at_
    rw [z,h9] at h; cases h
   ·have:=n.ch.get e (by simpa using z)
    rw [this] at h; cases h
 exact ⟨f,(zaa7 hb f).symm,(zaa7 n.gl h).symm⟩
structure KP (gs:List Gt) (lo hi:Nat):Prop where
 of:∀ j,lo≤j→j < hi→∃ ff a,gs[j]?=some (.keep ff a)
theorem KP.push {gs:List Gt}{lo hi:Nat} (h:KP gs lo hi) (g:Gt):KP (gs++[g]) lo hi:=.mk fun j a b=>by
 obtain ⟨ff,x,e⟩:=h.of j a b
 exact ⟨ff,x,by rw [List.getElem?_append_left (List.getElem?_eq_some_iff.mp e).1]; exact e⟩
theorem KP.more {gs:List Gt}{lo:Nat}{ff:Int}{x:Nat} (h:KP gs lo gs.length):KP (gs++[.keep ff x]) lo (gs.length + 1):=.mk fun j a b=>by
 by_cases e:j < gs.length
 ·exact (h.push _).of j a e
 ·refine ⟨ff,x,?_⟩
  rw [List.getElem?_append_right (by omega),show j - gs.length=0 by omega]; rfl
theorem KP.set {gs:List Gt}{lo hi i:Nat}{ff:Int}{x:Nat} (h:KP gs lo hi):KP (gs.set i (.keep ff x)) lo hi:=.mk fun j a b=>by
 obtain ⟨ff',x',e⟩:=h.of j a b
 rw [List.getElem?_set]
 split
 ·rw [if_pos (by rename_i z; rw [z]; exact (List.getElem?_eq_some_iff.mp e).1)]; exact ⟨_,_,rfl⟩
 ·exact ⟨_,_,e⟩
theorem zaso {m:Int} (h0:0≤m) (h1:m < 10):∃ x∈WS,atI (WS.map V.str) m=some (.str x):=by
 have hk:m.toNat < WS.length:=by show m.toNat < 10; omega
 have e:m=((m.toNat:Nat):Int):=by omega
 refine ⟨WS[m.toNat],List.getElem_mem hk,?_⟩
 have:=zab4 (xs:=WS.map V.str) (j:=m.toNat) (v:=.str WS[m.toNat]) (by rw [List.getElem?_map,List.getElem?_eq_getElem hk]; simp)
 rw [← e] at this
 exact this
structure Below (fs:List Nat) (n:Nat):Prop where
 of:∀ a∈fs,a < n
theorem Below.nil {n:Nat}:Below [] n:=⟨fun a h=>by cases h⟩
theorem Below.snoc {fs:List Nat}{n a:Nat} (h:Below fs n) (ha:a < n):Below (fs++[a]) n:=⟨fun b hb=>by
 rcases List.mem_append.mp hb with h1 | h1
 ·exact h.of b h1
 ·rw [List.mem_singleton.mp h1]; exact ha⟩
def DD:List (Key × V):=[(Sum.inr "zero",.int 0),(Sum.inr "one",.int 0),(Sum.inr "not",.int 1),(Sum.inr "pick",.int 3)]
theorem zarr {x:Str} (hx:x∈WS):(valV (mergeK [] DD) (Sum.inr x)).getD (.int 2)=.int (arW x:Int):=by
 simp only [WS,List.mem_cons,List.not_mem_nil,or_false] at hx
 rcases hx with rfl | rfl | rfl | rfl | rfl | rfl | rfl | rfl | rfl | rfl <;> decide +kernel
theorem zars {x:Str} (hx:x∈WS):arW x≤3:=by
 simp only [WS,List.mem_cons,List.not_mem_nil,or_false] at hx
 rcases hx with rfl | rfl | rfl | rfl | rfl | rfl | rfl | rfl | rfl | rfl <;> decide +kernel
theorem zasp {m:Int} (h0:0≤m) (h1:m < 2):∃ x∈WS,arW x=0∧atI [V.str "zero",V.str "one"] m=some (.str x):=by
 have:m=0∨m=1:=by omega
 rcases this with rfl | rfl
 ·exact ⟨"zero",by decide +kernel,by decide +kernel,rfl⟩
 ·exact ⟨"one",by decide +kernel,by decide +kernel,rfl⟩
theorem av33:AF (defScope (top 33)) ["_law_script", "_law_at", "_law_ins", "_law_keeps", "_law_many", "_law_gates", "_law_k", "_law_m", "_law_word", "_law_feeds", "_law_j", "_law_outs"]:=⟨by decide +kernel⟩
theorem gl33:AG (defScope (top 33)) ["range", "_law_next", "len", "max", "tuple", "min"]:=⟨by decide +kernel⟩
def spLNet (K:PySem.W.Frag):Sp:=fun vs H Q _=>∃ (a b:Addr) (ns:List Int) (c ins' keeps' many':Int) (ins keeps many:Nat),vs=[.ref a,.ref b,.int ins',.int keeps',.int many']∧ins'=(ins:Int)∧keeps'=(keeps:Int)∧many'=(many:Int)∧ins≤12∧keeps≤12∧many≤24 ∧
 Scr K H a ns∧H b=some (.lst [.int c])∧0≤c∧c < 2 ^ 59 ∧
 ∀ (R gl ol:Addr) (gs:List Gt) (xs:List V) (os:List Nat) (H':Hp),NS H H' b gl c 1000 gs xs ins→H' R=some (.tup [.ref gl,.ref ol])→(gs.length≤48∧many≤gs.length)→H' ol=some (.lst (os.map nV))→(∀ o∈os,o < gs.length)→os.length≤4→H gl=none→H ol=none→Q (.ref R) H'
theorem scLNet:FnScope ["_law_script", "_law_at", "_law_ins", "_law_keeps", "_law_many", "_law_gates", "_law_k", "_law_m", "_law_word", "_law_feeds", "_law_j", "_law_outs"] ["_law_script", "_law_at", "_law_ins", "_law_keeps", "_law_many"] (defScope (top 33)):=⟨rfl,rfl,rfl,by decide +kernel,rfl,by decide +kernel,by decide +kernel⟩
theorem zapn (F:Fun K "_law_net" "_law_net" (top 33) f fd) (D_law_next:DefOk P w K mg base CX0 k "_law_next" ["_law_script", "_law_at"] (spNext K)) (z_len:mg "len" = none) (z_range:mg "range" = none) (z_max:mg "max" = none) (z_min:mg "min" = none) (z_tuple:mg "tuple" = none) :
  FnOk P w K mg base CX0 (k + 1) f fd ["_law_script", "_law_at", "_law_ins", "_law_keeps", "_law_many"] (spLNet K):=by
 have nd:=scLNet.nd
 refine F.ok scLNet (fun vs H Q E h=>by obtain ⟨a,b,ns,c,ins',keeps',many',ins,keeps,many,rfl,_⟩:=h; rfl) (fun cdv A outer s H vs Q E hr h=>?_)
 obtain ⟨a,b,ns,c,ins',keeps',many',ins,keeps,many,rfl,rfl,rfl,rfl,hi,hk,hm,hS,hb,h0,h1,q⟩:=h
 have hu:=zahz hr
 refine ⟨_,(Pr.h (zaaf (zaat (i:=5) nd rfl (av33.l 5 rfl) (zaav zaqu (zaa0 (zaaa (zaay (zaaa zaaj zaab zaad)) zaab zaa2)) (qv av33 2 rfl))) (zaaf (zaby PassesOwn.never rfl (zacu (gl33.g 0 rfl) z_range (zaaa (qv av33 3 rfl) zaab zaac)) (zaa1 (i:=6) nd rfl (av33.l 6 rfl)) (zaag (zado (zae7 PySem.F.plainAttrs_list PySem.F.slot_list_append PySem.F.type_list_append zade (qv av33 5 rfl) (zaaa (zaay (zaaa zaaj (zaaa (zaav zabn (zaah D_law_next hr (gl33.g 1 rfl) pass0 (zaaa (qv av33 0 rfl) (zaaa (qv av33 1 rfl) zaab zaac) zaac) zabq) zaae) (zaaa zaae zaab zaad) zabh) zaad)) zaab zaa2))))) (zaaf (zaby PassesOwn.never rfl (zacu (gl33.g 0 rfl) z_range (zaaa (qv av33 4 rfl) zaab zaac)) (zaa1 (i:=6) nd rfl (av33.l 6 rfl)) (zaaf (zaat (i:=7) nd rfl (av33.l 7 rfl) (zaah D_law_next hr (gl33.g 1 rfl) pass0 (zaaa (qv av33 0 rfl) (zaaa (qv av33 1 rfl) zaab zaac) zaac) zabq)) (zaaf (zaat (i:=8) nd rfl (av33.l 8 rfl) (zaao zaaq (zaa0 (zaaa zaaj (zaaa zaaj (zaaa zaaj (zaaa zaaj (zaaa zaaj (zaaa zaaj (zaaa zaaj (zaaa zaaj (zaaa zaaj (zaaa zaaj zaab zaad) zaad) zaad) zaad) zaad) zaad) zaad) zaad) zaad) zaad)) (zaav zabn (qv av33 7 rfl) zaae) (fun _ _=>rfl))) (zaaz (zaax (zabx (zac1 (zaak zaa3 (zaap zaam (gl33.g 2 rfl) z_len PySem.boot_len (zaaa (qv av33 5 rfl) zaab zaac) zabb zabc) zaae (nomark _)) (zacq (zaak zad7 (qv av33 8 rfl) (zaay (zaaa zaaj (zaaa zaaj zaab zaad) zaad)) rfl)))) (zaag (zaat (i:=8) nd rfl (av33.l 8 rfl) (zaao zaaq (zaa0 (zaaa zaaj (zaaa zaaj zaab zaad) zaad)) (zaav zabn (zaav zab3 (qv av33 7 rfl) zaae) zaae) (fun _ _=>rfl)))) zaan) (zaaf (zaat (i:=9) nd rfl (av33.l 9 rfl) (zaa0 zaab)) (zaaf (zaby PassesOwn.never rfl (zacu (gl33.g 0 rfl) z_range (zaaa (zahh hu (zaex (zacl zaaj zaae (zacl zaaj zaae (zacl zaaj zaae (zacl zaaj zaae zaew)))) rfl rfl (by intro z; cases z) (by decide)) (qv av33 8 rfl) zaae ⟨rfl,rfl,rfl,rfl⟩) zaab zab0)) (zaa1 (i:=10) nd rfl (av33.l 10 rfl)) (zaaf (zaat (i:=7) nd rfl (av33.l 7 rfl) (zaah D_law_next hr (gl33.g 1 rfl) pass0 (zaaa (qv av33 0 rfl) (zaaa (qv av33 1 rfl) zaab zaac) zaac) zabq)) (zaag (zado (zae7 PySem.F.plainAttrs_list PySem.F.slot_list_append PySem.F.type_list_append zade (qv av33 9 rfl) (zaaa (zaeu (zaak zaa3 (zaav zabn (qv av33 7 rfl) zaae) zaae (nomark _)) (zaav zabn (zaav zab3 (qv av33 7 rfl) zaae) (zaap zaam (gl33.g 2 rfl) z_len PySem.boot_len (zaaa (qv av33 5 rfl) zaab zaac) zabb zabc)) (zaap (zaj9 rfl) (gl33.g 3 rfl) z_max zaro (zaaa zaae (zaaa (zaav zag0 (zaav zag0 (zaap zaam (gl33.g 2 rfl) z_len PySem.boot_len (zaaa (qv av33 5 rfl) zaab zaac) zabb zabc) zaae) (zaav zabn (zaav zab3 (qv av33 7 rfl) zaae) zaae)) zaab zabh) zaad) zarp zarq)) zaab zaiz)))))) (zaag (zado (zae7 PySem.F.plainAttrs_list PySem.F.slot_list_append PySem.F.type_list_append zade (qv av33 5 rfl) (zaaa (zabg zabo (gl33.g 4 rfl) z_tuple zacb (zaaa (zaav zace (zaa0 (zaaa (qv av33 8 rfl) zaab zaac)) (qv av33 9 rfl)) zaab zabh) zacc zacd) zaab zab0)))))))))) (zaaf (zaby PassesOwn.never rfl (zajo (gl33.g 0 rfl) z_range (zaaa (qv av33 2 rfl) (zaaa (zaav zacx (qv av33 2 rfl) (qv av33 3 rfl)) zaab zabh) zaac)) (zaa1 (i:=6) nd rfl (av33.l 6 rfl)) (zaag (zac4 (zaay (zaaa zaaj (zaaa (zaao zaa9 (zaao zaaq (qv av33 5 rfl) (qv av33 6 rfl) (fun _ _=>rfl)) zaae (fun _ _=>rfl)) (zaaa (zaav zabn (zaah D_law_next hr (gl33.g 1 rfl) pass0 (zaaa (qv av33 0 rfl) (zaaa (qv av33 1 rfl) zaab zaac) zaac) zabq) (zaap zaam (gl33.g 2 rfl) z_len PySem.boot_len (zaaa (qv av33 5 rfl) zaab zaac) zabb zabc)) zaab zabh) zaas) zaad)) (zad8 (qv av33 5 rfl) (qv av33 6 rfl) zadm)))) (zaaf (zaat (i:=11) nd rfl (av33.l 11 rfl) (zaa0 zaab)) (zaaf (zaby PassesOwn.never rfl (zacu (gl33.g 0 rfl) z_range (zaaa (zaav zacx zaae (zaav zabn (zaah D_law_next hr (gl33.g 1 rfl) pass0 (zaaa (qv av33 0 rfl) (zaaa (qv av33 1 rfl) zaab zaac) zaac) zabq) zaae)) zaab zabh)) (zaa1 (i:=6) nd rfl (av33.l 6 rfl)) (zaag (zaax (zaak zaoa (zaap zaam (gl33.g 2 rfl) z_len PySem.boot_len (zaaa (qv av33 5 rfl) zaab zaac) zabb zabc) zaae (nomark _)) (zaaf (zaat (i:=7) nd rfl (av33.l 7 rfl) (zaah D_law_next hr (gl33.g 1 rfl) pass0 (zaaa (qv av33 0 rfl) (zaaa (qv av33 1 rfl) zaab zaac) zaac) zabq)) (zaag (zado (zae7 PySem.F.plainAttrs_list PySem.F.slot_list_append PySem.F.type_list_append zade (qv av33 11 rfl) (zaaa (zaeu (zaak zaa3 (zaav zabn (qv av33 7 rfl) zaae) zaae (nomark _)) (zaav zabn (zaav zab3 (qv av33 7 rfl) zaae) (zaap zaam (gl33.g 2 rfl) z_len PySem.boot_len (zaaa (qv av33 5 rfl) zaab zaac) zabb zabc)) (zaav zag0 (zaav zag0 (zaap zaam (gl33.g 2 rfl) z_len PySem.boot_len (zaaa (qv av33 5 rfl) zaab zaac) zabb zabc) zaae) (zaav zabn (zaav zab3 (qv av33 7 rfl) zaae) (zaap (zag1 rfl) (gl33.g 5 rfl) z_min zant (zaaa zaae (zaaa (zaap zaam (gl33.g 2 rfl) z_len PySem.boot_len (zaaa (qv av33 5 rfl) zaab zaac) zabb zabc) zaab zab0) zaad) zanu zanv)))) zaab zaiz))))) zaan))) (zaag (zaal (zaay (zaaa (qv av33 5 rfl) (zaaa (qv av33 11 rfl) zaab zaac) zaac))))))))))),?_⟩
 (try dsimp only [cxOf])
 walk_at "rd"
 rename_i p1 hp1 p2 hp2 gl hgl
 have fg:H gl=none:=freeN hp1 (freeN hp2 hgl)
 have nb:gl≠b:=(zaa7 hb fg).symm
 have st0:NS H (upd (upd (upd H p1 (HO.tup [V.str (Str.ofString "in")])) p2 (HO.lst [V.ref p1])) gl (HO.lst (List.replicate ((ins:Int)).toNat [V.ref p1]).flatten)) b gl c 0 (List.replicate ins .inp) (List.replicate ins (.ref p1)) ins:=by
  have cc:Ch [] H (upd (upd (upd H p1 (HO.tup [V.str (Str.ofString "in")])) p2 (HO.lst [V.ref p1])) gl (HO.lst (List.replicate ((ins:Int)).toNat [V.ref p1]).flatten)):=((Ch.new hp1 _).trans (Ch.new hp2 _)).trans (Ch.new hgl _)
  refine ⟨Ch.wk cc,⟨c,cc.get hb (by simp),by omega,by omega⟩,by rw [zaai,zai9]; simp,⟨by simp,fun i g e=>?_⟩,fun i g e=>?_,by rw [List.countP_replicate]; rfl,fun i h=>by rw [List.getElem?_replicate,if_pos h]⟩
  ·rw [List.getElem?_replicate] at e
   split at e
   ·cases e
    rename_i hi2
    exact ⟨p1,by rw [List.getElem?_replicate,if_pos hi2],zaba hgl (zaba hp2 zaai)⟩
   ·cases e
  ·rw [List.getElem?_replicate] at e
   split at e
   ·cases e
    exact True.intro
   ·cases e
 generalize (upd (upd (upd H p1 (HO.tup [V.str (Str.ofString "in")])) p2 (HO.lst [V.ref p1])) gl (HO.lst (List.replicate ((ins:Int)).toNat [V.ref p1]).flatten))=H0 at st0 ⊢
 clear hgl hp2 hp1
 refine zac3 (fun i σ H'=>∃ gs xs u,σ=[some (.ref a),some (.ref b),some (.int (ins:Int)),some (.int (keeps:Int)),some (.int (many:Int)),some (.ref gl),u,none,none,none,none,none]∧NS H H' b gl c (i:Int) gs xs ins∧gs.length=ins + i∧KP gs ins gs.length) ⟨_,_,_,rfl,st0,by simp,.mk fun j h1 h2=>?_⟩ ?_ ?_
 ·simp at h2; omega
 ·rintro i σ H' hi' ⟨gs,xs,u,rfl,n,hl,kp⟩
  have hi2:i < keeps:=by simpa using hi'
  obtain ⟨c',hb1,hc1,hc2⟩:=n.at_
  have hS1:Scr K H' a ns:=hS.ch hb n.ch
  have hxl:=n.gg.len
  have gl1:=n.gl
  have nc:=n.ch
  walk_at "rd"
  rename_i z H2 hz0 hz1 c2 hb2 p hp
  have n2:=(n.bump nb hb1 c2 hb2).same (Ch.new hp (HO.tup [V.str (Str.ofString "keep"),V.int (z % 2),V.int 0]))
  have n3:=n2.push (g:=.keep (z % 2) 0) nb fg zaai ⟨by omega,by omega,by omega⟩ rfl
  have gl2:=n2.gl
  walk_at "rd"
  rw [List.length_append]; exact kp.more
 ·rintro σ H' ⟨gs,xs,u,rfl,n,hl,kp⟩
  have hl:gs.length=ins + keeps:=by simpa using hl
  rw [hl] at kp
  walk_at "rd"
  refine zac3 (fun i σ H'=>∃ gs xs u1 u2 u3 u4 u5,σ=[some (.ref a),some (.ref b),some (.int (ins:Int)),some (.int (keeps:Int)),some (.int (many:Int)),some (.ref gl),u1,u2,u3,u4,u5,none]∧NS H H' b gl c (12 + 4 * i:Int) gs xs ins∧gs.length=ins + keeps + i∧KP gs ins (ins + keeps)) ⟨_,_,_,_,_,_,_,rfl,n.wk (by simp; omega),by omega,kp⟩ ?_ ?_
  ·skip
   rintro i σ H' hi' ⟨gs,xs,u1,u2,u3,u4,u5,rfl,n,hl,kp⟩
   have hi2:i < many:=by simpa using hi'
   obtain ⟨c',hb1,hc1,hc2⟩:=n.at_
   have hS1:Scr K H' a ns:=hS.ch hb n.ch
   have hxl:=n.gg.len
   have gl1:=n.gl
   have nc:=n.ch
   walk_at "rd"
   rename_i m H2 hm0 hm1 c2 hb2 p hp
   obtain ⟨x,hx,hat⟩:=zaso (m:=m % 10) (by omega) (by omega)
   refine Atx.of hat ?_
   have n2:=(n.bump nb hb1 c2 hb2).same (Ch.new hp (HO.lst (WS.map V.str)))
   have gl2:=n2.gl
   walk_at "rd"
   refine zaa6 (fun σ H3=>∃ x2,x2∈WS∧(gs.length=0→arW x2=0)∧σ=[some (.ref a),some (.ref b),some (.int (ins:Int)),some (.int (keeps:Int)),some (.int (many:Int)),some (.ref gl),some (.int (0 + (i:Int))),some (.int m),some (.str x2),u4,u5,none]∧NS H H3 b gl c (12 + 4 * i + 1:Int) gs xs ins) ?_ ?_
   ·walk_at "rd"
    refine ite2 (fun hc=>?_) (fun hc=>iteF ?_)
    ·walk_at "rd"
     rename_i pz hpz
     refine ite2 (fun hd=>?_) (fun hd=>?_)
     ·obtain ⟨x2,hx2,hx3,hat2⟩:=zasp (m:=m / 10 % 2) (by omega) (by omega)
      walk_at "rd"
      exact (n2.same (Ch.new hpz _)).same (Ch.new (by assumption) _)
     ·have hz:arW x=0:=by
       clear hat
       simp only [WS,List.mem_cons,List.not_mem_nil,or_false] at hx
       rcases hx with rfl | rfl | rfl | rfl | rfl | rfl | rfl | rfl | rfl | rfl <;> first | decide +kernel | (exfalso; revert hd; decide +kernel)
      exact ⟨x,hx,fun _=>hz,rfl,n2.same (Ch.new hpz _)⟩
    ·refine ⟨x,hx,fun z=>?_,rfl,n2⟩
     rw [← hxl] at z
     exact absurd (by rw [z]; decide) hc
   ·rintro σ H3 ⟨x2,hx2,hx0,rfl,n3⟩
    walk_at "rd"
    rename_i fl hfl dp hdp
    refine ⟨(rfl:_=List.map (fun kv=>(kV kv.1,kv.2)) DD),by decide,?_⟩
    have hal:=zars hx2
    have hdg:=zarr hx2
    have n4:=(n3.same (Ch.new hfl (HO.lst []))).same (Ch.own (o:=HO.dK (mergeK [] DD)) hdp (Ch.new hdp (HO.dK [])))
    have fl4:upd (upd (upd H3 fl (HO.lst [])) dp (HO.dK [])) dp (HO.dK (mergeK [] DD)) fl=some (HO.lst []):=Ch.get (W:=[]) (Ch.own hdp (Ch.new hdp (HO.dK []))) zaai (by simp)
    have ffl:H fl=none:=by
     cases e:H fl with
     | none=>rfl
     | some o =>
      by_cases z:fl=b
      ·obtain ⟨c9,h9,_⟩:=n3.at_
       rw [z,h9] at hfl; cases hfl
      ·have:=n3.ch.get e (by simpa using z)
       rw [this] at hfl; cases hfl
    have nfb:fl≠b:=(zaa7 hb ffl).symm
    have nfg:fl≠gl:=(zaa7 n3.gl hfl).symm
    refine ⟨dp,rfl,Or.inl ⟨_,Or.inl zaai⟩,_,rfl,_,DGet.k (k:=Sum.inr x2) zaai,?_⟩
    rw [hdg]
    generalize upd (upd (upd H3 fl (HO.lst [])) dp (HO.dK [])) dp (HO.dK (mergeK [] DD))=H4 at n4 fl4 ⊢
    walk_at "rd"
    refine zac3 (fun j σ H5=>∃ fs u2 u5,σ=[some (.ref a),some (.ref b),some (.int (ins:Int)),some (.int (keeps:Int)),some (.int (many:Int)),some (.ref gl),some (.int (0 + (i:Int))),u2,some (.str x2),some (.ref fl),u5,none]∧NS H H5 b gl c (12 + 4 * i + 1 + j:Int) gs xs ins∧H5 fl=some (.lst (List.map nV fs))∧fs.length=j∧Below fs gs.length) ⟨[],_,_,rfl,n4.wk (by simp),fl4,rfl,.nil⟩ ?_ ?_
    ·rintro j σ H5 hj ⟨fs,v2,v5,rfl,n5,gf5,lf5,bf5⟩
     have hj2:j < arW x2:=by simpa using hj
     have hgp:0 < gs.length:=by
      rcases Nat.eq_zero_or_pos gs.length with z | z
      ·have:=hx0 z; omega
      ·exact z
     obtain ⟨c5,hb5,hc5,hd5⟩:=n5.at_
     have hS5:Scr K H5 a ns:=hS.ch hb n5.ch
     have gl5:=n5.gl
     walk_at "rd"
     rename_i z H6 hz0 hz1 c6 hb6
     have n6:=n5.bump nb hb5 c6 hb6
     have gl6:=n6.gl
     have gf6:H6 fl=some (.lst (List.map nV fs)):=c6.get gf5 (by simpa using nfb)
     refine ite2 (fun he=>?_) (fun he=>?_)
     ·obtain ⟨q1,hq1,hq2⟩:∃ q1:Nat,z / 2 % (xs.length:Int)=(q1:Int)∧q1 < gs.length:=by
       have h1:0≤z / 2 % (xs.length:Int):=Int.emod_nonneg _ (by omega)
       have h2:z / 2 % (xs.length:Int) < (xs.length:Int):=Int.emod_lt_of_pos _ (by omega)
       exact ⟨(z / 2 % (xs.length:Int)).toNat,by omega,by omega⟩
      walk_at "rd"
      refine ⟨(n6.own ffl nfb nfg gf6).wk (by omega),(by rw [zaai]; (try dsimp only); rw [hq1]; simp [nV]:_=some (HO.lst (List.map nV (fs++[q1])))),by simp [lf5],bf5.snoc hq2⟩
     ·obtain ⟨q1,hq1,hq2⟩:∃ q1:Nat,(if (xs.length:Int) - 1 - z / 2 % 4 > 0 then (xs.length:Int) - 1 - z / 2 % 4 else 0)=(q1:Int)∧q1 < gs.length:=by
       refine ⟨(if (xs.length:Int) - 1 - z / 2 % 4 > 0 then (xs.length:Int) - 1 - z / 2 % 4 else 0).toNat,?_,?_⟩ <;> split <;> omega
      walk_at "rd"
      refine ⟨(n6.own ffl nfb nfg gf6).wk (by omega),(by rw [zaai]; (try dsimp only); rw [hq1]; simp [nV]:_=some (HO.lst (List.map nV (fs++[q1])))),by simp [lf5],bf5.snoc hq2⟩
    ·rintro σ H5 ⟨fs,v2,v5,rfl,n5,gf5,lf5,bf5⟩
     have lf5:fs.length=arW x2:=by simpa using lf5
     have gl5:=n5.gl
     obtain ⟨g,eg,g1,g2,g3⟩:=mkG hx2 lf5 bf5.of
     walk_at "rd"
     rename_i e1 he1 e2 he2 e3 he3
     have n7:=((n5.same (Ch.new he1 (HO.lst [V.str x2]))).same (Ch.new he2 (HO.lst ([V.str x2]++List.map nV fs)))).same (Ch.new he3 (HO.tup ([V.str x2]++List.map nV fs)))
     have n8:=n7.push (g:=g) nb fg (by rw [zaai,eg]; rfl) g1 g2
     exact ⟨n8.wk (by omega),by simp; omega,kp.push _⟩
  ·skip
   rintro σ H' ⟨gs,xs,u1,u2,u3,u4,u5,rfl,n,hl,kp⟩
   have hl:gs.length=ins + keeps + many:=by simpa using hl
   have n:=n.wk (B':=108) (by simp; omega)
   walk_at "rd"
   refine zac3 (fun i σ H'=>∃ gs xs u1,σ=[some (.ref a),some (.ref b),some (.int (ins:Int)),some (.int (keeps:Int)),some (.int (many:Int)),some (.ref gl),u1,u2,u3,u4,u5,none]∧NS H H' b gl c (108 + i:Int) gs xs ins∧gs.length=ins + keeps + many∧KP gs ins (ins + keeps)) ⟨_,_,_,rfl,n.wk (by simp),hl,kp⟩ ?_ ?_
   ·skip
    rintro i σ H' hi' ⟨gs,xs,u1,rfl,n,hl,kp⟩
    have hi2:i < keeps:=by omega
    obtain ⟨ff,a0,hj⟩:=kp.of (ins + i) (by omega) (by omega)
    obtain ⟨f0,f1,_⟩:0≤ff∧ff < 2∧_:=n.ok _ _ hj
    obtain ⟨p,ep,hp⟩:=n.gg.at_ _ _ hj
    have hp:H' p=some (.tup [.str "keep",.int ff,.int a0]):=hp
    obtain ⟨c',hb1,hc1,hc2⟩:=n.at_
    have hS1:Scr K H' a ns:=hS.ch hb n.ch
    have hxl:=n.gg.len
    have gl1:=n.gl
    have hat:atI xs ((ins:Int) + (i:Int))=some (.ref p):=by
     have:=zab4 ep
     rwa [Int.natCast_add] at this
    have hix:ixN xs.length ((ins:Int) + (i:Int))=some (ins + i):=by
     unfold ixN; rw [if_pos (by omega),if_pos (by omega)]; congr 1
    walk_at "rd"
    rename_i z H2 hz0 hz1 c2 hb2 tp htp
    have n2:=n.bump nb hb1 c2 hb2
    have h1:0≤z % (xs.length:Int):=Int.emod_nonneg _ (by omega)
    have h2:z % (xs.length:Int) < (xs.length:Int):=Int.emod_lt_of_pos _ (by omega)
    have n3:=n2.same (Ch.new htp (HO.tup [V.str (Str.ofString "keep"),V.int ff,V.int (z % (xs.length:Int))]))
    have gl3:=n3.gl
    have n4:=n3.set (g:=.keep ff (z % (xs.length:Int)).toNat) nb fg (by rw [zaai]; show _=some (HO.tup [_,_,V.int (((z % (xs.length:Int)).toNat:Nat):Int)]); rw [show (((z % (xs.length:Int)).toNat:Nat):Int)=z % (xs.length:Int) by omega]) hj ⟨f0,f1,by omega⟩ rfl (by omega)
    exact ⟨n4.wk (by omega),by simp [hl],kp.set⟩
   ·skip
    rintro σ H' ⟨gs,xs,u1,rfl,n,hl,kp⟩
    have n:=n.wk (B':=120) (by omega)
    obtain ⟨c',hb1,hc1,hc2⟩:=n.at_
    have hS1:Scr K H' a ns:=hS.ch hb n.ch
    have hxl:=n.gg.len
    walk_at "rd"
    rename_i ol hol z H2 hz0 hz1 c2 hb2
    obtain ⟨fol,ob,og⟩:=n.fresh hb hol
    have n2:=(n.same (Ch.new hol (HO.lst []))).bump nb (zaba hol hb1) c2 hb2
    have o2:H2 ol=some (.lst (List.map nV [])):=c2.get zaai (by simpa using ob)
    refine zac3 (fun j σ H5=>∃ os u6 u7,σ=[some (.ref a),some (.ref b),some (.int (ins:Int)),some (.int (keeps:Int)),some (.int (many:Int)),some (.ref gl),u6,u7,u3,u4,u5,some (.ref ol)]∧NS H H5 b gl c (121 + j:Int) gs xs ins∧H5 ol=some (.lst (List.map nV os))∧os.length≤j∧Below os gs.length) ⟨[],_,_,rfl,n2.wk (by omega),o2,by simp,.nil⟩ ?_ ?_
    ·rintro j σ H5 hj ⟨os,v2,v5,rfl,n5,gf5,lf5,bf5⟩
     have hj2:j < 4:=by omega
     obtain ⟨c5,hb5,hc5,hd5⟩:=n5.at_
     have hS5:Scr K H5 a ns:=hS.ch hb n5.ch
     have gl5:=n5.gl
     walk_at "rd"
     refine ite2 (fun hc=>?_) (fun hc=>?_)
     ·have hgp:0 < gs.length:=by
       have:0 < (xs.length:Int):=by simpa using hc
       omega
      walk_at "rd"
      rename_i z H6 hz0 hz1 c6 hb6
      have n6:=n5.bump nb hb5 c6 hb6
      have gl6:=n6.gl
      have gf6:H6 ol=some (.lst (List.map nV os)):=c6.get gf5 (by simpa using ob)
      refine ite2 (fun he=>?_) (fun he=>?_)
      ·obtain ⟨q1,hq1,hq2⟩:∃ q1:Nat,z / 2 % (xs.length:Int)=(q1:Int)∧q1 < gs.length:=by
        have h1:0≤z / 2 % (xs.length:Int):=Int.emod_nonneg _ (by omega)
        have h2:z / 2 % (xs.length:Int) < (xs.length:Int):=Int.emod_lt_of_pos _ (by omega)
        exact ⟨(z / 2 % (xs.length:Int)).toNat,by omega,by omega⟩
       walk_at "rd"
       refine ⟨(n6.own fol ob og gf6).wk (by omega),(by rw [zaai]; (try dsimp only); rw [hq1]; simp [nV]:_=some (HO.lst (List.map nV (os++[q1])))),by simp; omega,bf5.snoc hq2⟩
      ·obtain ⟨q1,hq1,hq2⟩:∃ q1:Nat,(xs.length:Int) - 1 - z / 2 % (if (xs.length:Int) < 3 then (xs.length:Int) else 3)=(q1:Int)∧q1 < gs.length:=by
        have h1:0≤z / 2 % (if (xs.length:Int) < 3 then (xs.length:Int) else 3):=Int.emod_nonneg _ (by split <;> omega)
        have h2:z / 2 % (if (xs.length:Int) < 3 then (xs.length:Int) else 3) < (if (xs.length:Int) < 3 then (xs.length:Int) else 3):=Int.emod_lt_of_pos _ (by split <;> omega)
        have h3:(if (xs.length:Int) < 3 then (xs.length:Int) else 3)≤(xs.length:Int):=by split <;> omega
        refine ⟨((xs.length:Int) - 1 - z / 2 % (if (xs.length:Int) < 3 then (xs.length:Int) else 3)).toNat,?_,?_⟩ <;> (generalize (if (xs.length:Int) < 3 then (xs.length:Int) else 3)=W3 at *; generalize z / 2 % W3=Y3 at *; omega)
       walk_at "rd"
       refine ⟨(n6.own fol ob og gf6).wk (by omega),(by rw [zaai]; (try dsimp only); rw [hq1]; simp [nV]:_=some (HO.lst (List.map nV (os++[q1])))),by simp; omega,bf5.snoc hq2⟩
     ·refine ⟨os,_,_,rfl,n5.wk (by omega),gf5,by omega,bf5⟩
    ·rintro σ H5 ⟨os,v2,v5,rfl,n5,gf5,lf5,bf5⟩
     walk_at "rd"
     rename_i R hR
     exact q R gl ol gs xs os _ ((n5.same (Ch.new hR _)).wk (by omega)) zaai (by omega) (zaba hR gf5) bf5.of (by omega) fg fol
end
end

section
local macro_rules | `(tactic| walk_at "user")=>`(tactic| first
 | (apply GA.ch; (focus with_reducible assumption); (focus walk_at "ch"))
 | exact Gt.vs_sca _)
theorem Ch.made {C x dx:Addr}{H H':Hp} (hx:H x=none) (hd:H dx=none) (n:dx≠x) (c:Ch [x] (upd (upd H dx (.own x)) x (.ins C dx [])) H'):Ch [] H H':=Ch.forget ((Ch.inst (C:=C) hx hd n).wk.trans c) (by simpa using hx)
section
variable {P:Program}{w:World}{K:PySem.W.Frag}{mg:Str→Option Value}{base:Heap}{f:Addr}{fd:FuncData}{k:Nat}
theorem zahr:Nd "Net" := by decide +kernel
theorem av40:AF (defScope (top 40)) ["_law_gates", "_law_outs", "_law_m", "_law_made", "_law_k"]:=⟨by decide +kernel⟩
theorem gl40:AG (defScope (top 40)) ["list", "len", "Net", "tuple"]:=⟨by decide +kernel⟩
structure NL (H:Hp) (gl ol:Addr) (gs:List Gt) (xs:List V) (os:List Nat):Prop where
 hg:H gl=some (.lst xs)
 gg:Gs H gs xs
 ok:Oks gs
 lg:gs.length≤500
 n0:1≤gs.length
 ho:H ol=some (.lst (os.map nV))
 lo:∀ o∈os,o < gs.length
 ll:os.length≤500
def spBn (CN:Addr):Sp:=fun vs H Q _=>∃ (gl ol:Addr) (m:Int) (gs:List Gt) (xs:List V) (os:List Nat),vs=[.ref gl,.ref ol,.int m]∧NL H gl ol gs xs os∧0≤m∧m < 2 ^ 60∧∀ (x gp op:Addr) (sg:List Gt) (ys:List V) (so:List Nat) (H':Hp),Ch [] H H'→NetAt CN H' x gp op sg ys so→gs.length≤sg.length→sg.length≤gs.length + 1→Q (.ref x) H'
theorem scBn:FnScope ["_law_gates", "_law_outs", "_law_m", "_law_made", "_law_k"] ["_law_gates", "_law_outs", "_law_m"] (defScope (top 40)):=⟨rfl,rfl,rfl,by decide +kernel,rfl,by decide +kernel,by decide +kernel⟩
theorem zasq {CN:Addr} (F:Fun K "_law_bent_net" "_law_bent_net" (top 40) f fd) (MkNet:MakeOk P w K mg base CX0 k CN "Net" ["self", "gates", "outs"] (spNet CN)) (z_len:mg "len" = none) (z_list:mg "list" = none) (z_tuple:mg "tuple" = none):FnOk P w K mg base CX0 (k + 2) f fd ["_law_gates", "_law_outs", "_law_m"] (spBn CN):=by
 have nd:=scBn.nd
 refine F.ok scBn (fun vs H Q E h=>by obtain ⟨gl,ol,m,gs,xs,os,rfl,_⟩:=h; rfl) (fun cdv A outer s0 H vs Q E hr h=>?_)
 obtain ⟨gl,ol,m,gs,xs,os,rfl,nl,m0,m1,q⟩:=h
 have hu:=zahz hr
 have hrm:=hr
 refine ⟨_,(Pr.h (zaaf (zaat (i:=3) nd rfl (av40.l 3 rfl) (zabg zab9 (gl40.g 0 rfl) z_list zadi (zaaa (qv av40 0 rfl) zaab zaac) zadj zadk)) (zaaz (zaat (i:=4) nd rfl (av40.l 4 rfl) (zaav zabn (zaav zab3 (qv av40 2 rfl) zaae) (zaap zaam (gl40.g 1 rfl) z_len PySem.boot_len (zaaa (qv av40 3 rfl) zaab zaac) zabb zabc))) (zaaf (zaax (zaak zaa3 (zaav zabn (qv av40 2 rfl) zaae) zaae (nomark _)) (zaag (zaal (zad9 MkNet hrm (gl40.g 2 rfl) pass0 (zaaa (qv av40 3 rfl) (zaaa (zaav zace (qv av40 1 rfl) (zaa0 (zaaa zaae zaab zaad))) zaab zabh) zaac) zahr))) zaan) (zaaf (zaax (zaak zaa3 (zaav zabn (qv av40 2 rfl) zaae) zaae (nomark _)) (zaag (zaal (zad9 MkNet hrm (gl40.g 2 rfl) pass0 (zaaa (zaav zace (qv av40 3 rfl) (zaa0 (zaaa (zaay (zaaa zaaj zaab zaad)) zaab zaa2))) (zaaa (qv av40 1 rfl) zaab zaac) zabh) zahr))) zaan) (zaaf (zaax (zaak zaa3 (zaav zabn (qv av40 2 rfl) zaae) zaae (nomark _)) (zaag (zaal (zad9 MkNet hrm (gl40.g 2 rfl) pass0 (zaaa (qv av40 3 rfl) (zaaa (zaav zace (zaa0 (zaaa (zaav zabn (zaav zab3 (qv av40 2 rfl) zaae) (zaap zaam (gl40.g 1 rfl) z_len PySem.boot_len (zaaa (qv av40 3 rfl) zaab zaac) zabb zabc)) zaab zabh)) (zabw zadd (qv av40 1 rfl) (zab6 zaae) zaca)) zaab zabh) zaac) zahr))) zaan) (zaaz (zaax (zaak zaa3 (zaao zaa9 (zaao zaaq (qv av40 3 rfl) (qv av40 4 rfl) (fun _ _=>rfl)) zaae (fun _ _=>rfl)) zaaj (nomark _)) (zaag (zac4 (zaay (zaaa zaaj (zaaa (zaav zag0 zaae (zaao zaa9 (zaao zaaq (qv av40 3 rfl) (qv av40 4 rfl) (fun _ _=>rfl)) zaae (fun _ _=>rfl))) (zaaa (zaao zaa9 (zaao zaaq (qv av40 3 rfl) (qv av40 4 rfl) (fun _ _=>rfl)) zaae (fun _ _=>rfl)) zaab zaas) zabh) zaad)) (zad8 (qv av40 3 rfl) (qv av40 4 rfl) zadm))) (zaag (zaax (zaak zaep (zaao zaa9 (zaao zaaq (qv av40 3 rfl) (qv av40 4 rfl) (fun _ _=>rfl)) zaae (fun _ _=>rfl)) (zaa0 (zaaa zaaj (zaaa zaaj (zaaa zaaj (zaaa zaaj zaab zaad) zaad) zaad) zaad)) rfl) (zaag (zac4 (zaao zaaq (zaa0 (zaaa (zaay (zaaa zaaj zaab zaad)) (zaaa (zaay (zaaa zaaj zaab zaad)) zaab zaa2) zaa2)) (zaav zabn (zaav zab3 (qv av40 2 rfl) zaae) zaae) (fun _ _=>rfl)) (zad8 (qv av40 3 rfl) (qv av40 4 rfl) zadm))) (zaag (zac4 (zabg zabo (gl40.g 3 rfl) z_tuple zacb (zaaa (zaav zace (zaa0 (zaaa (zaao zaaq (zaa0 (zaaa zaaj (zaaa zaaj (zaaa zaaj zaab zaad) zaad) zaad)) (zaav zabn (zaav zab3 (qv av40 2 rfl) zaae) zaae) (fun _ _=>rfl)) zaab zaas)) (zabg zab9 (gl40.g 0 rfl) z_list zadi (zaaa (zabw zag6 (zaao zaaq (qv av40 3 rfl) (qv av40 4 rfl) (fun _ _=>rfl)) (zab6 zaae) (zab6 zaae)) zaab zaas) zadj zadk)) zaab zabh) zacc zacd) (zad8 (qv av40 3 rfl) (qv av40 4 rfl) zadm)))))) (zaag (zaal (zad9 MkNet hrm (gl40.g 2 rfl) pass0 (zaaa (qv av40 3 rfl) (zaaa (qv av40 1 rfl) zaab zaac) zaac) zahr)))))))))),?_⟩
 (try dsimp only [cxOf])
 obtain ⟨hg,gg,ok,lg,n0,ho,lo,ll⟩:=nl
 have lx:xs.length=gs.length:=gg.len
 have k0:=Int.emod_nonneg (m / 4) (b:=(xs.length:Int)) (by omega)
 have k1:=Int.emod_lt_of_pos (m / 4) (b:=(xs.length:Int)) (by omega)
 obtain ⟨kk,ek⟩:∃ kk:Nat,m / 4 % (xs.length:Int)=kk:=⟨_,(Int.toNat_of_nonneg k0).symm⟩
 have m97:=Int.emod_nonneg (m / 97) (b:=(xs.length:Int)) (by omega)
 have n97:=Int.emod_lt_of_pos (m / 97) (b:=(xs.length:Int)) (by omega)
 obtain ⟨n2,en2⟩:∃ n2:Nat,m / 97 % (xs.length:Int)=n2:=⟨_,(Int.toNat_of_nonneg m97).symm⟩
 have lk:kk < gs.length:=by omega
 walk_at "rd"
 rename_i l hl
 have cL:=Ch.new (W:=[]) hl (.lst xs)
 have gl1:upd H l (.lst xs) l=some (.lst xs):=zaai
 have gg1:=gg.tu (Tu.same cL)
 have ho1:=cL.get ho (by simp)
 generalize upd H l (.lst xs)=H1 at cL gl1 gg1 ho1 ⊢
 refine zaa6 (fun σ H'=>H'=H1∧σ=[some (.ref gl),some (.ref ol),some (.int m),some (.ref l),some (.int (kk:Int))]) ?_ ?_
 ·walk_at "rd"
  show [_,_,_,_,some (V.int (m / 4 % (xs.length:Int)))]=_
  rw [ek]
 clear k0 k1
 rintro σ H2 ⟨eH,rfl⟩
 subst eH
 walk_at "rd"
 have los:(os.map nV).length≤500:=by rw [List.length_map]; exact ll
 refine ite2 (fun h0=>?_) (fun h0=>?_)
 ·walk_at "rd"
  rename_i p4 h4 p3 h3 X dX hX hdX nX
  have cA:=(Ch.new (W:=[]) h4 (.lst [.int 0])).trans (Ch.new h3 (.lst (os.map nV++[.int 0])))
  have ci:=Ch.inst (C:=CN) hX hdX nX
  refine ⟨ci.get (cA.get gl1 (by simp)) (by simp),gg1.tu (Tu.same (cA.trans ci)),ok,by omega,(show _=some (.lst ((os++[0]).map nV)) from ci.get (by rw [zaai]; simp [nV]) (by simp)),fun o ho=>?_,by rw [List.length_append]; simp; omega,fun gp op H9 c9 na=>⟨rfl,q X gp op _ _ _ H9 (cL.trans (cA.trans (B17.Ch.made hX hdX nX c9))) na (Nat.le_refl _) (by omega)⟩⟩
  rcases List.mem_append.mp ho with z | z
  ·exact lo o z
  ·rw [List.mem_singleton.mp z]; omega
 walk_at "rd"
 refine ite2 (fun h1=>?_) (fun h1=>?_)
 ·walk_at "rd"
  rename_i p5 h5 p4 h4 p3 h3 X dX hX hdX nX
  have cA:=((Ch.new (W:=[]) h5 (.tup [.str "in"])).trans (Ch.new h4 (.lst [.ref p5]))).trans (Ch.new h3 (.lst (xs++[.ref p5])))
  have ci:=Ch.inst (C:=CN) hX hdX nX
  have g5:_=some (HO.tup (Gt.inp).vs):=ci.get (zaba h3 (zaba h4 zaai)) (by simp)
  refine ⟨ci.get zaai (by simp),(gg1.tu (Tu.same (cA.trans ci))).snoc g5,ok.push trivial,by rw [List.length_append]; simp; omega,ci.get (cA.get ho1 (by simp)) (by simp),fun o ho=>?_,by omega,fun gp op H9 c9 na=>⟨rfl,q X gp op _ _ _ H9 (cL.trans (cA.trans (B17.Ch.made hX hdX nX c9))) na (by simp) (by simp)⟩⟩
  have:=lo o ho
  rw [List.length_append]; omega
 walk_at "rd"
 refine ite2 (fun h2=>?_) (fun h2=>?_)
 ·walk_at "rd"
  rename_i p4 h4 p3 h3
  have e1:cutV (os.map nV) (some 1) none=(os.drop 1).map nV:=by
   cases os with
   | nil=>rfl
   | cons a os=>rw [List.map_cons,cut1]; rfl
  rw [e1]
  refine ⟨by rw [List.length_map,List.length_drop,sizeLine_eq]; simp; omega,fun p2 h2'=>?_⟩
  walk_at "rd"
  rename_i X dX hX hdX nX
  have cA:=((Ch.new (W:=[]) h4 (.lst [.int (m / 97 % (xs.length:Int))])).trans (Ch.new h3 (.lst ((os.drop 1).map nV)))).trans (Ch.new h2' (.lst ([.int (m / 97 % (xs.length:Int))]++(os.drop 1).map nV)))
  have ci:=Ch.inst (C:=CN) hX hdX nX
  refine ⟨ci.get (cA.get gl1 (by simp)) (by simp),gg1.tu (Tu.same (cA.trans ci)),ok,by omega,(show _=some (.lst ((n2 :: os.drop 1).map nV)) from ci.get (by rw [zaai]; show some (HO.lst (V.int (m / 97 % (xs.length:Int)) :: _))=_; rw [en2]; rfl) (by simp)),fun o ho=>?_,by simp; omega,fun gp op H9 c9 na=>⟨rfl,q X gp op _ _ _ H9 (cL.trans (cA.trans (B17.Ch.made hX hdX nX c9))) na (Nat.le_refl _) (by omega)⟩⟩
  rcases List.mem_cons.mp ho with z | z
  ·omega
  ·exact lo o (List.mem_of_mem_drop z)
 walk_at "rd"
 refine zaa6 (fun σ H'=>∃ (sg:List Gt) (ys:List V),Ch [] H H'∧H' l=some (.lst ys)∧Gs H' sg ys∧Oks sg∧sg.length=gs.length∧H' ol=some (.lst (os.map nV))∧σ=[some (.ref gl),some (.ref ol),some (.int m),some (.ref l),some (.int (kk:Int))]) ?_ ?_
 ·obtain ⟨g,eg⟩:∃ g,gs[kk]?=some g:=⟨_,List.getElem?_eq_getElem lk⟩
  obtain ⟨p0,ep0,hp0⟩:=gg1.at_ kk g eg
  have at1:=zab4 ep0
  have og:=ok kk g eg
  have kz:ixN xs.length (kk:Int)=some kk:=zans (by omega)
  have fin:∀ {J:Hp}{T:Addr}{g':Gt},Ch [] H2 J→J T=some (.tup g'.vs)→g'.ok kk gs.length→Gs (upd J l (.lst (xs.set kk (.ref T)))) (gs.set kk g') (xs.set kk (.ref T))∧Oks (gs.set kk g')∧(gs.set kk g').length=gs.length∧(upd J l (.lst (xs.set kk (.ref T)))) ol=some (.lst (os.map nV)):=fun {J T g'} cj ht og'=>by
   have co:Ch [] H (upd J l (.lst (xs.set kk (.ref T)))):=Ch.own hl (cL.trans cj)
   exact ⟨Gs.set (gg1.tu (Tu.same cj)) (cj.get gl1 (by simp)) ht,ok.set og',by simp,co.get ho (by simp)⟩
  cases g with
  | keep ff a =>
   have hp0:H2 p0=some (.tup [.str "keep",.int ff,.int a]):=hp0
   obtain ⟨o1,o2,o3⟩:0≤ff∧ff < 2∧a < gs.length:=og
   walk_at "rd"
   rename_i T hT
   obtain ⟨f1,f2,f3,f4⟩:=fin (g':=.keep (1 - ff) a) (Ch.new hT _) zaai ⟨by omega,by omega,o3⟩
   exact ⟨f1,f2,f3,f4,rfl⟩
  | inp =>
   have hp0:H2 p0=some (.tup [.str "in"]):=hp0
   have e3:inV (V.str "in") [.str "zero",.str "one",.str "not",.str "in"]=true:=by decide +kernel
   walk_at "rd"
   rename_i w1 k1 zo k2 on k3 zl k4
   have cA:=(((Ch.new (W:=[]) k1 _).trans (Ch.new k2 (.tup [.str "zero"]))).trans (Ch.new k3 (.tup [.str "one"]))).trans (Ch.new k4 (.lst [.ref zo,.ref on]))
   refine Atx.any (by omega) (by show m / 97 % 2 < 2; omega) fun v hv _=>?_
   have hv:v∈[V.ref zo,.ref on]:=hv
   simp only [List.mem_cons,List.not_mem_nil,or_false] at hv
   rcases hv with rfl | rfl
   ·walk_at "rd"
    obtain ⟨f1,f2,f3,f4⟩:=fin (g':=.zero) cA (zaba k4 (zaba k3 zaai)) trivial
    exact ⟨f1,f2,f3,f4,rfl⟩
   ·walk_at "rd"
    obtain ⟨f1,f2,f3,f4⟩:=fin (g':=.one) cA (zaba k4 zaai) trivial
    exact ⟨f1,f2,f3,f4,rfl⟩
  | zero =>
   have hp0:H2 p0=some (.tup [.str "zero"]):=hp0
   have e3:inV (V.str "zero") [.str "zero",.str "one",.str "not",.str "in"]=true:=by decide +kernel
   walk_at "rd"
   rename_i w1 k1 zo k2 on k3 zl k4
   have cA:=(((Ch.new (W:=[]) k1 _).trans (Ch.new k2 (.tup [.str "zero"]))).trans (Ch.new k3 (.tup [.str "one"]))).trans (Ch.new k4 (.lst [.ref zo,.ref on]))
   refine Atx.any (by omega) (by show m / 97 % 2 < 2; omega) fun v hv _=>?_
   have hv:v∈[V.ref zo,.ref on]:=hv
   simp only [List.mem_cons,List.not_mem_nil,or_false] at hv
   rcases hv with rfl | rfl
   ·walk_at "rd"
    obtain ⟨f1,f2,f3,f4⟩:=fin (g':=.zero) cA (zaba k4 (zaba k3 zaai)) trivial
    exact ⟨f1,f2,f3,f4,rfl⟩
   ·walk_at "rd"
    obtain ⟨f1,f2,f3,f4⟩:=fin (g':=.one) cA (zaba k4 zaai) trivial
    exact ⟨f1,f2,f3,f4,rfl⟩
  | one =>
   have hp0:H2 p0=some (.tup [.str "one"]):=hp0
   have e3:inV (V.str "one") [.str "zero",.str "one",.str "not",.str "in"]=true:=by decide +kernel
   walk_at "rd"
   rename_i w1 k1 zo k2 on k3 zl k4
   have cA:=(((Ch.new (W:=[]) k1 _).trans (Ch.new k2 (.tup [.str "zero"]))).trans (Ch.new k3 (.tup [.str "one"]))).trans (Ch.new k4 (.lst [.ref zo,.ref on]))
   refine Atx.any (by omega) (by show m / 97 % 2 < 2; omega) fun v hv _=>?_
   have hv:v∈[V.ref zo,.ref on]:=hv
   simp only [List.mem_cons,List.not_mem_nil,or_false] at hv
   rcases hv with rfl | rfl
   ·walk_at "rd"
    obtain ⟨f1,f2,f3,f4⟩:=fin (g':=.zero) cA (zaba k4 (zaba k3 zaai)) trivial
    exact ⟨f1,f2,f3,f4,rfl⟩
   ·walk_at "rd"
    obtain ⟨f1,f2,f3,f4⟩:=fin (g':=.one) cA (zaba k4 zaai) trivial
    exact ⟨f1,f2,f3,f4,rfl⟩
  | not a =>
   have hp0:H2 p0=some (.tup [.str "not",.int a]):=hp0
   have e3:inV (V.str "not") [.str "zero",.str "one",.str "not",.str "in"]=true:=by decide +kernel
   walk_at "rd"
   rename_i w1 k1 zo k2 on k3 zl k4
   have cA:=(((Ch.new (W:=[]) k1 _).trans (Ch.new k2 (.tup [.str "zero"]))).trans (Ch.new k3 (.tup [.str "one"]))).trans (Ch.new k4 (.lst [.ref zo,.ref on]))
   refine Atx.any (by omega) (by show m / 97 % 2 < 2; omega) fun v hv _=>?_
   have hv:v∈[V.ref zo,.ref on]:=hv
   simp only [List.mem_cons,List.not_mem_nil,or_false] at hv
   rcases hv with rfl | rfl
   ·walk_at "rd"
    obtain ⟨f1,f2,f3,f4⟩:=fin (g':=.zero) cA (zaba k4 (zaba k3 zaai)) trivial
    exact ⟨f1,f2,f3,f4,rfl⟩
   ·walk_at "rd"
    obtain ⟨f1,f2,f3,f4⟩:=fin (g':=.one) cA (zaba k4 zaai) trivial
    exact ⟨f1,f2,f3,f4,rfl⟩
  | and a b =>
   have hp0:H2 p0=some (.tup [.str "and",.int a,.int b]):=hp0
   have e3:inV (V.str "and") [.str "zero",.str "one",.str "not",.str "in"]=false:=by decide +kernel
   have oab:a < kk∧b < kk:=og
   walk_at "rd"
   rename_i w1 k1 w2 k2
   refine Atx.any (by omega) (by show m / 97 % 3 < 3; omega) fun v hv _=>?_
   obtain ⟨w3,rfl,h3⟩:∃ w3,v=.str w3∧(w3 = "and" ∨ w3 = "or" ∨ w3 = "xor"):=by
    have hv:v∈[V.str "and",.str "or",.str "xor"]:=hv
    simp only [List.mem_cons,List.not_mem_nil,or_false] at hv
    rcases hv with rfl | rfl | rfl <;> exact ⟨_,rfl,by simp⟩
   obtain ⟨g',eg',og'⟩:∃ g':Gt,g'.vs=[V.str w3,.int (a:Int),.int (b:Int)]∧g'.ok kk gs.length:=by
    rcases h3 with rfl | rfl | rfl
    ·exact ⟨.and a b,rfl,oab⟩
    ·exact ⟨.or a b,rfl,oab⟩
    ·exact ⟨.xor a b,rfl,oab⟩
   have e1:cutV [V.str "and",.int a,.int b] (some 1) (some 3)=[.int a,.int b]:=rfl
   walk_at "rd"
   rename_i q1 j1 q2 j2 q3 j3
   refine ⟨by rw [e1,sizeLine_eq]; show 1 + 2≤16777216; decide,fun q4 j4=>?_⟩
   rw [e1] at j3 j4 ⊢
   walk_at "rd"
   rename_i T hT
   have cA:=(((((Ch.new (W:=[]) k1 _).trans (Ch.new k2 _)).trans (Ch.new j1 _)).trans (Ch.new j2 _)).trans (Ch.new j3 _)).trans ((Ch.new j4 _).trans (Ch.new hT (.tup ([V.str w3]++[V.int (a:Int),V.int (b:Int)]))))
   obtain ⟨f1,f2,f3,f4⟩:=fin (g':=g') cA (by rw [zaai,eg']; rfl) og'
   exact ⟨f1,f2,f3,f4,rfl⟩
  | or a b =>
   have hp0:H2 p0=some (.tup [.str "or",.int a,.int b]):=hp0
   have e3:inV (V.str "or") [.str "zero",.str "one",.str "not",.str "in"]=false:=by decide +kernel
   have oab:a < kk∧b < kk:=og
   walk_at "rd"
   rename_i w1 k1 w2 k2
   refine Atx.any (by omega) (by show m / 97 % 3 < 3; omega) fun v hv _=>?_
   obtain ⟨w3,rfl,h3⟩:∃ w3,v=.str w3∧(w3 = "and" ∨ w3 = "or" ∨ w3 = "xor"):=by
    have hv:v∈[V.str "and",.str "or",.str "xor"]:=hv
    simp only [List.mem_cons,List.not_mem_nil,or_false] at hv
    rcases hv with rfl | rfl | rfl <;> exact ⟨_,rfl,by simp⟩
   obtain ⟨g',eg',og'⟩:∃ g':Gt,g'.vs=[V.str w3,.int (a:Int),.int (b:Int)]∧g'.ok kk gs.length:=by
    rcases h3 with rfl | rfl | rfl
    ·exact ⟨.and a b,rfl,oab⟩
    ·exact ⟨.or a b,rfl,oab⟩
    ·exact ⟨.xor a b,rfl,oab⟩
   have e1:cutV [V.str "or",.int a,.int b] (some 1) (some 3)=[.int a,.int b]:=rfl
   walk_at "rd"
   rename_i q1 j1 q2 j2 q3 j3
   refine ⟨by rw [e1,sizeLine_eq]; show 1 + 2≤16777216; decide,fun q4 j4=>?_⟩
   rw [e1] at j3 j4 ⊢
   walk_at "rd"
   rename_i T hT
   have cA:=(((((Ch.new (W:=[]) k1 _).trans (Ch.new k2 _)).trans (Ch.new j1 _)).trans (Ch.new j2 _)).trans (Ch.new j3 _)).trans ((Ch.new j4 _).trans (Ch.new hT (.tup ([V.str w3]++[V.int (a:Int),V.int (b:Int)]))))
   obtain ⟨f1,f2,f3,f4⟩:=fin (g':=g') cA (by rw [zaai,eg']; rfl) og'
   exact ⟨f1,f2,f3,f4,rfl⟩
  | xor a b =>
   have hp0:H2 p0=some (.tup [.str "xor",.int a,.int b]):=hp0
   have e3:inV (V.str "xor") [.str "zero",.str "one",.str "not",.str "in"]=false:=by decide +kernel
   have oab:a < kk∧b < kk:=og
   walk_at "rd"
   rename_i w1 k1 w2 k2
   refine Atx.any (by omega) (by show m / 97 % 3 < 3; omega) fun v hv _=>?_
   obtain ⟨w3,rfl,h3⟩:∃ w3,v=.str w3∧(w3 = "and" ∨ w3 = "or" ∨ w3 = "xor"):=by
    have hv:v∈[V.str "and",.str "or",.str "xor"]:=hv
    simp only [List.mem_cons,List.not_mem_nil,or_false] at hv
    rcases hv with rfl | rfl | rfl <;> exact ⟨_,rfl,by simp⟩
   obtain ⟨g',eg',og'⟩:∃ g':Gt,g'.vs=[V.str w3,.int (a:Int),.int (b:Int)]∧g'.ok kk gs.length:=by
    rcases h3 with rfl | rfl | rfl
    ·exact ⟨.and a b,rfl,oab⟩
    ·exact ⟨.or a b,rfl,oab⟩
    ·exact ⟨.xor a b,rfl,oab⟩
   have e1:cutV [V.str "xor",.int a,.int b] (some 1) (some 3)=[.int a,.int b]:=rfl
   walk_at "rd"
   rename_i q1 j1 q2 j2 q3 j3
   refine ⟨by rw [e1,sizeLine_eq]; show 1 + 2≤16777216; decide,fun q4 j4=>?_⟩
   rw [e1] at j3 j4 ⊢
   walk_at "rd"
   rename_i T hT
   have cA:=(((((Ch.new (W:=[]) k1 _).trans (Ch.new k2 _)).trans (Ch.new j1 _)).trans (Ch.new j2 _)).trans (Ch.new j3 _)).trans ((Ch.new j4 _).trans (Ch.new hT (.tup ([V.str w3]++[V.int (a:Int),V.int (b:Int)]))))
   obtain ⟨f1,f2,f3,f4⟩:=fin (g':=g') cA (by rw [zaai,eg']; rfl) og'
   exact ⟨f1,f2,f3,f4,rfl⟩
  | pick a b z =>
   have hp0:H2 p0=some (.tup [.str "pick",.int a,.int b,.int z]):=hp0
   have e3:inV (V.str "pick") [.str "zero",.str "one",.str "not",.str "in"]=false:=by decide +kernel
   have oab:a < kk∧b < kk:=⟨og.1,og.2.1⟩
   walk_at "rd"
   rename_i w1 k1 w2 k2
   refine Atx.any (by omega) (by show m / 97 % 3 < 3; omega) fun v hv _=>?_
   obtain ⟨w3,rfl,h3⟩:∃ w3,v=.str w3∧(w3 = "and" ∨ w3 = "or" ∨ w3 = "xor"):=by
    have hv:v∈[V.str "and",.str "or",.str "xor"]:=hv
    simp only [List.mem_cons,List.not_mem_nil,or_false] at hv
    rcases hv with rfl | rfl | rfl <;> exact ⟨_,rfl,by simp⟩
   obtain ⟨g',eg',og'⟩:∃ g':Gt,g'.vs=[V.str w3,.int (a:Int),.int (b:Int)]∧g'.ok kk gs.length:=by
    rcases h3 with rfl | rfl | rfl
    ·exact ⟨.and a b,rfl,oab⟩
    ·exact ⟨.or a b,rfl,oab⟩
    ·exact ⟨.xor a b,rfl,oab⟩
   have e1:cutV [V.str "pick",.int a,.int b,.int z] (some 1) (some 3)=[.int a,.int b]:=rfl
   walk_at "rd"
   refine ⟨(show ¬ (HT.sIx 4 0 (some 1)=0∧_) from fun z=>absurd z.1 (by decide)),?_⟩
   walk_at "rd"
   rename_i q1 j1 q2 j2 q3 j3
   refine ⟨by rw [e1,sizeLine_eq]; show 1 + 2≤16777216; decide,fun q4 j4=>?_⟩
   rw [e1] at j3 j4 ⊢
   walk_at "rd"
   rename_i T hT
   have cA:=(((((Ch.new (W:=[]) k1 _).trans (Ch.new k2 _)).trans (Ch.new j1 _)).trans (Ch.new j2 _)).trans (Ch.new j3 _)).trans ((Ch.new j4 _).trans (Ch.new hT (.tup ([V.str w3]++[V.int (a:Int),V.int (b:Int)]))))
   obtain ⟨f1,f2,f3,f4⟩:=fin (g':=g') cA (by rw [zaai,eg']; rfl) og'
   exact ⟨f1,f2,f3,f4,rfl⟩
 rintro σ H3 ⟨sg,ys,c3,g3,gg3,ok3,l3,ho3,rfl⟩
 walk_at "rd"
 rename_i X dX hX hdX nX
 have ci:=Ch.inst (C:=CN) hX hdX nX
 exact ⟨ci.get g3 (by simp),gg3.tu (Tu.same ci),ok3,by omega,ci.get ho3 (by simp),fun o ho=>(by rw [l3]; exact lo o ho),by omega,fun gp op H9 c9 na=>⟨rfl,q X gp op _ _ _ H9 (c3.trans (B17.Ch.made hX hdX nX c9)) na (by omega) (by omega)⟩⟩
end
end

section
structure BadV (CN:Addr) (H:Hp) (nt v:V):Prop where
 h:∀ {H2:Hp},Ch [] H H2→∀ R:VK,(∀ H',Ch [] H2 H'→R (.bl false) H')→SHc CN [nt,nt,v] H2 R
theorem BadV.ch {CN:Addr}{H H':Hp}{nt v:V} (b:BadV CN H nt v) (c:Ch [] H H'):BadV CN H' nt v:=⟨fun d R q=>b.h (c.trans d) R q⟩
theorem bad1 {CN nt:Addr}{H:Hp}{v:V}{t:Pv} (a:PvAt H v t) (p:t.pair=false):BadV CN H (.ref nt) v :=
 ⟨fun c R q=>⟨.inr (.inl ⟨nt,nt,v,t,.list,.list,rfl,a.ch c,p,q⟩)⟩⟩
theorem bad2 {CN nt gp op pp:Addr}{H:Hp}{gs:List Gt}{xs:List V}{os:List Nat}{lv w:V}{k1 k2:SK} (n:NetAt CN H nt gp op gs xs os) (l:gs.length≤1000) (hp:SqX k1 H pp [lv,w]) (b:BadL k2 H gs.length lv):BadV CN H (.ref nt) (.ref pp) :=
 ⟨fun c R q=>⟨.inr (.inr (.inl ⟨nt,nt,gp,op,pp,gs,xs,os,lv,w,k1,k2,.list,rfl,n.ch c,l,hp.ch c,b.ch c,q⟩))⟩⟩
theorem bad3 {CN nt gp op pp ll:Addr}{H:Hp}{gs:List Gt}{xs:List V}{os:List Nat}{w:V}{k1 k2 k3:SK} (n:NetAt CN H nt gp op gs xs os) (l:gs.length≤1000) (hp:SqX k1 H pp [.ref ll,w]) (hl:SqX k2 H ll []) (b:BadP k3 H gs.length (gs.length:Int) w):BadV CN H (.ref nt) (.ref pp) :=
 ⟨fun c R q=>⟨.inr (.inr (.inr ⟨nt,gp,op,nt,gp,op,pp,ll,gs,gs,xs,xs,os,os,w,k1,k2,k3,rfl,n.ch c,n.ch c,l,hp.ch c,hl.ch c,b.ch c,q⟩))⟩⟩
theorem bad4 {CN nt gp op pp ll ql:Addr}{H:Hp}{gs:List Gt}{xs qs:List V}{os:List Nat}{k1 k2 k3:SK}{prs:Prs} (n:NetAt CN H nt gp op gs xs os) (l:gs.length≤1000) (hp:SqX k1 H pp [.ref ll,.ref ql]) (hl:SqX k2 H ll []) (hq:SqX k3 H ql qs) (pk:PrK H prs qs) (pr:Ppr gs os gs [] prs) (f:shB gs os gs os [] prs=false):BadV CN H (.ref nt) (.ref pp) :=
 ⟨fun c R q=>⟨.inl ⟨nt,gp,op,nt,gp,op,pp,ll,ql,k1,k2,k3,gs,gs,[],xs,xs,[],qs,os,os,prs,rfl,n.ch c,n.ch c,hp.ch c,hl.ch c,⟨rfl,fun i g e=>by simp at e⟩,hq.ch c,pk.ch c,l,l,by simp,pr,fun H' c'=>by rw [f]; exact q H' c'⟩⟩⟩
theorem zapo {gs:List Gt}{os:List Nat}{prs:Prs}{k n:Nat}{g:Gt} (lp:prs.length=gs.length) (eg:gs[k]?=some g) (ek:prs[k]?=some (some (n,none))):shB gs os gs os [] prs=false:=by
 unfold shB
 rw [decide_eq_true lp,Bool.true_and]
 cases ei:g.isIn with
 | true =>
  have m:∃ j:Nat,(numsOf Gt.isIn gs 0)[j]?=some k:=by
   have:k∈numsOf Gt.isIn gs 0:=by
    have e1:=zad3 Gt.isIn eg
    rw [ei,if_pos rfl] at e1
    have h1:k∈numsOf Gt.isIn (gs.take (k + 1)) 0:=by rw [e1]; simp
    have e2:=zad2 Gt.isIn (gs.take (k + 1)) (gs.drop (k + 1)) 0
    rw [List.take_append_drop] at e2
    rw [e2]
    exact List.mem_append_left _ h1
   exact List.getElem?_of_mem this
  obtain ⟨j,hj⟩:=m
  have b:ihB gs gs prs=false:=by
   unfold ihB
   rw [zadl hj hj (by unfold okI; rw [ek]; simp),Bool.and_false]
  rw [b,Bool.false_and]
 | false =>
  have b:ghB gs (gs++[]) prs=false:=zadl eg ek (by unfold okG; rw [ei]; simp [phW])
  rw [b,Bool.and_false,Bool.and_false]
theorem zab2 (gs:List Gt):(prsOf gs).length=gs.length:=by simp [prsOf]
theorem zac2 {gs:List Gt}{i:Nat}{g:Gt} (e:gs[i]?=some g):(prsOf gs)[i]?=some (some (i,some (whyOf g))):=by
 unfold prsOf
 rw [List.getElem?_mapIdx,e]; rfl
theorem zal4 {gs:List Gt} (n0:1≤gs.length) (l:gs.length≤1000):AllP (prsOf gs):=by
 refine ⟨fun i hi=>?_,by rw [zab2]; exact n0,by rw [zab2]; exact l⟩
 rw [zab2] at hi
 exact ⟨i,_,zac2 (List.getElem?_eq_getElem hi),by rw [zab2]; exact hi⟩
theorem zajc {H:Hp}{gs:List Gt}{qs:List V} (pt:PrT H (prsOf gs) qs):∀ z∈qs,ElAt H (gs.length:Int) z true:=fun z hz=>by
 obtain ⟨i,hi⟩:=List.getElem?_of_mem hz
 have li:i < gs.length:=by have:=(List.getElem?_eq_some_iff.mp hi).1; rw [pt.pk.len,zab2] at this; exact this
 obtain ⟨a,ea,ha⟩:=pt.tk i _ (zac2 (List.getElem?_eq_getElem li))
 rw [hi] at ea
 cases ea
 have b:Pv.below (gs.length:Int) (.pl (V.int (i:Int)))=true:=by
  show (decide (0≤(i:Int)) && decide ((i:Int) < gs.length))=true
  simp
  exact li
 rw [← b]
 exact .pr (kd:=.tuple) rfl ha ⟨rfl,.int _⟩
theorem zal5 {H:Hp}{gs:List Gt}{ql:Addr}{qs:List V}{k:Nat}{z:V} (k3:SK) (pt:PrT H (prsOf gs) qs) (hq:SqX k3 H ql (qs.take k++[z]++qs.drop (k + 1))) (el:∃ b,ElAt H (gs.length:Int) z b) (bad:∀ H' b,Ch [] H H'→ElAt H' (gs.length:Int) z b→b=false):BadP k3 H gs.length (gs.length:Int) (.ref ql):=by
 refine ⟨.inr ⟨ql,_,rfl,hq,.inr ⟨fun y hy=>?_,z,by simp,bad⟩⟩⟩
 rcases List.mem_append.mp hy with h | h
 ·rcases List.mem_append.mp h with h | h
  ·exact ⟨true,zajc pt y (List.mem_of_mem_take h)⟩
  ·rw [List.mem_singleton.mp h]; exact el
 ·exact ⟨true,zajc pt y (List.mem_of_mem_drop h)⟩
end

section
inductive SG (m:Nat):List V→Prop
 | s_in:SG m [.str "in"]
 | s_not:SG m [.str "not",.int (m:Int)]
 | s_notT:SG m [.str "not",.bl true]
 | s_keep2:SG m [.str "keep",.int 2,.int 0]
 | s_keepT:SG m [.str "keep",.bl true,.int 0]
 | s_keep0T:SG m [.str "keep",.int 0,.bl true]
 | s_zero:SG m [.str "zero",.int 0]
 | s_odd:SG m [.str "odd",.int 0]
 | s_nil:SG m []
 | s_far:SG m [.str "keep",.int 0,.int ((m:Int) + 1)]
theorem SG.th {m:Nat}{xs:List V} (h:SG m xs):(∀ x∈xs,Th x)∧xs.length≤10:=by
 cases h <;> refine ⟨fun x hx=>?_,by simp⟩ <;> simp only [List.mem_cons,List.not_mem_nil,or_false] at hx
 all_goals (try (rcases hx with rfl | rfl | rfl)) <;> (try (rcases hx with rfl | rfl)) <;> (try subst hx) <;> (first | exact .str _ | exact .int _ | exact .bl _ | skip)
theorem SG.gate {m:Nat}{xs:List V} (h:SG m xs):gateB xs (m:Int) ((m:Int) + (((0:Nat):Int) + 1))=false∨∃ ys,xs=.str "in" :: ys:=by
 cases h with
 | s_in=>exact .inr ⟨_,rfl⟩
 | s_not=>exact .inl (by rw [zaez (c:=1) _ _ (by decide +kernel) (by decide +kernel)]; simp [belB])
 | s_notT=>exact .inl (by rw [zaez (c:=1) _ _ (by decide +kernel) (by decide +kernel)]; simp [belB])
 | s_keep2=>exact .inl (by rw [zaeb]; rfl)
 | s_keepT=>exact .inl (by rw [zaeb]; rfl)
 | s_keep0T=>exact .inl (by rw [zaeb]; simp [belB])
 | s_zero=>exact .inl (by rw [zaez (c:=0) _ _ (by decide +kernel) (by decide +kernel)]; simp)
 | s_odd=>exact .inl (zahp _ _ (by decide +kernel) (by decide +kernel))
 | s_nil=>exact .inl rfl
 | s_far=>exact .inl (by rw [zaeb]; simp [belB])
structure BadS (H:Hp) (m:Nat) (v:V):Prop where
 h:Th v∨∃ p xs,v=.ref p∧H p=some (.tup xs)∧SG m xs
theorem BadS.ch {H H':Hp}{m:Nat}{v:V} (b:BadS H m v) (c:Ch [] H H'):BadS H' m v:=⟨b.h.elim .inl fun ⟨p,xs,e,h,s⟩=>.inr ⟨p,xs,e,c.get h (by simp),s⟩⟩
theorem BadS.g {H:Hp}{m:Nat}{v:V} (b:BadS H m v):BadG H (m:Int) ((m:Int) + (((0:Nat):Int) + 1)) v :=
 ⟨b.h.elim .inl fun ⟨p,xs,e,h,s⟩=>.inr ⟨p,.tuple,xs,e,h,s.th.1,s.th.2,s.gate⟩⟩
theorem BadS.l {H:Hp}{m:Nat}{v:V}{p:Addr} (b:BadS H m v) (h:H p=some (.lst [v])):BadL .list H m (.ref p) :=
 ⟨.inr ⟨p,v,[],rfl,h,by simp,b.g⟩⟩
theorem BadL.th {H:Hp}{m:Nat}{v:V} (t:Th v) (kd:SK):BadL kd H m v:=⟨.inl t⟩
theorem BadP.th {H:Hp}{n:Nat}{t:Int}{v:V} (h:Th v) (kd:SK):BadP kd H n t v:=⟨.inl h⟩
end

section
section
variable {M:Model}{A:Around}{E:Value→Shared→Prop}{s:Shared}{Q:Value→Shared→Prop}
theorem zaip {v:Value}{d:Bool} (nb:∀ i,v≠.builtin i) (h:Q (.bool (v == .bool d)) s):wpAny M A (compareOp .Is v (.bool d)) Q E s:=by
 cases v <;> first | exact wpAny_pure h | exact absurd rfl (nb _)
end
theorem zanw {X:Cx}:OpR X (compareOp .Is) (fun x y H Q=>∃ b,y=.bl b∧Q (.bl (decide (x=.bl b))) H):=by
 intro pins s σ H x y v u Q I rx ry h
 obtain ⟨b,rfl,q⟩:=h
 cases ry
 refine zaip (fun i e=>?_) (zab1 I q ?_)
 ·subst e
  cases x <;> first
   | (cases rx; done)
   | (obtain ⟨t,rx⟩:=rx; cases rx)
 cases x <;> first
  | (cases rx; rfl)
  | (obtain ⟨t,rfl⟩:=rx; rfl)
  | (rename_i c; cases rx; cases c <;> cases b <;> rfl)
theorem Pv.same {H:Hp}{v:V}{a b:Pv}{t:Int} (h1:PvAt H v a) (h2:PvAt H v b):a.below t=b.below t:=by
 cases a with
 | pl u =>
  obtain ⟨rfl,tu⟩:=h1
  cases b with
  | pl u2=>obtain ⟨rfl,_⟩:=h2; rfl
  | sq xs=>obtain ⟨p,kd,rfl,_⟩:=h2; cases tu
 | sq xs =>
  obtain ⟨p,kd,rfl,_⟩:=h1
  cases b with
  | pl u2=>obtain ⟨rfl,tu⟩:=h2; cases tu
  | sq ys=>rfl
theorem SqX.same {k1 k2:SK}{H:Hp}{p:Addr}{xs ys:List V} (h1:SqX k1 H p xs) (h2:SqX k2 H p ys):xs=ys:=by
 cases k1 <;> cases k2 <;> (have e1:H p=_:=h1; have e2:H p=_:=h2; rw [e1] at e2; first | (cases e2; rfl) | cases e2)
theorem zapp {xs:List V}{i:Nat} (h:i≤xs.length):cutV xs none (some (i:Int))=xs.take i:=by
 unfold cutV
 rw [HT.sIx_none,HT.sIx_nat,List.drop_zero,Nat.sub_zero,Nat.min_eq_left h]
theorem zapq {xs:List V}{i:Nat} (h:i < xs.length):cutV xs (some ((i:Int) + 1)) none=xs.drop (i + 1):=by
 have e:HT.sIx xs.length 0 (some ((i:Int) + 1))=i + 1:=by
  show (if ((i:Int) + 1) < 0 then (((i:Int) + 1) + (xs.length:Int)).toNat else min ((i:Int) + 1).toNat xs.length)=_
  rw [if_neg (by omega)]
  omega
 show (xs.drop (HT.sIx xs.length 0 (some ((i:Int) + 1)))).take (xs.length - HT.sIx xs.length 0 (some ((i:Int) + 1)))=_
 rw [e,List.take_of_length_le (by rw [List.length_drop]; exact Nat.le_refl _)]
structure BadE (H:Hp) (t:Int) (z:V):Prop where
 el:∃ b,ElAt H t z b
 bad:∀ H' b,Ch [] H H'→ElAt H' t z b→b=false
theorem zapr {H:Hp}{t:Int}{T:Addr}{v y:V}{tv:Pv} (hT:H T=some (.tup [v,y])) (pv:PvAt H v tv) (bl:tv.below t=false):BadE H t (.ref T):=by
 refine ⟨⟨_,.pr (kd:=.tuple) rfl hT pv⟩,fun H' b c e=>?_⟩
 cases e with
 | non e=>cases e
 | @pr p kd x y' px e h p' =>
  cases e
  have:=SqX.same (k1:=.tuple) (show SqX .tuple H' T [v,y] from c.get hT (by simp)) h
  cases this
  rw [← bl]
  exact Pv.same p' (pv.ch c)
 | oth=>rfl
theorem zadx {H:Hp}{t:Int}{v:V}{tv:Pv} (pv:PvAt H v tv) (n:v≠.non) (np:tv.pair=false):BadE H t v:=by
 refine ⟨⟨_,.oth pv n np⟩,fun H' b c e=>?_⟩
 cases e with
 | non e=>exact absurd e n
 | @pr p kd x y' px e h p' =>
  subst e
  have pv:=pv.ch c
  cases tv with
  | pl u=>obtain ⟨rfl,tu⟩:=pv; cases tu
  | sq xs =>
   obtain ⟨p2,k2,e2,h2⟩:=pv
   cases e2
   have:=SqX.same h2 h
   subst this
   cases np
 | oth=>rfl
theorem bad5 {CN nt gp op pp ll ql:Addr}{H:Hp}{gs:List Gt}{xs qs ys:List V}{os:List Nat}{z:V}{k:Nat} (n:NetAt CN H nt gp op gs xs os) (l:gs.length≤1000) (pt:PrT H (prsOf gs) qs) (hp:H pp=some (.tup [.ref ll,.ref ql])) (hl:H ll=some (.lst [])) (hq:H ql=some (.lst ys)) (ey:ys=qs.take k++[z]++qs.drop (k + 1)) (b:BadE H (gs.length:Int) z):BadV CN H (.ref nt) (.ref pp):=by
 subst ey
 exact bad3 (k1:=.tuple) (k2:=.list) n l hp hl (zal5 .list pt hq b.el b.bad)
def Bads (CN:Addr) (H:Hp) (nt:Addr) (bl:Addr) (N:Nat):Prop:=∃ ps,H bl=some (.lst ps)∧ps.length≤N∧∀ p∈ps,BadV CN H (.ref nt) p
theorem zart {H:Hp}{gs:List Gt}{qs:List V}{k:Nat}{T:Addr}{y:V} (pt:PrT H (prsOf gs) qs) (lk:k < gs.length) (hT:H T=some (.tup [.int (k:Int),y])) (wy:WyAt H y none):PrK H ((prsOf gs).set k (some (k,none))) (qs.set k (.ref T)):=by
 have lq:qs.length=gs.length:=by rw [pt.pk.len,zab2]
 refine ⟨by rw [List.length_set,List.length_set,pt.pk.len],fun i p e=>?_,fun i e=>?_⟩
 ·rcases zaed e with ⟨rfl,e2,_⟩ | ⟨ne,e⟩
  ·cases e2
   exact ⟨T,.tuple,y,List.getElem?_set_self (by rw [lq]; exact lk),hT,wy⟩
  ·obtain ⟨a,kd,v,h1,h2,h3⟩:=pt.pk.at_ i p e
   exact ⟨a,kd,v,by rw [List.getElem?_set_ne (fun z=>ne z.symm)]; exact h1,h2,h3⟩
 ·rcases zaed e with ⟨_,e2,_⟩ | ⟨ne,e⟩
  ·cases e2
  ·rw [List.getElem?_set_ne (fun z=>ne z.symm)]; exact pt.pk.no i e
theorem zaps {qs:List V}{k:Nat}{z:V} (l:k < qs.length):qs.take k++[z]++qs.drop (k + 1)=qs.set k z:=by
 rw [List.set_eq_take_append_cons_drop,if_pos l,List.append_assoc]
 rfl
theorem bad6 {CN nt gp op pp ll ql T:Addr}{H:Hp}{gs:List Gt}{xs qs ys:List V}{os:List Nat}{y:V}{k:Nat} (n:NetAt CN H nt gp op gs xs os) (l:gs.length≤1000) (ok:Oks gs) (lo:∀ o∈os,o < gs.length) (pt:PrT H (prsOf gs) qs) (lk:k < gs.length) (hp:H pp=some (.tup [.ref ll,.ref ql])) (hl:H ll=some (.lst [])) (hq:H ql=some (.lst ys)) (ey:ys=qs.take k++[.ref T]++qs.drop (k + 1)) (hT:H T=some (.tup [.int (k:Int),y])) (wy:WyAt H y none):BadV CN H (.ref nt) (.ref pp):=by
 have lq:qs.length=gs.length:=by rw [pt.pk.len,zab2]
 rw [zaps (by rw [lq]; exact lk)] at ey
 subst ey
 refine bad4 (k1:=.tuple) (k2:=.list) (k3:=.list) (prs:=(prsOf gs).set k (some (k,none))) n l hp hl hq (zart pt lk hT wy) ⟨ok,fun p hp=>?_,fun j g e=>by simp at e,lo⟩ (zapo (k:=k) (n:=k) (by rw [List.length_set,zab2]) (List.getElem?_eq_getElem lk) (List.getElem?_set_self (by rw [zab2]; exact lk)))
 rw [List.append_nil]
 rcases List.mem_or_eq_of_mem_set hp with z | z
 ·obtain ⟨i,hi⟩:=List.getElem?_of_mem z
  have li:i < gs.length:=by have:=(List.getElem?_eq_some_iff.mp hi).1; rw [zab2] at this; exact this
  rw [zac2 (List.getElem?_eq_getElem li)] at hi
  cases hi
  exact li
 ·cases z; exact lk
end

section
theorem bad1t {CN nt p:Addr}{H:Hp}{xs:List V} (h:H p=some (.tup xs)) (n:(Pv.sq xs).pair=false):BadV CN H (.ref nt) (.ref p):=bad1 (t:=.sq xs) ⟨p,.tuple,rfl,h⟩ n
theorem bad1l {CN nt p:Addr}{H:Hp}{xs:List V} (h:H p=some (.lst xs)) (n:(Pv.sq xs).pair=false):BadV CN H (.ref nt) (.ref p):=bad1 (t:=.sq xs) ⟨p,.list,rfl,h⟩ n
theorem zajw {H:Hp}{gs:List Gt}{qs:List V}{ql:Addr} (n0:1≤gs.length) (l:gs.length≤1000) (pt:PrT H (prsOf gs) qs) (hq:H ql=some (.lst qs)):BadL .list H gs.length (.ref ql):=by
 obtain ⟨pa,ea,ha⟩:=pt.tk 0 _ (zac2 (List.getElem?_eq_getElem (show 0 < gs.length from n0)))
 have lq:qs.length=gs.length:=by rw [pt.pk.len,zab2]
 cases qs with
 | nil=>simp at ea
 | cons z zs =>
  have ea:z=.ref pa:=by simpa using ea
  subst ea
  refine ⟨.inr ⟨ql,_,zs,rfl,hq,by simp at lq; omega,⟨.inr ⟨pa,.tuple,_,rfl,ha,fun x hx=>?_,by simp,.inl rfl⟩⟩⟩⟩
  simp only [List.mem_cons,List.not_mem_nil,or_false] at hx
  rcases hx with rfl | rfl
  ·exact .int _
  ·exact .str _
theorem bads11 {CN nt gp op a b c d e f g ql l:Addr}{H:Hp}{gs:List Gt}{xs qs:List V}{os:List Nat}{x y u1 u2 u3 w1 w2:V} (n:NetAt CN H nt gp op gs xs os) (n0:1≤gs.length) (l1:gs.length≤1000) (pt:PrT H (prsOf gs) qs) (hq:H ql=some (.lst qs)) (ha:H a=some (.lst [])) (hb:H b=some (.tup [x])) (hc:H c=some (.tup [y])) (hd:H d=some (.tup [u1,u2,u3])) (he:H e=some (.tup [.ref ql,w1])) (hf:H f=some (.tup [.non,w2])) (hg:H g=some (.tup [.ref l,.non])) (hl:H l=some (.lst [])) :
  ∀ p∈[V.non,.int 7,.str "",.bl true,.ref a,.ref b,.ref c,.ref d,.ref e,.ref f,.ref g],BadV CN H (.ref nt) p:=by
 intro p hp
 simp only [List.mem_cons,List.not_mem_nil,or_false] at hp
 rcases hp with rfl | rfl | rfl | rfl | rfl | rfl | rfl | rfl | rfl | rfl | rfl
 ·exact bad1 (t:=.pl .non) ⟨rfl,.non⟩ rfl
 ·exact bad1 (t:=.pl _) ⟨rfl,.int _⟩ rfl
 ·exact bad1 (t:=.pl _) ⟨rfl,.str _⟩ rfl
 ·exact bad1 (t:=.pl _) ⟨rfl,.bl _⟩ rfl
 ·exact bad1l ha rfl
 ·exact bad1t hb rfl
 ·exact bad1t hc rfl
 ·exact bad1t hd rfl
 ·exact bad2 (k1:=.tuple) n l1 he (zajw n0 l1 pt hq)
 ·exact bad2 (k1:=.tuple) (k2:=.list) n l1 hf (.th .non _)
 ·exact bad3 (k1:=.tuple) (k2:=.list) (k3:=.list) n l1 hg hl (.th .non _)
theorem bads4 {CN nt gp op a b c d t l m:Addr}{H:Hp}{gs:List Gt}{xs:List V}{os:List Nat}{w1 w2 w3:V} (n:NetAt CN H nt gp op gs xs os) (l1:gs.length≤1000) (ha:H a=some (.tup [.str "",w1])) (hb:H b=some (.tup [.ref l,.str "same"])) (hl:H l=some (.lst [])) (hc:H c=some (.tup [.int 0,w2])) (hd:H d=some (.tup [.ref m,w3])) (hm:H m=some (.lst [.ref t])) (ht:H t=some (.tup [.str "keep",.int 0,.int ((gs.length:Int) + 1)])) :
  ∀ p∈[V.ref a,.ref b,.ref c,.ref d],BadV CN H (.ref nt) p:=by
 intro p hp
 simp only [List.mem_cons,List.not_mem_nil,or_false] at hp
 rcases hp with rfl | rfl | rfl | rfl
 ·exact bad2 (k1:=.tuple) (k2:=.list) n l1 ha (.th (.str _) _)
 ·exact bad3 (k1:=.tuple) (k2:=.list) (k3:=.list) n l1 hb hl (.th (.str _) _)
 ·exact bad2 (k1:=.tuple) (k2:=.list) n l1 hc (.th (.int _) _)
 ·exact bad2 (k1:=.tuple) (k2:=.list) n l1 hd (BadS.l ⟨.inr ⟨t,_,rfl,ht,.s_far⟩⟩ hm)
theorem Bads.app {CN nt bl':Addr}{N M:Nat}{H H':Hp}{ps ys:List V} (lps:ps.length≤N) (aps:∀ p∈ps,BadV CN H (.ref nt) p) (c:Ch [] H H') (h:H' bl'=some (.lst (ps++ys))) (l:ys.length≤M) (a:∀ p∈ys,BadV CN H' (.ref nt) p):Bads CN H' nt bl' (N + M) :=
 ⟨_,h,by rw [List.length_append]; omega,fun p hp=>(List.mem_append.mp hp).elim (fun z=>(aps p z).ch c) (a p)⟩
theorem BadS.r {H:Hp}{m:Nat}{p:Addr}{xs:List V} (h:H p=some (.tup xs)) (s:SG m xs):BadS H m (.ref p):=⟨.inr ⟨p,xs,rfl,h,s⟩⟩
def Sts (H:Hp) (m:Nat) (sl:Addr) (N:Nat):Prop:=∃ zs,H sl=some (.lst zs)∧zs.length≤N∧∀ z∈zs,BadS H m z
theorem sts5 {H:Hp}{m:Nat}{a b c d e:Addr} (ha:H a=some (.tup [.str "in"])) (hb:H b=some (.tup [.str "not",.int (m:Int)])) (hc:H c=some (.tup [.str "not",.bl true])) (hd:H d=some (.tup [.str "keep",.int 2,.int 0])) (he:H e=some (.tup [.str "keep",.bl true,.int 0])):∀ z∈[V.ref a,.ref b,.ref c,.ref d,.ref e],BadS H m z:=by
 intro p hp
 simp only [List.mem_cons,List.not_mem_nil,or_false] at hp
 rcases hp with rfl | rfl | rfl | rfl | rfl
 ·exact .r ha .s_in
 ·exact .r hb .s_not
 ·exact .r hc .s_notT
 ·exact .r hd .s_keep2
 ·exact .r he .s_keepT
theorem sts3 {H:Hp}{m:Nat}{a b c:Addr} (ha:H a=some (.tup [.str "keep",.int 0,.bl true])) (hb:H b=some (.tup [.str "zero",.int 0])) (hc:H c=some (.tup [.str "odd",.int 0])):∀ z∈[V.ref a,.ref b,.ref c],BadS H m z:=by
 intro p hp
 simp only [List.mem_cons,List.not_mem_nil,or_false] at hp
 rcases hp with rfl | rfl | rfl
 ·exact .r ha .s_keep0T
 ·exact .r hb .s_zero
 ·exact .r hc .s_odd
theorem sts4 {H:Hp}{m:Nat}{a:Addr} (ha:H a=some (.tup [])):∀ z∈[V.ref a,.str "zero",.non,.int 3],BadS H m z:=by
 intro p hp
 simp only [List.mem_cons,List.not_mem_nil,or_false] at hp
 rcases hp with rfl | rfl | rfl | rfl
 ·exact .r ha .s_nil
 ·exact ⟨.inl (.str _)⟩
 ·exact ⟨.inl .non⟩
 ·exact ⟨.inl (.int _)⟩
theorem bad7 {CN nt gp op pp l:Addr}{H:Hp}{gs:List Gt}{xs:List V}{os:List Nat}{v w:V} (n:NetAt CN H nt gp op gs xs os) (l1:gs.length≤1000) (hp:H pp=some (.tup [.ref l,w])) (hl:H l=some (.lst [v])) (b:BadS H gs.length v):BadV CN H (.ref nt) (.ref pp) :=
 bad2 (k1:=.tuple) (k2:=.list) n l1 hp (b.l hl)
theorem badE7 {H:Hp}{t:Int}{a b c:Addr} (ha:H a=some (.tup [])) (hb:H b=some (.tup [.int 0])) (hc:H c=some (.tup [.int 0,.str "in",.int 1])):∀ z∈[V.str "x",.int 7,.bl true,.ref a,.ref b,.ref c,.str "in"],BadE H t z:=by
 intro p hp
 simp only [List.mem_cons,List.not_mem_nil,or_false] at hp
 have hn:∀ {q:Addr},V.ref q≠.non:=fun z=>by cases z
 rcases hp with rfl | rfl | rfl | rfl | rfl | rfl | rfl
 ·exact zadx (tv:=.pl _) ⟨rfl,.str _⟩ (by intro z; cases z) rfl
 ·exact zadx (tv:=.pl _) ⟨rfl,.int _⟩ (by intro z; cases z) rfl
 ·exact zadx (tv:=.pl _) ⟨rfl,.bl _⟩ (by intro z; cases z) rfl
 ·exact zadx (tv:=.sq _) ⟨a,.tuple,rfl,ha⟩ hn rfl
 ·exact zadx (tv:=.sq _) ⟨b,.tuple,rfl,hb⟩ hn rfl
 ·exact zadx (tv:=.sq _) ⟨c,.tuple,rfl,hc⟩ hn rfl
 ·exact zadx (tv:=.pl _) ⟨rfl,.str _⟩ (by intro z; cases z) rfl
theorem BadE.ch {H H':Hp}{t:Int}{z:V} (b:BadE H t z) (c:Ch [] H H'):BadE H' t z:=⟨b.el.elim fun x e=>⟨x,e.ch c⟩,fun H2 x c2 e=>b.bad H2 x (c.trans c2) e⟩
theorem Bads.to {CN nt bl:Addr}{N:Nat}{H H':Hp} (c:Ch [] H H') (k:Ch [] H H'→Bads CN H' nt bl N):Bads CN H' nt bl N:=k c
theorem Sts.to {m:Nat}{sl:Addr}{N:Nat}{H H':Hp} (c:Ch [] H H') (k:Ch [] H H'→Sts H' m sl N):Sts H' m sl N:=k c
end

section
section
variable {P:Program}{w:World}{K:PySem.W.Frag}{mg:Str→Option Value}{base:Heap}{f:Addr}{fd:FuncData}{k:Nat}
theorem zacm:Nd "_law_said" := by decide +kernel
theorem av41:AF (defScope (top 41)) ["_law_net_here", "_law_pairs_here", "_law_m", "_law_k", "_law_beyond", "_law_bad", "_law_why", "_law_many", "_law_strange", "_law_gate", "_law_paper"]:=⟨by decide +kernel⟩
theorem gl41:AG (defScope (top 41)) ["len", "_law_said"]:=⟨by decide +kernel⟩
def spFF (CN:Addr):Sp:=fun vs H Q _=>∃ (nt gp op ql:Addr) (gs:List Gt) (xs qs:List V) (os:List Nat) (m:Int),vs=[.ref nt,.ref ql,.int m]∧NetAt CN H nt gp op gs xs os∧1≤gs.length∧gs.length≤1000∧Oks gs∧(∀ o∈os,o < gs.length)∧H ql=some (.lst qs)∧PrT H (prsOf gs) qs∧0≤m∧m < 2 ^ 60∧∀ (H':Hp),Ch [] H H'→Q (.bl true) H'
theorem scFF:FnScope ["_law_net_here", "_law_pairs_here", "_law_m", "_law_k", "_law_beyond", "_law_bad", "_law_why", "_law_many", "_law_strange", "_law_gate", "_law_paper"] ["_law_net_here", "_law_pairs_here", "_law_m"] (defScope (top 41)):=⟨rfl,rfl,rfl,by decide +kernel,rfl,by decide +kernel,by decide +kernel⟩
theorem zasr {CN:Addr} (F:Fun K "_law_forms_false" "_law_forms_false" (top 41) f fd) (cl:Cls K CN) (nG:NoAttr K CN "gates") (D_law_said:DefOk P w K mg base CX0 k "_law_said" ["_law_net_here", "_law_small", "_law_paper", "_law_due"] (spSaid CN)) (z_len:mg "len" = none):FnOk P w K mg base CX0 (k + 1) f fd ["_law_net_here", "_law_pairs_here", "_law_m"] (spFF CN):=by
 have nd:=scFF.nd
 refine F.ok scFF (fun vs H Q E h=>by obtain ⟨nt,gp,op,ql,gs,xs,qs,os,m,rfl,_⟩:=h; rfl) (fun cdv A outer s0 H vs Q E hr h=>?_)
 obtain ⟨nt,gp,op,ql,gs,xs,qs,os,m,rfl,na,n0,l1,ok,lo,hql,pt,m0,m1,q⟩:=h
 have hu:=zahz hr
 have lq:qs.length=gs.length:=by rw [pt.pk.len,zab2]
 refine ⟨_,(Pr.h (zaaz (zaat (i:=3) nd rfl (av41.l 3 rfl) (zaav zabn (qv av41 2 rfl) (zaap zaam (gl41.g 0 rfl) z_len PySem.boot_len (zaaa (qv av41 1 rfl) zaab zaac) zabb zabc))) (zaaz (zaat (i:=4) nd rfl (av41.l 4 rfl) (zaao zaaq (zaa0 (zaaa zaa5 (zaaa zaa5 (zaaa (zani zanc zaae) (zaaa (zaap zaam (gl41.g 0 rfl) z_len PySem.boot_len (zaaa (qv av41 1 rfl) zaab zaac) zabb zabc) (zaaa zabv (zaaa zaaj (zaaa (zaa0 (zaaa zaae zaab zaad)) (zaaa (zaav zaql zaae zaae) zaab zabh) zabt) zaad) zaad) zab0) zaf0) zaad) zaad)) (zaav zabn (zaav zab3 (qv av41 2 rfl) zaae) zaae) (fun _ _=>rfl))) (zaaz (zaat (i:=5) nd rfl (av41.l 5 rfl) (zaa0 (zaaa (zaay (zaaa (zaa0 zaab) (zaaa (zaav zace (zaav zace (zabw zadd (qv av41 1 rfl) zaca (zab6 (qv av41 3 rfl))) (zaa0 (zaaa (zaay (zaaa (qv av41 4 rfl) (zaaa (zaao zaa9 (zaao zaaq (qv av41 1 rfl) (qv av41 3 rfl) (fun _ _=>rfl)) zaae (fun _ _=>rfl)) zaab zaas) zaac)) zaab zaa2))) (zabw zadd (qv av41 1 rfl) (zab6 (zaav zacx (qv av41 3 rfl) zaae)) zaca)) zaab zabh) zabt)) zaab zaa2))) (zaaz (zaax (zabx (zack (zabx (zac1 (zaak zanw (qv av41 4 rfl) zaa5 (nomark _)) (zacq (zaak zaem (zaao zaa9 (zaao zaaq (qv av41 1 rfl) (qv av41 3 rfl) (fun _ _=>rfl)) zaae (fun _ _=>rfl)) zaae (nomark _))))) (zab8 (zabx (zac1 (zaak zanw (qv av41 4 rfl) zaa5 (nomark _)) (zacq (zaak zaem (zaao zaa9 (zaao zaaq (qv av41 1 rfl) (qv av41 3 rfl) (fun _ _=>rfl)) zaae (fun _ _=>rfl)) zaae (nomark _)))))))) (zaag (zaat (i:=5) nd rfl (av41.l 5 rfl) (zaav zace (qv av41 5 rfl) (zaa0 (zaaa (zaay (zaaa (zaa0 zaab) (zaaa (zaav zace (zaav zace (zabw zadd (qv av41 1 rfl) zaca (zab6 (qv av41 3 rfl))) (zaa0 (zaaa (zaay (zaaa (zaao zaa9 (zaao zaaq (qv av41 1 rfl) (qv av41 3 rfl) (fun _ _=>rfl)) zaae (fun _ _=>rfl)) zaab zaas)) zaab zaa2))) (zabw zadd (qv av41 1 rfl) (zab6 (zaav zacx (qv av41 3 rfl) zaae)) zaca)) zaab zabh) zabt)) zaab zaa2))))) zaan) (zaaz (zaat (i:=6) nd rfl (av41.l 6 rfl) (zaao zaaq (zaa0 (zaaa zabv (zaaa zaae (zaaa (zaa0 (zaaa zaaj zaab zaad)) (zaaa zaa5 (zaaa (zaay (zaaa zaaj zaab zaad)) zaab zaa2) zaad) zabt) zaad) zaad)) (zaav zabn (zaav zab3 (qv av41 2 rfl) zaae) zaae) (fun _ _=>rfl))) (zaaz (zaat (i:=5) nd rfl (av41.l 5 rfl) (zaav zace (qv av41 5 rfl) (zaa0 (zaaa (zaay (zaaa (zaa0 zaab) (zaaa (zaav zace (zaav zace (zabw zadd (qv av41 1 rfl) zaca (zab6 (qv av41 3 rfl))) (zaa0 (zaaa (zaay (zaaa (zaao zaa9 (zaao zaaq (qv av41 1 rfl) (qv av41 3 rfl) (fun _ _=>rfl)) zaae (fun _ _=>rfl)) (zaaa (qv av41 6 rfl) zaab zaac) zaas)) zaab zaa2))) (zabw zadd (qv av41 1 rfl) (zab6 (zaav zacx (qv av41 3 rfl) zaae)) zaca)) zaab zabh) zabt)) zaab zaa2)))) (zaaz (zaat (i:=5) nd rfl (av41.l 5 rfl) (zaav zace (qv av41 5 rfl) (zaa0 (zaaa (zaay (zaaa (zaa0 zaab) (zaaa (zaav zace (zaav zace (zabw zadd (qv av41 1 rfl) zaca (zab6 (qv av41 3 rfl))) (zaa0 (zaaa (zaao zaaq (zaa0 (zaaa zaaj (zaaa zaae (zaaa zaa5 (zaaa (zaay zaab) (zaaa (zaay (zaaa zaae zaab zaad)) (zaaa (zaay (zaaa zaae (zaaa zaaj (zaaa zaae zaab zaad) zaad) zaad)) (zaaa zaaj zaab zaad) zaa2) zaa2) zaa2) zaad) zaad) zaad)) (zaav zabn (zaav zab3 (qv av41 2 rfl) zaae) zaae) (fun _ _=>rfl)) zaab zaas))) (zabw zadd (qv av41 1 rfl) (zab6 (zaav zacx (qv av41 3 rfl) zaae)) zaca)) zaab zabh) zabt)) zaab zaa2)))) (zaaz (zaat (i:=5) nd rfl (av41.l 5 rfl) (zaav zace (qv av41 5 rfl) (zaa0 (zaaa zabv (zaaa zaae (zaaa zaaj (zaaa zaa5 (zaaa (zaa0 zaab) (zaaa (zaay (zaaa (zaa0 zaab) zaab zabt)) (zaaa (zaay (zaaa (qv av41 1 rfl) zaab zaac)) (zaaa (zaay (zaaa (zaa0 zaab) (zaaa (qv av41 1 rfl) (zaaa (zaa0 zaab) zaab zabt) zaac) zabt)) (zaaa (zaay (zaaa (qv av41 1 rfl) (zaaa (zaa0 zaab) zaab zabt) zaac)) (zaaa (zaay (zaaa zabv (zaaa (qv av41 1 rfl) zaab zaac) zaad)) (zaaa (zaay (zaaa (zaa0 zaab) (zaaa zabv zaab zaad) zabt)) zaab zaa2) zaa2) zaa2) zaa2) zaa2) zaa2) zabt) zaad) zaad) zaad) zaad)))) (zaaz (zaat (i:=7) nd rfl (av41.l 7 rfl) (zaap zaam (gl41.g 0 rfl) z_len PySem.boot_len (zaaa (zab7 (qv av41 0 rfl) rfl) zaab zaa4) zabb zabc)) (zaaz (zaat (i:=8) nd rfl (av41.l 8 rfl) (zaa0 (zaaa (zaay (zaaa zaaj zaab zaad)) (zaaa (zaay (zaaa zaaj (zaaa (qv av41 7 rfl) zaab zaac) zaad)) (zaaa (zaay (zaaa zaaj (zaaa zaa5 zaab zaad) zaad)) (zaaa (zaay (zaaa zaaj (zaaa zaae (zaaa zaae zaab zaad) zaad) zaad)) (zaaa (zaay (zaaa zaaj (zaaa zaa5 (zaaa zaae zaab zaad) zaad) zaad)) zaab zaa2) zaa2) zaa2) zaa2) zaa2))) (zaaz (zaat (i:=8) nd rfl (av41.l 8 rfl) (zaav zace (qv av41 8 rfl) (zaa0 (zaaa (zaay (zaaa zaaj (zaaa zaae (zaaa zaa5 zaab zaad) zaad) zaad)) (zaaa (zaay (zaaa zaaj (zaaa zaae zaab zaad) zaad)) (zaaa (zaay (zaaa zaaj (zaaa zaae zaab zaad) zaad)) zaab zaa2) zaa2) zaa2)))) (zaaf (zaby PassesOwn.never rfl (zac6 (zaav zace (qv av41 8 rfl) (zaa0 (zaaa (zaay zaab) (zaaa zaaj (zaaa zabv (zaaa zaae zaab zaad) zaad) zaad) zaa2)))) (zaa1 (i:=9) nd rfl (av41.l 9 rfl)) (zaag (zaat (i:=5) nd rfl (av41.l 5 rfl) (zaav zace (qv av41 5 rfl) (zaa0 (zaaa (zaay (zaaa (zaa0 (zaaa (qv av41 9 rfl) zaab zaac)) (zaaa (qv av41 1 rfl) zaab zaac) zabt)) zaab zaa2)))))) (zaaz (zaat (i:=5) nd rfl (av41.l 5 rfl) (zaav zace (qv av41 5 rfl) (zaa0 (zaaa (zaay (zaaa zaaj (zaaa (qv av41 1 rfl) zaab zaac) zaad)) (zaaa (zaay (zaaa (zaa0 zaab) (zaaa zaaj zaab zaad) zabt)) (zaaa (zaay (zaaa zaae (zaaa (qv av41 1 rfl) zaab zaac) zaad)) (zaaa (zaay (zaaa (zaa0 (zaaa (zaay (zaaa zaaj (zaaa zaae (zaaa (zaav zacx (qv av41 7 rfl) zaae) zaab zabh) zaad) zaad)) zaab zaa2)) (zaaa (qv av41 1 rfl) zaab zaac) zabt)) zaab zaa2) zaa2) zaa2) zaa2)))) (zaaf (zaby PassesOwn.never rfl (zac6 (qv av41 5 rfl)) (zaa1 (i:=10) nd rfl (av41.l 10 rfl)) (zaag (zaax (zabp (zabf (zaah D_law_said hr (gl41.g 1 rfl) pass0 (zaaa (qv av41 0 rfl) (zaaa (qv av41 0 rfl) (zaaa (qv av41 10 rfl) (zaaa zaa5 zaab zaad) zaac) zaac) zaac) zacm))) (zaag (zaal zaa5)) zaan))) (zaag (zaal zaa5))))))))))))))))),?_⟩
 (try dsimp only [cxOf])
 have k0:=Int.emod_nonneg m (b:=(qs.length:Int)) (by omega)
 have k1:=Int.emod_lt_of_pos m (b:=(qs.length:Int)) (by omega)
 obtain ⟨kk,ek⟩:∃ kk:Nat,m % (qs.length:Int)=kk:=⟨_,(Int.toNat_of_nonneg k0).symm⟩
 have lk:kk < qs.length:=by omega
 refine zaa6 (fun σ H'=>H'=H∧σ=[some (.ref nt),some (.ref ql),some (.int m),some (.int (kk:Int)),none,none,none,none,none,none,none]) ?_ ?_
 ·walk_at "rd"
  show [_,_,_,some (V.int (m % (qs.length:Int))),_,_,_,_,_,_,_]=_
  rw [ek]
 rintro σ H1 ⟨eH,rfl⟩
 subst eH
 obtain ⟨g,eg⟩:∃ g,gs[kk]?=some g:=⟨_,List.getElem?_eq_getElem (by omega)⟩
 obtain ⟨pa,ea,ha⟩:=pt.tk kk _ (zac2 eg)
 have ha:H1 pa=some (.tup [nV kk,.str (whyOf g)]):=ha
 have hai:H1 pa=some (.tup [.int (kk:Int),.str (whyOf g)]):=ha
 clear ha
 have at1:=zab4 ea
 have six:=Int.emod_nonneg (m / 61) (b:=8) (by omega)
 have six2:=Int.emod_lt_of_pos (m / 61) (b:=8) (by omega)
 refine zaa6 (fun σ H'=>∃ (v:V) (tv:Pv),Ch [] H1 H'∧PvAt H' v tv∧tv.below (gs.length:Int)=false∧σ=[some (.ref nt),some (.ref ql),some (.int m),some (.int (kk:Int)),some v,none,none,none,none,none,none]) ?_ ?_
 ·walk_at "rd"
  rename_i p0 hp0 p1 hp1
  refine Atx.any (by omega) (by show m / 61 % 8 < 8; omega) fun v hv _=>?_
  have hv:v∈[V.bl true,V.bl false,V.int (-1),V.int (qs.length:Int),V.non,V.str "0",V.ref p0,V.int (10 ^ 30)]:=hv
  have cc:=(Ch.new (W:=[]) hp0 (.lst [V.int 0])).trans (Ch.new hp1 (.lst [V.bl true,V.bl false,V.int (-1),V.int (qs.length:Int),V.non,V.str "0",V.ref p0,V.int (10 ^ 30)]))
  have g0:(upd (upd H1 p0 (.lst [V.int 0])) p1 (.lst [V.bl true,V.bl false,V.int (-1),V.int (qs.length:Int),V.non,V.str "0",V.ref p0,V.int (10 ^ 30)])) p0=some (.lst [V.int 0]):=zaba hp1 zaai
  have key:∃ tv,PvAt (upd (upd H1 p0 (.lst [V.int 0])) p1 (.lst [V.bl true,V.bl false,V.int (-1),V.int (qs.length:Int),V.non,V.str "0",V.ref p0,V.int (10 ^ 30)])) v tv∧tv.below (gs.length:Int)=false:=by
   simp only [List.mem_cons,List.not_mem_nil,or_false] at hv
   rcases hv with rfl | rfl | rfl | rfl | rfl | rfl | rfl | rfl
   ·exact ⟨.pl _,⟨rfl,.bl _⟩,rfl⟩
   ·exact ⟨.pl _,⟨rfl,.bl _⟩,rfl⟩
   ·exact ⟨.pl _,⟨rfl,.int _⟩,rfl⟩
   ·exact ⟨.pl _,⟨rfl,.int _⟩,by simp [Pv.below,belB]; omega⟩
   ·exact ⟨.pl _,⟨rfl,.non⟩,rfl⟩
   ·exact ⟨.pl _,⟨rfl,.str _⟩,rfl⟩
   ·exact ⟨.sq [V.int 0],⟨p0,.list,rfl,g0⟩,rfl⟩
   ·exact ⟨.pl _,⟨rfl,.int _⟩,by simp [Pv.below,belB]; omega⟩
  obtain ⟨tv,pv,tb⟩:=key
  exact ⟨v,tv,cc,pv,tb,rfl⟩
 rintro σ H2 ⟨v,tv,c2,pv,tb,rfl⟩
 have na2:=na.ch c2
 have pt2:=pt.ch c2
 have hq2:=c2.get hql (by simp)
 have ha2:=c2.get hai (by simp)
 have eA:=zapp (xs:=qs) (i:=kk) (by omega)
 have eB:=zapq (xs:=qs) (i:=kk) (by omega)
 refine zaa6 (fun σ H'=>∃ bl,Ch [] H2 H'∧Bads CN H' nt bl 1∧σ=[some (.ref nt),some (.ref ql),some (.int m),some (.int (kk:Int)),some v,some (.ref bl),none,none,none,none,none]) ?_ ?_
 ·walk_at "rd"
  rename_i l0 hl0 u1 hu1 T hT u2 hu2
  rw [eA] at hT hu2 ⊢
  refine ⟨by rw [sizeLine_eq,List.length_take]; show _ + 1≤16777216; omega,fun j1 hj1=>?_⟩
  have cA:=((((Ch.new (W:=[]) hl0 (.lst [])).trans (Ch.new hu1 (.lst (qs.take kk)))).trans (Ch.new hT (.tup [v,V.str (whyOf g)]))).trans (Ch.new hu2 (.lst [V.ref T]))).trans (Ch.new hj1 (.lst (qs.take kk++[V.ref T])))
  have g0:=zaba (u:=.lst (qs.take kk++[V.ref T])) hj1 (zaba (u:=.lst [V.ref T]) hu2 (zaba (u:=.tup [v,V.str (whyOf g)]) hT (zaba (u:=.lst (qs.take kk)) hu1 (zaai (H:=H2) (a:=l0) (o:=HO.lst [])))))
  have gT:=zaba (u:=.lst (qs.take kk++[V.ref T])) hj1 (zaba (u:=.lst [V.ref T]) hu2 (zaai (H:=upd (upd H2 l0 (.lst [])) u1 (.lst (qs.take kk))) (a:=T) (o:=.tup [v,V.str (whyOf g)])))
  have gJ:=zaai (H:=upd (upd (upd (upd H2 l0 (.lst [])) u1 (.lst (qs.take kk))) T (.tup [v,V.str (whyOf g)])) u2 (.lst [V.ref T])) (a:=j1) (o:=.lst (qs.take kk++[V.ref T]))
  have hqA:=cA.get hq2 (by simp)
  generalize upd (upd (upd (upd (upd H2 l0 (.lst [])) u1 (.lst (qs.take kk))) T (.tup [v,V.str (whyOf g)])) u2 (.lst [V.ref T])) j1 (.lst (qs.take kk++[V.ref T]))=HA at cA g0 gT gJ hqA ⊢
  have sq:SqL K HA ql qs:=SqL.of hqA
  walk_at "rd"
  rename_i u3 hu3
  rw [eB]
  refine ⟨by rw [sizeLine_eq,List.length_append,List.length_take,List.length_drop]; show _ + 1 + _≤16777216; omega,fun j2 hj2=>?_⟩
  walk_at "rd"
  rename_i pp hpp bl hbl
  have cB:=(((Ch.new (W:=[]) hu3 (.lst (qs.drop (kk + 1)))).trans (Ch.new hj2 (.lst (qs.take kk++[V.ref T]++qs.drop (kk + 1))))).trans (Ch.new hpp (.tup [V.ref l0,V.ref j2]))).trans (Ch.new hbl (.lst [V.ref pp]))
  have gQ:=zaba (u:=.lst [V.ref pp]) hbl (zaba (u:=.tup [V.ref l0,V.ref j2]) hpp (zaai (H:=upd HA u3 (.lst (qs.drop (kk + 1)))) (a:=j2) (o:=.lst (qs.take kk++[V.ref T]++qs.drop (kk + 1)))))
  refine ⟨⟨_,zaai,Nat.le_refl 1,fun p hp=>?_⟩,rfl⟩
  rw [List.mem_singleton.mp hp]
  exact bad5 (na2.ch (cA.trans cB)) l1 (pt2.ch (cA.trans cB)) (zaba hbl zaai) (cB.get g0 (by simp)) gQ rfl (zapr (cB.get gT (by simp)) (pv.ch (cA.trans cB)) tb)
 rintro σ H3 ⟨bl,c3,⟨ps,hps,lps,aps⟩,rfl⟩
 have na3:=na2.ch c3
 have pt3:=pt2.ch c3
 have hq3:=c3.get hq2 (by simp)
 have ha3:=c3.get ha2 (by simp)
 refine zaa6 (fun σ H'=>∃ bl,Ch [] H3 H'∧Bads CN H' nt bl 2∧σ=[some (.ref nt),some (.ref ql),some (.int m),some (.int (kk:Int)),some v,some (.ref bl),none,none,none,none,none]) ?_ ?_
 ·walk_at "rd"
  refine ite2 (fun h1=>?_) (fun h1=>?_) <;> walk_at "rd" <;> refine ite2 (fun h2=>?_) (fun h2=>?_) <;> walk_at "rd" <;> try (refine ite2 (fun h3=>?_) (fun h3=>?_) <;> walk_at "rd")
  all_goals try (refine ite2 (fun h4=>?_) (fun h4=>?_) <;> walk_at "rd")
  all_goals try (exact ⟨⟨ps,hps,by omega,aps⟩,rfl⟩)
  all_goals
   rename_i l0 hl0 u1 hu1 T hT u2 hu2
   rw [eA] at hT hu2 ⊢
   refine ⟨by rw [sizeLine_eq,List.length_take]; show _ + 1≤16777216; omega,fun j1 hj1=>?_⟩
   have cA:=((((Ch.new (W:=[]) hl0 (.lst [])).trans (Ch.new hu1 (.lst (qs.take kk)))).trans (Ch.new hT (.tup [V.int (kk:Int)]))).trans (Ch.new hu2 (.lst [V.ref T]))).trans (Ch.new hj1 (.lst (qs.take kk++[V.ref T])))
   have g0:=zaba (u:=.lst (qs.take kk++[V.ref T])) hj1 (zaba (u:=.lst [V.ref T]) hu2 (zaba (u:=.tup [V.int (kk:Int)]) hT (zaba (u:=.lst (qs.take kk)) hu1 (zaai (H:=H3) (a:=l0) (o:=HO.lst [])))))
   have gT:=zaba (u:=.lst (qs.take kk++[V.ref T])) hj1 (zaba (u:=.lst [V.ref T]) hu2 (zaai (H:=upd (upd H3 l0 (.lst [])) u1 (.lst (qs.take kk))) (a:=T) (o:=.tup [V.int (kk:Int)])))
   have gJ:=zaai (H:=upd (upd (upd (upd H3 l0 (.lst [])) u1 (.lst (qs.take kk))) T (.tup [V.int (kk:Int)])) u2 (.lst [V.ref T])) (a:=j1) (o:=.lst (qs.take kk++[V.ref T]))
   have hqA:=cA.get hq3 (by simp)
   have hpA:=cA.get hps (by simp)
   generalize upd (upd (upd (upd (upd H3 l0 (.lst [])) u1 (.lst (qs.take kk))) T (.tup [V.int (kk:Int)])) u2 (.lst [V.ref T])) j1 (.lst (qs.take kk++[V.ref T]))=HA at cA g0 gT gJ hqA hpA ⊢
   have sq:SqL K HA ql qs:=SqL.of hqA
   walk_at "rd"
   rename_i u3 hu3
   rw [eB]
   refine ⟨by rw [sizeLine_eq,List.length_append,List.length_take,List.length_drop]; show _ + 1 + _≤16777216; omega,fun j2 hj2=>?_⟩
   walk_at "rd"
   rename_i pp hpp ol hol bl2 hbl
   have cB:=((((Ch.new (W:=[]) hu3 (.lst (qs.drop (kk + 1)))).trans (Ch.new hj2 (.lst (qs.take kk++[V.ref T]++qs.drop (kk + 1))))).trans (Ch.new hpp (.tup [V.ref l0,V.ref j2]))).trans (Ch.new hol (.lst [V.ref pp]))).trans (Ch.new hbl (.lst (ps++[V.ref pp])))
   have gQ:=zaba (u:=.lst (ps++[V.ref pp])) hbl (zaba (u:=.lst [V.ref pp]) hol (zaba (u:=.tup [V.ref l0,V.ref j2]) hpp (zaai (H:=upd HA u3 (.lst (qs.drop (kk + 1)))) (a:=j2) (o:=.lst (qs.take kk++[V.ref T]++qs.drop (kk + 1))))))
   refine ⟨⟨_,zaai,by rw [List.length_append]; show _ + 1≤2; omega,fun p hp=>?_⟩,rfl⟩
   rcases List.mem_append.mp hp with z | z
   ·exact (aps p z).ch (cA.trans cB)
   ·rw [List.mem_singleton.mp z]
    exact bad5 (na3.ch (cA.trans cB)) l1 (pt3.ch (cA.trans cB)) (zaba hbl (zaba hol zaai)) (cB.get g0 (by simp)) gQ rfl (zadx (tv:=.sq [V.int (kk:Int)]) ⟨T,.tuple,rfl,cB.get gT (by simp)⟩ (by intro z; cases z) rfl)
 rintro σ H4 ⟨bl,c4,⟨ps,hps,lps,aps⟩,rfl⟩
 have na4:=na3.ch c4
 have pt4:=pt3.ch c4
 have hq4:=c4.get hq3 (by simp)
 have ha4:=c4.get ha3 (by simp)
 clear six six2
 have six:=Int.emod_nonneg (m / 7) (b:=5) (by omega)
 have six2:=Int.emod_lt_of_pos (m / 7) (b:=5) (by omega)
 refine zaa6 (fun σ H'=>∃ y,Ch [] H4 H'∧WyAt H' y none∧σ=[some (.ref nt),some (.ref ql),some (.int m),some (.int (kk:Int)),some v,some (.ref bl),some y,none,none,none,none]) ?_ ?_
 ·walk_at "rd"
  rename_i l0 hl0 t0 ht0 p1 hp1
  refine Atx.any (by omega) (by show m / 7 % 5 < 5; omega) fun y hy _=>?_
  have cc:=((Ch.new (W:=[]) hl0 (.lst [V.str "in"])).trans (Ch.new ht0 (.tup [V.str "same"]))).trans (Ch.new hp1 (.lst [V.non,V.int 5,V.ref l0,V.bl true,V.ref t0]))
  have gl:=zaba (u:=.lst [V.non,V.int 5,V.ref l0,V.bl true,V.ref t0]) hp1 (zaba (u:=.tup [V.str "same"]) ht0 (zaai (H:=H4) (a:=l0) (o:=.lst [V.str "in"])))
  have gt:=zaba (u:=.lst [V.non,V.int 5,V.ref l0,V.bl true,V.ref t0]) hp1 (zaai (H:=upd H4 l0 (.lst [V.str "in"])) (a:=t0) (o:=.tup [V.str "same"]))
  refine ⟨y,cc,?_,rfl⟩
  have hy:y∈[V.non,V.int 5,V.ref l0,V.bl true,V.ref t0]:=hy
  simp only [List.mem_cons,List.not_mem_nil,or_false] at hy
  show Wd _ y
  rcases hy with rfl | rfl | rfl | rfl | rfl
  ·constructor
  ·constructor
  ·exact .lst gl
  ·constructor
  ·exact .tup gt
 rintro σ H5 ⟨y,c5,wy,rfl⟩
 have na5:=na4.ch c5
 have pt5:=pt4.ch c5
 have hq5:=c5.get hq4 (by simp)
 have ha5:=c5.get ha4 (by simp)
 have hps5:=c5.get hps (by simp)
 have aps5:∀ p∈ps,BadV CN H5 (.ref nt) p:=fun p hp=>(aps p hp).ch c5
 refine zaa6 (fun σ H'=>∃ bl,Ch [] H5 H'∧Bads CN H' nt bl 3∧σ=[some (.ref nt),some (.ref ql),some (.int m),some (.int (kk:Int)),some v,some (.ref bl),some y,none,none,none,none]) ?_ ?_
 ·walk_at "rd"
  rename_i l0 hl0 u1 hu1 T hT u2 hu2
  rw [eA] at hT hu2 ⊢
  refine ⟨by rw [sizeLine_eq,List.length_take]; show _ + 1≤16777216; omega,fun j1 hj1=>?_⟩
  have cA:=((((Ch.new (W:=[]) hl0 (.lst [])).trans (Ch.new hu1 (.lst (qs.take kk)))).trans (Ch.new hT (.tup [V.int (kk:Int),y]))).trans (Ch.new hu2 (.lst [V.ref T]))).trans (Ch.new hj1 (.lst (qs.take kk++[V.ref T])))
  have g0:=zaba (u:=.lst (qs.take kk++[V.ref T])) hj1 (zaba (u:=.lst [V.ref T]) hu2 (zaba (u:=.tup [V.int (kk:Int),y]) hT (zaba (u:=.lst (qs.take kk)) hu1 (zaai (H:=H5) (a:=l0) (o:=HO.lst [])))))
  have gT:=zaba (u:=.lst (qs.take kk++[V.ref T])) hj1 (zaba (u:=.lst [V.ref T]) hu2 (zaai (H:=upd (upd H5 l0 (.lst [])) u1 (.lst (qs.take kk))) (a:=T) (o:=.tup [V.int (kk:Int),y])))
  have gJ:=zaai (H:=upd (upd (upd (upd H5 l0 (.lst [])) u1 (.lst (qs.take kk))) T (.tup [V.int (kk:Int),y])) u2 (.lst [V.ref T])) (a:=j1) (o:=.lst (qs.take kk++[V.ref T]))
  have hqA:=cA.get hq5 (by simp)
  have hpA:=cA.get hps5 (by simp)
  generalize upd (upd (upd (upd (upd H5 l0 (.lst [])) u1 (.lst (qs.take kk))) T (.tup [V.int (kk:Int),y])) u2 (.lst [V.ref T])) j1 (.lst (qs.take kk++[V.ref T]))=HA at cA g0 gT gJ hqA hpA ⊢
  have sq:SqL K HA ql qs:=SqL.of hqA
  walk_at "rd"
  rename_i u3 hu3
  rw [eB]
  refine ⟨by rw [sizeLine_eq,List.length_append,List.length_take,List.length_drop]; show _ + 1 + _≤16777216; omega,fun j2 hj2=>?_⟩
  walk_at "rd"
  rename_i pp hpp ol hol bl2 hbl
  have cB:=((((Ch.new (W:=[]) hu3 (.lst (qs.drop (kk + 1)))).trans (Ch.new hj2 (.lst (qs.take kk++[V.ref T]++qs.drop (kk + 1))))).trans (Ch.new hpp (.tup [V.ref l0,V.ref j2]))).trans (Ch.new hol (.lst [V.ref pp]))).trans (Ch.new hbl (.lst (ps++[V.ref pp])))
  have gQ:=zaba (u:=.lst (ps++[V.ref pp])) hbl (zaba (u:=.lst [V.ref pp]) hol (zaba (u:=.tup [V.ref l0,V.ref j2]) hpp (zaai (H:=upd HA u3 (.lst (qs.drop (kk + 1)))) (a:=j2) (o:=.lst (qs.take kk++[V.ref T]++qs.drop (kk + 1))))))
  refine ⟨⟨_,zaai,by rw [List.length_append]; show _ + 1≤3; omega,fun p hp=>?_⟩,rfl⟩
  rcases List.mem_append.mp hp with z | z
  ·exact (aps5 p z).ch (cA.trans cB)
  ·rw [List.mem_singleton.mp z]
   exact bad6 (na5.ch (cA.trans cB)) l1 ok lo (pt5.ch (cA.trans cB)) (by omega) (zaba hbl (zaba hol zaai)) (cB.get g0 (by simp)) gQ rfl (cB.get gT (by simp)) (wy.ch (cA.trans cB))
 rintro σ H6 ⟨bl,c6,⟨ps,hps,lps,aps⟩,rfl⟩
 have na6:=na5.ch c6
 have pt6:=pt5.ch c6
 have hq6:=c6.get hq5 (by simp)
 clear six six2
 have six:=Int.emod_nonneg (m / 11) (b:=7) (by omega)
 have six2:=Int.emod_lt_of_pos (m / 11) (b:=7) (by omega)
 refine zaa6 (fun σ H'=>∃ bl,Ch [] H6 H'∧Bads CN H' nt bl 4∧σ=[some (.ref nt),some (.ref ql),some (.int m),some (.int (kk:Int)),some v,some (.ref bl),some y,none,none,none,none]) ?_ ?_
 ·walk_at "rd"
  rename_i l0 hl0 u1 hu1 t1 ht1 t2 ht2 t3 ht3 p1 hp1
  rw [eA] at ht1 ht2 ht3 hp1 ⊢
  have cA:=(((((Ch.new (W:=[]) hl0 (.lst [])).trans (Ch.new hu1 (.lst (qs.take kk)))).trans (Ch.new ht1 (.tup []))).trans (Ch.new ht2 (.tup [.int 0]))).trans (Ch.new ht3 (.tup [.int 0,.str "in",.int 1]))).trans (Ch.new hp1 (.lst [.str "x",.int 7,.bl true,.ref t1,.ref t2,.ref t3,.str "in"]))
  have gt1:=zaba (u:=.lst [.str "x",.int 7,.bl true,.ref t1,.ref t2,.ref t3,.str "in"]) hp1 (zaba (u:=.tup [.int 0,.str "in",.int 1]) ht3 (zaba (u:=.tup [.int 0]) ht2 (zaai (H:=upd (upd H6 l0 (.lst [])) u1 (.lst (qs.take kk))) (a:=t1) (o:=.tup []))))
  have gt2:=zaba (u:=.lst [.str "x",.int 7,.bl true,.ref t1,.ref t2,.ref t3,.str "in"]) hp1 (zaba (u:=.tup [.int 0,.str "in",.int 1]) ht3 (zaai (H:=upd (upd (upd H6 l0 (.lst [])) u1 (.lst (qs.take kk))) t1 (.tup [])) (a:=t2) (o:=.tup [.int 0])))
  have gt3:=zaba (u:=.lst [.str "x",.int 7,.bl true,.ref t1,.ref t2,.ref t3,.str "in"]) hp1 (zaai (H:=upd (upd (upd (upd H6 l0 (.lst [])) u1 (.lst (qs.take kk))) t1 (.tup [])) t2 (.tup [.int 0])) (a:=t3) (o:=.tup [.int 0,.str "in",.int 1]))
  have gp1:=zaai (H:=upd (upd (upd (upd (upd H6 l0 (.lst [])) u1 (.lst (qs.take kk))) t1 (.tup [])) t2 (.tup [.int 0])) t3 (.tup [.int 0,.str "in",.int 1])) (a:=p1) (o:=.lst [.str "x",.int 7,.bl true,.ref t1,.ref t2,.ref t3,.str "in"])
  have g0:=zaba (u:=.lst [.str "x",.int 7,.bl true,.ref t1,.ref t2,.ref t3,.str "in"]) hp1 (zaba (u:=.tup [.int 0,.str "in",.int 1]) ht3 (zaba (u:=.tup [.int 0]) ht2 (zaba (u:=.tup []) ht1 (zaba (u:=.lst (qs.take kk)) hu1 (zaai (H:=H6) (a:=l0) (o:=HO.lst []))))))
  have gU:=zaba (u:=.lst [.str "x",.int 7,.bl true,.ref t1,.ref t2,.ref t3,.str "in"]) hp1 (zaba (u:=.tup [.int 0,.str "in",.int 1]) ht3 (zaba (u:=.tup [.int 0]) ht2 (zaba (u:=.tup []) ht1 (zaai (H:=upd H6 l0 (.lst [])) (a:=u1) (o:=.lst (qs.take kk))))))
  have hqA:=cA.get hq6 (by simp)
  have hpA:=cA.get hps (by simp)
  have naA:=na6.ch cA
  have ptA:=pt6.ch cA
  have apA:∀ p∈ps,BadV CN _ (.ref nt) p:=fun p hp=>(aps p hp).ch cA
  clear hl0 hu1 ht1 ht2 ht3 hp1
  generalize upd (upd (upd (upd (upd (upd H6 l0 (.lst [])) u1 (.lst (qs.take kk))) t1 (.tup [])) t2 (.tup [.int 0])) t3 (.tup [.int 0,.str "in",.int 1])) p1 (.lst [.str "x",.int 7,.bl true,.ref t1,.ref t2,.ref t3,.str "in"])=HA at cA g0 gU gt1 gt2 gt3 gp1 hqA hpA naA ptA apA ⊢
  refine Atx.any (by omega) (by show m / 11 % 7 < 7; omega) fun z hz _=>?_
  have bz:=badE7 (t:=(gs.length:Int)) gt1 gt2 gt3 z hz
  clear gt1 gt2 gt3 gp1 hz hps
  have sq:SqL K HA ql qs:=SqL.of hqA
  walk_at "rd"
  rename_i u2 hu2
  refine ⟨by rw [sizeLine_eq,List.length_take]; show _ + 1≤16777216; omega,fun j1 hj1=>?_⟩
  have cB:=(Ch.new (W:=[]) hu2 (.lst [z])).trans (Ch.new hj1 (.lst (qs.take kk++[z])))
  have hqB:=cB.get hqA (by simp)
  have hpB:=cB.get hpA (by simp)
  have g0B:=cB.get g0 (by simp)
  have gJ:=zaai (H:=upd HA u2 (.lst [z])) (a:=j1) (o:=.lst (qs.take kk++[z]))
  generalize upd (upd HA u2 (.lst [z])) j1 (.lst (qs.take kk++[z]))=HB at cB hqB hpB g0B gJ ⊢
  have sqB:SqL K HB ql qs:=SqL.of hqB
  walk_at "rd"
  rename_i u3 hu3
  rw [eB]
  refine ⟨by rw [sizeLine_eq,List.length_append,List.length_take,List.length_drop]; show _ + 1 + _≤16777216; omega,fun j2 hj2=>?_⟩
  walk_at "rd"
  rename_i pp hpp ol hol bl2 hbl
  refine ⟨Bads.to (H:=HB) (by walk_at "ch") fun cC=>?_,rfl⟩
  exact Bads.app (N:=3) (M:=1) lps apA (cB.trans cC) zaai (Nat.le_refl 1) fun p hp=>by
   rw [List.mem_singleton.mp hp]
   exact bad5 (naA.ch (cB.trans cC)) l1 (ptA.ch (cB.trans cC)) (zaba hbl (zaba hol zaai)) (cC.get g0B (by simp)) (zaba hbl (zaba hol (zaba hpp zaai))) rfl (bz.ch (cB.trans cC))
 clear eA eB six six2
 rintro σ H7 ⟨bl,c7,⟨ps,hps,lps,aps⟩,rfl⟩
 have na7:=na6.ch c7
 have pt7:=pt6.ch c7
 have hq7:=c7.get hq6 (by simp)
 have cH7:=((((c2.trans c3).trans c4).trans c5).trans c6).trans c7
 clear c7 c6 c5 c4 c3 c2 na2 na3 na4 na5 na6 pt2 pt3 pt4 pt5 pt6 hq2 hq3 hq4 hq5 hq6 ha2 ha3 ha4 ha5 pv wy
 refine zaa6 (fun σ H'=>∃ bl,Ch [] H7 H'∧Bads CN H' nt bl 15∧σ=[some (.ref nt),some (.ref ql),some (.int m),some (.int (kk:Int)),some v,some (.ref bl),some y,none,none,none,none]) ?_ ?_
 ·walk_at "rd"
  refine ⟨Bads.to (H:=H7) (by walk_at "ch") fun cF=>?_,rfl⟩
  exact Bads.app (N:=4) (M:=11) lps aps cF zaai (by simp) (bads11 (na7.ch cF) n0 l1 (pt7.ch cF) (cF.get hq7 (by simp)) (by walk_at "get") (by walk_at "get") (by walk_at "get") (by walk_at "get") (by walk_at "get") (by walk_at "get") (by walk_at "get") (by walk_at "get"))
 rintro σ H8 ⟨bl,c8,⟨ps,hps,lps,aps⟩,rfl⟩
 have na8:=na7.ch c8
 obtain ⟨⟨dx,ob⟩,gt,gg,_⟩:=id na8
 have lx:xs.length=gs.length:=gg.len
 have fo:=zacj gp op
 have cH8:=cH7.trans c8
 clear c8 na7 pt7 hq7 cH7
 refine zaa6 (fun σ H'=>H'=H8∧σ=[some (.ref nt),some (.ref ql),some (.int m),some (.int (kk:Int)),some v,some (.ref bl),some y,some (.int (gs.length:Int)),none,none,none]) ?_ ?_
 ·walk_at "rd"
  rw [lx]
  rfl
 rintro σ H9 ⟨eH,rfl⟩
 subst eH
 refine zaa6 (fun σ H'=>∃ sl,Ch [] H9 H'∧Sts H' gs.length sl 5∧σ=[some (.ref nt),some (.ref ql),some (.int m),some (.int (kk:Int)),some v,some (.ref bl),some y,some (.int (gs.length:Int)),some (.ref sl),none,none]) ?_ ?_
 ·walk_at "rd"
  exact ⟨⟨_,zaai,by simp,sts5 (by walk_at "get") (by walk_at "get") (by walk_at "get") (by walk_at "get") (by walk_at "get")⟩,rfl⟩
 rintro σ H10 ⟨sl,c10,⟨zs,hzs,lzs,azs⟩,rfl⟩
 have na10:=na8.ch c10
 have hps10:=c10.get hps (by simp)
 have aps10:∀ p∈ps,BadV CN H10 (.ref nt) p:=fun p hp=>(aps p hp).ch c10
 refine zaa6 (fun σ H'=>∃ sl,Ch [] H10 H'∧Sts H' gs.length sl 8∧σ=[some (.ref nt),some (.ref ql),some (.int m),some (.int (kk:Int)),some v,some (.ref bl),some y,some (.int (gs.length:Int)),some (.ref sl),none,none]) ?_ ?_
 ·walk_at "rd"
  refine ⟨Sts.to (H:=H10) (by walk_at "ch") fun cF=>?_,rfl⟩
  exact ⟨_,zaai,by rw [List.length_append]; show _ + 3≤8; omega,fun z hz=>(List.mem_append.mp hz).elim (fun h=>(azs z h).ch cF) (sts3 (by walk_at "get") (by walk_at "get") (by walk_at "get") z)⟩
 clear hzs lzs azs zs
 rintro σ H11 ⟨sl,c11,⟨zs,hzs,lzs,azs⟩,rfl⟩
 have na11:=na10.ch c11
 have hps11:=c11.get hps10 (by simp)
 have aps11:∀ p∈ps,BadV CN H11 (.ref nt) p:=fun p hp=>(aps10 p hp).ch c11
 have cH:=(cH8.trans c10).trans c11
 clear cH8 hps aps hps10 aps10 c10 c11 na8 na10
 have eH:(xs.length:Int)=(gs.length:Int):=by rw [lx]
 clear ob gt gg fo
 walk_at "rd"
 rename_i t ht l hl r hr
 have cL:=((Ch.new (W:=[]) ht (.tup [])).trans (Ch.new hl (.lst [.ref t,.str "zero",.non,.int 3]))).trans (Ch.new hr (.lst (zs++[.ref t,.str "zero",.non,.int 3])))
 have gR:=zaai (H:=upd (upd H11 t (.tup [])) l (.lst [.ref t,.str "zero",.non,.int 3])) (a:=r) (o:=.lst (zs++[.ref t,.str "zero",.non,.int 3]))
 have gT:=zaba (u:=.lst (zs++[.ref t,.str "zero",.non,.int 3])) hr (zaba (u:=.lst [.ref t,.str "zero",.non,.int 3]) hl (zaai (H:=H11) (a:=t) (o:=.tup [])))
 have naL:=na11.ch cL
 have hpL:=cL.get hps11 (by simp)
 have azL:∀ z∈zs++[V.ref t,.str "zero",.non,.int 3],BadS _ gs.length z:=fun z hz=>(List.mem_append.mp hz).elim (fun h=>(azs z h).ch cL) (sts4 gT z)
 have apL:∀ p∈ps,BadV CN _ (.ref nt) p:=fun p hp=>(aps11 p hp).ch cL
 have lzl:(zs++[V.ref t,.str "zero",.non,.int 3]).length≤12:=by rw [List.length_append]; show _ + 4≤12; omega
 have cHL:=cH.trans cL
 clear hl hr ht gT azs hzs aps11 hps11 na11 cL
 generalize upd (upd (upd H11 t (.tup [])) l (.lst [.ref t,.str "zero",.non,.int 3])) r (.lst (zs++[.ref t,.str "zero",.non,.int 3]))=HL at cHL gR naL hpL azL apL ⊢
 generalize zs++[V.ref t,.str "zero",.non,.int 3]=ys at gR azL lzl ⊢
 refine zaer (xs:=ys) (fun i σ H'=>∃ (bl:Addr) (u:Option V),Ch [] HL H'∧Bads CN H' nt bl (15 + i)∧σ=[some (.ref nt),some (.ref ql),some (.int m),some (.int (kk:Int)),some v,some (.ref bl),some y,some (.int (gs.length:Int)),some (.ref sl),u,none]) ⟨bl,none,Ch.refl _ _,⟨ps,hpL,lps,apL⟩,rfl⟩ ?_ ?_ ?_
 ·rintro i σ H' hi ⟨_,_,c,_⟩
  exact SqL.of (c.get gR (by simp))
 ·rintro i x σ H' hx ⟨bl,u,c,⟨ps,hps,lps,aps⟩,rfl⟩
  have li:i < ys.length:=(List.getElem?_eq_some_iff.mp hx).1
  have bx:=(azL x (List.mem_of_getElem? hx)).ch c
  have naH:=naL.ch c
  walk_at "rd"
  refine ⟨Bads.to (H:=H') (by walk_at "ch") fun cF=>?_,rfl⟩
  exact Bads.app (N:=15 + i) (M:=1) lps aps cF zaai (Nat.le_refl 1) fun p hp=>by
   rw [List.mem_singleton.mp hp]
   exact bad7 (naH.ch cF) l1 (by walk_at "get") (by walk_at "get") (bx.ch cF)
 rintro σ H12 ⟨bl,u,c12,⟨ps,hps,lps,aps⟩,rfl⟩
 have na12:=naL.ch c12
 have cH12:=cHL.trans c12
 clear naL hpL azL apL gR c12 cHL
 refine zaa6 (fun σ H'=>∃ bl,Ch [] H12 H'∧Bads CN H' nt bl 31∧σ=[some (.ref nt),some (.ref ql),some (.int m),some (.int (kk:Int)),some v,some (.ref bl),some y,some (.int (gs.length:Int)),some (.ref sl),u,none]) ?_ ?_
 ·walk_at "rd"
  refine ⟨Bads.to (H:=H12) (by walk_at "ch") fun cF=>?_,rfl⟩
  have lps':ps.length≤27:=by omega
  exact Bads.app (N:=27) (M:=4) lps' aps cF zaai (by simp) (bads4 (na12.ch cF) l1 (by walk_at "get") (by walk_at "get") (by walk_at "get") (by walk_at "get") (by walk_at "get") (by walk_at "get") (by walk_at "get"))
 clear lps hps aps
 rintro σ H13 ⟨bl,c13,⟨ps,hps,lps,aps⟩,rfl⟩
 have cH13:=cH12.trans c13
 clear na12 c13 cH12
 walk_at "rd"
 refine zaer (xs:=ps) (fun i σ H'=>∃ (u9:Option V),Ch [] H13 H'∧σ=[some (.ref nt),some (.ref ql),some (.int m),some (.int (kk:Int)),some v,some (.ref bl),some y,some (.int (gs.length:Int)),some (.ref sl),u,u9]) ⟨none,Ch.refl _ _,rfl⟩ ?_ ?_ ?_
 ·rintro i σ H' hi ⟨_,c,_⟩
  exact SqL.of (c.get hps (by simp))
 ·rintro i x σ H' hx ⟨u9,c,rfl⟩
  have bv:=aps x (List.mem_of_getElem? hx)
  walk_at "rd"
  refine ⟨⟨fun R q=>bv.h c R q⟩,fun H2 c2=>?_⟩
  walk_at "rd"
 rintro σ H' ⟨u9,c,rfl⟩
 walk_at "rd"
 exact q _ (cH13.trans c)
end
end

section
theorem zahs (t:Gt→Bool):∀ (gs:List Gt) (i x:Nat),x∈numsOf t gs i→∃ g,gs[x - i]?=some g∧t g=true∧i≤x
 | [],_,_,h=>by simp [numsOf] at h
 | g :: gs,i,x,h=>by
  have rest:x∈numsOf t gs (i + 1)→∃ g',(g :: gs)[x - i]?=some g'∧t g'=true∧i≤x:=fun z=>by
   obtain ⟨g',e,tg,l⟩:=zahs t gs (i + 1) x z
   refine ⟨g',?_,tg,by omega⟩
   rw [show x - i=(x - (i + 1)) + 1 by omega,List.getElem?_cons_succ]
   exact e
  unfold numsOf at h
  split at h
  ·rename_i tg
   rcases List.mem_cons.mp h with z | z
   ·subst z
    exact ⟨g,by simp,tg,Nat.le_refl _⟩
   ·exact rest z
  ·exact rest h
theorem zal6 {g:Gt}{i n:Nat} (h:g.ok i n) (l:i≤n):∀ a∈g.feeds,a < n:=by
 intro a ha
 cases g <;> simp only [Gt.feeds,List.mem_cons,List.not_mem_nil,or_false] at ha <;> simp only [Gt.ok] at h
 all_goals first
  | omega
  | (rcases ha with rfl | rfl <;> omega)
  | (rcases ha with rfl | rfl | rfl <;> omega)
theorem zaek {gs:List Gt}{a:Nat} (h:a < gs.length):rho (dn (prsOf gs)) a=a∧((prsOf gs).getD a none).isSome=true:=by
 have e:=zac2 (List.getElem?_eq_getElem h)
 have e2:(prsOf gs).getD a none=some (a,some (whyOf gs[a])):=by rw [List.getD_eq_getElem?_getD,e]; rfl
 refine ⟨?_,by rw [e2]; rfl⟩
 unfold rho
 rw [zagt,e2]
 rfl
theorem zapt {gs:List Gt}{g:Gt} (h:∀ a∈g.feeds,a < gs.length):g.ren (rho (dn (prsOf gs)))=g:=by
 cases g <;> simp only [Gt.feeds,List.mem_cons,List.not_mem_nil,or_false,forall_eq_or_imp,forall_eq] at h <;> simp only [Gt.ren]
 all_goals first
  | rw [(zaek h).1]
  | rw [(zaek h.1).1,(zaek h.2).1]
  | rw [(zaek h.1).1,(zaek h.2.1).1,(zaek h.2.2).1]
theorem zam6 {gs lo:List Gt}{os:List Nat} (ok:Oks gs) (ho:∀ o∈os,o < gs.length):shB gs os gs os lo (prsOf gs)=true:=by
 have b1:ihB gs gs (prsOf gs)=true:=by
  unfold ihB
  rw [decide_eq_true rfl,Bool.true_and]
  refine zads fun i x y h1 h2=>?_
  rw [h1] at h2
  cases h2
  obtain ⟨g,e,tg,_⟩:=zahs Gt.isIn gs 0 x (List.mem_of_getElem? h1)
  have e:gs[x]?=some g:=e
  unfold okI
  rw [zac2 e]
  cases g <;> first | (cases tg; done) | exact decide_eq_true rfl
 have b2:ohB os os (prsOf gs)=true:=by
  unfold ohB
  rw [decide_eq_true rfl,Bool.true_and]
  refine zads fun i x y h1 h2=>?_
  rw [h1] at h2
  cases h2
  have l:=ho x (List.mem_of_getElem? h1)
  unfold okO
  rw [zac2 (List.getElem?_eq_getElem l)]
  exact decide_eq_true rfl
 have b3:ghB gs (gs++lo) (prsOf gs)=true:=by
  unfold ghB
  refine zads fun i g p h1 h2=>?_
  rw [zac2 h1] at h2
  cases h2
  have li:i < gs.length:=(List.getElem?_eq_some_iff.mp h1).1
  have lf:=zal6 (ok i g h1) (Nat.le_of_lt li)
  have ea:(gs++lo)[i]?=some g:=by rw [List.getElem?_append_left li]; exact h1
  have a1:(prF (prsOf gs) g.feeds).all Option.isSome=true:=by
   unfold prF
   rw [List.all_map,List.all_eq_true]
   exact fun a ha=>(zaek (lf a ha)).2
  have er:=zapt lf
  show (g.isIn || ((prF (prsOf gs) g.feeds).all Option.isSome && phB (gs++lo) (rho (dn (prsOf gs))) i (whyOf g) g))=true
  rw [a1,Bool.true_and]
  cases hk:g.isKeep with
  | true =>
   cases g <;> first
    | (cases hk; done)
    | (show (false || (decide (Str.ofString "keep" = Str.ofString "keep") && decide ((gs++lo)[i]?=some (Gt.ren (rho (dn (prsOf gs))) (Gt.keep _ _)))))=true
       rw [er,decide_eq_true rfl,decide_eq_true ea]; rfl)
  | false =>
   cases hi:g.isIn with
   | true=>rfl
   | false =>
    have ew:whyOf g = "same" := by cases g <;> first | rfl | (cases hk; done) | (cases hi; done)
    rw [ew,zad4 hk,er,decide_eq_true ea]
    rfl
 unfold shB
 rw [decide_eq_true (zab2 gs),b1,b2,b3]
 rfl
theorem Said.to {CN:Addr}{vs:List V}{b:Bool}{H H':Hp} (c:Ch [] H H') (k:Ch [] H H'→Box (∀ R:VK,(∀ H2,Ch [] H' H2→R (.bl b) H2)→SHc CN vs H' R)):Box (∀ R:VK,(∀ H2,Ch [] H' H2→R (.bl b) H2)→SHc CN vs H' R):=k c
theorem zam7 {CN nt gp op pp ll ql:Addr}{H:Hp}{k1 k2 k3:SK}{gs lo:List Gt}{xs zs qs:List V}{os:List Nat} (n:NetAt CN H nt gp op gs xs os) (ok:Oks gs) (ho:∀ o∈os,o < gs.length) (l:gs.length≤1000) (hp:SqX k1 H pp [.ref ll,.ref ql]) (hl:SqX k2 H ll zs) (gz:GsK H lo zs) (hq:SqX k3 H ql qs) (pt:PrT H (prsOf gs) qs) (l3:lo.length≤1000) (lk:∀ (j:Nat) (g:Gt),lo[j]?=some g→g≠.inp∧g.ok (gs.length + j) (gs.length + lo.length)):Box (∀ R:VK,(∀ H',Ch [] H H'→R (.bl true) H')→SHc CN [.ref nt,.ref nt,.ref pp] H R) :=
 ⟨fun R q=>⟨.inl ⟨nt,gp,op,nt,gp,op,pp,ll,ql,k1,k2,k3,gs,gs,lo,xs,xs,zs,qs,os,os,prsOf gs,rfl,n,n,hp,hl,gz,hq,pt.pk,l,l,l3,⟨ok,fun p m=>by
  obtain ⟨i,hi⟩:=List.getElem?_of_mem m
  have li:i < gs.length:=by have:=(List.getElem?_eq_some_iff.mp hi).1; rw [zab2] at this; exact this
  rw [zac2 (List.getElem?_eq_getElem li)] at hi
  cases hi
  rw [List.length_append]
  show i < _
  omega,lk,ho⟩,fun H' c=>by rw [zam6 ok ho]; exact q H' c⟩⟩⟩
theorem GsK.nil {H:Hp}:GsK H [] []:=⟨rfl,fun i g e=>by simp at e⟩
theorem zaht {P:Nat→Gt→Prop}:∀ (j:Nat) (g:Gt),([]:List Gt)[j]?=some g→P j g:=fun j g e=>by simp at e
theorem zanx {CN nt gp op st gp2 op2 pp ll ql:Addr}{H:Hp}{net sg:List Gt}{xs xs2 qs:List V}{os so:List Nat}{prs:Prs} (n:NetAt CN H nt gp op net xs os) (n2:NetAt CN H st gp2 op2 sg xs2 so) (l:net.length≤1000) (l2:sg.length≤1000) (hp:H pp=some (.tup [.ref ll,.ref ql])) (hl:H ll=some (.lst [])) (hq:H ql=some (.lst qs)) (pt:PrT H prs qs) (pr:Ppr net os sg [] prs):Box (∀ R:VK,(∀ H',Ch [] H H'→R (.bl (shB net os sg so [] prs)) H')→SHc CN [.ref nt,.ref st,.ref pp] H R) :=
 ⟨fun R q=>⟨.inl ⟨nt,gp,op,st,gp2,op2,pp,ll,ql,.tuple,.list,.list,net,sg,[],xs,xs2,[],qs,os,so,prs,rfl,n,n2,hp,hl,.nil,hq,pt.pk,l,l2,by simp,pr,q⟩⟩⟩
theorem NetAt.chb {C:Addr}{H H':Hp}{b nt gp op:Addr}{gs:List Gt}{xs ys:List V}{os:List Nat} (n:NetAt C H nt gp op gs xs os) (c:Ch [b] H H') (hb:H b=some (.lst ys)):NetAt C H' nt gp op gs xs os :=
 ⟨n.ob.imp fun _ h=>c.get h (by simpa using zajy h hb (by intro z; cases z)),c.get n.gt (by simpa using zajy n.gt hb (by intro z; cases z)),n.gg.tu (Tu.lst c hb),c.get n.ot (by simpa using zajy n.ot hb (by intro z; cases z))⟩
structure CT (H0 H:Hp) (b:Addr) (c B:Int):Prop where
 ch:Ch [b] H0 H
 at_:∃ c',H b=some (.lst [.int c'])∧c≤c'∧c'≤c + B
theorem CT.same {H0 H H1:Hp}{b:Addr}{c B:Int} (n:CT H0 H b c B) (c1:Ch [] H H1):CT H0 H1 b c B:=let ⟨c',a,h⟩:=n.at_; ⟨n.ch.trans (Ch.wk c1),c',c1.get a (by simp),h⟩
theorem CT.wk {H0 H:Hp}{b:Addr}{c B B':Int} (n:CT H0 H b c B) (h:B≤B'):CT H0 H b c B':=let ⟨c',a,x,y⟩:=n.at_; ⟨n.ch,c',a,x,by omega⟩
theorem CT.zero {H:Hp}{b:Addr}{c:Int} (hb:H b=some (.lst [.int c])):CT H H b c 0:=⟨Ch.refl _ _,c,hb,by omega,by omega⟩
theorem CT.trans {H0 H H1:Hp}{b:Addr}{c c' B B':Int} (n:CT H0 H b c B) (hb:H b=some (.lst [.int c'])) (m:CT H H1 b c' B'):CT H0 H1 b c (B + B'):=by
 obtain ⟨c'',h1,h2,h3⟩:=n.at_
 rw [hb] at h1
 injection h1 with h1; injection h1 with h1; injection h1 with h1 _; injection h1 with h1
 subst h1
 obtain ⟨d,e1,e2,e3⟩:=m.at_
 exact ⟨n.ch.trans m.ch,d,e1,by omega,by omega⟩
theorem zam8 {gs:List Gt}{os:List Nat}{prs:Prs} (ok:Oks gs) (ho:∀ o∈os,o < gs.length) (h:∀ p,some p∈prs→p.1 < (prsOf gs).length):Ppr gs os gs [] prs:=⟨ok,fun p m=>by have:=h p m; rw [zab2] at this; rw [List.append_nil]; exact this,zaht,ho⟩
theorem zapu {gs sg:List Gt}{os:List Nat} (ok:Oks gs) (ho:∀ o∈os,o < gs.length) (l:gs.length≤sg.length):Ppr gs os sg [] (prsOf gs):=⟨ok,fun p m=>by
 obtain ⟨i,hi⟩:=List.getElem?_of_mem m
 have li:i < gs.length:=by have:=(List.getElem?_eq_some_iff.mp hi).1; rw [zab2] at this; exact this
 rw [zac2 (List.getElem?_eq_getElem li)] at hi
 cases hi
 rw [List.append_nil]
 show i < _
 omega,zaht,ho⟩
structure Wk (K:PySem.W.Frag) (CN:Addr) (H0 H:Hp) (a b gl ol nt gp op ql:Addr) (ns:List Int) (c B:Int) (gs:List Gt) (xs qs:List V) (os:List Nat):Prop where
 scr:Scr K H a ns
 ct:CT H0 H b c B
 nl:NL H gl ol gs xs os
 gb:gl≠b
 ob:ol≠b
 na:NetAt CN H nt gp op gs xs os
 hq:H ql=some (.lst qs)
 qb:ql≠b
 pt:PrT H (prsOf gs) qs
section
variable {K:PySem.W.Frag}{CN:Addr}{H0 H H1:Hp}{a b gl ol nt gp op ql:Addr}{ns:List Int}{c c' B:Int}{gs:List Gt}{xs qs:List V}{os:List Nat}
theorem Wk.same (w:Wk K CN H0 H a b gl ol nt gp op ql ns c B gs xs qs os) (d:Ch [] H H1):Wk K CN H0 H1 a b gl ol nt gp op ql ns c B gs xs qs os :=
 ⟨w.scr.same d,w.ct.same d,⟨d.get w.nl.hg (by simp),w.nl.gg.tu (Tu.same d),w.nl.ok,w.nl.lg,w.nl.n0,d.get w.nl.ho (by simp),w.nl.lo,w.nl.ll⟩,w.gb,w.ob,w.na.ch d,d.get w.hq (by simp),w.qb,w.pt.ch d⟩
theorem Wk.wk {B':Int} (w:Wk K CN H0 H a b gl ol nt gp op ql ns c B gs xs qs os) (h:B≤B'):Wk K CN H0 H a b gl ol nt gp op ql ns c B' gs xs qs os:={ w with ct:=w.ct.wk h }
theorem Wk.bump (w:Wk K CN H0 H a b gl ol nt gp op ql ns c B gs xs qs os) (hb:H b=some (.lst [.int c'])) (d:Ch [b] H H1) (hb1:H1 b=some (.lst [.int (c' + 1)])):Wk K CN H0 H1 a b gl ol nt gp op ql ns c (B + 1) gs xs qs os :=
 ⟨w.scr.ch hb d,w.ct.trans hb ⟨d,_,hb1,by omega,by omega⟩,⟨d.get w.nl.hg (by simpa using w.gb),w.nl.gg.tu (Tu.lst d hb),w.nl.ok,w.nl.lg,w.nl.n0,d.get w.nl.ho (by simpa using w.ob),w.nl.lo,w.nl.ll⟩,w.gb,w.ob,w.na.chb d hb,d.get w.hq (by simpa using w.qb),w.qb,w.pt.imp (Tu.lst d hb)⟩
end
structure LO (H:Hp) (gs:List Gt) (ll:Addr) (lo:List Gt) (zs:List V):Prop where
 h:H ll=some (.lst zs)
 g:GsK H lo zs
 l:lo.length≤2
 lk:∀ (j:Nat) (g:Gt),lo[j]?=some g→g≠.inp∧g.ok (gs.length + j) (gs.length + lo.length)
theorem LO.ch {H H':Hp}{gs lo:List Gt}{ll:Addr}{zs:List V} (o:LO H gs ll lo zs) (c:Ch [] H H'):LO H' gs ll lo zs:=⟨c.get o.h (by simp),o.g.ch c,o.l,o.lk⟩
theorem GsK.one {H:Hp}{p:Addr}{kd:SK}{g:Gt} (h:SqX kd H p g.vs):GsK H [g] [.ref p]:=⟨rfl,fun i g' e=>by
 have:=(List.getElem?_eq_some_iff.mp e).1
 have:i=0:=by simpa using this
 subst this
 cases e
 exact ⟨p,kd,rfl,h⟩⟩
theorem GsK.two {H:Hp}{p q:Addr}{k1 k2:SK}{g g2:Gt} (h:SqX k1 H p g.vs) (h2:SqX k2 H q g2.vs):GsK H [g,g2] [.ref p,.ref q]:=⟨rfl,fun i g' e=>by
 have:=(List.getElem?_eq_some_iff.mp e).1
 have:i=0∨i=1:=by simp at this; omega
 rcases this with rfl | rfl
 ·cases e
  exact ⟨p,k1,rfl,h⟩
 ·cases e
  exact ⟨q,k2,rfl,h2⟩⟩
theorem lo1 {H:Hp}{gs:List Gt}{ll p:Addr}{j:Nat}{v:V} (hl:H ll=some (.lst [.ref p])) (hp:H p=some (.tup [.str "not",v])) (ev:v=.int (j:Int)) (lj:j < gs.length):LO H gs ll [.not j] [.ref p] :=
 ⟨hl,.one (kd:=.tuple) (by rw [ev] at hp; exact hp),by simp,fun i g e=>by
  have:=(List.getElem?_eq_some_iff.mp e).1
  have:i=0:=by simpa using this
  subst this
  cases e
  exact ⟨(fun z=>by cases z),by show j < _; omega⟩⟩
theorem lo2 {H:Hp}{gs:List Gt}{ll p q:Addr}{j:Nat}{v:V} (hl:H ll=some (.lst [.ref p,.ref q])) (hp:H p=some (.tup [.str "keep",.int 1,.int (gs.length:Int)])) (hq:H q=some (.tup [.str "xor",.int (gs.length:Int),v])) (ev:v=.int (j:Int)) (lj:j < gs.length):LO H gs ll [.keep 1 gs.length,.xor gs.length j] [.ref p,.ref q] :=
 ⟨hl,.two (k1:=.tuple) (k2:=.tuple) hp (by rw [ev] at hq; exact hq),by simp,fun i g e=>by
  have:=(List.getElem?_eq_some_iff.mp e).1
  have:i=0∨i=1:=by simp at this; omega
  rcases this with rfl | rfl
  ·cases e
   exact ⟨(fun z=>by cases z),by decide,by decide,by simp⟩
  ·cases e
   exact ⟨(fun z=>by cases z),by omega,by omega⟩⟩
theorem lo3 {H:Hp}{gs:List Gt}{ll p q:Addr} (hl:H ll=some (.lst [.ref p,.ref q])) (hp:H p=some (.lst [.str "zero"])) (hq:H q=some (.lst [.str "and",.int (gs.length:Int),.int 0])):LO H gs ll [.zero,.and gs.length 0] [.ref p,.ref q] :=
 ⟨hl,.two (k1:=.list) (k2:=.list) hp hq,by simp,fun i g e=>by
  have:=(List.getElem?_eq_some_iff.mp e).1
  have:i=0∨i=1:=by simp at this; omega
  rcases this with rfl | rfl
  ·cases e
   exact ⟨(fun z=>by cases z),trivial⟩
  ·cases e
   exact ⟨(fun z=>by cases z),by omega,by omega⟩⟩
end

section
local macro_rules | `(tactic| walk_at "user")=>`(tactic| first
 | (apply PrT.ch; (focus with_reducible assumption); (focus walk_at "ch"))
 | (apply NetAt.ch; (focus with_reducible assumption); (focus walk_at "ch")))
section
variable {P:Program}{w:World}{K:PySem.W.Frag}{mg:Str→Option Value}{base:Heap}{f:Addr}{fd:FuncData}{k:Nat}
theorem zaiq:Nd "_law_net" := by decide +kernel
theorem zagx:Nd "_law_pairs" := by decide +kernel
theorem zae0:Nd "_law_bent_pairs" := by decide +kernel
theorem zae9:Nd "_law_walk" := by decide +kernel
theorem zafc:Nd "_law_bent_net" := by decide +kernel
theorem zael:Nd "_law_forms_false" := by decide +kernel
theorem zair:Nd "_law_one" := by decide +kernel
theorem av42:AF (defScope (top 42)) ["_law_script", "_law_at", "_law_ins", "_law_keeps", "_law_gates", "_law_outs", "_law_net_here", "_law_pairs_here", "_law_many", "_law_m", "_law_some", "_law_lost", "_law_paper", "_law_bent", "_law_small"]:=⟨by decide +kernel⟩
theorem gl42:AG (defScope (top 42)) ["_law_next", "_law_net", "Net", "_law_pairs", "_law_said", "tuple", "len", "_law_bent_pairs", "_law_walk", "_law_bent_net", "_law_forms_false"]:=⟨by decide +kernel⟩
def spOne (K:PySem.W.Frag):Sp:=fun vs H Q _=>∃ (a b:Addr) (ns:List Int) (c:Int),vs=[.ref a,.ref b]∧Scr K H a ns∧H b=some (.lst [.int c])∧0≤c∧c < 2 ^ 58∧∀ H',CT H H' b c 2000→Q (.bl true) H'
theorem scOne:FnScope ["_law_script", "_law_at", "_law_ins", "_law_keeps", "_law_gates", "_law_outs", "_law_net_here", "_law_pairs_here", "_law_many", "_law_m", "_law_some", "_law_lost", "_law_paper", "_law_bent", "_law_small"] ["_law_script", "_law_at"] (defScope (top 42)):=⟨rfl,rfl,rfl,by decide +kernel,rfl,by decide +kernel,by decide +kernel⟩
theorem zaru {CN:Addr} (F:Fun K "_law_one" "_law_one" (top 42) f fd) (D_law_next:DefOk P w K mg base CX0 (k + 1) "_law_next" ["_law_script", "_law_at"] (spNext K)) (D_law_net:DefOk P w K mg base CX0 (k + 1) "_law_net" ["_law_script", "_law_at", "_law_ins", "_law_keeps", "_law_many"] (spLNet K)) (MkNet:MakeOk P w K mg base CX0 k CN "Net" ["self", "gates", "outs"] (spNet CN)) (D_law_pairs:DefOk P w K mg base CX0 (k + 1) "_law_pairs" ["_law_gates"] spPrs) (D_law_said:DefOk P w K mg base CX0 (k + 1) "_law_said" ["_law_net_here", "_law_small", "_law_paper", "_law_due"] (spSaid CN))
  (D_law_bent_pairs:DefOk P w K mg base CX0 (k + 1) "_law_bent_pairs" ["_law_pairs_here", "_law_m"] spBp) (D_law_walk:DefOk P w K mg base CX0 (k + 1) "_law_walk" ["_law_net_here", "_law_small", "_law_lost", "_law_pairs_here"] (spWk CN)) (D_law_bent_net:DefOk P w K mg base CX0 (k + 1) "_law_bent_net" ["_law_gates", "_law_outs", "_law_m"] (spBn CN)) (D_law_forms_false:DefOk P w K mg base CX0 (k + 1) "_law_forms_false" ["_law_net_here", "_law_pairs_here", "_law_m"] (spFF CN)) (z_len:mg "len" = none) (z_tuple:mg "tuple" = none):FnOk P w K mg base CX0 (k + 2) f fd ["_law_script", "_law_at"] (spOne K):=by
 have nd:=scOne.nd
 refine F.ok scOne (fun vs H Q E h=>by obtain ⟨a,b,ns,c,rfl,_⟩:=h; rfl) (fun cdv A outer s0 H vs Q E hr h=>?_)
 obtain ⟨a,b,ns,c,rfl,hS,hb,h0,h1,q⟩:=h
 have hrm:=hr
 refine ⟨_,(Pr.h (zaaf (zaat (i:=2) nd rfl (av42.l 2 rfl) (zaav zacx zaae (zaav zabn (zaah D_law_next hr (gl42.g 0 rfl) pass0 (zaaa (qv av42 0 rfl) (zaaa (qv av42 1 rfl) zaab zaac) zaac) zabq) zaae))) (zaaf (zaat (i:=3) nd rfl (av42.l 3 rfl) (zaav zacx zaae (zaav zabn (zaah D_law_next hr (gl42.g 0 rfl) pass0 (zaaa (qv av42 0 rfl) (zaaa (qv av42 1 rfl) zaab zaac) zaac) zabq) zaae))) (zaaf (zac4 (zaah D_law_net hr (gl42.g 1 rfl) pass0 (zaaa (qv av42 0 rfl) (zaaa (qv av42 1 rfl) (zaaa (qv av42 2 rfl) (zaaa (qv av42 3 rfl) (zaaa (zaav zacx zaae (zaav zabn (zaah D_law_next hr (gl42.g 0 rfl) pass0 (zaaa (qv av42 0 rfl) (zaaa (qv av42 1 rfl) zaab zaac) zaac) zabq) zaae)) zaab zabh) zaac) zaac) zaac) zaac) zaiq) (zad0 rfl (zabd (zaa1 (i:=4) nd rfl (av42.l 4 rfl)) (zabd (zaa1 (i:=5) nd rfl (av42.l 5 rfl)) zacn)))) (zaaz (zaat (i:=6) nd rfl (av42.l 6 rfl) (zad9 MkNet hrm (gl42.g 2 rfl) pass0 (zaaa (qv av42 4 rfl) (zaaa (qv av42 5 rfl) zaab zaac) zaac) zahr)) (zaaz (zaat (i:=7) nd rfl (av42.l 7 rfl) (zaah D_law_pairs hr (gl42.g 3 rfl) pass0 (zaaa (qv av42 4 rfl) zaab zaac) zagx)) (zaaf (zaax (zabx (zack (zabp (zabf (zaah D_law_said hr (gl42.g 4 rfl) pass0 (zaaa (qv av42 6 rfl) (zaaa (qv av42 6 rfl) (zaaa (zaay (zaaa (zaa0 zaab) (zaaa (qv av42 7 rfl) zaab zaac) zabt)) (zaaa zaa5 zaab zaad) zaa2) zaac) zaac) zacm))) (zab8 (zabp (zabf (zaah D_law_said hr (gl42.g 4 rfl) pass0 (zaaa (qv av42 6 rfl) (zaaa (qv av42 6 rfl) (zaaa (zaa0 (zaaa (zaay zaab) (zaaa (zabg zabo (gl42.g 5 rfl) z_tuple zacb (zaaa (qv av42 7 rfl) zaab zaac) zacc zacd) zaab zab0) zaa2)) (zaaa zaa5 zaab zaad) zabt) zaac) zaac) zacm)))))) (zaag (zaal zaa5)) zaan) (zaaz (zaat (i:=8) nd rfl (av42.l 8 rfl) (zaap zaam (gl42.g 6 rfl) z_len PySem.boot_len (zaaa (qv av42 4 rfl) zaab zaac) zabb zabc)) (zaaf (zaat (i:=9) nd rfl (av42.l 9 rfl) (zaah D_law_next hr (gl42.g 0 rfl) pass0 (zaaa (qv av42 0 rfl) (zaaa (qv av42 1 rfl) zaab zaac) zaac) zabq)) (zaaf (zaat (i:=10) nd rfl (av42.l 10 rfl) (zaa0 (zaaa (zaa0 (zaaa (zaay (zaaa zaaj (zaaa (zaav zabn (qv av42 9 rfl) (qv av42 8 rfl)) zaab zabh) zaad)) zaab zaa2)) (zaaa (zaa0 (zaaa (zaay (zaaa zaaj (zaaa zaae (zaaa (qv av42 8 rfl) zaab zaac) zaad) zaad)) (zaaa (zaay (zaaa zaaj (zaaa (qv av42 8 rfl) (zaaa (zaav zabn (qv av42 9 rfl) (qv av42 8 rfl)) zaab zabh) zaac) zaad)) zaab zaa2) zaa2)) (zaaa (zaa0 (zaaa (zaa0 (zaaa zaaj zaab zaad)) (zaaa (zaa0 (zaaa zaaj (zaaa (qv av42 8 rfl) (zaaa zaae zaab zaad) zaac) zaad)) zaab zabt) zabt)) zaab zabt) zabt) zabt))) (zaaz (zaat (i:=11) nd rfl (av42.l 11 rfl) (zaao zaaq (qv av42 10 rfl) (zaav zabn (zaav zab3 (qv av42 9 rfl) zaae) zaae) (fun _ _=>rfl))) (zaaz (zaat (i:=12) nd rfl (av42.l 12 rfl) (zaay (zaaa (qv av42 11 rfl) (zaaa (qv av42 7 rfl) zaab zaac) zaac))) (zaaf (zaax (zabx (zack (zabp (zabf (zaah D_law_said hr (gl42.g 4 rfl) pass0 (zaaa (qv av42 6 rfl) (zaaa (qv av42 6 rfl) (zaaa (qv av42 12 rfl) (zaaa zaa5 zaab zaad) zaac) zaac) zaac) zacm))) (zab8 (zaak (zaq6 hr.units) (qv av42 12 rfl) (zaay (zaaa (qv av42 11 rfl) (zaaa (qv av42 7 rfl) zaab zaac) zaac)) (nomark _))))) (zaag (zaal zaa5)) zaan) (zaaz (zaat (i:=13) nd rfl (av42.l 13 rfl) (zaah D_law_bent_pairs hr (gl42.g 7 rfl) pass0 (zaaa (qv av42 7 rfl) (zaaa (zaah D_law_next hr (gl42.g 0 rfl) pass0 (zaaa (qv av42 0 rfl) (zaaa (qv av42 1 rfl) zaab zaac) zaac) zabq) zaab zab0) zaac) zae0)) (zaaf (zaax (zabp (zabf (zaah D_law_said hr (gl42.g 4 rfl) pass0 (zaaa (qv av42 6 rfl) (zaaa (qv av42 6 rfl) (zaaa (zaay (zaaa (zaa0 zaab) (zaaa (qv av42 13 rfl) zaab zaac) zabt)) (zaaa (zaah D_law_walk hr (gl42.g 8 rfl) pass0 (zaaa (qv av42 6 rfl) (zaaa (qv av42 6 rfl) (zaaa (zaa0 zaab) (zaaa (qv av42 13 rfl) zaab zaac) zabt) zaac) zaac) zae9) zaab zab0) zaa2) zaac) zaac) zacm))) (zaag (zaal zaa5)) zaan) (zaaz (zaat (i:=14) nd rfl (av42.l 14 rfl) (zaah D_law_bent_net hr (gl42.g 9 rfl) pass0 (zaaa (qv av42 4 rfl) (zaaa (qv av42 5 rfl) (zaaa (zaah D_law_next hr (gl42.g 0 rfl) pass0 (zaaa (qv av42 0 rfl) (zaaa (qv av42 1 rfl) zaab zaac) zaac) zabq) zaab zab0) zaac) zaac) zafc)) (zaaf (zaax (zabp (zabf (zaah D_law_said hr (gl42.g 4 rfl) pass0 (zaaa (qv av42 6 rfl) (zaaa (qv av42 14 rfl) (zaaa (zaay (zaaa (zaa0 zaab) (zaaa (qv av42 7 rfl) zaab zaac) zabt)) (zaaa (zaah D_law_walk hr (gl42.g 8 rfl) pass0 (zaaa (qv av42 6 rfl) (zaaa (qv av42 14 rfl) (zaaa (zaa0 zaab) (zaaa (qv av42 7 rfl) zaab zaac) zabt) zaac) zaac) zae9) zaab zab0) zaa2) zaac) zaac) zacm))) (zaag (zaal zaa5)) zaan) (zaag (zaal (zaaw (zaah D_law_forms_false hr (gl42.g 10 rfl) pass0 (zaaa (qv av42 6 rfl) (zaaa (qv av42 7 rfl) (zaaa (zaah D_law_next hr (gl42.g 0 rfl) pass0 (zaaa (qv av42 0 rfl) (zaaa (qv av42 1 rfl) zaab zaac) zaac) zabq) zaab zab0) zaac) zaac) zael) (zaau (zaah D_law_said hr (gl42.g 4 rfl) pass0 (zaaa (qv av42 6 rfl) (zaaa (qv av42 6 rfl) (zaaa (zaay (zaaa (zaa0 zaab) (zaaa (qv av42 7 rfl) zaab zaac) zabt)) (zaaa zaa5 zaab zaad) zaa2) zaac) zaac) zacm)))))))))))))))))))))),?_⟩
 (try dsimp only [cxOf])
 have bx:Box (Scr K H a ns):=⟨hS⟩
 clear hS
 walk_at "rd"
 refine ⟨bx.h,hb,h0,by omega,fun z1 H1 z10 z11 c1 b1=>?_⟩
 have bx1:Box (Scr K H1 a ns):=⟨bx.h.ch hb c1⟩
 walk_at "rd"
 refine ⟨bx1.h,b1,by omega,by omega,fun z2 H2 z20 z21 c2 b2=>?_⟩
 have bx2:Box (Scr K H2 a ns):=⟨bx1.h.ch b1 c2⟩
 walk_at "rd"
 refine ⟨bx2.h,b2,by omega,by omega,fun z3 H3 z30 z31 c3 b3=>?_⟩
 obtain ⟨ins,e1⟩:=Int.eq_ofNat_of_zero_le (show 0≤1 + z1 % 3 by omega)
 obtain ⟨kee,e2⟩:=Int.eq_ofNat_of_zero_le (show 0≤1 + z2 % 3 by omega)
 obtain ⟨man,e3⟩:=Int.eq_ofNat_of_zero_le (show 0≤1 + z3 % 8 by omega)
 have bx3:Box (Scr K H3 a ns):=⟨bx2.h.ch b2 c3⟩
 clear bx2 bx1
 walk_at "rd"
 refine ⟨bx3.h,b3,by omega,by omega,fun R gl ol gs xs os H4 ns4 hR4 lz4 ho4 oo4 zo4 fg4 fo4=>?_⟩
 have cH3:Ch [b] H H3:=(c1.trans c2).trans c3
 obtain ⟨c4,b4,hc4,hd4⟩:=ns4.at_
 have ct4:CT H H4 b c 1003:=⟨cH3.trans ns4.ch,c4,b4,by omega,by omega⟩
 have bx4:Box (Scr K H4 a ns):=⟨bx3.h.ch b3 ns4.ch⟩
 have n0:1≤gs.length:=by omega
 have lg:gs.length≤48:=lz4.1
 have gb:gl≠b:=(zaa7 b3 fg4).symm
 have ob:ol≠b:=(zaa7 b3 fo4).symm
 have nl4:NL H4 gl ol gs xs os:=⟨ns4.gl,ns4.gg,ns4.ok,by omega,n0,ho4,oo4,by omega⟩
 clear c1 c2 c3 b1 b2 b3 bx3 bx fg4 fo4 cH3 lz4
 have hgl:=nl4.hg
 have hol:=nl4.ho
 clear ns4
 walk_at "rd"
 refine zaa6 (fun σ H'=>∃ nt gp op,σ=[some (.ref a),some (.ref b),some (.int (1 + z1 % 3)),some (.int (1 + z2 % 3)),some (.ref gl),some (.ref ol),some (.ref nt),none,none,none,none,none,none,none,none]∧Ch [] H4 H'∧NetAt CN H' nt gp op gs xs os) ?_ ?_
 ·walk_at "rd"
  rename_i x dx hx hdx nx
  have ci:=Ch.inst (C:=CN) hx hdx nx
  refine ⟨ci.get hgl (by simp),nl4.gg.tu (Tu.same ci),nl4.ok,by omega,ci.get hol (by simp),nl4.lo,by omega,fun gp1 op1 H5 c5 na5=>⟨rfl,?_⟩⟩
  exact ⟨x,gp1,op1,rfl,Ch.forget (ci.wk.trans c5) (by simpa using hx),na5⟩
 rintro σ H5 ⟨nt,gp,op,rfl,c5,na5⟩
 have hgl5:=c5.get hgl (by simp)
 have gg5:=nl4.gg.tu (Tu.same c5)
 refine zaa6 (fun σ H'=>∃ ql qs,σ=[some (.ref a),some (.ref b),some (.int (1 + z1 % 3)),some (.int (1 + z2 % 3)),some (.ref gl),some (.ref ol),some (.ref nt),some (.ref ql),none,none,none,none,none,none,none]∧Wk K CN H H' a b gl ol nt gp op ql ns c 1003 gs xs qs os) ?_ ?_
 ·walk_at "rd"
  rename_i ql qs H6 c6 fq hq pt
  have c56:=c5.trans c6
  refine ⟨bx4.h.same c56,ct4.same c56,⟨c56.get hgl (by simp),nl4.gg.tu (Tu.same c56),nl4.ok,nl4.lg,nl4.n0,c56.get hol (by simp),nl4.lo,nl4.ll⟩,gb,ob,na5.ch c6,hq,?_,pt⟩
  exact (zaa7 (c5.get b4 (by simp)) fq).symm
 clear hgl5 gg5 hgl hol nl4 bx4 ct4 b4 na5 c5
 rintro σ H6 ⟨ql,qs,rfl,w6⟩
 have hq6:=w6.hq
 have na6:=w6.na
 have hgl6:=w6.nl.hg
 have lx:(xs.length:Int)=(gs.length:Int):=by rw [w6.nl.gg.len]
 walk_at "rd"
 rename_i l0 hl0 p0 hp0
 refine ⟨Said.to (H:=H6) (by walk_at "ch") fun cF=>zam7 (k1:=.tuple) (k2:=.list) (k3:=.list) (lo:=[]) (na6.ch cF) w6.nl.ok w6.nl.lo (by have:=w6.nl.lg; omega) zaai (zaba hp0 zaai) .nil (cF.get hq6 (by simp)) (w6.pt.ch cF) (by simp) zaht,fun H7 c7=>?_⟩
 have w7:=w6.same (((Ch.new (W:=[]) hl0 (.lst [])).trans (Ch.new hp0 (.tup [.ref l0,.ref ql]))).trans c7)
 clear w6 hq6 na6 hgl6 hl0 hp0 c7
 have hq7:=w7.hq
 have na7:=w7.na
 walk_at "rd"
 rename_i e1' he1 l1' hl1' p1 hp1
 refine ⟨Said.to (H:=H7) (by walk_at "ch") fun cF=>zam7 (k1:=.list) (k2:=.tuple) (k3:=.tuple) (lo:=[]) (na7.ch cF) w7.nl.ok w7.nl.lo (by have:=w7.nl.lg; omega) zaai (zaba hp1 (zaba hl1' zaai)) .nil (zaba hp1 zaai) (w7.pt.ch cF) (by simp) zaht,fun H8 c8=>?_⟩
 have w8:=w7.same ((((Ch.new (W:=[]) he1 (.tup [])).trans (Ch.new hl1' (.tup qs))).trans (Ch.new hp1 (.lst [.ref e1',.ref l1']))).trans c8)
 clear w7 hq7 na7 he1 hl1' hp1 c8
 have hgl8:=w8.nl.hg
 walk_at "rd"
 refine zaa6 (fun σ H'=>σ=[some (.ref a),some (.ref b),some (.int (1 + z1 % 3)),some (.int (1 + z2 % 3)),some (.ref gl),some (.ref ol),some (.ref nt),some (.ref ql),some (.int (gs.length:Int)),none,none,none,none,none,none]∧H'=H8) ?_ ?_
 ·walk_at "rd"
  rw [lx]
  exact ⟨rfl,rfl⟩
 rintro σ H9 ⟨rfl,eH⟩
 subst eH
 obtain ⟨c9,b9,hc9,hd9⟩:=w8.ct.at_
 have bx8:Box (Scr K H9 a ns):=⟨w8.scr⟩
 clear hgl8
 walk_at "rd"
 refine ⟨bx8.h,b9,by omega,by omega,fun m H10 m0 m1 c10 b10=>?_⟩
 have w10:=w8.bump b9 c10 b10
 have ln0:=w10.nl.n0
 obtain ⟨mk,emk⟩:=Int.eq_ofNat_of_zero_le (Int.emod_nonneg m (b:=(gs.length:Int)) (by omega))
 have lmk:mk < gs.length:=by have:=Int.emod_lt_of_pos m (b:=(gs.length:Int)) (by omega); omega
 clear w8 b9 bx8 c10
 have six:=Int.emod_nonneg (m / 97) (b:=3) (by omega)
 have six2:=Int.emod_lt_of_pos (m / 97) (b:=3) (by omega)
 walk_at "rd"
 rename_i t1 ht1 a1 ha1 t2 ht2 t3 ht3 a2 ha2 l3 hl3 l4 hl4 a3 ha3 sp hsp
 refine zaa6 (fun σ H'=>∃ (sp ll:Addr) (lo:List Gt) (zs:List V),σ=[some (.ref a),some (.ref b),some (.int (1 + z1 % 3)),some (.int (1 + z2 % 3)),some (.ref gl),some (.ref ol),some (.ref nt),some (.ref ql),some (.int (gs.length:Int)),some (.int m),some (.ref sp),some (.ref ll),none,none,none]∧Ch [] H10 H'∧LO H' gs ll lo zs) ?_ ?_
 ·walk_at "rd"
  refine Atx.any (by omega) (by show m / 97 % 3 < 3; omega) fun y hy _=>?_
  have hy:y∈[V.ref a1,.ref a2,.ref a3]:=hy
  simp only [List.mem_cons,List.not_mem_nil,or_false] at hy
  rcases hy with rfl | rfl | rfl
  ·exact ⟨sp,a1,_,_,rfl,by walk_at "ch",lo1 (j:=mk) (by walk_at "get") (by walk_at "get") (congrArg V.int emk) lmk⟩
  ·exact ⟨sp,a2,_,_,rfl,by walk_at "ch",lo2 (j:=mk) (by walk_at "get") (by walk_at "get") (by walk_at "get") (congrArg V.int emk) lmk⟩
  ·exact ⟨sp,a3,_,_,rfl,by walk_at "ch",lo3 (by walk_at "get") (by walk_at "get") (by walk_at "get")⟩
 clear ht1 ha1 ht2 ht3 ha2 hl3 hl4 ha3 hsp
 rintro σ H11 ⟨sp,ll,lo,zs,rfl,c11,lo11⟩
 have w11:=w10.same c11
 have b11:=c11.get b10 (by simp)
 clear w10 b10 c11
 refine zaa6 (fun σ H'=>∃ pp,σ=[some (.ref a),some (.ref b),some (.int (1 + z1 % 3)),some (.int (1 + z2 % 3)),some (.ref gl),some (.ref ol),some (.ref nt),some (.ref ql),some (.int (gs.length:Int)),some (.int m),some (.ref sp),some (.ref ll),some (.ref pp),none,none]∧Ch [] H11 H'∧H' pp=some (.tup [.ref ll,.ref ql])) ?_ ?_
 ·walk_at "rd"
 rintro σ H12 ⟨pp,rfl,c12,hpp⟩
 have w12:=w11.same c12
 have lo12:=lo11.ch c12
 have b12:=c12.get b11 (by simp)
 clear w11 lo11 b11 c12
 walk_at "rd"
 refine ⟨zam7 (k1:=.tuple) (k2:=.list) (k3:=.list) w12.na w12.nl.ok w12.nl.lo (by have:=w12.nl.lg; omega) hpp lo12.h lo12.g w12.hq w12.pt (by have:=lo12.l; omega) lo12.lk,fun H13 c13=>?_⟩
 have hpp13:=c13.get hpp (by simp)
 walk_at "rd"
 rename_i tp htp
 refine ⟨.cons (.inl ⟨rfl,.inr ⟨_,rfl⟩⟩) (.cons (.inl ⟨rfl,.inr ⟨_,rfl⟩⟩) .nil),?_⟩
 have cD:=c13.trans (Ch.new htp (.tup [.ref ll,.ref ql]))
 have w13:=w12.same cD
 have b13:=cD.get b12 (by simp)
 clear w12 b12 lo12 hpp hpp13 htp c13
 generalize upd H13 tp (.tup [.ref ll,.ref ql])=H14 at cD w13 b13 ⊢
 clear cD
 walk_at "rd"
 have ap:=zal4 ln0 (by have:=w13.nl.lg; omega:gs.length≤1000)
 refine zaa6 (fun σ H'=>∃ (r:Addr) (prs':Prs) (qs':List V),σ=[some (.ref a),some (.ref b),some (.int (1 + z1 % 3)),some (.int (1 + z2 % 3)),some (.ref gl),some (.ref ol),some (.ref nt),some (.ref ql),some (.int (gs.length:Int)),some (.int m),some (.ref sp),some (.ref ll),some (.ref pp),some (.ref r),none]∧Wk K CN H H' a b gl ol nt gp op ql ns c 1005 gs xs qs os∧H' b=some (.lst [.int (c9 + 1 + 1)])∧H' r=some (.lst qs')∧PrT H' prs' qs'∧prs'.length≤(prsOf gs).length + 1∧∀ p,some p∈prs'→p.1 < (prsOf gs).length) ?_ ?_
 ·have bx:Box (Scr K H14 a ns):=⟨w13.scr⟩
  walk_at "rd"
  refine ⟨bx.h,b13,by omega,by omega,fun m2 H15 m20 m21 c15 b15=>?_⟩
  have w15:=w13.bump b13 c15 b15
  have hq15:=w15.hq
  have pt15:=w15.pt
  walk_at "rd"
  rename_i r prs' qs' H16 c16 hr0 hr1 hpr hle hlt
  exact ⟨(w15.same c16).wk (by omega),c16.get b15 (by simp),hr1,hpr,hle,hlt⟩
 clear w13 b13
 rintro σ H15 ⟨r,prs',qs',rfl,w15,b15,hr,ptr,ler,ltr⟩
 have pr15:=zam8 w15.nl.ok w15.nl.lo ltr
 have na15:=w15.na
 have lg1:gs.length≤1000:=by have:=w15.nl.lg; omega
 walk_at "rd"
 rename_i e5 he5 p5 hp5 e6 he6 H16 c16
 have cx:=(((Ch.new (W:=[]) he5 (.lst [])).trans (Ch.new hp5 (.tup [.ref e5,.ref r]))).trans (Ch.new he6 (.lst []))).trans c16
 refine ⟨zanx (na15.ch cx) (na15.ch cx) lg1 lg1 (c16.get (zaba he6 zaai) (by simp)) (c16.get (zaba he6 (zaba hp5 zaai)) (by simp)) (cx.get hr (by simp)) (ptr.ch cx) pr15,fun H17 c17=>?_⟩
 have w17:=w15.same (cx.trans c17)
 have b17:=(cx.trans c17).get b15 (by simp)
 clear w15 b15 na15 ptr hr pr15 cx c16 c17 he5 hp5 he6 ltr ler
 walk_at "rd"
 refine zaa6 (fun σ H'=>∃ (st gp2 op2:Addr) (sg:List Gt) (ys:List V) (so:List Nat),σ=[some (.ref a),some (.ref b),some (.int (1 + z1 % 3)),some (.int (1 + z2 % 3)),some (.ref gl),some (.ref ol),some (.ref nt),some (.ref ql),some (.int (gs.length:Int)),some (.int m),some (.ref sp),some (.ref ll),some (.ref pp),some (.ref r),some (.ref st)]∧Wk K CN H H' a b gl ol nt gp op ql ns c 1006 gs xs qs os∧H' b=some (.lst [.int (c9 + 1 + 1 + 1)])∧NetAt CN H' st gp2 op2 sg ys so∧gs.length≤sg.length∧sg.length≤1000) ?_ ?_
 ·have bx:Box (Scr K H17 a ns):=⟨w17.scr⟩
  walk_at "rd"
  refine ⟨bx.h,b17,by omega,by omega,fun m3 H18 m30 m31 c18 b18=>?_⟩
  have w18:=w17.bump b17 c18 b18
  have nl18:=w18.nl
  walk_at "rd"
  rename_i st gp2 op2 sg ys so H19 c19 nas le1 le2
  exact ⟨(w18.same c19).wk (by omega),c19.get b18 (by simp),nas,le1,by have:=nl18.lg; omega⟩
 clear w17 b17
 rintro σ H18 ⟨st,gp2,op2,sg,ys,so,rfl,w18,b18,nas,le1,le2⟩
 have pr18:=zapu (os:=os) (sg:=sg) w18.nl.ok w18.nl.lo le1
 have na18:=w18.na
 have hq18:=w18.hq
 have pt18:=w18.pt
 walk_at "rd"
 rename_i e7 he7 p7 hp7 e8 he8 H19 c19
 have cx:=(((Ch.new (W:=[]) he7 (.lst [])).trans (Ch.new hp7 (.tup [.ref e7,.ref ql]))).trans (Ch.new he8 (.lst []))).trans c19
 refine ⟨zanx (na18.ch cx) (nas.ch cx) lg1 le2 (c19.get (zaba he8 zaai) (by simp)) (c19.get (zaba he8 (zaba hp7 zaai)) (by simp)) (cx.get hq18 (by simp)) (pt18.ch cx) pr18,fun H20 c20=>?_⟩
 have w20:=w18.same (cx.trans c20)
 have b20:=(cx.trans c20).get b18 (by simp)
 have bx:Box (Scr K H20 a ns):=⟨w20.scr⟩
 clear w18 b18 na18 nas hq18 pt18 cx c19 c20 he7 hp7 he8 pr18
 walk_at "rd"
 refine ⟨bx.h,b20,by omega,by omega,fun m4 H21 m40 m41 c21 b21=>?_⟩
 have w21:=w20.bump b20 c21 b21
 have na21:=w21.na
 have hq21:=w21.hq
 have pt21:=w21.pt
 have ok21:=w21.nl.ok
 have lo21:=w21.nl.lo
 clear bx w20 b20 c21
 walk_at "rd"
 rename_i H22 c22 l9 hl9 p9 hp9
 have w22:=w21.same c22
 have na22:=w22.na
 have hq22:=w22.hq
 refine ⟨Said.to (H:=H22) (by walk_at "ch") fun cF=>zam7 (k1:=.tuple) (k2:=.list) (k3:=.list) (lo:=[]) (na22.ch cF) ok21 lo21 lg1 zaai (zaba hp9 zaai) .nil (cF.get hq22 (by simp)) (w22.pt.ch cF) (by simp) zaht,fun H23 c23=>?_⟩
 have w23:=w22.same (((Ch.new (W:=[]) hl9 (.lst [])).trans (Ch.new hp9 (.tup [.ref l9,.ref ql]))).trans c23)
 exact q _ (w23.ct.wk (by omega))
theorem av43:AF (defScope (top 43)) ["_law_script", "_law_at", "_law_turn"]:=⟨by decide +kernel⟩
theorem gl43:AG (defScope (top 43)) ["range", "min", "len", "_law_one"]:=⟨by decide +kernel⟩
def spLaw (K:PySem.W.Frag):Sp:=fun vs H Q _=>∃ (a:Addr) (ns:List Int),vs=[.ref a]∧Scr K H a ns∧∀ H',Q (.bl true) H'
theorem scLaw:FnScope ["_law_script", "_law_at", "_law_turn"] ["_law_script"] (defScope (top 43)):=⟨rfl,rfl,rfl,by decide +kernel,rfl,by decide +kernel,by decide +kernel⟩
theorem zarv (F:Fun K "law" "law" (top 43) f fd) (D_law_one:DefOk P w K mg base CX0 k "_law_one" ["_law_script", "_law_at"] (spOne K)) (z_len:mg "len" = none) (z_min:mg "min" = none) (z_range:mg "range" = none):FnOk P w K mg base CX0 (k + 1) f fd ["_law_script"] (spLaw K):=by
 have nd:=scLaw.nd
 refine F.ok scLaw (fun vs H Q E h=>by obtain ⟨a,ns,rfl,_⟩:=h; rfl) (fun cdv A outer s H vs Q E hr h=>?_)
 obtain ⟨a,ns,rfl,hS,q⟩:=h
 refine ⟨_,(Pr.h (zaaf (zaat (i:=1) nd rfl (av43.l 1 rfl) (zaa0 (zaaa zaae zaab zaad))) (zaaf (zaby PassesOwn.never rfl (zacu (gl43.g 0 rfl) z_range (zaaa (zaav zacx zaae (zaap (zag1 rfl) (gl43.g 1 rfl) z_min zant (zaaa zaae (zaaa (zaav zab3 (zaap zaam (gl43.g 2 rfl) z_len PySem.boot_len (zaaa (qv av43 0 rfl) zaab zaac) zabb zabc) zaae) zaab zabh) zaad) zanu zanv)) zaab zabh)) (zaa1 (i:=2) nd rfl (av43.l 2 rfl)) (zaag (zaax (zabp (zabf (zaah D_law_one hr (gl43.g 3 rfl) pass0 (zaaa (qv av43 0 rfl) (zaaa (qv av43 1 rfl) zaab zaac) zaac) zair))) (zaag (zaal zaa5)) zaan))) (zaag (zaal zaa5))))),?_⟩
 (try dsimp only [cxOf])
 have bx:Box (Scr K H a ns):=⟨hS⟩
 walk_at "rd"
 rename_i b hb
 have hS1:=bx.h.same (Ch.new hb (.lst [.int 0]))
 have hbl:upd H b (.lst [.int 0]) b=some (.lst [.int 0]):=zaai
 obtain ⟨H1,e1⟩:∃ H1,H1=upd H b (.lst [.int 0]):=⟨_,rfl⟩
 rw [← e1] at hS1 hbl ⊢
 have hn:((1:Int) + if ((ns.map V.int).length:Int) / 16 < 1 then ((ns.map V.int).length:Int) / 16 else 1).toNat≤2:=by split <;> omega
 obtain ⟨n,en⟩:∃ n:Nat,((1:Int) + if ((ns.map V.int).length:Int) / 16 < 1 then ((ns.map V.int).length:Int) / 16 else 1).toNat=n:=⟨_,rfl⟩
 rw [en] at hn ⊢
 refine zac3 (fun i σ H'=>∃ u,σ=[some (.ref a),some (.ref b),u]∧CT H1 H' b 0 (2000 * (i:Int))) ⟨_,rfl,(CT.zero hbl).wk (by omega)⟩ ?_ ?_
 ·rintro i σ H' hi ⟨u,rfl,ct⟩
  obtain ⟨c1,hb1,l1,l1'⟩:=ct.at_
  have bx2:Box (Scr K H' a ns):=⟨hS1.ch hbl ct.ch⟩
  clear hS1 hS
  walk_at "rd"
  refine ⟨bx2.h,hb1,l1,by omega,fun H3 ct3=>?_⟩
  walk_at "rd"
  exact (ct.trans hb1 ct3).wk (B':=2000 * ((i + 1:Nat):Int)) (by omega)
 ·rintro σ H' ⟨u,rfl,ct⟩
  walk_at "rd"
  exact q _
end
end

section
def spt5 (a b c d:Addr) (f:Addr):Sp:=if f=a then spRu "not" else if f=b then spRu "and" else if f=c then spRu "or" else if f=d then spRu "xor" else spRu "pick"
def sptW (a b c d:Addr) (f:Addr):Sp:=if f=a then spRW (arY "not") else if f=b then spRW (arY "and") else if f=c then spRW (arY "or") else if f=d then spRW (arY "xor") else spRW (arY "pick")
theorem zarw:∀ vs H Q E,spRu "not" vs H Q E→spNotB vs H Q E:=fun vs H Q E h=>by
 rcases h with ⟨e,h⟩ | ⟨e,h⟩ | ⟨e,h⟩ | ⟨e,h⟩ | ⟨e,h⟩ <;> first | exact h | exact absurd e (by decide +kernel)
theorem zarx:∀ vs H Q E,spRu "and" vs H Q E→spAndB vs H Q E:=fun vs H Q E h=>by
 rcases h with ⟨e,h⟩ | ⟨e,h⟩ | ⟨e,h⟩ | ⟨e,h⟩ | ⟨e,h⟩ <;> first | exact h | exact absurd e (by decide +kernel)
theorem zass:∀ vs H Q E,spRu "or" vs H Q E→spOrB vs H Q E:=fun vs H Q E h=>by
 rcases h with ⟨e,h⟩ | ⟨e,h⟩ | ⟨e,h⟩ | ⟨e,h⟩ | ⟨e,h⟩ <;> first | exact h | exact absurd e (by decide +kernel)
theorem zary:∀ vs H Q E,spRu "xor" vs H Q E→spXorB vs H Q E:=fun vs H Q E h=>by
 rcases h with ⟨e,h⟩ | ⟨e,h⟩ | ⟨e,h⟩ | ⟨e,h⟩ | ⟨e,h⟩ <;> first | exact h | exact absurd e (by decide +kernel)
theorem zapv:∀ vs H Q E,spRu "pick" vs H Q E→spPickB vs H Q E:=fun vs H Q E h=>by
 rcases h with ⟨e,h⟩ | ⟨e,h⟩ | ⟨e,h⟩ | ⟨e,h⟩ | ⟨e,h⟩ <;> first | exact h | exact absurd e (by decide +kernel)
theorem zarz {l:PySem.W.OpenLaw}{w:World}{K:PySem.W.Frag}{h:Heap}{mg:Str→Option Value}{fa CN:Addr} (X:K.In h) (G:h.Ns mainGlobals mg) (hfa:mg "law" = some (.ref fa))
  {f0:Addr}{od0 an0:Option Addr}{sl0:Array (Option Value)}{oc0 kV0 dc0 pm0 cd0 ct0:Value}
  {f1:Addr}{od1 an1:Option Addr}{sl1:Array (Option Value)}{oc1 kV1 dc1 pm1 cd1 ct1:Value}
  {f2:Addr}{od2 an2:Option Addr}{sl2:Array (Option Value)}{oc2 kV2 dc2 pm2 cd2 ct2:Value}
  {f3:Addr}{od3 an3:Option Addr}{sl3:Array (Option Value)}{oc3 kV3 dc3 pm3 cd3 ct3:Value}
  {f4:Addr}{od4 an4:Option Addr}{sl4:Array (Option Value)}{oc4 kV4 dc4 pm4 cd4 ct4:Value}
  {f5:Addr}{od5 an5:Option Addr}{sl5:Array (Option Value)}{oc5 kV5 dc5 pm5 cd5 ct5:Value}
  {f6:Addr}{od6 an6:Option Addr}{sl6:Array (Option Value)}{oc6 kV6 dc6 pm6 cd6 ct6:Value}
  {f7:Addr}{od7 an7:Option Addr}{sl7:Array (Option Value)}{oc7 kV7 dc7 pm7 cd7 ct7:Value}
  {f8:Addr}{od8 an8:Option Addr}{sl8:Array (Option Value)}{oc8 kV8 dc8 pm8 cd8 ct8:Value}
  {f9:Addr}{od9 an9:Option Addr}{sl9:Array (Option Value)}{oc9 kV9 dc9 pm9 cd9 ct9:Value}
  {f10:Addr}{od10 an10:Option Addr}{sl10:Array (Option Value)}{oc10 kV10 dc10 pm10 cd10 ct10:Value}
  {f11:Addr}{od11 an11:Option Addr}{sl11:Array (Option Value)}{oc11 kV11 dc11 pm11 cd11 ct11:Value}
  {f12:Addr}{od12 an12:Option Addr}{sl12:Array (Option Value)}{oc12 kV12 dc12 pm12 cd12 ct12:Value}
  {f13:Addr}{od13 an13:Option Addr}{sl13:Array (Option Value)}{oc13 kV13 dc13 pm13 cd13 ct13:Value}
  {f14:Addr}{od14 an14:Option Addr}{sl14:Array (Option Value)}{oc14 kV14 dc14 pm14 cd14 ct14:Value}
  {f15:Addr}{od15 an15:Option Addr}{sl15:Array (Option Value)}{oc15 kV15 dc15 pm15 cd15 ct15:Value}
  {f16:Addr}{od16 an16:Option Addr}{sl16:Array (Option Value)}{oc16 kV16 dc16 pm16 cd16 ct16:Value}
  {f17:Addr}{od17 an17:Option Addr}{sl17:Array (Option Value)}{oc17 kV17 dc17 pm17 cd17 ct17:Value}
  {f18:Addr}{od18 an18:Option Addr}{sl18:Array (Option Value)}{oc18 kV18 dc18 pm18 cd18 ct18:Value}
  {f19:Addr}{od19 an19:Option Addr}{sl19:Array (Option Value)}{oc19 kV19 dc19 pm19 cd19 ct19:Value}
  {f20:Addr}{od20 an20:Option Addr}{sl20:Array (Option Value)}{oc20 kV20 dc20 pm20 cd20 ct20:Value}
  {f21:Addr}{od21 an21:Option Addr}{sl21:Array (Option Value)}{oc21 kV21 dc21 pm21 cd21 ct21:Value}
  {f22:Addr}{od22 an22:Option Addr}{sl22:Array (Option Value)}{oc22 kV22 dc22 pm22 cd22 ct22:Value}
  {f23:Addr}{od23 an23:Option Addr}{sl23:Array (Option Value)}{oc23 kV23 dc23 pm23 cd23 ct23:Value}
  {f24:Addr}{od24 an24:Option Addr}{sl24:Array (Option Value)}{oc24 kV24 dc24 pm24 cd24 ct24:Value}
  {f25:Addr}{od25 an25:Option Addr}{sl25:Array (Option Value)}{oc25 kV25 dc25 pm25 cd25 ct25:Value}
  {f26:Addr}{od26 an26:Option Addr}{sl26:Array (Option Value)}{oc26 kV26 dc26 pm26 cd26 ct26:Value}
  {f27:Addr}{od27 an27:Option Addr}{sl27:Array (Option Value)}{oc27 kV27 dc27 pm27 cd27 ct27:Value}
  {f28:Addr}{od28 an28:Option Addr}{sl28:Array (Option Value)}{oc28 kV28 dc28 pm28 cd28 ct28:Value}
  {f29:Addr}{od29 an29:Option Addr}{sl29:Array (Option Value)}{oc29 kV29 dc29 pm29 cd29 ct29:Value}
  {f30:Addr}{od30 an30:Option Addr}{sl30:Array (Option Value)}{oc30 kV30 dc30 pm30 cd30 ct30:Value}
  {f31:Addr}{od31 an31:Option Addr}{sl31:Array (Option Value)}{oc31 kV31 dc31 pm31 cd31 ct31:Value}
  {f32:Addr}{od32 an32:Option Addr}{sl32:Array (Option Value)}{oc32 kV32 dc32 pm32 cd32 ct32:Value}
  {f33:Addr}{od33 an33:Option Addr}{sl33:Array (Option Value)}{oc33 kV33 dc33 pm33 cd33 ct33:Value}
  {f34:Addr}{od34 an34:Option Addr}{sl34:Array (Option Value)}{oc34 kV34 dc34 pm34 cd34 ct34:Value}
  (aN:PySem.W.nsIn K mainGlobals "Net" = some (some (.ref CN)))
  (a0:PySem.W.nsIn K mainGlobals "is_whole" = some (some (.ref f0))) (l0:K.lookup f0=some ⟨oc0,od0,.func (PySem.W.fnOf "is_whole" "is_whole" (defArgs (top 4)) (defBody (top 4)) (defScope (top 4)) .none kV0 dc0 pm0 an0 cd0 ct0),sl0⟩) (c0:PySem.W.codeIn K cd0 "is_whole" = true) (k0:PySem.W.keepIn K (.ref f0)=true)
  (a1:PySem.W.nsIn K mainGlobals "is_below" = some (some (.ref f1))) (l1:K.lookup f1=some ⟨oc1,od1,.func (PySem.W.fnOf "is_below" "is_below" (defArgs (top 5)) (defBody (top 5)) (defScope (top 5)) .none kV1 dc1 pm1 an1 cd1 ct1),sl1⟩) (c1:PySem.W.codeIn K cd1 "is_below" = true) (k1:PySem.W.keepIn K (.ref f1)=true)
  (a2:PySem.W.nsIn K mainGlobals "is_listed" = some (some (.ref f2))) (l2:K.lookup f2=some ⟨oc2,od2,.func (PySem.W.fnOf "is_listed" "is_listed" (defArgs (top 6)) (defBody (top 6)) (defScope (top 6)) .none kV2 dc2 pm2 an2 cd2 ct2),sl2⟩) (c2:PySem.W.codeIn K cd2 "is_listed" = true) (k2:PySem.W.keepIn K (.ref f2)=true)
  (a3:PySem.W.nsIn K mainGlobals "is_pair" = some (some (.ref f3))) (l3:K.lookup f3=some ⟨oc3,od3,.func (PySem.W.fnOf "is_pair" "is_pair" (defArgs (top 7)) (defBody (top 7)) (defScope (top 7)) .none kV3 dc3 pm3 an3 cd3 ct3),sl3⟩) (c3:PySem.W.codeIn K cd3 "is_pair" = true) (k3:PySem.W.keepIn K (.ref f3)=true)
  (a4:PySem.W.nsIn K mainGlobals "is_gate" = some (some (.ref f4))) (l4:K.lookup f4=some ⟨oc4,od4,.func (PySem.W.fnOf "is_gate" "is_gate" (defArgs (top 10)) (defBody (top 10)) (defScope (top 10)) .none kV4 dc4 pm4 an4 cd4 ct4),sl4⟩) (c4:PySem.W.codeIn K cd4 "is_gate" = true) (k4:PySem.W.keepIn K (.ref f4)=true)
  (a5:PySem.W.nsIn K mainGlobals "ins_of" = some (some (.ref f5))) (l5:K.lookup f5=some ⟨oc5,od5,.func (PySem.W.fnOf "ins_of" "ins_of" (defArgs (top 12)) (defBody (top 12)) (defScope (top 12)) .none kV5 dc5 pm5 an5 cd5 ct5),sl5⟩) (c5:PySem.W.codeIn K cd5 "ins_of" = true) (k5:PySem.W.keepIn K (.ref f5)=true)
  (a6:PySem.W.nsIn K mainGlobals "feeds_of" = some (some (.ref f6))) (l6:K.lookup f6=some ⟨oc6,od6,.func (PySem.W.fnOf "feeds_of" "feeds_of" (defArgs (top 13)) (defBody (top 13)) (defScope (top 13)) .none kV6 dc6 pm6 an6 cd6 ct6),sl6⟩) (c6:PySem.W.codeIn K cd6 "feeds_of" = true) (k6:PySem.W.keepIn K (.ref f6)=true)
  (a7:PySem.W.nsIn K mainGlobals "is_zero" = some (some (.ref f7))) (l7:K.lookup f7=some ⟨oc7,od7,.func (PySem.W.fnOf "is_zero" "is_zero" (defArgs (top 15)) (defBody (top 15)) (defScope (top 15)) .none kV7 dc7 pm7 an7 cd7 ct7),sl7⟩) (c7:PySem.W.codeIn K cd7 "is_zero" = true) (k7:PySem.W.keepIn K (.ref f7)=true)
  (a8:PySem.W.nsIn K mainGlobals "is_one" = some (some (.ref f8))) (l8:K.lookup f8=some ⟨oc8,od8,.func (PySem.W.fnOf "is_one" "is_one" (defArgs (top 16)) (defBody (top 16)) (defScope (top 16)) .none kV8 dc8 pm8 an8 cd8 ct8),sl8⟩) (c8:PySem.W.codeIn K cd8 "is_one" = true) (k8:PySem.W.keepIn K (.ref f8)=true)
  (a9:PySem.W.nsIn K mainGlobals "are_opposed" = some (some (.ref f9))) (l9:K.lookup f9=some ⟨oc9,od9,.func (PySem.W.fnOf "are_opposed" "are_opposed" (defArgs (top 17)) (defBody (top 17)) (defScope (top 17)) .none kV9 dc9 pm9 an9 cd9 ct9),sl9⟩) (c9:PySem.W.codeIn K cd9 "are_opposed" = true) (k9:PySem.W.keepIn K (.ref f9)=true)
  (a10:PySem.W.nsIn K mainGlobals "not_holds" = some (some (.ref f10))) (l10:K.lookup f10=some ⟨oc10,od10,.func (PySem.W.fnOf "not_holds" "not_holds" (defArgs (top 18)) (defBody (top 18)) (defScope (top 18)) .none kV10 dc10 pm10 an10 cd10 ct10),sl10⟩) (c10:PySem.W.codeIn K cd10 "not_holds" = true) (k10:PySem.W.keepIn K (.ref f10)=true)
  (a11:PySem.W.nsIn K mainGlobals "and_holds" = some (some (.ref f11))) (l11:K.lookup f11=some ⟨oc11,od11,.func (PySem.W.fnOf "and_holds" "and_holds" (defArgs (top 19)) (defBody (top 19)) (defScope (top 19)) .none kV11 dc11 pm11 an11 cd11 ct11),sl11⟩) (c11:PySem.W.codeIn K cd11 "and_holds" = true) (k11:PySem.W.keepIn K (.ref f11)=true)
  (a12:PySem.W.nsIn K mainGlobals "or_holds" = some (some (.ref f12))) (l12:K.lookup f12=some ⟨oc12,od12,.func (PySem.W.fnOf "or_holds" "or_holds" (defArgs (top 20)) (defBody (top 20)) (defScope (top 20)) .none kV12 dc12 pm12 an12 cd12 ct12),sl12⟩) (c12:PySem.W.codeIn K cd12 "or_holds" = true) (k12:PySem.W.keepIn K (.ref f12)=true)
  (a13:PySem.W.nsIn K mainGlobals "xor_holds" = some (some (.ref f13))) (l13:K.lookup f13=some ⟨oc13,od13,.func (PySem.W.fnOf "xor_holds" "xor_holds" (defArgs (top 21)) (defBody (top 21)) (defScope (top 21)) .none kV13 dc13 pm13 an13 cd13 ct13),sl13⟩) (c13:PySem.W.codeIn K cd13 "xor_holds" = true) (k13:PySem.W.keepIn K (.ref f13)=true)
  (a14:PySem.W.nsIn K mainGlobals "pick_holds" = some (some (.ref f14))) (l14:K.lookup f14=some ⟨oc14,od14,.func (PySem.W.fnOf "pick_holds" "pick_holds" (defArgs (top 22)) (defBody (top 22)) (defScope (top 22)) .none kV14 dc14 pm14 an14 cd14 ct14),sl14⟩) (c14:PySem.W.codeIn K cd14 "pick_holds" = true) (k14:PySem.W.keepIn K (.ref f14)=true)
  (a15:PySem.W.nsIn K mainGlobals "pair_holds" = some (some (.ref f15))) (l15:K.lookup f15=some ⟨oc15,od15,.func (PySem.W.fnOf "pair_holds" "pair_holds" (defArgs (top 24)) (defBody (top 24)) (defScope (top 24)) .none kV15 dc15 pm15 an15 cd15 ct15),sl15⟩) (c15:PySem.W.codeIn K cd15 "pair_holds" = true) (k15:PySem.W.keepIn K (.ref f15)=true)
  (a16:PySem.W.nsIn K mainGlobals "with_lost" = some (some (.ref f16))) (l16:K.lookup f16=some ⟨oc16,od16,.func (PySem.W.fnOf "with_lost" "with_lost" (defArgs (top 25)) (defBody (top 25)) (defScope (top 25)) .none kV16 dc16 pm16 an16 cd16 ct16),sl16⟩) (c16:PySem.W.codeIn K cd16 "with_lost" = true) (k16:PySem.W.keepIn K (.ref f16)=true)
  (a17:PySem.W.nsIn K mainGlobals "are_pairs" = some (some (.ref f17))) (l17:K.lookup f17=some ⟨oc17,od17,.func (PySem.W.fnOf "are_pairs" "are_pairs" (defArgs (top 26)) (defBody (top 26)) (defScope (top 26)) .none kV17 dc17 pm17 an17 cd17 ct17),sl17⟩) (c17:PySem.W.codeIn K cd17 "are_pairs" = true) (k17:PySem.W.keepIn K (.ref f17)=true)
  (a18:PySem.W.nsIn K mainGlobals "ins_hold" = some (some (.ref f18))) (l18:K.lookup f18=some ⟨oc18,od18,.func (PySem.W.fnOf "ins_hold" "ins_hold" (defArgs (top 27)) (defBody (top 27)) (defScope (top 27)) .none kV18 dc18 pm18 an18 cd18 ct18),sl18⟩) (c18:PySem.W.codeIn K cd18 "ins_hold" = true) (k18:PySem.W.keepIn K (.ref f18)=true)
  (a19:PySem.W.nsIn K mainGlobals "outs_hold" = some (some (.ref f19))) (l19:K.lookup f19=some ⟨oc19,od19,.func (PySem.W.fnOf "outs_hold" "outs_hold" (defArgs (top 28)) (defBody (top 28)) (defScope (top 28)) .none kV19 dc19 pm19 an19 cd19 ct19),sl19⟩) (c19:PySem.W.codeIn K cd19 "outs_hold" = true) (k19:PySem.W.keepIn K (.ref f19)=true)
  (a20:PySem.W.nsIn K mainGlobals "gates_hold" = some (some (.ref f20))) (l20:K.lookup f20=some ⟨oc20,od20,.func (PySem.W.fnOf "gates_hold" "gates_hold" (defArgs (top 29)) (defBody (top 29)) (defScope (top 29)) .none kV20 dc20 pm20 an20 cd20 ct20),sl20⟩) (c20:PySem.W.codeIn K cd20 "gates_hold" = true) (k20:PySem.W.keepIn K (.ref f20)=true)
  (a21:PySem.W.nsIn K mainGlobals "small_holds" = some (some (.ref f21))) (l21:K.lookup f21=some ⟨oc21,od21,.func (PySem.W.fnOf "small_holds" "small_holds" (defArgs (top 30)) (defBody (top 30)) (defScope (top 30)) .none kV21 dc21 pm21 an21 cd21 ct21),sl21⟩) (c21:PySem.W.codeIn K cd21 "small_holds" = true) (k21:PySem.W.keepIn K (.ref f21)=true)
  (a22:PySem.W.nsIn K mainGlobals "_law_next" = some (some (.ref f22))) (l22:K.lookup f22=some ⟨oc22,od22,.func (PySem.W.fnOf "_law_next" "_law_next" (defArgs (top 32)) (defBody (top 32)) (defScope (top 32)) .none kV22 dc22 pm22 an22 cd22 ct22),sl22⟩) (c22:PySem.W.codeIn K cd22 "_law_next" = true) (k22:PySem.W.keepIn K (.ref f22)=true)
  (a23:PySem.W.nsIn K mainGlobals "_law_net" = some (some (.ref f23))) (l23:K.lookup f23=some ⟨oc23,od23,.func (PySem.W.fnOf "_law_net" "_law_net" (defArgs (top 33)) (defBody (top 33)) (defScope (top 33)) .none kV23 dc23 pm23 an23 cd23 ct23),sl23⟩) (c23:PySem.W.codeIn K cd23 "_law_net" = true) (k23:PySem.W.keepIn K (.ref f23)=true)
  (a24:PySem.W.nsIn K mainGlobals "_law_nots" = some (some (.ref f24))) (l24:K.lookup f24=some ⟨oc24,od24,.func (PySem.W.fnOf "_law_nots" "_law_nots" (defArgs (top 34)) (defBody (top 34)) (defScope (top 34)) .none kV24 dc24 pm24 an24 cd24 ct24),sl24⟩) (c24:PySem.W.codeIn K cd24 "_law_nots" = true) (k24:PySem.W.keepIn K (.ref f24)=true)
  (a25:PySem.W.nsIn K mainGlobals "_law_rule" = some (some (.ref f25))) (l25:K.lookup f25=some ⟨oc25,od25,.func (PySem.W.fnOf "_law_rule" "_law_rule" (defArgs (top 35)) (defBody (top 35)) (defScope (top 35)) .none kV25 dc25 pm25 an25 cd25 ct25),sl25⟩) (c25:PySem.W.codeIn K cd25 "_law_rule" = true) (k25:PySem.W.keepIn K (.ref f25)=true)
  (a26:PySem.W.nsIn K mainGlobals "_law_walk" = some (some (.ref f26))) (l26:K.lookup f26=some ⟨oc26,od26,.func (PySem.W.fnOf "_law_walk" "_law_walk" (defArgs (top 36)) (defBody (top 36)) (defScope (top 36)) .none kV26 dc26 pm26 an26 cd26 ct26),sl26⟩) (c26:PySem.W.codeIn K cd26 "_law_walk" = true) (k26:PySem.W.keepIn K (.ref f26)=true)
  (a27:PySem.W.nsIn K mainGlobals "_law_said" = some (some (.ref f27))) (l27:K.lookup f27=some ⟨oc27,od27,.func (PySem.W.fnOf "_law_said" "_law_said" (defArgs (top 37)) (defBody (top 37)) (defScope (top 37)) .none kV27 dc27 pm27 an27 cd27 ct27),sl27⟩) (c27:PySem.W.codeIn K cd27 "_law_said" = true) (k27:PySem.W.keepIn K (.ref f27)=true)
  (a28:PySem.W.nsIn K mainGlobals "_law_pairs" = some (some (.ref f28))) (l28:K.lookup f28=some ⟨oc28,od28,.func (PySem.W.fnOf "_law_pairs" "_law_pairs" (defArgs (top 38)) (defBody (top 38)) (defScope (top 38)) .none kV28 dc28 pm28 an28 cd28 ct28),sl28⟩) (c28:PySem.W.codeIn K cd28 "_law_pairs" = true) (k28:PySem.W.keepIn K (.ref f28)=true)
  (a29:PySem.W.nsIn K mainGlobals "_law_bent_pairs" = some (some (.ref f29))) (l29:K.lookup f29=some ⟨oc29,od29,.func (PySem.W.fnOf "_law_bent_pairs" "_law_bent_pairs" (defArgs (top 39)) (defBody (top 39)) (defScope (top 39)) .none kV29 dc29 pm29 an29 cd29 ct29),sl29⟩) (c29:PySem.W.codeIn K cd29 "_law_bent_pairs" = true) (k29:PySem.W.keepIn K (.ref f29)=true)
  (a30:PySem.W.nsIn K mainGlobals "_law_bent_net" = some (some (.ref f30))) (l30:K.lookup f30=some ⟨oc30,od30,.func (PySem.W.fnOf "_law_bent_net" "_law_bent_net" (defArgs (top 40)) (defBody (top 40)) (defScope (top 40)) .none kV30 dc30 pm30 an30 cd30 ct30),sl30⟩) (c30:PySem.W.codeIn K cd30 "_law_bent_net" = true) (k30:PySem.W.keepIn K (.ref f30)=true)
  (a31:PySem.W.nsIn K mainGlobals "_law_forms_false" = some (some (.ref f31))) (l31:K.lookup f31=some ⟨oc31,od31,.func (PySem.W.fnOf "_law_forms_false" "_law_forms_false" (defArgs (top 41)) (defBody (top 41)) (defScope (top 41)) .none kV31 dc31 pm31 an31 cd31 ct31),sl31⟩) (c31:PySem.W.codeIn K cd31 "_law_forms_false" = true) (k31:PySem.W.keepIn K (.ref f31)=true)
  (a32:PySem.W.nsIn K mainGlobals "_law_one" = some (some (.ref f32))) (l32:K.lookup f32=some ⟨oc32,od32,.func (PySem.W.fnOf "_law_one" "_law_one" (defArgs (top 42)) (defBody (top 42)) (defScope (top 42)) .none kV32 dc32 pm32 an32 cd32 ct32),sl32⟩) (c32:PySem.W.codeIn K cd32 "_law_one" = true) (k32:PySem.W.keepIn K (.ref f32)=true)
  (a33:PySem.W.nsIn K mainGlobals "law" = some (some (.ref f33))) (l33:K.lookup f33=some ⟨oc33,od33,.func (PySem.W.fnOf "law" "law" (defArgs (top 43)) (defBody (top 43)) (defScope (top 43)) .none kV33 dc33 pm33 an33 cd33 ct33),sl33⟩) (c33:PySem.W.codeIn K cd33 "law" = true) (k33:PySem.W.keepIn K (.ref f33)=true)
  (a34:PySem.W.findIn K (.ref CN) "__init__" = some (some (.ref f34))) (l34:K.lookup f34=some ⟨oc34,od34,.func (PySem.W.fnOf "__init__" "Net.__init__" (defArgs (inClass (top 11) 0)) (defBody (inClass (top 11) 0)) (defScope (inClass (top 11) 0)) .none kV34 dc34 pm34 an34 cd34 ct34),sl34⟩) (c34:PySem.W.codeIn K cd34 "Net.__init__" = true) (k34:PySem.W.keepIn K (.ref f34)=true) (i34:PySem.W.isFn K (.ref f34)=true)
  (pgN:PySem.W.plainGet K CN Str.empty=true) (hdN:PySem.W.hasDictIn K CN=true) (poN:PySem.W.plainOver K CN=true) (saN:PySem.W.findIn K (.ref CN) "__setattr__" = some (some (.builtin "object.__setattr__"))) (mkN:PySem.W.makesIn K CN=true) (kcN:PySem.W.keepIn K (.ref CN)=true)
  (nN_gates:PySem.W.findIn K (.ref CN) "gates" = some none)
  (nN_outs:PySem.W.findIn K (.ref CN) "outs" = some none)
  (z_len:PySem.W.nsIn K mainGlobals "len" = some none)
  (z_range:PySem.W.nsIn K mainGlobals "range" = some none)
  (z_int:PySem.W.nsIn K mainGlobals "int" = some none)
  (z_str:PySem.W.nsIn K mainGlobals "str" = some none)
  (z_isinstance:PySem.W.nsIn K mainGlobals "isinstance" = some none)
  (z_zip:PySem.W.nsIn K mainGlobals "zip" = some none)
  (z_list:PySem.W.nsIn K mainGlobals "list" = some none)
  (z_tuple:PySem.W.nsIn K mainGlobals "tuple" = some none)
  (z_bool:PySem.W.nsIn K mainGlobals "bool" = some none)
  (z_all:PySem.W.nsIn K mainGlobals "all" = some none)
  (z_enumerate:PySem.W.nsIn K mainGlobals "enumerate" = some none)
  (z_min:PySem.W.nsIn K mainGlobals "min" = some none)
  (z_max:PySem.W.nsIn K mainGlobals "max" = some none)
  {ff:Addr}{kvs:List (Key × V)} (aFC:PySem.W.nsIn K mainGlobals "FEED_COUNTS" = some (some (.ref ff)))
  (hKD:KD l.prog w K ff kvs)
  (hF:∀ w n,(w,n)∈FC→valV kvs (Sum.inr w)=some (.int n))
  (hFX:∀ w,valV kvs (Sum.inr w)=(List.lookup w FC).map V.int)
  {ra:Addr}{rkv:List (Key × V)} (aRU:PySem.W.nsIn K mainGlobals "RULES" = some (some (.ref ra)))
  (hKR:KD l.prog w K ra rkv)
  (hR_not:valV rkv (Sum.inr "not")=some (.ref f10))
  (hR_and:valV rkv (Sum.inr "and")=some (.ref f11))
  (hR_or:valV rkv (Sum.inr "or")=some (.ref f12))
  (hR_xor:valV rkv (Sum.inr "xor")=some (.ref f13))
  (hR_pick:valV rkv (Sum.inr "pick")=some (.ref f14))
  (ndR:[f10,f11,f12,f13,f14].Nodup)
  (hRN:∀ wo,wo ∉ RU→valV rkv (Sum.inr wo)=none) :
  ∃ fd:FuncData,(∀ (s:Shared) (v:Value),BindsTo s fd ⟨[v],[]⟩ [("_law_script",v)])∧∀ base:Heap,K.In base→base.Ns mainGlobals mg→FnOk l.prog w K mg base CX0 9 fa fd ["_law_script"] (spLaw K):=by
 have e:=hfa.symm.trans (PySem.W.mg_of X G a33)
 cases e
 have F0:=zabu (st:=top 4) l0 c0 k0
 have b0:=F0.binds (ps:=["thing"]) fun _ _ _ _ _ _ us hl=>match us,hl with | [_],_=>rfl
 have m0:=PySem.W.mg_of X G a0
 have F1:=zabu (st:=top 5) l1 c1 k1
 have b1:=F1.binds (ps:=["thing", "bound"]) fun _ _ _ _ _ _ us hl=>match us,hl with | [_,_],_=>rfl
 have m1:=PySem.W.mg_of X G a1
 have F2:=zabu (st:=top 6) l2 c2 k2
 have b2:=F2.binds (ps:=["thing"]) fun _ _ _ _ _ _ us hl=>match us,hl with | [_],_=>rfl
 have m2:=PySem.W.mg_of X G a2
 have F3:=zabu (st:=top 7) l3 c3 k3
 have b3:=F3.binds (ps:=["thing"]) fun _ _ _ _ _ _ us hl=>match us,hl with | [_],_=>rfl
 have m3:=PySem.W.mg_of X G a3
 have F4:=zabu (st:=top 10) l4 c4 k4
 have b4:=F4.binds (ps:=["thing", "ahead", "total"]) fun _ _ _ _ _ _ us hl=>match us,hl with | [_,_,_],_=>rfl
 have m4:=PySem.W.mg_of X G a4
 have F5:=zabu (st:=top 12) l5 c5 k5
 have b5:=F5.binds (ps:=["net"]) fun _ _ _ _ _ _ us hl=>match us,hl with | [_],_=>rfl
 have m5:=PySem.W.mg_of X G a5
 have F6:=zabu (st:=top 13) l6 c6 k6
 have b6:=F6.binds (ps:=["gate"]) fun _ _ _ _ _ _ us hl=>match us,hl with | [_],_=>rfl
 have m6:=PySem.W.mg_of X G a6
 have F7:=zabu (st:=top 15) l7 c7 k7
 have b7:=F7.binds (ps:=["gates", "number"]) fun _ _ _ _ _ _ us hl=>match us,hl with | [_,_],_=>rfl
 have m7:=PySem.W.mg_of X G a7
 have F8:=zabu (st:=top 16) l8 c8 k8
 have b8:=F8.binds (ps:=["gates", "number"]) fun _ _ _ _ _ _ us hl=>match us,hl with | [_,_],_=>rfl
 have m8:=PySem.W.mg_of X G a8
 have F9:=zabu (st:=top 17) l9 c9 k9
 have b9:=F9.binds (ps:=["gates", "number", "other"]) fun _ _ _ _ _ _ us hl=>match us,hl with | [_,_,_],_=>rfl
 have m9:=PySem.W.mg_of X G a9
 have F10:=zabu (st:=top 18) l10 c10 k10
 have b10:=F10.binds (ps:=["gates", "why", "it", "feeds"]) fun _ _ _ _ _ _ us hl=>match us,hl with | [_,_,_,_],_=>rfl
 have m10:=PySem.W.mg_of X G a10
 have F11:=zabu (st:=top 19) l11 c11 k11
 have b11:=F11.binds (ps:=["gates", "why", "it", "feeds"]) fun _ _ _ _ _ _ us hl=>match us,hl with | [_,_,_,_],_=>rfl
 have m11:=PySem.W.mg_of X G a11
 have F12:=zabu (st:=top 20) l12 c12 k12
 have b12:=F12.binds (ps:=["gates", "why", "it", "feeds"]) fun _ _ _ _ _ _ us hl=>match us,hl with | [_,_,_,_],_=>rfl
 have m12:=PySem.W.mg_of X G a12
 have F13:=zabu (st:=top 21) l13 c13 k13
 have b13:=F13.binds (ps:=["gates", "why", "it", "feeds"]) fun _ _ _ _ _ _ us hl=>match us,hl with | [_,_,_,_],_=>rfl
 have m13:=PySem.W.mg_of X G a13
 have F14:=zabu (st:=top 22) l14 c14 k14
 have b14:=F14.binds (ps:=["gates", "why", "it", "feeds"]) fun _ _ _ _ _ _ us hl=>match us,hl with | [_,_,_,_],_=>rfl
 have m14:=PySem.W.mg_of X G a14
 have F15:=zabu (st:=top 24) l15 c15 k15
 have b15:=F15.binds (ps:=["gates", "gate", "it", "why", "feeds"]) fun _ _ _ _ _ _ us hl=>match us,hl with | [_,_,_,_,_],_=>rfl
 have m15:=PySem.W.mg_of X G a15
 have F16:=zabu (st:=top 25) l16 c16 k16
 have b16:=F16.binds (ps:=["small", "lost"]) fun _ _ _ _ _ _ us hl=>match us,hl with | [_,_],_=>rfl
 have m16:=PySem.W.mg_of X G a16
 have F17:=zabu (st:=top 26) l17 c17 k17
 have b17:=F17.binds (ps:=["pairs", "count", "total"]) fun _ _ _ _ _ _ us hl=>match us,hl with | [_,_,_],_=>rfl
 have m17:=PySem.W.mg_of X G a17
 have F18:=zabu (st:=top 27) l18 c18 k18
 have b18:=F18.binds (ps:=["net", "small", "pairs"]) fun _ _ _ _ _ _ us hl=>match us,hl with | [_,_,_],_=>rfl
 have m18:=PySem.W.mg_of X G a18
 have F19:=zabu (st:=top 28) l19 c19 k19
 have b19:=F19.binds (ps:=["net", "small", "pairs"]) fun _ _ _ _ _ _ us hl=>match us,hl with | [_,_,_],_=>rfl
 have m19:=PySem.W.mg_of X G a19
 have F20:=zabu (st:=top 29) l20 c20 k20
 have b20:=F20.binds (ps:=["net", "gates", "pairs"]) fun _ _ _ _ _ _ us hl=>match us,hl with | [_,_,_],_=>rfl
 have m20:=PySem.W.mg_of X G a20
 have F21:=zabu (st:=top 30) l21 c21 k21
 have b21:=F21.binds (ps:=["net", "small", "paper"]) fun _ _ _ _ _ _ us hl=>match us,hl with | [_,_,_],_=>rfl
 have m21:=PySem.W.mg_of X G a21
 have F22:=zabu (st:=top 32) l22 c22 k22
 have b22:=F22.binds (ps:=["_law_script", "_law_at"]) fun _ _ _ _ _ _ us hl=>match us,hl with | [_,_],_=>rfl
 have m22:=PySem.W.mg_of X G a22
 have F23:=zabu (st:=top 33) l23 c23 k23
 have b23:=F23.binds (ps:=["_law_script", "_law_at", "_law_ins", "_law_keeps", "_law_many"]) fun _ _ _ _ _ _ us hl=>match us,hl with | [_,_,_,_,_],_=>rfl
 have m23:=PySem.W.mg_of X G a23
 have F24:=zabu (st:=top 34) l24 c24 k24
 have b24:=F24.binds (ps:=["_law_gates", "_law_one_here", "_law_other"]) fun _ _ _ _ _ _ us hl=>match us,hl with | [_,_,_],_=>rfl
 have m24:=PySem.W.mg_of X G a24
 have F25:=zabu (st:=top 35) l25 c25 k25
 have b25:=F25.binds (ps:=["_law_gates", "_law_word", "_law_some", "_law_number", "_law_why"]) fun _ _ _ _ _ _ us hl=>match us,hl with | [_,_,_,_,_],_=>rfl
 have m25:=PySem.W.mg_of X G a25
 have F26:=zabu (st:=top 36) l26 c26 k26
 have b26:=F26.binds (ps:=["_law_net_here", "_law_small", "_law_lost", "_law_pairs_here"]) fun _ _ _ _ _ _ us hl=>match us,hl with | [_,_,_,_],_=>rfl
 have m26:=PySem.W.mg_of X G a26
 have F27:=zabu (st:=top 37) l27 c27 k27
 have b27:=F27.binds (ps:=["_law_net_here", "_law_small", "_law_paper", "_law_due"]) fun _ _ _ _ _ _ us hl=>match us,hl with | [_,_,_,_],_=>rfl
 have m27:=PySem.W.mg_of X G a27
 have F28:=zabu (st:=top 38) l28 c28 k28
 have b28:=F28.binds (ps:=["_law_gates"]) fun _ _ _ _ _ _ us hl=>match us,hl with | [_],_=>rfl
 have m28:=PySem.W.mg_of X G a28
 have F29:=zabu (st:=top 39) l29 c29 k29
 have b29:=F29.binds (ps:=["_law_pairs_here", "_law_m"]) fun _ _ _ _ _ _ us hl=>match us,hl with | [_,_],_=>rfl
 have m29:=PySem.W.mg_of X G a29
 have F30:=zabu (st:=top 40) l30 c30 k30
 have b30:=F30.binds (ps:=["_law_gates", "_law_outs", "_law_m"]) fun _ _ _ _ _ _ us hl=>match us,hl with | [_,_,_],_=>rfl
 have m30:=PySem.W.mg_of X G a30
 have F31:=zabu (st:=top 41) l31 c31 k31
 have b31:=F31.binds (ps:=["_law_net_here", "_law_pairs_here", "_law_m"]) fun _ _ _ _ _ _ us hl=>match us,hl with | [_,_,_],_=>rfl
 have m31:=PySem.W.mg_of X G a31
 have F32:=zabu (st:=top 42) l32 c32 k32
 have b32:=F32.binds (ps:=["_law_script", "_law_at"]) fun _ _ _ _ _ _ us hl=>match us,hl with | [_,_],_=>rfl
 have m32:=PySem.W.mg_of X G a32
 have F33:=zabu (st:=top 43) l33 c33 k33
 have F34:=zabu (st:=inClass (top 11) 0) l34 c34 k34
 have b34:=F34.binds (ps:=["self", "gates", "outs"]) fun _ _ _ _ _ _ us hl=>match us,hl with | [_,_,_],_=>rfl
 have z_len:=PySem.W.mg_none_of X G z_len
 have z_range:=PySem.W.mg_none_of X G z_range
 have z_int:=PySem.W.mg_none_of X G z_int
 have z_str:=PySem.W.mg_none_of X G z_str
 have z_isinstance:=PySem.W.mg_none_of X G z_isinstance
 have z_zip:=PySem.W.mg_none_of X G z_zip
 have z_list:=PySem.W.mg_none_of X G z_list
 have z_tuple:=PySem.W.mg_none_of X G z_tuple
 have z_bool:=PySem.W.mg_none_of X G z_bool
 have z_all:=PySem.W.mg_none_of X G z_all
 have z_enumerate:=PySem.W.mg_none_of X G z_enumerate
 have z_min:=PySem.W.mg_none_of X G z_min
 have z_max:=PySem.W.mg_none_of X G z_max
 have mN:=PySem.W.mg_of X G aN
 have clN:Cls K CN:=⟨pgN,hdN,poN,saN⟩
 refine ⟨PySem.W.fnOf "law" "law" (defArgs (top 43)) (defBody (top 43)) (defScope (top 43)) .none kV33 dc33 pm33 an33 cd33 ct33,fun s v=>.of_eq rfl,fun base _ _=>?_⟩
 have m_FEED_COUNTS:=PySem.W.mg_of X G aFC
 have m_RULES:=PySem.W.mg_of X G aRU
 have D_is_whole_1:DefOk l.prog w K mg base CX0 1 "is_whole" ["thing"] spWhole:=⟨f0,_,zamw (k:=0) F0 z_isinstance z_int z_bool,b0,k0,m0⟩
 have D_is_below_2:DefOk l.prog w K mg base CX0 2 "is_below" ["thing", "bound"] spBelow:=⟨f1,_,zamx (k:=1) F1 D_is_whole_1,b1,k1,m1⟩
 have D_is_gate_3:DefOk l.prog w K mg base CX0 3 "is_gate" ["thing", "ahead", "total"] spGate:=⟨f4,_,zao1 (k:=2) F4 D_is_below_2 m_FEED_COUNTS hKD hF z_isinstance z_tuple z_str z_len z_all,b4,k4,m4⟩
 have MkN:MakeOk l.prog w K mg base CX0 4 CN "Net" ["self", "gates", "outs"] (spNet CN):=⟨⟨f34,_,zaq8 (k:=3) F34 clN nN_gates nN_outs D_is_gate_3 (D_is_below_2.mono (by omega)) z_enumerate z_len z_tuple,b34,⟨mkN,a34,i34,kcN⟩,mN⟩⟩
 have D_is_listed_1:DefOk l.prog w K mg base CX0 1 "is_listed" ["thing"] spListed:=⟨f2,_,zak4 (k:=0) F2 z_isinstance z_list z_tuple,b2,k2,m2⟩
 have D_is_pair_2:DefOk l.prog w K mg base CX0 2 "is_pair" ["thing"] spPair:=⟨f3,_,zao7 (k:=1) F3 D_is_listed_1 z_len,b3,k3,m3⟩
 have D_ins_of_1:DefOk l.prog w K mg base CX0 1 "ins_of" ["net"] (spIns CN):=⟨f5,_,zak7 (k:=0) F5 clN nN_gates z_enumerate,b5,k5,m5⟩
 have D_feeds_of_1:DefOk l.prog w K mg base CX0 1 "feeds_of" ["gate"] spFeeds:=⟨f6,_,zamy (k:=0) F6 z_list,b6,k6,m6⟩
 have D_is_zero_1:DefOk l.prog w K mg base CX0 1 "is_zero" ["gates", "number"] (spIsG isZ):=⟨f7,_,zajt (k:=0) F7,b7,k7,m7⟩
 have D_is_one_1:DefOk l.prog w K mg base CX0 1 "is_one" ["gates", "number"] (spIsG isO):=⟨f8,_,zak8 (k:=0) F8,b8,k8,m8⟩
 have D_are_opposed_1:DefOk l.prog w K mg base CX0 1 "are_opposed" ["gates", "number", "other"] spOpG:=⟨f9,_,zara (k:=0) F9,b9,k9,m9⟩
 simp only [List.nodup_cons,List.mem_cons,List.not_mem_nil,or_false,not_or,not_false_eq_true,List.nodup_nil,and_true] at ndR
 obtain ⟨⟨n1,n2,n3,n4⟩,⟨n5,n6,n7⟩,⟨n8,n9⟩,n10⟩:=ndR
 have s_not:(spt5 f10 f11 f12 f13) f10=spRu "not" := by unfold spt5; rw [if_pos rfl]
 have t_not:∃ fd:FuncData,FnOk l.prog w K mg base CX0 2 f10 fd ["gates", "why", "it", "feeds"] ((spt5 f10 f11 f12 f13) f10)∧Binds K fd ["gates", "why", "it", "feeds"] []∧PySem.W.keepIn K (.ref f10)=true:=⟨_,by rw [s_not]; exact (zao3 (k:=1) F10 D_is_zero_1 D_is_one_1 D_are_opposed_1).imp zarw,b10,k10⟩
 have s_and:(spt5 f10 f11 f12 f13) f11=spRu "and" := by unfold spt5; rw [if_neg (Ne.symm n1),if_pos rfl]
 have t_and:∃ fd:FuncData,FnOk l.prog w K mg base CX0 2 f11 fd ["gates", "why", "it", "feeds"] ((spt5 f10 f11 f12 f13) f11)∧Binds K fd ["gates", "why", "it", "feeds"] []∧PySem.W.keepIn K (.ref f11)=true:=⟨_,by rw [s_and]; exact (zao4 (k:=1) F11 D_is_zero_1 D_is_one_1 D_are_opposed_1).imp zarx,b11,k11⟩
 have s_or:(spt5 f10 f11 f12 f13) f12=spRu "or" := by unfold spt5; rw [if_neg (Ne.symm n2),if_neg (Ne.symm n5),if_pos rfl]
 have t_or:∃ fd:FuncData,FnOk l.prog w K mg base CX0 2 f12 fd ["gates", "why", "it", "feeds"] ((spt5 f10 f11 f12 f13) f12)∧Binds K fd ["gates", "why", "it", "feeds"] []∧PySem.W.keepIn K (.ref f12)=true:=⟨_,by rw [s_or]; exact (zarb (k:=1) F12 D_is_zero_1 D_is_one_1 D_are_opposed_1).imp zass,b12,k12⟩
 have s_xor:(spt5 f10 f11 f12 f13) f13=spRu "xor" := by unfold spt5; rw [if_neg (Ne.symm n3),if_neg (Ne.symm n6),if_neg (Ne.symm n8),if_pos rfl]
 have t_xor:∃ fd:FuncData,FnOk l.prog w K mg base CX0 2 f13 fd ["gates", "why", "it", "feeds"] ((spt5 f10 f11 f12 f13) f13)∧Binds K fd ["gates", "why", "it", "feeds"] []∧PySem.W.keepIn K (.ref f13)=true:=⟨_,by rw [s_xor]; exact (zao5 (k:=1) F13 D_is_zero_1 D_is_one_1 D_are_opposed_1).imp zary,b13,k13⟩
 have s_pick:(spt5 f10 f11 f12 f13) f14=spRu "pick" := by unfold spt5; rw [if_neg (Ne.symm n4),if_neg (Ne.symm n7),if_neg (Ne.symm n9),if_neg (Ne.symm n10)]
 have t_pick:∃ fd:FuncData,FnOk l.prog w K mg base CX0 2 f14 fd ["gates", "why", "it", "feeds"] ((spt5 f10 f11 f12 f13) f14)∧Binds K fd ["gates", "why", "it", "feeds"] []∧PySem.W.keepIn K (.ref f14)=true:=⟨_,by rw [s_pick]; exact (zamz (k:=1) F14 D_is_zero_1 D_is_one_1 D_are_opposed_1).imp zapv,b14,k14⟩
 have TT:TabOk l.prog w K mg base CX0 2 ["gates", "why", "it", "feeds"] (spt5 f10 f11 f12 f13) (fun f=>f=f10∨f=f11∨f=f12∨f=f13∨f=f14):=⟨fun f hf=>by
  rcases hf with h | h | h | h | h <;> rw [h]
  ·exact t_not
  ·exact t_and
  ·exact t_or
  ·exact t_xor
  ·exact t_pick⟩
 have hT:∀ wo∈RU,∃ f,valV rkv (.inr wo)=some (.ref f)∧(f=f10∨f=f11∨f=f12∨f=f13∨f=f14)∧(spt5 f10 f11 f12 f13) f=spRu wo:=fun wo hm=>by
  simp only [RU,List.mem_cons,List.not_mem_nil,or_false] at hm
  rcases hm with rfl | rfl | rfl | rfl | rfl
  ·exact ⟨_,hR_not,.inl rfl,s_not⟩
  ·exact ⟨_,hR_and,.inr (.inl rfl),s_and⟩
  ·exact ⟨_,hR_or,.inr (.inr (.inl rfl)),s_or⟩
  ·exact ⟨_,hR_xor,.inr (.inr (.inr (.inl rfl))),s_xor⟩
  ·exact ⟨_,hR_pick,.inr (.inr (.inr (.inr rfl))),s_pick⟩
 have u_not:(sptW f10 f11 f12 f13) f10=spRW (arY "not"):=by unfold sptW; rw [if_pos rfl]
 have x_not:∃ fd:FuncData,FnOk l.prog w K mg base CX0 2 f10 fd ["gates", "why", "it", "feeds"] ((sptW f10 f11 f12 f13) f10)∧Binds K fd ["gates", "why", "it", "feeds"] []∧PySem.W.keepIn K (.ref f10)=true:=⟨_,by rw [u_not,show arY "not" = 1 from by decide +kernel]; exact zapa (k:=1) F10 D_is_zero_1 D_is_one_1 D_are_opposed_1,b10,k10⟩
 have u_and:(sptW f10 f11 f12 f13) f11=spRW (arY "and"):=by unfold sptW; rw [if_neg (Ne.symm n1),if_pos rfl]
 have x_and:∃ fd:FuncData,FnOk l.prog w K mg base CX0 2 f11 fd ["gates", "why", "it", "feeds"] ((sptW f10 f11 f12 f13) f11)∧Binds K fd ["gates", "why", "it", "feeds"] []∧PySem.W.keepIn K (.ref f11)=true:=⟨_,by rw [u_and,show arY "and" = 2 from by decide +kernel]; exact zapb (k:=1) F11 D_is_zero_1 D_is_one_1 D_are_opposed_1,b11,k11⟩
 have u_or:(sptW f10 f11 f12 f13) f12=spRW (arY "or"):=by unfold sptW; rw [if_neg (Ne.symm n2),if_neg (Ne.symm n5),if_pos rfl]
 have x_or:∃ fd:FuncData,FnOk l.prog w K mg base CX0 2 f12 fd ["gates", "why", "it", "feeds"] ((sptW f10 f11 f12 f13) f12)∧Binds K fd ["gates", "why", "it", "feeds"] []∧PySem.W.keepIn K (.ref f12)=true:=⟨_,by rw [u_or,show arY "or" = 2 from by decide +kernel]; exact zarc (k:=1) F12 D_is_zero_1 D_is_one_1 D_are_opposed_1,b12,k12⟩
 have u_xor:(sptW f10 f11 f12 f13) f13=spRW (arY "xor"):=by unfold sptW; rw [if_neg (Ne.symm n3),if_neg (Ne.symm n6),if_neg (Ne.symm n8),if_pos rfl]
 have x_xor:∃ fd:FuncData,FnOk l.prog w K mg base CX0 2 f13 fd ["gates", "why", "it", "feeds"] ((sptW f10 f11 f12 f13) f13)∧Binds K fd ["gates", "why", "it", "feeds"] []∧PySem.W.keepIn K (.ref f13)=true:=⟨_,by rw [u_xor,show arY "xor" = 2 from by decide +kernel]; exact zapc (k:=1) F13 D_is_zero_1 D_is_one_1 D_are_opposed_1,b13,k13⟩
 have u_pick:(sptW f10 f11 f12 f13) f14=spRW (arY "pick"):=by unfold sptW; rw [if_neg (Ne.symm n4),if_neg (Ne.symm n7),if_neg (Ne.symm n9),if_neg (Ne.symm n10)]
 have x_pick:∃ fd:FuncData,FnOk l.prog w K mg base CX0 2 f14 fd ["gates", "why", "it", "feeds"] ((sptW f10 f11 f12 f13) f14)∧Binds K fd ["gates", "why", "it", "feeds"] []∧PySem.W.keepIn K (.ref f14)=true:=⟨_,by rw [u_pick,show arY "pick" = 3 from by decide +kernel]; exact zam0 (k:=1) F14 D_is_zero_1 D_is_one_1 D_are_opposed_1,b14,k14⟩
 have TW:TabOk l.prog w K mg base CX0 2 ["gates", "why", "it", "feeds"] (sptW f10 f11 f12 f13) (fun f=>f=f10∨f=f11∨f=f12∨f=f13∨f=f14):=⟨fun f hf=>by
  rcases hf with h | h | h | h | h <;> rw [h]
  ·exact x_not
  ·exact x_and
  ·exact x_or
  ·exact x_xor
  ·exact x_pick⟩
 have hTW:∀ wo∈RU,∃ f,valV rkv (.inr wo)=some (.ref f)∧(f=f10∨f=f11∨f=f12∨f=f13∨f=f14)∧(sptW f10 f11 f12 f13) f=spRW (arY wo):=fun wo hm=>by
  simp only [RU,List.mem_cons,List.not_mem_nil,or_false] at hm
  rcases hm with rfl | rfl | rfl | rfl | rfl
  ·exact ⟨_,hR_not,.inl rfl,u_not⟩
  ·exact ⟨_,hR_and,.inr (.inl rfl),u_and⟩
  ·exact ⟨_,hR_or,.inr (.inr (.inl rfl)),u_or⟩
  ·exact ⟨_,hR_xor,.inr (.inr (.inr (.inl rfl))),u_xor⟩
  ·exact ⟨_,hR_pick,.inr (.inr (.inr (.inr rfl))),u_pick⟩
 have DX_is_whole_1:DefOk l.prog w K mg base CX0 1 "is_whole" ["thing"] spWholeX:=⟨f0,_,zalf (k:=0) F0 z_isinstance z_int z_bool,b0,k0,m0⟩
 have DT_is_whole_1:DefOk l.prog w K mg base CX0 1 "is_whole" ["thing"] spWholeT:=⟨f0,_,zalh (k:=0) F0 z_isinstance z_int z_bool,b0,k0,m0⟩
 have DX_is_below_2:DefOk l.prog w K mg base CX0 2 "is_below" ["thing", "bound"] spBelowP:=⟨f1,_,zalg (k:=1) F1 DX_is_whole_1,b1,k1,m1⟩
 have DT_is_below_2:DefOk l.prog w K mg base CX0 2 "is_below" ["thing", "bound"] spBelowX:=⟨f1,_,zali (k:=1) F1 DT_is_whole_1,b1,k1,m1⟩
 have DX_is_listed_1:DefOk l.prog w K mg base CX0 1 "is_listed" ["thing"] spListedX:=⟨f2,_,zajv (k:=0) F2 z_isinstance z_list z_tuple,b2,k2,m2⟩
 have DX_is_pair_2:DefOk l.prog w K mg base CX0 2 "is_pair" ["thing"] spPairX:=⟨f3,_,zam1 (k:=1) F3 DX_is_listed_1 z_len,b3,k3,m3⟩
 have DX_is_gate_3:DefOk l.prog w K mg base CX0 3 "is_gate" ["thing", "ahead", "total"] spGateX:=⟨f4,_,zam2 (k:=2) F4 DT_is_below_2 m_FEED_COUNTS hKD hFX z_isinstance z_tuple z_str z_len z_all,b4,k4,m4⟩
 have D_pair_holds_3:DefOk l.prog w K mg base CX0 3 "pair_holds" ["gates", "gate", "it", "why", "feeds"] spPHc:=⟨f15,_,zare (zasd (k:=2) F15 TT m_RULES hKR hT hRN z_tuple) (zard (k:=2) F15 TW m_RULES hKR hTW hRN z_tuple),b15,k15,m15⟩
 have D_with_lost_4:DefOk l.prog w K mg base CX0 4 "with_lost" ["small", "lost"] (spWL CN):=⟨f16,_,zase (k:=3) F16 clN nN_gates (D_is_listed_1.mono (by omega)) D_is_gate_3 z_len z_list z_tuple,b16,k16,m16⟩
 have DX_with_lost_4:DefOk l.prog w K mg base CX0 4 "with_lost" ["small", "lost"] (spWLX CN):=⟨f16,_,zarf (k:=3) F16 clN nN_gates (DX_is_listed_1.mono (by omega)) DX_is_gate_3 z_len z_list z_tuple,b16,k16,m16⟩
 have D_are_pairs_3:DefOk l.prog w K mg base CX0 3 "are_pairs" ["pairs", "count", "total"] spAP:=⟨f17,_,zasf (k:=2) F17 (D_is_listed_1.mono (by omega)) D_is_pair_2 D_is_below_2 z_len,b17,k17,m17⟩
 have DX_are_pairs_3:DefOk l.prog w K mg base CX0 3 "are_pairs" ["pairs", "count", "total"] spAPX:=⟨f17,_,zarg (k:=2) F17 (DX_is_listed_1.mono (by omega)) DX_is_pair_2 DX_is_below_2 z_len,b17,k17,m17⟩
 have D_ins_hold_2:DefOk l.prog w K mg base CX0 2 "ins_hold" ["net", "small", "pairs"] (spIH CN):=⟨f18,_,zasg (k:=1) F18 D_ins_of_1 z_len z_zip z_tuple,b18,k18,m18⟩
 have D_outs_hold_1:DefOk l.prog w K mg base CX0 1 "outs_hold" ["net", "small", "pairs"] (spOH CN):=⟨f19,_,zash (k:=0) F19 clN nN_outs z_len z_zip,b19,k19,m19⟩
 have D_gates_hold_4:DefOk l.prog w K mg base CX0 4 "gates_hold" ["net", "gates", "pairs"] (spGH CN):=⟨f20,_,zasi (k:=3) F20 clN nN_gates (D_feeds_of_1.mono (by omega)) D_pair_holds_3 z_zip,b20,k20,m20⟩
 have D_small_holds_5:DefOk l.prog w K mg base CX0 5 "small_holds" ["net", "small", "paper"] (spSHc CN):=⟨f21,_,zarm (zasj (k:=4) F21 clN nN_gates (D_is_pair_2.mono (by omega)) D_with_lost_4 (D_are_pairs_3.mono (by omega)) (D_ins_hold_2.mono (by omega)) (D_outs_hold_1.mono (by omega)) D_gates_hold_4 z_len) (zapd (k:=4) F21 clN nN_gates (DX_is_pair_2.mono (by omega)) DX_with_lost_4 (DX_are_pairs_3.mono (by omega)) (D_ins_hold_2.mono (by omega)) (D_outs_hold_1.mono (by omega)) D_gates_hold_4 z_len) (zape (k:=4) F21 clN nN_gates (DX_is_pair_2.mono (by omega)) DX_with_lost_4 (DX_are_pairs_3.mono (by omega)) (D_ins_hold_2.mono (by omega)) (D_outs_hold_1.mono (by omega)) D_gates_hold_4 z_len) (zapf (k:=4) F21 clN nN_gates (DX_is_pair_2.mono (by omega)) D_with_lost_4 (DX_are_pairs_3.mono (by omega)) (D_ins_hold_2.mono (by omega)) (D_outs_hold_1.mono (by omega)) D_gates_hold_4 z_len),b21,k21,m21⟩
 have D__law_next_1:DefOk l.prog w K mg base CX0 1 "_law_next" ["_law_script", "_law_at"] (spNext K):=⟨f22,_,zao2 (k:=0) F22 z_len z_range,b22,k22,m22⟩
 have D__law_net_2:DefOk l.prog w K mg base CX0 2 "_law_net" ["_law_script", "_law_at", "_law_ins", "_law_keeps", "_law_many"] (spLNet K):=⟨f23,_,zapn (k:=1) F23 D__law_next_1 z_len z_range z_max z_min z_tuple,b23,k23,m23⟩
 have D__law_nots_1:DefOk l.prog w K mg base CX0 1 "_law_nots" ["_law_gates", "_law_one_here", "_law_other"] spOpG:=⟨f24,_,zaph (k:=0) F24,b24,k24,m24⟩
 have D__law_rule_2:DefOk l.prog w K mg base CX0 2 "_law_rule" ["_law_gates", "_law_word", "_law_some", "_law_number", "_law_why"] spRule:=⟨f25,_,zapi (k:=1) F25 D__law_nots_1 z_tuple,b25,k25,m25⟩
 have D__law_walk_3:DefOk l.prog w K mg base CX0 3 "_law_walk" ["_law_net_here", "_law_small", "_law_lost", "_law_pairs_here"] (spWk CN):=⟨f26,_,zasm (k:=2) F26 clN nN_gates nN_outs D__law_rule_2 z_len z_range z_list z_tuple z_zip,b26,k26,m26⟩
 have D__law_said_6:DefOk l.prog w K mg base CX0 6 "_law_said" ["_law_net_here", "_law_small", "_law_paper", "_law_due"] (spSaid CN):=⟨f27,_,zapl (k:=5) F27 D_small_holds_5 z_isinstance z_bool,b27,k27,m27⟩
 have D__law_pairs_1:DefOk l.prog w K mg base CX0 1 "_law_pairs" ["_law_gates"] spPrs:=⟨f28,_,zarn (k:=0) F28 z_enumerate,b28,k28,m28⟩
 have D__law_bent_pairs_1:DefOk l.prog w K mg base CX0 1 "_law_bent_pairs" ["_law_pairs_here", "_law_m"] spBp:=⟨f29,_,zasn (k:=0) F29 z_len z_list,b29,k29,m29⟩
 have D__law_bent_net_6:DefOk l.prog w K mg base CX0 6 "_law_bent_net" ["_law_gates", "_law_outs", "_law_m"] (spBn CN):=⟨f30,_,zasq (k:=4) F30 MkN z_len z_list z_tuple,b30,k30,m30⟩
 have D__law_forms_false_7:DefOk l.prog w K mg base CX0 7 "_law_forms_false" ["_law_net_here", "_law_pairs_here", "_law_m"] (spFF CN):=⟨f31,_,zasr (k:=6) F31 clN nN_gates D__law_said_6 z_len,b31,k31,m31⟩
 have D__law_one_8:DefOk l.prog w K mg base CX0 8 "_law_one" ["_law_script", "_law_at"] (spOne K):=⟨f32,_,zaru (k:=6) F32 (D__law_next_1.mono (by omega)) (D__law_net_2.mono (by omega)) (MkN.mono (by omega)) (D__law_pairs_1.mono (by omega)) (D__law_said_6.mono (by omega)) (D__law_bent_pairs_1.mono (by omega)) (D__law_walk_3.mono (by omega)) (D__law_bent_net_6.mono (by omega)) D__law_forms_false_7 z_len z_tuple,b32,k32,m32⟩
 exact zarv (k:=8) F33 D__law_one_8 z_len z_min z_range
end

end B17
namespace B17
open PySem L2
def XS:List (Str × Tok × Value):=[("in",265,.int 0 266),("zero",267,.int 0 268),("one",269,.int 0 270),("not",271,.int 1 272),("and",273,.int 2 274),("or",275,.int 2 276),("xor",277,.int 2 278),("pick",279,.int 3 280)]
def VS:List V:=[.int 0,.int 0,.int 0,.int 1,.int 2,.int 2,.int 2,.int 3]
def KVS:List (Key × V):=(XS.map fun x=>(Sum.inr x.1:Key)).zip VS
theorem zast:(XS.map (·.1)).Nodup:=by decide +kernel
theorem zapw:Vals VS (XS.map (·.2.2)):=.cons ⟨_,rfl⟩ (.cons ⟨_,rfl⟩ (.cons ⟨_,rfl⟩ (.cons ⟨_,rfl⟩ (.cons ⟨_,rfl⟩ (.cons ⟨_,rfl⟩ (.cons ⟨_,rfl⟩ (.cons ⟨_,rfl⟩ (.nil))))))))
theorem zam9 {P:Program}{w:World}{K:PySem.W.Frag}{ff:Addr}{od:Option Addr}{ep:Nat}{sl:Array (Option Value)}{es:Array DictEntry} (l:K.lookup ff=some ⟨.type "dict",od,.dict es ep,sl⟩) (he:es.toList=XS.map (ent w))
  (hx:(⟨.type "dict",od,.dict es ep,sl⟩:Obj).ExactDict) (ns:(ff == sysModules)=false):KD P w K ff KVS:=zaq2 XS VS l he hx ns zast zapw
theorem zapx:∀ w n,(w,n)∈FC→valV KVS (Sum.inr w)=some (.int n):=by
 intro w n h
 simp only [FC,List.mem_cons,List.not_mem_nil,or_false,Prod.mk.injEq] at h
 rcases h with ⟨rfl,rfl⟩ | ⟨rfl,rfl⟩ | ⟨rfl,rfl⟩ | ⟨rfl,rfl⟩ | ⟨rfl,rfl⟩ | ⟨rfl,rfl⟩ | ⟨rfl,rfl⟩ | ⟨rfl,rfl⟩ <;> rfl
theorem zal7 (w:Str):∀ l:List (Str × Int),valV (l.map fun p=>((Sum.inr p.1:Key),V.int p.2)) (Sum.inr w)=(List.lookup w l).map V.int
 | []=>rfl
 | (x,n) :: l=>by
  have ih:=zal7 w l
  unfold valV at ih ⊢
  rw [List.map_cons,List.find?_cons,List.lookup_cons]
  by_cases e:x=w
  ·subst e
   rw [decide_eq_true rfl,beq_self_eq_true]
   rfl
  ·rw [decide_eq_false (fun z=>e (Sum.inr.inj z)),beq_eq_false_iff_ne.mpr (Ne.symm e)]
   exact ih
theorem zapy:∀ w,valV KVS (Sum.inr w)=(List.lookup w FC).map V.int:=fun w=>zal7 w FC
def XR:List (Str × Tok × Value):=[("not",430,.ref 141),("and",431,.ref 148),("or",432,.ref 155),("xor",433,.ref 162),("pick",434,.ref 169)]
def VR:List V:=[.ref 141,.ref 148,.ref 155,.ref 162,.ref 169]
def KVR:List (Key × V):=(XR.map fun x=>(Sum.inr x.1:Key)).zip VR
theorem rkd {P:Program}{w:World}{K:PySem.W.Frag}{ff:Addr}{od:Option Addr}{ep:Nat}{sl:Array (Option Value)}{es:Array DictEntry} (l:K.lookup ff=some ⟨.type "dict",od,.dict es ep,sl⟩) (he:es.toList=XR.map (ent w))
  (hx:(⟨.type "dict",od,.dict es ep,sl⟩:Obj).ExactDict) (ns:(ff == sysModules)=false):KD P w K ff KVR:=zaq2 XR VR l he hx ns (by decide +kernel) (.cons rfl (.cons rfl (.cons rfl (.cons rfl (.cons rfl (.nil))))))
theorem zar0:valV KVR (Sum.inr "not")=some (.ref 141):=by decide +kernel
theorem zar1:valV KVR (Sum.inr "and")=some (.ref 148):=by decide +kernel
theorem zasu:valV KVR (Sum.inr "or")=some (.ref 155):=by decide +kernel
theorem zar2:valV KVR (Sum.inr "xor")=some (.ref 162):=by decide +kernel
theorem zapz:valV KVR (Sum.inr "pick")=some (.ref 169):=by decide +kernel
theorem zasv:([141,148,155,162,169]:List Addr).Nodup:=by decide +kernel
theorem zasw:∀ wo,wo ∉ RU→valV KVR (Sum.inr wo)=none:=fun wo h=>by
 simp only [RU,List.mem_cons,List.not_mem_nil,or_false,not_or] at h
 obtain ⟨h1,h2,h3,h4,h5⟩:=h
 simp [KVR,XR,VR,valV,List.zip,List.zipWith,Ne.symm h1,Ne.symm h2,Ne.symm h3,Ne.symm h4,Ne.symm h5,h1,h2,h3,h4,h5]
end B17
open PySem PySem.W PyProof.Rows
theorem PySem.W.Fast.tw5919099531156933042:True:=trivial
theorem PySem.W.Fast.tw8993089996785424622:True:=trivial
theorem PySem.W.Fast.tw4048861633864825079:True:=trivial
theorem PySem.W.Fast.tw5838226837053301231:True:=trivial
theorem PySem.W.Fast.tw15440178443176795560:True:=trivial
theorem PySem.W.Fast.tw5407354226489938601:True:=trivial
theorem PySem.W.Fast.tw18400766589530268263:True:=trivial
theorem PySem.W.Fast.tw391288950807533482:True:=trivial
theorem PySem.W.Fast.tw5346297580796744641:True:=trivial
theorem PySem.W.Fast.tw3737829063079621912:True:=trivial
theorem PySem.W.Fast.tw2218593302498958695:True:=trivial
theorem PySem.W.Fast.tw10188291324480327065:True:=trivial
theorem PySem.W.Fast.tw8012121874184329014:True:=trivial
theorem PySem.W.Fast.tw15951066943919269938:True:=trivial
theorem PySem.W.Fast.tw7736262413896316160:True:=trivial
theorem PySem.W.Fast.tw1399523700858323920:True:=trivial
theorem PySem.W.Fast.tw7033638322287869245:True:=trivial
theorem PySem.W.Fast.tw5383039311454296227:True:=trivial
theorem PySem.W.Fast.tw3324287283307357333:True:=trivial
theorem PySem.W.Fast.tw17976957628116189301:True:=trivial
theorem PySem.W.Fast.tw4308114560685908354:True:=trivial
theorem PySem.W.Fast.tw18224467954871562946:True:=trivial
theorem PySem.W.Fast.tw18289666799507299937:True:=trivial
theorem PySem.W.Fast.tw14689408141748834480:True:=trivial
theorem PySem.W.Fast.tw1492864376754513117:True:=trivial
theorem PySem.W.Fast.tw13099922458574728957:True:=trivial
theorem PySem.W.Fast.tw17624095307819241782:True:=trivial
theorem PySem.W.Fast.tw6422867840261065148:True:=trivial
theorem PySem.W.Fast.tw17409027351843596433:True:=trivial
theorem PySem.W.Fast.tw17893129463809946620:True:=trivial
theorem PySem.W.Fast.tw8887809588109180642:True:=trivial
theorem PySem.W.Fast.tw15898315617507460412:True:=trivial
theorem PySem.W.Fast.tw7086227035303713987:True:=trivial
theorem PySem.W.Fast.tw14973692043937642146:True:=trivial
theorem PySem.W.Fast.tw293895796011983014:True:=trivial
theorem PySem.W.Fast.tw1088515102368994983:True:=trivial
theorem PySem.W.Fast.tw1269955148780798697:True:=trivial
theorem PySem.W.Fast.tw11239753776018883647:True:=trivial
theorem PySem.W.Fast.tw2704160453496898043:True:=trivial
theorem PySem.W.Fast.tw3157587252145460479:True:=trivial
theorem PySem.W.Fast.tw11384554389904727689:True:=trivial
theorem PySem.W.Fast.tw10550269215484143931:True:=trivial
theorem PySem.W.Fast.tw13413376459865446802:True:=trivial
theorem PySem.W.Fast.tw16641434328129828519:True:=trivial
theorem PySem.W.Fast.tw12479310030382429336:True:=trivial
theorem PySem.W.Fast.tw13703808274900461724:True:=trivial
theorem PySem.W.Fast.tw8261886266782693884:True:=trivial
theorem PySem.W.Fast.tw6392583254207000345:True:=trivial
theorem PySem.W.Fast.tw18158152748102956782:True:=trivial
theorem PySem.W.Fast.tw2670369289115415906:True:=trivial
theorem PySem.W.Fast.tw6920788654949857444:True:=trivial
theorem PySem.W.Fast.tw12924081048576253890:True:=trivial
theorem PySem.W.Fast.tw13730337611577928302:True:=trivial
theorem PySem.W.Fast.tw12797317110844035272:True:=trivial
theorem PySem.W.Fast.tw6055561881627916084:True:=trivial
theorem PySem.W.Fast.tw6041536687107412725:True:=trivial
theorem PySem.W.Fast.tw9483717575914054171:True:=trivial
theorem PySem.W.Fast.tw4996385400261372086:True:=trivial
theorem PySem.W.Fast.tw16901796797742512941:True:=trivial
theorem PySem.W.Fast.tw9508461611874070916:True:=trivial
theorem PySem.W.Fast.tw12415147221374376391:True:=trivial
theorem PySem.W.Fast.tw14254519618361832007:True:=trivial
theorem PySem.W.Fast.tw15278777842327355905:True:=trivial
theorem PySem.W.Fast.tw10016686548557939684:True:=trivial
theorem PySem.W.Fast.tw10207531886184377052:True:=trivial
theorem PySem.W.Fast.tw12335066958067175642:True:=trivial
theorem PySem.W.Fast.tw15841069308486627350:True:=trivial
theorem PySem.W.Fast.tw4315645808789910775:True:=trivial
theorem PySem.W.Fast.tw2203933468495148052:True:=trivial
theorem PySem.W.Fast.tw16862498422246329537:True:=trivial
theorem PySem.W.Fast.tw1573031870196955483:True:=trivial
theorem PySem.W.Fast.tw3094841611177762970:True:=trivial
theorem PySem.W.Fast.tw7394188323352005846:True:=trivial
theorem PySem.W.Fast.tw11445761294405990482:True:=trivial
theorem PySem.W.Fast.tw15312862882324912123:True:=trivial
theorem PySem.W.Fast.tw9802846992653792158:True:=trivial
theorem PySem.W.Fast.tw8183146265301080325:True:=trivial
theorem PySem.W.Fast.tw14251290969717152380:True:=trivial
theorem PySem.W.Fast.tw16367111571208151707:True:=trivial
theorem PySem.W.Fast.tw2091529729413547855:True:=trivial
theorem PySem.W.Fast.tw3386695307810711778:True:=trivial
theorem PySem.W.Fast.tw16044983434549966466:True:=trivial
theorem PySem.W.Fast.tw12120122562538977842:True:=trivial
set_option maxRecDepth 100000 in
set_option maxHeartbeats 0 in
theorem PySem.Challenge.cw_bitfloor_k23_keeps_ends_and_forms_holds : PySem.Challenge.rw_bitfloor_k23_keeps_ends_and_forms.Holds := by
 w_on; o_law; k_head; (case hw=>w_witness2)
 k_fill
 refine L2.zaml (l:=PySem.Challenge.rw_bitfloor_k23_keeps_ends_and_forms) (n:=63) (k:=9) (x := "_law_script") (CX:=L2.CX0) (sp:=B17.spLaw) rfl (by decide) rfl ⟨rfl,by decide,by decide⟩ (fun w h Y=>PySem.W.kIn_of Y) ?F ?S ?C
 case F =>
  intro w mg fa h KX G hmg
  refine' B17.zarz KX G hmg ?aN ?a0 ?l0 ?c0 ?k0 ?a1 ?l1 ?c1 ?k1 ?a2 ?l2 ?c2 ?k2 ?a3 ?l3 ?c3 ?k3 ?a4 ?l4 ?c4 ?k4 ?a5 ?l5 ?c5 ?k5 ?a6 ?l6 ?c6 ?k6 ?a7 ?l7 ?c7 ?k7 ?a8 ?l8 ?c8 ?k8 ?a9 ?l9 ?c9 ?k9 ?a10 ?l10 ?c10 ?k10 ?a11 ?l11 ?c11 ?k11 ?a12 ?l12 ?c12 ?k12 ?a13 ?l13 ?c13 ?k13 ?a14 ?l14 ?c14 ?k14 ?a15 ?l15 ?c15 ?k15 ?a16 ?l16 ?c16 ?k16 ?a17 ?l17 ?c17 ?k17 ?a18 ?l18 ?c18 ?k18 ?a19 ?l19 ?c19 ?k19 ?a20 ?l20 ?c20 ?k20 ?a21 ?l21 ?c21 ?k21 ?a22 ?l22 ?c22 ?k22 ?a23 ?l23 ?c23 ?k23 ?a24 ?l24 ?c24 ?k24 ?a25 ?l25 ?c25 ?k25 ?a26 ?l26 ?c26 ?k26 ?a27 ?l27 ?c27 ?k27 ?a28 ?l28 ?c28 ?k28 ?a29 ?l29 ?c29 ?k29 ?a30 ?l30 ?c30 ?k30 ?a31 ?l31 ?c31 ?k31 ?a32 ?l32 ?c32 ?k32 ?a33 ?l33 ?c33 ?k33 ?a34 ?l34 ?c34 ?k34 ?i34 ?pgN ?hdN ?poN ?saN ?mkN ?kcN ?nN_gates ?nN_outs ?z_len ?z_range ?z_int ?z_str ?z_isinstance ?z_zip ?z_list ?z_tuple ?z_bool ?z_all ?z_enumerate ?z_min ?z_max ?qaFC (B17.zam9 ?qlf ?qhe ?qhx ?qns) B17.zapx B17.zapy ?qaRU (B17.rkd ?qlr ?qhr ?qhy ?qnr) B17.zar0 B17.zar1 B17.zasu B17.zar2 B17.zapz B17.zasv B17.zasw
  (case aN=>k_is)
  (case a0=>k_is)
  (case l0=>k_is)
  (case c0=>k_is)
  (case k0=>k_is)
  (case a1=>k_is)
  (case l1=>k_is)
  (case c1=>k_is)
  (case k1=>k_is)
  (case a2=>k_is)
  (case l2=>k_is)
  (case c2=>k_is)
  (case k2=>k_is)
  (case a3=>k_is)
  (case l3=>k_is)
  (case c3=>k_is)
  (case k3=>k_is)
  (case a4=>k_is)
  (case l4=>k_is)
  (case c4=>k_is)
  (case k4=>k_is)
  (case a5=>k_is)
  (case l5=>k_is)
  (case c5=>k_is)
  (case k5=>k_is)
  (case a6=>k_is)
  (case l6=>k_is)
  (case c6=>k_is)
  (case k6=>k_is)
  (case a7=>k_is)
  (case l7=>k_is)
  (case c7=>k_is)
  (case k7=>k_is)
  (case a8=>k_is)
  (case l8=>k_is)
  (case c8=>k_is)
  (case k8=>k_is)
  (case a9=>k_is)
  (case l9=>k_is)
  (case c9=>k_is)
  (case k9=>k_is)
  (case a10=>k_is)
  (case l10=>k_is)
  (case c10=>k_is)
  (case k10=>k_is)
  (case a11=>k_is)
  (case l11=>k_is)
  (case c11=>k_is)
  (case k11=>k_is)
  (case a12=>k_is)
  (case l12=>k_is)
  (case c12=>k_is)
  (case k12=>k_is)
  (case a13=>k_is)
  (case l13=>k_is)
  (case c13=>k_is)
  (case k13=>k_is)
  (case a14=>k_is)
  (case l14=>k_is)
  (case c14=>k_is)
  (case k14=>k_is)
  (case a15=>k_is)
  (case l15=>k_is)
  (case c15=>k_is)
  (case k15=>k_is)
  (case a16=>k_is)
  (case l16=>k_is)
  (case c16=>k_is)
  (case k16=>k_is)
  (case a17=>k_is)
  (case l17=>k_is)
  (case c17=>k_is)
  (case k17=>k_is)
  (case a18=>k_is)
  (case l18=>k_is)
  (case c18=>k_is)
  (case k18=>k_is)
  (case a19=>k_is)
  (case l19=>k_is)
  (case c19=>k_is)
  (case k19=>k_is)
  (case a20=>k_is)
  (case l20=>k_is)
  (case c20=>k_is)
  (case k20=>k_is)
  (case a21=>k_is)
  (case l21=>k_is)
  (case c21=>k_is)
  (case k21=>k_is)
  (case a22=>k_is)
  (case l22=>k_is)
  (case c22=>k_is)
  (case k22=>k_is)
  (case a23=>k_is)
  (case l23=>k_is)
  (case c23=>k_is)
  (case k23=>k_is)
  (case a24=>k_is)
  (case l24=>k_is)
  (case c24=>k_is)
  (case k24=>k_is)
  (case a25=>k_is)
  (case l25=>k_is)
  (case c25=>k_is)
  (case k25=>k_is)
  (case a26=>k_is)
  (case l26=>k_is)
  (case c26=>k_is)
  (case k26=>k_is)
  (case a27=>k_is)
  (case l27=>k_is)
  (case c27=>k_is)
  (case k27=>k_is)
  (case a28=>k_is)
  (case l28=>k_is)
  (case c28=>k_is)
  (case k28=>k_is)
  (case a29=>k_is)
  (case l29=>k_is)
  (case c29=>k_is)
  (case k29=>k_is)
  (case a30=>k_is)
  (case l30=>k_is)
  (case c30=>k_is)
  (case k30=>k_is)
  (case a31=>k_is)
  (case l31=>k_is)
  (case c31=>k_is)
  (case k31=>k_is)
  (case a32=>k_is)
  (case l32=>k_is)
  (case c32=>k_is)
  (case k32=>k_is)
  (case a33=>k_is)
  (case l33=>k_is)
  (case c33=>k_is)
  (case k33=>k_is)
  (case a34=>k_is)
  (case l34=>k_is)
  (case c34=>k_is)
  (case k34=>k_is)
  (case i34=>k_is)
  (case pgN=>k_is)
  (case hdN=>k_is)
  (case poN=>k_is)
  (case saN=>k_is)
  (case mkN=>k_is)
  (case kcN=>k_is)
  (case nN_gates=>k_is)
  (case nN_outs=>k_is)
  (case z_len=>k_is)
  (case z_range=>k_is)
  (case z_int=>k_is)
  (case z_str=>k_is)
  (case z_isinstance=>k_is)
  (case z_zip=>k_is)
  (case z_list=>k_is)
  (case z_tuple=>k_is)
  (case z_bool=>k_is)
  (case z_all=>k_is)
  (case z_enumerate=>k_is)
  (case z_min=>k_is)
  (case z_max=>k_is)
  (case qaFC=>k_is)
  (case qlf=>k_is)
  (case qhe=>rfl)
  (case qhx=>exact ⟨rfl,rfl,rfl⟩)
  (case qns=>rfl)
  (case qaRU=>k_is)
  (case qlr=>k_is)
  (case qhr=>rfl)
  (case qhy=>exact ⟨rfl,rfl,rfl⟩)
  (case qnr=>rfl)
 case S=>exact fun K H a ns hl hO hS=>⟨a,ns,rfl,L2.Scr.of hS hl hO,fun _=>rfl⟩
 case C=>exact fun _ _ _ _ z=>z
