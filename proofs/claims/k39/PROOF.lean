import PyProof.Rows.All
import Wide.All
import OpenK.AllK
import Wide.FinOn
import Lean
import PyProof.EqAt
import PyProof.EqKinds
import PyProof.TupleCall
import PyProof.AttrMiss
import PyProof.ConsumeWalk
import KE.KDictOf
import OpenK.KOwn
import PyProof.NsDelKeeps
import KE.KIsAll
import PyProof.Rows.SumAny
import PyProof.NeKinds
import PyProof.SeqI3
import KE.KRevIter
import KE.KSortTup
import PyProof.DictIter
import KE.KDictList
import PyProof.TupleOfGen
import PyProof.MinMaxWalk
import PyProof.WalkInts
import PyProof.Rows.SortRuns
import PyProof.DictWalks
import OpenK.KCls
import KE.KListMore
import KE.KFind
import KE.KItemsList
import PyProof.StrCalls
import PyProof.Rows.CallKwBuiltin
import KE.KMinKey
import KE.KEqDict
import PyProof.ListRange
import PySem.Challenge.RW_bitfloor_k39_bit_from
import KE.RegKIsAll
set_option Elab.async false
set_option linter.all false
set_option maxRecDepth 100000
namespace L2
open PySem PySem.Spec PyProof.Rows
abbrev Key:=Sum Int Str
def keyIs:Key→Value→Bool
 | .inl k,v=>Value.isInt k v
 | .inr x,v=>Value.isStrOf x v
def keyH (w:World):Key→Int
 | .inl k=>hashInt k
 | .inr x=>hashStr w x
theorem zabl:∀ {k:Key}{v:Value},keyIs k v=true→(∃ i t,k=Sum.inl i∧v=Value.int i t)∨(∃ x t,k=Sum.inr x∧v=Value.str x t)
 | .inl i,v,h=>by
  obtain ⟨t,e⟩:=Value.isInt_shape (k:=i) (v:=v) h
  exact .inl ⟨i,t,rfl,e⟩
 | .inr x,v,h=>by
  obtain ⟨t,e⟩:=Value.isStrOf_shape (x:=x) (v:=v) h
  exact .inr ⟨x,t,rfl,e⟩
theorem zaka (i:Int) (t:Tok):keyIs (.inl i) (.int i t)=true:=by simp [keyIs,Value.isInt]
theorem zaeu (x:Str) (t:Tok):keyIs (.inr x) (.str x t)=true:=by simp [keyIs,Value.isStrOf]
theorem zarb (a b:Int):decide ((Sum.inl a:Key)=Sum.inl b)=(a == b):=by
 by_cases e:a=b
 ·subst e; simp
 ·have h:¬ (Sum.inl a:Key)=Sum.inl b:=fun q=>e (Sum.inl.inj q)
  rw [decide_eq_false h]
  exact (beq_eq_false_iff_ne.mpr e).symm
theorem zarc (a b:Str):decide ((Sum.inr a:Key)=Sum.inr b)=decide (a=b):=by
 by_cases e:a=b
 ·subst e; simp
 ·have h:¬ (Sum.inr a:Key)=Sum.inr b:=fun q=>e (Sum.inr.inj q)
  rw [decide_eq_false h,decide_eq_false e]
theorem zard (a:Int) (b:Str):decide ((Sum.inl a:Key)=Sum.inr b)=false:=decide_eq_false (fun q=>nomatch q)
theorem zare (a:Str) (b:Int):decide ((Sum.inr a:Key)=Sum.inl b)=false:=decide_eq_false (fun q=>nomatch q)
def mixKind (prog:Program) (w:World):PySem.KeyKind prog w Key where
 is:=keyIs
 hash:=keyH w
 inj:=fun v a b ha hb=>by
  rcases zabl ha with ⟨i,t,rfl,rfl⟩ | ⟨x,t,rfl,rfl⟩
  ·rcases zabl hb with ⟨j,u,rfl,e⟩ | ⟨y,u,rfl,e⟩
   ·injection e with e1 _; rw [e1]
   ·exact nomatch e
  ·rcases zabl hb with ⟨j,u,rfl,e⟩ | ⟨y,u,rfl,e⟩
   ·exact nomatch e
   ·injection e with e1 _; rw [e1]
 byValue:=fun k v h=>by
  rcases zabl h with ⟨i,t,rfl,rfl⟩ | ⟨x,t,rfl,rfl⟩ <;> rfl
 pyHash:=fun hv h=>by
  rcases zabl hv with ⟨i,t,rfl,rfl⟩ | ⟨x,t,rfl,rfl⟩
  ·exact wpAny_pyHash_int h
  ·exact wpAny_pyHash_str h
 eqBool:=fun hu hv h=>by
  rcases zabl hu with ⟨i,t,rfl,rfl⟩ | ⟨x,t,rfl,rfl⟩
  ·rcases zabl hv with ⟨j,u,rfl,rfl⟩ | ⟨y,u,rfl,rfl⟩
   ·rw [zarb] at h; exact wpAny_eqBool_int h
   ·rw [zard] at h; exact SeqAt.EqAt.int_str i t y u _ _ _ _ h
  ·rcases zabl hv with ⟨j,u,rfl,rfl⟩ | ⟨y,u,rfl,rfl⟩
   ·rw [zare] at h; exact SeqAt.EqAt.str_int x t j u _ _ _ _ h
   ·rw [zarc] at h; exact wpAny_eqBool_str h
 «strs»:=fun k x t v h=>by
  rcases zabl h with ⟨i,u,rfl,e⟩ | ⟨y,u,rfl,e⟩
  ·exact nomatch e
  ·injection e with e1 _
   subst e1
   cases v <;> rfl
theorem zah4 (prog:Program) (w:World) (i:Int) (t:Tok):(mixKind prog w).is (.inl i) (.int i t)=true:=zaka i t
theorem zah5 (prog:Program) (w:World) (x:Str) (t:Tok):(mixKind prog w).is (.inr x) (.str x t)=true:=zaeu x t
inductive V where
 | non | bl (b:Bool) | int (i:Int) | str (x:Str) | byt (b:Array UInt8) | flt (b:UInt64) | ref (a:Addr) | ty (n:String)
 deriving DecidableEq
def RelV:V→Value→Prop
 | .non,u=>u=Value.none
 | .bl b,u=>u=Value.bool b
 | .int i,u=>∃ t,u=Value.int i t
 | .str x,u=>∃ t,u=Value.str x t
 | .byt b,u=>∃ t,u=Value.bytes b t
 | .flt b,u=>∃ t,u=Value.float b t
 | .ref a,u=>u=Value.ref a
 | .ty n,u=>u=Value.type n
abbrev Vals:List V→List Value→Prop:=Paired RelV
theorem Vals.length {xs:List V}{us:List Value} (r:Vals xs us):xs.length=us.length:=Paired.length r
theorem Vals.get:∀ {xs:List V}{us:List Value}{i:Nat}{x:V},Vals xs us→xs[i]?=some x→∃ u,us[i]?=some u∧RelV x u
 | _,_,_,_,.nil,e=>by simp at e
 | _,_,0,_,.cons r _,e=>by simp at e; subst e; exact ⟨_,rfl,r⟩
 | _,_,i + 1,x,.cons _ t,e=>by
  obtain ⟨u,h1,h2⟩:=Vals.get (i:=i) (x:=x) t (by simpa using e)
  exact ⟨u,by simpa using h1,h2⟩
theorem Vals.set {x:V}{u:Value} (r:RelV x u):∀ {xs:List V}{us:List Value} (i:Nat),Vals xs us→Vals (xs.set i x) (us.set i u)
 | _,_,_,.nil=>.nil
 | _,_,0,.cons _ t=>.cons r t
 | _,_,i + 1,.cons q t=>.cons q (Vals.set r i t)
theorem Vals.append:∀ {xs ys:List V}{us ws:List Value},Vals xs us→Vals ys ws→Vals (xs++ys) (us++ws)
 | _,_,_,_,.nil,s=>s
 | _,_,_,_,.cons r t,s=>.cons r (Vals.append t s)
theorem Vals.take:∀ {xs:List V}{us:List Value} (n:Nat),Vals xs us→Vals (xs.take n) (us.take n)
 | _,_,0,_=>.nil
 | _,_,_ + 1,.nil=>.nil
 | _,_,n + 1,.cons r t=>.cons r (Vals.take n t)
theorem Vals.drop:∀ {xs:List V}{us:List Value} (n:Nat),Vals xs us→Vals (xs.drop n) (us.drop n)
 | _,_,0,r=>r
 | _,_,_ + 1,.nil=>.nil
 | _,_,n + 1,.cons _ t=>Vals.drop n t
def RelO:Option V→Option Value→Prop
 | some v,some u=>RelV v u
 | none,none=>True
 | _,_=>False
def KV {κ:Type}:List (κ × V)→List (κ × Value)→Prop:=Paired fun (p:κ × V) (q:κ × Value)=>p.1=q.1∧RelV p.2 q.2
def kV:Key→V
 | .inl i=>.int i
 | .inr x=>.str x
inductive HO where
 | lst (xs:List V)
 | tup (xs:List V)
 | dK (kvs:List (Key × V)) | dT (kvs:List (List Key × V))
 | set (S:Int→Bool) (n:Nat)
 | ins (C dx:Addr) (fs:List (Str × V))
 | own (x:Addr)
 | xd (fs:List (Str × V))
 | met (f x:Addr)
 | rng (lo hi:Int)
 | frz (o:Obj) (u:HO)
 | tbl (ps:Array Value)
 | ext (φ:Heap→Prop)
abbrev Hp:=Addr→Option HO
def upd (H:Hp) (a:Addr) (o:HO):Hp:=fun b=>if b=a then some o else H b
theorem zaae {H:Hp}{a:Addr}{o:HO}:upd H a o a=some o:=by unfold upd; rw [if_pos rfl]
theorem zaa5 {H:Hp}{a b:Addr}{o:HO} (h:b≠a):upd H a o b=H b:=by unfold upd; rw [if_neg h]
theorem zah6 {H:Hp}{a b:Addr}{o u:HO} (h:H a=some o) (h':H b=some u) (d:o≠u):a≠b:=by
 intro e; subst e; rw [h] at h'; exact d (Option.some.inj h')
theorem zaam {H:Hp}{a b:Addr}{o:HO} (h:H a=some o) (h':H b=none):a≠b:=by
 intro e; subst e; rw [h] at h'; cases h'
section
variable (P:Program) (w:World)
def ObjOk (H:Hp) (h:Heap) (a:Addr):HO→Prop
 | .lst xs=>xs.length≤sizeLine∧∃ (its:List Value) (n:Nat),Vals xs its∧h.get? a=some { cls:=.type "list",data:=.seq its.toArray n }
 | .tup xs=>xs.length≤sizeLine∧∃ its:List Value,Vals xs its∧IsTup h a its.toArray
 | .dK kvs=>kvs.length≤sizeLine∧(a == sysModules)=false∧∃ vs,KV kvs vs∧h.DictOf (mixKind P w) a vs
 | .dT kvs=>kvs.length≤sizeLine∧(a == sysModules)=false∧∃ xs:List (List Key × Addr × Value),
   Paired (fun (p:List Key × V) (q:List Key × Addr × Value)=>p.1=q.1∧H q.2.1=some (.tup (p.1.map kV))∧RelV p.2 q.2.2) kvs xs ∧
   ∃ o es ep,h.get? a=some o∧o.ExactDict∧o.data=.dict es ep∧es.toList=xs.map (entryOfKey (tupleKind (mixKind P w)))∧(xs.map (·.1)).Nodup
 | .set S n=>h.SetOf (intKind P w) a S n
 | .ins C dx fs=>H dx=some (.own a)∧fs.length≤1000∧dx≠a∧h.get? a=some (PySem.W.instObj C dx) ∧
   ∃ mA,h.Ns1 dx mA∧(∀ f,RelO (fs.lookup f) (mA f))∧PySem.Within mA (fs.map (·.1))
 | .own _=>∃ o,h.get? a=some o
 | .xd fs=>∃ mA,h.Ns1 a mA∧∀ f,RelO (fs.lookup f) (mA f)
 | .rng lo hi=>∃ t u v,h.get? a=some { cls:=.type "range",data:=.fields #[.int lo t,.int hi u,.int 1 v] }
 | .frz o u=>h.get? a=some o∧ObjOk H h a u
 | .tbl ps=>h.get? a=some { cls:=.none,data:=.fields ps }
 | .met f x=>h.get? a=some (PySem.W.methodObj (.ref f) (.ref x))
 | .ext φ=>φ h∧(∃ o,h.get? a=some o)∧∀ h1 h2:Heap,φ h1→(∀ o,h1.get? a=some o→h2.get? a=some o)→φ h2
def HOk (H:Hp) (h:Heap):Prop:=∀ a o,H a=some o→ObjOk P w H h a o
end
section
variable {P:Program}{w:World}{H H':Hp}{h h':Heap}{a:Addr}{o:HO}
theorem ObjOk.lt (x:ObjOk P w H h a o):a < h.objs.size:=by
 cases o with
 | lst xs=>obtain ⟨_,_,_,_,e⟩:=x; exact Heap.lt_size e
 | tup xs=>obtain ⟨_,_,_,p⟩:=x; exact p.lt
 | dK kvs=>obtain ⟨_,_,_,_,o,_,_,e,_⟩:=x; exact Heap.lt_size e
 | dT kvs=>obtain ⟨_,_,_,_,o,_,_,e,_⟩:=x; exact Heap.lt_size e
 | set S n=>obtain ⟨o,_,_,_,e,_⟩:=x; exact Heap.lt_size e
 | ins C dx fs=>obtain ⟨_,_,_,e,_⟩:=x; exact Heap.lt_size e
 | own y=>obtain ⟨_,e⟩:=x; exact Heap.lt_size e
 | xd fs=>obtain ⟨_,⟨_,_,_,e,_⟩,_⟩:=x; exact Heap.lt_size e
 | rng lo hi=>obtain ⟨_,_,_,e⟩:=x; exact Heap.lt_size e
 | frz ob u=>obtain ⟨e,_⟩:=x; exact Heap.lt_size e
 | tbl ps=>exact Heap.lt_size (show h.get? a=some _ from x)
 | met f y=>exact Heap.lt_size (show h.get? a=some _ from x)
 | ext φ=>obtain ⟨_,⟨_,e⟩,_⟩:=x; exact Heap.lt_size e
theorem Paired.mapP {α β:Type}{F G:α→β→Prop}:∀ {l₁:List α}{l₂:List β},Paired F l₁ l₂→(∀ a b,F a b→G a b)→Paired G l₁ l₂
 | _,_,.nil,_=>.nil
 | _,_,.cons r t,f=>.cons (f _ _ r) (Paired.mapP t f)
theorem ObjOk.stay (x:ObjOk P w H h a o) (k:∀ b u,(b=a∨H b=some (.own a))→h.get? b=some u→h'.get? b=some u)
  (ho:∀ b,H b=some (.own a)→H' b=some (.own a)) (ht:∀ b xs,H b=some (.tup xs)→H' b=some (.tup xs)):ObjOk P w H' h' a o:=by
 induction o with
 | lst xs=>obtain ⟨z,its,n,r,e⟩:=x; exact ⟨z,its,n,r,k _ _ (.inl rfl) e⟩
 | tup xs=>obtain ⟨z,its,r,ob,e,c⟩:=x; exact ⟨z,its,r,ob,k _ _ (.inl rfl) e,c⟩
 | dK kvs=>obtain ⟨z,y,vs,r,ob,es,ep,e,c⟩:=x; exact ⟨z,y,vs,r,ob,es,ep,k _ _ (.inl rfl) e,c⟩
 | dT kvs =>
  obtain ⟨z,y,xs,r,ob,es,ep,e,c⟩:=x
  exact ⟨z,y,xs,Paired.mapP r fun p q z=>⟨z.1,ht _ _ z.2.1,z.2.2⟩,ob,es,ep,k _ _ (.inl rfl) e,c⟩
 | set S n=>obtain ⟨ob,es,ep,t,e,c⟩:=x; exact ⟨ob,es,ep,t,k _ _ (.inl rfl) e,c⟩
 | ins C dx fs =>
  obtain ⟨d,z,ne,e,mA,⟨od,es,ep,e2,c⟩,r⟩:=x
  exact ⟨ho _ d,z,ne,k _ _ (.inl rfl) e,mA,⟨od,es,ep,k _ _ (.inr d) e2,c⟩,r⟩
 | own y=>obtain ⟨ob,e⟩:=x; exact ⟨ob,k _ _ (.inl rfl) e⟩
 | xd fs=>obtain ⟨mA,⟨od,es,ep,e,c⟩,r⟩:=x; exact ⟨mA,⟨od,es,ep,k _ _ (.inl rfl) e,c⟩,r⟩
 | rng lo hi=>obtain ⟨t,u,v,e⟩:=x; exact ⟨t,u,v,k _ _ (.inl rfl) e⟩
 | frz ob u ih=>obtain ⟨e,q⟩:=x; exact ⟨k _ _ (.inl rfl) e,ih q⟩
 | tbl ps =>
  have e:h.get? a=some { cls:=.none,data:=.fields ps }:=x
  show h'.get? a=some { cls:=.none,data:=.fields ps }
  exact k a _ (.inl rfl) e
 | met f y =>
  have e:h.get? a=some (PySem.W.methodObj (.ref f) (.ref y)):=x
  show h'.get? a=some (PySem.W.methodObj (.ref f) (.ref y))
  exact k a _ (.inl rfl) e
 | ext φ=>obtain ⟨p,⟨o,e⟩,st⟩:=x; exact ⟨st _ _ p fun o q=>k _ _ (.inl rfl) q,⟨o,k _ _ (.inl rfl) e⟩,st⟩
theorem HOk.lt (x:HOk P w H h) (e:H a=some o):a < h.objs.size:=(x a o e).lt
theorem HOk.fresh (x:HOk P w H h) (e:h.objs.size≤a):H a=none:=by
 cases q:H a with
 | none=>rfl
 | some u=>exact absurd (Nat.lt_of_lt_of_le (x.lt q) e) (Nat.lt_irrefl _)
theorem HOk.kept (x:HOk P w H h) (k:∀ b u,h.get? b=some u→h'.get? b=some u):HOk P w H h':=fun a o e =>
 (x a o e).stay (fun b u _ q=>k b u q) (fun _ q=>q) fun _ _ q=>q
theorem HOk.laid (x:HOk P w H h) (k:∀ b u,h.get? b=some u→h'.get? b=some u) (hp:h.objs.size≤a) (new:ObjOk P w (upd H a o) h' a o):HOk P w (upd H a o) h':=fun b u e=>by
 have hn:=x.fresh hp
 by_cases hb:b=a
 ·subst hb; rw [zaae] at e; cases e; exact new
 ·rw [zaa5 hb] at e
  exact (x b u e).stay (fun c v _ q=>k c v q) (fun c q=>by rw [zaa5 (zaam q hn)]; exact q) fun c xs q=>by rw [zaa5 (zaam q hn)]; exact q
end
def Rd (H:Hp) (a:Addr) (u:HO):Prop:=H a=some u∨∃ o,H a=some (.frz o u)
theorem Rd.ok {P:Program}{w:World}{H:Hp}{h:Heap}{a:Addr}{u:HO} (r:Rd H a u) (x:HOk P w H h):ObjOk P w H h a u:=by
 rcases r with r | ⟨o,r⟩
 ·exact x a u r
 ·obtain ⟨_,q⟩:=x a _ r
  exact q
def Mut:Option HO→Prop
 | some (.lst _)=>True
 | some (.dK _)=>True
 | some (.dT _)=>True
 | some (.set _ _)=>True
 | some (.ins _ _ _)=>True
 | some (.ext _)=>True
 | _=>False
section
variable {P:Program}{w:World}{H:Hp}{h h':Heap}{x e:Addr}{o':HO}
theorem HOk.write (ok:HOk P w H h) (mu:Mut (H x)) (he:e=x∨H e=some (.own x)) (k:∀ b u,b≠e→h.get? b=some u→h'.get? b=some u) (heo:∃ u,h'.get? e=some u)
  (new:ObjOk P w (upd H x o') h' x o'):HOk P w (upd H x o') h':=fun b u q=>by
 have nown:∀ c y,H c=some (.own y)→c≠x:=fun c y r z=>by subst z; rw [r] at mu; exact mu
 have ntup:∀ c xs,H c=some (.tup xs)→c≠x:=fun c xs r z=>by subst z; rw [r] at mu; exact mu
 by_cases hb:b=x
 ·subst hb; rw [zaae] at q; cases q; exact new
 ·rw [zaa5 hb] at q
  by_cases hbe:b=e
  ·have q':H b=some (.own x):=by
    rcases he with z | z
    ·exact absurd (hbe.trans z) hb
    ·rw [hbe]; exact z
   rw [q] at q'; cases q'
   obtain ⟨v,hv⟩:=heo
   exact ⟨v,by rw [hbe]; exact hv⟩
  ·refine (ok b u q).stay (fun c v hc r=>k c v ?_ r) (fun c r=>by rw [zaa5 (nown c b r)]; exact r) fun c xs r=>by rw [zaa5 (ntup c xs r)]; exact r
   rcases hc with rfl | hc
   ·exact hbe
   ·rintro rfl
    rcases he with z | z
    ·exact nown c b hc z
    ·rw [hc] at z; cases z; exact hb rfl
end
structure Un (fs ex:List Addr) (H H':Hp) (h h':Heap):Prop where
 keep:∀ b o,h.get? b=some o→H b=none→b ∉ fs→b ∉ ex→h'.get? b=some o
 slot:∀ b o,h.get? b=some o→H b=none→b∈fs→b ∉ ex→∃ sl,h'.get? b=some { o with slots:=sl }
 free:∀ b o,h.get? b=some o→H b=none→b ∉ ex→H' b=none
 there:∀ b o,h.get? b=some o→b ∉ ex→∃ o',h'.get? b=some o'
 tups:∀ b xs,H b=some (.tup xs)→H' b=some (.tup xs)
 frzs:∀ b o u,H b=some (.frz o u)→H' b=some (.frz o u)
 tbls:∀ b ps,H b=some (.tbl ps)→∃ more,H' b=some (.tbl (ps++more))
section
variable {fs fs' ex ex':List Addr}{H H1 H2:Hp}{h h1 h2 h':Heap}{a x e:Addr}{o:HO}
theorem Un.any (u:Un fs ex H H1 h h1) {b:Addr}{ob:Obj} (q:h.get? b=some ob) (n:H b=none) (hx:b ∉ ex):∃ sl,h1.get? b=some { ob with slots:=sl }:=by
 by_cases hb:b∈fs
 ·exact u.slot b ob q n hb hx
 ·exact ⟨ob.slots,u.keep b ob q n hb hx⟩
theorem Un.kept (k:∀ b u,h.get? b=some u→h'.get? b=some u):Un fs ex H H h h' :=
 ⟨fun b ob q _ _ _=>k b ob q,fun b ob q _ _ _=>⟨ob.slots,k b ob q⟩,fun _ _ _ n _=>n,fun b ob q _=>⟨ob,k b ob q⟩,fun _ _ q=>q,fun _ _ _ q=>q,fun _ ps q=>⟨#[],by rw [q]; simp⟩⟩
theorem Un.refl:Un fs ex H H h h:=Un.kept fun _ _ q=>q
theorem Un.laid (k:∀ b u,h.get? b=some u→h'.get? b=some u) (hp:h.objs.size≤a) (hn:H a=none):Un fs ex H (upd H a o) h h' where
 keep:=fun b u q _ _ _=>k b u q
 slot:=fun b u q _ _ _=>⟨u.slots,k b u q⟩
 free:=fun b u q n _=>by rw [zaa5 (Nat.ne_of_lt (Nat.lt_of_lt_of_le (Heap.lt_size q) hp))]; exact n
 there:=fun b u q _=>⟨u,k b u q⟩
 tups:=fun b xs q=>by rw [zaa5 (zaam q hn)]; exact q
 frzs:=fun b u xs q=>by rw [zaa5 (zaam q hn)]; exact q
 tbls:=fun b ps q=>⟨#[],by rw [zaa5 (zaam q hn),q]; simp⟩
theorem Un.write (mu:Mut (H x)) (he:e=x∨H e=some (.own x)) (k:∀ b u,b≠e→h.get? b=some u→h'.get? b=some u) (heo:∃ u,h'.get? e=some u):Un fs ex H (upd H x o) h h':=by
 have hx:∀ b,H b=none→b≠x:=fun b n z=>by subst z; rw [n] at mu; exact mu
 have hb:∀ b,H b=none→b≠e:=fun b n z=>by
  subst z
  rcases he with r | r
  ·exact hx b n r
  ·rw [n] at r; cases r
 have hm:∀ b u,H b=some u→¬ Mut (some u)→b≠x:=fun b u q nm z=>by subst z; rw [q] at mu; exact nm mu
 refine ⟨fun b u q n _ _=>k b u (hb b n) q,fun b u q n _ _=>⟨u.slots,k b u (hb b n) q⟩,fun b u q n _=>by rw [zaa5 (hx b n)]; exact n,fun b u q _=>?_,
  fun b xs q=>by rw [zaa5 (hm b _ q fun z=>z)]; exact q,fun b u xs q=>by rw [zaa5 (hm b _ q fun z=>z)]; exact q,fun b ps q=>⟨#[],by rw [zaa5 (hm b _ q fun z=>z),q]; simp⟩⟩
 by_cases hbe:b=e
 ·subst hbe; exact heo
 ·exact ⟨u,k b u hbe q⟩
end
def trk (h:Heap) (H:Hp):List Addr:=(List.range h.objs.size).filter fun a=>(H a).isSome
def hidT (h:Heap) (H:Hp):Heap:=PySem.W.hideAll h (trk h H)
theorem zakb (h:Heap) (H:Hp):(hidT h H).objs.size=h.objs.size:=PySem.W.hideAll_size _ _
theorem zanh {h:Heap}{H:Hp}{b:Addr}{o:Obj} (e:h.get? b=some o) (n:H b=none):(hidT h H).get? b=some o :=
 PySem.W.hideAll_get _ e fun hm=>by
  have q:(H b).isSome=true:=(List.mem_filter.mp hm).2
  rw [n] at q; simp at q
theorem zape {h:Heap}{H:Hp}{b:Addr}{o:Obj} (e:(hidT h H).get? b=some o):h.get? b=some o∧H b=none:=by
 have e':h.get? b=some o:=PySem.W.of_hideAll (trk h H) e
 refine ⟨e',?_⟩
 cases q:H b with
 | none=>rfl
 | some x =>
  have hm:b∈trk h H:=List.mem_filter.mpr ⟨List.mem_range.mpr (Heap.lt_size e'),by simp [q]⟩
  have z:(hidT h H).get? b=none:=PySem.W.hideAll_none (trk h H) hm
  rw [z] at e; cases e
structure Mod (K:PySem.W.Frag) (mg:Str→Option Value) (base:Heap):Prop where
 kin:K.In base
 glob:base.Ns mainGlobals mg
 blt:∃ mb,base.Ns builtinsNs mb∧∀ x:Str,x ≠ "__name__" → mb x=bootBuiltins x
 nolimit:base.NoLimit
structure Cx where
 prog:Program
 w:World
 K:PySem.W.Frag
 mg:Str→Option Value
 base:Heap
 A:Around
 N:List Str
 s₀:Shared
 H₀:Hp
 env:Env
 outer:List Env
 stack:List Env
 ex:List Addr
 fn:Str→Bool
 calm:Bool
 pn:List (Addr × Obj)
 xe:Value→Shared→Prop
def frs (l:List Env):List Addr:=l.filterMap (·.frame)
abbrev Cx.fs (X:Cx):List Addr:=frs X.outer
def Vis (sc:Scope) (x:Str):Prop:=sc.names.lookup x=some .local∨sc.names.lookup x=some .cell∨sc.names.lookup x=some .free
def Loc (sc:Scope) (x:Str):Prop:=sc.names.lookup x=some .local∨sc.names.lookup x=some .cell
def Look (env:Env) (h:Heap) (m:Str→Option Value) (x:Str) (u:Value):Prop :=
 (env.kindOf x=some .local∧m x=some u)∨((env.kindOf x=some .cell∨env.kindOf x=some .free)∧∃ c,env.cells.lookup x=some c∧h.IsCell c (some u))
structure Cx.Ok (X:Cx):Prop where
 mod:Mod X.K X.mg X.base
 kind:X.env.scope.kind=.function
 glob:X.env.globals=mainGlobals
 blt:X.env.builtins=builtinsNs
 above:X.s₀.heap.objs.size≤X.env.locals
 inj:∀ x y c,X.env.cells.lookup x=some c→X.env.cells.lookup y=some c→x=y
 has:∀ x,(X.env.kindOf x=some .cell∨X.env.kindOf x=some .free)→∃ c,X.env.cells.lookup x=some c
 cab:∀ x c,X.fn x=true→X.env.cells.lookup x=some c→X.s₀.heap.objs.size≤c
 hd:X.calm=true→X.A.handled=none
 frames:X.A.frames=some X.stack
 stk:X.stack=X.outer∨(X.stack=X.env :: X.outer∧X.env.frame=some X.env.locals)
 exf:∀ b∈X.ex,b≠X.env.locals∧∀ x c,X.env.cells.lookup x=some c→c≠b
 bs:∀ b o,X.base.get? b=some o→X.s₀.heap.get? b=some o∧X.H₀ b=none
 bsz:X.base.objs.size≤X.s₀.heap.objs.size
 noex:∀ b o,X.base.get? b=some o→b ∉ X.ex
 exfs:∀ b∈X.ex,b ∉ X.fs
 funs:X.s₀.heap.FunFrames X.base X.outer
 frf:∀ b∈X.fs,X.H₀ b=none
structure Inv (X:Cx) (pins:List (Addr × Obj)) (σ:List (Option V)) (H:Hp) (s:Shared):Prop where
 ok:X.Ok
 os:s.os=X.s₀.os
 bare:AllBare s.gens
 base:Un X.fs X.ex X.H₀ H X.s₀.heap s.heap
 loc:∃ m,s.heap.Ns X.env.locals m∧∀ (i:Nat) (x:Str) (v:V),X.N[i]?=some x→σ[i]?=some (some v)→Vis X.env.scope x→∃ u,RelV v u∧Look X.env s.heap m x u
 cell:∀ x c,X.env.cells.lookup x=some c→∃ v,s.heap.IsCell c v
 free:H X.env.locals=none
 freeC:∀ x c,X.env.cells.lookup x=some c→H c=none
 pin:∀ p∈X.pn++pins,s.heap.get? p.1=some p.2∧H p.1=none∧p.1≠X.env.locals∧p.1 ∉ X.fs∧∀ v,p.2.data≠.cell v
 hok:HOk X.prog X.w H s.heap
 len:σ.length=X.N.length
section
variable {X:Cx}{pins:List (Addr × Obj)}{σ:List (Option V)}{H H':Hp}{s:Shared}{h':Heap}
theorem Cx.Ok.nofr (ok:X.Ok) {b:Addr}{o:Obj} (e:X.base.get? b=some o):b ∉ X.fs:=fun hb=>by
 have:=(ok.funs.mem hb).1
 rw [e] at this; cases this
theorem Inv.bs (I:Inv X pins σ H s):∀ b o,X.base.get? b=some o→s.heap.get? b=some o∧H b=none:=fun b o e =>
 ⟨I.base.keep b o (I.ok.bs b o e).1 (I.ok.bs b o e).2 (I.ok.nofr e) (I.ok.noex b o e),I.base.free b o (I.ok.bs b o e).1 (I.ok.bs b o e).2 (I.ok.noex b o e)⟩
theorem Inv.bk (I:Inv X pins σ H s):∀ b o,X.base.get? b=some o→s.heap.get? b=some o:=fun b o e=>(I.bs b o e).1
theorem Inv.mod (I:Inv X pins σ H s):Mod X.K X.mg X.base:=I.ok.mod
theorem Inv.kIn (I:Inv X pins σ H s):X.K.In s.heap:=I.ok.mod.kin.keeps I.bk
theorem Inv.lt (I:Inv X pins σ H s):X.env.locals < s.heap.objs.size:=let ⟨_,hn,_⟩:=I.loc; hn.lt
theorem Inv.sz (I:Inv X pins σ H s):X.s₀.heap.objs.size≤s.heap.objs.size:=Nat.le_trans I.ok.above (Nat.le_of_lt I.lt)
theorem Inv.nofs (I:Inv X pins σ H s) {a:Addr} (h:s.heap.objs.size≤a):a ∉ X.fs:=fun hb=>by
 obtain ⟨_,o,ho,_⟩:=I.ok.funs.mem hb
 exact absurd (Nat.lt_of_lt_of_le (Heap.lt_size ho) (Nat.le_trans I.sz h)) (Nat.lt_irrefl _)
theorem Inv.cne (I:Inv X pins σ H s):∀ x c,X.env.cells.lookup x=some c→c≠X.env.locals:=fun x c e z=>by
 obtain ⟨v,o,ho,hd⟩:=I.cell x c e
 obtain ⟨m,⟨o',es,ep,ho',hd',_⟩,_⟩:=I.loc
 rw [z,ho'] at ho; cases ho; rw [hd'] at hd; cases hd
theorem Inv.funs (I:Inv X pins σ H s):s.heap.FunFrames X.base X.outer:=by
 have all:∀ (l:List Env),(∀ b∈frs l,b∈X.fs)→X.s₀.heap.FunFrames X.base l→s.heap.FunFrames X.base l:=by
  intro l
  induction l with
  | nil=>intro _ _; trivial
  | cons env r ih =>
   intro hs hl
   obtain ⟨hk,⟨L,o,hf,hn,ho,hd⟩,hr⟩:=hl
   have hL:L∈X.fs:=hs L (by unfold frs; rw [List.filterMap_cons,hf]; exact List.mem_cons_self)
   obtain ⟨sl,e⟩:=I.base.slot L o ho (I.ok.frf L hL) hL fun z=>I.ok.exfs L z hL
   exact ⟨hk,⟨L,_,hf,hn,e,hd⟩,ih (fun b hb=>hs b (by unfold frs; rw [List.filterMap_cons,hf]; exact List.mem_cons_of_mem _ hb)) hr⟩
 exact all X.outer (fun _ hb=>hb) I.ok.funs
theorem Inv.stack (I:Inv X pins σ H s):s.heap.FunFrames X.base X.stack:=by
 rcases I.ok.stk with e | ⟨e,hf⟩
 ·rw [e]; exact I.funs
 ·rw [e]
  obtain ⟨m,hn,_⟩:=I.loc
  refine .cons (by rw [I.ok.kind]; decide) hf hn ?_ I.funs
  exact Heap.get?_none_of_le (Nat.le_trans I.ok.bsz I.ok.above)
theorem Inv.stkSub (I:Inv X pins σ H s):∀ b∈frs X.stack,b∈X.env.locals :: X.fs:=fun b hb=>by
 rcases I.ok.stk with e | ⟨e,hf⟩
 ·rw [e] at hb; exact List.mem_cons_of_mem _ hb
 ·rw [e] at hb
  unfold frs at hb
  rw [List.filterMap_cons,hf] at hb
  exact hb
theorem Inv.stkFree (I:Inv X pins σ H s):∀ b∈frs X.stack,H b=none:=fun b hb=>by
 rcases List.mem_cons.mp (I.stkSub b hb) with e | hb
 ·rw [e]; exact I.free
 ·obtain ⟨_,o,ho,_⟩:=I.ok.funs.mem hb
  exact I.base.free b o ho (I.ok.frf b hb) fun z=>I.ok.exfs b z hb
theorem Inv.step {g':Array GenState}{t':Nat}{d':Drawn}{ch:List Addr} (I:Inv X pins σ H s)
  (hch:∀ b∈ch,(b∈X.ex∨X.s₀.heap.objs.size≤b)∧b≠X.env.locals∧(∀ x c,X.env.cells.lookup x=some c→c≠b)∧∀ p∈X.pn++pins,p.1≠b)
  (keep:∀ b o,b≠X.env.locals→b ∉ X.fs→b ∉ ch→s.heap.get? b=some o→H b=none→h'.get? b=some o)
  (slot:∀ b o,b≠X.env.locals→b∈X.fs→b ∉ ch→s.heap.get? b=some o→H b=none→∃ sl,h'.get? b=some { o with slots:=sl }) (free:∀ b o,b ∉ ch→s.heap.get? b=some o→H b=none→H' b=none)
  (there:∀ b o,b ∉ ch→s.heap.get? b=some o→∃ o',h'.get? b=some o')
  (tups:∀ b xs,H b=some (.tup xs)→H' b=some (.tup xs)) (frzs:∀ b o u,H b=some (.frz o u)→H' b=some (.frz o u)) (tbls:∀ b ps,H b=some (.tbl ps)→∃ more,H' b=some (.tbl (ps++more)))
  (ns:∀ m,s.heap.Ns X.env.locals m→h'.Ns X.env.locals m) (hok:HOk X.prog X.w H' h') (hg:AllBare g') :
  Inv X pins σ H' { s with heap:=h',gens:=g',drawn:=d',toks:=t' }:=by
 have neL:∀ b o,X.s₀.heap.get? b=some o→b≠X.env.locals:=fun b o e=>Nat.ne_of_lt (Nat.lt_of_lt_of_le (Heap.lt_size e) I.ok.above)
 have neC:∀ b o,X.s₀.heap.get? b=some o→b ∉ X.ex→b ∉ ch:=fun b o e hx hb=>by
  rcases (hch b hb).1 with z | z
  ·exact hx z
  ·exact absurd (Nat.lt_of_lt_of_le (Heap.lt_size e) z) (Nat.lt_irrefl _)
 have cellK:∀ x c,X.env.cells.lookup x=some c→∀ v,s.heap.IsCell c v→h'.IsCell c v:=fun x c e v ⟨o,ho,hd⟩=>by
  have nch:c ∉ ch:=fun z=>(hch c z).2.2.1 x c e rfl
  by_cases hc:c∈X.fs
  ·obtain ⟨sl,q⟩:=slot c o (I.cne x c e) hc nch ho (I.freeC x c e)
   exact ⟨_,q,hd⟩
  ·exact ⟨o,keep c o (I.cne x c e) hc nch ho (I.freeC x c e),hd⟩
 refine ⟨I.ok,I.os,hg,⟨fun b o e n hb hx=>?_,fun b o e n hb hx=>?_,fun b o e n hx=>?_,fun b o e hx=>?_,fun b xs e=>tups b xs (I.base.tups b xs e),fun b o xs e=>frzs b o xs (I.base.frzs b o xs e),fun b ps e=>?_⟩,?_,fun x c e=>?_,?_,fun x c e=>?_,fun p hp=>?_,hok,I.len⟩
 ·exact keep b o (neL b o e) hb (neC b o e hx) (I.base.keep b o e n hb hx) (I.base.free b o e n hx)
 ·obtain ⟨sl,e1⟩:=I.base.slot b o e n hb hx
  obtain ⟨sl',e2⟩:=slot b _ (neL b o e) hb (neC b o e hx) e1 (I.base.free b o e n hx)
  exact ⟨sl',e2⟩
 ·obtain ⟨o',e1⟩:=I.base.there b o e hx
  exact free b o' (neC b o e hx) e1 (I.base.free b o e n hx)
 ·obtain ⟨o',e1⟩:=I.base.there b o e hx
  exact there b o' (neC b o e hx) e1
 ·obtain ⟨m1,e1⟩:=I.base.tbls b ps e
  obtain ⟨m2,e2⟩:=tbls b _ e1
  exact ⟨m1++m2,by rw [e2,Array.append_assoc]⟩
 ·obtain ⟨m,hn,hl⟩:=I.loc
  refine ⟨m,ns m hn,fun i x v e1 e2 e3=>?_⟩
  obtain ⟨u,r,l⟩:=hl i x v e1 e2 e3
  refine ⟨u,r,?_⟩
  rcases l with l | ⟨k,c,e,z⟩
  ·exact .inl l
  ·exact .inr ⟨k,c,e,cellK x c e _ z⟩
 ·obtain ⟨v,z⟩:=I.cell x c e
  exact ⟨v,cellK x c e v z⟩
 ·obtain ⟨m,⟨o,_,_,ho,_⟩,_⟩:=I.loc
  exact free _ o (fun z=>(hch _ z).2.1 rfl) ho I.free
 ·obtain ⟨v,o,ho,hd⟩:=I.cell x c e
  exact free c o (fun z=>(hch c z).2.2.1 x c e rfl) ho (I.freeC x c e)
 ·obtain ⟨e,n,ne,nf,d⟩:=I.pin p hp
  have nch:p.1 ∉ ch:=fun z=>(hch p.1 z).2.2.2 p hp rfl
  exact ⟨keep p.1 p.2 ne nf nch e n,free p.1 p.2 nch e n,ne,nf,d⟩
theorem Inv.un {t':Nat} (I:Inv X pins σ H s) (u:Un X.fs [] H H' s.heap h') (hok:HOk X.prog X.w H' h'):Inv X pins σ H' { s with heap:=h',toks:=t' }:=by
 obtain ⟨m,⟨o,es,ep,ho,r⟩,_⟩:=id I.loc
 obtain ⟨sl,hL⟩:=u.any ho I.free (by simp)
 exact I.step (g':=s.gens) (d':=s.drawn) (ch:=[]) (fun _ z=>nomatch z) (fun b o _ hb _ e n=>u.keep b o e n hb (by simp)) (fun b o _ hb _ e n=>u.slot b o e n hb (by simp)) (fun b o _ e n=>u.free b o e n (by simp)) (fun b o _ e=>u.there b o e (by simp)) u.tups u.frzs u.tbls (fun m' hm=>by
  obtain ⟨o',es',ep',ho',r'⟩:=hm
  rw [ho] at ho'; cases ho'
  exact ⟨_,es',ep',hL,r'⟩) hok I.bare
theorem Inv.call {g':Array GenState}{t':Nat}{d':Drawn}{ch:List Addr} (I:Inv X pins σ H s) (u:Un (frs X.stack) ch H H' s.heap h') (hok:HOk X.prog X.w H' h') (hg:AllBare g')
  (hch:∀ b∈ch,(b∈X.ex∨X.s₀.heap.objs.size≤b)∧b≠X.env.locals∧(∀ x c,X.env.cells.lookup x=some c→c≠b)∧∀ p∈X.pn++pins,p.1≠b) :
  Inv X pins σ H' { s with heap:=h',gens:=g',drawn:=d',toks:=t' }:=by
 obtain ⟨m,⟨o,es,ep,ho,r⟩,_⟩:=id I.loc
 obtain ⟨sl,hL⟩:=u.any ho I.free fun z=>(hch _ z).2.1 rfl
 exact I.step (ch:=ch) hch (fun b o hL hb hc e n=>u.keep b o e n (fun z=>(List.mem_cons.mp (I.stkSub b z)).elim hL hb) hc) (fun b o _ _ hc e n=>u.any e n hc) (fun b o hc e n=>u.free b o e n hc) (fun b o hc e=>u.there b o e hc) u.tups u.frzs u.tbls (fun m' hm=>by
  obtain ⟨o',es',ep',ho',r'⟩:=hm
  rw [ho] at ho'; cases ho'
  exact ⟨_,es',ep',hL,r'⟩) hok hg
theorem Inv.turned {t':Nat}{it:Addr} (I:Inv X pins σ H s) (k:∀ b o,b≠it→s.heap.get? b=some o→h'.get? b=some o) (hn:H it=none) (hL:it≠X.env.locals)
  (h1:it∈X.ex∨X.s₀.heap.objs.size≤it) (h2:∀ x c,X.env.cells.lookup x=some c→c≠it) (h3:∀ p∈X.pn++pins,p.1≠it):Inv X pins σ H { s with heap:=h',toks:=t' }:=by
 have nit:∀ b u,H b=some u→b≠it:=fun b u e z=>by rw [z,hn] at e; cases e
 refine I.step (g':=s.gens) (d':=s.drawn) (ch:=[it]) (fun b hb=>?_) (fun b o _ _ hc e _=>k b o (fun z=>hc (by simp [z])) e) (fun b o _ _ hc e _=>⟨o.slots,k b o (fun z=>hc (by simp [z])) e⟩) (fun _ _ _ _ n=>n)
  (fun b o hc e=>⟨o,k b o (fun z=>hc (by simp [z])) e⟩) (fun _ _ e=>e) (fun _ _ _ e=>e) (fun b ps e=>⟨#[],by rw [e]; simp⟩) (fun m hm=>?_) (fun b u e=>?_) I.bare
 ·have e:b=it:=by simpa using hb
  subst e
  exact ⟨h1,hL,h2,h3⟩
 ·obtain ⟨o,es,ep,ho,r⟩:=hm
  exact ⟨o,es,ep,k _ o (Ne.symm hL) ho,r⟩
 ·refine (I.hok b u e).stay (fun c v hc q=>k c v ?_ q) (fun _ q=>q) fun _ _ q=>q
  rcases hc with z | z
  ·rw [z]; exact nit b u e
  ·exact nit c _ z
theorem Inv.tok (I:Inv X pins σ H s) (t:Nat):Inv X pins σ H { s with toks:=t }:=I.un (h':=s.heap) (t':=t) Un.refl I.hok
theorem Inv.kept {t':Nat} (I:Inv X pins σ H s) (k:∀ b u,s.heap.get? b=some u→h'.get? b=some u):Inv X pins σ H { s with heap:=h',toks:=t' }:=I.un (Un.kept k) (I.hok.kept k)
theorem Inv.laid {a:Addr}{o:HO}{t':Nat} (I:Inv X pins σ H s) (k:∀ b u,s.heap.get? b=some u→h'.get? b=some u) (hp:s.heap.objs.size≤a) (new:ObjOk X.prog X.w (upd H a o) h' a o) :
  Inv X pins σ (upd H a o) { s with heap:=h',toks:=t' }:=I.un (Un.laid k hp (I.hok.fresh hp)) (I.hok.laid k hp new)
theorem Inv.write {x e:Addr}{o:HO}{t':Nat} (I:Inv X pins σ H s) (mu:Mut (H x)) (he:e=x∨H e=some (.own x)) (k:∀ b u,b≠e→s.heap.get? b=some u→h'.get? b=some u) (heo:∃ u,h'.get? e=some u)
  (new:ObjOk X.prog X.w (upd H x o) h' x o):Inv X pins σ (upd H x o) { s with heap:=h',toks:=t' }:=I.un (Un.write mu he k heo) (I.hok.write mu he k heo new)
theorem Inv.pins_of {pins':List (Addr × Obj)} (I:Inv X pins σ H s) (h:∀ p∈pins',s.heap.get? p.1=some p.2∧H p.1=none∧p.1≠X.env.locals∧p.1 ∉ X.fs∧∀ v,p.2.data≠.cell v):Inv X pins' σ H s :=
 ⟨I.ok,I.os,I.bare,I.base,I.loc,I.cell,I.free,I.freeC,fun p hp=>(List.mem_append.mp hp).elim (fun z=>I.pin p (List.mem_append_left _ z)) (h p),I.hok,I.len⟩
theorem zai1 {N:List Str} (hN:N.Nodup) {i j:Nat}{x:Str} (a:N[i]?=some x) (b:N[j]?=some x):i=j:=by
 obtain ⟨h1,e1⟩:=List.getElem?_eq_some_iff.mp a
 obtain ⟨h2,e2⟩:=List.getElem?_eq_some_iff.mp b
 exact (List.getElem_inj hN).mp (e1.trans e2.symm)
theorem zag2 {M:Model}{A:Around}{E:Value→Shared→Prop}{i:Nat}{x:Str}{v:V}{u:Value}{Q:Unit→Shared→Prop} (I:Inv X pins σ H s) (hN:X.N.Nodup) (hi:X.N[i]?=some x) (hx:Loc X.env.scope x) (r:RelV v u)
  (h:∀ s',Inv X pins (σ.set i (some v)) H s'→(∃ a,Heap.SameBut a s.heap s'.heap∧(a=X.env.locals∨X.env.cells.lookup x=some a))→Q () s') (hf:X.fn x=true∨X.env.scope.names.lookup x=some .local:=by first | exact .inl rfl | exact .inr rfl | assumption):wpAny M A (storeName X.env x u) Q E s:=by
 obtain ⟨m,hn,hl⟩:=id I.loc
 have hcls:(X.env.scope.kind == .class || (X.env.scope.kind == .module && X.env.locals != X.env.globals))=false:=by rw [I.ok.kind]; rfl
 have hiσ:i < σ.length:=by rw [I.len]; exact (List.getElem?_eq_some_iff.mp hi).1
 have cne:=I.cne
 have tracked:∀ {a:Addr}{h':Heap},(∃ o,s.heap.get? a=some o∧H a=none)→Heap.SameBut a s.heap h'→HOk X.prog X.w H h':=fun {a h'} ha hs b ob e=>by
  obtain ⟨_,_,hfree⟩:=ha
  refine (I.hok b ob e).stay (fun c w' hc q=>(hs.2 c ?_).trans q) (fun _ q=>q) fun _ _ q=>q
  rintro rfl
  rcases hc with rfl | hc
  ·rw [hfree] at e; cases e
  ·rw [hfree] at hc; cases hc
 rcases hx with hk | hk
 ·refine wpAny_storeName_local hk hn (fun h' hn' hs=>?_) hcls
  obtain ⟨oL,_,_,hoL,_⟩:=id hn
  refine h _ ⟨I.ok,I.os,I.bare,⟨fun b o e n hb hx=>?_,fun b o e n hb hx=>?_,I.base.free,fun b o e hx=>?_,I.base.tups,I.base.frzs,I.base.tbls⟩,⟨_,hn',fun j y v' e1 e2 e3=>?_⟩,fun y c e=>?_,I.free,I.freeC,fun p hp=>?_,tracked ⟨oL,hoL,I.free⟩ hs,by simpa using I.len⟩ ⟨_,hs,.inl rfl⟩
  ·exact (hs.2 b (Nat.ne_of_lt (Nat.lt_of_lt_of_le (Heap.lt_size e) I.ok.above))).trans (I.base.keep b o e n hb hx)
  ·obtain ⟨sl,e1⟩:=I.base.slot b o e n hb hx
   exact ⟨sl,(hs.2 b (Nat.ne_of_lt (Nat.lt_of_lt_of_le (Heap.lt_size e) I.ok.above))).trans e1⟩
  ·obtain ⟨o',e1⟩:=I.base.there b o e hx
   exact ⟨o',(hs.2 b (Nat.ne_of_lt (Nat.lt_of_lt_of_le (Heap.lt_size e) I.ok.above))).trans e1⟩
  ·by_cases hj:j=i
   ·subst hj
    rw [hi] at e1; cases e1
    rw [List.getElem?_set_self hiσ] at e2
    cases e2
    exact ⟨u,r,.inl ⟨hk,by simp⟩⟩
   ·rw [List.getElem?_set_ne (Ne.symm hj)] at e2
    obtain ⟨u',r',q⟩:=hl j y v' e1 e2 e3
    refine ⟨u',r',?_⟩
    rcases q with ⟨k,e⟩ | ⟨k,c,e,z⟩
    ·refine .inl ⟨k,?_⟩
     have:y≠x:=fun e=>hj (zai1 hN e1 (e ▸ hi))
     simp [this,e]
    ·exact .inr ⟨k,c,e,z.sameBut hs (cne y c e)⟩
  ·obtain ⟨w',z⟩:=I.cell y c e
   exact ⟨w',z.sameBut hs (cne y c e)⟩
  ·obtain ⟨e,n,ne,nf,d⟩:=I.pin p hp
   exact ⟨(hs.2 p.1 ne).trans e,n,ne,nf,d⟩
 ·have hfn:X.fn x=true:=by
   rcases hf with z | z
   ·exact z
   ·rw [z] at hk; cases hk
  obtain ⟨c,hc⟩:=I.ok.has x (.inl hk)
  obtain ⟨w',z⟩:=I.cell x c hc
  refine wpAny_storeName_cell I.ok.kind hk hc z (fun h' hc' hs=>?_)
  obtain ⟨oc,hoc,hocd⟩:=id z
  refine h { s with heap:=h' } ⟨I.ok,I.os,I.bare,⟨fun b o e n hb hx=>?_,fun b o e n hb hx=>?_,I.base.free,fun b o e hx=>?_,I.base.tups,I.base.frzs,I.base.tbls⟩,⟨m,hn.sameBut hs (Ne.symm (cne x c hc)),fun j y v' e1 e2 e3=>?_⟩,fun y c' e=>?_,I.free,I.freeC,fun p hp=>?_,tracked ⟨oc,hoc,I.freeC x c hc⟩ hs,by simpa using I.len⟩ ⟨c,hs,.inr hc⟩
  ·exact (hs.2 b (Nat.ne_of_lt (Nat.lt_of_lt_of_le (Heap.lt_size e) (I.ok.cab x c hfn hc)))).trans (I.base.keep b o e n hb hx)
  ·obtain ⟨sl,e1⟩:=I.base.slot b o e n hb hx
   exact ⟨sl,(hs.2 b (Nat.ne_of_lt (Nat.lt_of_lt_of_le (Heap.lt_size e) (I.ok.cab x c hfn hc)))).trans e1⟩
  ·obtain ⟨o',e1⟩:=I.base.there b o e hx
   exact ⟨o',(hs.2 b (Nat.ne_of_lt (Nat.lt_of_lt_of_le (Heap.lt_size e) (I.ok.cab x c hfn hc)))).trans e1⟩
  ·by_cases hj:j=i
   ·subst hj
    rw [hi] at e1; cases e1
    rw [List.getElem?_set_self hiσ] at e2
    cases e2
    exact ⟨u,r,.inr ⟨.inl hk,c,hc,hc'⟩⟩
   ·rw [List.getElem?_set_ne (Ne.symm hj)] at e2
    obtain ⟨u',r',q⟩:=hl j y v' e1 e2 e3
    refine ⟨u',r',?_⟩
    rcases q with q | ⟨k,c',e,z'⟩
    ·exact .inl q
    ·refine .inr ⟨k,c',e,z'.sameBut hs ?_⟩
     rintro rfl
     exact hj (zai1 hN e1 (I.ok.inj _ _ _ e hc ▸ hi))
  ·by_cases hcc:c'=c
   ·subst hcc; exact ⟨_,hc'⟩
   ·obtain ⟨w2,z2⟩:=I.cell y c' e
    exact ⟨w2,z2.sameBut hs hcc⟩
  ·obtain ⟨e,n,ne,nf,d⟩:=I.pin p hp
   refine ⟨(hs.2 p.1 ?_).trans e,n,ne,nf,d⟩
   intro q
   rw [q,hoc] at e
   have q':oc=p.2:=Option.some.inj e
   exact d w' (by rw [← q']; exact hocd)
theorem zaem {M:Model}{A:Around}{E:Value→Shared→Prop}{i:Nat}{x:Str}{v:V}{u:Value}{Q:Unit→Shared→Prop} (I:Inv X pins σ H s) (hN:X.N.Nodup) (hi:X.N[i]?=some x) (hx:Loc X.env.scope x) (r:RelV v u)
  (h:∀ s',Inv X pins (σ.set i (some v)) H s'→Q () s') (hf:X.fn x=true∨X.env.scope.names.lookup x=some .local:=by first | exact .inl rfl | exact .inr rfl | assumption):wpAny M A (storeName X.env x u) Q E s :=
 zag2 I hN hi hx r (fun s' I' _=>h s' I') hf
theorem Inv.call' {s':Shared}{ch:List Addr} (I:Inv X pins σ H s) (ho:s'.os=s.os) (u:Un (frs X.stack) ch H H' s.heap s'.heap) (hok:HOk X.prog X.w H' s'.heap) (hg:AllBare s'.gens)
  (hch:∀ b∈ch,(b∈X.ex∨X.s₀.heap.objs.size≤b)∧b≠X.env.locals∧(∀ x c,X.env.cells.lookup x=some c→c≠b)∧∀ p∈X.pn++pins,p.1≠b):Inv X pins σ H' s':=by
 obtain ⟨h',g',d',t',o'⟩:=s'
 have e:o'=s.os:=ho
 subst e
 exact I.call (g':=g') (t':=t') (d':=d') u hok hg hch
end
abbrev XK:=Value→Option Addr→Hp→Prop
abbrev St:=List (Option V)
abbrev VK:=V→Hp→Prop
abbrev TE:=St→Hp→VK→Prop
abbrev TT:=St→Hp→(Bool→Hp→Prop)→Prop
abbrev TA:=St→Hp→(List V→Hp→Prop)→Prop
structure Ends where
 nx:St→Hp→Prop
 rt:VK
 bk:St→Hp→Prop:=fun _ _=>False
 ct:St→Hp→Prop:=fun _ _=>False
abbrev TS:=Ends→St→Hp→Prop
def EP (X:Cx) (pins:List (Addr × Obj)) (σ:St) (Q:VK) (u:Value) (s':Shared):Prop:=∃ v H',Inv X pins σ H' s'∧RelV v u∧Q v H'
def TP (X:Cx) (pins:List (Addr × Obj)) (σ:St) (Q:Bool→Hp→Prop) (b:Bool) (s':Shared):Prop:=∃ H',Inv X pins σ H' s'∧Q b H'
def AP (X:Cx) (pins:List (Addr × Obj)) (σ:St) (Q:List V→Hp→Prop) (us:List Value) (s':Shared):Prop:=∃ vs H',Inv X pins σ H' s'∧Vals vs us∧Q vs H'
def SP (X:Cx) (pins:List (Addr × Obj)) (D:Ends) (f:Flow) (s':Shared):Prop :=
 match f with
 | .next=>∃ σ' H',Inv X pins σ' H' s'∧D.nx σ' H'
 | .brk=>∃ σ' H',Inv X pins σ' H' s'∧D.bk σ' H'
 | .cont=>∃ σ' H',Inv X pins σ' H' s'∧D.ct σ' H'
 | .ret u=>∃ v σ' H',Inv X pins σ' H' s'∧RelV v u∧D.rt v H'
def PE (X:Cx) (e:Expr) (t:TE):Prop :=
 ∀ (pins:List (Addr × Obj)) (s:Shared) (σ:St) (H:Hp) (Q:VK),Inv X pins σ H s→t σ H Q→wpAny (model X.prog X.w) X.A (eval e X.env) (EP X pins σ Q) X.xe s
def PT (X:Cx) (e:Expr) (t:TT):Prop :=
 ∀ (pins:List (Addr × Obj)) (s:Shared) (σ:St) (H:Hp) (Q:Bool→Hp→Prop),Inv X pins σ H s→t σ H Q→wpAny (model X.prog X.w) X.A (isTrue e X.env (eval e X.env)) (TP X pins σ Q) X.xe s
def PW (X:Cx) (e:Expr) (t:TT):Prop :=
 ∀ (whole:Sem Value) (pins:List (Addr × Obj)) (s:Shared) (σ:St) (H:Hp) (Q:Bool→Hp→Prop),Inv X pins σ H s→t σ H Q→wpAny (model X.prog X.w) X.A (isTrue e X.env whole) (TP X pins σ Q) X.xe s
theorem PW.pt {X:Cx}{e:Expr}{t:TT} (h:PW X e t):PT X e t:=h _
def PA (X:Cx) (es:List Expr) (t:TA):Prop :=
 ∀ (pos:Pos) (pins:List (Addr × Obj)) (s:Shared) (σ:St) (H:Hp) (Q:List V→Hp→Prop),Inv X pins σ H s→t σ H Q→wpAny (model X.prog X.w) X.A (spliced (backTo pos (starEach es X.env))) (AP X pins σ Q) X.xe s
def PS (X:Cx) (st:Stmt) (t:TS):Prop :=
 ∀ (pins:List (Addr × Obj)) (s:Shared) (σ:St) (H:Hp) (D:Ends),Inv X pins σ H s→t D σ H→wpAny (model X.prog X.w) X.A (exec st X.env) (SP X pins D) X.xe s
def PSs (X:Cx) (st:List Stmt) (t:TS):Prop :=
 ∀ (pins:List (Addr × Obj)) (s:Shared) (σ:St) (H:Hp) (D:Ends),Inv X pins σ H s→t D σ H→wpAny (model X.prog X.w) X.A (execs st X.env) (SP X pins D) X.xe s
theorem thn {α:Type}{t:Sem α}{Q Q':α→Shared→Prop}{M:Model}{A:Around}{E:Value→Shared→Prop}{s:Shared} (h:wpAny M A t Q E s) (hQ:∀ a s,Q a s→Q' a s):wpAny M A t Q' E s:=wpAny_mono h hQ fun _ _ x=>x
section
variable {X:Cx}
def tVar (i:Nat):TE:=fun σ H Q=>∃ v,σ[i]?=some (some v)∧Q v H
def tC (v:V):TE:=fun _ H Q=>Q v H
theorem zarf {i:Nat}{x:Str}{pos:Pos} (hN:X.N[i]?=some x) (hv:Vis X.env.scope x) (hd:(x == ("__debug__" : Str))=false:=by decide) (hcd:(x == ("__classdict__" : Str))=false:=by decide):PE X (.Name x pos) (tVar i):=by
 intro pins s σ H Q I h
 obtain ⟨v,e,h⟩:=h
 obtain ⟨m,hn,hl⟩:=I.loc
 obtain ⟨u,r,l⟩:=hl i x v hN e hv
 have fin:EP X pins σ Q u s:=⟨v,H,I,r,h⟩
 rcases l with ⟨hk,hm⟩ | ⟨hk,c,hc,hcell⟩
 ·exact wpAny_Name (wpAny_loadName_local I.ok.kind hk hn hm fin) hd
 ·rcases hk with hk | hk
  ·exact wpAny_Name (wpAny_loadName_cell I.ok.kind hk hc hcell fin) hd
  ·exact wpAny_Name (wpAny_loadName_free I.ok.kind hk hc hcell fin hcd) hd
theorem zarg {i j pos}:PE X (.Constant (.int i) j pos) (tC (.int i)):=fun _ _ _ H _ I h=>wpAny_Constant_int ⟨.int i,H,I.tok _,⟨_,rfl⟩,h⟩
theorem zath {b j pos}:PE X (.Constant (.bool b) j pos) (tC (.bl b)):=fun _ _ _ H _ I h=>Constant_bool ⟨.bl b,H,I,rfl,h⟩
theorem zarh {j pos}:PE X (.Constant .none j pos) (tC .non):=fun _ _ _ H _ I h=>Constant_none ⟨.non,H,I,rfl,h⟩
theorem zari {x j pos}:PE X (.Constant (.str x) j pos) (tC (.str x)):=fun _ _ _ H _ I h=>Calls.Constant_str ⟨.str x,H,I.tok _,⟨_,rfl⟩,h⟩
def Gl (X:Cx) (x:Str):Prop:=X.env.kindOf x=some .globalImplicit
theorem zah7 {E:Value→Shared→Prop}{pins:List (Addr × Obj)}{s:Shared}{σ:St}{H:Hp}{x:Str}{u:Value}{pos:Pos}{Q:Value→Shared→Prop} (I:Inv X pins σ H s) (hg:Gl X x) (hm:X.mg x=some u) (h:Q u s)
  (hd:(x == ("__debug__" : Str))=false:=by decide):wpAny (model X.prog X.w) X.A (eval (.Name x pos) X.env) Q E s :=
 Calls.Name_function_global I.ok.kind hg (Calls.loadGlobal_global (by rw [I.ok.glob]; exact I.mod.glob.keeps I.bk) hm h) hd
theorem zadp {E:Value→Shared→Prop}{pins:List (Addr × Obj)}{s:Shared}{σ:St}{H:Hp}{x:Str}{u:Value}{pos:Pos}{Q:Value→Shared→Prop} (I:Inv X pins σ H s) (hg:Gl X x) (hm:X.mg x=none) (hv:bootBuiltins x=some u) (h:Q u s)
  (hn:x ≠ "__name__" := by decide) (hd:(x == ("__debug__" : Str))=false:=by decide):wpAny (model X.prog X.w) X.A (eval (.Name x pos) X.env) Q E s:=by
 obtain ⟨mb,h1,h2⟩:=I.mod.blt
 exact Calls.Name_function_global I.ok.kind hg (Calls.loadGlobal_builtin (by rw [I.ok.glob]; exact I.mod.glob.keeps I.bk) hm (by rw [I.ok.blt]; exact h1.keeps I.bk) ((h2 x hn).trans hv) h) hd
theorem zapf {x:Str}{v:V}{u:Value}{pos:Pos} (hg:Gl X x) (hm:X.mg x=some u) (r:RelV v u) (hd:(x == ("__debug__" : Str))=false:=by decide):PE X (.Name x pos) (tC v) :=
 fun _ _ _ H _ I h=>zah7 I hg hm ⟨v,H,I,r,h⟩ hd
theorem zapg {x:Str}{v:V}{u:Value}{pos:Pos} (hg:Gl X x) (hm:X.mg x=none) (hv:bootBuiltins x=some u) (r:RelV v u) (hn:x ≠ "__name__" := by decide) (hd:(x == ("__debug__" : Str))=false:=by decide):PE X (.Name x pos) (tC v) :=
 fun _ _ _ H _ I h=>zadp I hg hm hv ⟨v,H,I,r,h⟩ hn hd
variable {a b:Expr}{ta tb:TE}{pos:Pos}
def PC (X:Cx) (op:CmpOp) (a b:Expr) (t:TE):Prop :=
 ∀ (pins:List (Addr × Obj)) (s:Shared) (σ:St) (H:Hp) (Q:VK),Inv X pins σ H s→t σ H Q →
  wpAny (model X.prog X.w) X.A (eval a X.env) (fun v s₁=>wpAny (model X.prog X.w) X.A (eval b X.env) (fun u s₂=>wpAny (model X.prog X.w) X.A (compareOp op v u) (EP X pins σ Q) X.xe s₂) X.xe s₁) X.xe s
def tB (t:TE):TT:=fun σ H Q=>t σ H fun x H1=>∃ c,x=.bl c∧Q c H1
theorem zaos {op:CmpOp}{t:TE} (h:PC X op a b t) (h1:behindInMarks op b=false:=by first | exact nobehind _ (by decide) (by decide) | rfl):PT X (.Compare a [op] [b] pos) (tB t):=by
 intro pins s σ H Q I hw
 refine wpAny_isTrue_Compare1 (thn (h pins s σ H _ I hw) fun v s1 h1=>thn h1 fun u s2 h2=>thn h2 fun c s3 ⟨x,H1,I1,r1,q1⟩=>?_) h1
 obtain ⟨d,rfl,q⟩:=q1
 cases r1
 exact wpAny_truthy_bool ⟨H1,I1,q⟩
theorem zarj {e:Expr}{t:TE} (h:PE X e t) (he:∀ whole,isTrue e X.env whole=(do let v ← whole; standAt e.pos; holding [v] (truthy v)):=by intro _; rfl):PT X e (tB t):=by
 intro pins s σ H Q I hw
 refine isTrue_plain (thn (h pins s σ H _ I hw) fun v s1 ⟨x,H1,I1,r1,q1⟩=>?_) (he _)
 obtain ⟨d,rfl,q⟩:=q1
 cases r1
 exact wpAny_truthy_bool ⟨H1,I1,q⟩
variable {tA tB':TT}{rest:List Expr}
def tAnd (t u:TT):TT:=fun σ H Q=>t σ H fun c H1=>if c=true then u σ H1 Q else Q false H1
def tOr (t u:TT):TT:=fun σ H Q=>t σ H fun c H1=>if c=true then Q true H1 else u σ H1 Q
def tNot (t:TT):TT:=fun σ H Q=>t σ H fun c H1=>Q (!c) H1
theorem zaph (ha:PT X a tA):PW X (.BoolOp .And [a] pos) tA:=by
 intro wh pins s σ H Q I h
 refine isTrue_and (thn (ha pins s σ H Q I h) fun c s1 e=>?_)
 cases c with
 | true=>exact isTrue_and_nil e
 | false=>exact e
theorem zark (ha:PT X a tA):PW X (.BoolOp .Or [a] pos) tA:=by
 intro wh pins s σ H Q I h
 refine isTrue_or (thn (ha pins s σ H Q I h) fun c s1 e=>?_)
 cases c with
 | false=>exact isTrue_or_nil e
 | true=>exact e
theorem zarl (ha:PT X a tA) (hb:PW X (.BoolOp .And (b :: rest) pos) tB'):PW X (.BoolOp .And (a :: b :: rest) pos) (tAnd tA tB'):=by
 intro wh pins s σ H Q I h
 refine isTrue_and (thn (ha pins s σ H _ I h) fun c s1 ⟨H1,I1,q1⟩=>?_)
 cases c with
 | true=>exact hb wh pins s1 σ H1 Q I1 q1
 | false=>exact ⟨H1,I1,q1⟩
theorem zati (ha:PT X a tA) (hb:PW X (.BoolOp .Or (b :: rest) pos) tB'):PW X (.BoolOp .Or (a :: b :: rest) pos) (tOr tA tB'):=by
 intro wh pins s σ H Q I h
 refine isTrue_or (thn (ha pins s σ H _ I h) fun c s1 ⟨H1,I1,q1⟩=>?_)
 cases c with
 | true=>exact ⟨H1,I1,q1⟩
 | false=>exact hb wh pins s1 σ H1 Q I1 q1
theorem zarm (ha:PT X a tA):PT X (.UnaryOp .Not a pos) (tNot tA):=by
 intro pins s σ H Q I h
 exact isTrue_not (ha pins s σ H (fun c H1=>Q (!c) H1) I h)
def tAndV (ta tb:TE):TE:=fun σ H Q=>ta σ H fun x H1=>∃ c,x=.bl c∧if c=true then tb σ H1 Q else Q (.bl false) H1
def tNotV (ta:TE):TE:=fun σ H Q=>ta σ H fun x H1=>∃ c,x=.bl c∧Q (.bl (!c)) H1
theorem zarn {op}{t:TE} (h:PE X a t):PE X (.BoolOp op [a] pos) t:=fun pins s σ H Q I hw=>BoolOp_one (h pins s σ H Q I hw)
theorem zaro (ha:PE X a ta) (hb:PE X (.BoolOp .And (b :: rest) pos) tb):PE X (.BoolOp .And (a :: b :: rest) pos) (tAndV ta tb):=by
 intro pins s σ H Q I h
 refine BoolOp_and (thn (ha pins s σ H _ I h) fun v s1 ⟨x,H1,I1,r1,q1⟩=>?_)
 obtain ⟨c,rfl,q1⟩:=q1
 cases r1
 refine wpAny_truthy_bool ?_
 cases c with
 | true=>exact hb pins s1 σ H1 Q I1 q1
 | false=>exact ⟨.bl false,H1,I1,rfl,q1⟩
theorem zarp (ha:PE X a ta):PE X (.UnaryOp .Not a pos) (tNotV ta):=by
 intro pins s σ H Q I h
 refine UnaryOp_ (thn (ha pins s σ H _ I h) fun v s1 ⟨x,H1,I1,r1,q1⟩=>?_)
 obtain ⟨c,rfl,q1⟩:=q1
 cases r1
 exact not_of (wpAny_truthy_bool ⟨.bl (!c),H1,I1,rfl,q1⟩)
def tIf (t:TT) (ta tb:TE):TE:=fun σ H Q=>t σ H fun c H1=>if c=true then ta σ H1 Q else tb σ H1 Q
theorem zani {c:Expr} (hc:PT X c tA) (ha:PE X a ta) (hb:PE X b tb):PE X (.IfExp c a b pos) (tIf tA ta tb):=by
 intro pins s σ H Q I h
 refine wpAny_IfExp (thn (hc pins s σ H _ I h) fun d s1 ⟨H1,I1,q1⟩=>?_)
 cases d with
 | true=>exact ha pins s1 σ H1 Q I1 q1
 | false=>exact hb pins s1 σ H1 Q I1 q1
end
def SqL (K:PySem.W.Frag) (H:Hp) (a:Addr) (xs:List V):Prop :=
 Rd H a (.lst xs) ∨
  ∃ (o:Obj) (its:Array Value) (n:Nat),K.lookup a=some o∧o.cls=.type "list" ∧ o.dict=none∧o.data=.seq its n∧its.size≤sizeLine∧Vals xs its.toList
def SqT (K:PySem.W.Frag) (H:Hp) (a:Addr) (xs:List V):Prop :=
 Rd H a (.tup xs) ∨
  ∃ (o:Obj) (its:Array Value) (n:Nat),K.lookup a=some o∧o.cls=.type "tuple" ∧ o.data=.seq its n∧its.size≤sizeLine∧Vals xs its.toList
def absV:Value→Option V
 | .none=>some .non
 | .bool b=>some (.bl b)
 | .int i _=>some (.int i)
 | .str x _=>some (.str x)
 | .bytes b _=>some (.byt b)
 | .float b _=>some (.flt b)
 | .ref a=>some (.ref a)
 | .type n=>some (.ty n)
 | _=>none
theorem RelV.abs {x:V}{u:Value} (r:RelV x u):absV u=some x:=by
 cases x with
 | non=>cases r; rfl
 | bl _=>cases r; rfl
 | int _=>obtain ⟨t,rfl⟩:=r; rfl
 | str _=>obtain ⟨t,rfl⟩:=r; rfl
 | byt _=>obtain ⟨t,rfl⟩:=r; rfl
 | flt _=>obtain ⟨t,rfl⟩:=r; rfl
 | ref _=>cases r; rfl
 | ty _=>cases r; rfl
theorem RelV.inj {x y:V}{u:Value} (r:RelV x u) (q:RelV y u):x=y:=Option.some.inj (r.abs.symm.trans q.abs)
theorem Vals.inj:∀ {xs ys:List V}{us:List Value},Vals xs us→Vals ys us→xs=ys
 | _,_,_,.nil,.nil=>rfl
 | _,_,_,.cons r t,.cons r' t'=>by rw [r.inj r',Vals.inj t t']
section
variable {X:Cx}{pins:List (Addr × Obj)}{σ:St}{H:Hp}{s:Shared}{a:Addr}{xs ys:List V}
theorem SqL.of {K:PySem.W.Frag} (h:H a=some (.lst xs)):SqL K H a xs:=.inl (.inl h)
theorem SqT.of {K:PySem.W.Frag} (h:H a=some (.tup xs)):SqT K H a xs:=.inl (.inl h)
theorem Inv.list (I:Inv X pins σ H s) (h:SqL X.K H a xs):∃ its:List Value,Vals xs its∧PlainL s.heap a its.toArray∧xs.length≤sizeLine:=by
 rcases h with h | ⟨o,its,n,hk,hc,hd,hs,hz,r⟩
 ·obtain ⟨z,its,n,r,e⟩:=h.ok I.hok
  exact ⟨its,r,⟨_,n,e,rfl,rfl,rfl⟩,z⟩
 ·refine ⟨its.toList,r,⟨o,n,I.kIn a o hk,hc,hd,by simpa using hs⟩,?_⟩
  have e:=r.length
  simp only [Array.length_toList] at e
  omega
theorem Inv.tuple (I:Inv X pins σ H s) (h:SqT X.K H a xs):∃ its:List Value,Vals xs its∧IsTup s.heap a its.toArray∧xs.length≤sizeLine:=by
 rcases h with h | ⟨o,its,n,hk,hc,hs,hz,r⟩
 ·obtain ⟨z,its,r,p⟩:=h.ok I.hok
  exact ⟨its,r,p,z⟩
 ·refine ⟨its.toList,r,⟨o,I.kIn a o hk,hc,n,by simpa using hs⟩,?_⟩
  have e:=r.length
  simp only [Array.length_toList] at e
  omega
theorem Inv.list_inj (I:Inv X pins σ H s) (h:SqL X.K H a xs) (h':SqL X.K H a ys):xs=ys:=by
 obtain ⟨its,r,⟨o,n,e,_,_,d⟩,_⟩:=I.list h
 obtain ⟨its',r',⟨o',n',e',_,_,d'⟩,_⟩:=I.list h'
 rw [e] at e'; cases e'
 rw [d] at d'
 injection d' with d1 _
 have:its=its':=by simpa using congrArg Array.toList d1
 subst this
 exact r.inj r'
theorem Inv.tuple_inj (I:Inv X pins σ H s) (h:SqT X.K H a xs) (h':SqT X.K H a ys):xs=ys:=by
 obtain ⟨its,r,⟨o,e,_,n,d⟩,_⟩:=I.tuple h
 obtain ⟨its',r',⟨o',e',_,n',d'⟩,_⟩:=I.tuple h'
 rw [e] at e'; cases e'
 rw [d] at d'
 injection d' with d1 _
 have:its=its':=by simpa using congrArg Array.toList d1
 subst this
 exact r.inj r'
end
abbrev Cx.wish (X:Cx) (E:Value→Shared→Prop):Cx:={ X with xe:=E }
abbrev Cx.nox (X:Cx):Cx:=X.wish fun _ _=>False
theorem Cx.Ok.wish {X:Cx} (ok:X.Ok) (E:Value→Shared→Prop):(X.wish E).Ok :=
 ⟨ok.mod,ok.kind,ok.glob,ok.blt,ok.above,ok.inj,ok.has,ok.cab,ok.hd,ok.frames,ok.stk,ok.exf,ok.bs,ok.bsz,ok.noex,ok.exfs,ok.funs,ok.frf⟩
theorem Cx.Ok.unwish {X:Cx}{E:Value→Shared→Prop} (ok:(X.wish E).Ok):X.Ok :=
 ⟨ok.mod,ok.kind,ok.glob,ok.blt,ok.above,ok.inj,ok.has,ok.cab,ok.hd,ok.frames,ok.stk,ok.exf,ok.bs,ok.bsz,ok.noex,ok.exfs,ok.funs,ok.frf⟩
section
variable {X:Cx}{pins:List (Addr × Obj)}{σ:St}{H:Hp}{s:Shared}{E:Value→Shared→Prop}
theorem Inv.wish (I:Inv X pins σ H s) (E:Value→Shared→Prop):Inv (X.wish E) pins σ H s:=⟨I.ok.wish E,I.os,I.bare,I.base,I.loc,I.cell,I.free,I.freeC,I.pin,I.hok,I.len⟩
theorem Inv.unwish (I:Inv (X.wish E) pins σ H s):Inv X pins σ H s:=⟨I.ok.unwish,I.os,I.bare,I.base,I.loc,I.cell,I.free,I.freeC,I.pin,I.hok,I.len⟩
theorem SP.unwish {D:Ends}{f:Flow}{s':Shared} (h:SP (X.wish E) pins D f s'):SP X pins D f s':=by
 cases f with
 | next=>obtain ⟨σ',H',I,q⟩:=h; exact ⟨σ',H',I.unwish,q⟩
 | brk=>obtain ⟨σ',H',I,q⟩:=h; exact ⟨σ',H',I.unwish,q⟩
 | cont=>obtain ⟨σ',H',I,q⟩:=h; exact ⟨σ',H',I.unwish,q⟩
 | ret u=>obtain ⟨v,σ',H',I,r,q⟩:=h; exact ⟨v,σ',H',I.unwish,r,q⟩
theorem PSs.nox {st:List Stmt}{t:TS} (h:PSs X.nox st t):PSs X st t:=fun pins s σ H D I hw =>
 wpAny_mono (h pins s σ H D (I.wish _) hw) (fun _ _ q=>q.unwish) fun _ _ z=>False.elim z
end
section
variable {X:Cx}{st:Stmt}{rest:List Stmt}{t u:TS}{e:Expr}{te:TE}{pos:Pos}
def tNext:TS:=fun D σ H=>D.nx σ H
def tSeq (t u:TS):TS:=fun D σ H=>t { D with nx:=u D } σ H
theorem zapi:PSs X [] tNext:=fun _ _ σ H _ I h=>wpAny_execs_nil ⟨σ,H,I,h⟩
theorem zai2 (h1:PS X st t) (h2:PSs X rest u):PSs X (st :: rest) (tSeq t u):=by
 intro pins s σ H D I h
 refine wpAny_execs_cons (thn (h1 pins s σ H { D with nx:=u D } I h) fun f s1 q=>?_)
 cases f with
 | next =>
  obtain ⟨σ',H',I',q⟩:=q
  exact h2 pins s1 σ' H' D I' q
 | ret v=>exact q
 | brk=>exact q
 | cont=>exact q
theorem zapj (h1:PS X st t):PSs X [st] t:=by
 intro pins s σ H D I h
 refine wpAny_execs_cons (thn (h1 pins s σ H D I h) fun f s1 q=>?_)
 cases f with
 | next=>exact wpAny_execs_nil q
 | ret v=>exact q
 | brk=>exact q
 | cont=>exact q
theorem Inv.quiet {pins:List (Addr × Obj)}{σ:St}{H:Hp}{s:Shared} (I:Inv X pins σ H s):interactive X.env=false:=by simp [interactive,I.ok.kind]
def tDrop (te:TE):TS:=fun D σ H=>te σ H fun _ H1=>D.nx σ H1
theorem zapk (he:PE X e te) (hs:swapsWith e none pos.line X.env=pure false:=by rfl):PS X (.Expr e pos) (tDrop te):=by
 intro pins s σ H D I h
 exact wpAny_Expr_any (thn (he pins s σ H _ I h) fun v s1 ⟨x,H1,I1,r1,q1⟩=>⟨σ,H1,I1,q1⟩) I.quiet hs
def tRet (te:TE):TS:=fun D σ H=>te σ H D.rt
theorem zarq (he:PE X e te):PS X (.Return (some e) pos) (tRet te):=by
 intro pins s σ H D I h
 exact wpAny_Return_some (thn (he pins s σ H _ I h) fun v s1 ⟨x,H1,I1,r1,q1⟩=>⟨x,σ,H1,I1,r1,q1⟩)
def tIfS (c:TT) (t u:TS):TS:=fun D σ H=>c σ H fun b H1=>if b=true then t D σ H1 else u D σ H1
theorem zatj {c:Expr}{a b:List Stmt}{tc:TT} (hc:PT X c tc) (ha:PSs X a t) (hb:PSs X b u):PS X (.If c a b pos) (tIfS tc t u):=by
 intro pins s σ H D I h
 refine wpAny_If (thn (hc pins s σ H _ I h) fun d s1 ⟨H1,I1,q1⟩=>?_)
 cases d with
 | true=>exact ha pins s1 σ H1 D I1 q1
 | false=>exact hb pins s1 σ H1 D I1 q1
def tNever:TS:=fun _ _ _=>False
theorem zanj:PS X st tNever:=fun _ _ _ _ _ _ h=>h.elim
end
abbrev TG:=V→St→Hp→(St→Hp→Prop)→Prop
abbrev TGs:=List V→St→Hp→(St→Hp→Prop)→Prop
def PG (X:Cx) (target:Expr) (t:TG):Prop :=
 ∀ (pins:List (Addr × Obj)) (s:Shared) (σ:St) (H:Hp) (v:V) (u:Value) (Q:St→Hp→Prop),Inv X pins σ H s→RelV v u→t v σ H Q →
  wpAny (model X.prog X.w) X.A (assign target X.env u) (fun _ s'=>∃ σ' H',Inv X pins σ' H' s'∧Q σ' H') X.xe s
def PGs (X:Cx) (ts:List Expr) (t:TGs):Prop :=
 ∀ (pins:List (Addr × Obj)) (s:Shared) (σ:St) (H:Hp) (vs:List V) (us:List Value) (Q:St→Hp→Prop),Inv X pins σ H s→Vals vs us→t vs σ H Q →
  wpAny (model X.prog X.w) X.A (assignInOrder ((assignEach ts X.env).map (·.2)) us) (fun _ s'=>∃ σ' H',Inv X pins σ' H' s'∧Q σ' H') X.xe s
abbrev TSet:=V→V→V→Hp→(Hp→Prop)→Prop
def PSet (X:Cx) (t:TSet):Prop :=
 ∀ (pins:List (Addr × Obj)) (s:Shared) (σ:St) (H:Hp) (o i v:V) (ov iv u:Value) (Q:Hp→Prop),Inv X pins σ H s→RelV o ov→RelV i iv→RelV v u→t o i v H Q →
  wpAny (model X.prog X.w) X.A (setItem ov iv u) (fun _ s'=>∃ H',Inv X pins σ H' s'∧Q H') X.xe s
section
variable {X:Cx}{pos:Pos}
def gName (i:Nat):TG:=fun v σ H Q=>Q (σ.set i (some v)) H
theorem zapl {i:Nat}{x:Str} (hN:X.N.Nodup) (hi:X.N[i]?=some x) (hx:Loc X.env.scope x) (hf:X.fn x=true∨X.env.scope.names.lookup x=some .local:=by first | exact .inl rfl | exact .inr rfl | assumption):PG X (.Name x pos) (gName i):=by
 intro pins s σ H v u Q I r h
 exact wpAny_assign_Name (zaem I hN hi hx r (fun s' I'=>⟨_,H,I',h⟩) hf)
def gNil:TGs:=fun vs σ H Q=>vs=[]∧Q σ H
def gCons (t:TG) (u:TGs):TGs:=fun vs σ H Q=>∃ v r,vs=v :: r∧t v σ H fun σ' H'=>u r σ' H' Q
theorem zapm:PGs X [] gNil:=by
 intro pins s σ H vs us Q I r h
 obtain ⟨e,h⟩:=h
 subst e
 cases r
 exact assignInOrder_nil ⟨σ,H,I,h⟩
theorem zank {e:Expr}{es:List Expr}{t:TG}{u:TGs} (h1:PG X e t) (h2:PGs X es u)
  (hs:(assignEach (e :: es) X.env).map (·.2)=assign e X.env :: (assignEach es X.env).map (·.2):=by rfl):PGs X (e :: es) (gCons t u):=by
 intro pins s σ H vs us Q I r h
 obtain ⟨v,vr,e1,h⟩:=h
 subst e1
 cases r with
 | cons r rr =>
  rw [hs]
  refine assignInOrder_cons (thn (h1 pins s σ H _ _ _ I r h) fun _ s1 ⟨σ1,H1,I1,q1⟩=>?_)
  exact h2 pins s1 σ1 H1 _ _ Q I1 rr q1
def gTup (K:PySem.W.Frag) (n:Nat) (t:TGs):TG:=fun v σ H Q=>∃ a xs,v=.ref a∧SqT K H a xs∧xs.length=n∧t xs σ H Q
theorem zaot {es:List Expr}{k:Nat}{t:TGs}{n:Nat} (hc:X.calm=true) (h:PGs X es t)
  (hn:(assignEach es X.env).length=n:=by rfl) (hst:(assignEach es X.env).findIdx? (·.1)=none:=by rfl):PG X (.Tuple es k pos) (gTup X.K n t):=by
 intro pins s σ H v u Q I r hw
 obtain ⟨a,xs,e1,hq,hl,hw⟩:=hw
 subst e1
 cases r
 obtain ⟨its,rv,ht,hz⟩:=I.tuple hq
 refine assign_Tuple_tuple (I.ok.hd hc) ht (by simp [hn,← hl,rv.length]) hst fun h' hx=>?_
 have I1:Inv X pins σ H { s with heap:=h' }:=I.kept (t':=s.toks) fun b o e=>hx b o (Nat.ne_of_lt (Heap.lt_size e)) e
 exact h pins _ σ H xs _ Q I1 (by simpa using rv) hw
def gSub (to ti:TE) (t:TSet):TG:=fun v σ H Q=>to σ H fun o H1=>ti σ H1 fun i H2=>t o i v H2 fun H3=>Q σ H3
theorem zarr {o i:Expr}{to ti:TE}{t:TSet} (ho:PE X o to) (hi:PE X i ti) (hs:PSet X t)
  (ha:∀ v,assign (.Subscript o i pos) X.env v=(do
   let ov ← holding [v] (eval o X.env)
   let iv ← holding [v,ov] (eval i X.env)
   standAt pos
   holding [v,ov,iv] (setItem ov iv v)
   release [v,ov,iv] []):=by intro _; rfl):PG X (.Subscript o i pos) (gSub to ti t):=by
 intro pins s σ H v u Q I r h
 rw [ha]
 refine wpAny_bind (wpAny_holding (thn (ho pins s σ H _ I h) fun ov s1 ⟨x,H1,I1,r1,q1⟩=>?_))
 refine wpAny_bind (wpAny_holding (thn (hi pins s1 σ H1 _ I1 q1) fun iv s2 ⟨y,H2,I2,r2,q2⟩=>?_))
 refine wpAny_bind (wpAny_standAt (wpAny_bind (wpAny_holding (thn (hs pins s2 σ H2 x y v ov iv u _ I2 r1 r2 r q2) fun _ s3 ⟨H3,I3,q3⟩=>?_))))
 exact wpAny_release ⟨σ,H3,I3,q3⟩
def tAsg (te:TE) (g:TG):TS:=fun D σ H=>te σ H fun x H1=>g x σ H1 D.nx
theorem zars {tg e:Expr}{te:TE}{g:TG} (he:PE X e te) (hg:PG X tg g) (hs:swapsWithSole [tg] e pos.line X.env=pure false:=by rfl) (hw:swappedStores [tg] e X.env=pure none:=by rfl)
  (h1:(assignEach [tg] X.env).map (·.2)=[assign tg X.env]:=by rfl):PS X (.Assign [tg] e pos) (tAsg te g):=by
 intro pins s σ H D I h
 refine wpAny_Assign_stores (thn (he pins s σ H _ I h) fun v s1 ⟨x,H1,I1,r1,q1⟩=>?_) hs hw
 rw [h1]
 exact thn (hg pins s1 σ H1 x v _ I1 r1 q1) fun _ s2 q=>q
theorem zart {i:Nat}{x:Str}{e:Expr}{te:TE}{pos':Pos} (hN:X.N.Nodup) (hi:X.N[i]?=some x) (hx:Loc X.env.scope x) (he:PE X e te) (hs:swapsWith e (some (.Name x pos')) pos.line X.env=pure false:=by rfl) (hf:X.fn x=true∨X.env.scope.names.lookup x=some .local:=by first | exact .inl rfl | exact .inr rfl | assumption) :
  PS X (.Assign [.Name x pos'] e pos) (tAsg te (gName i)):=by
 intro pins s σ H D I h
 refine wpAny_Assign_Name (thn (he pins s σ H _ I h) fun v s1 ⟨y,H1,I1,r1,q1⟩=>?_) hs
 exact zaem I1 hN hi hx r1 (fun s2 I2=>⟨_,H1,I2,q1⟩) hf
def tPar (i j:Nat) (ta:TA):TS:=fun D σ H=>ta σ H fun vs H1=>∃ v w,vs=[v,w]∧D.nx ((σ.set i (some v)).set j (some w)) H1
theorem zaru {i j:Nat}{x y:Str}{a b:Expr}{ta:TA}{px py pt:Pos}{kt k2 pt2} (hc:X.calm=true) (hN:X.N.Nodup) (hi:X.N[i]?=some x) (hj:X.N[j]?=some y) (hij:i≠j)
  (hx:X.env.scope.names.lookup x=some .local) (hy:X.env.scope.names.lookup y=some .local) (ha:PA X [a,b] ta)
  (hw:swappedStores [.Tuple [.Name x px,.Name y py] kt pt] (.Tuple [a,b] k2 pt2) X.env=pure (some [x,y]))
  (hs:swapsWithSole [.Tuple [.Name x px,.Name y py] kt pt] (.Tuple [a,b] k2 pt2) pos.line X.env=pure false:=by rfl) :
  PS X (.Assign [.Tuple [.Name x px,.Name y py] kt pt] (.Tuple [a,b] k2 pt2) pos) (tPar i j ta):=by
 intro pins s σ H D I h
 rw [exec_Assign_arm]
 refine wpAny_bind (wpAny_standAt ?_)
 rw [hs]
 refine wpAny_bind (wpAny_pure ?_)
 rw [if_neg (by decide)]
 refine wpAny_bind (Tuple_ (thn (ha _ pins s σ H _ I h) fun us s1 ⟨vs,H1,I1,r1,q1⟩=>?_))
 obtain ⟨v,w,e1,q1⟩:=q1
 subst e1
 obtain ⟨u1,u2,rfl,rv,rw'⟩:∃ u1 u2,us=[u1,u2]∧RelV v u1∧RelV w u2:=by
  cases r1 with
  | cons p q =>
   cases q with
   | cons p' q' =>
    cases q'
    exact ⟨_,_,rfl,p,p'⟩
 refine wpAny_newObj_type ?_ (by show 2≤sizeLine; decide)
 have I2:Inv X pins σ H1 { s1 with heap:=s1.heap.push { cls:=.type "tuple",data:=.seq [u1,u2].toArray } }:=I1.kept (t':=s1.toks) fun b o e=>Heap.get?_push_of_some _ e
 rw [hw]
 refine wpAny_bind (wpAny_pure ?_)
 show wpAny (model X.prog X.w) X.A (do rule "assign.swapped-stores"; let items ← unpackItems (.ref s1.heap.objs.size) 2 none; assignInOrder [fun v=>bindName X.env y v,fun v=>bindName X.env x v] items.reverse; pure Flow.next) _ _ _
 refine wpAny_bind (wpAny_rule (wpAny_bind (unpackItems_tuple (items:=#[u1,u2]) (I.ok.hd hc) (IsTup.new s1.heap _) fun h' hx'=>?_)))
 have I3:=I2.kept (h':=h') (t':=s1.toks) fun b o e=>hx' b o (Nat.ne_of_lt (Heap.lt_size e)) e
 show wpAny _ _ (assignInOrder [fun v=>bindName X.env y v,fun v=>bindName X.env x v] [u2,u1] >>= fun _=>pure Flow.next) _ _ _
 refine wpAny_bind (assignInOrder_cons (wpAny_bindName (zaem I3 hN hj (.inl hy) rw' (fun s2 I4=>?_) (.inr hy))))
 refine assignInOrder_cons (wpAny_bindName (zaem I4 hN hi (.inl hx) rv (fun s3 I5=>assignInOrder_nil (wpAny_pure ?_)) (.inr hx)))
 rw [List.set_comm _ _ (Ne.symm hij)] at I5
 exact ⟨_,H1,I5,q1⟩
def tWhile (c:TT) (tb:TS):TS:=fun D σ H=>∃ W:Nat→St→Hp→Prop,(∃ m,W m σ H)∧∀ m σ H,W m σ H →
 c σ H fun b H1=>if b=true then ∃ N:St→Hp→Prop,(∀ σ' H',N σ' H'→∃ m',m' < m∧W m' σ' H')∧tb { D with nx:=N,ct:=N,bk:=D.nx } σ H1 else D.nx σ H1
theorem zanl {c:Expr}{body:List Stmt}{tc:TT}{tb:TS} (hp:PassesOwn (model X.prog X.w) X.A X.env X.xe) (hc:PT X c tc) (hb:PSs X body tb):PS X (.While c body [] pos) (tWhile tc tb):=by
 intro pins s σ H D I h
 obtain ⟨W,⟨m0,w0⟩,turn⟩:=h
 refine wpAny_While (codeAny_whileLoop (fun n s'=>∃ σ' H',Inv X pins σ' H' s'∧W n σ' H') ?_ m0 ⟨σ,H,I,w0⟩)
 rintro n s1 ⟨σ1,H1,I1,w1⟩
 refine wpAny_passesOwn hp (thn (hc pins s1 σ1 H1 _ I1 (turn n σ1 H1 w1)) fun b s2 ⟨H2,I2,q2⟩=>?_)
 cases b with
 | true =>
  obtain ⟨N,hN,q2⟩:=q2
  rw [if_pos rfl]
  refine wpAny_passesOwn hp (thn (hb pins s2 σ1 H2 _ I2 q2) fun f s3 q3=>?_)
  cases f with
  | next =>
   obtain ⟨σ3,H3,I3,n3⟩:=q3
   obtain ⟨m',hm,w3⟩:=hN σ3 H3 n3
   exact ⟨m',hm,σ3,H3,I3,w3⟩
  | cont =>
   obtain ⟨σ3,H3,I3,n3⟩:=q3
   obtain ⟨m',hm,w3⟩:=hN σ3 H3 n3
   exact ⟨m',hm,σ3,H3,I3,w3⟩
  | brk=>exact q3
  | ret v=>exact q3
 | false =>
  rw [if_neg Bool.false_ne_true]
  exact wpAny_execs_nil ⟨σ1,H2,I2,q2⟩
end
structure It where
 go:Nat→Hp→Prop
 yld:Nat→Hp→V→Hp→Prop
 stop:Nat→Hp→Prop
def FpOk (X:Cx) (pins:List (Addr × Obj)) (H:Hp) (b:Addr):Prop :=
 H b=none∧b≠X.env.locals∧b ∉ X.fs∧(b∈X.ex∨X.s₀.heap.objs.size≤b)∧(∀ x c,X.env.cells.lookup x=some c→c≠b)∧∀ p∈X.pn++pins,p.1≠b
theorem Inv.fpOk {X:Cx}{pins:List (Addr × Obj)}{σ:St}{H H':Hp}{s:Shared}{b:Addr} (I:Inv X pins σ H s) (hb:s.heap.objs.size≤b) (hn:H' b=none):FpOk X pins H' b:=by
 refine ⟨hn,Nat.ne_of_gt (Nat.lt_of_lt_of_le I.lt hb),I.nofs hb,.inr (Nat.le_trans I.sz hb),fun x c e z=>?_,fun p hp z=>?_⟩
 ·obtain ⟨v,q⟩:=I.cell x c e
  exact absurd (Nat.lt_of_lt_of_le q.lt (by rw [z]; exact hb)) (Nat.lt_irrefl _)
 ·exact absurd (Nat.lt_of_lt_of_le (Heap.lt_size (I.pin p hp).1) (by rw [z]; exact hb)) (Nat.lt_irrefl _)
structure Turn (P:Program) (w:World) (K:PySem.W.Frag) (tg:Expr) (J:It) (fp:List Addr) (it:Addr) (tn:Nat→Heap→Prop):Prop where
 mem:it∈fp
 obj:∀ i h,tn i h→∀ b∈fp,∃ o,h.get? b=some o∧∀ v,o.data≠.cell v
 keep:∀ i h h',tn i h→(∀ b∈fp,∀ o,h.get? b=some o→h'.get? b=some o)→tn i h'
 item:∀ (X:Cx),X.prog=P→X.w=w→X.K=K→X.calm=true→∀ (i:Nat) (pins:List (Addr × Obj)) (s:Shared) (σ:St) (H:Hp) (E:Value→Shared→Prop),Inv X pins σ H s→(∀ b∈fp,FpOk X pins H b)→tn i s.heap→J.go i H →
  wpAny (model P w) X.A (pyNext (.ref it)) (fun r s1=>∃ u,r=some u ∧
   wpAny (model P w) X.A (letOwnedTupleGo tg (.ref it) u) (fun _ s2=>∃ x H',Inv X pins σ H' s2∧RelV x u∧J.yld i H x H'∧tn (i + 1) s2.heap∧∀ b∈fp,H' b=none) E s1) E s
 done:∀ (X:Cx),X.prog=P→X.w=w→X.K=K→X.calm=true→∀ (i:Nat) (pins:List (Addr × Obj)) (s:Shared) (σ:St) (H:Hp) (E:Value→Shared→Prop),Inv X pins σ H s→(∀ b∈fp,FpOk X pins H b)→tn i s.heap→J.stop i H →
  wpAny (model P w) X.A (pyNext (.ref it)) (fun r s1=>r=none∧Inv X pins σ H s1) E s
 self:∀ (A:Around) (i:Nat) (s:Shared) (Q:Value→Shared→Prop) (E:Value→Shared→Prop),tn i s.heap→Q (.ref it) s→wpAny (model P w) A (pyIter (.ref it)) Q E s
abbrev TI:=St→Hp→(It→Hp→Prop)→Prop
def PIE (X:Cx) (pins:List (Addr × Obj)) (σ:St) (tg:Expr) (R:It→Hp→Prop) (itv:Value) (s2:Shared):Prop :=
 ∃ (it:Addr) (fp:List Addr) (tn:Nat→Heap→Prop) (J:It) (H':Hp),itv=.ref it∧Inv X pins σ H' s2∧Turn X.prog X.w X.K tg J fp it tn∧tn 0 s2.heap∧(∀ b∈fp,FpOk X pins H' b)∧R J H'
def PI (X:Cx) (tg iter:Expr) (wi:TI):Prop :=
 ∀ (pins:List (Addr × Obj)) (s:Shared) (σ:St) (H:Hp) (R:It→Hp→Prop),Inv X pins σ H s→wi σ H R →
  wpAny (model X.prog X.w) X.A (eval iter X.env) (fun v s1=>wpAny (model X.prog X.w) X.A (pyIter v) (PIE X pins σ tg R) X.xe s1) X.xe s
theorem zanm {M:Model}{A:Around}{E:Value→Shared→Prop}{s:Shared}{tg:Expr}{it:Addr}{u:Value}{o:Obj}{n:String}{vs:Array Value}{Q:Unit→Shared→Prop} (ho:s.heap.get? it=some o) (hc:o.cls=.type n) (hd:o.data=.fields vs)
  (hn:["enumerate", "zip", "dict_itemiterator", "dict_reverseitemiterator", "odict_iterator", "itertools.zip_longest", "itertools.pairwise"].contains n=false) (hQ:Q () s):wpAny M A (letOwnedTupleGo tg (.ref it) u) Q E s:=by
 unfold letOwnedTupleGo
 cases tg <;> first
  | exact wpAny_pure hQ
  | (cases u <;> first
    | exact wpAny_pure hQ
    | (refine wpAny_bind (wpAny_load ho ?_)
       rw [hc,hd]
       show wpAny M A (if (["enumerate", "zip", "dict_itemiterator", "dict_reverseitemiterator", "odict_iterator", "itertools.zip_longest", "itertools.pairwise"].contains n && vs[0]? == some (rawInt _))=true then _ else _) Q E s
       rw [if_neg (by intro h; rw [hn,Bool.false_and] at h; cases h)]
       exact wpAny_pure hQ))
def Itl (K:PySem.W.Frag) (a:Addr):It :=
 ⟨fun i H=>∃ xs x,SqL K H a xs∧xs[i]?=some x,fun i H x H'=>H'=H∧∀ xs,SqL K H a xs→xs[i]?=some x,fun i H=>∃ xs,SqL K H a xs∧xs.length≤i⟩
def Itt (K:PySem.W.Frag) (a:Addr):It :=
 ⟨fun i H=>∃ xs x,SqT K H a xs∧xs[i]?=some x,fun i H x H'=>H'=H∧∀ xs,SqT K H a xs→xs[i]?=some x,fun i H=>∃ xs,SqT K H a xs∧xs.length≤i⟩
def Itr (lo:Int) (n:Nat):It:=⟨fun i _=>i < n,fun i H x H'=>H'=H∧x=.int (lo + i),fun i _=>n≤i⟩
theorem zakc {P:Program}{w:World}{K:PySem.W.Frag}{tg:Expr} (a it:Addr):Turn P w K tg (Itl K a) [it] it (fun i h=>h.IsListIter it a i) where
 mem:=by simp
 obj:=fun i h st b hb=>by
  have e:b=it:=by simpa using hb
  subst e
  obtain ⟨o,e,c,d⟩:=st
  exact ⟨o,e,fun v z=>by rw [d] at z; cases z⟩
 keep:=fun i h h' st k=>st.at fun o e=>k it (by simp) o e
 item:=by
  intro X hP hw hK hc i pins s σ H E I hf st hg
  subst hP hw hK
  obtain ⟨xs,x,hq,hx⟩:=hg
  obtain ⟨its,rv,p,hz⟩:=I.list hq
  obtain ⟨u,hu,ru⟩:=rv.get hx
  obtain ⟨f0,f1,f2,f3,f4,f5⟩:=hf it (by simp)
  refine wpAny_pyNext_list_item st p.isList (x:=u) (by simpa using hu) fun h' st' sb=>?_
  have I1:Inv X pins σ H { s with heap:=h' }:=I.turned (t':=s.toks) (fun b o hb e=>(sb.2 b hb).trans e) f0 f1 f3 f4 f5
  obtain ⟨o,e,c,d⟩:=id st'
  exact ⟨u,rfl,zanm (s:={ s with heap:=h' }) e c d (by decide) ⟨x,H,I1,ru,⟨rfl,fun ys hy=>by rw [I.list_inj hy hq]; exact hx⟩,st',fun b hb=>(hf b hb).1⟩⟩
 done:=by
  intro X hP hw hK hc i pins s σ H E I hf st hg
  subst hP hw hK
  obtain ⟨xs,hq,hx⟩:=hg
  obtain ⟨its,rv,p,hz⟩:=I.list hq
  obtain ⟨f0,f1,f2,f3,f4,f5⟩:=hf it (by simp)
  have hl:=rv.length
  exact wpAny_pyNext_list_end (I.ok.hd hc) st p.isList (by simp; omega) fun h' eb=>⟨rfl,I.turned (t':=s.toks) (fun b o hb e=>eb b o hb e) f0 f1 f3 f4 f5⟩
 self:=fun _ _ _ _ _ st h=>wpAny_pyIter_listiter st h
theorem zajq {P:Program}{w:World}{K:PySem.W.Frag}{tg:Expr} (a it:Addr):Turn P w K tg (Itt K a) [it] it (fun i h=>h.IsTupleIter it a i) where
 mem:=by simp
 obj:=fun i h st b hb=>by
  have e:b=it:=by simpa using hb
  subst e
  obtain ⟨o,e,c,d⟩:=st
  exact ⟨o,e,fun v z=>by rw [d] at z; cases z⟩
 keep:=fun i h h' st k=>st.at fun o e=>k it (by simp) o e
 item:=by
  intro X hP hw hK hc i pins s σ H E I hf st hg
  subst hP hw hK
  obtain ⟨xs,x,hq,hx⟩:=hg
  obtain ⟨its,rv,p,hz⟩:=I.tuple hq
  obtain ⟨u,hu,ru⟩:=rv.get hx
  obtain ⟨f0,f1,f2,f3,f4,f5⟩:=hf it (by simp)
  refine wpAny_pyNext_tuple_item st (show s.heap.IsTuple a its.toArray from p) (x:=u) (by simpa using hu) fun h' st' sb=>?_
  have I1:Inv X pins σ H { s with heap:=h' }:=I.turned (t':=s.toks) (fun b o hb e=>(sb.2 b hb).trans e) f0 f1 f3 f4 f5
  obtain ⟨o,e,c,d⟩:=id st'
  exact ⟨u,rfl,zanm (s:={ s with heap:=h' }) e c d (by decide) ⟨x,H,I1,ru,⟨rfl,fun ys hy=>by rw [I.tuple_inj hy hq]; exact hx⟩,st',fun b hb=>(hf b hb).1⟩⟩
 done:=by
  intro X hP hw hK hc i pins s σ H E I hf st hg
  subst hP hw hK
  obtain ⟨xs,hq,hx⟩:=hg
  obtain ⟨its,rv,p,hz⟩:=I.tuple hq
  obtain ⟨f0,f1,f2,f3,f4,f5⟩:=hf it (by simp)
  have hl:=rv.length
  exact wpAny_pyNext_tuple_end (I.ok.hd hc) st (show s.heap.IsTuple a its.toArray from p) (by simp; omega) fun h' eb=>⟨rfl,I.turned (t':=s.toks) (fun b o hb e=>eb b o hb e) f0 f1 f3 f4 f5⟩
 self:=fun _ _ _ _ _ st h=>wpAny_pyIter_tupleiter st h
theorem zajr {P:Program}{w:World}{K:PySem.W.Frag}{tg:Expr} (it:Addr) (lo:Int) (n:Nat):Turn P w K tg (Itr lo n) [it] it (fun i h=>IsRangeIter h it (lo + (i:Nat) * 1) ((n:Int) - (i:Nat)) 1) where
 mem:=by simp
 obj:=fun i h st b hb=>by
  have e:b=it:=by simpa using hb
  subst e
  exact ⟨_,st,fun v z=>by
   have z':Data.fields _=Data.cell v:=z
   cases z'⟩
 keep:=fun i h h' st k=>k it (by simp) _ st
 item:=by
  intro X hP hw hK hc i pins s σ H E I hf st hg
  subst hP hw hK
  obtain ⟨f0,f1,f2,f3,f4,f5⟩:=hf it (by simp)
  have W:=Walks.range (prog:=X.prog) (w:=X.w) (I.ok.hd hc) it lo 1 n
  refine W.item i s _ _ hg st fun v h' tk hv st' kk=>?_
  obtain ⟨t,rfl⟩:=hv
  have I1:Inv X pins σ H { s with heap:=h',toks:=tk }:=I.turned (fun b o hb e=>kk b o (by simpa using hb) e) f0 f1 f3 f4 f5
  refine ⟨_,rfl,zanm (s:={ s with heap:=h',toks:=tk }) (n := "range_iterator") st' rfl rfl (by decide) ⟨.int (lo + i),H,I1,⟨t,?_⟩,⟨rfl,rfl⟩,st',fun b hb=>(hf b hb).1⟩⟩
  rw [Int.mul_one]
 done:=by
  intro X hP hw hK hc i pins s σ H E I hf st hg
  subst hP hw hK
  obtain ⟨f0,f1,f2,f3,f4,f5⟩:=hf it (by simp)
  exact wpAny_pyNext_range_end (I.ok.hd hc) st (by have:n≤i:=hg; omega) fun h' eb=>⟨rfl,I.turned (t':=s.toks) (fun b o hb e=>eb b o hb e) f0 f1 f3 f4 f5⟩
 self:=fun _ _ _ _ _ st h=>wpAny_pyIter_rangeiter st h
section
variable {X:Cx}{tg:Expr}
def iList (K:PySem.W.Frag) (tl:TE):TI:=fun σ H R=>tl σ H fun x H1=>∃ a,x=.ref a∧(∃ xs,SqL K H1 a xs)∧R (Itl K a) H1
def iTup (K:PySem.W.Frag) (tl:TE):TI:=fun σ H R=>tl σ H fun x H1=>∃ a,x=.ref a∧(∃ xs,SqT K H1 a xs)∧R (Itt K a) H1
theorem zapn {l:Expr}{tl:TE} (hl:PE X l tl):PI X tg l (iList X.K tl):=by
 intro pins s σ H R I h
 refine thn (hl pins s σ H _ I h) fun v s1 ⟨x,H1,I1,r1,q1⟩=>?_
 obtain ⟨a,e,⟨xs,hq⟩,q⟩:=q1
 subst e
 cases r1
 obtain ⟨its,rv,p,hz⟩:=I1.list hq
 refine wpAny_pyIter_list p.isList ?_
 refine ⟨s1.heap.objs.size,[s1.heap.objs.size],_,_,H1,rfl,I1.kept (t':=s1.toks) fun b o e=>Heap.get?_push_of_some _ e,zakc a _,⟨_,Heap.get?_push_size _ rfl,rfl,rfl⟩,fun b hb=>?_,q⟩
 have e:b=s1.heap.objs.size:=by simpa using hb
 subst e
 exact I1.fpOk (Nat.le_refl _) (I1.hok.fresh (Nat.le_refl _))
theorem zarv {l:Expr}{tl:TE} (hl:PE X l tl):PI X tg l (iTup X.K tl):=by
 intro pins s σ H R I h
 refine thn (hl pins s σ H _ I h) fun v s1 ⟨x,H1,I1,r1,q1⟩=>?_
 obtain ⟨a,e,⟨xs,hq⟩,q⟩:=q1
 subst e
 cases r1
 obtain ⟨its,rv,p,hz⟩:=I1.tuple hq
 refine wpAny_pyIter_tuple (show s1.heap.IsTuple a its.toArray from p) ?_
 refine ⟨s1.heap.objs.size,[s1.heap.objs.size],_,_,H1,rfl,I1.kept (t':=s1.toks) fun b o e=>Heap.get?_push_of_some _ e,zajq a _,⟨_,Heap.get?_push_size _ rfl,rfl,rfl⟩,fun b hb=>?_,q⟩
 have e:b=s1.heap.objs.size:=by simpa using hb
 subst e
 exact I1.fpOk (Nat.le_refl _) (I1.hok.fresh (Nat.le_refl _))
theorem zai3 {pins:List (Addr × Obj)}{σ:St}{H:Hp}{s:Shared}{R:It→Hp→Prop}{E:Value→Shared→Prop}{lo hi:Int}{t u v:Tok}{tk:Nat} (I:Inv X pins σ H s) (h1:-(2 ^ 62)≤lo) (h2:lo < 2 ^ 62) (h3:-(2 ^ 62)≤hi) (h4:hi < 2 ^ 62)
  (q:R (Itr lo (hi - lo).toNat) H):wpAny (model X.prog X.w) X.A (pyIter (.ref s.heap.objs.size)) (PIE X pins σ tg R) E { s with heap:=s.heap.push { cls:=.type "range",data:=.fields #[.int lo t,.int hi u,.int 1 v] },toks:=tk }:=by
 refine wpAny_pyIter_range (IsRange.new ..) (small_one h1 h2 h3 h4) ?_
 have I1:Inv X pins σ H { s with heap:=s.heap.push { cls:=.type "range",data:=.fields #[.int lo t,.int hi u,.int 1 v] },toks:=tk }:=I.kept fun b o e=>Heap.get?_push_of_some _ e
 refine ⟨(s.heap.push { cls:=.type "range",data:=.fields #[.int lo t,.int hi u,.int 1 v] }).objs.size,[(s.heap.push { cls:=.type "range",data:=.fields #[.int lo t,.int hi u,.int 1 v] }).objs.size],_,_,H,rfl,
  I1.kept (t':=tk) fun b o e=>Heap.get?_push_of_some _ e,zajr _ lo (hi - lo).toNat,?_,fun b hb=>?_,q⟩
 ·have e1:lo + ((0:Nat):Int) * 1=lo:=by simp
  have e2:(((hi - lo).toNat:Nat):Int) - ((0:Nat):Int)=Builtin.Range.rangeSize lo hi 1:=by rw [rangeSize_one]; split <;> omega
  show IsRangeIter _ _ (lo + ((0:Nat):Int) * 1) ((((hi - lo).toNat:Nat):Int) - ((0:Nat):Int)) 1
  rw [e1,e2]
  exact Heap.get?_push_size _ rfl
 ·have e:b=(s.heap.push { cls:=.type "range",data:=.fields #[.int lo t,.int hi u,.int 1 v] }).objs.size:=by simpa using hb
  subst e
  exact I1.fpOk (Nat.le_refl _) (I1.hok.fresh (Nat.le_refl _))
def iRng1 (ta:TA):TI:=fun σ H R=>ta σ H fun vs H1=>∃ j:Int,vs=[.int j]∧-(2 ^ 62)≤j∧j < 2 ^ 62∧R (Itr 0 j.toNat) H1
def iRng2 (ta:TA):TI:=fun σ H R=>ta σ H fun vs H1=>∃ i j:Int,vs=[.int i,.int j]∧(-(2 ^ 62)≤i∧i < 2 ^ 62∧-(2 ^ 62)≤j∧j < 2 ^ 62)∧R (Itr i (j - i).toNat) H1
theorem zakd {a:Expr}{ta:TA}{p pos:Pos} (hg:Gl X "range") (hm:X.mg "range" = none) (ha:PA X [a] ta) (hs:starEach [a] X.env=[(false,eval a X.env)]:=by rfl):PI X tg (.Call (.Name "range" p) [a] [] pos) (iRng1 ta):=by
 intro pins s σ H R I h
 refine Call_ (zadp I hg hm boot_range (PyProof.Rows.callWith_type1 (thn (ha pos pins s σ H _ I h) fun us s1 ⟨vs,H1,I1,r1,q1⟩=>?_) hs rfl))
 obtain ⟨j,e,q1,q2,q⟩:=q1
 subst e
 cases r1 with
 | cons r rr =>
  cases rr
  obtain ⟨t,rfl⟩:=r
  exact call_range_1 (zai3 I1 (by omega) (by omega) q1 q2 (by simpa using q))
theorem zake {a b:Expr}{ta:TA}{p pos:Pos} (hg:Gl X "range") (hm:X.mg "range" = none) (ha:PA X [a,b] ta) (hs:starEach [a,b] X.env=[(false,eval a X.env),(false,eval b X.env)]:=by rfl) (hs2:starEach [b] X.env=[(false,eval b X.env)]:=by rfl) :
  PI X tg (.Call (.Name "range" p) [a,b] [] pos) (iRng2 ta):=by
 intro pins s σ H R I h
 refine Call_ (zadp I hg hm boot_range (PyProof.Rows.callWith_type1 (thn (ha pos pins s σ H _ I h) fun us s1 ⟨vs,H1,I1,r1,q1⟩=>?_) (by rw [hs,hs2]) (by rw [hs2]; rfl)))
 obtain ⟨i,j,e,⟨q1,q2,q3,q4⟩,q⟩:=q1
 subst e
 cases r1 with
 | cons r rr =>
  cases rr with
  | cons r' rr =>
   cases rr
   obtain ⟨t,rfl⟩:=r
   obtain ⟨t',rfl⟩:=r'
   exact call_range_2 (zai3 I1 q1 q2 q3 q4 q)
def tFor (wi:TI) (g:TG) (tb:TS):TS:=fun D σ H=>wi σ H fun J H1=>∃ W:Nat→Nat→St→Hp→Prop,(∃ m,W 0 m σ H1)∧∀ i m σ H,W i m σ H →
 (J.stop i H∧D.nx σ H)∨(J.go i H∧∃ N:St→Hp→Prop,(∀ σ' H',N σ' H'→∃ m',m' < m∧W (i + 1) m' σ' H')∧∀ x H',J.yld i H x H'→g x σ H' fun σ2 H2=>tb { D with nx:=N,ct:=N,bk:=D.nx } σ2 H2)
def pinsAt (fp:List Addr) (h:Heap):List (Addr × Obj):=fp.filterMap fun b=>(h.get? b).map fun o=>(b,o)
theorem zadh {fp:List Addr}{h:Heap}{b:Addr}{o:Obj} (hb:b∈fp) (e:h.get? b=some o):(b,o)∈pinsAt fp h:=List.mem_filterMap.mpr ⟨b,hb,by rw [e]; rfl⟩
theorem zag3 {fp:List Addr}{h:Heap}{p:Addr × Obj} (hp:p∈pinsAt fp h):p.1∈fp∧h.get? p.1=some p.2:=by
 obtain ⟨b,hb,e⟩:=List.mem_filterMap.mp hp
 cases q:h.get? b with
 | none=>rw [q] at e; cases e
 | some o =>
  rw [q] at e
  have e':(b,o)=p:=Option.some.inj e
  subst e'
  exact ⟨hb,q⟩
theorem Inv.pinned {pins:List (Addr × Obj)}{σ:St}{H:Hp}{s:Shared}{fp:List Addr} (I:Inv X pins σ H s) (hf:∀ b∈fp,FpOk X pins H b) (ho:∀ b∈fp,∃ o,s.heap.get? b=some o∧∀ v,o.data≠.cell v):Inv X (pins++pinsAt fp s.heap) σ H s :=
 I.pins_of fun p hp=>(List.mem_append.mp hp).elim (fun z=>I.pin p (List.mem_append_right _ z)) fun z=>by
  obtain ⟨hb,e⟩:=zag3 z
  obtain ⟨f0,f1,f2,_⟩:=hf p.1 hb
  obtain ⟨o,e',d⟩:=ho p.1 hb
  rw [e] at e'; cases e'
  exact ⟨e,f0,f1,f2,d⟩
theorem Inv.unpinned {pins pl:List (Addr × Obj)}{σ:St}{H:Hp}{s:Shared} (I:Inv X (pins++pl) σ H s):Inv X pins σ H s:=I.pins_of fun p hp=>I.pin p (List.mem_append_right _ (List.mem_append_left _ hp))
theorem zarw {iter:Expr}{body:List Stmt}{wi:TI}{g:TG}{tb:TS}{pos:Pos} (hp:PassesOwn (model X.prog X.w) X.A X.env X.xe) (hc:X.calm=true) (hi:PI X tg iter wi) (hg:PG X tg g) (hb:PSs X body tb)
  (hs:∀ x,foldedSetIterable iter X.env x=pure x:=by intro _; rfl):PS X (.For tg iter body [] pos) (tFor wi g tb):=by
 intro pins s σ H D I h
 refine wpAny_For (thn (hi pins s σ H _ I h) fun v s1 h1=>thn h1 fun itv s2 h2=>?_) hs
 obtain ⟨it,fp,tn,J,H2,e,I2,T,st2,f2,W,⟨m0,w0⟩,turn⟩:=h2
 subst e
 have stat:∀ {H':Hp},(∀ b∈fp,H' b=none)→∀ b∈fp,FpOk X pins H' b:=fun hn b hb=>⟨hn b hb,(f2 b hb).2⟩
 refine codeAny_forLoop_any (fun n s'=>∃ i σ' H',Inv X pins σ' H' s'∧tn i s'.heap∧(∀ b∈fp,H' b=none)∧W i n σ' H') ?_ m0 ⟨0,σ,H2,I2,st2,fun b hb=>(f2 b hb).1,w0⟩
 rintro n s3 ⟨i,σ3,H3,I3,st3,fr3,w3⟩
 rcases turn i n σ3 H3 w3 with ⟨stop,qn⟩ | ⟨go,N,hN,step⟩
 ·refine wpAny_passesOwn hp (thn (T.done X rfl rfl rfl hc i pins s3 σ3 H3 X.xe I3 (stat fr3) st3 stop) fun r s4 ⟨hr,I4⟩=>?_)
  subst hr
  exact wpAny_execs_nil ⟨σ3,H3,I4,qn⟩
 ·refine wpAny_passesOwn hp (thn (T.item X rfl rfl rfl hc i pins s3 σ3 H3 X.xe I3 (stat fr3) st3 go) fun r s4 ⟨u,hr,h4⟩=>?_)
  subst hr
  refine wpAny_passesOwn hp (thn h4 fun _ s5 ⟨x,H5,I5,r5,y5,st5,fr5⟩=>?_)
  have I5':=I5.pinned (stat fr5) (T.obj _ _ st5)
  refine wpAny_passesOwn hp (thn (hg _ s5 σ3 H5 x u _ I5' r5 (step x H5 y5)) fun _ s6 ⟨σ6,H6,I6,q6⟩=>?_)
  refine wpAny_passesOwn hp (thn (hb _ s6 σ6 H6 _ I6 q6) fun f s7 q7=>?_)
  have again:∀ {σ7:St}{H7:Hp},Inv X (pins++pinsAt fp s5.heap) σ7 H7 s7→N σ7 H7→∃ m,m < n∧∃ i σ' H',Inv X pins σ' H' s7∧tn i s7.heap∧(∀ b∈fp,H' b=none)∧W i m σ' H':=fun {σ7 H7} I7 n7=>by
   obtain ⟨m',hm,w7⟩:=hN σ7 H7 n7
   refine ⟨m',hm,i + 1,σ7,H7,I7.unpinned,T.keep _ _ _ st5 fun b hb o e=>(I7.pin (b,o) (List.mem_append_right _ (List.mem_append_right _ (zadh hb e)))).1,fun b hb=>?_,w7⟩
   obtain ⟨o,e,d⟩:=T.obj _ _ st5 b hb
   exact (I7.pin (b,o) (List.mem_append_right _ (List.mem_append_right _ (zadh hb e)))).2.1
  cases f with
  | next=>obtain ⟨σ7,H7,I7,n7⟩:=q7; exact again I7 n7
  | cont=>obtain ⟨σ7,H7,I7,n7⟩:=q7; exact again I7 n7
  | brk=>obtain ⟨σ7,H7,I7,q7⟩:=q7; exact ⟨σ7,H7,I7.unpinned,q7⟩
  | ret v=>obtain ⟨x7,σ7,H7,I7,r7,q7⟩:=q7; exact ⟨x7,σ7,H7,I7.unpinned,r7,q7⟩
end
theorem zann {K:PySem.W.Frag}{a:Addr}{xs:List V}{g:TG}{tb:TS}{D:Ends}{σ:St}{H:Hp} (Pv:Nat→St→Hp→Prop) (h0:Pv 0 σ H) (hl:∀ i σ H,i≤xs.length→Pv i σ H→SqL K H a xs)
  (hs:∀ i x σ H,xs[i]?=some x→Pv i σ H→g x σ H fun σ2 H2=>tb { D with nx:=Pv (i + 1),ct:=Pv (i + 1),bk:=D.nx } σ2 H2) (hd:∀ σ H,Pv xs.length σ H→D.nx σ H) :
  ∃ W:Nat→Nat→St→Hp→Prop,(∃ m,W 0 m σ H)∧∀ i m σ H,W i m σ H →
   ((Itl K a).stop i H∧D.nx σ H)∨((Itl K a).go i H∧∃ N:St→Hp→Prop,(∀ σ' H',N σ' H'→∃ m',m' < m∧W (i + 1) m' σ' H')∧∀ x H',(Itl K a).yld i H x H'→g x σ H' fun σ2 H2=>tb { D with nx:=N,ct:=N,bk:=D.nx } σ2 H2):=by
 refine ⟨fun i m σ H=>m=xs.length - i∧i≤xs.length∧Pv i σ H,⟨xs.length,by simp,Nat.zero_le _,h0⟩,?_⟩
 rintro i m σ H ⟨rfl,hi,p⟩
 have q:=hl i σ H hi p
 by_cases hlt:i < xs.length
 ·refine .inr ⟨⟨xs,xs[i],q,by simp [hlt]⟩,Pv (i + 1),fun σ' H' p'=>⟨xs.length - (i + 1),by omega,rfl,hlt,p'⟩,fun x H' y=>?_⟩
  obtain ⟨e,y⟩:=y
  subst e
  exact hs i x σ _ (y xs q) p
 ·have e:i=xs.length:=by omega
  subst e
  exact .inl ⟨⟨xs,q,Nat.le_refl _⟩,hd σ H p⟩
theorem zapo {K:PySem.W.Frag}{a:Addr}{xs:List V}{g:TG}{tb:TS}{D:Ends}{σ:St}{H:Hp} (Pv:Nat→St→Hp→Prop) (h0:Pv 0 σ H) (hl:∀ i σ H,i≤xs.length→Pv i σ H→SqT K H a xs)
  (hs:∀ i x σ H,xs[i]?=some x→Pv i σ H→g x σ H fun σ2 H2=>tb { D with nx:=Pv (i + 1),ct:=Pv (i + 1),bk:=D.nx } σ2 H2) (hd:∀ σ H,Pv xs.length σ H→D.nx σ H) :
  ∃ W:Nat→Nat→St→Hp→Prop,(∃ m,W 0 m σ H)∧∀ i m σ H,W i m σ H →
   ((Itt K a).stop i H∧D.nx σ H)∨((Itt K a).go i H∧∃ N:St→Hp→Prop,(∀ σ' H',N σ' H'→∃ m',m' < m∧W (i + 1) m' σ' H')∧∀ x H',(Itt K a).yld i H x H'→g x σ H' fun σ2 H2=>tb { D with nx:=N,ct:=N,bk:=D.nx } σ2 H2):=by
 refine ⟨fun i m σ H=>m=xs.length - i∧i≤xs.length∧Pv i σ H,⟨xs.length,by simp,Nat.zero_le _,h0⟩,?_⟩
 rintro i m σ H ⟨rfl,hi,p⟩
 have q:=hl i σ H hi p
 by_cases hlt:i < xs.length
 ·refine .inr ⟨⟨xs,xs[i],q,by simp [hlt]⟩,Pv (i + 1),fun σ' H' p'=>⟨xs.length - (i + 1),by omega,rfl,hlt,p'⟩,fun x H' y=>?_⟩
  obtain ⟨e,y⟩:=y
  subst e
  exact hs i x σ _ (y xs q) p
 ·have e:i=xs.length:=by omega
  subst e
  exact .inl ⟨⟨xs,q,Nat.le_refl _⟩,hd σ H p⟩
theorem zakf {lo:Int}{n:Nat}{g:TG}{tb:TS}{D:Ends}{σ:St}{H:Hp} (Pv:Nat→St→Hp→Prop) (h0:Pv 0 σ H)
  (hs:∀ i σ H,i < n→Pv i σ H→g (.int (lo + i)) σ H fun σ2 H2=>tb { D with nx:=Pv (i + 1),ct:=Pv (i + 1),bk:=D.nx } σ2 H2) (hd:∀ σ H,Pv n σ H→D.nx σ H) :
  ∃ W:Nat→Nat→St→Hp→Prop,(∃ m,W 0 m σ H)∧∀ i m σ H,W i m σ H →
   ((Itr lo n).stop i H∧D.nx σ H)∨((Itr lo n).go i H∧∃ N:St→Hp→Prop,(∀ σ' H',N σ' H'→∃ m',m' < m∧W (i + 1) m' σ' H')∧∀ x H',(Itr lo n).yld i H x H'→g x σ H' fun σ2 H2=>tb { D with nx:=N,ct:=N,bk:=D.nx } σ2 H2):=by
 refine ⟨fun i m σ H=>m=n - i∧i≤n∧Pv i σ H,⟨n,by simp,Nat.zero_le _,h0⟩,?_⟩
 rintro i m σ H ⟨rfl,hi,p⟩
 by_cases hlt:i < n
 ·refine .inr ⟨hlt,Pv (i + 1),fun σ' H' p'=>⟨n - (i + 1),by omega,rfl,hlt,p'⟩,fun x H' y=>?_⟩
  obtain ⟨e,y⟩:=y
  subst e y
  exact hs i σ _ hlt p
 ·have e:i=n:=by omega
  subst e
  exact .inl ⟨Nat.le_refl _,hd σ H p⟩
abbrev R2:=V→V→Hp→VK→Prop
def OpR (X:Cx) (f:Value→Value→Sem Value) (r:R2):Prop :=
 ∀ (pins:List (Addr × Obj)) (s:Shared) (σ:St) (H:Hp) (x y:V) (v u:Value) (Q:VK),Inv X pins σ H s→RelV x v→RelV y u→r x y H Q →
  wpAny (model X.prog X.w) X.A (f v u) (EP X pins σ Q) X.xe s
def UnR (X:Cx) (f:Value→Sem Value) (r:V→Hp→VK→Prop):Prop :=
 ∀ (pins:List (Addr × Obj)) (s:Shared) (σ:St) (H:Hp) (x:V) (v:Value) (Q:VK),Inv X pins σ H s→RelV x v→r x H Q →
  wpAny (model X.prog X.w) X.A (f v) (EP X pins σ Q) X.xe s
def CallR (X:Cx) (f:Value) (r:List V→Hp→VK→Prop):Prop :=
 ∀ (pins:List (Addr × Obj)) (s:Shared) (σ:St) (H:Hp) (xs:List V) (us:List Value) (Q:VK),Inv X pins σ H s→Vals xs us→r xs H Q →
  wpAny (model X.prog X.w) X.A (call f us) (EP X pins σ Q) X.xe s
def tOp (r:R2) (ta tb:TE):TE:=fun σ H Q=>ta σ H fun x H1=>tb σ H1 fun y H2=>r x y H2 Q
def tUn (r:V→Hp→VK→Prop) (ta:TE):TE:=fun σ H Q=>ta σ H fun x H1=>r x H1 Q
def rI (C:Int→Int→Prop) (g:Int→Int→V):R2:=fun x y H Q=>∃ i j,x=.int i∧y=.int j∧C i j∧Q (g i j) H
def rI0 (g:Int→Int→V):R2:=fun x y H Q=>∃ i j,x=.int i∧y=.int j∧Q (g i j) H
def rU (g:Int→V):V→Hp→VK→Prop:=fun x H Q=>∃ i,x=.int i∧Q (g i) H
section
variable {X:Cx}{a b c:Expr}{ta tb tc:TE}{pos:Pos}
theorem binT (ha:PE X a ta) (hb:PE X b tb) {pins:List (Addr × Obj)}{s:Shared}{σ:St}{H:Hp}{R:V→V→Hp→Prop} (I:Inv X pins σ H s)
  (h:ta σ H fun x H1=>tb σ H1 fun y H2=>R x y H2) {Q:Value→Shared→Prop}{f:Value→Value→Sem Value}
  (hf:∀ v u s2 x y H2,Inv X pins σ H2 s2→RelV x v→RelV y u→R x y H2→wpAny (model X.prog X.w) X.A (f v u) Q X.xe s2) :
  wpAny (model X.prog X.w) X.A (eval a X.env) (fun v s₁=>wpAny (model X.prog X.w) X.A (eval b X.env) (fun u s₂=>wpAny (model X.prog X.w) X.A (f v u) Q X.xe s₂) X.xe s₁) X.xe s:=by
 refine thn (ha pins s σ H _ I h) fun v s1 ⟨x,H1,I1,r1,q1⟩=>?_
 refine thn (hb pins s1 σ H1 _ I1 q1) fun u s2 ⟨y,H2,I2,r2,q2⟩=>?_
 exact hf v u s2 x y H2 I2 r1 r2 q2
theorem zatk {op:Operator}{r:R2} (ho:OpR X (binaryOp op) r) (ha:PE X a ta) (hb:PE X b tb):PE X (.BinOp a op b pos) (tOp r ta tb):=by
 intro pins s σ H Q I h
 exact wpAny_BinOp (binT ha hb I h fun v u s2 x y H2 I2 rx ry q=>ho pins s2 σ H2 x y v u Q I2 rx ry q)
theorem zatl {op:UnaryOp}{r:V→Hp→VK→Prop} (ho:UnR X (unaryOp op) r) (ha:PE X a ta):PE X (.UnaryOp op a pos) (tUn r ta):=by
 intro pins s σ H Q I h
 exact UnaryOp_ (thn (ha pins s σ H _ I h) fun v s1 ⟨x,H1,I1,r1,q1⟩=>ho pins s1 σ H1 x v Q I1 r1 q1)
theorem opI {f:Value→Value→Sem Value}{C:Int→Int→Prop}{g:Int→Int→Int}
  (rule:∀ (i j:Int) (t u:Tok) (s:Shared) (Q:Value→Shared→Prop) (E:Value→Shared→Prop),C i j→Q (.int (g i j) s.toks) { s with toks:=s.toks + 1 }→wpAny (model X.prog X.w) X.A (f (.int i t) (.int j u)) Q E s) :
  OpR X f (rI C fun i j=>.int (g i j)):=by
 intro pins s σ H x y v u Q I rx ry h
 obtain ⟨i,j,rfl,rfl,hc,q⟩:=h
 obtain ⟨t,rfl⟩:=rx
 obtain ⟨t',rfl⟩:=ry
 exact rule i j t t' s _ _ hc ⟨.int (g i j),H,I.tok _,⟨_,rfl⟩,q⟩
theorem opI0 {f:Value→Value→Sem Value}{g:Int→Int→Int}
  (rule:∀ (i j:Int) (t u:Tok) (s:Shared) (Q:Value→Shared→Prop) (E:Value→Shared→Prop),Q (.int (g i j) s.toks) { s with toks:=s.toks + 1 }→wpAny (model X.prog X.w) X.A (f (.int i t) (.int j u)) Q E s) :
  OpR X f (rI0 fun i j=>.int (g i j)):=by
 intro pins s σ H x y v u Q I rx ry h
 obtain ⟨i,j,rfl,rfl,q⟩:=h
 obtain ⟨t,rfl⟩:=rx
 obtain ⟨t',rfl⟩:=ry
 exact rule i j t t' s _ _ ⟨.int (g i j),H,I.tok _,⟨_,rfl⟩,q⟩
theorem opB0 {f:Value→Value→Sem Value}{g:Int→Int→Bool}
  (rule:∀ (i j:Int) (t u:Tok) (s:Shared) (Q:Value→Shared→Prop) (E:Value→Shared→Prop),Q (.bool (g i j)) s→wpAny (model X.prog X.w) X.A (f (.int i t) (.int j u)) Q E s) :
  OpR X f (rI0 fun i j=>.bl (g i j)):=by
 intro pins s σ H x y v u Q I rx ry h
 obtain ⟨i,j,rfl,rfl,q⟩:=h
 obtain ⟨t,rfl⟩:=rx
 obtain ⟨t',rfl⟩:=ry
 exact rule i j t t' s _ _ ⟨.bl (g i j),H,I,rfl,q⟩
def CMul (i j:Int):Prop:=(-(2 ^ 64) < i∧i < 2 ^ 64)∨(-(2 ^ 64) < j∧j < 2 ^ 64)
theorem CMul.ok {i j:Int} (h:CMul i j):IntMulOk i j:=by
 rcases h with ⟨h1,h2⟩ | ⟨h1,h2⟩
 ·exact .of_left (intBits_le_64 h1 h2)
 ·exact .of_right (intBits_le_64 h1 h2)
theorem zab2:OpR X (binaryOp .Add) (rI0 fun i j=>.int (i + j)):=opI0 fun _ _ _ _ _ _ _ q=>add_int q
theorem zac3:OpR X (binaryOp .Sub) (rI0 fun i j=>.int (i - j)):=opI0 fun _ _ _ _ _ _ _ q=>sub_int q
theorem zafv:OpR X (binaryOp .Mult) (rI CMul fun i j=>.int (i * j)):=opI fun _ _ _ _ _ _ _ hc q=>mul_int q hc.ok
theorem zaax:OpR X (binaryOp .Mod) (rI (fun _ j=>0 < j) fun i j=>.int (i % j)):=opI fun i j _ _ _ _ _ hc q=>by
 have h1:(0:Int) < j:=hc
 exact mod_int' (by omega) (by rw [Int.fmod_eq_emod_of_nonneg i (by omega)]; exact q)
theorem zakg:OpR X (binaryOp .BitAnd) (rI0 fun i j=>.int (Builtin.bitAnd i j)):=opI0 fun _ _ _ _ _ _ _ q=>and_int q
theorem zarx:OpR X (binaryOp .BitOr) (rI0 fun i j=>.int (Builtin.bitOr i j)):=opI0 fun _ _ _ _ _ _ _ q=>or_int q
theorem zakh:OpR X (binaryOp .BitXor) (rI0 fun i j=>.int (Builtin.bitXor i j)):=opI0 fun _ _ _ _ _ _ _ q=>xor_int q
theorem unI {f:Value→Sem Value}{g:Int→Int}
  (rule:∀ (i:Int) (t:Tok) (s:Shared) (Q:Value→Shared→Prop) (E:Value→Shared→Prop),Q (.int (g i) s.toks) { s with toks:=s.toks + 1 }→wpAny (model X.prog X.w) X.A (f (.int i t)) Q E s) :
  UnR X f (rU fun i=>.int (g i)):=by
 intro pins s σ H x v Q I rx h
 obtain ⟨i,rfl,q⟩:=h
 obtain ⟨t,rfl⟩:=rx
 exact rule i t s _ _ ⟨.int (g i),H,I.tok _,⟨_,rfl⟩,q⟩
theorem zary:UnR X (unaryOp .USub) (rU fun i=>.int (-i)):=unI fun _ _ _ _ _ q=>neg_int q
end
def scal:V→V→Bool
 | .non,.non=>true | .non,.int _=>true | .int _,.non=>true | .non,.bl _=>true | .bl _,.non=>true | .non,.str _=>true | .str _,.non=>true
 | .int _,.int _=>true | .bl _,.bl _=>true | .str _,.str _=>true | .byt _,.byt _=>true
 | .int _,.str _=>true | .str _,.int _=>true | .bl _,.str _=>true | .str _,.bl _=>true
 | _,_=>false
def rEq:R2:=fun x y H Q=>scal x y=true∧Q (.bl (decide (x=y))) H
def rNe:R2:=fun x y H Q=>scal x y=true∧Q (.bl (!decide (x=y))) H
theorem zaki {i j:Int}:decide (V.int i=V.int j)=(i == j):=by
 rw [Bool.eq_iff_iff]
 simp
theorem zaou {i j:Bool}:decide (V.bl i=V.bl j)=(i == j):=by
 rw [Bool.eq_iff_iff]
 simp
theorem zakj {i j:Str}:decide (V.str i=V.str j)=(i == j):=by
 rw [Bool.eq_iff_iff]
 simp
theorem zakk {i j:Array UInt8}:decide (V.byt i=V.byt j)=(i.toList == j.toList):=by
 rw [Bool.eq_iff_iff]
 cases i
 cases j
 simp
section
variable {X:Cx}{a b c:Expr}{ta tb tc:TE}{pos:Pos}
theorem zabj {pins:List (Addr × Obj)}{σ:St}{H:Hp}{s:Shared}{Q:VK}{k k':Bool} (I:Inv X pins σ H s) (q:Q (.bl k) H) (e:k=k'):EP X pins σ Q (.bool k') s:=by
 subst e
 exact ⟨.bl k,H,I,rfl,q⟩
theorem zabt:OpR X (compareOp .Eq) rEq:=by
 intro pins s σ H x y v u Q I rx ry h
 obtain ⟨hs,q⟩:=h
 cases x with
 | non =>
  cases rx
  cases y with
  | non=>cases ry; exact PySem.EqNone.eq_none_none (zabj I q (by simp))
  | bl j=>cases ry; exact PySem.EqNone.eq_none_bool (zabj I q (by simp))
  | int j=>obtain ⟨t',rfl⟩:=ry; exact PySem.EqNone.eq_none_int (zabj I q (by simp))
  | str j=>obtain ⟨t',rfl⟩:=ry; exact PySem.EqNone.eq_none_str (zabj I q (by simp))
  | _=>exact absurd (show false=true from hs) Bool.false_ne_true
 | bl i =>
  cases rx
  cases y with
  | non=>cases ry; exact PySem.EqNone.eq_bool_none (zabj I q (by simp))
  | bl j=>cases ry; exact eq_bool (zabj I q zaou)
  | str j=>obtain ⟨t',rfl⟩:=ry; exact PySem.EqMixed.eq_bool_str (zabj I q (by simp))
  | _=>exact absurd (show false=true from hs) Bool.false_ne_true
 | int i =>
  obtain ⟨t,rfl⟩:=rx
  cases y with
  | non=>cases ry; exact PySem.EqNone.eq_int_none (zabj I q (by simp))
  | int j=>obtain ⟨t',rfl⟩:=ry; exact eq_int (zabj I q zaki)
  | str j=>obtain ⟨t',rfl⟩:=ry; exact PySem.EqMixed.eq_int_str (zabj I q (by simp))
  | _=>exact absurd (show false=true from hs) Bool.false_ne_true
 | str i =>
  obtain ⟨t,rfl⟩:=rx
  cases y with
  | non=>cases ry; exact PySem.EqNone.eq_str_none (zabj I q (by simp))
  | bl j=>cases ry; exact PySem.EqMixed.eq_str_bool (zabj I q (by simp))
  | int j=>obtain ⟨t',rfl⟩:=ry; exact PySem.EqMixed.eq_str_int (zabj I q (by simp))
  | str j=>obtain ⟨t',rfl⟩:=ry; exact eq_str (zabj I q zakj)
  | _=>exact absurd (show false=true from hs) Bool.false_ne_true
 | byt i =>
  obtain ⟨t,rfl⟩:=rx
  cases y with
  | byt j=>obtain ⟨t',rfl⟩:=ry; exact PySem.W.eq_bytes (zabj I q zakk)
  | _=>exact absurd (show false=true from hs) Bool.false_ne_true
 | _=>cases y <;> exact absurd (show false=true from hs) Bool.false_ne_true
theorem zaev:OpR X (compareOp .NotEq) rNe:=by
 intro pins s σ H x y v u Q I rx ry h
 obtain ⟨hs,q⟩:=h
 cases x with
 | non =>
  cases rx
  cases y with
  | non=>cases ry; exact PySem.EqNone.ne_none_none (zabj I q (by simp))
  | bl j=>cases ry; exact PySem.EqNone.ne_none_bool (zabj I q (by simp))
  | int j=>obtain ⟨t',rfl⟩:=ry; exact PySem.EqNone.ne_none_int (zabj I q (by simp))
  | str j=>obtain ⟨t',rfl⟩:=ry; exact PySem.EqNone.ne_none_str (zabj I q (by simp))
  | _=>exact absurd (show false=true from hs) Bool.false_ne_true
 | bl i =>
  cases rx
  cases y with
  | non=>cases ry; exact PySem.EqNone.ne_bool_none (zabj I q (by simp))
  | bl j=>cases ry; exact ne_bool (zabj I q (congrArg not zaou))
  | str j=>obtain ⟨t',rfl⟩:=ry; exact PySem.EqMixed.ne_bool_str (zabj I q (by simp))
  | _=>exact absurd (show false=true from hs) Bool.false_ne_true
 | int i =>
  obtain ⟨t,rfl⟩:=rx
  cases y with
  | non=>cases ry; exact PySem.EqNone.ne_int_none (zabj I q (by simp))
  | int j=>obtain ⟨t',rfl⟩:=ry; exact ne_int (zabj I q (congrArg not zaki))
  | str j=>obtain ⟨t',rfl⟩:=ry; exact PySem.EqMixed.ne_int_str (zabj I q (by simp))
  | _=>exact absurd (show false=true from hs) Bool.false_ne_true
 | str i =>
  obtain ⟨t,rfl⟩:=rx
  cases y with
  | non=>cases ry; exact PySem.EqNone.ne_str_none (zabj I q (by simp))
  | bl j=>cases ry; exact PySem.EqMixed.ne_str_bool (zabj I q (by simp))
  | int j=>obtain ⟨t',rfl⟩:=ry; exact PySem.EqMixed.ne_str_int (zabj I q (by simp))
  | str j=>obtain ⟨t',rfl⟩:=ry; exact ne_str (zabj I q (congrArg not zakj))
  | _=>exact absurd (show false=true from hs) Bool.false_ne_true
 | byt i =>
  obtain ⟨t,rfl⟩:=rx
  cases y with
  | byt j=>obtain ⟨t',rfl⟩:=ry; exact PySem.W.ne_bytes (zabj I q (congrArg not zakk))
  | _=>exact absurd (show false=true from hs) Bool.false_ne_true
 | _=>cases y <;> exact absurd (show false=true from hs) Bool.false_ne_true
theorem zarz:OpR X (compareOp .Lt) (rI0 fun i j=>.bl (decide (i < j))):=opB0 fun _ _ _ _ _ _ _ q=>lt_int q
theorem zatm:OpR X (compareOp .LtE) (rI0 fun i j=>.bl (decide (i≤j))):=opB0 fun _ _ _ _ _ _ _ q=>le_int q
theorem zah8:OpR X (compareOp .Gt) (rI0 fun i j=>.bl (decide (j < i))):=opB0 fun _ _ _ _ _ _ _ q=>gt_int q
theorem zaov:OpR X (compareOp .Is) (fun x y H Q=>y=.non∧Q (.bl (decide (x=.non))) H):=by
 intro pins s σ H x y v u Q I rx ry h
 obtain ⟨rfl,q⟩:=h
 cases ry
 refine is_none_gen (zabj I q ?_)
 cases x <;> first
  | (cases rx; rfl)
  | (obtain ⟨t,rfl⟩:=rx; rfl)
theorem nomark (b:Expr) {op:CmpOp} (h:op≠.In:=by decide) (h2:op≠.NotIn:=by decide):behindInMarks op b=false:=by
 have e1:(op == CmpOp.In)=false:=by cases op <;> first | rfl | exact absurd rfl h
 have e2:(op == CmpOp.NotIn)=false:=by cases op <;> first | rfl | exact absurd rfl h2
 cases b <;> simp [behindInMarks,e1,e2]
theorem zapp {op:CmpOp}{r:R2} (ho:OpR X (compareOp op) r) (ha:PE X a ta) (hb:PE X b tb) (hm:behindInMarks op b=false):PE X (.Compare a [op] [b] pos) (tOp r ta tb):=by
 intro pins s σ H Q I h
 exact wpAny_Compare1 (binT ha hb I h fun v u s2 x y H2 I2 rx ry q=>ho pins s2 σ H2 x y v u Q I2 rx ry q) hm
def tTest (t:TE):TT:=fun σ H Q=>t σ H fun x H'=>∃ k,x=.bl k∧Q k H'
theorem zapq {op:CmpOp}{r:R2} (ho:OpR X (compareOp op) r) (ha:PE X a ta) (hb:PE X b tb) (hm:behindInMarks op b=false):PT X (.Compare a [op] [b] pos) (tTest (tOp r ta tb)):=by
 intro pins s σ H Q I h
 refine wpAny_isTrue_Compare1 (thn (ha pins s σ H _ I h) fun v s1 ⟨x,H1,I1,r1,q1⟩=>thn (hb pins s1 σ H1 _ I1 q1) fun u s2 ⟨y,H2,I2,r2,q2⟩ =>
  thn (ho pins s2 σ H2 x y v u _ I2 r1 r2 q2) fun c s3 ⟨z,H3,I3,r3,k,e,q3⟩=>?_) hm
 subst e
 cases r3
 exact wpAny_truthy_bool ⟨H3,I3,q3⟩
def tChain (r r':R2) (ta tb tc:TE):TE:=fun σ H Q=>ta σ H fun x H1=>tb σ H1 fun y H2=>r x y H2 fun z H3=>∃ k,z=.bl k ∧
 (if k=true then tc σ H3 fun w' H4=>r' y w' H4 Q else Q (.bl false) H3)
theorem zano {op op':CmpOp}{r r':R2} (ho:OpR X (compareOp op) r) (ho':OpR X (compareOp op') r') (ha:PE X a ta) (hb:PE X b tb) (hc:PE X c tc)
  (hm:lastMarks [op,op'] [b,c]=false:=by with_unfolding_all rfl):PE X (.Compare a [op,op'] [b,c] pos) (tChain r r' ta tb tc):=by
 intro pins s σ H Q I h
 refine Compare_chain (thn (ha pins s σ H _ I h) fun v s1 ⟨x,H1,I1,r1,q1⟩=>chain_link (thn (hb pins s1 σ H1 _ I1 q1) fun u s2 ⟨y,H2,I2,r2,q2⟩ =>
  thn (ho pins s2 σ H2 x y v u _ I2 r1 r2 q2) fun d s3 ⟨z,H3,I3,r3,k,e,q3⟩=>?_)) hm
 subst e
 cases r3
 refine wpAny_truthy_bool ?_
 cases k with
 | false=>exact ite_ff ⟨.bl false,H3,I3,rfl,q3⟩
 | true=>exact ite_tt (chain_last (thn (hc pins s3 σ H3 _ I3 q3) fun w' s4 ⟨z',H4,I4,r4,q4⟩=>ho' pins s4 σ H4 y z' u w' Q I4 r2 r4 q4))
theorem line63:(sizeLine:Nat) < 2 ^ 63:=by rw [sizeLine_eq]; decide
theorem vals1 {x:V}{us:List Value} (r:Vals [x] us):∃ u,us=[u]∧RelV x u:=by
 cases r with
 | cons r1 r2=>cases r2; exact ⟨_,rfl,r1⟩
theorem vals2 {x y:V}{us:List Value} (r:Vals [x,y] us):∃ u w',us=[u,w']∧RelV x u∧RelV y w':=by
 cases r with
 | cons r1 r2 =>
  cases r2 with
  | cons r3 r4=>cases r4; exact ⟨_,_,rfl,r1,r3⟩
theorem zakl (hc:X.calm=true):CallR X (.builtin "max") (fun xs H Q=>∃ i j,xs=[.int i,.int j]∧Q (.int (if j > i then j else i)) H):=by
 intro pins s σ H xs us Q I r h
 obtain ⟨i,j,rfl,q⟩:=h
 obtain ⟨u,w',rfl,⟨t,rfl⟩,⟨t',rfl⟩⟩:=vals2 r
 refine max_two_ints (I.ok.hd hc) fun h' tk k=>⟨_,H,I.kept k,?_,q⟩
 by_cases hj:j > i
 ·rw [if_pos hj,if_pos hj]; exact ⟨_,rfl⟩
 ·rw [if_neg hj,if_neg hj]; exact ⟨_,rfl⟩
theorem zakm (hc:X.calm=true):CallR X (.builtin "min") (fun xs H Q=>∃ i j,xs=[.int i,.int j]∧Q (.int (if j < i then j else i)) H):=by
 intro pins s σ H xs us Q I r h
 obtain ⟨i,j,rfl,q⟩:=h
 obtain ⟨u,w',rfl,⟨t,rfl⟩,⟨t',rfl⟩⟩:=vals2 r
 refine min_two_ints (I.ok.hd hc) fun h' tk k=>⟨_,H,I.kept k,?_,q⟩
 by_cases hj:j < i
 ·rw [if_pos hj,if_pos hj]; exact ⟨_,rfl⟩
 ·rw [if_neg hj,if_neg hj]; exact ⟨_,rfl⟩
theorem zaew:CallR X (.type "int") (fun xs H Q=>(∃ i,xs=[.int i]∧Q (.int i) H)∨∃ k,xs=[.bl k]∧Q (.int (if k then 1 else 0)) H):=by
 intro pins s σ H xs us Q I r h
 rcases h with ⟨i,rfl,q⟩ | ⟨k,rfl,q⟩
 ·obtain ⟨u,rfl,t,rfl⟩:=vals1 r
  exact call_int_int ⟨.int i,H,I,⟨_,rfl⟩,q⟩
 ·obtain ⟨u,rfl,r1⟩:=vals1 r
  cases r1
  exact call_int_bool ⟨.int (if k then 1 else 0),H,I.tok _,⟨_,rfl⟩,q⟩
end
structure ObjM (h:Heap) (x dx C:Addr) (mA:Str→Option Value):Prop where
 obj:h.get? x=some (PySem.W.instObj C dx)
 ns:h.Ns1 dx mA
 ne:dx≠x
theorem zakn {h:Heap}{dx:Addr}{mA:Str→Option Value} (n:h.Ns1 dx mA):∃ od,h.get? dx=some od∧∀ name,PySem.W.lookIn name od=some (mA name):=by
 obtain ⟨o,es,ep,ho,hd,hk,_,hm⟩:=n
 refine ⟨o,ho,fun name=>?_⟩
 have e:=hm name
 unfold nsFind findBy at e
 rw [← Array.find?_toList] at e
 unfold PySem.W.lookIn
 rw [hd]
 dsimp only
 split
 ·rename_i y q
  rw [q] at e
  exact congrArg some e
 ·rename_i q
  rw [q] at e
  have a:es.toList.any (·.refKey)=false:=by
   rw [List.any_eq_false]
   intro y hy
   obtain ⟨z,t,hkey⟩:=hk y (Array.mem_toList_iff.mp hy)
   simp [DictEntry.refKey,hkey]
  have a':¬ es.toList.any (·.refKey)=true:=by rw [a]; exact Bool.false_ne_true
  rw [if_neg a']
  exact congrArg some e
theorem ObjM.look {h:Heap}{x dx C:Addr}{mA:Str→Option Value} (I:ObjM h x dx C mA):∃ od,PySem.W.InstAt h x (PySem.W.instObj C dx) C (some od)∧∀ name,PySem.W.lookIn name od=some (mA name) :=
 let ⟨od,ho,hl⟩:=zakn I.ns
 ⟨od,⟨I.obj,rfl,rfl,ho⟩,hl⟩
section
variable {prog:Program}{w:World}{A:Around}{E:Value→Shared→Prop}{s:Shared}{K:PySem.W.Frag}{x dx C f:Addr}{mA:Str→Option Value}{name:Str}{v:Value}
theorem zapr {expr:Bool}{Q:Value→Shared→Prop} (X:K.In s.heap) (I:ObjM s.heap x dx C mA) (hg:PySem.W.plainGet K C name=true) (hh:PySem.W.hasDictIn K C=true)
  (ha:PySem.W.findIn K (.ref C) name=some none) (hv:mA name=some v) (hv':PySem.W.handedIn v=true) (h:Q v { s with toks:=s.toks + 1 }) :
  wpAny (model prog w) A (getAttr (.ref x) name expr) Q E s:=by
 obtain ⟨od,J,hl⟩:=I.look
 exact PySem.W.get_value X J (PySem.W.plainGet_of hg).1 (PySem.W.findObj_own hh ha rfl (by rw [hl,hv])) hv' h
theorem zaps {ns:List Str}{Q:Unit→Shared→Prop} (X:K.In s.heap) (I:ObjM s.heap x dx C mA)
  (hs:PySem.W.findIn K (.ref C) "__setattr__" = some (some (.builtin "object.__setattr__"))) (hp:PySem.W.plainOver K C=true) (ht:PySem.W.takerIn K C name=some none) (hh:PySem.W.hasDictIn K C=true)
  (hw:PySem.Within mA ns) (hsz:ns.length≤sizeLine)
  (h:∀ h',ObjM h' x dx C (fun y=>if y=name then some v else mA y)→Heap.SameBut dx s.heap h'→Q () { s with heap:=h',toks:=s.toks + 2 }) :
  wpAny (model prog w) A (setAttr (.ref x) name v) Q E s:=by
 obtain ⟨od,J,hl⟩:=I.look
 refine PySem.W.set_plain X J hs (PySem.W.osa_open (s:={ s with toks:=s.toks + 1 }) (r:=none) X J hp ht fun b=>?_)
 obtain ⟨cd,hc,hd'⟩:=PySem.W.any_some hh
 have hx:s.heap.get? x=some ⟨.ref C,some dx,.plain,#[]⟩:=I.obj
 refine wpAny_bind (wpAny_pure (wpAny_bind (wpAny_bind (wpAny_loadPart hx (wpAny_bind (PySem.W.Looks.here (s:={ s with toks:=s.toks + 1 }) (PySem.W.looks_clsIn X hc) ?_))))))
 rw [hd']
 refine wpAny_pure (a:=some dx) (wpAny_bind (wpAny_pure (wpAny_bind ?_)))
 refine wpAny_nsSet1 (s:={ s with toks:=s.toks + 1 }) I.ns fun h' hn2 hs2=>?_
 obtain ⟨oD,esD,epD,hoD,hdD,hcD⟩:=hn2.count (PySem.Within.cons name v hw)
 refine wpAny_bind (wpAny_lookBehind hoD (by rw [hdD]; exact pastItsLine_dict (Nat.le_trans hcD (by rw [List.length_cons]; omega))) ?_)
 exact wpAny_pure (h _ ⟨(hs2.2 _ (Ne.symm I.ne)).trans I.obj,hn2,I.ne⟩ hs2)
theorem zanp {R:Result→Shared→Prop}{vs:List Value}{kw:List (Str × Value)} (X:K.In s.heap) (hm:PySem.W.makesIn K C=true)
  (hi:PySem.W.findIn K (.ref C) "__init__" = some (some (.ref f))) (hf:PySem.W.typeIn K (.ref f)=some (.type "function"))
  (h:codeAny (model prog w) (A.under (.builtin "type.__call__" ⟨.ref C :: vs,kw⟩)) (.call (.ref f) ⟨.ref (s.heap.objs.size + 1) :: vs,kw⟩) (PySem.W.InitBack (s.heap.objs.size + 1) R)
   { s with heap:=(s.heap.push PySem.W.emptyDict).push (PySem.W.instObj C s.heap.objs.size) }) :
  codeAny (model prog w) A (.call (.ref C) ⟨vs,kw⟩) R s:=by
 obtain ⟨hh,g,d,t,os⟩:=s
 exact PySem.W.make_core (PySem.W.makes_of X hm) (PySem.W.looks_findIn X hi) (fun self=>PySem.W.bind_fn X self hf) (.inl rfl) h
end
def putF (f:Str) (v:V):List (Str × V)→List (Str × V)
 | []=>[(f,v)]
 | (g,x) :: r=>if g=f then (g,v) :: r else (g,x) :: putF f v r
theorem zaex (f g:Str) (v:V):∀ fs:List (Str × V),(putF f v fs).lookup g=if g=f then some v else fs.lookup g
 | []=>by
  show List.lookup g [(f,v)]=_
  by_cases h:g=f
  ·have hb:(g == f)=true:=beq_iff_eq.mpr h
   simp only [List.lookup,hb,if_pos h]
  ·have hb:(g == f)=false:=beq_eq_false_iff_ne.mpr h
   simp only [List.lookup,hb,if_neg h]
 | (k,x) :: r=>by
  have ih:=zaex f g v r
  rw [show putF f v ((k,x) :: r)=(if k=f then (k,v) :: r else (k,x) :: putF f v r) from rfl]
  by_cases hk:k=f
  ·rw [if_pos hk]
   by_cases h:g=k
   ·have hb:(g == k)=true:=beq_iff_eq.mpr h
    simp only [List.lookup,hb,if_pos (h.trans hk)]
   ·have hb:(g == k)=false:=beq_eq_false_iff_ne.mpr h
    simp only [List.lookup,hb,if_neg (fun e:g=f=>h (e.trans hk.symm))]
  ·rw [if_neg hk]
   by_cases h:g=k
   ·have hb:(g == k)=true:=beq_iff_eq.mpr h
    simp only [List.lookup,hb,if_neg (fun e:g=f=>hk (h.symm.trans e))]
   ·have hb:(g == k)=false:=beq_eq_false_iff_ne.mpr h
    simp only [List.lookup,hb]
    exact ih
theorem zaey (f:Str) (v:V):∀ fs:List (Str × V),f∈(putF f v fs).map (·.1)∧∀ g,g∈fs.map (·.1)→g∈(putF f v fs).map (·.1)
 | []=>⟨by simp [putF],fun g h=>by simp at h⟩
 | (k,x) :: r=>by
  obtain ⟨i1,i2⟩:=zaey f v r
  rw [show putF f v ((k,x) :: r)=(if k=f then (k,v) :: r else (k,x) :: putF f v r) from rfl]
  by_cases hk:k=f
  ·rw [if_pos hk]
   subst hk
   exact ⟨by simp,fun g h=>by simpa using h⟩
  ·rw [if_neg hk]
   refine ⟨?_,fun g h=>?_⟩
   ·rw [List.map_cons]
    exact List.mem_cons_of_mem _ i1
   ·rw [List.map_cons] at h ⊢
    rcases List.mem_cons.mp h with e | e
    ·exact List.mem_cons.mpr (.inl e)
    ·exact List.mem_cons_of_mem _ (i2 g e)
theorem zaez (f:Str) (v:V):∀ fs:List (Str × V),(putF f v fs).length≤fs.length + 1
 | []=>by simp [putF]
 | (k,x) :: r=>by
  have ih:=zaez f v r
  rw [show putF f v ((k,x) :: r)=(if k=f then (k,v) :: r else (k,x) :: putF f v r) from rfl]
  by_cases hk:k=f
  ·rw [if_pos hk,List.length_cons,List.length_cons]; omega
  ·rw [if_neg hk,List.length_cons,List.length_cons]; omega
theorem RelO.some_of {v:V}{o:Option Value} (r:RelO (some v) o):∃ u,o=some u∧RelV v u:=by
 cases o with
 | none=>exact (show False from r).elim
 | some u=>exact ⟨u,rfl,r⟩
theorem zako {v:V}{u:Value} (r:RelV v u):PySem.W.handedIn u=true:=by
 cases v with
 | non=>cases (show u=Value.none from r); rfl
 | bl b=>cases (show u=Value.bool b from r); rfl
 | int i=>obtain ⟨t,e⟩:=(show ∃ t,u=Value.int i t from r); cases e; rfl
 | str x=>obtain ⟨t,e⟩:=(show ∃ t,u=Value.str x t from r); cases e; rfl
 | byt b=>obtain ⟨t,e⟩:=(show ∃ t,u=Value.bytes b t from r); cases e; rfl
 | flt b=>obtain ⟨t,e⟩:=(show ∃ t,u=Value.float b t from r); cases e; rfl
 | ref a=>cases (show u=Value.ref a from r); rfl
 | ty n=>cases (show u=Value.type n from r); rfl
section
variable {P:Program}{w:World}{H H':Hp}{h h':Heap}{a C dx:Addr}{fs fs':List (Str × V)}
theorem zah9 (hok:HOk P w H h) (e:H a=some (.ins C dx fs)):∃ mA,ObjM h a dx C mA∧(∀ f,RelO (fs.lookup f) (mA f))∧PySem.Within mA (fs.map (·.1))∧fs.length≤1000∧H dx=some (.own a):=by
 obtain ⟨d,z,ne,ob,mA,n,r,q⟩:=(show ObjOk P w H h a (.ins C dx fs) from hok a _ e)
 exact ⟨mA,⟨ob,n,ne⟩,r,q,z,d⟩
end
structure Cls (K:PySem.W.Frag) (C:Addr):Prop where
 pg:PySem.W.plainGet K C Str.empty=true
 hd:PySem.W.hasDictIn K C=true
 po:PySem.W.plainOver K C=true
 sa:PySem.W.findIn K (.ref C) "__setattr__" = some (some (.builtin "object.__setattr__"))
theorem Cls.get {K:PySem.W.Frag}{C:Addr} (c:Cls K C) (f:Str):PySem.W.plainGet K C f=true:=c.pg
def NoAttr (K:PySem.W.Frag) (C:Addr) (f:Str):Prop:=PySem.W.findIn K (.ref C) f=some none
theorem NoAttr.taker {K:PySem.W.Frag}{C:Addr}{f:Str} (n:NoAttr K C f):PySem.W.takerIn K C f=some none:=by
 unfold PySem.W.takerIn
 rw [show PySem.W.findIn K (.ref C) f=some none from n]
 rfl
section
variable {X:Cx}{pins:List (Addr × Obj)}{σ:St}{H:Hp}{s:Shared}{a C dx:Addr}{fs:List (Str × V)}{f:Str}{v:V}{A:Around}{E:Value→Shared→Prop}
theorem zajs {b:Bool}{Q:Value→Shared→Prop} (I:Inv X pins σ H s) (e:H a=some (.ins C dx fs)) (c:Cls X.K C) (n:NoAttr X.K C f) (l:fs.lookup f=some v)
  (h:∀ u s',Inv X pins σ H s'→RelV v u→Q u s'):wpAny (model X.prog X.w) A (getAttr (.ref a) f b) Q E s:=by
 obtain ⟨mA,O,r,_,_,_⟩:=zah9 I.hok e
 obtain ⟨u,hu,ru⟩:=RelO.some_of (v:=v) (o:=mA f) (by rw [← l]; exact r f)
 exact zapr I.kIn O (c.get f) c.hd n hu (zako ru) (h u _ (I.tok _) ru)
theorem zajt {y:V}{u:Value}{Q:Unit→Shared→Prop} (I:Inv X pins σ H s) (e:H a=some (.ins C dx fs)) (c:Cls X.K C) (n:NoAttr X.K C f) (hl:fs.length < 1000) (ry:RelV y u)
  (h:∀ s',Inv X pins σ (upd H a (.ins C dx (putF f y fs))) s'→Q () s'):wpAny (model X.prog X.w) A (setAttr (.ref a) f u) Q E s:=by
 obtain ⟨mA,O,r,wi,_,ho⟩:=zah9 I.hok e
 have hz:(fs.map (·.1)).length≤sizeLine:=by rw [List.length_map,sizeLine_eq]; omega
 refine zaps I.kIn O c.sa c.po n.taker c.hd wi hz fun h' O' sb=>h _ ?_
 have hd:∃ o,h'.get? dx=some o:=let ⟨o,_,_,e',_⟩:=O'.ns; ⟨o,e'⟩
 refine I.write (x:=a) (e:=dx) (by rw [e]; exact True.intro) (.inr ho) (fun b q hb z=>(sb.2 b hb).trans z) hd ?_
 refine ⟨by rw [zaa5 O.ne]; exact ho,?_,O.ne,O'.obj,_,O'.ns,fun g=>?_,fun g hg=>?_⟩
 ·have:=zaez f y fs; omega
 ·show RelO ((putF f y fs).lookup g) (if g=f then some u else mA g)
  rw [zaex]
  by_cases q:g=f
  ·rw [if_pos q,if_pos q]; exact ry
  ·rw [if_neg q,if_neg q]; exact r g
 ·by_cases q:g=f
  ·rw [q]; exact (zaey f y fs).1
  ·refine (zaey f y fs).2 g (wi g fun z=>hg ?_)
   show (if g=f then some u else mA g)=none
   rw [if_neg q]; exact z
theorem Inv.made (I:Inv X pins σ H s):Inv X pins σ (upd (upd H s.heap.objs.size (.own (s.heap.objs.size + 1))) (s.heap.objs.size + 1) (.ins C s.heap.objs.size []))
  { s with heap:=(s.heap.push PySem.W.emptyDict).push (PySem.W.instObj C s.heap.objs.size) }:=by
 have e1:(s.heap.push PySem.W.emptyDict).get? s.heap.objs.size=some PySem.W.emptyDict:=Heap.get?_push_size s.heap rfl
 have e2:((s.heap.push PySem.W.emptyDict).push (PySem.W.instObj C s.heap.objs.size)).get? (s.heap.objs.size + 1)=some (PySem.W.instObj C s.heap.objs.size):=by
  have:=Heap.get?_push_size (s.heap.push PySem.W.emptyDict) (o:=PySem.W.instObj C s.heap.objs.size) rfl
  rwa [Heap.size_push] at this
 have e3:(s.heap.push PySem.W.emptyDict).Ns s.heap.objs.size (fun _=>none):=⟨PySem.W.emptyDict,#[],_,e1,rfl,(fun e he=>absurd he (by simp)),fun _=>rfl⟩
 have I1:=I.laid (a:=s.heap.objs.size) (o:=.own (s.heap.objs.size + 1)) (h':=s.heap.push PySem.W.emptyDict) (t':=s.toks) (fun b u q=>Heap.get?_push_of_some _ q) (Nat.le_refl _) ⟨_,e1⟩
 refine I1.laid (a:=s.heap.objs.size + 1) (o:=.ins C s.heap.objs.size []) (t':=s.toks) (fun b u q=>Heap.get?_push_of_some _ q) (Nat.le_of_eq (Heap.size_push _ _)) ?_
 have ne:s.heap.objs.size≠s.heap.objs.size + 1:=Nat.ne_of_lt (Nat.lt_succ_self _)
 refine ⟨by rw [zaa5 ne,zaae],Nat.zero_le _,ne,e2,fun _=>none,(Heap.Ns1.of_empty e3).at fun o q=>Heap.get?_push_of_some _ q,fun _=>True.intro,fun y hy=>absurd rfl hy⟩
theorem zapt {prog:Program}{w:World}{env:Env}{e:Expr}{f:Str}{pos:Pos}{s:Shared}{Q:Value→Shared→Prop} (hb:attributeBase e f env (eval e env)=eval e env)
  (h:wpAny (model prog w) A (eval e env) (fun o s₁=>wpAny (model prog w) A (getAttr o f true) Q E s₁) E s):wpAny (model prog w) A (eval (.Attribute e f pos) env) Q E s :=
 Attribute_any_ h (by rw [arm_eval_Attribute,hb])
end
def tFld (K:PySem.W.Frag) (ta:TE) (f:Str):TE:=fun σ H Q=>ta σ H fun x H1=>∃ a C dx fs v,x=.ref a∧H1 a=some (.ins C dx fs)∧Cls K C∧NoAttr K C f∧fs.lookup f=some v∧Q v H1
def sFld (K:PySem.W.Frag) (ta tv:TE) (f:Str):TS:=fun D σ H=>tv σ H fun y H1=>ta σ H1 fun x H2=>∃ a C dx fs,x=.ref a∧H2 a=some (.ins C dx fs)∧Cls K C∧NoAttr K C f∧fs.length < 1000 ∧
 D.nx σ (upd H2 a (.ins C dx (putF f y fs)))
section
variable {X:Cx}{o e value:Expr}{f:Str}{pos pos' tpos:Pos}{ta tv:TE}
theorem zar0 (he:PE X e ta) (hb:attributeBase e f X.env (eval e X.env)=eval e X.env):PE X (.Attribute e f pos) (tFld X.K ta f):=by
 intro pins s σ H Q I h
 refine zapt hb (thn (he pins s σ H _ I h) fun u s1 ⟨x,H1,I1,rx,a,C,dx,fs,v,ex,ea,c,n,l,q⟩=>?_)
 subst ex
 obtain rfl:u=Value.ref a:=rx
 exact zajs I1 ea c n l fun u' s2 I2 ru=>⟨v,H1,I2,ru,q⟩
theorem zar1 (ha:PE X o ta) (hv:PE X value tv) (hs:swapsWith value (some (.Attribute o f pos')) pos.line X.env=pure false):PS X (.Assign [.Attribute o f pos'] value pos) (sFld X.K ta tv f):=by
 intro pins s σ H D I h
 refine plainObj_wpAny_Assign_Attribute (thn (hv pins s σ H _ I h) fun u s1 ⟨y,H1,I1,ry,q⟩=>thn (ha pins s1 σ H1 _ I1 q) fun ov s2 ⟨x,H2,I2,rx,a,C,dx,fs,ex,ea,c,n,l,q2⟩=>?_) hs
 subst ex
 obtain rfl:ov=Value.ref a:=rx
 exact zajt I2 ea c n l ry fun s3 I3=>⟨σ,_,I3,q2⟩
end
section
variable {X:Cx}{pins:List (Addr × Obj)}{σ:St}{H:Hp}{s:Shared}{A:Around}{E:Value→Shared→Prop}{Q:Value→Shared→Prop}{c:Value}{b:Bool}
inductive TyOf (K:PySem.W.Frag) (H:Hp):V→Value→Prop where
 | non:TyOf K H .non (.type "NoneType")
 | bl (x:Bool):TyOf K H (.bl x) (.type "bool")
 | int (i:Int):TyOf K H (.int i) (.type "int")
 | str (x:Str):TyOf K H (.str x) (.type "str")
 | flt (x:UInt64):TyOf K H (.flt x) (.type "float")
 | lst {a:Addr}{xs:List V} (e:H a=some (.lst xs)):TyOf K H (.ref a) (.type "list")
 | frz {a:Addr}{o:Obj}{xs:List V} (e:H a=some (.frz o (.lst xs))):TyOf K H (.ref a) (.type "list")
 | tup {a:Addr}{xs:List V} (e:H a=some (.tup xs)):TyOf K H (.ref a) (.type "tuple")
 | dK {a:Addr}{kvs:List (Key × V)} (e:H a=some (.dK kvs)):TyOf K H (.ref a) (.type "dict")
 | dT {a:Addr}{kvs:List (List Key × V)} (e:H a=some (.dT kvs)):TyOf K H (.ref a) (.type "dict")
 | ins {a C dx:Addr}{fs:List (Str × V)} (e:H a=some (.ins C dx fs)) (cl:Cls K C) (ha:PySem.W.findIn K (.ref C) "__class__" = some (some (.builtin "object.__class__")))
   (hn:PySem.W.specialIn K (.builtin "object.__class__") "__get__" = some (some (.builtin "getset_descriptor.__get__"))) (htk:PySem.W.takesIn K (.builtin "object.__class__")=some true)
   (hm:PySem.W.mroIn K C (.type "object")=some true):TyOf K H (.ref a) (.ref C)
theorem zakp {x:V}{u t:Value} (I:Inv X pins σ H s) (rx:RelV x u) (ty:TyOf X.K H x t) (e:PySem.W.kitOne X.K t c=some b) (h:∀ tk,Q (.bool b) { s with toks:=tk }) :
  wpAny (model X.prog X.w) A (call (.builtin "isinstance") [u,c]) Q E s:=by
 cases ty with
 | non=>cases (show u=Value.none from rx); exact PySem.W.kia_one PySem.W.kitx_none I.kIn True.intro e (fun z=>nomatch z) h
 | bl y=>cases (show u=Value.bool y from rx); exact PySem.W.kia_one PySem.W.kitx_bool I.kIn True.intro e (fun z=>nomatch z) h
 | int i=>obtain ⟨t,q⟩:=(show ∃ t,u=Value.int i t from rx); cases q; exact PySem.W.kia_one PySem.W.kitx_int I.kIn True.intro e (fun z=>nomatch z) h
 | str y=>obtain ⟨t,q⟩:=(show ∃ t,u=Value.str y t from rx); cases q; exact PySem.W.kia_one PySem.W.kitx_str I.kIn True.intro e (fun z=>nomatch z) h
 | flt y=>obtain ⟨t,q⟩:=(show ∃ t,u=Value.float y t from rx); cases q; exact PySem.W.kia_one PySem.W.kitx_float I.kIn True.intro e (fun z=>nomatch z) h
 | @lst a xs ea =>
  cases (show u=Value.ref a from rx)
  obtain ⟨_,_,n,_,h1⟩:=(show ObjOk X.prog X.w H s.heap a (.lst xs) from I.hok a _ ea)
  exact PySem.W.kia_one PySem.W.kitx_list I.kIn ⟨_,h1,rfl⟩ e (fun z=>nomatch z) h
 | @frz a ob xs ea =>
  cases (show u=Value.ref a from rx)
  obtain ⟨_,_,_,n,_,h1⟩:=(show ObjOk X.prog X.w H s.heap a (.frz ob (.lst xs)) from I.hok a _ ea)
  exact PySem.W.kia_one PySem.W.kitx_list I.kIn ⟨_,h1,rfl⟩ e (fun z=>nomatch z) h
 | @tup a xs ea =>
  cases (show u=Value.ref a from rx)
  obtain ⟨_,_,_,p⟩:=(show ObjOk X.prog X.w H s.heap a (.tup xs) from I.hok a _ ea)
  obtain ⟨o,h1,h2,_⟩:=p
  exact PySem.W.kia_one PySem.W.kitx_tuple I.kIn ⟨o,h1,h2⟩ e (fun z=>nomatch z) h
 | @dK a kvs ea =>
  cases (show u=Value.ref a from rx)
  obtain ⟨_,_,vs,_,p⟩:=(show ObjOk X.prog X.w H s.heap a (.dK kvs) from I.hok a _ ea)
  obtain ⟨o,es,ep,h1,h2,_⟩:=p
  exact PySem.W.kia_one PySem.W.kitx_dict I.kIn ⟨o,h1,h2.1⟩ e (fun z=>nomatch z) h
 | @dT a kvs ea =>
  cases (show u=Value.ref a from rx)
  obtain ⟨_,_,xs,_,o,es,ep,h1,h2,_⟩:=(show ObjOk X.prog X.w H s.heap a (.dT kvs) from I.hok a _ ea)
  exact PySem.W.kia_one PySem.W.kitx_dict I.kIn ⟨o,h1,h2.1⟩ e (fun z=>nomatch z) h
 | @ins a C dx fs ea cl ha hn htk hm =>
  cases (show u=Value.ref a from rx)
  obtain ⟨mA,O,_⟩:=zah9 I.hok ea
  obtain ⟨od,J,_⟩:=O.look
  exact PySem.W.kia_one (PySem.W.kitx_own (cl.get _) cl.hd ha hn htk hm) I.kIn J e (fun z=>nomatch z) h
end
structure Room (k:Nat) (A:Around):Prop where
 hd:A.handled=none
 dp:A.depth + 3 * k + 5 < recursionLimit
 un:A.units + 16 * k + 200 < cLine
theorem Room.mono {j k:Nat}{A:Around} (r:Room k A) (h:j≤k):Room j A:=⟨r.hd,by have:=r.dp; omega,by have:=r.un; omega⟩
theorem Room.deeper {k:Nat}{A:Around} (r:Room (k + 1) A) (env:Env):Room k (A.deeper env) :=
 ⟨r.hd,by have:=r.dp; show A.depth + 1 + 3 * k + 5 < _; omega,by have:=r.un; show A.units + 3 + 16 * k + 200 < _; omega⟩
theorem zaju {A:Around}{C:Addr}{us:List Value}{kw:List (Str × Value)}:(A.under (.builtin "type.__call__" ⟨.ref C :: us,kw⟩)).depth=A.depth + 1:=by
 first | rfl | simp [Around.under,Code.weight,Code.isCreation,Code.isGuard,Code.isCaller,Code.frames,Code.isFrame,guardIds]
theorem zajv {A:Around}{C:Addr}{us:List Value}{kw:List (Str × Value)}:(A.under (.builtin "type.__call__" ⟨.ref C :: us,kw⟩)).units=A.units + 1:=by
 first | rfl | simp [Around.under,Code.cUnits,Code.frames,Code.isFrame]
theorem Room.make {k:Nat}{A:Around} (r:Room (k + 1) A) (C:Addr) (us:List Value) (kw:List (Str × Value)):Room k (A.under (.builtin "type.__call__" ⟨.ref C :: us,kw⟩)) :=
 ⟨r.hd,by have:=r.dp; rw [zaju]; omega,by have:=r.un; rw [zajv]; omega⟩
theorem Room.depth {k:Nat}{A:Around} (r:Room k A):A.depth < recursionLimit:=by have:=r.dp; omega
theorem Room.units {k:Nat}{A:Around} (r:Room k A):A.units + 64 < cLine:=by have:=r.un; omega
def tNil:TA:=fun _ H Q=>Q [] H
def tCons (ta:TE) (tr:TA):TA:=fun σ H Q=>ta σ H fun x H1=>tr σ H1 fun xs H2=>Q (x :: xs) H2
section
variable {X:Cx}{e:Expr}{es:List Expr}{te:TE}{t:TA}{pos:Pos}
theorem zar2:PA X [] tNil:=fun _ _ _ _ H Q I h=>Calls.spliced_nil ⟨[],H,I,.nil,h⟩
theorem zapu (ha:PE X e te) (hr:PA X es t) (hs:starEach (e :: es) X.env=(false,eval e X.env) :: starEach es X.env:=by rfl):PA X (e :: es) (tCons te t):=by
 intro pos pins s σ H Q I h
 rw [hs]
 show wpAny _ _ (spliced ((false,eval e X.env) :: backTo pos (starEach es X.env))) _ _ s
 refine Calls.spliced_cons (thn (ha pins s σ H _ I h) fun u s1 ⟨x,H1,I1,r1,q1⟩=>?_)
 exact thn (hr pos pins s1 σ H1 _ I1 q1) fun us s2 ⟨xs,H2,I2,r2,q2⟩=>⟨x :: xs,H2,I2,.cons r1 r2,q2⟩
def tTup (t:TA):TE:=fun σ H Q=>t σ H fun xs H1=>xs.length≤sizeLine∧∀ p,H1 p=none→Q (.ref p) (upd H1 p (.tup xs))
def tLst (t:TA):TE:=fun σ H Q=>t σ H fun xs H1=>xs.length≤sizeLine∧∀ p,H1 p=none→Q (.ref p) (upd H1 p (.lst xs))
theorem zar3 {x1} (h:PA X es t):PE X (.Tuple es x1 pos) (tTup t):=by
 intro pins s σ H Q I hq
 refine wpAny_Tuple_spliced (thn (h pos pins s σ H _ I hq) fun us s1 ⟨xs,H1,I1,r,z,q⟩=>⟨by rw [← r.length]; exact z,?_⟩)
 have hf:H1 s1.heap.objs.size=none:=I1.hok.fresh (Nat.le_refl _)
 refine ⟨.ref s1.heap.objs.size,upd H1 s1.heap.objs.size (.tup xs),I1.laid (t':=s1.toks) (fun b u e=>Heap.get?_push_of_some _ e) (Nat.le_refl _) ?_,rfl,q _ hf⟩
 exact ⟨z,us,r,⟨_,Heap.get?_push_size _ rfl,rfl,_,rfl⟩⟩
theorem zar4 (h:PA X es t):PE X (.List es pos) (tLst t):=by
 intro pins s σ H Q I hq
 refine wpAny_List_spliced (thn (h pos pins s σ H _ I hq) fun us s1 ⟨xs,H1,I1,r,z,q⟩=>⟨by rw [← r.length]; exact z,?_⟩)
 have hf:H1 s1.heap.objs.size=none:=I1.hok.fresh (Nat.le_refl _)
 refine ⟨.ref s1.heap.objs.size,upd H1 s1.heap.objs.size (.lst xs),I1.laid (t':=s1.toks) (fun b u e=>Heap.get?_push_of_some _ e) (Nat.le_refl _) ?_,rfl,q _ hf⟩
 exact ⟨z,us,0,r,Heap.get?_push_size _ rfl⟩
end
abbrev Sp:=List V→Hp→VK→XK→Prop
abbrev CXT:=List Env→Hp→Shared→XK→Value→Shared→Prop
structure Env0 (P:Program) (w:World) (K:PySem.W.Frag) (mg:Str→Option Value) (base:Heap) (A:Around) (outer:List Env) (s:Shared) (H:Hp):Prop where
 frames:A.frames=some outer
 mod:Mod K mg base
 bs:∀ b o,base.get? b=some o→s.heap.get? b=some o∧H b=none
 bsz:base.objs.size≤s.heap.objs.size
 funs:s.heap.FunFrames base outer
 frf:∀ b∈frs outer,H b=none
 hok:HOk P w H s.heap
 bare:AllBare s.gens
def CE (outer:List Env) (P:Program) (w:World) (H:Hp) (s:Shared) (Q:VK) (u:Value) (s':Shared):Prop :=
 ∃ v H',s'.os=s.os∧AllBare s'.gens∧Un (frs outer) [] H H' s.heap s'.heap∧HOk P w H' s'.heap∧RelV v u∧Q v H'
def CR (CX:CXT) (outer:List Env) (P:Program) (w:World) (H:Hp) (s:Shared) (Q:VK) (E:XK) (r:Result) (s':Shared):Prop :=
 match r with
 | .ok (.ret u)=>CE outer P w H s Q u s'
 | .ok _=>False
 | .error e=>CX outer H s E e s'
structure FnOk (P:Program) (w:World) (K:PySem.W.Frag) (mg:Str→Option Value) (base:Heap) (CX:CXT) (k:Nat) (f:Addr) (fd:FuncData) (ps:List Str) (sp:Sp):Prop where
 len:∀ vs H Q E,sp vs H Q E→vs.length=ps.length
 run:∀ (A:Around) (outer:List Env) (s:Shared) (H:Hp) (args:Args) (us:List Value) (vs:List V) (Q:VK) (E:XK),Room k A→Env0 P w K mg base A outer s H→BindsTo s fd args (ps.zip us)→Vals vs us→sp vs H Q E →
  codeAny (model P w) A (.call (.ref f) args) (CR CX outer P w H s Q E) s
theorem FnOk.mono {P:Program}{w:World}{K:PySem.W.Frag}{mg:Str→Option Value}{base:Heap}{CX:CXT}{j k:Nat}{f:Addr}{fd:FuncData}{ps:List Str}{sp:Sp} (F:FnOk P w K mg base CX j f fd ps sp) (h:j≤k) :
  FnOk P w K mg base CX k f fd ps sp:=⟨F.len,fun A outer s H args us vs Q E hr=>F.run A outer s H args us vs Q E (hr.mono h)⟩
theorem Env0.make {P:Program}{w:World}{K:PySem.W.Frag}{mg:Str→Option Value}{base:Heap}{A:Around}{outer:List Env}{s:Shared}{H:Hp} (e:Env0 P w K mg base A outer s H) (C:Addr) (us:List Value) (kw:List (Str × Value)) :
  Env0 P w K mg base (A.under (.builtin "type.__call__" ⟨.ref C :: us,kw⟩)) outer s H:=⟨by first | exact e.frames | (simpa [Around.under,Code.envs,Code.isFrame,pushEnvs] using e.frames),e.mod,e.bs,e.bsz,e.funs,e.frf,e.hok,e.bare⟩
section
variable {X:Cx}{pins:List (Addr × Obj)}{σ:St}{H:Hp}{s s':Shared}
theorem Inv.env0 (I:Inv X pins σ H s):Env0 X.prog X.w X.K X.mg X.base X.A X.stack s H :=
 ⟨I.ok.frames,I.ok.mod,I.bs,Nat.le_trans I.ok.bsz I.sz,I.stack,I.stkFree,I.hok,I.bare⟩
theorem Inv.after {Q:VK}{u:Value} (I:Inv X pins σ H s) (h:CE X.stack X.prog X.w H s Q u s'):EP X pins σ Q u s':=by
 obtain ⟨v,H',os,bare,un,hok,r,q⟩:=h
 obtain ⟨hh,g,d,t,os'⟩:=s'
 obtain rfl:os'=s.os:=os
 exact ⟨v,H',I.call (h':=hh) (g':=g) (d':=d) (t':=t) (ch:=[]) un hok bare (fun b z=>absurd z (by simp)),r,q⟩
end
def tCall (sp:Sp) (dvs:List V) (E:XK) (t:TA):TE:=fun σ H Q=>t σ H fun vs H1=>sp (vs++dvs) H1 Q E
def tMake (C:Addr) (sp:Sp) (dvs:List V) (E:XK) (t:TA):TE:=fun σ H Q=>t σ H fun vs H1=>∀ x dx,H1 x=none→H1 dx=none→dx≠x →
 sp (.ref x :: (vs++dvs)) (upd (upd H1 dx (.own x)) x (.ins C dx [])) (fun v H2=>v=.non∧Q (.ref x) H2) E
def Binds (K:PySem.W.Frag) (fd:FuncData) (ps:List Str) (ds:List Value):Prop :=
 ∀ (s:Shared) (us:List Value),K.In s.heap→(us++ds).length=ps.length→BindsTo s fd ⟨us,[]⟩ (ps.zip (us++ds))
theorem Binds.all {K:PySem.W.Frag}{fd:FuncData}{ps:List Str} (h:∀ us:List Value,us.length=ps.length→bindArgs fd ⟨us,[]⟩=pure (ps.zip us)):Binds K fd ps []:=fun s us _ hl=>by
 rw [List.append_nil] at hl ⊢
 exact .of_eq (h us hl)
def Passes (CX:CXT) (X:Cx) (E:XK):Prop:=∀ (pins:List (Addr × Obj)) (σ:St) (H:Hp) (s:Shared) (e:Value) (s':Shared),Inv X pins σ H s→CX X.stack H s E e s'→X.xe e s'
section
variable {X:Cx}{CX:CXT}{k:Nat}{f C:Addr}{fd:FuncData}{ps:List Str}{sp:Sp}{dvs:List V}{ds:List Value}{E:XK}{x m:Str}{p pos apos:Pos}{e o:Expr}{es:List Expr}{ta:TE}{t:TA}
theorem zar5 {pins:List (Addr × Obj)}{σ:St}{H:Hp}{s:Shared}{Q:VK}{us:List Value}{vs:List V} (F:FnOk X.prog X.w X.K X.mg X.base CX k f fd ps sp) (hr:Room k X.A) (hb:Binds X.K fd ps ds) (hd:Vals dvs ds) (hx:Passes CX X E)
  (I:Inv X pins σ H s) (r:Vals vs us) (h:sp (vs++dvs) H Q E):wpAny (model X.prog X.w) X.A (call (.ref f) us) (EP X pins σ Q) X.xe s:=by
 have r2:Vals (vs++dvs) (us++ds):=r.append hd
 have hl:(us++ds).length=ps.length:=by rw [← r2.length]; exact F.len _ _ _ _ h
 refine wpAny_call (codeAny_mono (F.run X.A X.stack s H ⟨us,[]⟩ (us++ds) (vs++dvs) Q E hr I.env0 (hb s us I.kIn hl) r2 h) fun r s' hq=>?_)
 cases r with
 | error e=>exact hx pins σ H s e s' I hq
 | ok fl =>
  cases fl with
  | ret u=>exact I.after hq
  | next=>exact False.elim hq
  | brk=>exact False.elim hq
  | cont=>exact False.elim hq
theorem zapv (F:FnOk X.prog X.w X.K X.mg X.base CX k f fd ps sp) (hr:Room k X.A) (hg:Gl X x) (hm:X.mg x=some (.ref f)) (hk:PySem.W.keepIn X.K (.ref f)=true) (hb:Binds X.K fd ps ds) (hd:Vals dvs ds) (hx:Passes CX X E)
  (ha:PA X (e :: es) t) (hdb:(x == ("__debug__" : Str))=false:=by decide) (he:starEach (e :: es) X.env=(false,eval e X.env) :: starEach es X.env:=by rfl) (hpl:(backTo pos (starEach es X.env)).any (·.1)=false:=by rfl) :
  PE X (.Call (.Name x p) (e :: es) [] pos) (tCall sp dvs E t):=by
 intro pins s σ H Q I h
 refine wpAny_Call_Name_kw (zah7 I hg hm ?_ hdb)
 refine PySem.W.callWith_K (h₀:=X.base) I.ok.mod.kin hk (thn (ha pos pins s σ H _ I h) fun us s1 ⟨vs,H1,I1,r,q⟩=>⟨I1.kIn,?_⟩) he hpl
 exact zar5 F hr hb hd hx I1 r q
structure Mk (K:PySem.W.Frag) (C f:Addr):Prop where
 makes:PySem.W.makesIn K C=true
 init:PySem.W.findIn K (.ref C) "__init__" = some (some (.ref f))
 fn:PySem.W.isFn K (.ref f)=true
 kp:PySem.W.keepIn K (.ref C)=true
theorem zanq {pins:List (Addr × Obj)}{σ:St}{H:Hp}{s:Shared}{Q:VK}{us:List Value}{vs:List V} (M:Mk X.K C f) (F:FnOk X.prog X.w X.K X.mg X.base CX k f fd ps sp) (hr:Room (k + 1) X.A) (hb:Binds X.K fd ps ds) (hd:Vals dvs ds)
  (hx:Passes CX X E) (I:Inv X pins σ H s) (r:Vals vs us)
  (h:∀ x dx,H x=none→H dx=none→dx≠x→sp (.ref x :: (vs++dvs)) (upd (upd H dx (.own x)) x (.ins C dx [])) (fun v H2=>v=.non∧Q (.ref x) H2) E) :
  wpAny (model X.prog X.w) X.A (call (.ref C) us) (EP X pins σ Q) X.xe s:=by
 have hq:=h (s.heap.objs.size + 1) s.heap.objs.size (I.hok.fresh (Nat.le_succ _)) (I.hok.fresh (Nat.le_refl _)) (Nat.ne_of_lt (Nat.lt_succ_self _))
 have I2:=Inv.made (C:=C) I
 have r2:Vals (V.ref (s.heap.objs.size + 1) :: (vs++dvs)) (Value.ref (s.heap.objs.size + 1) :: (us++ds)):=.cons rfl (r.append hd)
 have hl:(Value.ref (s.heap.objs.size + 1) :: us++ds).length=ps.length:=by
  have e:=r2.length
  rw [F.len _ _ _ _ hq] at e
  exact e.symm
 refine wpAny_call (zanp (f:=f) I.kIn M.makes M.init (beq_iff_eq.mp M.fn) (codeAny_mono (F.run _ X.stack _ _ ⟨Value.ref (s.heap.objs.size + 1) :: us,[]⟩ (Value.ref (s.heap.objs.size + 1) :: (us++ds)) _ _ E (hr.make C us [])
  (I2.env0.make C us []) (hb _ (Value.ref (s.heap.objs.size + 1) :: us) I2.kIn hl) r2 hq) fun r s' hq'=>?_))
 cases r with
 | error e=>exact hx pins σ _ _ e s' I2 hq'
 | ok fl =>
  cases fl with
  | ret u =>
   obtain ⟨v,H',I3,rv,ev,q3⟩:=I2.after hq'
   subst ev
   exact ⟨rv,⟨V.ref (s.heap.objs.size + 1),H',I3,rfl,q3⟩⟩
  | next=>exact False.elim hq'
  | brk=>exact False.elim hq'
  | cont=>exact False.elim hq'
theorem zapw (M:Mk X.K C f) (F:FnOk X.prog X.w X.K X.mg X.base CX k f fd ps sp) (hr:Room (k + 1) X.A) (hg:Gl X x) (hm:X.mg x=some (.ref C)) (hb:Binds X.K fd ps ds) (hd:Vals dvs ds) (hx:Passes CX X E)
  (ha:PA X (e :: es) t) (hdb:(x == ("__debug__" : Str))=false:=by decide) (he:starEach (e :: es) X.env=(false,eval e X.env) :: starEach es X.env:=by rfl) (hpl:(backTo pos (starEach es X.env)).any (·.1)=false:=by rfl) :
  PE X (.Call (.Name x p) (e :: es) [] pos) (tMake C sp dvs E t):=by
 intro pins s σ H Q I h
 refine wpAny_Call_Name_kw (zah7 I hg hm ?_ hdb)
 refine PySem.W.callWith_K (h₀:=X.base) I.ok.mod.kin M.kp (thn (ha pos pins s σ H _ I h) fun us s1 ⟨vs,H1,I1,r,q⟩=>⟨I1.kIn,?_⟩) he hpl
 exact zanq M F hr hb hd hx I1 r q
end
structure FnScope (N P:List Str) (sc:Scope):Prop where
 kind:sc.kind=.function
 co:sc.isCoroutine=false
 gen:sc.isGenerator=false
 nd:N.Nodup
 pre:N.take P.length=P
 par:∀ x∈P,sc.names.lookup x=some .local∨sc.names.lookup x=some .cell
 nofree:∀ y∈sc.names,y.2≠.free
theorem zag4 {kindOf:Str→Option NameKind}{x:Str}:∀ {binds:List (Str × Value)}{m:Str→Option Value},(∀ v,(x,v) ∉ binds)→bindL kindOf binds m x=m x
 | [],_,_=>rfl
 | (n,v) :: r,m,h=>by
  unfold bindL
  rw [zag4 fun w hw=>h w (List.mem_cons_of_mem _ hw)]
  split
  ·have:x≠n:=by rintro rfl; exact h v List.mem_cons_self
   simp [this]
  ·rfl
theorem zag5 {kindOf:Str→Option NameKind}{x:Str}:∀ {binds:List (Str × Value)}{m:Str→Option Value},(∀ v,(x,v) ∉ binds)→bindC kindOf binds m x=m x
 | [],_,_=>rfl
 | (n,v) :: r,m,h=>by
  unfold bindC
  rw [zag5 fun w hw=>h w (List.mem_cons_of_mem _ hw)]
  split
  ·rfl
  ·have:x≠n:=by rintro rfl; exact h v List.mem_cons_self
   simp [this]
theorem zag6 {kindOf:Str→Option NameKind}{x:Str}{v:Value}:∀ {P:List Str}{vs:List Value}{i:Nat}{m:Str→Option Value},P.Nodup→P[i]?=some x→vs[i]?=some v→kindOf x=some .local →
  bindL kindOf (P.zip vs) m x=some v
 | [],_,_,_,_,h,_,_=>by simp at h
 | _ :: _,[],_,_,_,_,h,_=>by simp at h
 | p :: P,w :: vs,0,m,nd,h1,h2,hk=>by
  simp at h1 h2; subst h1; subst h2
  show bindL kindOf ((p,w) :: P.zip vs) m p=_
  unfold bindL
  rw [zag4 fun v hv=>(List.nodup_cons.mp nd).1 (List.of_mem_zip hv).1,if_pos hk]
  simp
 | p :: P,w :: vs,i + 1,m,nd,h1,h2,hk=>by
  show bindL kindOf ((p,w) :: P.zip vs) m x=_
  unfold bindL
  exact zag6 (i:=i) (List.nodup_cons.mp nd).2 (by simpa using h1) (by simpa using h2) hk
theorem zag7 {kindOf:Str→Option NameKind}{x:Str}{v:Value}:∀ {P:List Str}{vs:List Value}{i:Nat}{m:Str→Option Value},P.Nodup→P[i]?=some x→vs[i]?=some v→kindOf x≠some .local →
  bindC kindOf (P.zip vs) m x=some v
 | [],_,_,_,_,h,_,_=>by simp at h
 | _ :: _,[],_,_,_,_,h,_=>by simp at h
 | p :: P,w :: vs,0,m,nd,h1,h2,hk=>by
  simp at h1 h2; subst h1; subst h2
  show bindC kindOf ((p,w) :: P.zip vs) m p=_
  unfold bindC
  rw [zag5 fun v hv=>(List.nodup_cons.mp nd).1 (List.of_mem_zip hv).1,if_neg hk]
  simp
 | p :: P,w :: vs,i + 1,m,nd,h1,h2,hk=>by
  show bindC kindOf ((p,w) :: P.zip vs) m x=_
  unfold bindC
  exact zag7 (i:=i) (List.nodup_cons.mp nd).2 (by simpa using h1) (by simpa using h2) hk
def start (N:List Str) (vs:List V):St:=vs.map some++List.replicate (N.length - vs.length) none
def cxOf (CX:CXT) (P:Program) (w:World) (K:PySem.W.Frag) (mg:Str→Option Value) (base:Heap) (N:List Str) (qual:Str) (scope:Scope) (f:Addr) (cd:Value) (A:Around) (outer:List Env) (s:Shared) (H:Hp) (E:XK):Cx where
 prog:=P
 w:=w
 K:=K
 mg:=mg
 base:=base
 A:=A.deeper (envOfC qual scope s.heap.objs.size f cd)
 N:=N
 s₀:=s
 H₀:=H
 env:=envOfC qual scope s.heap.objs.size f cd
 outer:=outer
 stack:=envOfC qual scope s.heap.objs.size f cd :: outer
 ex:=[]
 calm:=true
 fn:=fun _=>true
 pn:=[]
 xe:=fun e s'=>wpAny (model P w) (A.deeper (envOfC qual scope s.heap.objs.size f cd)) (leaving (envOfC qual scope s.heap.objs.size f cd) e) (fun _ s''=>CX outer H s E e s'') (fun e' s''=>CX outer H s E e' s'') s'
theorem zai4 {sc:Scope}{n:Nat}{x:Str} (h:sc.names.lookup x=some .cell):∃ c,(cellsFrom n sc.names []).lookup x=some c:=by
 have q:=PySem.W.cellsFrom_some sc.names n [] (.inl h)
 exact Option.isSome_iff_exists.mp q
theorem zakq {CX:CXT}{P:Program}{w:World}{K:PySem.W.Frag}{mg:Str→Option Value}{base:Heap}{N ps:List Str}{qual:Str}{scope:Scope}{f:Addr}{cd:Value}{A:Around}{outer:List Env}{s s1:Shared}{H:Hp}{E:XK}{us:List Value}{vs:List V}
  (S:FnScope N ps scope) (hd:A.handled=none) (e0:Env0 P w K mg base A outer s H) (hl:vs.length=ps.length) (r:Vals vs us)
  (x:InCallC s s.heap.objs.size (bindL (envOfC qual scope s.heap.objs.size f cd).kindOf (ps.zip us) fun _=>none) (cellsFrom (s.heap.objs.size + 1) scope.names []) (bindC (envOfC qual scope s.heap.objs.size f cd).kindOf (ps.zip us) fun _=>none) s1) :
  Inv (cxOf CX P w K mg base N qual scope f cd A outer s H E) [] (start N vs) H s1:=by
 have hpl:ps.length≤N.length:=by have:=congrArg List.length S.pre; rw [List.length_take] at this; omega
 obtain ⟨h1,tk,rfl,hk⟩:=x.done
 have noA:∀ b:Addr,b ∉ (cxOf CX P w K mg base N qual scope f cd A outer s H E).ex:=fun b z=>absurd (show b∈([]:List Addr) from z) (by simp)
 refine ⟨⟨e0.mod,S.kind,rfl,rfl,Nat.le_refl _,fun y z c h1 h2=>?_,fun y hy=>?_,fun y c _ h=>?_,fun _=>hd,Around.frames_deeper e0.frames,.inr ⟨rfl,rfl⟩,fun b z=>absurd z (noA b),e0.bs,e0.bsz,fun b _ _=>noA b,fun b z=>absurd z (noA b),e0.funs,e0.frf⟩,
  rfl,e0.bare,Un.kept hk,⟨_,x.toInCall.ns,fun i y v h1 h2 h3=>?_⟩,fun y c h=>⟨_,x.cell y c h⟩,e0.hok.fresh (Nat.le_refl _),fun y c h=>?_,fun p hp=>absurd (show p∈([]:List (Addr × Obj)) from hp) (by simp),e0.hok.kept hk,?_⟩
 ·exact name_of_addr x.apart (PySem.mem_of_lookup h1) (PySem.mem_of_lookup h2)
 ·have hy:scope.names.lookup y=some .cell∨scope.names.lookup y=some .free:=hy
  rcases hy with hy | hy
  ·exact zai4 hy
  ·exact absurd rfl (S.nofree _ (PySem.mem_of_lookup hy))
 ·exact Nat.le_of_lt (x.above y c (PySem.mem_of_lookup h))
 ·have hi:i < vs.length:=by
   unfold start at h2
   by_cases hi:i < vs.length
   ·exact hi
   ·rw [List.getElem?_append_right (by simpa using hi)] at h2
    rw [List.getElem?_replicate] at h2
    split at h2 <;> cases h2
  have ha:vs[i]?=some v:=by
   unfold start at h2
   rw [List.getElem?_append_left (by simpa using hi),List.getElem?_map] at h2
   cases e:vs[i]? with
   | none=>rw [e] at h2; cases h2
   | some a=>rw [e] at h2; cases h2; rfl
  obtain ⟨u,hu,rv⟩:=r.get ha
  have hp:ps[i]?=some y:=by
   rw [← S.pre,List.getElem?_take_of_lt (by omega)]; exact h1
  have ndP:ps.Nodup:=by rw [← S.pre]; exact S.nd.sublist (List.take_sublist _ _)
  refine ⟨u,rv,?_⟩
  rcases S.par y (List.mem_of_getElem? hp) with k | k
  ·exact .inl ⟨k,zag6 ndP hp hu k⟩
  ·obtain ⟨c,e⟩:=zai4 (n:=s.heap.objs.size + 1) k
   refine .inr ⟨.inl k,c,e,?_⟩
   have q:=x.cell y c e
   rw [zag7 ndP hp hu (by show scope.names.lookup y≠_; rw [k]; decide)] at q
   exact q
 ·exact e0.hok.fresh (Nat.le_of_lt (x.above y c (PySem.mem_of_lookup h)))
 ·unfold start
  show _=N.length
  rw [List.length_append,List.length_map,List.length_replicate]
  omega
theorem zatn {CX:CXT}{P:Program}{w:World}{K:PySem.W.Frag}{mg:Str→Option Value}{base:Heap}{k:Nat}{f:Addr}{name qual:Str}{params:Arguments}{body:List Stmt}{scope:Scope}{dV kV doc pm cdv ct oc:Value}{an od:Option Addr}
  {osl:Array (Option Value)}{N ps:List Str}{sp:Sp} (lk:K.lookup f=some ⟨oc,od,.func (PySem.W.fnOf name qual params body scope dV kV doc pm an cdv ct),osl⟩) (hcd:PySem.W.codeIn K cdv qual=true) (S:FnScope N ps scope)
  (len:∀ vs H Q E,sp vs H Q E→vs.length=ps.length)
  (hbody:∀ (A:Around) (outer:List Env) (s:Shared) (H:Hp) (vs:List V) (Q:VK) (E:XK),Room k (A.deeper (envOfC qual scope s.heap.objs.size f cdv))→sp vs H Q E →
   ∃ t,PSs (cxOf CX P w K mg base N qual scope f cdv A outer s H E) body t∧t { nx:=fun _ H'=>Q .non H',rt:=Q } (start N vs) H) :
  FnOk P w K mg base CX (k + 1) f (PySem.W.fnOf name qual params body scope dV kV doc pm an cdv ct) ps sp:=by
 refine ⟨len,fun A outer s H args us vs Q E hr e0 hb r hsp=>?_⟩
 have hl:=len _ _ _ _ hsp
 have KX:K.In s.heap:=e0.mod.kin.keeps fun b o e=>(e0.bs b o e).1
 have lim:s.heap.NoLimit:=e0.mod.nolimit.keeps fun b o e=>(e0.bs b o e).1
 have hkind:∀ y∈ps.zip us,scope.names.lookup y.1=some .local∨(scope.names.lookup y.1=some .cell∧((cellsFrom (s.heap.objs.size + 1) scope.names []).lookup y.1).isSome=true):=fun ⟨n,v⟩ hy=>by
  rcases S.par n (List.of_mem_zip hy).1 with q | q
  ·exact .inl q
  ·exact .inr ⟨q,PySem.W.cellsFrom_some _ _ _ (.inl q)⟩
 refine codeAny_call_function hr.depth (KX _ _ lk) rfl S.co S.gen rfl (PySem.W.codeRec_of KX hcd) (hb _ _ _ _ ?_)
 refine wpAny_newFunctionEnv_cells S.kind hkind fun env he s1 x=>?_
 subst he
 refine ⟨lim.keeps x.toInCall.keep,codeAny_func ?_⟩
 obtain ⟨t,ht,hq⟩:=hbody A outer s H vs Q E (hr.deeper _) hsp
 have I:Inv (cxOf CX P w K mg base N qual scope f cdv A outer s H E) [] (start N vs) H s1:=zakq S hr.hd e0 hl r x
 refine wpAny_mono (ht [] s1 (start N vs) H _ I hq) (fun fl s' hs=>?_) fun e s' hs=>hs
 have fin:∀ {σ':St}{H':Hp}{v:V}{u:Value},Inv (cxOf CX P w K mg base N qual scope f cdv A outer s H E) [] σ' H' s'→RelV v u→Q v H'→CE outer P w H s Q u s' :=
  fun {σ' H' v u} J rv q=>⟨v,H',J.os,J.bare,J.base,J.hok,rv,q⟩
 cases fl with
 | ret u =>
  obtain ⟨v,σ',H',J,rv,q⟩:=hs
  exact fin J rv q
 | next =>
  obtain ⟨σ',H',J,q⟩:=hs
  exact fin (v:=V.non) (u:=Value.none) J rfl q
 | brk =>
  obtain ⟨_,_,_,q⟩:=hs
  exact False.elim q
 | cont =>
  obtain ⟨_,_,_,q⟩:=hs
  exact False.elim q
section
variable {X:Cx}{x:Str}{p pos:Pos}{e:Expr}{es:List Expr}{t:TA}{id T:String}{r:List V→Hp→VK→Prop}
def tCB (r:List V→Hp→VK→Prop) (t:TA):TE:=fun σ H Q=>t σ H fun vs H1=>r vs H1 Q
theorem zanr (hc:CallR X (.builtin id) r) (hg:Gl X x) (hm:X.mg x=none) (hv:bootBuiltins x=some (.builtin id)) (ha:PA X (e :: es) t) (hn:x ≠ "__name__" := by decide) (hdb:(x == ("__debug__" : Str))=false:=by decide)
  (he:starEach (e :: es) X.env=(false,eval e X.env) :: starEach es X.env:=by rfl) (hpl:(backTo pos (starEach es X.env)).any (·.1)=false:=by rfl):PE X (.Call (.Name x p) (e :: es) [] pos) (tCB r t):=by
 intro pins s σ H Q I h
 refine wpAny_Call_Name_kw (zadp I hg hm hv ?_ hn hdb)
 exact PyProof.Rows.callWith_builtin1 (thn (ha pos pins s σ H _ I h) fun us s1 ⟨vs,H1,I1,r1,q1⟩=>hc pins s1 σ H1 vs us Q I1 r1 q1) he hpl
theorem zakr (hc:CallR X (.type T) r) (hg:Gl X x) (hm:X.mg x=none) (hv:bootBuiltins x=some (.type T)) (ha:PA X (e :: es) t) (hn:x ≠ "__name__" := by decide) (hdb:(x == ("__debug__" : Str))=false:=by decide)
  (he:starEach (e :: es) X.env=(false,eval e X.env) :: starEach es X.env:=by rfl) (hpl:(backTo pos (starEach es X.env)).any (·.1)=false:=by rfl):PE X (.Call (.Name x p) (e :: es) [] pos) (tCB r t):=by
 intro pins s σ H Q I h
 refine wpAny_Call_Name_kw (zadp I hg hm hv ?_ hn hdb)
 exact PyProof.Rows.callWith_type1 (thn (ha pos pins s σ H _ I h) fun us s1 ⟨vs,H1,I1,r1,q1⟩=>hc pins s1 σ H1 vs us Q I1 r1 q1) he hpl
end
end L2
namespace HT
open PySem PyProof.Rows
section
variable {prog:Program}{w:World}{A:Around}{E:Value→Shared→Prop}{s:Shared}
def sIx (n d:Nat):Option Int→Nat
 | none=>d
 | some v=>if v < 0 then (v + (n:Int)).toNat else min v.toNat n
theorem sIx_none (n d:Nat):sIx n d none=d:=rfl
theorem sIx_nat (n d k:Nat):sIx n d (some (k:Int))=min k n:=by
 show (if (k:Int) < 0 then ((k:Int) + (n:Int)).toNat else min (k:Int).toNat n)=min k n
 rw [if_neg (by omega),Int.toNat_natCast]
theorem zar6 (n d:Nat) (hd:d≤n) (o:Option Int):sIx n d o≤n:=by
 cases o with
 | none=>exact hd
 | some v =>
  show (if v < 0 then (v + (n:Int)).toNat else min v.toNat n)≤n
  by_cases hv:v < 0
  ·rw [if_pos hv]; omega
  ·rw [if_neg hv]; exact Nat.min_le_right _ _
theorem zaks (v:Int) (n d:Nat):(if v < 0 then max (v + (n:Int)) 0 else min v (n:Int))=((sIx n d (some v):Nat):Int):=by
 show (if v < 0 then max (v + (n:Int)) 0 else min v (n:Int))=(((if v < 0 then (v + (n:Int)).toNat else min v.toNat n):Nat):Int)
 by_cases hv:v < 0
 ·simp only [if_pos hv]; omega
 ·simp only [if_neg hv]; omega
theorem zajw (lo hi:Option Int) (n:Nat):Builtin.Slice.sliceAdjust lo hi 1 (n:Int)=(((sIx n 0 lo:Nat):Int),((sIx n n hi:Nat):Int)):=by
 have h1:¬ ((1:Int) < 0):=by omega
 unfold Builtin.Slice.sliceAdjust
 simp only [h1,if_false]
 refine Prod.ext ?_ ?_
 ·cases lo with
  | none=>rfl
  | some v=>exact zaks v n 0
 ·cases hi with
  | none=>rfl
  | some v=>exact zaks v n n
theorem zajx (i j:Nat):Builtin.Slice.slicePlaces (i:Int) (j:Int) 1=j - i:=by
 unfold Builtin.Slice.slicePlaces
 have h1:(1:Int) > 0:=by omega
 simp only [h1,if_true,Int.ediv_one]
 split <;> omega
theorem zafw {v:Value}{o:Option Int}{Q:Option Int→Shared→Prop} (p:IsPart v o) (h:Q o s):wpAny (model prog w) A (Builtin.Slice.slicePartIndex v) Q E s:=by
 cases p with
 | none=>exact slicePart_none h
 | int i t=>exact slicePart_int h
theorem zaeh {sl:Addr}{vl vu:Value}{lo hi:Option Int}{n:Nat}{Q:Int × Int × Nat→Shared→Prop} (hs:s.heap.IsSliceOf sl vl vu .none) (pl:IsPart vl lo) (pu:IsPart vu hi)
  (h:Q (((sIx n 0 lo:Nat):Int),1,sIx n n hi - sIx n 0 lo) s):wpAny (model prog w) A (Builtin.Slice.sliceApplied (.ref sl) (pure (n:Int))) Q E s:=by
 obtain ⟨os,hos,hcs,hds⟩:=id hs
 unfold Builtin.Slice.sliceApplied Builtin.Slice.sliceFields
 refine wpAny_bind (wpAny_bind (wpAny_field hos hds (x:=vl) rfl (wpAny_bind (wpAny_field hos hds (x:=vu) rfl (wpAny_bind (wpAny_field hos hds (x:=.none) rfl (wpAny_pure ?_)))))))
 refine wpAny_bind (slicePart_none ?_)
 show wpAny _ _ (if ((1:Int) == 0)=true then _ else _) _ _ s
 rw [if_neg (by decide)]
 refine wpAny_bind (zafw pl (wpAny_bind (zafw pu (wpAny_bind (wpAny_pure ?_)))))
 show wpAny _ _ (match Builtin.Slice.sliceAdjust lo hi 1 (n:Int) with | (lo,hi)=>pure (lo,(1:Int),Builtin.Slice.slicePlaces lo hi 1)) _ _ s
 rw [zajw lo hi n]
 show wpAny _ _ (pure (((sIx n 0 lo:Nat):Int),(1:Int),Builtin.Slice.slicePlaces ((sIx n 0 lo:Nat):Int) ((sIx n n hi:Nat):Int) 1)) _ _ s
 rw [zajx]
 exact wpAny_pure h
theorem zans (xs:Array Value) (i k:Nat):((List.range k).filterMap fun (m:Nat)=>xs[((i:Int) + (m:Int) * 1).toNat]?).toArray=((xs.toList.drop i).take k).toArray:=by
 have e:(fun (m:Nat)=>xs[((i:Int) + (m:Int) * 1).toNat]?)=fun m=>xs[i + m]?:=by
  funext m
  have:((i:Int) + (m:Int) * 1).toNat=i + m:=by omega
  rw [this]
 rw [e]
 have:=pick_run xs i k
 rw [List.filterMap_map] at this
 have e2:((fun x=>xs[x]?) ∘ fun x=>i + x)=fun m=>xs[i + m]?:=rfl
 rw [e2] at this
 rw [this]
theorem getItem_tuple_cut {t sl:Addr}{items:Array Value}{vl vu:Value}{lo hi:Option Int}{Q:Value→Shared→Prop} (ht:IsTup s.heap t items) (hs:s.heap.IsSliceOf sl vl vu .none) (pl:IsPart vl lo) (pu:IsPart vu hi)
  (hw:¬ (sIx items.size 0 lo=0∧sIx items.size items.size hi=items.size))
  (h:Q (.ref s.heap.objs.size) { s with heap:=s.heap.push { cls:=.type "tuple",data:=.seq ((items.toList.drop (sIx items.size 0 lo)).take (sIx items.size items.size hi - sIx items.size 0 lo)).toArray } })
  (hsz:items.size≤sizeLine):wpAny (model prog w) A (getItem (.ref t) (.ref sl)) Q E s:=by
 have htake:sizeOk (.seq ((items.toList.drop (sIx items.size 0 lo)).take (sIx items.size items.size hi - sIx items.size 0 lo)).toArray):=by
  show ((items.toList.drop (sIx items.size 0 lo)).take (sIx items.size items.size hi - sIx items.size 0 lo)).toArray.size≤sizeLine
  rw [List.size_toArray,List.length_take,List.length_drop,Array.length_toList]
  omega
 have hj:sIx items.size items.size hi≤items.size:=zar6 _ _ (Nat.le_refl _) hi
 obtain ⟨os,hos,hcs,hds⟩:=id hs
 have hTs:s.TypeIs (.ref sl) "slice" := ⟨os,hos,hcs⟩
 unfold getItem
 try with_reducible refine wpAny_holding ?_
 first | refine wpAny_bind (wpAny_pure ?_) | skip
 refine wpAny_bind (wpAny_sequenceKey ht.typeIs (by decide) ?_)
 refine wpAny_bind (wpAny_callSpecial?_slot (name:=Str.ofString "__getitem__") ht.typeIs PyProof.Rows.slot_tuple_getitem
  (wpAny_call_entry PyProof.Rows.slot_tuple_getitem ht.typeIs entry_tuple_getitem ?_ (args_tuple_getitem _ _)))
 show wpAny _ _ (Builtin.Tuple.tupleItemsOf (.ref t) >>= _) _ _ s
 refine wpAny_bind (tupleItemsOf_ ht ?_)
 refine wpAny_bind (wpAny_typeOf hTs ?_)
 rw [if_pos (by decide)]
 refine wpAny_bind (zaeh hs pl pu ?_)
 have hno:¬ ((((sIx items.size 0 lo:Nat):Int) == 0 && (1:Int) == 1 && (sIx items.size items.size hi - sIx items.size 0 lo) == items.size)=true):=by
  intro q
  rw [Bool.and_eq_true,Bool.and_eq_true] at q
  have q1:((sIx items.size 0 lo:Nat):Int)=0:=eq_of_beq q.1.1
  have q2:sIx items.size items.size hi - sIx items.size 0 lo=items.size:=eq_of_beq q.2
  exact hw ⟨by omega,by omega⟩
 show wpAny _ _ (if (((sIx items.size 0 lo:Nat):Int) == 0 && (1:Int) == 1 && (sIx items.size items.size hi - sIx items.size 0 lo) == items.size)=true then _ else _) _ _ s
 rw [if_neg hno,zans]
 first
  | exact wpAny_bind (m:=Builtin.Tuple.tupleExact _) (wpAny_newObj_type (wpAny_pure ⟨_,rfl,wpAny_pure h⟩) htake)
  | exact wpAny_bind (m:=Builtin.Tuple.tupleExact _) (wpAny_newObj_type (wpAny_bind (wpAny_pure (wpAny_pure ⟨_,rfl,wpAny_pure h⟩))) htake)
  | exact wpAny_bind (wpAny_bind (m:=Builtin.Tuple.tupleExact _) (wpAny_newObj_type (wpAny_pure (wpAny_pure ⟨_,rfl,wpAny_pure h⟩)) htake))
  | exact wpAny_bind (wpAny_bind (m:=Builtin.Tuple.tupleExact _) (wpAny_newObj_type (wpAny_pure ⟨_,rfl,wpAny_pure h⟩) htake))
end
end HT
namespace L2
open PySem PySem.Spec PyProof.Rows
abbrev TO:=St→Hp→(Option Int→Hp→Prop)→Prop
def PO (X:Cx) (e:Option Expr) (t:TO):Prop :=
 ∀ (pins:List (Addr × Obj)) (s:Shared) (σ:St) (H:Hp) (Q:Option Int→Hp→Prop),Inv X pins σ H s→t σ H Q →
  wpAny (model X.prog X.w) X.A (evalPart e X.env) (fun u s'=>∃ o H',Inv X pins σ H' s'∧IsPart u o∧Q o H') X.xe s
def tNoPart:TO:=fun _ H Q=>Q none H
def tPart (t:TE):TO:=fun σ H Q=>t σ H fun x H1=>∃ i,x=.int i∧Q (some i) H1
section
variable {X:Cx}{e:Expr}{te:TE}{lo hi:Option Expr}{tl th:TO}{pos p2:Pos}
theorem zapx:PO X none tNoPart:=by
 intro pins s σ H Q I h
 rw [evalPart_none]
 exact wpAny_pure ⟨none,H,I,.none,h⟩
theorem zapy (h:PE X e te):PO X (some e) (tPart te):=by
 intro pins s σ H Q I hw
 rw [evalPart_some]
 refine thn (h pins s σ H _ I hw) fun u s1 ⟨x,H1,I1,r1,q1⟩=>?_
 obtain ⟨i,rfl,q⟩:=q1
 obtain ⟨t,rfl⟩:=r1
 exact ⟨some i,H1,I1,.int i t,q⟩
def SlR (X:Cx) (r:V→Option Int→Option Int→Hp→VK→Prop):Prop :=
 ∀ (pins:List (Addr × Obj)) (s:Shared) (σ:St) (H:Hp) (x:V) (v vl vu:Value) (lo hi:Option Int) (sl:Addr) (Q:VK),Inv X pins σ H s→RelV x v→s.heap.IsSliceOf sl vl vu .none→IsPart vl lo→IsPart vu hi→r x lo hi H Q →
  ∃ T id,typeLookup (.type T) "__getitem__" = pure (some (.builtin id))∧s.TypeIs v T∧wpAny (model X.prog X.w) X.A (getItem v (.ref sl)) (EP X pins σ Q) X.xe s
def tSl (r:V→Option Int→Option Int→Hp→VK→Prop) (te:TE) (tl th:TO):TE:=fun σ H Q=>te σ H fun x H1=>tl σ H1 fun l H2=>th σ H2 fun u H3=>r x l u H3 Q
theorem zant {r:V→Option Int→Option Int→Hp→VK→Prop} (hr:SlR X r) (he:PE X e te) (hl:PO X lo tl) (hu:PO X hi th):PE X (.Subscript e (.Slice lo hi none p2) pos) (tSl r te tl th):=by
 intro pins s σ H Q I h
 refine Subscript_ (thn (he pins s σ H _ I h) fun v s1 ⟨x,H1,I1,r1,q1⟩=>?_)
 refine wpAny_Slice (thn (hl pins s1 σ H1 _ I1 q1) fun vl s2 ⟨l,H2,I2,pl,q2⟩=>thn (hu pins s2 σ H2 _ I2 q2) fun vu s3 ⟨u,H3,I3,pu,q3⟩=>?_)
 rw [evalPart_none]
 refine wpAny_pure ?_
 have I4:Inv X pins σ H3 { s3 with heap:=s3.heap.push { cls:=.type "slice",data:=.fields #[vl,vu,.none] } }:=I3.kept (t':=s3.toks) fun b ob q=>Heap.get?_push_of_some _ q
 obtain ⟨T,id,hT,ht,hg⟩:=hr pins { s3 with heap:=s3.heap.push { cls:=.type "slice",data:=.fields #[vl,vu,.none] } } σ H3 x v vl vu l u s3.heap.objs.size Q I4 r1 (Heap.IsSliceOf.new ..) pl pu q3
 show wpAny (model X.prog X.w) X.A (subscriptTail e (.Slice lo hi none p2) v (.ref s3.heap.objs.size)) (EP X pins σ Q) X.xe { s3 with heap:=s3.heap.push { cls:=.type "slice",data:=.fields #[vl,vu,.none] } }
 exact tail_any (ops:=[.ref s3.heap.objs.size,v]) ht hT hg (by with_unfolding_all rfl)
def cutV (xs:List V) (lo hi:Option Int):List V:=(xs.drop (HT.sIx xs.length 0 lo)).take (HT.sIx xs.length xs.length hi - HT.sIx xs.length 0 lo)
theorem zae0 (xs:List V) (lo hi:Option Int):(cutV xs lo hi).length≤xs.length:=by
 unfold cutV
 rw [List.length_take,List.length_drop]
 omega
def rSlT (K:PySem.W.Frag):V→Option Int→Option Int→Hp→VK→Prop:=fun x lo hi H Q=>∃ a xs,x=.ref a∧SqT K H a xs ∧
 ¬ (HT.sIx xs.length 0 lo=0∧HT.sIx xs.length xs.length hi=xs.length)∧∀ p,H p=none→Q (.ref p) (upd H p (.tup (cutV xs lo hi)))
theorem zae1:SlR X (rSlT X.K):=by
 intro pins s σ H x v vl vu lo hi sl Q I rx hs pl pu h
 obtain ⟨a,xs,rfl,hx,hw,q⟩:=h
 cases rx
 obtain ⟨its,r,ht,hz⟩:=I.tuple hx
 have hlen:its.toArray.size=xs.length:=by rw [List.size_toArray]; exact r.length.symm
 refine ⟨"tuple",_,PyProof.Rows.slot_tuple_getitem.lookup,ht.typeIs,?_⟩
 refine HT.getItem_tuple_cut ht hs pl pu (by rw [hlen]; exact hw) ?_ (by rw [hlen]; exact hz)
 rw [hlen]
 refine ⟨.ref s.heap.objs.size,_,I.laid (t':=s.toks) (o:=.tup (cutV xs lo hi)) (fun b ob q=>Heap.get?_push_of_some _ q) (Nat.le_refl _) ?_,rfl,q _ (I.hok.fresh (Nat.le_refl _))⟩
 exact ⟨Nat.le_trans (zae0 xs lo hi) hz,_,(r.drop (HT.sIx xs.length 0 lo)).take (HT.sIx xs.length xs.length hi - HT.sIx xs.length 0 lo),IsTup.new _ _⟩
end
def ixN (n:Nat) (i:Int):Option Nat:=if 0≤i then (if i < n then some i.toNat else none) else if -(n:Int)≤i then some (i + n).toNat else none
def atI {α:Type} (xs:List α) (i:Int):Option α:=(ixN xs.length i).bind fun j=>xs[j]?
theorem zakt {n:Nat}{i:Int}{j:Nat} (h:ixN n i=some j):seqIndex? i n=some j∧j < n∧-(n:Int)≤i∧i < n:=by
 unfold ixN at h
 by_cases h0:0≤i
 ·rw [if_pos h0] at h
  by_cases h1:i < n
  ·rw [if_pos h1] at h
   have e:i.toNat=j:=Option.some.inj h
   exact ⟨by rw [seqIndex_of h0 h1,e],by omega,by omega,h1⟩
  ·rw [if_neg h1] at h; cases h
 ·rw [if_neg h0] at h
  by_cases h1:-(n:Int)≤i
  ·rw [if_pos h1] at h
   have e:(i + n).toNat=j:=Option.some.inj h
   exact ⟨by rw [seqIndex_neg (by omega) h1,e],by omega,h1,by omega⟩
  ·rw [if_neg h1] at h; cases h
theorem zaku {α:Type}{xs:List α}{i:Int}{v:α} (h:atI xs i=some v):∃ j,seqIndex? i xs.length=some j∧xs[j]?=some v∧j < xs.length∧-(xs.length:Int)≤i∧i < xs.length:=by
 unfold atI at h
 cases e:ixN xs.length i with
 | none=>rw [e] at h; cases h
 | some j =>
  rw [e] at h
  obtain ⟨h1,h2,h3,h4⟩:=zakt e
  exact ⟨j,h1,h,h2,h3,h4⟩
theorem zab8 {α:Type}{xs:List α}{j:Nat}{v:α} (h:xs[j]?=some v):atI xs (j:Int)=some v:=by
 have hj:j < xs.length:=(List.getElem?_eq_some_iff.mp h).1
 have e:ixN xs.length (j:Int)=some j:=by
  unfold ixN
  rw [if_pos (by omega),if_pos (by omega)]; simp
 unfold atI; rw [e]; exact h
def PlainIx (b:Expr):Prop:=∀ o i,subscripted b false o i=operate [o,i] (getItem o i)
def IxR (X:Cx) (r:R2):Prop :=
 ∀ (value slice:Expr) (pins:List (Addr × Obj)) (s:Shared) (σ:St) (H:Hp) (x y:V) (v u:Value) (Q:VK),Inv X pins σ H s→RelV x v→RelV y u→r x y H Q →
  subscripted slice false v u=operate [v,u] (getItem v u)→wpAny (model X.prog X.w) X.A (subscriptTail value slice v u) (EP X pins σ Q) X.xe s
def MtR (X:Cx) (id:String) (r:V→List V→Hp→VK→Prop):Prop :=
 ∀ (pins:List (Addr × Obj)) (s:Shared) (σ:St) (H:Hp) (x:V) (xs:List V) (v:Value) (us:List Value) (Q:VK),Inv X pins σ H s→RelV x v→Vals xs us→r x xs H Q →
  wpAny (model X.prog X.w) X.A (call (.builtin id) (v :: us)) (EP X pins σ Q) X.xe s
section
variable {X:Cx}{a b:Expr}{ta tb:TE}{pos:Pos}
theorem zato {r:R2} (hr:IxR X r) (ha:PE X a ta) (hb:PE X b tb) (hs:PlainIx b):PE X (.Subscript a b pos) (tOp r ta tb):=by
 intro pins s σ H Q I h
 exact Subscript_ (binT ha hb I h fun v u s2 x y H2 I2 rx ry q=>hr a b pins s2 σ H2 x y v u Q I2 rx ry q (hs _ _))
def rIxL (K:PySem.W.Frag):R2:=fun x y H Q=>∃ p xs i v,x=.ref p∧y=.int i∧SqL K H p xs∧atI xs i=some v∧Q v H
def rIxT (K:PySem.W.Frag):R2:=fun x y H Q=>∃ p xs i v,x=.ref p∧y=.int i∧SqT K H p xs∧atI xs i=some v∧Q v H
theorem zapz:IxR X (rIxL X.K):=by
 intro value slice pins s σ H x y v u Q I rx ry h hs
 obtain ⟨p,xs,i,z,rfl,rfl,hq,he,q⟩:=h
 cases rx
 obtain ⟨t,rfl⟩:=ry
 obtain ⟨its,r,pl,hz⟩:=I.list hq
 obtain ⟨j,h1,h2,h3,h4,h5⟩:=zaku he
 obtain ⟨w,ew,rw'⟩:=r.get h2
 have hl:=r.length
 have hn:=line63
 have fin:EP X pins σ Q w s:=⟨z,H,I,rw',q⟩
 by_cases h0:0≤i
 ·have hj:i.toNat=j:=by
   rw [seqIndex_of h0 h5] at h1
   exact Option.some.inj h1
  exact item_listR pl.isList h0 (by omega) (by rw [hj]; simpa using ew) fin hs
 ·have hj:(i + (its.toArray.size:Int)).toNat=j:=by
   rw [seqIndex_neg (by omega) h4] at h1
   rw [List.size_toArray,← hl]
   exact Option.some.inj h1
  exact subscriptTail_builtinR (x:=w) pl.isList.typeIs slot_list_getitem.lookup
   (wpAny_getItem_list_neg (Q:=fun r s'=>r=w∧EP X pins σ Q r s') pl.isList (by omega) (by rw [List.size_toArray] <;> omega) (by omega) (by rw [hj]; simpa using ew) ⟨rfl,fin⟩) hs
theorem zar7:IxR X (rIxT X.K):=by
 intro value slice pins s σ H x y v u Q I rx ry h hs
 obtain ⟨p,xs,i,z,rfl,rfl,hq,he,q⟩:=h
 cases rx
 obtain ⟨t,rfl⟩:=ry
 obtain ⟨its,r,pl,hz⟩:=I.tuple hq
 obtain ⟨j,h1,h2,h3,h4,h5⟩:=zaku he
 obtain ⟨w,ew,rw'⟩:=r.get h2
 have hl:=r.length
 have hn:=line63
 have fin:EP X pins σ Q w s:=⟨z,H,I,rw',q⟩
 exact subscriptTail_builtinR (x:=w) pl.typeIs slot_tuple_getitem.lookup
  (getItem_tuple (j:=j) (Q:=fun r s'=>r=w∧EP X pins σ Q r s') pl (by omega) (by omega) (by rw [List.size_toArray,← hl]; exact h1) (by simpa using ew) ⟨rfl,fin⟩) hs
theorem zajy (its:List Value) (n j:Nat) (u:Value):Obj.mapSeq (·.setIfInBounds j u) { cls:=.type "list",data:=.seq its.toArray n }={ cls:=.type "list",data:=.seq (its.set j u).toArray n }:=by
 simp [Obj.mapSeq]
theorem Inv.lst {pins:List (Addr × Obj)}{σ:St}{H:Hp}{s:Shared}{p:Addr}{xs:List V} (I:Inv X pins σ H s) (h:H p=some (.lst xs)) :
  ∃ (its:List Value) (n:Nat),Vals xs its∧s.heap.get? p=some { cls:=.type "list",data:=.seq its.toArray n }∧xs.length≤sizeLine:=by
 obtain ⟨z,its,n,r,e⟩:=I.hok p _ h
 exact ⟨its,n,r,e,z⟩
theorem Inv.lstUpd {pins:List (Addr × Obj)}{σ:St}{H:Hp}{s:Shared}{p:Addr}{xs ys:List V}{its its':List Value}{n n':Nat}{f:Obj→Obj} (I:Inv X pins σ H s) (h:H p=some (.lst xs))
  (ho:s.heap.get? p=some { cls:=.type "list",data:=.seq its.toArray n }) (hf:f { cls:=.type "list",data:=.seq its.toArray n }={ cls:=.type "list",data:=.seq its'.toArray n' }) (r:Vals ys its') (hz:ys.length≤sizeLine) (t:Nat) :
  Inv X pins σ (upd H p (.lst ys)) { s with heap:=s.heap.update p f,toks:=t }:=by
 have e:(s.heap.update p f).get? p=some { cls:=.type "list",data:=.seq its'.toArray n' }:=by
  rw [Heap.get?_update_self f ho (by rw [hf] <;> rfl),hf]
 refine I.write (x:=p) (e:=p) (by rw [h]; trivial) (.inl rfl) (fun b u hb q=>(Heap.get?_update_other _ _ (Ne.symm hb)).trans q) ⟨_,e⟩ ?_
 exact ⟨hz,its',n',r,e⟩
def rSetL:V→V→V→Hp→(Hp→Prop)→Prop:=fun o i v H Q=>∃ p xs k j,o=.ref p∧i=.int k∧H p=some (.lst xs)∧ixN xs.length k=some j∧Q (upd H p (.lst (xs.set j v)))
theorem zai5:PSet X rSetL:=by
 intro pins s σ H o i v ov iv u Q I ro ri rv h
 obtain ⟨p,xs,k,j,rfl,rfl,hp,hj,q⟩:=h
 cases ro
 obtain ⟨t,rfl⟩:=ri
 obtain ⟨its,n,r,ho,hz⟩:=I.lst hp
 obtain ⟨h1,h2,h3,h4⟩:=zakt hj
 have hl:=r.length
 have hn:=line63
 have I':Inv X pins σ (upd H p (.lst (xs.set j v))) { s with heap:=s.heap.update p (Obj.mapSeq (·.setIfInBounds j u)) } :=
  I.lstUpd hp ho (zajy its n j u) (r.set rv j) (by rw [List.length_set]; exact hz) s.toks
 by_cases h0:0≤k
 ·have hk:k.toNat=j:=by
   rw [seqIndex_of h0 h4] at h1
   exact Option.some.inj h1
  exact PySem.W.ki_setAt ho h0 (by omega) (by rw [List.size_toArray,← hl]; exact h4) (by rw [hk]; exact ⟨_,I',q⟩)
 ·have hk:(k + (its.toArray.size:Int)).toNat=j:=by
   rw [seqIndex_neg (by omega) h3] at h1
   rw [List.size_toArray,← hl]
   exact Option.some.inj h1
  exact PySem.W.ki_setBack ho (by omega) (by rw [List.size_toArray,← hl]; exact h3) (by omega) (by rw [hk]; exact ⟨_,I',q⟩)
theorem zag8 (lo hi:Option Int) (n:Nat):(sliceBounds lo hi none n).1=((HT.sIx n 0 lo:Nat):Int)∧(sliceBounds lo hi none n).2.1=((HT.sIx n n hi:Nat):Int)∧(sliceBounds lo hi none n).2.2=1:=by
 refine ⟨?_,?_,rfl⟩
 ·cases lo with
  | none=>simp [sliceBounds,HT.sIx]
  | some i =>
   simp only [sliceBounds,HT.sIx,Option.getD_none,show (1:Int) > 0 by decide,if_true]
   by_cases h:i < 0
   ·simp only [h,if_true] <;> omega
   ·simp only [h,if_false] <;> omega
 ·cases hi with
  | none=>simp [sliceBounds,HT.sIx]
  | some i =>
   simp only [sliceBounds,HT.sIx,Option.getD_none,show (1:Int) > 0 by decide,if_true]
   by_cases h:i < 0
   ·simp only [h,if_true] <;> omega
   ·simp only [h,if_false] <;> omega
theorem zaf8 (its:List Value) (lo hi:Option Int):slicePick its.toArray lo hi none=((its.drop (HT.sIx its.length 0 lo)).take (HT.sIx its.length its.length hi - HT.sIx its.length 0 lo)).toArray:=by
 obtain ⟨h1,h2,h3⟩:=zag8 lo hi its.toArray.size
 unfold slicePick
 rw [h1,h2,h3]
 simp only [sliceRange_one,pick_run,List.size_toArray] <;> rfl
def rSlL (K:PySem.W.Frag):V→Option Int→Option Int→Hp→VK→Prop:=fun x lo hi H Q=>∃ a xs,x=.ref a∧SqL K H a xs∧∀ p,H p=none→Q (.ref p) (upd H p (.lst (cutV xs lo hi)))
theorem zaia:SlR X (rSlL X.K):=by
 intro pins s σ H x v vl vu lo hi sl Q I rx hs pl pu h
 obtain ⟨a,xs,rfl,hx,q⟩:=h
 cases rx
 obtain ⟨its,r,ht,hz⟩:=I.list hx
 have hlen:=r.length
 refine ⟨"list",_,slot_list_getitem.lookup,ht.isList.typeIs,?_⟩
 refine wpAny_getItem_list_slice ht.isList hs pl pu .none (by simp) ?_ (by rw [List.size_toArray] <;> omega)
 rw [zaf8,← hlen]
 refine ⟨.ref s.heap.objs.size,_,I.laid (t':=s.toks) (o:=.lst (cutV xs lo hi)) (fun b ob q=>Heap.get?_push_of_some _ q) (Nat.le_refl _) ?_,rfl,q _ (I.hok.fresh (Nat.le_refl _))⟩
 exact ⟨Nat.le_trans (zae0 xs lo hi) hz,_,0,(r.drop (HT.sIx xs.length 0 lo)).take (HT.sIx xs.length xs.length hi - HT.sIx xs.length 0 lo),Heap.get?_push_size _ rfl⟩
def flatV:V→Bool
 | .non=>true
 | .bl _=>true
 | .int _=>true
 | .str _=>true
 | _=>false
def eqV:V→V→Bool
 | .non,.non=>true
 | .bl a,.bl b=>a == b
 | .bl a,.int b=>(if a then 1 else 0) == b
 | .int a,.bl b=>a == (if b then 1 else 0)
 | .int a,.int b=>a == b
 | .str a,.str b=>a == b
 | _,_=>false
theorem zaow {A:Around}{s:Shared}{y x:V}{u v:Value} (ry:RelV y u) (rx:RelV x v) (fy:flatV y=true) (fx:flatV x=true):SeqAt.EqAt A s u v (eqV y x):=by
 cases y with
 | non =>
  cases ry
  cases x with
  | non=>cases rx; exact SeqAt.EqAt.same _
  | bl b=>cases rx; exact SeqAt.EqAt.none_bool b
  | int b=>obtain ⟨t,rfl⟩:=rx; exact SeqAt.EqAt.none_int b t
  | str b=>obtain ⟨t,rfl⟩:=rx; exact SeqAt.EqAt.none_str b t
  | _=>exact absurd (show false=true from fx) Bool.false_ne_true
 | bl a =>
  cases ry
  cases x with
  | non=>cases rx; exact SeqAt.EqAt.bool_none a
  | bl b=>cases rx; exact SeqAt.EqAt.bool_bool a b
  | int b=>obtain ⟨t,rfl⟩:=rx; exact SeqAt.EqAt.bool_int a b t
  | str b=>obtain ⟨t,rfl⟩:=rx; exact SeqAt.EqAt.bool_str a b t
  | _=>exact absurd (show false=true from fx) Bool.false_ne_true
 | int a =>
  obtain ⟨t',rfl⟩:=ry
  cases x with
  | non=>cases rx; exact SeqAt.EqAt.int_none a t'
  | bl b=>cases rx; exact SeqAt.EqAt.int_bool a t' b
  | int b=>obtain ⟨t,rfl⟩:=rx; exact SeqAt.EqAt.int_int a t' b t
  | str b=>obtain ⟨t,rfl⟩:=rx; exact SeqAt.EqAt.int_str a t' b t
  | _=>exact absurd (show false=true from fx) Bool.false_ne_true
 | str a =>
  obtain ⟨t',rfl⟩:=ry
  cases x with
  | non=>cases rx; exact SeqAt.EqAt.str_none a t'
  | bl b=>cases rx; exact SeqAt.EqAt.str_bool a t' b
  | int b=>obtain ⟨t,rfl⟩:=rx; exact SeqAt.EqAt.str_int a t' b t
  | str b=>obtain ⟨t,rfl⟩:=rx; exact SeqAt.EqAt.str_str a t' b t
  | _=>exact absurd (show false=true from fx) Bool.false_ne_true
 | _=>exact absurd (show false=true from fy) Bool.false_ne_true
def eqU (x:V) (u:Value):Bool:=match u with
 | .none=>eqV .non x
 | .bool b=>eqV (.bl b) x
 | .int i _=>eqV (.int i) x
 | .str z _=>eqV (.str z) x
 | _=>false
theorem zaox {x y:V}{u:Value} (r:RelV y u) (f:flatV y=true):eqU x u=eqV y x:=by
 cases y with
 | non=>cases r; rfl
 | bl b=>cases r; rfl
 | int i=>obtain ⟨t,rfl⟩:=r; rfl
 | str z=>obtain ⟨t,rfl⟩:=r; rfl
 | _=>exact absurd (show false=true from f) Bool.false_ne_true
theorem zae2 {x:V}:∀ {xs:List V}{us:List Value},Vals xs us→xs.all flatV=true→us.any (eqU x)=xs.any fun y=>eqV y x
 | _,_,.nil,_=>rfl
 | y :: xs,u :: us,.cons r t,f=>by
  rw [List.all_cons,Bool.and_eq_true] at f
  rw [List.any_cons,List.any_cons,zaox r f.1,zae2 t f.2]
theorem zadq {A:Around}{s:Shared}{x:V}{v:Value} (rx:RelV x v) (fx:flatV x=true):∀ {xs:List V}{us:List Value},Vals xs us→xs.all flatV=true→∀ u∈us,SeqAt.EqAt A s u v (eqU x u)
 | _,_,.nil,_=>fun u hu=>by cases hu
 | y :: xs,u :: us,.cons r t,f=>fun u' hu=>by
  rw [List.all_cons,Bool.and_eq_true] at f
  rcases List.mem_cons.mp hu with rfl | hu
  ·rw [zaox r f.1]; exact zaow r rx f.1 fx
  ·exact zadq rx fx t f.2 u' hu
def inV (x:V) (xs:List V):Bool:=xs.any fun y=>eqV y x
def rIn (K:PySem.W.Frag) (neg:Bool):R2:=fun x y H Q=>∃ p xs,y=.ref p∧(SqL K H p xs∨SqT K H p xs)∧flatV x=true∧xs.all flatV=true∧Q (.bl (if neg then !inV x xs else inV x xs)) H
theorem zac5:OpR X (compareOp .In) (rIn X.K false):=by
 intro pins s σ H x y v u Q I rx ry h
 obtain ⟨p,xs,rfl,hq,fx,fs,q⟩:=h
 cases ry
 rcases hq with hq | hq
 ·obtain ⟨its,r,pl,hz⟩:=I.list hq
  refine SeqAt.in_listAt (eqU x) pl.isList (fun w hw=>zadq rx fx r fs w (by simpa using hw)) ⟨.bl _,H,I,rfl,?_⟩
  rw [show its.toArray.any (eqU x)=its.any (eqU x) by simp,zae2 r fs]
  exact q
 ·obtain ⟨its,r,pl,hz⟩:=I.tuple hq
  refine SeqAt.in_tupleAt (eqU x) pl (fun w hw=>zadq rx fx r fs w (by simpa using hw)) ⟨.bl _,H,I,rfl,?_⟩
  rw [show its.toArray.any (eqU x)=its.any (eqU x) by simp,zae2 r fs]
  exact q
theorem zac6:OpR X (compareOp .NotIn) (rIn X.K true):=by
 intro pins s σ H x y v u Q I rx ry h
 obtain ⟨p,xs,rfl,hq,fx,fs,q⟩:=h
 cases ry
 rcases hq with hq | hq
 ·obtain ⟨its,r,pl,hz⟩:=I.list hq
  refine SeqAt.notIn_listAt (eqU x) pl.isList (fun w hw=>zadq rx fx r fs w (by simpa using hw)) ⟨.bl _,H,I,rfl,?_⟩
  rw [show its.toArray.any (eqU x)=its.any (eqU x) by simp,zae2 r fs]
  exact q
 ·obtain ⟨its,r,pl,hz⟩:=I.tuple hq
  refine SeqAt.notIn_tupleAt (eqU x) pl (fun w hw=>zadq rx fx r fs w (by simpa using hw)) ⟨.bl _,H,I,rfl,?_⟩
  rw [show its.toArray.any (eqU x)=its.any (eqU x) by simp,zae2 r fs]
  exact q
theorem zaal:CallR X (.builtin "len") (fun xs H Q=>∃ p ys,xs=[.ref p]∧(SqL X.K H p ys∨SqT X.K H p ys)∧Q (.int ys.length) H):=by
 intro pins s σ H xs us Q I r h
 obtain ⟨p,ys,rfl,hq,q⟩:=h
 obtain ⟨u,rfl,rx⟩:=vals1 r
 cases rx
 have hn:=line63
 rcases hq with hq | hq
 ·obtain ⟨its,r',pl,hz⟩:=I.list hq
  have hlen:=r'.length
  exact Calls.call_len_list pl.isList (by simp only [List.size_toArray] <;> omega) ⟨.int ys.length,H,I.tok _,⟨s.toks + 1,by rw [List.size_toArray,hlen]⟩,q⟩
 ·obtain ⟨its,r',pl,hz⟩:=I.tuple hq
  have hlen:=r'.length
  exact len_tuple pl (by simp only [List.size_toArray] <;> omega) ⟨.int ys.length,H,I.tok _,⟨s.toks + 1,by rw [List.size_toArray,hlen]⟩,q⟩
theorem zacl:CallR X (.type "list") (fun xs H Q=>∃ p ys,xs=[.ref p]∧(SqL X.K H p ys∨SqT X.K H p ys)∧∀ l,H l=none→Q (.ref l) (upd H l (.lst ys))):=by
 intro pins s σ H xs us Q I r h
 obtain ⟨p,ys,rfl,hq,q⟩:=h
 obtain ⟨u,rfl,rx⟩:=vals1 r
 cases rx
 have fin:∀ (its:List Value),Vals ys its→ys.length≤sizeLine→∀ (h':Heap) (c':Nat),(∀ b o',s.heap.get? b=some o'→h'.get? b=some o') →
   h'.get? s.heap.objs.size=some { cls:=.type "list",dict:=none,data:=.seq its.toArray c',slots:=#[] }→EP X pins σ Q (.ref s.heap.objs.size) { s with heap:=h' }:=fun its r' hz h' c' kp e =>
  ⟨.ref s.heap.objs.size,_,I.laid (t':=s.toks) kp (Nat.le_refl _) (show ObjOk X.prog X.w _ h' _ (.lst ys) from ⟨hz,its,c',r',e⟩),rfl,q _ (I.hok.fresh (Nat.le_refl _))⟩
 rcases hq with hq | hq
 ·obtain ⟨its,r',pl,hz⟩:=I.list hq
  have hlen:=r'.length
  obtain ⟨o,ho,hc,n,hd⟩:=pl.isList
  exact call_list_seq p (.inl rfl) ho hc hd (fun h' c' kp e=>fin its r' hz h' c' kp e) (by simp only [List.size_toArray] <;> omega)
 ·obtain ⟨its,r',pl,hz⟩:=I.tuple hq
  have hlen:=r'.length
  obtain ⟨o,ho,hc,n,hd⟩:=pl
  exact call_list_seq p (.inr rfl) ho hc hd (fun h' c' kp e=>fin its r' hz h' c' kp e) (by simp only [List.size_toArray] <;> omega)
theorem zacs:CallR X (.type "tuple") (fun xs H Q=>∃ p ys,xs=[.ref p]∧((SqL X.K H p ys∧∀ l,H l=none→Q (.ref l) (upd H l (.tup ys)))∨(SqT X.K H p ys∧Q (.ref p) H))):=by
 intro pins s σ H xs us Q I r h
 obtain ⟨p,ys,rfl,h⟩:=h
 obtain ⟨u,rfl,rx⟩:=vals1 r
 cases rx
 rcases h with ⟨hq,q⟩ | ⟨hq,q⟩
 ·obtain ⟨its,r',pl,hz⟩:=I.list hq
  have hlen:=r'.length
  refine call_tuple_list pl.isList (fun h' kp=>?_) (by simp only [List.size_toArray] <;> omega)
  have I1:Inv X pins σ H { s with heap:=h' }:=I.kept (t':=s.toks) kp
  have I2:Inv X pins σ (upd H h'.objs.size (.tup ys)) { s with heap:=h'.push { cls:=.type "tuple",data:=.seq its.toArray } } :=
   I1.laid (t':=s.toks) (fun b o e=>Heap.get?_push_of_some _ e) (Nat.le_refl _) (show ObjOk X.prog X.w _ _ _ (.tup ys) from ⟨hz,its,r',IsTup.new _ _⟩)
  exact ⟨.ref h'.objs.size,_,I2,rfl,q _ (I1.hok.fresh (Nat.le_refl _))⟩
 ·obtain ⟨its,r',pl,hz⟩:=I.tuple hq
  exact call_tuple_same pl ⟨.ref p,H,I,rfl,q⟩
def tyV (K:PySem.W.Frag) (T:String) (x:V) (H:Hp):Prop:=match x with
 | .str _=>T = "str"
 | .int _=>T = "int"
 | .ref p=>(T = "list" ∧ ∃ xs,SqL K H p xs)∨(T = "tuple" ∧ ∃ o,K.lookup p=some o∧o.cls=.type "tuple" ∧ o.dict=none) ∨
   (T = "dict" ∧ ((∃ kvs,H p=some (.dK kvs))∨∃ kvs,H p=some (.dT kvs)))∨(T = "set" ∧ ∃ S n,H p=some (.set S n))
 | _=>False
theorem zaoy {pins:List (Addr × Obj)}{σ:St}{H:Hp}{s:Shared}{T:String}{x:V}{v:Value} (I:Inv X pins σ H s) (r:RelV x v) (ty:tyV X.K T x H) :
  s.TypeIs v T∧∀ a,v=.ref a→∃ ob,s.heap.get? a=some ob∧ob.dict=none:=by
 cases x with
 | str z =>
  obtain ⟨t,rfl⟩:=r
  cases (show T = "str" from ty)
  exact ⟨typeIs_str s z t,fun _ e=>nomatch e⟩
 | int i =>
  obtain ⟨t,rfl⟩:=r
  cases (show T = "int" from ty)
  exact ⟨typeIs_int s i t,fun _ e=>nomatch e⟩
 | ref p =>
  cases r
  rcases ty with ⟨rfl,xs,hq⟩ | ⟨rfl,o,hk,hc,hd⟩ | ⟨rfl,hk⟩ | ⟨rfl,S,n,hk⟩
  ·obtain ⟨its,_,pl,_⟩:=I.list hq
   refine ⟨pl.isList.typeIs,fun a e=>?_⟩
   cases e
   obtain ⟨o,n,e,c,hd,_⟩:=pl
   exact ⟨o,e,hd⟩
  ·refine ⟨⟨o,I.kIn p o hk,hc⟩,fun a e=>?_⟩
   cases e
   exact ⟨o,I.kIn _ o hk,hd⟩
  ·have z:∃ o,s.heap.get? p=some o∧o.ExactDict:=by
    rcases hk with ⟨kvs,hk⟩ | ⟨kvs,hk⟩
    ·obtain ⟨_,_,_,_,o,_,_,e,ex,_⟩:=I.hok p _ hk
     exact ⟨o,e,ex⟩
    ·obtain ⟨_,_,_,_,o,_,_,e,ex,_⟩:=I.hok p _ hk
     exact ⟨o,e,ex⟩
   obtain ⟨o,e,ex⟩:=z
   refine ⟨⟨o,e,ex.1⟩,fun a e2=>?_⟩
   cases e2
   exact ⟨o,e,ex.2.1⟩
  ·obtain ⟨o,_,_,_,e,ex,_⟩:=I.hok p _ hk
   refine ⟨⟨o,e,ex.1⟩,fun a e2=>?_⟩
   cases e2
   exact ⟨o,e,ex.2.1⟩
 | _=>exact False.elim ty
def tBM0 (K:PySem.W.Frag) (T:String) (r:V→List V→Hp→VK→Prop) (to:TE):TE:=fun σ H Q=>to σ H fun x H1=>tyV K T x H1∧r x [] H1 Q
def tBM (K:PySem.W.Frag) (T:String) (r:V→List V→Hp→VK→Prop) (to:TE) (t:TA):TE:=fun σ H Q=>to σ H fun x H1=>tyV K T x H1∧t σ H1 fun xs H2=>r x xs H2 Q
variable {o e:Expr}{es:List Expr}{to:TE}{t:TA}{name:Str}{apos cpos:Pos}{T id:String}{r:V→List V→Hp→VK→Prop}
theorem zar8 (pa:PlainAttrs T) (slot:Slot T name id) (hty:typeOf (.builtin id)=pure (.type "method_descriptor")) (hm:MtR X id r) (ho:PE X o to)
  (hbase:attributeBase o name X.env (eval o X.env)=eval o X.env:=by rfl) (hline:(apos.endLine == cpos.line)=true:=by rfl):PE X (.Call (.Attribute o name apos) [] [] cpos) (tBM0 X.K T r to):=by
 intro pins s σ H Q I h
 refine wpAny_Call_method0_late hbase hline (thn (ho pins s σ H _ I h) fun v s1 ⟨x,H1,I1,r1,ty,q1⟩=>?_)
 obtain ⟨h1,h2⟩:=zaoy I1 r1 ty
 exact ⟨T,id,pa,slot,hty,h1,h2,Calls.callWith_builtin rfl (PySem.evalArgs_none (hm pins s1 σ H1 x [] v [] Q I1 r1 .nil q1))⟩
theorem zatp (pa:PlainAttrs T) (slot:Slot T name id) (hty:typeOf (.builtin id)=pure (.type "method_descriptor")) (hm:MtR X id r) (ho:PE X o to) (ha:PA X (e :: es) t)
  (hbase:attributeBase o name X.env (eval o X.env)=eval o X.env:=by rfl)
  (hfew:((backTo cpos (starEach (e :: es) X.env)).all (fun x=>!x.1) && (backToKw cpos (keywordEach [] X.env)).all (fun x=>x.1.isSome)
   && decide ((e :: es).length + ([]:List Keyword).length + (if ([]:List Keyword).isEmpty then 0 else 1) < 30))=true:=by rfl)
  (hline:(apos.endLine == cpos.line)=true:=by rfl) (hs:starEach (e :: es) X.env=(false,eval e X.env) :: starEach es X.env:=by rfl) (hplain:(backTo cpos (starEach es X.env)).any (·.1)=false:=by rfl) :
  PE X (.Call (.Attribute o name apos) (e :: es) [] cpos) (tBM X.K T r to t):=by
 intro pins s σ H Q I h
 refine wpAny_Call_method_late hbase hfew hline rfl (thn (ho pins s σ H _ I h) fun v s1 ⟨x,H1,I1,r1,ty,q1⟩=>?_)
 obtain ⟨h1,h2⟩:=zaoy I1 r1 ty
 refine ⟨T,id,pa,slot,hty,h1,h2,?_⟩
 have hA:=ha cpos pins s1 σ H1 _ I1 q1
 rw [hs] at hA ⊢
 refine Calls.callWith_builtin (by show (false || (backTo cpos (starEach es X.env)).any (·.1))=false; rw [hplain] <;> rfl) (Calls.evalArgs_plain ?_)
 exact thn hA fun us s2 ⟨vs,H2,I2,r2,q2⟩=>hm pins s2 σ H2 x vs v us Q I2 r1 r2 q2
end
def MtM (X:Cx) (id:String) (r:V→List V→Hp→VK→Prop):Prop :=
 ∀ (pins:List (Addr × Obj)) (s:Shared) (σ:St) (H:Hp) (x:V) (xs:List V) (v:Value) (us:List Value) (Q:VK),Inv X pins σ H s→RelV x v→Vals xs us→r x xs H Q →
  wpAny (model X.prog X.w) X.A (call (.builtin id) (v :: us)) (EP X pins σ Q) X.xe s
theorem Vals.one:∀ {x:V}{us:List Value},Vals [x] us→∃ u,us=[u]∧RelV x u
 | _,_,.cons r .nil=>⟨_,rfl,r⟩
theorem Vals.zero:∀ {us:List Value},Vals [] us→us=[]
 | _,.nil=>rfl
theorem Vals.dropLast {xs:List V}{us:List Value} (h:Vals xs us):Vals xs.dropLast us.dropLast:=by
 induction h with
 | nil=>exact .nil
 | cons r t ih =>
  cases t with
  | nil=>exact .nil
  | cons q t'=>exact .cons r ih
theorem Vals.eraseIdx:∀ {xs:List V}{us:List Value} (i:Nat),Vals xs us→Vals (xs.eraseIdx i) (us.eraseIdx i)
 | _,_,_,.nil=>.nil
 | _,_,0,.cons _ t=>t
 | _,_,i + 1,.cons r t=>.cons r (Vals.eraseIdx i t)
theorem Vals.rep {xs:List V}{us:List Value} (h:Vals xs us):∀ k:Nat,Vals (List.replicate k xs).flatten (List.replicate k us).flatten
 | 0=>.nil
 | k + 1=>by
  rw [List.replicate_succ,List.replicate_succ,List.flatten_cons,List.flatten_cons]
  exact Vals.append h (Vals.rep h k)
theorem zajz {α:Type} (l:List α):l.eraseIdx (l.length - 1)=l.dropLast:=by
 induction l with
 | nil=>rfl
 | cons a r ih =>
  cases r with
  | nil=>rfl
  | cons b r =>
   have e:(a :: b :: r).length - 1=((b :: r).length - 1) + 1:=by
    have h1:(a :: b :: r).length=r.length + 2:=rfl
    have h2:(b :: r).length=r.length + 1:=rfl
    omega
   rw [e,List.eraseIdx_cons_succ,ih]
   all_goals rfl
theorem zag9 {α:Type}:∀ (l:List α) (i:Nat),(l.eraseIdx i).length≤l.length
 | [],_=>Nat.le_refl _
 | _ :: _,0=>Nat.le_succ _
 | _ :: r,i + 1=>Nat.succ_le_succ (zag9 r i)
theorem zaha (its:List Value):∀ (k:Nat) (acc:List Value),
  List.foldl (fun x1 x2=>x1++x2) acc.toArray (List.replicate k its.toArray)=(acc++(List.replicate k its).flatten).toArray
 | 0,acc=>by simp
 | k + 1,acc=>by
  have e:acc.toArray++its.toArray=(acc++its).toArray:=by simp
  have e2:(acc++its)++(List.replicate k its).flatten=acc++(List.replicate (k + 1) its).flatten:=by
   rw [List.replicate_succ,List.flatten_cons,List.append_assoc]
  rw [← e2,← zaha its k (acc++its),← e,List.replicate_succ,List.foldl_cons]
section
variable {X:Cx}{pins:List (Addr × Obj)}{σ:St}{H:Hp}{s:Shared}{l b:Addr}{xs ys zs:List V}
theorem Inv.lset {its its':List Value}{n:Nat}{f:Array Value→Array Value}{t':Nat} (I:Inv X pins σ H s) (hH:H l=some (.lst xs))
  (e:s.heap.get? l=some { cls:=.type "list",data:=.seq its.toArray n }) (hf:f its.toArray=its'.toArray) (hv:Vals ys its') (hz:ys.length≤sizeLine) :
  Inv X pins σ (upd H l (.lst ys)) { s with heap:=s.heap.update l (Obj.mapSeq f),toks:=t' }:=by
 have q:=PySem.IsL.update e f
 rw [hf] at q
 refine I.write (x:=l) (e:=l) (by rw [hH]; exact trivial) (.inl rfl) (fun b' u hb hu=>(Heap.get?_update_other s.heap (Obj.mapSeq f) (Ne.symm hb)).trans hu) ⟨_,q⟩ ?_
 exact ⟨hz,its',_,hv,q⟩
theorem Inv.lnew {its:List Value}{t':Nat} (I:Inv X pins σ H s) (hv:Vals ys its) (hz:ys.length≤sizeLine) :
  Inv X pins σ (upd H s.heap.objs.size (.lst ys)) { s with heap:=s.heap.push { cls:=.type "list",data:=.seq its.toArray },toks:=t' } :=
 I.laid (fun _ _ q=>Heap.get?_push_of_some _ q) (Nat.le_refl _) ⟨hz,its,0,hv,Heap.get?_push_size _ rfl⟩
theorem Inv.fresh (I:Inv X pins σ H s):H s.heap.objs.size=none:=I.hok.fresh (Nat.le_refl _)
theorem Inv.lstM (I:Inv X pins σ H s) (hH:H l=some (.lst xs)):xs.length≤sizeLine∧∃ (its:List Value) (n:Nat),Vals xs its∧xs.length=its.length∧s.heap.get? l=some { cls:=.type "list",data:=.seq its.toArray n }:=by
 obtain ⟨z,its,n,r,e⟩:=I.hok l _ hH
 exact ⟨z,its,n,r,r.length,e⟩
theorem notLongL {n:Nat} (h:n≤sizeLine):Builtin.List.listTooLong n=false:=by
 unfold Builtin.List.listTooLong
 exact decide_eq_false (by omega)
end
section
variable {X:Cx}
def rAppend:V→List V→Hp→VK→Prop:=fun x vs H Q=>∃ l xs y,x=.ref l∧vs=[y]∧H l=some (.lst xs)∧xs.length < sizeLine∧Q .non (upd H l (.lst (xs++[y])))
theorem zaa4:MtM X "list.append" rAppend:=by
 intro pins s σ H x vs v us Q I rx rv h
 obtain ⟨l,xs,y,rfl,rfl,hH,hz,q⟩:=h
 cases rx
 obtain ⟨u,rfl,ru⟩:=rv.one
 obtain ⟨z,its,n,r,hl,e⟩:=I.lstM hH
 refine call_meets F.slot_list_append ⟨_,e,rfl⟩ F.entry_list_append (F.args_list_append_2 _ _) (PySem.list_append l its.toArray n u (by rw [List.size_toArray]; omega)) ⟨e,?_⟩
 refine ⟨.non,_,I.lset (its':=its++[u]) hH e (by simp) (r.append (.cons ru .nil)) ?_,rfl,q⟩
 rw [List.length_append,List.length_singleton]
 omega
def rExtend:V→List V→Hp→VK→Prop:=fun x vs H Q=>∃ l b xs zs,x=.ref l∧vs=[.ref b]∧H l=some (.lst xs)∧H b=some (.lst zs)∧xs.length + zs.length≤sizeLine∧Q .non (upd H l (.lst (xs++zs)))
theorem zakv:MtM X "list.extend" rExtend:=by
 intro pins s σ H x vs v us Q I rx rv h
 obtain ⟨l,b,xs,zs,rfl,rfl,hH,hB,hz,q⟩:=h
 cases rx
 obtain ⟨u,rfl,ru⟩:=rv.one
 cases ru
 obtain ⟨z,its,n,r,hl,e⟩:=I.lstM hH
 obtain ⟨z2,its2,n2,r2,hl2,e2⟩:=I.lstM hB
 have hsz:its.toArray.size + its2.toArray.size≤sizeLine:=by rw [List.size_toArray,List.size_toArray]; omega
 have hlong:¬ (!its.toArray.isEmpty && Builtin.List.listTooLong (its.toArray.size + its2.toArray.size))=true:=by
  rw [notLongL hsz,Bool.and_false]
  exact Bool.false_ne_true
 refine call_meets F.slot_list_extend ⟨_,e,rfl⟩ F.entry_list_extend (F.args_list_extend_2 _ _)
  (AutoSeq1.list_extend_list_list_0 l its.toArray n b its2.toArray n2 hlong (by rw [List.size_toArray]; omega) (by omega)) ⟨e,e2,?_⟩
 refine ⟨.non,_,I.lset (its':=its++its2) hH e (by simp) (r.append r2) ?_,rfl,q⟩
 rw [List.length_append]
 omega
def rPop:V→List V→Hp→VK→Prop:=fun x vs H Q=>∃ l xs y,x=.ref l∧vs=[]∧H l=some (.lst xs)∧xs[xs.length - 1]?=some y∧Q y (upd H l (.lst xs.dropLast))
theorem zar9:MtM X "list.pop" rPop:=by
 intro pins s σ H x vs v us Q I rx rv h
 obtain ⟨l,xs,y,rfl,rfl,hH,hy,q⟩:=h
 cases rx
 have hus:=rv.zero
 subst hus
 obtain ⟨z,its,n,r,hl,e⟩:=I.lstM hH
 obtain ⟨u,hu,ru⟩:=r.get hy
 have hy':its.toArray[its.toArray.size - 1]?=some u:=by
  show its.toArray[its.length - 1]?=some u
  rw [← Array.getElem?_toList,← hl]
  exact hu
 refine call_meets F.slot_list_pop ⟨_,e,rfl⟩ F.entry_list_pop (F.args_list_pop_1 _) (MeetsSeq.list_pop_last l its.toArray n u hy' (by rw [List.size_toArray]; omega)) ⟨e,?_⟩
 refine ⟨y,_,I.lset (its':=its.dropLast) hH e ?_ r.dropLast ?_,ru,q⟩
 ·show its.toArray.eraseIdxIfInBounds (its.toArray.size - 1)=its.dropLast.toArray
  rw [List.size_toArray,List.eraseIdxIfInBounds_toArray,zajz]
 ·rw [List.length_dropLast]
  omega
def rPopAt:V→List V→Hp→VK→Prop:=fun x vs H Q=>∃ l xs i k y,x=.ref l∧vs=[.int i]∧H l=some (.lst xs)∧-(2 ^ 63)≤i∧i < 2 ^ 63∧seqIndex? i xs.length=some k∧xs[k]?=some y∧Q y (upd H l (.lst (xs.eraseIdx k)))
theorem zai6:MtM X "list.pop" rPopAt:=by
 intro pins s σ H x vs v us Q I rx rv h
 obtain ⟨l,xs,i,k,y,rfl,rfl,hH,h1,h2,hk,hy,q⟩:=h
 cases rx
 obtain ⟨u,rfl,ru⟩:=rv.one
 obtain ⟨t,rfl⟩:=ru
 obtain ⟨z,its,n,r,hl,e⟩:=I.lstM hH
 obtain ⟨w,hw,rw'⟩:=r.get hy
 refine call_meets F.slot_list_pop ⟨_,e,rfl⟩ F.entry_list_pop (F.args_list_pop_2 _ _)
  (MeetsSeq.list_pop_at l its.toArray n i t k w (fitsIndex_both h1 h2) (by rw [List.size_toArray,← hl]; exact hk) (by rw [← Array.getElem?_toList]; exact hw) (by rw [List.size_toArray]; omega)) ⟨e,?_⟩
 refine ⟨y,_,I.lset (its':=its.eraseIdx k) hH e ?_ (r.eraseIdx k) ?_,rw',q⟩
 ·show its.toArray.eraseIdxIfInBounds k=(its.eraseIdx k).toArray
  rw [List.eraseIdxIfInBounds_toArray]
 ·have:=zag9 xs k
  omega
def rCat:R2:=fun x y H Q=>∃ l b xs zs,x=.ref l∧y=.ref b∧H l=some (.lst xs)∧H b=some (.lst zs)∧xs.length + zs.length≤sizeLine∧∀ p,H p=none→Q (.ref p) (upd H p (.lst (xs++zs)))
theorem zae3:OpR X (binaryOp .Add) rCat:=by
 intro pins s σ H x y v u Q I rx ry h
 obtain ⟨l,b,xs,zs,rfl,rfl,hH,hB,hz,q⟩:=h
 cases rx
 cases ry
 obtain ⟨z,its,n,r,hl,e⟩:=I.lstM hH
 obtain ⟨z2,its2,n2,r2,hl2,e2⟩:=I.lstM hB
 refine PySem.P.add_list e e2 ?_ (by rw [List.size_toArray,List.size_toArray]; omega)
 have ea:its.toArray++its2.toArray=(its++its2).toArray:=by simp
 rw [ea]
 exact ⟨.ref _,_,I.lnew (t':=s.toks) (r.append r2) (by rw [List.length_append]; omega),rfl,q _ I.fresh⟩
def rRep:R2:=fun x y H Q=>∃ l k xs,x=.ref l∧y=.int k∧H l=some (.lst xs)∧-(2 ^ 63)≤k∧k < 2 ^ 63∧xs.length * k.toNat≤sizeLine ∧
 ∀ p,H p=none→Q (.ref p) (upd H p (.lst (List.replicate k.toNat xs).flatten))
theorem zap0 {α:Type} (xs:List α) (k:Nat):(List.replicate k xs).flatten.length=k * xs.length:=by
 induction k with
 | zero=>simp
 | succ k ih=>rw [List.replicate_succ,List.flatten_cons,List.length_append,ih,Nat.succ_mul,Nat.add_comm]
theorem zaoz:OpR X (binaryOp .Mult) rRep:=by
 intro pins s σ H x y v u Q I rx ry h
 obtain ⟨l,k,xs,rfl,rfl,hH,h1,h2,hz,q⟩:=h
 cases rx
 obtain ⟨t,rfl⟩:=ry
 obtain ⟨z,its,n,r,hl,e⟩:=I.lstM hH
 have hlen:its.toArray.size * k.toNat≤sizeLine:=by rw [List.size_toArray,← hl]; exact hz
 have hcap:¬ its.toArray.size * k.toNat > (2 ^ 63 - 1) / 8:=by
  have:(sizeLine:Nat)≤(2 ^ 63 - 1) / 8:=by decide
  omega
 have hfit:¬ (!Builtin.List.listFitsIndex k)=true:=by
  rw [fitsIndex_both h1 h2]
  exact Bool.false_ne_true
 have hlong:¬ Builtin.List.listTooLong (its.toArray.size * k.toNat)=true:=by
  rw [notLongL hlen]
  exact Bool.false_ne_true
 have hnew:List.foldl (fun x1 x2=>x1++x2) #[] (List.replicate (if its.toArray.isEmpty=true then 0 else k.toNat) its.toArray)=(List.replicate k.toNat its).flatten.toArray:=by
  have f0:∀ m:Nat,List.foldl (fun x1 x2=>x1++x2) #[] (List.replicate m its.toArray)=(List.replicate m its).flatten.toArray:=fun m=>by
   have:=zaha its m []
   rw [List.nil_append] at this
   exact this
  rw [f0]
  cases its with
  | nil=>simp
  | cons a r'=>rw [if_neg (by simp)]
 refine wpAny_binaryOp_repeat_ref (T := "list") (U := "int") (by decide) ⟨_,e,rfl⟩ (fun s'=>typeIs_int s' k t) noFill_list_mul F.fills_int_mul F.slot_int_rmul repeat_list F.slot_int_index.lookup
  (call_meets F.slot_int_rmul (typeIs_int s k t) F.entry_int_rmul (F.args_int_rmul_2 _ _) (int___rmul___int_list k t l its.toArray n)
   ⟨e,rfl,⟨_,e,rfl⟩,call_meets F.slot_list_mul ⟨_,e,rfl⟩ F.entry_list_mul (F.args_list_mul_2 _ _) (AutoListH.list___mul___list_int_3 l its.toArray n k t hfit hcap hlong) ⟨e,?_⟩⟩)
 rw [hnew]
 exact ⟨.ref _,_,I.lnew (t':=s.toks) (r.rep k.toNat) (by rw [zap0,Nat.mul_comm]; exact hz),rfl,q _ I.fresh⟩
end
end L2
namespace Att
open PySem PySem.W PySem.Calls PyProof.Rows
theorem zae4 {P:Params}{h:Heap}:∀ (ns:List Int) (vs:List Value),WellAll P h vs (ns.map WData.int)→IntsAre vs ns:=by
 intro ns
 induction ns with
 | nil =>
  intro vs w
  rw [List.map_nil] at w
  cases w
  exact .nil
 | cons n ns ih =>
  intro vs w
  rw [List.map_cons] at w
  cases w with
  | cons a b =>
   cases a
   exact .cons _ _ (ih _ b)
theorem zakw {l:OpenLaw}{n:Nat} (hn:l.most=some n) {P:Params}{h:Heap}{args:List WData}{vals:List Value}
  (hpre:l.row.toRowW.claim.pre args=true) (hwl:WellAll P h vals args) :
  ∃ a vs ns,vals=[Value.ref a]∧args=[WData.list (ns.map WData.int)]∧h.get? a=some { cls:=.type "list",data:=.seq vs.toArray }∧IntsAre vs ns∧ns.length≤n:=by
 have hsh:WShape.hasAll [] args [.list .int]=true:=(pre_splitW hpre).1
 have hc:l.pre.holds [] { args:=args }=true:=(pre_splitW hpre).2
 obtain ⟨d,r,rfl,h1,h2⟩:=hasAllW_cons hsh
 obtain rfl:=hasAllW_nil h2
 obtain ⟨xs,rfl,h3⟩:=hasW_list h1
 obtain ⟨ns,rfl⟩:=items_int h3
 have hlen:ns.length≤n:=by
  unfold OpenLaw.pre at hc
  have h4:(WTm.not (.lt (.lit (.int (n:Int))) (.len (.arg 0)))).holds [] { args:=[.list (ns.map .int)] }=true:=by
   have h4:=(holds_andW hc).1
   rw [hn] at h4
   exact h4
  have h5:=condW_of h4 (w_not (w_lt w_lit (w_len_list (w_arg rfl))))
  rw [List.length_map] at h5
  refine Nat.le_of_not_lt fun q=>?_
  have q':(n:Int) < ((ns.length:Nat):Int):=by omega
  first
   | (rw [decide_eq_true q'] at h5; exact absurd h5 (by decide))
   | (simp at h5; omega)
 cases hwl with
 | cons w1 w2 =>
  cases w2
  cases w1 with
  | list ho hall=>exact ⟨_,_,ns,rfl,rfl,ho,zae4 ns _ hall,hlen⟩
theorem zakx (l:OpenLaw) (args:List WData):l.row.toRowW.claim.post args (.bool true) args=true :=
 postW_of (r:=l.row.toRowW) (X:=(true == true))
  (show WShape.has [] (.bool true) .bool=true by first | rfl | decide | simp [WShape.has,WShape.arms,WShape.armsAll])
  (show (WTm.eq .res (.lit (.bool true))).value [] { args:=args,res:=some (.bool true),after:=args }=some (.bool (true == true)) from w_eq_bool (w_res rfl) w_lit) rfl
theorem attach_call {l:OpenLaw}{n:Nat}{q:Program}{loose:List Str}{XP:(Str→Option Value)→Heap→Prop}{YP:World→Heap→Prop}{d:DefRec}
  (hn:l.most=some n) (hdf:d.params.defaults=[])
  (call:∀ (w:World) (s₀ s₁:Shared) (mg mb:Str→Option Value) (fa:Addr) (o:Obj) (pm cd doc:Value) (a:Addr) (vs:List Value) (ns:List Int),
   Ground q loose [] XP w s₀ mg mb s₁.heap→YP w s₁.heap →
   s₁.heap.get? fa=some o→o.data=.func (docDef d.name d.params d.body d.scope pm cd doc)→s₁.heap.CodeRec cd d.name→mg d.name=some (.ref fa) →
   s₁.heap.get? a=some { cls:=.type "list",data:=.seq vs.toArray }→IntsAre vs ns→ns.length≤n→s₁.gens=#[] →
   codeAny (model l.prog w) callerA (.call (.ref fa) ⟨[.ref a],[]⟩) (fun r s'=>r=.ok (.ret (.bool true))∧OldK s₁.heap s'.heap∧s'.os=s₁.os∧AllBare s'.gens) s₁) :
  WalkO q loose XP YP l.row.toRowW d [] (fun f vs=>PySem.call f vs):=by
 intro w s₀ s₁ mg mb G Y fa o pm cd doc dV kV ho hd hcd hD hmg hg args vals as hpre hlay hrd hwl hlo
 obtain rfl:dV=.none:=Dflts.none hD hdf
 obtain rfl:kV=.none:=Dflts.noKw hD
 obtain ⟨a,vs,ns,rfl,rfl,hobj,hints,hlen⟩:=zakw hn hpre hwl
 refine enter_call (codeAny_mono (call w s₀ s₁ mg mb fa o pm cd doc a vs ns G Y ho (fd_plain hd) hcd hmg hobj hints hlen hg) fun r s' hq=>?_)
 obtain ⟨rfl,h2,h3,h4⟩:=hq
 exact ⟨.inl ⟨.bool true,.bool true,[],rfl,fun _=>rfl,.bool true,zakx l _,fun _=>⟨List.Pairwise.nil,fun _ hm=>(nomatch hm)⟩⟩,h2,h3,h4⟩
end Att
namespace L2
open PySem PySem.Spec PyProof.Rows
theorem zahb:∀ {vs:List Value}{ns:List Int},IntsAre vs ns→Vals (ns.map V.int) vs
 | _,_,.nil=>.nil
 | _,_,.cons n t h=>.cons ⟨t,rfl⟩ (zahb h)
def Only (H:Hp):Prop:=∀ b,H b=none∨∃ o xs,H b=some (.frz o (.lst xs))
theorem zanu {P:Program}{w:World}{K:PySem.W.Frag}{mg mb:Str→Option Value}{CX:CXT}{k:Nat}{fa a:Addr}{fd:FuncData}{x:Str}{sp:Sp}{s₁:Shared}{vs:List Value}{ns:List Int}
  (KX:K.In s₁.heap) (hns:s₁.heap.Ns mainGlobals mg) (hb:s₁.heap.Ns builtinsNs mb) (hbb:∀ x:Str,x ≠ "__name__" → mb x=bootBuiltins x) (hlim:s₁.heap.NoLimit) (hg:s₁.gens=#[])
  (ha:s₁.heap.get? a=some { cls:=.type "list",data:=.seq vs.toArray }) (hi:IntsAre vs ns) (hl:ns.length≤sizeLine) (hr:Room k callerA)
  (F:∀ base:Heap,K.In base→base.Ns mainGlobals mg→FnOk P w K mg base CX k fa fd [x] sp) (hbind:∀ (s:Shared) (u:Value),BindsTo s fd ⟨[u],[]⟩ [(x,u)])
  (hsp:∀ H:Hp,Only H→SqL K H a (ns.map V.int)→sp [.ref a] H (fun v _=>v=.bl true) fun _ _ _=>False)
  (hCX:∀ H e s',CX [] H s₁ (fun _ _ _=>False) e s'→False) :
  codeAny (model P w) callerA (.call (.ref fa) ⟨[.ref a],[]⟩) (fun r s'=>r=.ok (.ret (.bool true))∧OldK s₁.heap s'.heap∧s'.os=s₁.os∧AllBare s'.gens) s₁:=by
 have rv:=zahb hi
 have lenV:=hi.length
 have core:∀ H:Hp,Only H→SqL K H a (ns.map V.int)→HOk P w H s₁.heap→(∀ b,H b≠none→b=a)→(H a≠none→K.lookup a=none) →
   codeAny (model P w) callerA (.call (.ref fa) ⟨[.ref a],[]⟩) (fun r s'=>r=.ok (.ret (.bool true))∧OldK s₁.heap s'.heap∧s'.os=s₁.os∧AllBare s'.gens) s₁:=by
  intro H hO hS hok hA hK
  have base_of:∀ {b:Addr}{o:Obj},s₁.heap.get? b=some o→H b=none→(hidT s₁.heap H).get? b=some o:=fun e n=>zanh e n
  have noA:∀ {b:Addr}{o:Obj}{es:Array DictEntry}{ep:Nat},s₁.heap.get? b=some o→o.data=.dict es ep→H b=none:=fun {b o es ep} e d=>by
   cases q:H b with
   | none=>rfl
   | some u =>
    have e':b=a:=hA b (by rw [q]; simp)
    subst e'
    rw [ha] at e; cases e
    have d':Data.seq vs.toArray _=Data.dict es ep:=d
    cases d'
  have nsK:∀ {b:Addr}{m:Str→Option Value},s₁.heap.Ns b m→(hidT s₁.heap H).Ns b m:=fun {b m} ⟨o,es,ep,e,d,r⟩=>⟨o,es,ep,base_of e (noA e d),d,r⟩
  have hKb:K.In (hidT s₁.heap H):=fun b o e=>base_of (KX b o e) (by
   cases q:H b with
   | none=>rfl
   | some u =>
    have e':b=a:=hA b (by rw [q]; simp)
    subst e'
    rw [hK (by rw [q]; simp)] at e; cases e)
  have hM:Mod K mg (hidT s₁.heap H):=⟨hKb,nsK hns,⟨mb,nsK hb,hbb⟩,let ⟨mc,h1,h2⟩:=hlim; ⟨mc,nsK h1,h2⟩⟩
  have e0:Env0 P w K mg (hidT s₁.heap H) callerA [] s₁ H:=⟨rfl,hM,fun b o e=>zape e,Nat.le_of_eq (zakb _ _),trivial,fun b hb=>absurd (show b∈([]:List Addr) from hb) (by simp),hok,.of_eq hg⟩
  refine codeAny_mono ((F _ hKb (nsK hns)).run callerA [] s₁ H ⟨[.ref a],[]⟩ [.ref a] [.ref a] _ _ hr e0 (hbind s₁ (.ref a)) (.cons rfl .nil) (hsp H hO hS)) fun r s' h=>?_
  cases r with
  | error e=>exact (hCX H e s' h).elim
  | ok fl =>
   cases fl with
   | next=>exact False.elim h
   | brk=>exact False.elim h
   | cont=>exact False.elim h
   | ret u =>
    obtain ⟨v,H',os,bare,un,hok',r',q⟩:=h
    have q':v=.bl true:=q
    subst q'
    obtain rfl:u=Value.bool true:=r'
    refine ⟨rfl,OldK.of_keep fun b o e=>?_,os,bare⟩
    cases q:H b with
    | none=>exact un.keep b o e q (by intro z; exact absurd (show b∈([]:List Addr) from z) (by simp)) (by simp)
    | some u =>
     rcases hO b with z | ⟨ob,xs,z⟩
     ·rw [q] at z; cases z
     ·have z2:=un.frzs b ob _ z
      obtain ⟨e1,_⟩:=hok b _ z
      obtain ⟨e2,_⟩:=hok' b _ z2
      rw [e] at e1; cases e1
      exact e2
 cases hk:K.lookup a with
 | some o =>
  have e:=KX a o hk
  rw [ha] at e
  cases e
  refine core (fun _=>none) (fun _=>.inl rfl) (.inr ⟨_,vs.toArray,_,hk,rfl,rfl,rfl,by rw [List.size_toArray,lenV]; exact hl,by simpa using rv⟩) (fun b u z=>by have z':(none:Option HO)=some u:=z; cases z') (fun b z=>absurd rfl z) fun z=>absurd rfl z
 | none =>
  refine core (fun b=>if b=a then some (.frz { cls:=.type "list",data:=.seq vs.toArray } (.lst (ns.map V.int))) else none) (fun b=>?_) (.inl (.inr ⟨{ cls:=.type "list",data:=.seq vs.toArray },if_pos rfl⟩)) (fun b u z=>?_) (fun b z=>?_) fun _=>hk
  ·by_cases hb:b=a
   ·exact .inr ⟨_,_,if_pos hb⟩
   ·exact .inl (if_neg hb)
  ·by_cases hb:b=a
   ·have z':=(if_pos hb).symm.trans z
    cases z'
    subst hb
    exact ⟨ha,by rw [List.length_map]; exact hl,vs,_,rv,ha⟩
   ·have z':=(if_neg hb).symm.trans z
    cases z'
  ·by_cases hb:b=a
   ·exact hb
   ·exact absurd (if_neg hb) z
theorem zap1 {l:PySem.W.OpenLaw}{n k:Nat}{q:Program}{loose:List Str}{XP:(Str→Option Value)→Heap→Prop}{YP:World→Heap→Prop}{d:DefRec}{K:Params→PySem.W.Frag}{CX:World→CXT}{sp:World→Sp}{x:Str}
  (hn:l.most=some n) (hn2:n≤sizeLine) (hdf:d.params.defaults=[]) (hr:Room k callerA)
  (hY:∀ (w:World) (h:Heap),YP w h→(K w.params).In h)
  (F:∀ (w:World) (mg:Str→Option Value) (fa:Addr) (h:Heap),(K w.params).In h→h.Ns mainGlobals mg→mg d.name=some (.ref fa) →
   ∃ fd:FuncData,(∀ (s:Shared) (u:Value),BindsTo s fd ⟨[u],[]⟩ [(x,u)]) ∧
    ∀ base:Heap,(K w.params).In base→base.Ns mainGlobals mg→FnOk l.prog w (K w.params) mg base (CX w) k fa fd [x] (sp w))
  (hsp:∀ (w:World) (H:Hp) (a:Addr) (ns:List Int),ns.length≤n→Only H→SqL (K w.params) H a (ns.map V.int)→sp w [.ref a] H (fun v _=>v=.bl true) fun _ _ _=>False)
  (hCX:∀ (w:World) (H:Hp) (s:Shared) (e:Value) (s':Shared),CX w [] H s (fun _ _ _=>False) e s'→False) :
  PySem.W.WalkO q loose XP YP l.row.toRowW d [] (fun f vs=>PySem.call f vs):=by
 refine Att.attach_call hn hdf fun w s₀ s₁ mg mb fa o pm cd doc a vs ns G Y ho hd hcd hmg hobj hints hlen hg=>?_
 have KX:=hY w _ Y
 obtain ⟨fd,hb,hF⟩:=F w mg fa _ KX G.T.g hmg
 exact zanu KX G.T.g G.T.b G.T.builtins G.T.nolimit hg hobj hints (Nat.le_trans hlen hn2) hr hF hb (fun H hO hS=>hsp w H a ns hlen hO hS) fun H e s'=>hCX w H s₁ e s'
theorem zanv {l:PySem.W.OpenLaw}{n k:Nat}{q:Program}{loose:List Str}{XP:(Str→Option Value)→Heap→Prop}{YP:World→Heap→Prop}{d:DefRec}{K:Params→PySem.W.Frag}{CX:CXT}{sp:PySem.W.Frag→Sp}{x:Str}
  (hn:l.most=some n) (hn2:n≤sizeLine) (hdf:d.params.defaults=[]) (hr:Room k callerA)
  (hY:∀ (w:World) (h:Heap),YP w h→(K w.params).In h)
  (F:∀ (w:World) (mg:Str→Option Value) (fa:Addr) (h:Heap),(K w.params).In h→h.Ns mainGlobals mg→mg d.name=some (.ref fa) →
   ∃ fd:FuncData,(∀ (s:Shared) (u:Value),BindsTo s fd ⟨[u],[]⟩ [(x,u)]) ∧
    ∀ base:Heap,(K w.params).In base→base.Ns mainGlobals mg→FnOk l.prog w (K w.params) mg base CX k fa fd [x] (sp (K w.params)))
  (hsp:∀ (K:PySem.W.Frag) (H:Hp) (a:Addr) (ns:List Int),ns.length≤n→Only H→SqL K H a (ns.map V.int)→sp K [.ref a] H (fun v _=>v=.bl true) fun _ _ _=>False)
  (hCX:∀ (H:Hp) (s:Shared) (e:Value) (s':Shared),CX [] H s (fun _ _ _=>False) e s'→False) :
  PySem.W.WalkO q loose XP YP l.row.toRowW d [] (fun f vs=>PySem.call f vs) :=
 zap1 (K:=K) (CX:=fun _=>CX) (sp:=fun w=>sp (K w.params)) hn hn2 hdf hr hY F (fun w H a ns h1 h2 h3=>hsp (K w.params) H a ns h1 h2 h3) fun _ H s e s'=>hCX H s e s'
def inClass (s:Stmt) (j:Nat):Stmt:=match s with
 | .ClassDef _ _ _ body _ _ _ _ _ _ _=>body.getD j (.Pass ⟨0,0,0,0⟩)
 | _=>.Pass ⟨0,0,0,0⟩
def defArgs (s:Stmt):Arguments:=match s with
 | .FunctionDef _ a _ _ _ _ _ _ _ _=>a
 | _=>{ posonlyargs:=[],args:=[],vararg:=none,kwonlyargs:=[],kw_defaults:=[],kwarg:=none,defaults:=[] }
def defBody (s:Stmt):List Stmt:=match s with
 | .FunctionDef _ _ b _ _ _ _ _ _ _=>b
 | _=>[]
def defScope (s:Stmt):Scope:=match s with
 | .FunctionDef _ _ _ _ _ _ sc _ _ _=>sc
 | _=>{ kind:=.function,names:=[],isGenerator:=false,isCoroutine:=false }
abbrev CX0:CXT:=fun _ _ _ _ _ _=>False
abbrev E0:XK:=fun _ _ _=>False
theorem pass0 {X:Cx}:Passes CX0 X E0:=fun _ _ _ _ _ _ _ h=>h.elim
structure Fun (K:PySem.W.Frag) (x qual:Str) (st:Stmt) (f:Addr) (fd:FuncData):Prop where
 ex:∃ (oc:Value) (od:Option Addr) (kV doc pm:Value) (an:Option Addr) (cdv ct:Value) (osl:Array (Option Value)),
  fd=PySem.W.fnOf x qual (defArgs st) (defBody st) (defScope st) .none kV doc pm an cdv ct∧K.lookup f=some ⟨oc,od,.func fd,osl⟩∧PySem.W.codeIn K cdv qual=true
 kp:PySem.W.keepIn K (.ref f)=true
section
variable {P:Program}{w:World}{K:PySem.W.Frag}{mg:Str→Option Value}{base:Heap}
theorem Fun.ok {x qual:Str}{st:Stmt}{f:Addr}{fd:FuncData}{N ps:List Str}{k:Nat}{sp:Sp} (F:Fun K x qual st f fd) (S:FnScope N ps (defScope st)) (len:∀ vs H Q E,sp vs H Q E→vs.length=ps.length)
  (hbody:∀ (cdv:Value) (A:Around) (outer:List Env) (s:Shared) (H:Hp) (vs:List V) (Q:VK) (E:XK),Room k (A.deeper (envOfC qual (defScope st) s.heap.objs.size f cdv))→sp vs H Q E →
   ∃ t,PSs (cxOf CX0 P w K mg base N qual (defScope st) f cdv A outer s H E).nox (defBody st) t∧t { nx:=fun _ H'=>Q .non H',rt:=Q } (start N vs) H):FnOk P w K mg base CX0 (k + 1) f fd ps sp:=by
 obtain ⟨oc,od,kV,doc,pm,an,cdv,ct,osl,rfl,lk,hcd⟩:=F.ex
 refine zatn lk hcd S len fun A outer s H vs Q E hr hsp=>?_
 obtain ⟨t,h,q⟩:=hbody cdv A outer s H vs Q E hr hsp
 exact ⟨t,h.nox,q⟩
theorem Fun.binds {x qual:Str}{st:Stmt}{f:Addr}{fd:FuncData}{ps:List Str} (F:Fun K x qual st f fd)
  (h:∀ (kV doc pm:Value) (an:Option Addr) (cdv ct:Value) (us:List Value),us.length=ps.length→bindArgs (PySem.W.fnOf x qual (defArgs st) (defBody st) (defScope st) .none kV doc pm an cdv ct) ⟨us,[]⟩=pure (ps.zip us)):Binds K fd ps []:=by
 obtain ⟨oc,od,kV,doc,pm,an,cdv,ct,osl,rfl,lk,hcd⟩:=F.ex
 exact .all (h kV doc pm an cdv ct)
theorem zabq {x qual:Str}{st:Stmt}{f:Addr}{oc:Value}{od an:Option Addr}{osl:Array (Option Value)}{kV doc pm cdv ct:Value} (l:K.lookup f=some ⟨oc,od,.func (PySem.W.fnOf x qual (defArgs st) (defBody st) (defScope st) .none kV doc pm an cdv ct),osl⟩)
  (c:PySem.W.codeIn K cdv qual=true) (k:PySem.W.keepIn K (.ref f)=true):Fun K x qual st f (PySem.W.fnOf x qual (defArgs st) (defBody st) (defScope st) .none kV doc pm an cdv ct):=⟨⟨oc,od,kV,doc,pm,an,cdv,ct,osl,rfl,l,c⟩,k⟩
end
theorem zaei {A:Around}{k:Nat} (hr:Room k A):A.units + 1 < cLine:=Nat.lt_of_le_of_lt (Nat.add_le_add_left (by decide:1≤64) _) hr.units
theorem iteF {A B:Prop} (h:B):if false=true then A else B:=by
 rw [if_neg Bool.false_ne_true]
 exact h
theorem iteT {A B:Prop} (h:A):if true=true then A else B:=by
 rw [if_pos rfl]
 exact h
theorem ite2 {c A B:Prop} [Decidable c] (h1:c→A) (h2:¬ c→B):if c then A else B:=by
 by_cases h:c
 ·rw [if_pos h]
  exact h1 h
 ·rw [if_neg h]
  exact h2 h
end L2

namespace L2
open PySem PySem.Spec PyProof.Rows
section
variable {κ:Type} [DecidableEq κ]
def valV (kvs:List (κ × V)) (k:κ):Option V:=(kvs.find? fun kv=>decide (kv.1=k)).map (·.2)
def putK (kvs:List (κ × V)) (k:κ) (v:V):List (κ × V) :=
 if (kvs.any fun kv=>decide (kv.1=k))=true then kvs.map (fun kv=>if kv.1=k then (kv.1,v) else kv) else kvs++[(k,v)]
theorem zaby {p:κ × V}{r:List (κ × V)}{k:κ} (e:p.1=k):valV (p :: r) k=some p.2:=by simp [valV,List.find?_cons,e]
theorem zabz {p:κ × V}{r:List (κ × V)}{k:κ} (e:¬ p.1=k):valV (p :: r) k=valV r k:=by simp [valV,List.find?_cons,e]
theorem zadi (k:κ):∀ kvs:List (κ × V),(kvs.any fun kv=>decide (kv.1=k))=(valV kvs k).isSome
 | []=>rfl
 | p :: r=>by
  rw [List.any_cons]
  by_cases e:p.1=k
  ·simp only [zaby e,decide_eq_true e,Bool.true_or,Option.isSome_some]
  ·rw [zabz e,decide_eq_false e,Bool.false_or]; exact zadi k r
theorem zai7 (k j:κ) (y:V):∀ kvs:List (κ × V),valV (kvs.map fun kv=>if kv.1=k then (kv.1,y) else kv) j=(valV kvs j).map fun x=>if j=k then y else x
 | []=>rfl
 | p :: r=>by
  have ih:=zai7 k j y r
  rw [List.map_cons]
  by_cases h:p.1=k
  ·rw [if_pos h]
   by_cases e:p.1=j
   ·rw [zaby (p:=(p.1,y)) e,zaby e,Option.map_some,if_pos (e.symm.trans h)]
   ·rw [zabz (p:=(p.1,y)) e,zabz e,ih]
  ·rw [if_neg h]
   by_cases e:p.1=j
   ·rw [zaby (p:=p) e,zaby e,Option.map_some,if_neg (fun z=>h (e.trans z))]
   ·rw [zabz (p:=p) e,zabz e,ih]
theorem zahc (k j:κ) (y:V):∀ kvs:List (κ × V),valV kvs k=none→valV (kvs++[(k,y)]) j=if j=k then some y else valV kvs j
 | [],_=>by
  by_cases e:k=j
  ·rw [if_pos e.symm]; exact zaby (p:=(k,y)) e
  ·rw [if_neg (fun z=>e z.symm)]; exact zabz (p:=(k,y)) e
 | p :: r,hn=>by
  rw [List.cons_append]
  have hk:¬ p.1=k:=fun z=>by rw [zaby z] at hn; cases hn
  rw [zabz hk] at hn
  have ih:=zahc k j y r hn
  by_cases e:p.1=j
  ·rw [zaby e,zaby e,if_neg (fun z=>hk (e.trans z))]
  ·rw [zabz e,zabz e,ih]
theorem zadr (kvs:List (κ × V)) (k j:κ) (y:V):valV (putK kvs k y) j=if j=k then some y else valV kvs j:=by
 unfold putK
 by_cases a:(kvs.any fun kv=>decide (kv.1=k))=true
 ·rw [if_pos a,zai7]
  rw [zadi] at a
  by_cases e:j=k
  ·obtain ⟨x,hx⟩:=Option.isSome_iff_exists.mp a
   rw [if_pos e,e,hx,Option.map_some,if_pos rfl]
  ·rw [if_neg e]
   cases valV kvs j with
   | none=>rfl
   | some x=>rw [Option.map_some,if_neg e]
 ·rw [if_neg a]
  refine zahc k j y kvs ?_
  rw [zadi] at a
  cases q:valV kvs k with
  | none=>rfl
  | some x=>rw [q] at a; exact (a rfl).elim
theorem zacj (kvs:List (κ × V)) (k:κ) (v:V):(putK kvs k v).length≤kvs.length + 1:=by
 unfold putK
 split
 ·rw [List.length_map]; omega
 ·rw [List.length_append,List.length_cons,List.length_nil]; omega
theorem zai8 {kvs:List (κ × V)}{k:κ} (v:V) (h:valV kvs k=none):putK kvs k v=kvs++[(k,v)]:=by
 unfold putK
 rw [zadi,h]
 exact if_neg (by decide)
theorem RelO.isSome_eq {o:Option V}{u:Option Value} (r:RelO o u):o.isSome=u.isSome:=by
 cases o with
 | none=>cases u with
  | none=>rfl
  | some _=>exact (show False from r).elim
 | some _=>cases u with
  | none=>exact (show False from r).elim
  | some _=>rfl
theorem RelO.getD {o:Option V}{u:Option Value}{d:V}{d':Value} (r:RelO o u) (rd:RelV d d'):RelV (o.getD d) (u.getD d'):=by
 cases o with
 | none=>cases u with
  | none=>exact rd
  | some _=>exact (show False from r).elim
 | some _=>cases u with
  | none=>exact (show False from r).elim
  | some _=>exact r
theorem KV.val {kvs:List (κ × V)}{vs:List (κ × Value)} (r:KV kvs vs) (k:κ):RelO (valV kvs k) (valueAt vs k):=by
 unfold KV at r
 induction r with
 | nil=>exact True.intro
 | @cons p q ps qs h t ih =>
  obtain ⟨h1,h2⟩:=h
  by_cases e:p.1=k
  ·have e':q.1=k:=h1.symm.trans e
   have b:valueAt (q :: qs) k=some q.2:=by simp [valueAt,List.find?_cons,e']
   rw [zaby e,b]; exact h2
  ·have e':¬ q.1=k:=fun z=>e (h1.trans z)
   have b:valueAt (q :: qs) k=valueAt qs k:=by simp [valueAt,List.find?_cons,e']
   rw [zabz e,b]; exact ih
theorem KV.any {kvs:List (κ × V)}{vs:List (κ × Value)} (r:KV kvs vs) (k:κ):(kvs.any fun kv=>decide (kv.1=k))=vs.any fun kv=>decide (kv.1=k):=by
 unfold KV at r
 induction r with
 | nil=>rfl
 | cons h t ih=>rw [List.any_cons,List.any_cons,ih,h.1]
theorem KV.repl {kvs:List (κ × V)}{vs:List (κ × Value)} (r:KV kvs vs) (k:κ) {y:V}{u:Value} (ry:RelV y u) :
  KV (kvs.map fun kv=>if kv.1=k then (kv.1,y) else kv) (vs.map fun kv=>if kv.1=k then (kv.1,u) else kv):=by
 unfold KV at r ⊢
 induction r with
 | nil=>exact .nil
 | @cons p q ps qs h t ih =>
  rw [List.map_cons,List.map_cons]
  refine .cons ?_ ih
  obtain ⟨h1,h2⟩:=h
  by_cases e:p.1=k
  ·rw [if_pos e,if_pos (h1.symm.trans e)]; exact ⟨h1,ry⟩
  ·rw [if_neg e,if_neg (fun z=>e (h1.trans z))]; exact ⟨h1,h2⟩
theorem KV.put {kvs:List (κ × V)}{vs:List (κ × Value)} (r:KV kvs vs) (k:κ) {y:V}{u:Value} (ry:RelV y u):KV (putK kvs k y) (stored vs k u):=by
 unfold putK stored
 rw [r.any k]
 by_cases e:(vs.any fun kv=>decide (kv.1=k))=true
 ·rw [if_pos e,if_pos e]; exact r.repl k ry
 ·rw [if_neg e,if_neg e]; exact Paired.snoc r ⟨rfl,ry⟩
theorem KV.length {kvs:List (κ × V)}{vs:List (κ × Value)} (r:KV kvs vs):kvs.length=vs.length:=Paired.length r
end
theorem zafq {P:Program}{w:World}{k:Key}{u:Value} (r:RelV (kV k) u):(mixKind P w).is k u=true:=by
 cases k with
 | inl i=>obtain ⟨t,e⟩:=(show ∃ t,u=Value.int i t from r); subst e; exact zah4 P w i t
 | inr x=>obtain ⟨t,e⟩:=(show ∃ t,u=Value.str x t from r); subst e; exact zah5 P w x t
theorem zahd {P:Program}{w:World}:∀ {ks:List Key}{us:List Value},Vals (ks.map kV) us→ItemsAre (mixKind P w) ks us
 | [],_,r=>by rw [List.map_nil] at r; cases r; exact .nil
 | k :: ks,_,r=>by
  rw [List.map_cons] at r
  cases r with
  | cons h t=>exact .cons (zafq h) (zahd t)
abbrev KT (H:Hp):List (List Key × V)→List (List Key × Addr × Value)→Prop:=Paired fun p q=>p.1=q.1∧H q.2.1=some (.tup (p.1.map kV))∧RelV p.2 q.2.2
theorem KT.val {H:Hp}{kvs:List (List Key × V)}{xs:List (List Key × Addr × Value)} (r:KT H kvs xs) (k:List Key):RelO (valV kvs k) ((atKey xs k).map (·.2)):=by
 induction r with
 | nil=>exact True.intro
 | @cons p q ps qs h t ih =>
  obtain ⟨h1,_,h2⟩:=h
  by_cases e:p.1=k
  ·have e':q.1=k:=h1.symm.trans e
   have b:atKey (q :: qs) k=some q.2:=by simp [atKey,List.find?_cons,e']
   rw [zaby e,b]; exact h2
  ·have e':¬ q.1=k:=fun z=>e (h1.trans z)
   have b:atKey (q :: qs) k=atKey qs k:=by simp [atKey,List.find?_cons,e']
   rw [zabz e,b]; exact ih
theorem KT.repl {H:Hp}{kvs:List (List Key × V)}{xs:List (List Key × Addr × Value)} (r:KT H kvs xs) (k:List Key) {y:V}{u:Value} (ry:RelV y u) :
  KT H (kvs.map fun kv=>if kv.1=k then (kv.1,y) else kv) (xs.map (putAt k u)):=by
 induction r with
 | nil=>exact .nil
 | @cons p q ps qs h t ih =>
  rw [List.map_cons,List.map_cons]
  refine .cons ?_ ih
  obtain ⟨h1,h2,h3⟩:=h
  unfold putAt
  by_cases e:p.1=k
  ·rw [if_pos e,if_pos (h1.symm.trans e)]; exact ⟨h1,h2,ry⟩
  ·rw [if_neg e,if_neg (fun z=>e (h1.trans z))]; exact ⟨h1,h2,h3⟩
theorem KT.put {H:Hp}{kvs:List (List Key × V)}{xs:List (List Key × Addr × Value)} (r:KT H kvs xs) (k:List Key) {b:Addr}{y:V}{u:Value} (hb:H b=some (.tup (k.map kV))) (ry:RelV y u) :
  KT H (putK kvs k y) (storedH xs k b u):=by
 have e:(kvs.any fun kv=>decide (kv.1=k))=(atKey xs k).isSome:=by
  rw [zadi,(r.val k).isSome_eq,Option.isSome_map]
 unfold putK storedH
 rw [e]
 by_cases q:(atKey xs k).isSome=true
 ·rw [if_pos q,if_pos q]; exact r.repl k ry
 ·rw [if_neg q,if_neg q]; exact Paired.snoc r ⟨rfl,hb,ry⟩
theorem KT.keeps {H H':Hp}{kvs:List (List Key × V)}{xs:List (List Key × Addr × Value)} (r:KT H kvs xs) (ht:∀ b ys,H b=some (.tup ys)→H' b=some (.tup ys)):KT H' kvs xs :=
 Paired.mapP r fun _ _ z=>⟨z.1,ht _ _ z.2.1,z.2.2⟩
section
variable {P:Program}{w:World}{H:Hp}{h:Heap}{a:Addr}
theorem zasa {u:HO} (ok:HOk P w H h) (e:Rd H a u):ObjOk P w H h a u:=e.ok ok
theorem zahe {kvs:List (Key × V)} (ok:HOk P w H h) (e:Rd H a (.dK kvs)):kvs.length≤sizeLine∧(a == sysModules)=false∧∃ vs,KV kvs vs∧h.DictOf (mixKind P w) a vs :=
 show ObjOk P w H h a (.dK kvs) from zasa ok e
theorem zasb {kvs:List (Key × V)} (ok:HOk P w H h) (e:H a=some (.dK kvs)):kvs.length≤sizeLine∧(a == sysModules)=false∧∃ vs,KV kvs vs∧h.DictOf (mixKind P w) a vs:=zahe ok (.inl e)
theorem zafx {ks:List Key} (ok:HOk P w H h) (e:H a=some (.tup (ks.map kV))):(tupleKind (mixKind P w)).is h ks a:=by
 obtain ⟨_,its,r,o,h1,h2,n,h3⟩:=(show ObjOk P w H h a (.tup (ks.map kV)) from ok a _ e)
 exact ⟨o,its.toArray,n,h1,h2,h3,by simpa using zahd r⟩
theorem zaib {kvs:List (List Key × V)} (ok:HOk P w H h) (e:Rd H a (.dT kvs)):kvs.length≤sizeLine∧(a == sysModules)=false ∧
  ∃ xs,KT H kvs xs∧h.DictOfH (tupleKind (mixKind P w)) a xs:=by
 obtain ⟨z,y,xs,r,o,es,ep,h1,h2,h3,h4,h5⟩:=(show ObjOk P w H h a (.dT kvs) from zasa ok e)
 refine ⟨z,y,xs,r,o,es,ep,h1,h2,h3,h4,fun x hx=>?_,h5⟩
 have all:∀ {l:List (List Key × V)}{m:List (List Key × Addr × Value)},KT H l m→∀ x∈m,(tupleKind (mixKind P w)).is h x.1 x.2.1:=by
  intro l m q
  induction q with
  | nil=>intro x hx; exact nomatch hx
  | @cons p q ps qs hq t ih =>
   intro x hx
   rcases List.mem_cons.mp hx with e | hx
   ·subst e
    exact zafx ok (by rw [← hq.1]; exact hq.2.1)
   ·exact ih x hx
 exact all r x hx
theorem zatq {kvs:List (List Key × V)} (ok:HOk P w H h) (e:H a=some (.dT kvs)):kvs.length≤sizeLine∧(a == sysModules)=false ∧
  ∃ xs,KT H kvs xs∧h.DictOfH (tupleKind (mixKind P w)) a xs:=zaib ok (.inl e)
end
def DGet (H:Hp) (a:Addr) (y:V) (r:Option V):Prop :=
 (∃ kvs k,Rd H a (.dK kvs)∧y=kV k∧r=valV kvs k)∨∃ kvs k b,Rd H a (.dT kvs)∧y=.ref b∧H b=some (.tup (k.map kV))∧r=valV kvs k
def DPut (H:Hp) (a:Addr) (y v:V) (H':Hp):Prop :=
 (∃ kvs k,H a=some (.dK kvs)∧y=kV k∧kvs.length < sizeLine∧H'=upd H a (.dK (putK kvs k v))) ∨
 ∃ kvs k b,H a=some (.dT kvs)∧y=.ref b∧H b=some (.tup (k.map kV))∧kvs.length < sizeLine∧H'=upd H a (.dT (putK kvs k v))
theorem DGet.k {H:Hp}{a:Addr}{kvs:List (Key × V)}{k:Key} (e:H a=some (.dK kvs)):DGet H a (kV k) (valV kvs k):=.inl ⟨kvs,k,.inl e,rfl,rfl⟩
theorem DPut.k {H:Hp}{a:Addr}{kvs:List (Key × V)}{k:Key}{v:V} (e:H a=some (.dK kvs)) (hl:kvs.length < sizeLine):DPut H a (kV k) v (upd H a (.dK (putK kvs k v))):=.inl ⟨kvs,k,e,rfl,hl,rfl⟩
section
variable {X:Cx}{pins:List (Addr × Obj)}{σ:St}{H:Hp}{s:Shared}{a:Addr}{y v:V}{u r:Value}{o:Option V}{A:Around}{E:Value→Shared→Prop}
theorem Inv.big (I:Inv X pins σ H s):sysModules < s.heap.objs.size:=by
 have h:mainGlobals < s.heap.objs.size:=(I.mod.glob.keeps I.bk).lt
 exact Nat.lt_trans (by decide) h
theorem zaky {Q:Value→Shared→Prop} (hu:A.units + 1 < cLine) (I:Inv X pins σ H s) (g:DGet H a y (some v)) (ry:RelV y u) (h:∀ w' s',Inv X pins σ H s'→RelV v w'→Q w' s') :
  wpAny (model X.prog X.w) A (getItem (.ref a) u) Q E s:=by
 rcases g with ⟨kvs,k,e,ey,l⟩ | ⟨kvs,k,b,e,ey,eb,l⟩
 ·subst ey
  obtain ⟨z,hd,vs,rel,dd⟩:=zahe I.hok e
  obtain ⟨w',hw,rw'⟩:=RelO.some_of (v:=v) (o:=valueAt vs k) (by rw [l]; exact rel.val k)
  exact wpAny_getItem_of (zafq ry) dd.mapOf hw (h w' _ (I.tok _) rw')
 ·subst ey
  cases (show u=Value.ref b from ry)
  obtain ⟨z,hd,xs,rel,dd⟩:=zaib I.hok e
  obtain ⟨w',hw,rw'⟩:=RelO.some_of (v:=v) (o:=(atKey xs k).map (·.2)) (by rw [l]; exact rel.val k)
  obtain ⟨p,hp,hp2⟩:=Option.map_eq_some_iff.mp hw
  refine wpAny_getItem_heap (tupleKind_room_in1 hu) (zafx I.hok eb) dd hp ?_
  rw [hp2]
  exact h w' _ (I.tok _) rw'
theorem d_in {Q:Value→Shared→Prop} (hu:A.units + 1 < cLine) (I:Inv X pins σ H s) (g:DGet H a y o) (ry:RelV y u) (h:∀ s',Inv X pins σ H s'→Q (.bool o.isSome) s') :
  wpAny (model X.prog X.w) A (compareOp .In u (.ref a)) Q E s:=by
 rcases g with ⟨kvs,k,e,ey,l⟩ | ⟨kvs,k,b,e,ey,eb,l⟩
 ·subst ey
  obtain ⟨z,hd,vs,rel,dd⟩:=zahe I.hok e
  refine wpAny_in_of (zafq ry) hd dd.mapOf ?_
  rw [← (rel.val k).isSome_eq,← l]
  exact h _ (I.tok _)
 ·subst ey
  cases (show u=Value.ref b from ry)
  obtain ⟨z,hd,xs,rel,dd⟩:=zaib I.hok e
  refine wpAny_in_heap (tupleKind_room_in1 hu) (zafx I.hok eb) hd dd ?_
  have q:=(rel.val k).isSome_eq
  rw [Option.isSome_map] at q
  rw [← q,← l]
  exact h _ (I.tok _)
theorem zap2 {Q:Value→Shared→Prop} (hu:A.units + 1 < cLine) (I:Inv X pins σ H s) (g:DGet H a y o) (ry:RelV y u) (h:∀ s',Inv X pins σ H s'→Q (.bool (!o.isSome)) s') :
  wpAny (model X.prog X.w) A (compareOp .NotIn u (.ref a)) Q E s:=by
 rcases g with ⟨kvs,k,e,ey,l⟩ | ⟨kvs,k,b,e,ey,eb,l⟩
 ·subst ey
  obtain ⟨z,hd,vs,rel,dd⟩:=zahe I.hok e
  refine wpAny_notIn_of (zafq ry) hd dd.mapOf ?_
  rw [← (rel.val k).isSome_eq,← l]
  exact h _ (I.tok _)
 ·subst ey
  cases (show u=Value.ref b from ry)
  obtain ⟨z,hd,xs,rel,dd⟩:=zaib I.hok e
  refine wpAny_notIn_heap (tupleKind_room_in1 hu) (zafx I.hok eb) hd dd ?_
  have q:=(rel.val k).isSome_eq
  rw [Option.isSome_map] at q
  rw [← q,← l]
  exact h _ (I.tok _)
theorem zaic {h':Heap}{t':Nat}{ob:HO} (I:Inv X pins σ H s) (mu:Mut (H a)) (hs:Heap.SameBut a s.heap h') (he:∃ q,h'.get? a=some q) (new:ObjOk X.prog X.w (upd H a ob) h' a ob) :
  Inv X pins σ (upd H a ob) { s with heap:=h',toks:=t' } :=
 I.write (x:=a) (e:=a) mu (.inl rfl) (fun b q hb z=>(hs.2 b hb).trans z) he new
theorem zao0 {P:Program}{w:World}{H':Hp}{h':Heap}{kvs:List (Key × V)}{vs:List (Key × Value)} (z:kvs.length≤sizeLine) (hd:(a == sysModules)=false) (rel:KV kvs vs) (dd:h'.DictOf (mixKind P w) a vs) :
  ObjOk P w H' h' a (.dK kvs):=⟨z,hd,vs,rel,dd⟩
theorem zakz {H':Hp}{Q:Unit→Shared→Prop} (hu:A.units + 1 < cLine) (I:Inv X pins σ H s) (g:DPut H a y v H') (ry:RelV y u) (rv:RelV v r) (h:∀ s',Inv X pins σ H' s'→Q () s') :
  wpAny (model X.prog X.w) A (setItem (.ref a) u r) Q E s:=by
 rcases g with ⟨kvs,k,e,ey,l,eH⟩ | ⟨kvs,k,b,e,ey,eb,l,eH⟩
 ·subst ey eH
  obtain ⟨z,hd,vs,rel,dd⟩:=zasb I.hok e
  have hz:vs.length≤sizeLine:=by rw [← rel.length]; exact z
  have hl:(putK kvs k v).length≤sizeLine:=by have:=zacj kvs k v; omega
  refine wpAny_setItem_pairs (hsz:=hz) (zafq ry) dd fun h' dd' hs=>h _ ?_
  have he:∃ q,h'.get? a=some q:=let ⟨q,_,_,hq,_⟩:=dd'; ⟨q,hq⟩
  exact zaic I (by rw [e]; exact True.intro) hs he (zao0 hl hd (rel.put k rv) dd')
 ·subst ey eH
  cases (show u=Value.ref b from ry)
  obtain ⟨z,hd,xs,rel,dd⟩:=zatq I.hok e
  have hz:xs.length≤sizeLine:=by rw [← Paired.length rel]; exact z
  have hl:(putK kvs k v).length≤sizeLine:=by have:=zacj kvs k v; omega
  refine wpAny_setItem_heap (hsz:=hz) (tupleKind_room_in1 hu) (zafx I.hok eb) dd fun h' dd' hs=>h _ ?_
  obtain ⟨q,es,ep,hq,h2,h3,h4,_,h5⟩:=dd'
  refine zaic I (by rw [e]; exact True.intro) hs ⟨q,hq⟩ ⟨hl,hd,_,(rel.put k eb rv).keeps fun c ys ec=>?_,q,es,ep,hq,h2,h3,h4,h5⟩
  rw [zaa5 (zah6 ec e (fun z=>nomatch z))]
  exact ec
end
def NoSl (i:Expr):Prop:=∀ ov iv,subscripted i false ov iv=operate [ov,iv] (getItem ov iv)
theorem zak0 {prog:Program}{w:World}{A:Around}{E:Value→Shared→Prop}{s:Shared}{env:Env}{value slice:Expr}{pos:Pos}{T id:String}{Q:Value→Shared→Prop}
  (hl:typeLookup (.type T) "__getitem__" = pure (some (.builtin id))) (hs:NoSl slice)
  (h:wpAny (model prog w) A (eval value env) (fun o s₁=>wpAny (model prog w) A (eval slice env) (fun i s₂=>s₂.TypeIs o T∧wpAny (model prog w) A (getItem o i) Q E s₂) E s₁) E s) :
  wpAny (model prog w) A (eval (.Subscript value slice pos) env) Q E s:=by
 refine Subscript_ (wpAny_mono h (fun o s₁ h₁=>wpAny_mono h₁ (fun i s₂ h₂=>?_) fun _ _ x=>x) fun _ _ x=>x)
 obtain ⟨hT,h₂⟩:=h₂
 unfold subscriptTail
 refine wpAny_bind ?_
 rw [getitemInPython_of_ne hT.not_modules]
 refine wpAny_bind (wpAny_specialOf hT hl ?_)
 have fin:wpAny (model prog w) A (subscripted slice false o i) (fun r s₃=>wpAny (model prog w) A (letTemporaryGo value o r >>= fun _=>pure r) Q E s₃) E s₂:=by
  rw [hs o i]
  exact wpAny_operating (wpAny_mono h₂ (fun r s₃ h₃=>wpAny_bind (wpAny_letTemporaryGo (wpAny_pure h₃))) fun _ _ x=>x)
 first
  | exact wpAny_pure (wpAny_bind fin)
  | exact wpAny_bind (wpAny_pure (wpAny_bind fin))
  | exact wpAny_bind fin
theorem zaid {X:Cx}{pins:List (Addr × Obj)}{σ:St}{H:Hp}{s:Shared}{a:Addr}{y:V}{o:Option V} (I:Inv X pins σ H s) (g:DGet H a y o):s.TypeIs (.ref a) "dict" := by
 rcases g with ⟨kvs,k,e,_,_⟩ | ⟨kvs,k,b,e,_,_,_⟩
 ·obtain ⟨_,_,vs,_,dd⟩:=zahe I.hok e
  exact dd.typeIs
 ·obtain ⟨_,_,xs,_,dd⟩:=zaib I.hok e
  exact dd.typeIs
def tDGet (td ty:TE):TE:=fun σ H Q=>td σ H fun x H1=>ty σ H1 fun y H2=>∃ a v,x=.ref a∧DGet H2 a y (some v)∧Q v H2
def tDIn (ty td:TE):TE:=fun σ H Q=>ty σ H fun y H1=>td σ H1 fun x H2=>∃ a o,x=.ref a∧DGet H2 a y o∧Q (.bl o.isSome) H2
def tDNotIn (ty td:TE):TE:=fun σ H Q=>ty σ H fun y H1=>td σ H1 fun x H2=>∃ a o,x=.ref a∧DGet H2 a y o∧Q (.bl (!o.isSome)) H2
def sDPut (td ty tv:TE):TS:=fun D σ H=>tv σ H fun v H1=>td σ H1 fun x H2=>ty σ H2 fun y H3=>∃ a H4,x=.ref a∧DPut H3 a y v H4∧D.nx σ H4
section
variable {X:Cx}{o i e value:Expr}{pos pos' tpos:Pos}{td ty tv:TE}
theorem zap3 (hu:X.A.units + 1 < cLine) (ho:PE X o td) (hi:PE X i ty) (hs:NoSl i):PE X (.Subscript o i pos) (tDGet td ty):=by
 intro pins s σ H Q I h
 refine zak0 PySem.F.slot_dict_getitem.lookup hs (thn (ho pins s σ H _ I h) fun u s1 ⟨x,H1,I1,rx,q1⟩=>thn (hi pins s1 σ H1 _ I1 q1) fun iv s2 ⟨y,H2,I2,ry,a,v,ex,g,q2⟩=>?_)
 subst ex
 obtain rfl:u=Value.ref a:=rx
 exact ⟨zaid I2 g,zaky hu I2 g ry fun w' s3 I3 rw'=>⟨v,H2,I3,rw',q2⟩⟩
theorem zasc (hu:X.A.units + 1 < cLine) (hi:PE X i ty) (ho:PE X o td):PC X .In i o (tDIn ty td):=by
 intro pins s σ H Q I h
 refine thn (hi pins s σ H _ I h) fun iv s1 ⟨y,H1,I1,ry,q1⟩=>thn (ho pins s1 σ H1 _ I1 q1) fun u s2 ⟨x,H2,I2,rx,a,ov,ex,g,q2⟩=>?_
 subst ex
 obtain rfl:u=Value.ref a:=rx
 exact d_in hu I2 g ry fun s3 I3=>⟨.bl ov.isSome,H2,I3,rfl,q2⟩
theorem zak1 (hu:X.A.units + 1 < cLine) (hi:PE X i ty) (ho:PE X o td):PC X .NotIn i o (tDNotIn ty td):=by
 intro pins s σ H Q I h
 refine thn (hi pins s σ H _ I h) fun iv s1 ⟨y,H1,I1,ry,q1⟩=>thn (ho pins s1 σ H1 _ I1 q1) fun u s2 ⟨x,H2,I2,rx,a,ov,ex,g,q2⟩=>?_
 subst ex
 obtain rfl:u=Value.ref a:=rx
 exact zap2 hu I2 g ry fun s3 I3=>⟨.bl (!ov.isSome),H2,I3,rfl,q2⟩
theorem zap4 (hu:X.A.units + 1 < cLine) (ho:PE X o td) (hi:PE X i ty) (hv:PE X value tv) (hs:swapsWith value (some (.Subscript o i pos')) pos.line X.env=pure false) :
  PS X (.Assign [.Subscript o i pos'] value pos) (sDPut td ty tv):=by
 intro pins s σ H D I h
 refine wpAny_Assign_Subscript (thn (hv pins s σ H _ I h) fun r s1 ⟨v,H1,I1,rv,q1⟩=>thn (ho pins s1 σ H1 _ I1 q1) fun u s2 ⟨x,H2,I2,rx,q2⟩=>thn (hi pins s2 σ H2 _ I2 q2) fun iv s3 ⟨y,H3,I3,ry,a,H4,ex,g,q3⟩=>?_) hs
 subst ex
 obtain rfl:u=Value.ref a:=rx
 exact zakz hu I3 g ry rv fun s4 I4=>⟨σ,H4,I4,q3⟩
end
theorem zai9 {P:Program}{w:World}{H:Hp} (h:Heap) (hb:sysModules < h.objs.size):ObjOk P w H (h.push { cls:=.type "dict",data:=.dict #[] }) h.objs.size (.dK []) :=
 ⟨Nat.zero_le _,beq_eq_false_iff_ne.mpr (Ne.symm (Nat.ne_of_lt hb)),[],.nil,Heap.DictOf.new h⟩
def tDNewK:TE:=fun _ H Q=>∀ p,H p=none→Q (.ref p) (upd H p (.dK []))
section
variable {X:Cx}{pos:Pos}
theorem zanw:PE X (.Dict [] [] pos) tDNewK:=fun pins s σ H Q I h =>
 wpAny_Dict_empty ⟨.ref s.heap.objs.size,_,I.laid (a:=s.heap.objs.size) (o:=.dK []) (t':=s.toks) (fun _ _ q=>Heap.get?_push_of_some _ q) (Nat.le_refl _) (zai9 s.heap I.big),rfl,h _ (I.hok.fresh (Nat.le_refl _))⟩
end
def tPairs:List (TE × TE)→St→Hp→(List (V × V)→Hp→Prop)→Prop
 | [],_,H,Q=>Q [] H
 | (tk,tv) :: r,σ,H,Q=>tk σ H fun x H1=>tv σ H1 fun y H2=>tPairs r σ H2 fun ps H3=>Q ((x,y) :: ps) H3
abbrev VV:List (V × V)→List (Value × Value)→Prop:=Paired fun p q=>RelV p.1 q.1∧RelV p.2 q.2
def PPs (X:Cx) (pos:Pos) (keys:List (Option Expr)) (values:List Expr) (trs:List (TE × TE)):Prop :=
 ∀ (pins:List (Addr × Obj)) (s:Shared) (σ:St) (H:Hp) (Q:List (V × V)→Hp→Prop),Inv X pins σ H s→tPairs trs σ H Q →
  wpAny (model X.prog X.w) X.A (evalPairs (pairTrees keys values X.env pos)) (fun vs s'=>∃ ps H',Inv X pins σ H' s'∧VV ps vs∧Q ps H') X.xe s
theorem zap5 {X:Cx}{pos:Pos}:PPs X pos [] [] []:=fun pins s σ H Q I h=>pairTrees_nil_walk ⟨[],H,I,.nil,h⟩
theorem zanx {X:Cx}{pos:Pos}{k v:Expr}{ks:List (Option Expr)}{vs:List Expr}{tk tv:TE}{trs:List (TE × TE)} (hk:PE X k tk) (hv:PE X v tv) (hr:PPs X pos ks vs trs) :
  PPs X pos (some k :: ks) (v :: vs) ((tk,tv) :: trs):=fun pins s σ H Q I h =>
 pairTrees_cons_walk (thn (hk pins s σ H _ I h) fun u s1 ⟨x,H1,I1,rx,q1⟩=>thn (hv pins s1 σ H1 _ I1 q1) fun w2 s2 ⟨y,H2,I2,ry,q2⟩ =>
  thn (hr pins s2 σ H2 _ I2 q2) fun ws s3 ⟨ps,H3,I3,rel,q3⟩=>⟨(x,y) :: ps,H3,I3,.cons ⟨rx,ry⟩ rel,q3⟩)
def mergeK (kvs more:List (Key × V)):List (Key × V):=more.foldl (fun acc kv=>putK acc kv.1 kv.2) kvs
theorem KV.merge:∀ {more:List (Key × V)}{rs:List (Key × Value)}{kvs:List (Key × V)}{vs:List (Key × Value)},KV more rs→KV kvs vs→KV (mergeK kvs more) (merged vs rs):=by
 intro more rs kvs vs r
 unfold KV at r
 induction r generalizing kvs vs with
 | nil=>intro q; exact q
 | @cons p q ps qs h t ih =>
  intro r0
  have e:KV (putK kvs p.1 p.2) (stored vs q.1 q.2):=by
   have:=r0.put p.1 h.2
   rw [← h.1]; exact this
  exact ih e
theorem zads:∀ (more kvs:List (Key × V)),(mergeK kvs more).length≤kvs.length + more.length
 | [],kvs=>by show kvs.length≤kvs.length + 0; omega
 | p :: r,kvs=>by
  have h1:=zads r (putK kvs p.1 p.2)
  have h2:=zacj kvs p.1 p.2
  show (mergeK (putK kvs p.1 p.2) r).length≤_
  rw [List.length_cons]; omega
theorem zafy {P:Program}{w:World}:∀ {kvs:List (Key × V)}{ws:List (Value × Value)},VV (kvs.map fun kv=>(kV kv.1,kv.2)) ws→∃ rs,Carries (mixKind P w) ws rs∧KV kvs rs
 | [],_,r=>by rw [List.map_nil] at r; cases r; exact ⟨[],True.intro,.nil⟩
 | p :: kvs,_,r=>by
  rw [List.map_cons] at r
  cases r with
  | @cons a b as bs h t =>
   obtain ⟨rs,c,q⟩:=zafy (P:=P) (w:=w) t
   obtain ⟨b1,b2⟩:=b
   exact ⟨(p.1,b2) :: rs,⟨zafq h.1,rfl,c⟩,.cons ⟨rfl,h.2⟩ q⟩
def tDisp (trs:List (TE × TE)):TE:=fun σ H Q=>∀ p,H p=none→tPairs trs σ (upd H p (.dK [])) fun ps H2=>H2 p=some (.dK [])∧∃ kvs:List (Key × V),ps=kvs.map (fun kv=>(kV kv.1,kv.2))∧kvs.length≤15∧Q (.ref p) (upd H2 p (.dK (mergeK [] kvs)))
theorem zap6 {X:Cx}{pos:Pos}{keys:List (Option Expr)}{values:List Expr}{trs:List (TE × TE)} (h:PPs X pos keys values trs) (hall:keys.all (·.isSome)=true) (hl:keys.length=values.length) (h0:keys≠[])
  (h15:keys.length≤15):PE X (.Dict keys values pos) (tDisp trs):=by
 intro pins s σ H Q I q
 have hn:=I.hok.fresh (Nat.le_refl s.heap.objs.size)
 have I1:=I.laid (a:=s.heap.objs.size) (o:=.dK []) (h':=s.heap.push { cls:=.type "dict",data:=.dict #[] }) (t':=s.toks) (fun _ _ q=>Heap.get?_push_of_some _ q) (Nat.le_refl _) (zai9 s.heap I.big)
 refine wpAny_Dict_walk (knd:=mixKind X.prog X.w) hall hl h0 h15 (thn (h pins _ σ _ _ I1 (q _ hn)) fun ws s2 ⟨ps,H2,I2,rel,e,kvs,ep,lk,q2⟩=>?_)
 subst ep
 obtain ⟨rs,c,rk⟩:=zafy (P:=X.prog) (w:=X.w) rel
 obtain ⟨z,hd,vs0,r0,dd⟩:=zasb I2.hok e
 cases r0
 refine ⟨rs,c,dd,fun h' dd' hs=>⟨.ref s.heap.objs.size,_,?_,rfl,q2⟩⟩
 have hz:(mergeK [] kvs).length≤sizeLine:=by
  have h1:=zads kvs []
  rw [List.length_nil] at h1
  rw [sizeLine_eq]; omega
 have he:∃ q,h'.get? s.heap.objs.size=some q:=let ⟨q,_,_,hq,_⟩:=dd'; ⟨q,hq⟩
 exact zaic I2 (by rw [e]; exact True.intro) hs he (zao0 hz hd (rk.merge .nil) dd')
structure M2 (X:Cx) (o:Expr) (m:Str) (apos:Pos) (e f:Expr) (cpos:Pos):Prop where
 base:attributeBase o m X.env (eval o X.env)=eval o X.env
 few:((backTo cpos (starEach [e,f] X.env)).all (fun x=>!x.1) && (backToKw cpos (keywordEach [] X.env)).all (fun x=>x.1.isSome)
  && decide (([e,f]:List Expr).length + ([]:List Keyword).length + (if ([]:List Keyword).isEmpty then 0 else 1) < 30))=true
 line:(apos.endLine == cpos.line)=true
 trees:backTo cpos (starEach [e,f] X.env)=[(false,eval e X.env),(false,eval f X.env)]
def IsD (H:Hp) (a:Addr):Prop:=(∃ kvs,Rd H a (.dK kvs))∨∃ kvs,Rd H a (.dT kvs)
theorem zasd {X:Cx}{pins:List (Addr × Obj)}{σ:St}{H:Hp}{s:Shared}{a:Addr} (I:Inv X pins σ H s) (d:IsD H a) :
  s.TypeIs (.ref a) "dict" ∧ (∀ b,Value.ref a=.ref b→∃ ob,s.heap.get? b=some ob∧ob.dict=none)∧(a == sysModules)=false:=by
 rcases d with ⟨kvs,e⟩ | ⟨kvs,e⟩
 ·obtain ⟨_,hd,vs,_,dd⟩:=zahe I.hok e
  refine ⟨dd.typeIs,fun b q=>?_,hd⟩
  cases q
  obtain ⟨ob,_,_,h1,h2,_⟩:=dd
  exact ⟨ob,h1,h2.2.1⟩
 ·obtain ⟨_,hd,xs,_,dd⟩:=zaib I.hok e
  refine ⟨dd.typeIs,fun b q=>?_,hd⟩
  cases q
  obtain ⟨ob,_,_,h1,h2,_⟩:=dd
  exact ⟨ob,h1,h2.2.1⟩
section
variable {X:Cx}{pins:List (Addr × Obj)}{σ:St}{H:Hp}{s:Shared}{a:Addr}{y d:V}{u r:Value}{o:Option V}{A:Around}{E:Value→Shared→Prop}
theorem zase {Q:Value→Shared→Prop} (hu:A.units + 1 < cLine) (I:Inv X pins σ H s) (g:DGet H a y o) (ry:RelV y u) (rd:RelV d r) (h:∀ w' s',Inv X pins σ H s'→RelV (o.getD d) w'→Q w' s') :
  wpAny (model X.prog X.w) A (call (.builtin "dict.get") [.ref a,u,r]) Q E s:=by
 rcases g with ⟨kvs,k,e,ey,l⟩ | ⟨kvs,k,b,e,ey,eb,l⟩
 ·subst ey
  obtain ⟨z,hd,vs,rel,dd⟩:=zahe I.hok e
  refine call_meetsIn PySem.F.slot_dict_get dd.typeIs PySem.F.entry_dict_get (PySem.F.args_dict_get_3 _ _ _) (meets_dict_get_default (mixKind X.prog X.w) a (zafq ry) hd r) ⟨_,dd.mapOf,h _ _ (I.tok _) ?_⟩
  rw [l]
  exact (rel.val k).getD rd
 ·subst ey
  cases (show u=Value.ref b from ry)
  obtain ⟨z,hd,xs,rel,dd⟩:=zaib I.hok e
  refine call_meetsIn PySem.F.slot_dict_get dd.typeIs PySem.F.entry_dict_get (PySem.F.args_dict_get_3 _ _ _) (meetsH_dict_get_default (tupleKind (mixKind X.prog X.w)) a b hd r) ⟨tupleKind_room_in1 hu,k,xs,zafx I.hok eb,dd,h _ _ (I.tok _) ?_⟩
  rw [l]
  exact (rel.val k).getD rd
end
def tDGet2 (td ty tx:TE):TE:=fun σ H Q=>td σ H fun x H1=>∃ a,x=.ref a∧IsD H1 a∧ty σ H1 fun y H2=>tx σ H2 fun z H3=>∃ o,DGet H3 a y o∧Q (o.getD z) H3
section
variable {X:Cx}{o e f:Expr}{apos cpos:Pos}{td ty tx:TE}
theorem zany (hu:X.A.units + 1 < cLine) (ho:PE X o td) (he:PE X e ty) (hf:PE X f tx) (m:M2 X o "get" apos e f cpos):PE X (.Call (.Attribute o "get" apos) [e,f] [] cpos) (tDGet2 td ty tx):=by
 intro pins s σ H Q I h
 refine wpAny_Call_method m.base m.few m.line PySem.F.plainAttrs_dict PySem.F.slot_dict_get PySem.F.type_dict_get (thn (ho pins s σ H _ I h) fun u s1 ⟨x,H1,I1,rx,a,ex,d,q1⟩=>?_)
 subst ex
 obtain rfl:u=Value.ref a:=rx
 obtain ⟨t1,t2,_⟩:=zasd I1 d
 refine ⟨t1,t2,?_⟩
 rw [m.trees]
 refine Calls.callWith_builtin rfl (Calls.evalArgs_plain (Calls.spliced_cons (thn (he pins s1 σ H1 _ I1 q1) fun iv s2 ⟨y,H2,I2,ry,q2⟩ =>
  Calls.spliced_cons (thn (hf pins s2 σ H2 _ I2 q2) fun fv s3 ⟨z,H3,I3,rz,ov,g,q3⟩=>Calls.spliced_nil ?_))))
 exact zase hu I3 g ry rz fun w' s4 I4 rw'=>⟨_,H3,I4,rw',q3⟩
end
end L2

namespace L2
open PySem PySem.Spec PyProof.Rows
structure DefOk (P:Program) (w:World) (K:PySem.W.Frag) (mg:Str→Option Value) (base:Heap) (CX:CXT) (k:Nat) (x:Str) (ps:List Str) (sp:Sp):Prop where
 ex:∃ (f:Addr) (fd:FuncData),FnOk P w K mg base CX k f fd ps sp∧Binds K fd ps []∧PySem.W.keepIn K (.ref f)=true∧mg x=some (.ref f)
theorem DefOk.mono {P:Program}{w:World}{K:PySem.W.Frag}{mg:Str→Option Value}{base:Heap}{CX:CXT}{j k:Nat}{x:Str}{ps:List Str}{sp:Sp} (D:DefOk P w K mg base CX j x ps sp) (h:j≤k):DefOk P w K mg base CX k x ps sp:=by
 obtain ⟨f,fd,F,b⟩:=D.ex
 exact ⟨f,fd,F.mono h,b⟩
section
variable {X:Cx}{CX:CXT}{k:Nat}{ps:List Str}{sp:Sp}{E:XK}{x:Str}{p pos:Pos}{e:Expr}{es:List Expr}{t:TA}
theorem zanz (D:DefOk X.prog X.w X.K X.mg X.base CX k x ps sp) (hr:Room k X.A) (hg:Gl X x) (hx:Passes CX X E) (ha:PA X (e :: es) t) (hdb:(x == ("__debug__" : Str))=false:=by decide)
  (he:starEach (e :: es) X.env=(false,eval e X.env) :: starEach es X.env:=by rfl) (hpl:(backTo pos (starEach es X.env)).any (·.1)=false:=by rfl) :
  PE X (.Call (.Name x p) (e :: es) [] pos) (tCall sp [] E t):=by
 obtain ⟨f,fd,F,b,kp,m⟩:=D.ex
 exact zapv F hr hg m kp b .nil hx ha hdb he hpl
end
def CDivW (_ j:Int):Prop:=0 < j∧j < 2 ^ 64
theorem zaa7 {X:Cx}:OpR X (binaryOp .FloorDiv) (rI CDivW fun i j=>.int (i / j)):=opI fun i j _ _ _ _ _ hc q=>by
 have h1:(0:Int) < j:=hc.1
 have h2:j < 2 ^ 64:=hc.2
 have h3:j.natAbs.log2 < 64:=(Nat.log2_lt (by omega)).mpr (by omega)
 exact floordiv_int (by omega) (by rw [Int.fdiv_eq_ediv_of_nonneg i (by omega)]; exact q) (.inl (PyProof.noPylong_of_log2 (by omega)))
def Ch (W:List Addr) (H H':Hp):Prop:=∀ b o,H b=some o→b ∉ W→H' b=some o
theorem Ch.refl (W:List Addr) (H:Hp):Ch W H H:=fun _ _ h _=>h
theorem Ch.trans {W:List Addr}{H H1 H2:Hp} (a:Ch W H H1) (b:Ch W H1 H2):Ch W H H2:=fun c o h n=>b c o (a c o h n) n
theorem Ch.get {W:List Addr}{H H':Hp}{b:Addr}{o:HO} (c:Ch W H H') (h:H b=some o) (n:b ∉ W):H' b=some o:=c b o h n
theorem Ch.mono {W W':List Addr}{H H':Hp} (c:Ch W H H') (h:∀ b∈W,b∈W'):Ch W' H H':=fun b o q n=>c b o q fun z=>n (h b z)
theorem Ch.wk {W:List Addr}{H H':Hp} (c:Ch [] H H'):Ch W H H':=c.mono fun b h=>nomatch h
theorem Ch.new {W:List Addr}{H:Hp}{p:Addr} (h:H p=none) (o:HO):Ch W H (upd H p o):=fun b u q _=>by rw [zaa5 (zaam q h)]; exact q
theorem Ch.put {H:Hp}{p:Addr}{o:HO}:Ch [p] H (upd H p o):=fun b u q n=>by rw [zaa5 (fun z=>n (by simp [z]))]; exact q
def Scr (K:PySem.W.Frag) (H:Hp) (a:Addr) (ns:List Int):Prop :=
 ns.length≤63∧((∃ o,H a=some (.frz o (.lst (ns.map V.int)))) ∨
  ∃ (o:Obj) (its:Array Value) (n:Nat),K.lookup a=some o∧o.cls=.type "list" ∧ o.dict=none∧o.data=.seq its n∧its.size≤sizeLine∧Vals (ns.map V.int) its.toList)
theorem Scr.sq {K:PySem.W.Frag}{H:Hp}{a:Addr}{ns:List Int} (S:Scr K H a ns):SqL K H a (ns.map V.int):=by
 rcases S.2 with ⟨o,h⟩ | h
 ·exact .inl (.inr ⟨o,h⟩)
 ·exact .inr h
theorem Scr.ch {K:PySem.W.Frag}{H H':Hp}{a b:Addr}{ns:List Int}{xs:List V} (S:Scr K H a ns) (hb:H b=some (.lst xs)) (c:Ch [b] H H'):Scr K H' a ns:=by
 refine ⟨S.1,?_⟩
 rcases S.2 with ⟨o,h⟩ | h
 ·exact .inl ⟨o,c.get h (by
   intro z
   have e:a=b:=by simpa using z
   subst e
   rw [h] at hb
   cases hb)⟩
 ·exact .inr h
theorem Scr.same {K:PySem.W.Frag}{H H':Hp}{a:Addr}{ns:List Int} (S:Scr K H a ns) (c:Ch [] H H'):Scr K H' a ns:=by
 refine ⟨S.1,?_⟩
 rcases S.2 with ⟨o,h⟩ | h
 ·exact .inl ⟨o,c.get h (by simp)⟩
 ·exact .inr h
theorem Scr.of {K:PySem.W.Frag}{H:Hp}{a:Addr}{ns:List Int} (h:SqL K H a (ns.map V.int)) (hl:ns.length≤63) (hO:Only H):Scr K H a ns:=by
 refine ⟨hl,?_⟩
 rcases h with (h | ⟨o,h⟩) | h
 ·rcases hO a with z | ⟨o,xs,z⟩
  ·rw [h] at z; cases z
  ·rw [h] at z; cases z
 ·exact .inl ⟨o,h⟩
 ·exact .inr h
theorem zabi {H:Hp}{p q:Addr}{o u:HO} (hq:H q=none) (h:H p=some o):upd H q u p=some o:=by rw [zaa5 (zaam h hq)]; exact h
theorem zab0 {H:Hp}{p q:Addr}{o u:HO} (n:p≠q) (h:H p=some o):upd H q u p=some o:=by rw [zaa5 n]; exact h
structure Loop (J:It) (g:TG) (tb:TS) (D:Ends) (σ:St) (H:Hp):Prop where
 ex:∃ W:Nat→Nat→St→Hp→Prop,(∃ m,W 0 m σ H)∧∀ i m σ H,W i m σ H →
  (J.stop i H∧D.nx σ H)∨(J.go i H∧∃ N:St→Hp→Prop,(∀ σ' H',N σ' H'→∃ m',m' < m∧W (i + 1) m' σ' H')∧∀ x H',J.yld i H x H'→g x σ H' fun σ2 H2=>tb { D with nx:=N,ct:=N,bk:=D.nx } σ2 H2)
def tLoop (wi:TI) (g:TG) (tb:TS):TS:=fun D σ H=>wi σ H fun J H1=>Loop J g tb D σ H1
theorem zap7 {X:Cx}{tg iter:Expr}{body:List Stmt}{wi:TI}{g:TG}{tb:TS}{pos:Pos} (hp:PassesOwn (model X.prog X.w) X.A X.env X.xe) (hc:X.calm=true) (hi:PI X tg iter wi) (hg:PG X tg g) (hb:PSs X body tb)
  (hs:∀ x,foldedSetIterable iter X.env x=pure x:=by intro _; rfl):PS X (.For tg iter body [] pos) (tLoop wi g tb):=by
 have hi':PI X tg iter (fun σ H R=>∃ R0:It→Hp→Prop,wi σ H R0∧∀ J H1,R0 J H1→R J H1):=by
  intro pins s σ H R I ⟨R0,h,m⟩
  refine thn (hi pins s σ H _ I h) fun v s1 h1=>thn h1 fun itv s2 h2=>?_
  obtain ⟨it,fp,tn,J,H2,e,I2,T,st2,f2,r⟩:=h2
  exact ⟨it,fp,tn,J,H2,e,I2,T,st2,f2,m _ _ r⟩
 intro pins s σ H D I h
 exact zarw hp hc hi' hg hb hs pins s σ H D I ⟨_,h,fun J H1 l=>l.ex⟩
theorem zadt {K:PySem.W.Frag}{a:Addr}{xs:List V}{g:TG}{tb:TS}{D:Ends}{σ:St}{H:Hp} (Pv:Nat→St→Hp→Prop) (h0:Pv 0 σ H) (hl:∀ i σ H,i≤xs.length→Pv i σ H→SqL K H a xs)
  (hs:∀ i x σ H,xs[i]?=some x→Pv i σ H→g x σ H fun σ2 H2=>tb { D with nx:=Pv (i + 1),ct:=Pv (i + 1),bk:=D.nx } σ2 H2) (hd:∀ σ H,Pv xs.length σ H→D.nx σ H):Loop (Itl K a) g tb D σ H:=⟨zann Pv h0 hl hs hd⟩
theorem zan0 {K:PySem.W.Frag}{a:Addr}{xs:List V}{g:TG}{tb:TS}{D:Ends}{σ:St}{H:Hp} (Pv:Nat→St→Hp→Prop) (h0:Pv 0 σ H) (hl:∀ i σ H,i≤xs.length→Pv i σ H→SqT K H a xs)
  (hs:∀ i x σ H,xs[i]?=some x→Pv i σ H→g x σ H fun σ2 H2=>tb { D with nx:=Pv (i + 1),ct:=Pv (i + 1),bk:=D.nx } σ2 H2) (hd:∀ σ H,Pv xs.length σ H→D.nx σ H):Loop (Itt K a) g tb D σ H:=⟨zapo Pv h0 hl hs hd⟩
theorem zabr {lo:Int}{n:Nat}{g:TG}{tb:TS}{D:Ends}{σ:St}{H:Hp} (Pv:Nat→St→Hp→Prop) (h0:Pv 0 σ H)
  (hs:∀ i σ H,i < n→Pv i σ H→g (.int (lo + i)) σ H fun σ2 H2=>tb { D with nx:=Pv (i + 1),ct:=Pv (i + 1),bk:=D.nx } σ2 H2) (hd:∀ σ H,Pv n σ H→D.nx σ H):Loop (Itr lo n) g tb D σ H:=⟨zakf Pv h0 hs hd⟩
structure Cut (t u:TS) (D:Ends) (σ:St) (H:Hp):Prop where
 ex:∃ P:St→Hp→Prop,t { D with nx:=P } σ H∧∀ σ' H',P σ' H'→u D σ' H'
def tCut (t u:TS):TS:=fun D σ H=>Cut t u D σ H
theorem zap8 {X:Cx}{st:Stmt}{rest:List Stmt}{t u:TS} (h1:PS X st t) (h2:PSs X rest u):PSs X (st :: rest) (tCut t u):=by
 intro pins s σ H D I h
 obtain ⟨P,a,b⟩:=h.ex
 have h1':PS X st (fun D' σ' H'=>∃ P:St→Hp→Prop,t { D' with nx:=P } σ' H'∧∀ σ2 H2,P σ2 H2→D'.nx σ2 H2):=by
  intro pins s σ H D I ⟨P,a,b⟩
  refine thn (h1 pins s σ H _ I a) fun f s' q=>?_
  cases f with
  | next=>obtain ⟨σ7,H7,I7,n7⟩:=q; exact ⟨σ7,H7,I7,b _ _ n7⟩
  | cont=>exact q
  | brk=>exact q
  | ret v=>exact q
 exact zai2 h1' h2 pins s σ H D I ⟨P,a,b⟩
theorem zabg {t u:TS}{D:Ends}{σ:St}{H:Hp} (P:St→Hp→Prop) (h1:t { D with nx:=P } σ H) (h2:∀ σ' H',P σ' H'→u D σ' H'):Cut t u D σ H:=⟨P,h1,h2⟩
theorem zaja {ns:List Int}{i:Int} (h0:0≤i) (h1:i < (ns.length:Int)):∃ n:Int,atI (ns.map V.int) i=some (.int n):=by
 have hk:i.toNat < ns.length:=by omega
 have ek:i=((i.toNat:Nat):Int):=by omega
 have q:atI (ns.map V.int) ((i.toNat:Nat):Int)=some (.int ns[i.toNat]):=zab8 (by rw [List.getElem?_map,List.getElem?_eq_getElem hk]; rfl)
 rw [← ek] at q
 exact ⟨_,q⟩
end L2

namespace L2
open PySem PySem.Spec PyProof.Rows
structure Atx {α:Type} (xs:List α) (i:Int) (R:α→Prop):Prop where
 ex:∃ v,atI xs i=some v∧R v
theorem Atx.of {α:Type}{xs:List α}{i:Int}{v:α}{R:α→Prop} (h:atI xs i=some v) (r:R v):Atx xs i R:=⟨v,h,r⟩
section
variable {X:Cx}
theorem IxR.imp {r r':R2} (h:IxR X r) (f:∀ x y H Q,r' x y H Q→r x y H Q):IxR X r':=fun value slice pins s σ H x y v u Q I rx ry q hs=>h value slice pins s σ H x y v u Q I rx ry (f _ _ _ _ q) hs
def aIxL (K:PySem.W.Frag):R2:=fun x y H Q=>∃ p xs i,x=.ref p∧y=.int i∧SqL K H p xs∧Atx xs i fun v=>Q v H
def aIxT (K:PySem.W.Frag):R2:=fun x y H Q=>∃ p xs i,x=.ref p∧y=.int i∧SqT K H p xs∧Atx xs i fun v=>Q v H
theorem zaar:IxR X (aIxL X.K):=zapz.imp fun x y H Q ⟨p,xs,i,e1,e2,h,a⟩=>let ⟨v,hv,q⟩:=a.ex; ⟨p,xs,i,v,e1,e2,h,hv,q⟩
theorem zaa8:IxR X (aIxT X.K):=zar7.imp fun x y H Q ⟨p,xs,i,e1,e2,h,a⟩=>let ⟨v,hv,q⟩:=a.ex; ⟨p,xs,i,v,e1,e2,h,hv,q⟩
end
end L2
namespace L2
open PySem
section
variable {es:List Expr}{env:Env}
theorem zaad {x pos}:starEach (.Name x pos :: es) env=(false,eval (.Name x pos) env) :: starEach es env:=rfl
theorem zaah {c k pos}:starEach (.Constant c k pos :: es) env=(false,eval (.Constant c k pos) env) :: starEach es env:=rfl
theorem zaay {a o b pos}:starEach (.BinOp a o b pos :: es) env=(false,eval (.BinOp a o b pos) env) :: starEach es env:=rfl
theorem zaj0 {a o pos}:starEach (.UnaryOp o a pos :: es) env=(false,eval (.UnaryOp o a pos) env) :: starEach es env:=rfl
theorem zabh {a o b pos}:starEach (.Call a o b pos :: es) env=(false,eval (.Call a o b pos) env) :: starEach es env:=rfl
theorem zabx {a k pos}:starEach (.Tuple a k pos :: es) env=(false,eval (.Tuple a k pos) env) :: starEach es env:=rfl
theorem zaie {a pos}:starEach (.List a pos :: es) env=(false,eval (.List a pos) env) :: starEach es env:=rfl
theorem zaa3 {a b pos}:starEach (.Subscript a b pos :: es) env=(false,eval (.Subscript a b pos) env) :: starEach es env:=rfl
theorem zafz {a b c pos}:starEach (.Compare a b c pos :: es) env=(false,eval (.Compare a b c pos) env) :: starEach es env:=rfl
theorem zaen {a b c pos}:starEach (.IfExp a b c pos :: es) env=(false,eval (.IfExp a b c pos) env) :: starEach es env:=rfl
theorem zak2 {a b pos}:starEach (.BoolOp a b pos :: es) env=(false,eval (.BoolOp a b pos) env) :: starEach es env:=rfl
theorem zabm {a b c pos}:starEach (.ListComp a b c pos :: es) env=(false,eval (.ListComp a b c pos) env) :: starEach es env:=rfl
theorem zaif {a b pos}:starEach (.Dict a b pos :: es) env=(false,eval (.Dict a b pos) env) :: starEach es env:=rfl
end
end L2
namespace L2
open PySem
theorem Ch.own {W:List Addr}{H H':Hp}{p:Addr}{o:HO} (n:H p=none) (c:Ch W H H'):Ch W H (upd H' p o):=fun b u h k=>by
 rw [zaa5 (zaam h n)]
 exact c b u h k
theorem cut1 (x:V) (ys:List V):cutV (x :: ys) (some 1) none=ys:=by
 unfold cutV
 have e:HT.sIx (x :: ys).length 0 (some 1)=1:=by
  have z:=HT.sIx_nat (x :: ys).length 0 1
  rw [List.length_cons] at z ⊢
  refine z.trans ?_
  omega
 rw [e,HT.sIx_none,List.drop_succ_cons,List.drop_zero,List.take_of_length_le]
 simp
theorem zan1 (x:V) (ys:List V):¬ (HT.sIx (x :: ys).length 0 (some 1)=0∧HT.sIx (x :: ys).length (x :: ys).length none=(x :: ys).length):=by
 intro h
 have e:HT.sIx (x :: ys).length 0 (some 1)=1:=by
  have z:=HT.sIx_nat (x :: ys).length 0 1
  rw [List.length_cons] at z ⊢
  refine z.trans ?_
  omega
 rw [e] at h
 exact absurd h.1 (by decide)
end L2
namespace L2
open PySem
theorem Atx.head {α:Type}{x:α}{xs:List α}{R:α→Prop} (r:R x):Atx (x :: xs) 0 R:=⟨x,zab8 (j:=0) rfl,r⟩
end L2

namespace L2
open PySem PySem.Spec PyProof.Rows
inductive SK where
 | list | tuple
def SIt (k:SK) (h:Heap) (it l:Addr) (i:Nat):Prop:=match k with
 | .list=>h.IsListIter it l i
 | .tuple=>h.IsTupleIter it l i
def SIs (k:SK) (h:Heap) (l:Addr) (items:Array Value):Prop:=match k with
 | .list=>h.IsList l items
 | .tuple=>h.IsTuple l items
def Sq (k:SK) (K:PySem.W.Frag) (H:Hp) (a:Addr) (xs:List V):Prop:=match k with
 | .list=>SqL K H a xs
 | .tuple=>SqT K H a xs
theorem SIt.at {k:SK}{h h':Heap}{a l i} (x:SIt k h a l i) (e:∀ o,h.get? a=some o→h'.get? a=some o):SIt k h' a l i:=by
 cases k with
 | list=>exact Heap.IsListIter.at x e
 | tuple=>exact Heap.IsTupleIter.at x e
theorem SIt.obj {k:SK}{h:Heap}{a l i} (x:SIt k h a l i):∃ o,h.get? a=some o∧∀ v,o.data≠.cell v:=by
 cases k with
 | list=>obtain ⟨o,e,c,d⟩:=(show h.IsListIter a l i from x); exact ⟨o,e,fun v z=>by rw [d] at z; cases z⟩
 | tuple=>obtain ⟨o,e,c,d⟩:=(show h.IsTupleIter a l i from x); exact ⟨o,e,fun v z=>by rw [d] at z; cases z⟩
theorem SIs.at {k:SK}{h h':Heap}{a items} (x:SIs k h a items) (e:∀ o,h.get? a=some o→h'.get? a=some o):SIs k h' a items:=by
 cases k with
 | list=>exact Heap.IsList.at x e
 | tuple=>obtain ⟨o,ho,r⟩:=(show h.IsTuple a items from x); exact ⟨o,e _ ho,r⟩
theorem SIs.lt {k:SK}{h:Heap}{a items} (x:SIs k h a items):a < h.objs.size:=by
 cases k with
 | list=>obtain ⟨_,e,_⟩:=(show h.IsList a items from x); exact Heap.lt_size e
 | tuple=>obtain ⟨_,e,_⟩:=(show h.IsTuple a items from x); exact Heap.lt_size e
section
variable {prog:Program}{w:World}{A:Around}{E:Value→Shared→Prop}{s:Shared}
theorem zad4 {it l:Addr}{i:Nat}{items}{x:Value}{Q:Value→Shared→Prop} (hit:s.heap.IsTupleIter it l i)
  (hl:s.heap.IsTuple l items) (hx:items[i]?=some x)
  (hQ:∀ h',h'.IsTupleIter it l (i + 1)→Heap.SameBut it s.heap h'→Q x { s with heap:=h' }) :
  wpAny (model prog w) A (Builtin.SmallTypes.nextOf (.ref it)) Q E s:=by
 obtain ⟨o,ho,hc,hd⟩:=id hit
 obtain ⟨ol,hol,_,nl,hdl⟩:=hl
 unfold Builtin.SmallTypes.nextOf
 refine wpAny_bind (wpAny_callSpecial?_slot (name:=Str.ofString "__next__") hit.typeIs F.slot_tuple_iterator_next
  (wpAny_call_entry F.slot_tuple_iterator_next hit.typeIs F.entry_tuple_iterator_next ?_ (F.args_tuple_iterator_next_1 _)))
 show wpAny _ _ (field (.ref it) 0 >>= _) _ _ s
 refine wpAny_bind (wpAny_field ho hd (x:=.ref l) rfl ?_)
 show wpAny _ _ (if (Value.ref l == Value.none)=true then _ else _) _ _ s
 rw [if_neg (show ¬ ((Value.ref l == Value.none)=true) from Bool.false_ne_true)]
 show wpAny _ _ (field (.ref it) 1 >>= _) _ _ s
 refine wpAny_bind (wpAny_field ho hd (x:=.int i 0) rfl ?_)
 show wpAny _ _ (seqItems? (.ref l) >>= _) _ _ s
 refine wpAny_bind (wpAny_seqItems hol hdl ?_)
 simp only [Int.toNat_natCast,hx]
 refine wpAny_bind (wpAny_setField ho hd (by simp) (wpAny_pure ⟨x,rfl,wpAny_pure (hQ _ ?_ (Heap.SameBut.update ..))⟩))
 exact ⟨_,Heap.get?_update_self _ ho (Obj.isFreed_of_fields (Obj.data_mapFields hd _)),(Obj.cls_mapFields ..).trans hc,by
  rw [Obj.data_mapFields hd]; simp [rawInt]⟩
theorem zaej {it l:Addr}{i:Nat}{items}{Q:Value→Shared→Prop} (hh:A.handled=none)
  (hit:s.heap.IsTupleIter it l i) (hl:s.heap.IsTuple l items) (hx:items[i]?=none)
  (hE:∀ h' e,Heap.ExtBut it s.heap h'→(∃ o,h'.get? e=some o∧o.cls=.type "StopIteration")→E (.ref e) { s with heap:=h' }) :
  wpAny (model prog w) A (Builtin.SmallTypes.nextOf (.ref it)) Q E s:=by
 obtain ⟨o,ho,hc,hd⟩:=id hit
 obtain ⟨ol,hol,_,nl,hdl⟩:=hl
 unfold Builtin.SmallTypes.nextOf
 refine wpAny_bind (wpAny_callSpecial?_slot (name:=Str.ofString "__next__") hit.typeIs F.slot_tuple_iterator_next
  (wpAny_call_entry F.slot_tuple_iterator_next hit.typeIs F.entry_tuple_iterator_next ?_ (F.args_tuple_iterator_next_1 _)))
 show wpAny _ _ (field (.ref it) 0 >>= _) _ _ s
 refine wpAny_bind (wpAny_field ho hd (x:=.ref l) rfl ?_)
 show wpAny _ _ (if (Value.ref l == Value.none)=true then _ else _) _ _ s
 rw [if_neg (show ¬ ((Value.ref l == Value.none)=true) from Bool.false_ne_true)]
 show wpAny _ _ (field (.ref it) 1 >>= _) _ _ s
 refine wpAny_bind (wpAny_field ho hd (x:=.int i 0) rfl ?_)
 show wpAny _ _ (seqItems? (.ref l) >>= _) _ _ s
 refine wpAny_bind (wpAny_seqItems hol hdl ?_)
 simp only [Int.toNat_natCast,hx]
 refine wpAny_bind (wpAny_rule (wpAny_bind (wpAny_setField ho hd (by simp) ?_)))
 show wpAny _ _ (newExc (.type "StopIteration") [] >>= _) _ _ _
 refine wpAny_bind ?_
 simp only [newExc,newTuple]
 refine wpAny_bind (wpAny_newObj_type ?_ (by size_fits))
 refine wpAny_bind (m:=firstArgMember _ _) (wpAny_of_eq (a:=Value.none) (by first | rfl | (simp only [firstArgMember]; rfl)) ?_)
 refine wpAny_newObj_type ?_ (by size_fits)
 simp only [raiseNew]
 refine wpAny_bind (wpAny_handled ?_)
 first | rw [show A.in1.handled=none from hh] | rw [hh]
 refine wpAny_bind (wpAny_pure (wpAny_throw ?_))
 exact hE _ _ (((Heap.SameBut.update ..).extBut.push _).push _) ⟨_,Heap.get?_push_size _ rfl,rfl⟩
theorem zact {k:SK}{it l:Addr}{i:Nat}{items}{x:Value}{Q:Value→Shared→Prop} (hit:SIt k s.heap it l i) (hl:SIs k s.heap l items) (hx:items[i]?=some x)
  (hQ:∀ h',SIt k h' it l (i + 1)→Heap.SameBut it s.heap h'→Q x { s with heap:=h' }):wpAny (model prog w) A (Builtin.SmallTypes.nextOf (.ref it)) Q E s:=by
 cases k with
 | list=>exact wpAny_nextOf_list_item hit hl hx hQ
 | tuple=>exact zad4 hit hl hx hQ
theorem zad5 {k:SK}{it l:Addr}{i:Nat}{items}{Q:Value→Shared→Prop} (hh:A.handled=none) (hit:SIt k s.heap it l i) (hl:SIs k s.heap l items) (hx:items[i]?=none)
  (hE:∀ h' e,Heap.ExtBut it s.heap h'→(∃ o,h'.get? e=some o∧o.cls=.type "StopIteration")→E (.ref e) { s with heap:=h' }) :
  wpAny (model prog w) A (Builtin.SmallTypes.nextOf (.ref it)) Q E s:=by
 cases k with
 | list=>exact wpAny_nextOf_list_end hh hit hl hx hE
 | tuple=>exact zaej hh hit hl hx hE
theorem SIt.ext {k:SK}{h h':Heap}{a b l i} (x:SIt k h a l i) (hs:Heap.ExtBut b h h') (hab:a≠b):SIt k h' a l i:=x.at fun o e=>hs _ _ hab e
theorem SIs.ext {k:SK}{h h':Heap}{a b items} (x:SIs k h a items) (hs:Heap.ExtBut b h h') (hab:a≠b):SIs k h' a items:=x.at fun o e=>hs _ _ hab e
theorem zak3 {k1 k2:SK}{z TI TO i1 i2 l1 l2:Addr}{n1 n2:Nat}{xs ys:Array Value}{x y a b:Value}{Q:Value→Shared→Prop} (D:ZipApart z TI TO i1 i2 l1 l2)
  (hz:IsZip s.heap z TI TO .none) (hTI:IsPair s.heap TI (.ref i1) (.ref i2)) (hTO:IsPair s.heap TO a b)
  (h1:SIt k1 s.heap i1 l1 n1) (h2:SIt k2 s.heap i2 l2 n2) (hl1:SIs k1 s.heap l1 xs) (hl2:SIs k2 s.heap l2 ys) (hx:xs[n1]?=some x) (hy:ys[n2]?=some y)
  (hQ:∀ h',IsZip h' z TI TO (rawInt s.heap.objs.size)→IsPair h' TO x y→SIt k1 h' i1 l1 (n1 + 1)→SIt k2 h' i2 l2 (n2 + 1)→IsPair h' s.heap.objs.size x y→h'.objs.size=s.heap.objs.size + 1 →
   (∀ c o,c≠z→c≠TO→c≠i1→c≠i2→s.heap.get? c=some o→h'.get? c=some o)→Q (.ref s.heap.objs.size) { s with heap:=h' }) :
  wpAny (model prog w) A (Builtin.«zip.__next__» ⟨[.ref z],[]⟩) (fun fin s'=>∃ v,fin=.done (.ret v)∧Q v s') E s:=by
 show wpAny _ _ (field (.ref z) 2 >>= _) _ _ _
 refine wpAny_bind (wpAny_field hz rfl (x:=.bool false) rfl ?_)
 show wpAny _ _ (field (.ref z) 3 >>= _) _ _ _
 refine wpAny_bind (wpAny_field hz rfl (x:=.ref TI) rfl ?_)
 refine wpAny_bind (wpAny_seqItems hTI rfl ?_)
 show wpAny _ _ (Builtin.SmallTypes.ownedTupleIsFree (.ref z) >>= _) _ _ _
 refine wpAny_bind ?_
 unfold Builtin.SmallTypes.ownedTupleIsFree
 refine wpAny_bind (wpAny_field hz rfl (x:=.none) rfl (wpAny_pure ?_))
 simp only [if_true]
 refine wpAny_bind (wpAny_rule ?_)
 refine wpAny_bind (wpAny_field hz rfl (x:=.ref TO) rfl ?_)
 refine wpAny_bind (wpAny_setField_rec hz (by simp) fun h₁ hz₁ hs₁=>?_)
 replace hz₁:IsZip h₁ z TI TO .ellipsis:=hz₁
 refine wpAny_bind ?_
 simp only [List.zipIdx_cons,List.zipIdx_nil,List.forIn_cons,List.forIn_nil]
 refine wpAny_bind (wpAny_bind (wpAny_onRaise ?_))
 show wpAny _ _ (Builtin.SmallTypes.nextOf (.ref i1) >>= _) _ _ _
 refine wpAny_bind (zact (h1.ext hs₁.extBut D.i1z) (hl1.ext hs₁.extBut D.l1z) hx fun h₂ h1₂ hs₂=>wpAny_pure ?_)
 have hTO₂:IsPair h₂ TO a b:=hs₂.extBut _ _ D.TOi1 (hs₁.extBut _ _ D.TOz hTO)
 refine wpAny_bind (wpAny_seqItems hTO₂ rfl ?_)
 refine wpAny_bind (wpAny_updateSeq_pair hTO₂ fun h₃ hTO₃ hs₃=>?_)
 replace hTO₃:IsPair h₃ TO x b:=hTO₃
 refine wpAny_bind (wpAny_letGo (wpAny_pure ?_))
 refine wpAny_bind (wpAny_bind (wpAny_onRaise ?_))
 show wpAny _ _ (Builtin.SmallTypes.nextOf (.ref i2) >>= _) _ _ _
 refine wpAny_bind (zact (((h2.ext hs₁.extBut D.i2z).ext hs₂.extBut D.i12.symm).ext hs₃.extBut D.TOi2.symm)
  (((hl2.ext hs₁.extBut D.l2z).ext hs₂.extBut D.l2i1).ext hs₃.extBut D.l2TO) hy fun h₄ h2₄ hs₄=>wpAny_pure ?_)
 have hTO₄:IsPair h₄ TO x b:=hs₄.extBut _ _ D.TOi2 hTO₃
 refine wpAny_bind (wpAny_seqItems hTO₄ rfl ?_)
 refine wpAny_bind (wpAny_updateSeq_pair hTO₄ fun h₅ hTO₅ hs₅=>?_)
 replace hTO₅:IsPair h₅ TO x y:=hTO₅
 refine wpAny_bind (wpAny_letGo (wpAny_pure (wpAny_pure ?_)))
 refine wpAny_bind (wpAny_seqItems hTO₅ rfl ?_)
 refine wpAny_bind (wpAny_newTuple ?_)
 have hsz:h₅.objs.size=s.heap.objs.size:=by rw [hs₅.1,hs₄.1,hs₃.1,hs₂.1,hs₁.1]
 have hz₅:IsZip h₅ z TI TO .ellipsis:=hs₅.extBut _ _ D.TOz.symm (hs₄.extBut _ _ D.i2z.symm (hs₃.extBut _ _ D.TOz.symm (hs₂.extBut _ _ D.i1z.symm hz₁)))
 have hk₅:∀ c o,c≠z→c≠TO→c≠i1→c≠i2→s.heap.get? c=some o→h₅.get? c=some o:=fun c o c1 c2 c3 c4 e =>
  hs₅.extBut _ _ c2 (hs₄.extBut _ _ c4 (hs₃.extBut _ _ c2 (hs₂.extBut _ _ c3 (hs₁.extBut _ _ c1 e))))
 have h1₅:SIt k1 h₅ i1 l1 (n1 + 1):=((h1₂.ext hs₃.extBut D.TOi1.symm).ext hs₄.extBut D.i12).ext hs₅.extBut D.TOi1.symm
 have h2₅:SIt k2 h₅ i2 l2 (n2 + 1):=h2₄.ext hs₅.extBut D.TOi2.symm
 have hzlt:z < h₅.objs.size:=Heap.lt_size hz₅
 show wpAny _ _ (Builtin.SmallTypes.ownedTupleHandOut (.ref z) (.ref h₅.objs.size) >>= _) _ _ _
 refine wpAny_bind ?_
 unfold Builtin.SmallTypes.ownedTupleHandOut
 have hz₆:IsZip (h₅.push { cls:=.type "tuple",data:=.seq #[x,y] }) z TI TO .ellipsis:=Heap.get?_push_of_some _ hz₅
 refine wpAny_bind (wpAny_setField_rec hz₆ (by simp) fun h₇ hz₇ hs₇=>?_)
 replace hz₇:IsZip h₇ z TI TO (rawInt h₅.objs.size):=hz₇
 refine wpAny_setField_rec hz₇ (by simp) fun h₈ hz₈ hs₈=>?_
 replace hz₈:IsZip h₈ z TI TO (rawInt h₅.objs.size):=hz₈
 have up:∀ c o,c≠z→h₅.get? c=some o→h₈.get? c=some o:=fun c o c1 e=>hs₈.extBut _ _ c1 (hs₇.extBut _ _ c1 (Heap.get?_push_of_some _ e))
 have hT₈:IsPair h₈ h₅.objs.size x y:=hs₈.extBut _ _ (Nat.ne_of_gt hzlt) (hs₇.extBut _ _ (Nat.ne_of_gt hzlt) (Heap.get?_push_size _ rfl))
 have hz8:h₈.objs.size=h₅.objs.size + 1:=by rw [hs₈.1,hs₇.1,Heap.size_push]
 rw [hsz] at hz₈ hT₈ hz8
 refine wpAny_pure ⟨_,rfl,?_⟩
 show Q (.ref h₅.objs.size) _
 rw [hsz]
 exact hQ h₈ hz₈ (up _ _ D.TOz hTO₅) (h1₅.at fun o e=>up _ o D.i1z e) (h2₅.at fun o e=>up _ o D.i2z e) hT₈ hz8 fun c o c1 c2 c3 c4 e=>up c o c1 (hk₅ c o c1 c2 c3 c4 e)
theorem zan2 {k1 k2:SK}{z TI TO i1 i2 l1 l2:Addr}{n1 n2:Nat}{xs ys:Array Value}{a b:Value}{Q:Fin→Shared→Prop} (hh:A.handled=none) (D:ZipApart z TI TO i1 i2 l1 l2)
  (hz:IsZip s.heap z TI TO .none) (hTI:IsPair s.heap TI (.ref i1) (.ref i2)) (hTO:IsPair s.heap TO a b)
  (h1:SIt k1 s.heap i1 l1 n1) (h2:SIt k2 s.heap i2 l2 n2) (hl1:SIs k1 s.heap l1 xs) (hl2:SIs k2 s.heap l2 ys) (hend:xs[n1]?=none∨ys[n2]?=none)
  (hE:∀ h' e,(∀ c o,c≠z→c≠TO→c≠i1→c≠i2→s.heap.get? c=some o→h'.get? c=some o)→(∃ o,h'.get? e=some o∧o.cls=.type "StopIteration")→E (.ref e) { s with heap:=h' }) :
  wpAny (model prog w) A (Builtin.«zip.__next__» ⟨[.ref z],[]⟩) Q E s:=by
 show wpAny _ _ (field (.ref z) 2 >>= _) _ _ _
 refine wpAny_bind (wpAny_field hz rfl (x:=.bool false) rfl ?_)
 show wpAny _ _ (field (.ref z) 3 >>= _) _ _ _
 refine wpAny_bind (wpAny_field hz rfl (x:=.ref TI) rfl ?_)
 refine wpAny_bind (wpAny_seqItems hTI rfl ?_)
 show wpAny _ _ (Builtin.SmallTypes.ownedTupleIsFree (.ref z) >>= _) _ _ _
 refine wpAny_bind ?_
 unfold Builtin.SmallTypes.ownedTupleIsFree
 refine wpAny_bind (wpAny_field hz rfl (x:=.none) rfl (wpAny_pure ?_))
 simp only [if_true]
 refine wpAny_bind (wpAny_rule ?_)
 refine wpAny_bind (wpAny_field hz rfl (x:=.ref TO) rfl ?_)
 refine wpAny_bind (wpAny_setField_rec hz (by simp) fun h₁ hz₁ hs₁=>?_)
 replace hz₁:IsZip h₁ z TI TO .ellipsis:=hz₁
 refine wpAny_bind ?_
 simp only [List.zipIdx_cons,List.zipIdx_nil,List.forIn_cons,List.forIn_nil]
 refine wpAny_bind (wpAny_bind (wpAny_onRaise ?_))
 show wpAny _ _ (Builtin.SmallTypes.nextOf (.ref i1) >>= _) _ _ _
 cases hx:xs[n1]? with
 | none =>
  refine wpAny_bind (zad5 hh (h1.ext hs₁.extBut D.i1z) (hl1.ext hs₁.extBut D.l1z) hx fun h₂ e hs₂ he=>?_)
  obtain ⟨oe,hoe,hce⟩:=he
  have hz₂:IsZip h₂ z TI TO .ellipsis:=hs₂ _ _ D.i1z.symm hz₁
  have hez:e≠z:=fun x=>by subst x; rw [hz₂] at hoe; cases hoe; simp at hce
  refine wpAny_setField_rec hz₂ (by simp) fun h₃ _ hs₃=>hE h₃ e (fun c o c1 _ c3 _ x=>hs₃.extBut _ _ c1 (hs₂ _ _ c3 (hs₁.extBut _ _ c1 x))) ⟨oe,hs₃.extBut _ _ hez hoe,hce⟩
 | some x =>
  have hy:ys[n2]?=none:=by rcases hend with h | h; rw [hx] at h; cases h; exact h
  refine wpAny_bind (zact (h1.ext hs₁.extBut D.i1z) (hl1.ext hs₁.extBut D.l1z) hx fun h₂ h1₂ hs₂=>wpAny_pure ?_)
  have hTO₂:IsPair h₂ TO a b:=hs₂.extBut _ _ D.TOi1 (hs₁.extBut _ _ D.TOz hTO)
  refine wpAny_bind (wpAny_seqItems hTO₂ rfl ?_)
  refine wpAny_bind (wpAny_updateSeq_pair hTO₂ fun h₃ hTO₃ hs₃=>?_)
  refine wpAny_bind (wpAny_letGo (wpAny_pure ?_))
  refine wpAny_bind (wpAny_bind (wpAny_onRaise ?_))
  show wpAny _ _ (Builtin.SmallTypes.nextOf (.ref i2) >>= _) _ _ _
  refine wpAny_bind (zad5 hh (((h2.ext hs₁.extBut D.i2z).ext hs₂.extBut D.i12.symm).ext hs₃.extBut D.TOi2.symm)
   (((hl2.ext hs₁.extBut D.l2z).ext hs₂.extBut D.l2i1).ext hs₃.extBut D.l2TO) hy fun h₄ e hs₄ he=>?_)
  obtain ⟨oe,hoe,hce⟩:=he
  have hz₄:IsZip h₄ z TI TO .ellipsis:=hs₄ _ _ D.i2z.symm (hs₃.extBut _ _ D.TOz.symm (hs₂.extBut _ _ D.i1z.symm hz₁))
  have hez:e≠z:=fun x=>by subst x; rw [hz₄] at hoe; cases hoe; simp at hce
  refine wpAny_setField_rec hz₄ (by simp) fun h₅ _ hs₅=>hE h₅ e (fun c o c1 c2 c3 c4 x=>hs₅.extBut _ _ c1 (hs₄ _ _ c4 (hs₃.extBut _ _ c2 (hs₂.extBut _ _ c3 (hs₁.extBut _ _ c1 x))))) ⟨oe,hs₅.extBut _ _ hez hoe,hce⟩
end
section
variable {X:Cx}{pins:List (Addr × Obj)}{σ:List (Option V)}{H H':Hp}{s:Shared}{h':Heap}
theorem Inv.turnedL {t':Nat}{its:List Addr} (I:Inv X pins σ H s) (k:∀ b o,b ∉ its→s.heap.get? b=some o→h'.get? b=some o) (hf:∀ b∈its,FpOk X pins H b):Inv X pins σ H { s with heap:=h',toks:=t' }:=by
 have nit:∀ b u,H b=some u→b ∉ its:=fun b u e z=>by rw [(hf b z).1] at e; cases e
 refine I.step (g':=s.gens) (d':=s.drawn) (ch:=its) (fun b hb=>?_) (fun b o _ _ hc e _=>k b o hc e) (fun b o _ _ hc e _=>⟨o.slots,k b o hc e⟩) (fun _ _ _ _ n=>n)
  (fun b o hc e=>⟨o,k b o hc e⟩) (fun _ _ e=>e) (fun _ _ _ e=>e) (fun b ps e=>⟨#[],by rw [e]; simp⟩) (fun m hm=>?_) (fun b u e=>?_) I.bare
 ·obtain ⟨f0,f1,f2,f3,f4,f5⟩:=hf b hb
  exact ⟨f3,f1,f4,f5⟩
 ·obtain ⟨o,es,ep,ho,r⟩:=hm
  exact ⟨o,es,ep,k _ o (fun z=>(hf _ z).2.1 rfl) ho,r⟩
 ·refine (I.hok b u e).stay (fun c v hc q=>k c v ?_ q) (fun _ q=>q) fun _ _ q=>q
  rcases hc with z | z
  ·rw [z]; exact nit b u e
  ·exact nit c _ z
theorem Inv.turnedNew {t':Nat}{its:List Addr}{T:Addr}{o:HO} (I:Inv X pins σ H s) (k:∀ b ob,b ∉ its→s.heap.get? b=some ob→h'.get? b=some ob) (hf:∀ b∈its,FpOk X pins H b)
  (hT:s.heap.objs.size≤T) (new:ObjOk X.prog X.w (upd H T o) h' T o):Inv X pins σ (upd H T o) { s with heap:=h',toks:=t' }:=by
 have nit:∀ b u,H b=some u→b ∉ its:=fun b u e z=>by rw [(hf b z).1] at e; cases e
 have hn:H T=none:=I.hok.fresh hT
 have neT:∀ b ob,s.heap.get? b=some ob→b≠T:=fun b ob e=>Nat.ne_of_lt (Nat.lt_of_lt_of_le (Heap.lt_size e) hT)
 have up:∀ b u,H b=some u→upd H T o b=some u:=fun b u e=>by rw [zaa5 (zaam e hn)]; exact e
 refine I.step (g':=s.gens) (d':=s.drawn) (ch:=its) (fun b hb=>?_) (fun b ob _ _ hc e _=>k b ob hc e) (fun b ob _ _ hc e _=>⟨ob.slots,k b ob hc e⟩) (fun b ob _ e n=>by rw [zaa5 (neT b ob e)]; exact n)
  (fun b ob hc e=>⟨ob,k b ob hc e⟩) (fun b _ e=>up b _ e) (fun b _ _ e=>up b _ e) (fun b ps e=>⟨#[],by rw [up b _ e]; simp⟩) (fun m hm=>?_) (fun b u e=>?_) I.bare
 ·obtain ⟨f0,f1,f2,f3,f4,f5⟩:=hf b hb
  exact ⟨f3,f1,f4,f5⟩
 ·obtain ⟨ob,es,ep,ho,r⟩:=hm
  exact ⟨ob,es,ep,k _ ob (fun z=>(hf _ z).2.1 rfl) ho,r⟩
 ·by_cases hb:b=T
  ·subst hb; rw [zaae] at e; cases e; exact new
  ·rw [zaa5 hb] at e
   refine (I.hok b u e).stay (fun c v hc q=>k c v ?_ q) (fun c q=>up c _ q) fun c xs q=>up c _ q
   rcases hc with z | z
   ·rw [z]; exact nit b u e
   ·exact nit c _ z
end
theorem Inv.sis {X:Cx}{pins:List (Addr × Obj)}{σ:St}{H:Hp}{s:Shared}{k:SK}{a:Addr}{xs:List V} (I:Inv X pins σ H s) (h:Sq k X.K H a xs):∃ its:List Value,Vals xs its∧SIs k s.heap a its.toArray:=by
 cases k with
 | list=>obtain ⟨its,r,p,_⟩:=I.list h; exact ⟨its,r,p.isList⟩
 | tuple=>obtain ⟨its,r,p,_⟩:=I.tuple h; exact ⟨its,r,(show s.heap.IsTuple a its.toArray from p)⟩
theorem Inv.sq_inj {X:Cx}{pins:List (Addr × Obj)}{σ:St}{H:Hp}{s:Shared}{k:SK}{a:Addr}{xs ys:List V} (I:Inv X pins σ H s) (h:Sq k X.K H a xs) (h':Sq k X.K H a ys):xs=ys:=by
 cases k with
 | list=>exact I.list_inj h h'
 | tuple=>exact I.tuple_inj h h'
def Itz (K:PySem.W.Frag) (k1 k2:SK) (a b:Addr):It :=
 ⟨fun i H=>∃ xs ys x y,Sq k1 K H a xs∧Sq k2 K H b ys∧xs[i]?=some x∧ys[i]?=some y,
  fun i H v H'=>∃ T,H T=none∧v=.ref T∧∀ xs ys,Sq k1 K H a xs→Sq k2 K H b ys→∃ x y,xs[i]?=some x∧ys[i]?=some y∧H'=upd H T (.tup [x,y]),
  fun i H=>∃ xs ys,Sq k1 K H a xs∧Sq k2 K H b ys∧(xs.length≤i∨ys.length≤i)⟩
theorem zan3 {P:Program}{w:World}{K:PySem.W.Frag}{elts:List Expr}{kk:Nat}{tpos:Pos}{k1 k2:SK}{z TI TO i1 i2 a b:Addr} (D:ZipApart z TI TO i1 i2 a b) :
  Turn P w K (.Tuple elts kk tpos) (Itz K k1 k2 a b) [z,TI,TO,i1,i2] z (fun i h=>IsZip h z TI TO .none∧IsPair h TI (.ref i1) (.ref i2)∧(∃ c d,IsPair h TO c d)∧SIt k1 h i1 a i∧SIt k2 h i2 b i) where
 mem:=by simp
 obj:=fun i h st b hb=>by
  obtain ⟨hz,hTI,⟨c,d,hTO⟩,h1,h2⟩:=st
  simp only [List.mem_cons,List.not_mem_nil,or_false] at hb
  rcases hb with rfl | rfl | rfl | rfl | rfl
  ·exact ⟨_,hz,fun v q=>nomatch q⟩
  ·exact ⟨_,hTI,fun v q=>nomatch q⟩
  ·exact ⟨_,hTO,fun v q=>nomatch q⟩
  ·exact h1.obj
  ·exact h2.obj
 keep:=fun i h h' st k=>by
  obtain ⟨hz,hTI,⟨c,d,hTO⟩,h1,h2⟩:=st
  exact ⟨k _ (by simp) _ hz,k _ (by simp) _ hTI,⟨c,d,k _ (by simp) _ hTO⟩,h1.at fun o e=>k _ (by simp) o e,h2.at fun o e=>k _ (by simp) o e⟩
 item:=by
  intro X hP hw hK hc i pins s σ H E I hf st hg
  subst hP hw hK
  obtain ⟨hz,hTI,⟨c,d,hTO⟩,h1,h2⟩:=st
  obtain ⟨xs,ys,x,y,q1,q2,hx,hy⟩:=hg
  obtain ⟨ix,rx,px⟩:=I.sis q1
  obtain ⟨iy,ry,py⟩:=I.sis q2
  obtain ⟨u,hu,ru⟩:=rx.get hx
  obtain ⟨v,hv,rv⟩:=ry.get hy
  have hT:s.TypeIs (.ref z) "zip" := ⟨_,hz,rfl⟩
  unfold pyNext
  refine wpAny_bind (wpAny_attempt (wpAny_callSpecial?_slot (name:=Str.ofString "__next__") hT F.slot_zip_next
   (wpAny_call_entry F.slot_zip_next hT F.entry_zip_next
    (zak3 D hz hTI hTO h1 h2 px py (x:=u) (y:=v) (by simpa using hu) (by simpa using hv) fun h' a1 a2 a3 a4 a5 a6 a7=>wpAny_pure ?_) (F.args_zip_next_1 _))))
  refine ⟨_,rfl,wpAny_letOwnedTupleGo_zip (s:={ s with heap:=h' }) a1 fun h'' b1 b2=>?_⟩
  have zlt:z < s.heap.objs.size:=Heap.lt_size hz
  have k2:∀ c o,c ∉ [z,TI,TO,i1,i2]→s.heap.get? c=some o→h''.get? c=some o:=fun c o hc e=>by
   simp only [List.mem_cons,List.not_mem_nil,or_false,not_or] at hc
   exact b2.extBut _ _ hc.1 (a7 c o hc.1 hc.2.2.1 hc.2.2.2.1 hc.2.2.2.2 e)
  have hT2:IsPair h'' s.heap.objs.size u v:=b2.extBut _ _ (Nat.ne_of_gt zlt) a5
  refine ⟨.ref s.heap.objs.size,upd H s.heap.objs.size (.tup [x,y]),I.turnedNew (t':=s.toks) (o:=.tup [x,y]) k2 hf (Nat.le_refl _) ⟨by show 2≤sizeLine; decide,[u,v],.cons ru (.cons rv .nil),⟨_,hT2,rfl,_,rfl⟩⟩,rfl,
   ⟨_,I.hok.fresh (Nat.le_refl _),rfl,fun xs' ys' e1 e2=>?_⟩,⟨b1,?_,⟨_,_,b2.extBut _ _ D.TOz a2⟩,a3.at fun o e=>b2.extBut _ _ D.i1z e,a4.at fun o e=>b2.extBut _ _ D.i2z e⟩,fun b hb=>?_⟩
  ·rw [I.sq_inj e1 q1,I.sq_inj e2 q2]
   exact ⟨x,y,hx,hy,rfl⟩
  ·exact b2.extBut _ _ D.TIz (a7 _ _ D.TIz D.TITO D.TIi1 D.TIi2 hTI)
  ·have blt:b < s.heap.objs.size:=by
    simp only [List.mem_cons,List.not_mem_nil,or_false] at hb
    rcases hb with rfl | rfl | rfl | rfl | rfl
    ·exact zlt
    ·exact Heap.lt_size hTI
    ·exact Heap.lt_size hTO
    ·obtain ⟨o,e,_⟩:=h1.obj; exact Heap.lt_size e
    ·obtain ⟨o,e,_⟩:=h2.obj; exact Heap.lt_size e
   rw [zaa5 (Nat.ne_of_lt blt)]
   exact (hf b hb).1
 done:=by
  intro X hP hw hK hc i pins s σ H E I hf st hg
  subst hP hw hK
  obtain ⟨hz,hTI,⟨c,d,hTO⟩,h1,h2⟩:=st
  obtain ⟨xs,ys,q1,q2,hl⟩:=hg
  obtain ⟨ix,rx,px⟩:=I.sis q1
  obtain ⟨iy,ry,py⟩:=I.sis q2
  have l1:=rx.length
  have l2:=ry.length
  have hend:ix.toArray[i]?=none∨iy.toArray[i]?=none:=by
   rcases hl with h | h
   ·exact .inl (by simp; omega)
   ·exact .inr (by simp; omega)
  have hT:s.TypeIs (.ref z) "zip" := ⟨_,hz,rfl⟩
  unfold pyNext
  refine wpAny_bind (wpAny_attempt (wpAny_callSpecial?_slot (name:=Str.ofString "__next__") hT F.slot_zip_next
   (wpAny_call_entry F.slot_zip_next hT F.entry_zip_next (zan2 (I.ok.hd hc) D hz hTI hTO h1 h2 px py hend fun h' e hk he=>?_) (F.args_zip_next_1 _))))
  obtain ⟨o,ho,hc'⟩:=he
  refine wpAny_bind (wpAny_isInstance (T := "StopIteration") (b:=true) ⟨o,ho,hc'⟩ isSubtype_stop ?_)
  refine wpAny_pure ⟨rfl,I.turnedL (t':=s.toks) (its:=[z,TI,TO,i1,i2]) (fun b o hb e=>?_) hf⟩
  simp only [List.mem_cons,List.not_mem_nil,or_false,not_or] at hb
  exact hk b o hb.1 hb.2.2.1 hb.2.2.2.1 hb.2.2.2.2 e
 self:=fun _ _ _ _ _ st h=>wpAny_pyIter_zip st.1 h
def itObj (k:SK) (l:Addr):Obj:=match k with
 | .list=>{ cls:=.type "list_iterator",data:=.fields #[.ref l,.int 0 0] }
 | .tuple=>{ cls:=.type "tuple_iterator",data:=.fields #[.ref l,.int 0 0] }
theorem zaf9 {k:SK}{l it:Addr}{h:Heap} (e:h.get? it=some (itObj k l)):SIt k h it l 0:=by
 cases k with
 | list=>exact ⟨_,e,rfl,rfl⟩
 | tuple=>exact ⟨_,e,rfl,rfl⟩
abbrev zS1 (h:Heap) (k1:SK) (l1:Addr):Heap:=h.push (itObj k1 l1)
abbrev zS2 (h:Heap) (k1 k2:SK) (l1 l2:Addr):Heap:=(zS1 h k1 l1).push (itObj k2 l2)
abbrev zS3 (h:Heap) (k1 k2:SK) (l1 l2:Addr):Heap:=(zS2 h k1 k2 l1 l2).push { cls:=.type "tuple",data:=.seq #[.ref h.objs.size,.ref (zS1 h k1 l1).objs.size] }
abbrev zS4 (h:Heap) (k1 k2:SK) (l1 l2:Addr):Heap:=(zS3 h k1 k2 l1 l2).push { cls:=.type "tuple",data:=.seq #[.none,.none] }
abbrev zS5 (h:Heap) (k1 k2:SK) (l1 l2:Addr):Heap:=(zS4 h k1 k2 l1 l2).push { cls:=.type "zip",data:=.fields #[.none,.bool false,.bool false,.ref (zS2 h k1 k2 l1 l2).objs.size,.ref (zS3 h k1 k2 l1 l2).objs.size] }
set_option maxHeartbeats 4000000 in
theorem zafr (k1 k2:SK) (l1 l2:Addr) (xs ys:Array Value) :
  Meets (Builtin.«zip.__new__» ⟨[.type "zip",.ref l1,.ref l2],[]⟩) (fun _ R s=>SIs k1 s.heap l1 xs∧SIs k2 s.heap l2 ys ∧
   R (.ok (.ret (.ref (zS4 s.heap k1 k2 l1 l2).objs.size))) { s with heap:=zS5 s.heap k1 k2 l1 l2 }):=by
 cases k1 with
 | list =>
  cases k2 with
  | list =>
   exact .of_wp fun prog w A R s h=>by
    obtain ⟨hp,g,d,tk,os⟩:=s; obtain ⟨hl1,hl2,h⟩:=h
    have hsub:=sub_zip
    have hL1:Heap.IsList (Shared.heap ⟨hp,g,d,tk,os⟩) l1 xs:=hl1
    have hL2:Heap.IsList (Shared.heap ⟨hp.push { cls:=.type "list_iterator",data:=.fields #[.ref l1,.int 0 0] },g,d,tk,os⟩) l2 ys:=Heap.IsList.push hl2 _
    wp_walk using wpAny_pyIter_list hL1,wpAny_pyIter_list hL2
    exact ⟨_,rfl,h⟩
  | tuple =>
   exact .of_wp fun prog w A R s h=>by
    obtain ⟨hp,g,d,tk,os⟩:=s; obtain ⟨hl1,hl2,h⟩:=h
    have hsub:=sub_zip
    have hL1:Heap.IsList (Shared.heap ⟨hp,g,d,tk,os⟩) l1 xs:=hl1
    have hL2:Heap.IsTuple (Shared.heap ⟨hp.push { cls:=.type "list_iterator",data:=.fields #[.ref l1,.int 0 0] },g,d,tk,os⟩) l2 ys:=SIs.at (k:=.tuple) hl2 fun o e=>Heap.get?_push_of_some _ e
    wp_walk using wpAny_pyIter_list hL1,wpAny_pyIter_tuple hL2
    exact ⟨_,rfl,h⟩
 | tuple =>
  cases k2 with
  | list =>
   exact .of_wp fun prog w A R s h=>by
    obtain ⟨hp,g,d,tk,os⟩:=s; obtain ⟨hl1,hl2,h⟩:=h
    have hsub:=sub_zip
    have hL1:Heap.IsTuple (Shared.heap ⟨hp,g,d,tk,os⟩) l1 xs:=hl1
    have hL2:Heap.IsList (Shared.heap ⟨hp.push { cls:=.type "tuple_iterator",data:=.fields #[.ref l1,.int 0 0] },g,d,tk,os⟩) l2 ys:=SIs.at (k:=.list) hl2 fun o e=>Heap.get?_push_of_some _ e
    wp_walk using wpAny_pyIter_tuple hL1,wpAny_pyIter_list hL2
    exact ⟨_,rfl,h⟩
  | tuple =>
   exact .of_wp fun prog w A R s h=>by
    obtain ⟨hp,g,d,tk,os⟩:=s; obtain ⟨hl1,hl2,h⟩:=h
    have hsub:=sub_zip
    have hL1:Heap.IsTuple (Shared.heap ⟨hp,g,d,tk,os⟩) l1 xs:=hl1
    have hL2:Heap.IsTuple (Shared.heap ⟨hp.push { cls:=.type "tuple_iterator",data:=.fields #[.ref l1,.int 0 0] },g,d,tk,os⟩) l2 ys:=SIs.at (k:=.tuple) hl2 fun o e=>Heap.get?_push_of_some _ e
    wp_walk using wpAny_pyIter_tuple hL1,wpAny_pyIter_tuple hL2
    exact ⟨_,rfl,h⟩
section
variable {prog:Program}{w:World}{A:Around}{E:Value→Shared→Prop}{s:Shared}
theorem zak4 {k1 k2:SK}{l1 l2:Addr}{xs ys:Array Value}{Q:Value→Shared→Prop} (hl1:SIs k1 s.heap l1 xs) (hl2:SIs k2 s.heap l2 ys)
  (h:∀ h',IsZip h' (s.heap.objs.size + 4) (s.heap.objs.size + 2) (s.heap.objs.size + 3) .none→IsPair h' (s.heap.objs.size + 2) (.ref s.heap.objs.size) (.ref (s.heap.objs.size + 1)) →
   IsPair h' (s.heap.objs.size + 3) .none .none→SIt k1 h' s.heap.objs.size l1 0→SIt k2 h' (s.heap.objs.size + 1) l2 0 →
   (∀ c o,s.heap.get? c=some o→h'.get? c=some o)→Q (.ref (s.heap.objs.size + 4)) { s with heap:=h' }) :
  wpAny (model prog w) A (call (.type "zip") [.ref l1,.ref l2]) Q E s:=by
 refine callType_new F.called_zip (by decide) (F.typeCall_zip_2 _ _) (F.newCall_zip_2 _ _) (fun obj=>F.args_object_init_3 obj _ _) F.entry_zip_new
  (zafr k1 k2 l1 l2 xs ys) ⟨hl1,hl2,?_⟩
 have z1:(zS1 s.heap k1 l1).objs.size=s.heap.objs.size + 1:=Heap.size_push ..
 have z2:(zS2 s.heap k1 k2 l1 l2).objs.size=s.heap.objs.size + 2:=by rw [Heap.size_push,z1]
 have z3:(zS3 s.heap k1 k2 l1 l2).objs.size=s.heap.objs.size + 3:=by rw [Heap.size_push,z2]
 have z4:(zS4 s.heap k1 k2 l1 l2).objs.size=s.heap.objs.size + 4:=by rw [Heap.size_push,z3]
 have r1:(itObj k1 l1).isFreed=false:=by cases k1 <;> rfl
 have r2:(itObj k2 l2).isFreed=false:=by cases k2 <;> rfl
 have g5:(zS5 s.heap k1 k2 l1 l2).get? (zS4 s.heap k1 k2 l1 l2).objs.size=some _:=Heap.get?_push_size _ rfl
 have g4:(zS5 s.heap k1 k2 l1 l2).get? (zS3 s.heap k1 k2 l1 l2).objs.size=some _:=Heap.get?_push_of_some _ (Heap.get?_push_size _ rfl)
 have g3:(zS5 s.heap k1 k2 l1 l2).get? (zS2 s.heap k1 k2 l1 l2).objs.size=some _:=Heap.get?_push_of_some _ (Heap.get?_push_of_some _ (Heap.get?_push_size _ rfl))
 have g2:(zS5 s.heap k1 k2 l1 l2).get? (zS1 s.heap k1 l1).objs.size=some _:=Heap.get?_push_of_some _ (Heap.get?_push_of_some _ (Heap.get?_push_of_some _ (Heap.get?_push_size _ r2)))
 have g1:(zS5 s.heap k1 k2 l1 l2).get? s.heap.objs.size=some _:=Heap.get?_push_of_some _ (Heap.get?_push_of_some _ (Heap.get?_push_of_some _ (Heap.get?_push_of_some _ (Heap.get?_push_size _ r1))))
 show _∧_
 rw [z2,z3,z4] at g5
 rw [z1,z2] at g3
 rw [z3] at g4
 rw [z1] at g2
 rw [z4]
 exact ⟨⟨_,g5,rfl⟩,h _ g5 g3 g4 (zaf9 g1) (zaf9 g2) fun c o x =>
  Heap.get?_push_of_some _ (Heap.get?_push_of_some _ (Heap.get?_push_of_some _ (Heap.get?_push_of_some _ (Heap.get?_push_of_some _ x))))⟩
end
section
variable {X:Cx}{elts:List Expr}{kk:Nat}{tpos:Pos}
def iZip (K:PySem.W.Frag) (k1 k2:SK) (ta:TA):TI:=fun σ H R=>ta σ H fun vs H1=>∃ a b,vs=[.ref a,.ref b]∧(∃ xs,Sq k1 K H1 a xs)∧(∃ ys,Sq k2 K H1 b ys)∧R (Itz K k1 k2 a b) H1
theorem zasf (k1 k2:SK) {a b:Expr}{ta:TA}{p pos:Pos} (hg:Gl X "zip") (hm:X.mg "zip" = none) (ha:PA X [a,b] ta) (hs:starEach [a,b] X.env=[(false,eval a X.env),(false,eval b X.env)]:=by rfl) (hs2:starEach [b] X.env=[(false,eval b X.env)]:=by rfl) :
  PI X (.Tuple elts kk tpos) (.Call (.Name "zip" p) [a,b] [] pos) (iZip X.K k1 k2 ta):=by
 intro pins s σ H R I h
 refine Call_ (zadp I hg hm boot_zip (PyProof.Rows.callWith_type1 (thn (ha pos pins s σ H _ I h) fun us s1 ⟨vs,H1,I1,r1,q1⟩=>?_) (by rw [hs,hs2]) (by rw [hs2]; rfl)))
 obtain ⟨a',b',e,⟨xs,qx⟩,⟨ys,qy⟩,q⟩:=q1
 subst e
 obtain ⟨u,v,rfl,ru,rv⟩:=vals2 r1
 cases ru
 cases rv
 obtain ⟨ix,rx,px⟩:=I1.sis qx
 obtain ⟨iy,ry,py⟩:=I1.sis qy
 refine zak4 px py fun h' b1 b2 b3 b4 b5 b6=>wpAny_pyIter_zip (s:={ s1 with heap:=h' }) b1 ?_
 have nn:∀ b,s1.heap.objs.size≤b→FpOk X pins H1 b:=fun b hb=>I1.fpOk hb (I1.hok.fresh hb)
 refine ⟨_,[s1.heap.objs.size + 4,s1.heap.objs.size + 2,s1.heap.objs.size + 3,s1.heap.objs.size,s1.heap.objs.size + 1],_,_,H1,rfl,I1.kept (t':=s1.toks) b6,zan3 (k1:=k1) (k2:=k2) (zipApart_new px.lt py.lt),⟨b1,b2,⟨_,_,b3⟩,b4,b5⟩,fun b hb=>?_,q⟩
 simp only [List.mem_cons,List.not_mem_nil,or_false] at hb
 rcases hb with rfl | rfl | rfl | rfl | rfl
 ·exact nn _ (Nat.le_add_right _ _)
 ·exact nn _ (Nat.le_add_right _ _)
 ·exact nn _ (Nat.le_add_right _ _)
 ·exact nn _ (Nat.le_refl _)
 ·exact nn _ (Nat.le_add_right _ _)
end
end L2

namespace L2
open PySem PySem.Spec PyProof.Rows PySem.Builtin PySem.Builtin.Str
section
variable {X:Cx}
def rIsT (K:PySem.W.Frag):List V→Hp→VK→Prop:=fun xs H Q=>∃ x T t b,xs=[x,.ty T]∧TyOf K H x t∧PySem.W.kitOne K t (.type T)=some b∧Q (.bl b) H
theorem zabo:CallR X (.builtin "isinstance") (rIsT X.K):=by
 intro pins s σ H xs us Q I r h
 obtain ⟨x,T,t,b,rfl,ty,e,q⟩:=h
 obtain ⟨u,v,rfl,ru,rv⟩:=vals2 r
 cases rv
 exact zakp I ru ty e fun tk=>⟨.bl b,H,I.tok _,rfl,q⟩
example (K:PySem.W.Frag):PySem.W.kitOne K (.type "int") (.type "int")=some true:=rfl
example (K:PySem.W.Frag):PySem.W.kitOne K (.type "str") (.type "int")=some false:=rfl
example (K:PySem.W.Frag):PySem.W.kitOne K (.type "tuple") (.type "int")=some false:=rfl
example (K:PySem.W.Frag):PySem.W.kitOne K (.type "bool") (.type "int")=some true:=rfl
end
def ent (w:World) (x:Str × Tok × Value):DictEntry:=⟨hashStr w x.1,.str x.1 x.2.1,x.2.2⟩
structure KD (P:Program) (w:World) (K:PySem.W.Frag) (a:Addr) (kvs:List (Key × V)):Prop where
 ex:∃ (o:Obj) (es:Array DictEntry) (ep:Nat) (vs:List (Key × Value)),K.lookup a=some o∧o.ExactDict∧o.data=.dict es ep∧KeysOf (mixKind P w) es∧Pairs (mixKind P w) es.toList vs∧(vs.map (·.1)).Nodup∧KV kvs vs
 ns:(a == sysModules)=false
def DK (P:Program) (w:World) (K:PySem.W.Frag) (H:Hp) (a:Addr) (kvs:List (Key × V)):Prop:=Rd H a (.dK kvs)∨KD P w K a kvs
theorem Inv.dict {X:Cx}{pins:List (Addr × Obj)}{σ:St}{H:Hp}{s:Shared}{a:Addr}{kvs:List (Key × V)} (I:Inv X pins σ H s) (h:DK X.prog X.w X.K H a kvs) :
  (a == sysModules)=false∧∃ vs,KV kvs vs∧s.heap.DictOf (mixKind X.prog X.w) a vs:=by
 rcases h with h | h
 ·obtain ⟨_,b,c⟩:=zahe I.hok h
  exact ⟨b,c⟩
 ·obtain ⟨o,es,ep,vs,h1,h2,h3,h4,h5,h6,h7⟩:=h.ex
  exact ⟨h.ns,vs,h7,o,es,ep,I.kIn a o h1,h2,h3,h4,h5,h6⟩
theorem zaig {P:Program}{w:World}{s:Shared}{a:Addr}{vs:List (Key × Value)} (d:s.heap.DictOf (mixKind P w) a vs):s.TypeIs (.ref a) "dict" := by
 obtain ⟨o,es,ep,h1,h2,_⟩:=d
 exact ⟨o,h1,h2.1⟩
section
variable {X:Cx}
def rIxD (X:Cx):R2:=fun x y H Q=>∃ a kvs k v,x=.ref a∧y=kV k∧DK X.prog X.w X.K H a kvs∧valV kvs k=some v∧Q v H
theorem zasg {o i:Expr}{td ty:TE}{pos:Pos} (ho:PE X o td) (hi:PE X i ty) (hs:NoSl i):PE X (.Subscript o i pos) (tOp (rIxD X) td ty):=by
 intro pins s σ H Q I h
 refine zak0 PySem.F.slot_dict_getitem.lookup hs (thn (ho pins s σ H _ I h) fun u s1 ⟨x,H1,I1,rx,q1⟩=>thn (hi pins s1 σ H1 _ I1 q1) fun iv s2 ⟨y,H2,I2,ry,q2⟩=>?_)
 obtain ⟨a,kvs,k,v,rfl,rfl,dk,hv,q⟩:=q2
 obtain rfl:u=Value.ref a:=rx
 obtain ⟨_,vs,rel,dd⟩:=I2.dict dk
 obtain ⟨w',hw,rw'⟩:=RelO.some_of (v:=v) (o:=valueAt vs k) (by rw [← hv]; exact rel.val k)
 exact ⟨zaig dd,wpAny_getItem_of (zafq ry) dd.mapOf hw ⟨v,H2,I2.tok _,rw',q⟩⟩
def rInD (X:Cx) (neg:Bool):R2:=fun x y H Q=>∃ a kvs k,y=.ref a∧x=kV k∧DK X.prog X.w X.K H a kvs∧Q (.bl (if neg then !(valV kvs k).isSome else (valV kvs k).isSome)) H
theorem zaga:OpR X (compareOp .NotIn) (rInD X true):=by
 intro pins s σ H x y v u Q I rx ry h
 obtain ⟨a,kvs,k,rfl,rfl,dk,q⟩:=h
 obtain rfl:u=Value.ref a:=ry
 obtain ⟨hd,vs,rel,dd⟩:=I.dict dk
 refine wpAny_notIn_of (zafq rx) hd dd.mapOf ?_
 rw [← (rel.val k).isSome_eq]
 exact ⟨.bl (!(valV kvs k).isSome),H,I.tok _,rfl,q⟩
end
theorem zatr {P:Program}{w:World}{K:PySem.W.Frag}{a:Addr}{od:Option Addr}{ep:Nat}{sl:Array (Option Value)}{es:Array DictEntry} (xs:List (Str × Tok × Value)) (vs:List V)
  (l:K.lookup a=some ⟨.type "dict",od,.dict es ep,sl⟩) (he:es.toList=xs.map (ent w)) (hx:(⟨.type "dict",od,.dict es ep,sl⟩:Obj).ExactDict) (ns:(a == sysModules)=false)
  (nd:(xs.map (·.1)).Nodup) (hv:Vals vs (xs.map (·.2.2))):KD P w K a ((xs.map fun x=>(Sum.inr x.1:Key)).zip vs):=by
 refine ⟨⟨_,es,ep,xs.map fun x=>(Sum.inr x.1,x.2.2),l,hx,rfl,?_,?_,?_,?_⟩,ns⟩
 ·intro e h
  rw [← Array.mem_toList_iff,he] at h
  obtain ⟨x,hx,rfl⟩:=List.mem_map.mp h
  exact ⟨Sum.inr x.1,zaeu x.1 x.2.1,rfl⟩
 ·rw [he]
  clear he nd hv l hx
  induction xs with
  | nil=>exact .nil
  | cons x xs ih=>exact .cons (zaeu x.1 x.2.1) rfl ih
 ·rw [List.map_map]
  have e:(xs.map (fun x=>(Sum.inr x.1:Key)))=(xs.map (·.1)).map Sum.inr:=by rw [List.map_map]; rfl
  show (xs.map (fun x=>(Sum.inr x.1:Key))).Nodup
  rw [e]
  exact List.Pairwise.map _ (fun a b h z=>h (Sum.inr.inj z)) nd
 ·clear he nd l hx
  induction xs generalizing vs with
  | nil=>cases hv; exact .nil
  | cons x xs ih =>
   cases hv with
   | cons r rr=>exact .cons ⟨rfl,r⟩ (ih _ rr)
end L2

namespace L2
open PySem PySem.Spec PyProof.Rows
structure Pr (p:Prop):Prop where
 h:p
section
variable {X:Cx}
theorem zak5 {i:Nat}{x:Str}{pos:Pos} (hN:X.N[i]?=some x) (hv:Vis X.env.scope x) (hd:(x == ("__debug__" : Str))=false:=by decide) (hcd:(x == ("__classdict__" : Str))=false:=by decide):Pr (PE X (.Name x pos) (tVar i)):=⟨zarf hN hv hd hcd⟩
theorem zaac {i j pos}:Pr (PE X (.Constant (.int i) j pos) (tC (.int i))):=⟨zarg⟩
theorem zace {b j pos}:Pr (PE X (.Constant (.bool b) j pos) (tC (.bl b))):=⟨zath⟩
theorem zad6 {j pos}:Pr (PE X (.Constant .none j pos) (tC .non)):=⟨zarh⟩
theorem zaao {x j pos}:Pr (PE X (.Constant (.str x) j pos) (tC (.str x))):=⟨zari⟩
theorem zajb {x:Str}{v:V}{u:Value}{pos:Pos} (hg:Gl X x) (hm:X.mg x=some u) (r:RelV v u) (hd:(x == ("__debug__" : Str))=false:=by decide):Pr (PE X (.Name x pos) (tC v)):=⟨zapf hg hm r hd⟩
theorem zabp {x:Str}{v:V}{u:Value}{pos:Pos} (hg:Gl X x) (hm:X.mg x=none) (hv:bootBuiltins x=some u) (r:RelV v u) (hn:x ≠ "__name__" := by decide) (hd:(x == ("__debug__" : Str))=false:=by decide):Pr (PE X (.Name x pos) (tC v)):=⟨zapg hg hm hv r hn hd⟩
end
section
variable {X:Cx}{a b c:Expr}{ta tb tc:TE}{pos:Pos}
theorem zaai {op:Operator}{r:R2} (ho:OpR X (binaryOp op) r) (ha:Pr (PE X a ta)) (hb:Pr (PE X b tb)):Pr (PE X (.BinOp a op b pos) (tOp r ta tb)):=⟨zatk ho ha.h hb.h⟩
theorem zash {op:UnaryOp}{r:V→Hp→VK→Prop} (ho:UnR X (unaryOp op) r) (ha:Pr (PE X a ta)):Pr (PE X (.UnaryOp op a pos) (tUn r ta)):=⟨zatl ho ha.h⟩
theorem zab7 {op:CmpOp}{r:R2} (ho:OpR X (compareOp op) r) (ha:Pr (PE X a ta)) (hb:Pr (PE X b tb)) (hm:behindInMarks op b=false):Pr (PE X (.Compare a [op] [b] pos) (tOp r ta tb)):=⟨zapp ho ha.h hb.h hm⟩
theorem zak6 {op op':CmpOp}{r r':R2} (ho:OpR X (compareOp op) r) (ho':OpR X (compareOp op') r') (ha:Pr (PE X a ta)) (hb:Pr (PE X b tb)) (hc:Pr (PE X c tc)) (hm:lastMarks [op,op'] [b,c]=false:=by with_unfolding_all rfl):Pr (PE X (.Compare a [op,op'] [b,c] pos) (tChain r r' ta tb tc)):=⟨zano ho ho' ha.h hb.h hc.h hm⟩
end
section
variable {X:Cx}
variable {a b:Expr}{ta tb:TE}{pos:Pos}
variable {tA tB':TT}{rest:List Expr}
theorem zacu (ha:Pr (PE X a ta)) (hb:Pr (PE X (.BoolOp .And (b :: rest) pos) tb)):Pr (PE X (.BoolOp .And (a :: b :: rest) pos) (tAndV ta tb)):=⟨zaro ha.h hb.h⟩
end
section
variable {X:Cx}
variable {a b:Expr}{ta tb:TE}{pos:Pos}
variable {tA tB':TT}{rest:List Expr}
theorem zadn {op}{t:TE} (h:Pr (PE X a t)):Pr (PE X (.BoolOp op [a] pos) t):=⟨zarn h.h⟩
end
section
variable {X:Cx}
variable {a b:Expr}{ta tb:TE}{pos:Pos}
variable {tA tB':TT}{rest:List Expr}
theorem zak7 (ha:Pr (PE X a ta)):Pr (PE X (.UnaryOp .Not a pos) (tNotV ta)):=⟨zarp ha.h⟩
end
section
variable {X:Cx}
variable {a b:Expr}{ta tb:TE}{pos:Pos}
variable {tA tB':TT}{rest:List Expr}
theorem zack {c:Expr} (hc:Pr (PT X c tA)) (ha:Pr (PE X a ta)) (hb:Pr (PE X b tb)):Pr (PE X (.IfExp c a b pos) (tIf tA ta tb)):=⟨zani hc.h ha.h hb.h⟩
end
section
variable {X:Cx}{e:Expr}{es:List Expr}{te:TE}{t:TA}{pos:Pos}
theorem zabf {x1} (h:Pr (PA X es t)):Pr (PE X (.Tuple es x1 pos) (tTup t)):=⟨zar3 h.h⟩
theorem zabb (h:Pr (PA X es t)):Pr (PE X (.List es pos) (tLst t)):=⟨zar4 h.h⟩
end
section
variable {X:Cx}{e:Expr}{te:TE}{lo hi:Option Expr}{tl th:TO}{pos p2:Pos}
theorem zab3 {r:V→Option Int→Option Int→Hp→VK→Prop} (hr:SlR X r) (he:Pr (PE X e te)) (hl:Pr (PO X lo tl)) (hu:Pr (PO X hi th)):Pr (PE X (.Subscript e (.Slice lo hi none p2) pos) (tSl r te tl th)):=⟨zant hr he.h hl.h hu.h⟩
end
section
variable {X:Cx}{a b:Expr}{ta tb:TE}{pos:Pos}
theorem zaap {r:R2} (hr:IxR X r) (ha:Pr (PE X a ta)) (hb:Pr (PE X b tb)) (hs:PlainIx b):Pr (PE X (.Subscript a b pos) (tOp r ta tb)):=⟨zato hr ha.h hb.h hs⟩
end
section
variable {X:Cx}
theorem zap9 {o i:Expr}{td ty:TE}{pos:Pos} (ho:Pr (PE X o td)) (hi:Pr (PE X i ty)) (hs:NoSl i):Pr (PE X (.Subscript o i pos) (tOp (rIxD X) td ty)):=⟨zasg ho.h hi.h hs⟩
end
section
variable {X:Cx}{o e value:Expr}{f:Str}{pos pos' tpos:Pos}{ta tv:TE}
theorem zagb (he:Pr (PE X e ta)) (hb:attributeBase e f X.env (eval e X.env)=eval e X.env):Pr (PE X (.Attribute e f pos) (tFld X.K ta f)):=⟨zar0 he.h hb⟩
end
section
variable {X:Cx}{CX:CXT}{k:Nat}{ps:List Str}{sp:Sp}{E:XK}{x:Str}{p pos:Pos}{e:Expr}{es:List Expr}{t:TA}
theorem zaak (D:DefOk X.prog X.w X.K X.mg X.base CX k x ps sp) (hr:Room k X.A) (hg:Gl X x) (hx:Passes CX X E) (ha:Pr (PA X (e :: es) t)) (hdb:(x == ("__debug__" : Str))=false:=by decide) (he:starEach (e :: es) X.env=(false,eval e X.env) :: starEach es X.env:=by rfl) (hpl:(backTo pos (starEach es X.env)).any (·.1)=false:=by rfl):Pr (PE X (.Call (.Name x p) (e :: es) [] pos) (tCall sp [] E t)):=⟨zanz D hr hg hx ha.h hdb he hpl⟩
end
section
variable {X:Cx}{x:Str}{p pos:Pos}{e:Expr}{es:List Expr}{t:TA}{id T:String}{r:List V→Hp→VK→Prop}
theorem zaaj (hc:CallR X (.builtin id) r) (hg:Gl X x) (hm:X.mg x=none) (hv:bootBuiltins x=some (.builtin id)) (ha:Pr (PA X (e :: es) t)) (hn:x ≠ "__name__" := by decide) (hdb:(x == ("__debug__" : Str))=false:=by decide) (he:starEach (e :: es) X.env=(false,eval e X.env) :: starEach es X.env:=by rfl) (hpl:(backTo pos (starEach es X.env)).any (·.1)=false:=by rfl):Pr (PE X (.Call (.Name x p) (e :: es) [] pos) (tCB r t)):=⟨zanr hc hg hm hv ha.h hn hdb he hpl⟩
theorem zabc (hc:CallR X (.type T) r) (hg:Gl X x) (hm:X.mg x=none) (hv:bootBuiltins x=some (.type T)) (ha:Pr (PA X (e :: es) t)) (hn:x ≠ "__name__" := by decide) (hdb:(x == ("__debug__" : Str))=false:=by decide) (he:starEach (e :: es) X.env=(false,eval e X.env) :: starEach es X.env:=by rfl) (hpl:(backTo pos (starEach es X.env)).any (·.1)=false:=by rfl):Pr (PE X (.Call (.Name x p) (e :: es) [] pos) (tCB r t)):=⟨zakr hc hg hm hv ha.h hn hdb he hpl⟩
end
section
variable {X:Cx}{a b:Expr}{ta tb:TE}{pos:Pos}
variable {o e:Expr}{es:List Expr}{to:TE}{t:TA}{name:Str}{apos cpos:Pos}{T id:String}{r:V→List V→Hp→VK→Prop}
theorem zabn (pa:PlainAttrs T) (slot:Slot T name id) (hty:typeOf (.builtin id)=pure (.type "method_descriptor")) (hm:MtR X id r) (ho:Pr (PE X o to)) (ha:Pr (PA X (e :: es) t)) (hbase:attributeBase o name X.env (eval o X.env)=eval o X.env:=by rfl) (hfew:((backTo cpos (starEach (e :: es) X.env)).all (fun x=>!x.1) && (backToKw cpos (keywordEach [] X.env)).all (fun x=>x.1.isSome)
   && decide ((e :: es).length + ([]:List Keyword).length + (if ([]:List Keyword).isEmpty then 0 else 1) < 30))=true:=by rfl) (hline:(apos.endLine == cpos.line)=true:=by rfl) (hs:starEach (e :: es) X.env=(false,eval e X.env) :: starEach es X.env:=by rfl) (hplain:(backTo cpos (starEach es X.env)).any (·.1)=false:=by rfl):Pr (PE X (.Call (.Attribute o name apos) (e :: es) [] cpos) (tBM X.K T r to t)):=⟨zatp pa slot hty hm ho.h ha.h hbase hfew hline hs hplain⟩
end
section
variable {X:Cx}{a b c:Expr}{ta tb tc:TE}{pos:Pos}
theorem zaan {op:CmpOp}{r:R2} (ho:OpR X (compareOp op) r) (ha:Pr (PE X a ta)) (hb:Pr (PE X b tb)) (hm:behindInMarks op b=false):Pr (PT X (.Compare a [op] [b] pos) (tTest (tOp r ta tb))):=⟨zapq ho ha.h hb.h hm⟩
end
section
variable {X:Cx}
variable {a b:Expr}{ta tb:TE}{pos:Pos}
variable {tA tB':TT}{rest:List Expr}
theorem zaco (ha:Pr (PT X a tA)):Pr (PT X (.UnaryOp .Not a pos) (tNot tA)):=⟨zarm ha.h⟩
end
section
variable {X:Cx}
variable {a b:Expr}{ta tb:TE}{pos:Pos}
theorem zabu {e:Expr}{t:TE} (h:Pr (PE X e t)) (he:∀ whole,isTrue e X.env whole=(do let v ← whole; standAt e.pos; holding [v] (truthy v)):=by intro _; rfl):Pr (PT X e (tB t)):=⟨zarj h.h he⟩
end
section
theorem zacp {X:Cx}{e:Expr}{t:TT} (h:Pr (PW X e t)):Pr (PT X e t):=⟨PW.pt h.h⟩
end
section
variable {X:Cx}
variable {a b:Expr}{ta tb:TE}{pos:Pos}
variable {tA tB':TT}{rest:List Expr}
theorem zae5 (ha:Pr (PT X a tA)) (hb:Pr (PW X (.BoolOp .And (b :: rest) pos) tB')):Pr (PW X (.BoolOp .And (a :: b :: rest) pos) (tAnd tA tB')):=⟨zarl ha.h hb.h⟩
end
section
variable {X:Cx}
variable {a b:Expr}{ta tb:TE}{pos:Pos}
variable {tA tB':TT}{rest:List Expr}
theorem zadu (ha:Pr (PT X a tA)):Pr (PW X (.BoolOp .And [a] pos) tA):=⟨zaph ha.h⟩
end
section
variable {X:Cx}
variable {a b:Expr}{ta tb:TE}{pos:Pos}
variable {tA tB':TT}{rest:List Expr}
theorem zadv (ha:Pr (PT X a tA)) (hb:Pr (PW X (.BoolOp .Or (b :: rest) pos) tB')):Pr (PW X (.BoolOp .Or (a :: b :: rest) pos) (tOr tA tB')):=⟨zati ha.h hb.h⟩
end
section
variable {X:Cx}
variable {a b:Expr}{ta tb:TE}{pos:Pos}
variable {tA tB':TT}{rest:List Expr}
theorem zac7 (ha:Pr (PT X a tA)):Pr (PW X (.BoolOp .Or [a] pos) tA):=⟨zark ha.h⟩
end
section
variable {X:Cx}{e:Expr}{es:List Expr}{te:TE}{t:TA}{pos:Pos}
theorem zaab  : Pr (PA X [] tNil):=⟨zar2⟩
theorem zaaa (ha:Pr (PE X e te)) (hr:Pr (PA X es t)) (hs:starEach (e :: es) X.env=(false,eval e X.env) :: starEach es X.env:=by rfl):Pr (PA X (e :: es) (tCons te t)):=⟨zapu ha.h hr.h hs⟩
end
section
variable {X:Cx}{e:Expr}{te:TE}{lo hi:Option Expr}{tl th:TO}{pos p2:Pos}
theorem zaca  : Pr (PO X none tNoPart):=⟨zapx⟩
theorem zacb (h:Pr (PE X e te)):Pr (PO X (some e) (tPart te)):=⟨zapy h.h⟩
end
section
variable {X:Cx}{tg:Expr}
theorem zacc {l:Expr}{tl:TE} (hl:Pr (PE X l tl)):Pr (PI X tg l (iList X.K tl)):=⟨zapn hl.h⟩
theorem zae6 {l:Expr}{tl:TE} (hl:Pr (PE X l tl)):Pr (PI X tg l (iTup X.K tl)):=⟨zarv hl.h⟩
theorem zabs {a:Expr}{ta:TA}{p pos:Pos} (hg:Gl X "range") (hm:X.mg "range" = none) (ha:Pr (PA X [a] ta)) (hs:starEach [a] X.env=[(false,eval a X.env)]:=by rfl):Pr (PI X tg (.Call (.Name "range" p) [a] [] pos) (iRng1 ta)):=⟨zakd hg hm ha.h hs⟩
theorem zaj1 {a b:Expr}{ta:TA}{p pos:Pos} (hg:Gl X "range") (hm:X.mg "range" = none) (ha:Pr (PA X [a,b] ta)) (hs:starEach [a,b] X.env=[(false,eval a X.env),(false,eval b X.env)]:=by rfl) (hs2:starEach [b] X.env=[(false,eval b X.env)]:=by rfl):Pr (PI X tg (.Call (.Name "range" p) [a,b] [] pos) (iRng2 ta)):=⟨zake hg hm ha.h hs hs2⟩
end
section
variable {X:Cx}{elts:List Expr}{kk:Nat}{tpos:Pos}
theorem zaqa (k1 k2:SK) {a b:Expr}{ta:TA}{p pos:Pos} (hg:Gl X "zip") (hm:X.mg "zip" = none) (ha:Pr (PA X [a,b] ta)) (hs:starEach [a,b] X.env=[(false,eval a X.env),(false,eval b X.env)]:=by rfl) (hs2:starEach [b] X.env=[(false,eval b X.env)]:=by rfl):Pr (PI X (.Tuple elts kk tpos) (.Call (.Name "zip" p) [a,b] [] pos) (iZip X.K k1 k2 ta)):=⟨zasf k1 k2 hg hm ha.h hs hs2⟩
end
section
variable {X:Cx}{pos:Pos}
theorem zaav {i:Nat}{x:Str} (hN:X.N.Nodup) (hi:X.N[i]?=some x) (hx:Loc X.env.scope x) (hf:X.fn x=true∨X.env.scope.names.lookup x=some .local:=by first | exact .inl rfl | exact .inr rfl | assumption):Pr (PG X (.Name x pos) (gName i)):=⟨zapl hN hi hx hf⟩
theorem zadj  : Pr (PGs X [] gNil):=⟨zapm⟩
theorem zabv {e:Expr}{es:List Expr}{t:TG}{u:TGs} (h1:Pr (PG X e t)) (h2:Pr (PGs X es u)) (hs:(assignEach (e :: es) X.env).map (·.2)=assign e X.env :: (assignEach es X.env).map (·.2):=by rfl):Pr (PGs X (e :: es) (gCons t u)):=⟨zank h1.h h2.h hs⟩
theorem zagc {es:List Expr}{k:Nat}{t:TGs}{n:Nat} (hc:X.calm=true) (h:Pr (PGs X es t)) (hn:(assignEach es X.env).length=n:=by rfl) (hst:(assignEach es X.env).findIdx? (·.1)=none:=by rfl):Pr (PG X (.Tuple es k pos) (gTup X.K n t)):=⟨zaot hc h.h hn hst⟩
theorem zak8 {o i:Expr}{to ti:TE}{t:TSet} (ho:Pr (PE X o to)) (hi:Pr (PE X i ti)) (hs:PSet X t) (ha:∀ v,assign (.Subscript o i pos) X.env v=(do
   let ov ← holding [v] (eval o X.env)
   let iv ← holding [v,ov] (eval i X.env)
   standAt pos
   holding [v,ov,iv] (setItem ov iv v)
   release [v,ov,iv] []):=by intro _; rfl):Pr (PG X (.Subscript o i pos) (gSub to ti t)):=⟨zarr ho.h hi.h hs ha⟩
end
section
variable {X:Cx}{st:Stmt}{rest:List Stmt}{t u:TS}{e:Expr}{te:TE}{pos:Pos}
theorem zaas (he:Pr (PE X e te)):Pr (PS X (.Return (some e) pos) (tRet te)):=⟨zarq he.h⟩
end
section
variable {X:Cx}{pos:Pos}
theorem zaaq {i:Nat}{x:Str}{e:Expr}{te:TE}{pos':Pos} (hN:X.N.Nodup) (hi:X.N[i]?=some x) (hx:Loc X.env.scope x) (he:Pr (PE X e te)) (hs:swapsWith e (some (.Name x pos')) pos.line X.env=pure false:=by rfl) (hf:X.fn x=true∨X.env.scope.names.lookup x=some .local:=by first | exact .inl rfl | exact .inr rfl | assumption):Pr (PS X (.Assign [.Name x pos'] e pos) (tAsg te (gName i))):=⟨zart hN hi hx he.h hs hf⟩
theorem zagd {tg e:Expr}{te:TE}{g:TG} (he:Pr (PE X e te)) (hg:Pr (PG X tg g)) (hs:swapsWithSole [tg] e pos.line X.env=pure false:=by rfl) (hw:swappedStores [tg] e X.env=pure none:=by rfl) (h1:(assignEach [tg] X.env).map (·.2)=[assign tg X.env]:=by rfl):Pr (PS X (.Assign [tg] e pos) (tAsg te g)):=⟨zars he.h hg.h hs hw h1⟩
end
section
variable {X:Cx}{st:Stmt}{rest:List Stmt}{t u:TS}{e:Expr}{te:TE}{pos:Pos}
theorem zaaz {c:Expr}{a b:List Stmt}{tc:TT} (hc:Pr (PT X c tc)) (ha:Pr (PSs X a t)) (hb:Pr (PSs X b u)):Pr (PS X (.If c a b pos) (tIfS tc t u)):=⟨zatj hc.h ha.h hb.h⟩
end
section
theorem zabk {X:Cx}{tg iter:Expr}{body:List Stmt}{wi:TI}{g:TG}{tb:TS}{pos:Pos} (hp:PassesOwn (model X.prog X.w) X.A X.env X.xe) (hc:X.calm=true) (hi:Pr (PI X tg iter wi)) (hg:Pr (PG X tg g)) (hb:Pr (PSs X body tb)) (hs:∀ x,foldedSetIterable iter X.env x=pure x:=by intro _; rfl):Pr (PS X (.For tg iter body [] pos) (tLoop wi g tb)):=⟨zap7 hp hc hi.h hg.h hb.h hs⟩
end
section
variable {X:Cx}{pos:Pos}
theorem zahf {c:Expr}{body:List Stmt}{tc:TT}{tb:TS} (hp:PassesOwn (model X.prog X.w) X.A X.env X.xe) (hc:Pr (PT X c tc)) (hb:Pr (PSs X body tb)):Pr (PS X (.While c body [] pos) (tWhile tc tb)):=⟨zanl hp hc.h hb.h⟩
end
section
variable {X:Cx}{st:Stmt}{rest:List Stmt}{t u:TS}{e:Expr}{te:TE}{pos:Pos}
theorem zaba (he:Pr (PE X e te)) (hs:swapsWith e none pos.line X.env=pure false:=by rfl):Pr (PS X (.Expr e pos) (tDrop te)):=⟨zapk he.h hs⟩
theorem zaat  : Pr (PSs X [] tNext):=⟨zapi⟩
theorem zaaf (h1:Pr (PS X st t)):Pr (PSs X [st] t):=⟨zapj h1.h⟩
theorem zaag (h1:Pr (PS X st t)) (h2:Pr (PSs X rest u)):Pr (PSs X (st :: rest) (tSeq t u)):=⟨zai2 h1.h h2.h⟩
end
section
theorem zaaw {X:Cx}{st:Stmt}{rest:List Stmt}{t u:TS} (h1:Pr (PS X st t)) (h2:Pr (PSs X rest u)):Pr (PSs X (st :: rest) (tCut t u)):=⟨zap8 h1.h h2.h⟩
end
section
variable {X:Cx}{o e value:Expr}{f:Str}{pos pos' tpos:Pos}{ta tv:TE}
theorem zak9 (ha:Pr (PE X o ta)) (hv:Pr (PE X value tv)) (hs:swapsWith value (some (.Attribute o f pos')) pos.line X.env=pure false):Pr (PS X (.Assign [.Attribute o f pos'] value pos) (sFld X.K ta tv f)):=⟨zar1 ha.h hv.h hs⟩
end
end L2

namespace L2
open PySem PySem.Spec PyProof.Rows
def relab (sc outer:Scope):Scope :=
 { sc with names:=sc.names.map fun (n,k)=>if (k == .free && outer.kind == .function && outer.names.lookup n == some .cell) then (n,.cell) else (n,k) }
structure CompOk (sc outer:Scope) (own:List Str) (N:List Str) (fr:List Nat) (N':List Str):Prop where
 kind:sc.kind=.function
 nocell:∀ y∈sc.names,y.2≠.cell
 loc:∀ y∈sc.names,y.2=.local→sc.names.lookup y.1=some .local
 fre:∀ y∈sc.names,y.2=.free→outer.names.lookup y.1=some .cell∨outer.names.lookup y.1=some .free
 nd:N'.Nodup
 all:N'.map some=own.map some++fr.map fun j=>N[j]?
 frk:∀ j∈fr,∀ x,N[j]?=some x→sc.names.lookup x=some .free∧(outer.names.lookup x=some .cell∨outer.names.lookup x=some .free)
def cst (n:Nat) (fr:List Nat) (σ:St):St:=List.replicate n none++fr.map fun j=>(σ[j]?).join
theorem zae7 {env:Env}{sc:Scope} (h:∀ y∈sc.names,y.2=.free→∃ c,env.cells.lookup y.1=some c) :
  ∃ cl,closureFor sc env=pure cl∧(∀ x c,cl.lookup x=some c→env.cells.lookup x=some c)∧∀ y∈sc.names,y.2=.free→∃ c,cl.lookup y.1=some c:=by
 have key:∀ (l:List (Str × NameKind)) (cs:List (Str × Addr)),(∀ y∈l,y.2=.free→∃ c,env.cells.lookup y.1=some c)→(∀ x c,cs.lookup x=some c→env.cells.lookup x=some c) →
   ∃ cl,(forIn l cs fun x r=>if (x.2 == NameKind.free)=true then do let a ← cellOf env x.1; pure (ForInStep.yield ((x.1,a) :: r)) else pure (ForInStep.yield r))=(pure cl:Sem _)∧(∀ x c,cl.lookup x=some c→env.cells.lookup x=some c) ∧
    (∀ x,(∃ c,cs.lookup x=some c)→∃ c,cl.lookup x=some c)∧∀ y∈l,y.2=.free→∃ c,cl.lookup y.1=some c:=by
  intro l
  induction l with
  | nil=>intro cs _ h2; exact ⟨cs,rfl,h2,fun _ z=>z,fun y hy=>nomatch hy⟩
  | cons y l ih =>
   intro cs h1 h2
   obtain ⟨n,k⟩:=y
   by_cases hk:k=.free
   ·subst hk
    obtain ⟨c,hc⟩:=h1 (n,.free) List.mem_cons_self rfl
    obtain ⟨cl,e,a,b,d⟩:=ih ((n,c) :: cs) (fun y hy=>h1 y (List.mem_cons_of_mem _ hy)) (fun x c' hx=>by
     rw [List.lookup_cons] at hx
     split at hx
     ·rename_i q
      have:x=n:=by simpa using q
      cases hx; subst this; exact hc
     ·exact h2 x c' hx)
    refine ⟨cl,?_,a,fun x ⟨c',hx⟩=>b x ?_,fun y hy hf=>?_⟩
    ·rw [List.forIn_cons]
     have e1:cellOf env n=pure c:=by unfold cellOf; rw [hc]
     simp only [beq_self_eq_true,if_true,e1,pure_bind]
     exact e
    ·rw [List.lookup_cons]
     split
     ·exact ⟨_,rfl⟩
     ·exact ⟨c',hx⟩
    ·rcases List.mem_cons.mp hy with rfl | hy
     ·exact b n ⟨c,by simp [List.lookup_cons]⟩
     ·exact d y hy hf
   ·obtain ⟨cl,e,a,b,d⟩:=ih cs (fun y hy=>h1 y (List.mem_cons_of_mem _ hy)) h2
    refine ⟨cl,?_,a,b,fun y hy hf=>?_⟩
    ·rw [List.forIn_cons]
     have hb:(k == NameKind.free)=false:=by simpa using hk
     simp only [hb,Bool.false_eq_true,if_false,pure_bind]
     exact e
    ·rcases List.mem_cons.mp hy with rfl | hy
     ·exact absurd hf hk
     ·exact d y hy hf
 obtain ⟨cl,e,a,_,d⟩:=key sc.names [] h (fun x c hx=>by simp at hx)
 refine ⟨cl,?_,a,d⟩
 unfold closureFor
 simp only [e,pure_bind]
def cxC (X:Cx) (sc:Scope) (cl:List (Str × Addr)) (N':List Str) (C:Addr) (s:Shared) (H:Hp) (fp:List Addr):Cx :=
 { X with N:=N',s₀:=s,H₀:=H,env:=compEnvC sc cl C X.env,outer:=X.stack,stack:=X.stack,ex:=fp,fn:=fun _=>false,pn:=[],xe:=fun _ _=>False }
theorem zacm {outer:Scope}:∀ {names:List (Str × NameKind)}{x:Str}{k:NameKind},
  (names.map fun (n,k)=>if (k == NameKind.free && outer.kind == .function && outer.names.lookup n == some .cell) then (n,NameKind.cell) else (n,k)).lookup x=some k →
   names.lookup x=some k∨(names.lookup x=some .free∧k=.cell)
 | [],x,k,h=>by simp at h
 | (n,k') :: r,x,k,h=>by
  rw [List.map_cons] at h
  by_cases hc:(k' == NameKind.free && outer.kind == .function && outer.names.lookup n == some .cell)=true
  ·simp only [hc,if_true] at h
   rw [List.lookup_cons] at h ⊢
   cases hx:x == n with
   | true =>
    rw [hx] at h
    simp only [Option.some.injEq] at h
    have hf:k'=.free:=by
     have:=(Bool.and_eq_true_iff.mp (Bool.and_eq_true_iff.mp hc).1).1
     simpa using this
    exact .inr ⟨by simp [hf],h.symm⟩
   | false=>rw [hx] at h; exact zacm h
  ·simp only [hc,Bool.false_eq_true,if_false] at h
   rw [List.lookup_cons] at h ⊢
   cases hx:x == n with
   | true=>rw [hx] at h; exact .inl (by simpa using h)
   | false=>rw [hx] at h; exact zacm h
theorem zad7 {outer:Scope}:∀ {names:List (Str × NameKind)}{x:Str},names.lookup x=some .free →
  (names.map fun (n,k)=>if (k == NameKind.free && outer.kind == .function && outer.names.lookup n == some .cell) then (n,NameKind.cell) else (n,k)).lookup x=some .cell ∨
  (names.map fun (n,k)=>if (k == NameKind.free && outer.kind == .function && outer.names.lookup n == some .cell) then (n,NameKind.cell) else (n,k)).lookup x=some .free
 | [],x,h=>by simp at h
 | (n,k') :: r,x,h=>by
  rw [List.lookup_cons] at h
  rw [List.map_cons]
  by_cases hc:(k' == NameKind.free && outer.kind == .function && outer.names.lookup n == some .cell)=true
  ·simp only [hc,if_true]
   rw [List.lookup_cons]
   cases hx:x == n with
   | true=>exact .inl rfl
   | false=>rw [hx] at h; exact zad7 h
  ·simp only [hc,Bool.false_eq_true,if_false]
   rw [List.lookup_cons]
   cases hx:x == n with
   | true=>rw [hx] at h; exact .inr h
   | false=>rw [hx] at h; exact zad7 h
theorem zacv {α:Type}:∀ {l:List (Str × α)}{x:Str}{k:α},l.lookup x=some k→(x,k)∈l
 | [],_,_,h=>by simp at h
 | (n,k') :: r,x,k,h=>by
  rw [List.lookup_cons] at h
  cases hx:x == n with
  | true =>
   rw [hx] at h
   have e:x=n:=by simpa using hx
   have e2:k'=k:=by simpa using h
   rw [e,e2]; exact List.mem_cons_self
  | false=>rw [hx] at h; exact List.mem_cons_of_mem _ (zacv h)
section
variable {X:Cx}{pins:List (Addr × Obj)}{σ:St}{H:Hp}{s:Shared}{sc:Scope}{own:List Str}{fr:List Nat}{N':List Str}{cl:List (Str × Addr)}
theorem zaih (I:Inv X pins σ H s) (cs:CompOk sc X.env.scope own X.N fr N') (h1:∀ x c,cl.lookup x=some c→X.env.cells.lookup x=some c) (h2:∀ y∈sc.names,y.2=.free→∃ c,cl.lookup y.1=some c)
  {fp:List Addr} (hf:∀ b∈fp,FpOk X pins H b∧∃ o,s.heap.get? b=some o) {h':Heap}{t':Nat}{C D:Addr}{o:Obj} (hC:s.heap.objs.size≤C) (hD:s.heap.objs.size≤D) (hDC:D≠C)
  (k:∀ b u,s.heap.get? b=some u→h'.get? b=some u) (hn:h'.Ns C fun _=>none) (hDo:h'.get? D=some o) (hd:∀ v,o.data≠.cell v) :
  Inv (cxC X sc cl N' C s H fp) [(D,o)] (cst own.length fr σ) H { s with heap:=h',toks:=t' }:=by
 have lt:∀ b u,s.heap.get? b=some u→b < s.heap.objs.size:=fun b u e=>Heap.lt_size e
 have fpC:∀ b∈fp,b≠C:=fun b hb z=>by
  obtain ⟨_,o,e⟩:=hf b hb
  have:=lt b o e
  rw [z] at this
  exact absurd (Nat.lt_of_lt_of_le this hC) (Nat.lt_irrefl _)
 have lenN:N'.length=own.length + fr.length:=by
  have:=congrArg List.length cs.all
  simpa using this
 refine ⟨⟨I.ok.mod,cs.kind,I.ok.glob,I.ok.blt,hC,fun x y c e1 e2=>I.ok.inj x y c (h1 x c e1) (h1 y c e2),fun x hx=>?_,fun x c z=>absurd z Bool.false_ne_true,I.ok.hd,I.ok.frames,.inl rfl,fun b hb=>⟨fpC b hb,fun x c e=>(hf b hb).1.2.2.2.2.1 x c (h1 x c e)⟩,
   I.bs,Nat.le_trans I.ok.bsz I.sz,fun b o' e hb=>?_,fun b hb z=>?_,I.stack,I.stkFree⟩,
  rfl,I.bare,Un.kept k,⟨_,hn,fun i x v e1 e2 e3=>?_⟩,fun x c e=>?_,I.hok.fresh hC,fun x c e=>I.freeC x c (h1 x c e),fun p hp=>?_,I.hok.kept k,?_⟩
 ·have hx':(relab sc X.env.scope).names.lookup x=some .cell∨(relab sc X.env.scope).names.lookup x=some .free:=hx
  have hfree:sc.names.lookup x=some .free:=by
   rcases hx' with z | z
   ·rcases zacm z with q | q
    ·exact absurd rfl (cs.nocell _ (zacv q))
    ·exact q.1
   ·rcases zacm z with q | q
    ·exact q
    ·exact q.1
  exact h2 (x,.free) (zacv hfree) rfl
 ·have q:=(hf b hb).1.2.2.2.1
  rcases q with q | q
  ·exact I.ok.noex b o' e q
  ·exact absurd (Nat.lt_of_lt_of_le (Heap.lt_size (I.ok.bs b o' e).1) q) (Nat.lt_irrefl _)
 ·have z':b∈frs X.stack:=z
  rcases List.mem_cons.mp (I.stkSub b z') with q | q
  ·exact (hf b hb).1.2.1 q
  ·exact (hf b hb).1.2.2.1 q
 ·-- a name of the block at its entry is one of the def's
  have hi:own.length≤i:=by
   by_cases hi:i < own.length
   ·have e2':(cst own.length fr σ)[i]?=some none:=by
     unfold cst
     rw [List.getElem?_append_left (by simpa using hi),List.getElem?_replicate,if_pos hi]
    rw [e2'] at e2; cases e2
   ·omega
  have e2':(fr.map fun j=>(σ[j]?).join)[i - own.length]?=some (some v):=by
   unfold cst at e2
   rwa [List.getElem?_append_right (by simpa using hi),List.length_replicate] at e2
  rw [List.getElem?_map] at e2'
  have e1a:(N'.map some)[i]?=some (some x):=by
   have e1:N'[i]?=some x:=e1
   rw [List.getElem?_map,e1]; rfl
  rw [cs.all,List.getElem?_append_right (by simpa using hi),List.length_map,List.getElem?_map] at e1a
  cases ej:fr[i - own.length]? with
  | none=>rw [ej] at e2'; cases e2'
  | some j =>
   rw [ej] at e2' e1a
   have hj:j∈fr:=List.mem_of_getElem? ej
   have nj:X.N[j]?=some x:=by simpa using e1a
   have sj:σ[j]?=some (some v):=by
    have:(σ[j]?).join=some v:=by simpa using e2'
    cases q:σ[j]? with
    | none=>rw [q] at this; cases this
    | some y=>rw [q] at this; simp at this; rw [this]
   obtain ⟨kf,ko⟩:=cs.frk j hj x nj
   obtain ⟨m,hm,hl⟩:=I.loc
   obtain ⟨u,r,l⟩:=hl j x v nj sj (.inr ko)
   refine ⟨u,r,.inr ?_⟩
   have lk:X.env.kindOf x=some .cell∨X.env.kindOf x=some .free:=ko
   rcases l with ⟨z,_⟩ | ⟨_,c,ec,ic⟩
   ·rcases lk with q | q <;> rw [z] at q <;> cases q
   ·obtain ⟨c',hc'⟩:=h2 (x,.free) (zacv kf) rfl
    have:c'=c:=by
     have:=h1 x c' hc'
     rw [ec] at this; exact (Option.some.inj this).symm
    subst this
    refine ⟨zad7 kf,c',hc',?_⟩
    obtain ⟨oc,hoc,hcd⟩:=ic
    exact ⟨oc,k c' oc hoc,hcd⟩
 ·obtain ⟨v,oc,hoc,hcd⟩:=I.cell x c (h1 x c e)
  exact ⟨v,oc,k c oc hoc,hcd⟩
 ·have hp':p∈[(D,o)]:=hp
  have e:p=(D,o):=by simpa using hp'
  subst e
  refine ⟨hDo,I.hok.fresh hD,hDC,fun z=>?_,hd⟩
  have z':D∈frs X.stack:=z
  obtain ⟨_,o2,ho2,_⟩:=I.stack.mem z'
  exact absurd (Nat.lt_of_lt_of_le (Heap.lt_size ho2) hD) (Nat.lt_irrefl _)
 ·show (cst own.length fr σ).length=N'.length
  unfold cst
  rw [List.length_append,List.length_replicate,List.length_map,lenN]
theorem zala (I:Inv X pins σ H s) {fp:List Addr} (hf:∀ b∈fp,FpOk X pins H b∧∃ o,s.heap.get? b=some o) {C D:Addr}{its:List Value}{ys:List V}{n:Nat}{σ':St}{H':Hp}{s':Shared}
  (hD:s.heap.objs.size≤D) (J:Inv (cxC X sc cl N' C s H fp) [(D,{ cls:=.type "list",data:=.seq its.toArray n })] σ' H' s') (r:Vals ys its) (hz:ys.length≤sizeLine):Inv X pins σ (upd H' D (.lst ys)) s':=by
 obtain ⟨hDo,hDn,hDC,hDf,hDc⟩:=J.pin (D,{ cls:=.type "list",data:=.seq its.toArray n }) (List.mem_append_right _ List.mem_cons_self)
 have u:Un (frs X.stack) fp H H' s.heap s'.heap:=J.base
 have os:s'.os=s.os:=J.os
 have lt:∀ b ob,s.heap.get? b=some ob→b≠D:=fun b ob e z=>by
  have:=Heap.lt_size e
  rw [z] at this
  exact absurd (Nat.lt_of_lt_of_le this hD) (Nat.lt_irrefl _)
 refine I.call' (ch:=fp) os ⟨u.keep,u.slot,fun b ob e n hx=>?_,u.there,fun b xs e=>?_,fun b ob x e=>?_,fun b ps e=>?_⟩ ?_ J.bare (fun b hb=>?_)
 ·rw [zaa5 (lt b ob e)]; exact u.free b ob e n hx
 ·have:=u.tups b xs e
  rw [zaa5 (zaam this hDn)]; exact this
 ·have:=u.frzs b ob x e
  rw [zaa5 (zaam this hDn)]; exact this
 ·obtain ⟨m,q⟩:=u.tbls b ps e
  exact ⟨m,by rw [zaa5 (zaam q hDn)]; exact q⟩
 ·intro b ob e
  by_cases hb:b=D
  ·subst hb
   rw [zaae] at e; cases e
   exact ⟨hz,its,n,r,hDo⟩
  ·rw [zaa5 hb] at e
   exact (J.hok b ob e).stay (fun c v _ q=>q) (fun c q=>by rw [zaa5 (zaam q hDn)]; exact q) fun c xs q=>by rw [zaa5 (zaam q hDn)]; exact q
 ·obtain ⟨_,f1,_,f3,f4,f5⟩:=(hf b hb).1
  exact ⟨f3,f1,f4,f5⟩
end
def PIf (X:Cx) (ifs:List Expr) (t:TT):Prop :=
 ∀ (pins:List (Addr × Obj)) (s:Shared) (σ:St) (H:Hp) (Q:Bool→Hp→Prop),Inv X pins σ H s→t σ H Q →
  wpAny (model X.prog X.w) X.A (forIn ifs true fun c r=>if r=true then do let ok ← isTrue c X.env (eval c X.env); pure (ForInStep.yield ok) else pure (ForInStep.yield r)) (TP X pins σ Q) X.xe s
def tYes:TT:=fun _ H Q=>Q true H
theorem zaqb {X:Cx}:PIf X [] tYes:=fun _ _ _ H _ I h=>wpAny_tests_nil ⟨H,I,h⟩
theorem zaqc {X:Cx}{c:Expr}{t:TT} (h:PT X c t):PIf X [c] t:=fun pins s σ H Q I q=>wpAny_tests_one (h pins s σ H Q I q)
structure Comp (J:It) (g:TG) (tt:TT) (te:TE) (Q:List V→Hp→Prop) (σ:St) (H:Hp):Prop where
 ex:∃ W:Nat→Nat→List V→St→Hp→Prop,(∃ m,W 0 m [] σ H)∧∀ i m ys σ H,W i m ys σ H→ys.length < sizeLine ∧
  ((J.stop i H∧Q ys H)∨(J.go i H∧∃ N:List V→St→Hp→Prop,(∀ ys' σ' H',N ys' σ' H'→∃ m',m' < m∧W (i + 1) m' ys' σ' H') ∧
    ∀ x H',J.yld i H x H'→g x σ H' fun σ2 H2=>tt σ2 H2 fun b H3=>if b=true then te σ2 H3 fun y H4=>N (ys++[y]) σ2 H4 else N ys σ2 H3))
section
variable {prog:Program}{w:World}{A:Around}{R:Result→Shared→Prop}{s:Shared}
theorem zahg {elt target iter:Expr}{ifs:List Expr}{scope:Scope}{pos:Pos}{it acc:Value}{env:Env} (I:Nat→Shared→Prop)
  (turn:∀ n s,I n s→wpAny (model prog w) A (pyNext it) (fun r s₁=>match r with
   | none=>R (.ok .next) s₁
   | some v=>wpAny (model prog w) A (letOwnedTupleGo target it v) (fun _ s₁=>wpAny (model prog w) A (assign target env v) (fun _ s₂ =>
     wpAny (model prog w) A (forIn ifs true fun c r=>if r=true then do let ok ← isTrue c env (eval c env); pure (ForInStep.yield ok) else pure (ForInStep.yield r)) (fun ok s₃ =>
      if ok=true then wpAny (model prog w) A (eval elt env) (fun x s₄ =>
       wpAny (model prog w) A (call (.builtin "list.append") [acc,x]) (fun _ s₅=>∃ m,m < n∧I m s₅) (fun _ _=>False) s₄) (fun _ _=>False) s₃
      else ∃ m,m < n∧I m s₃) (fun _ _=>False) s₂) (fun _ _=>False) s₁) (fun _ _=>False) s₁) (fun _ _=>False) s)
  (n:Nat) (h:I n s):codeAny (model prog w) A (.compLoop (.ListComp elt [⟨target,iter,ifs,0⟩] scope pos) 0 it acc env) R s:=by
 refine codeAny_loop rfl I (fun n s hI=>?_) n h
 show wpAny _ A ((compTurn (.ListComp elt [⟨target,iter,ifs,0⟩] scope pos) 0 it acc env).onRaise (fun x=>do noteFrame x env; theTreesLotGoes x)) _ _ s
 refine wpAny_noted (wpAny_noRaise ?_)
 rw [compTurn_list]
 refine wpAny_bind (wpAny_standAt (wpAny_bind (wpAny_mono (turn n s hI) (fun r s₁ h₁=>?_) fun _ _ h'=>h')))
 cases r with
 | none=>exact wpAny_pure h₁
 | some v =>
  refine wpAny_bind (wpAny_mono h₁ (fun _ s₁ h₁=>?_) fun _ _ h'=>h')
  refine wpAny_bind (wpAny_mono h₁ (fun _ s₂ h₂=>wpAny_bind (wpAny_mono h₂ (fun ok s₃ h₃=>?_) fun _ _ h'=>h')) fun _ _ h'=>h')
  cases ok with
  | false=>exact wpAny_pure ⟨rfl,h₃⟩
  | true =>
   exact wpAny_bind (wpAny_bind (wpAny_mono h₃ (fun x s₄ h₄=>wpAny_bind (wpAny_mono h₄ (fun _ s₅ h₅=>wpAny_pure (wpAny_pure ⟨rfl,h₅⟩)) fun _ _ h'=>h')) fun _ _ h'=>h'))
end
end L2

namespace L2
open PySem PySem.Spec PyProof.Rows
structure TurnX (G:Cx→Prop) (P:Program) (w:World) (K:PySem.W.Frag) (tg:Expr) (J:It) (fp:List Addr) (it:Addr) (tn:Nat→Heap→Prop):Prop where
 obj:∀ i h,tn i h→∀ b∈fp,∃ o,h.get? b=some o∧∀ v,o.data≠.cell v
 keep:∀ i h h',tn i h→(∀ b∈fp,∀ o,h.get? b=some o→h'.get? b=some o)→tn i h'
 item:∀ (X:Cx),X.prog=P→X.w=w→X.K=K→G X→∀ (i:Nat) (pins:List (Addr × Obj)) (s:Shared) (σ:St) (H:Hp) (E:Value→Shared→Prop),Inv X pins σ H s→(∀ b∈fp,FpOk X pins H b)→tn i s.heap→J.go i H →
  wpAny (model P w) X.A (pyNext (.ref it)) (fun r s1=>∃ u,r=some u ∧
   wpAny (model P w) X.A (letOwnedTupleGo tg (.ref it) u) (fun _ s2=>∃ x H',Inv X pins σ H' s2∧RelV x u∧J.yld i H x H'∧tn (i + 1) s2.heap∧∀ b∈fp,H' b=none) E s1) E s
 done:∀ (X:Cx),X.prog=P→X.w=w→X.K=K→G X→∀ (i:Nat) (pins:List (Addr × Obj)) (s:Shared) (σ:St) (H:Hp) (E:Value→Shared→Prop),Inv X pins σ H s→(∀ b∈fp,FpOk X pins H b)→tn i s.heap→J.stop i H →
  wpAny (model P w) X.A (pyNext (.ref it)) (fun r s1=>r=none∧Inv X pins σ H s1) E s
 self:∀ (A:Around) (i:Nat) (s:Shared) (Q:Value→Shared→Prop) (E:Value→Shared→Prop),tn i s.heap→Q (.ref it) s→wpAny (model P w) A (pyIter (.ref it)) Q E s
theorem Turn.x {P:Program}{w:World}{K:PySem.W.Frag}{tg:Expr}{J:It}{fp:List Addr}{it:Addr}{tn:Nat→Heap→Prop} (T:Turn P w K tg J fp it tn):TurnX (fun X=>X.calm=true) P w K tg J fp it tn:=⟨T.obj,T.keep,T.item,T.done,T.self⟩
section
variable {X:Cx}{sc:Scope}{own:List Str}{fr:List Nat}{N':List Str}{tg elt iter:Expr}{ifs:List Expr}{g:TG}{tt:TT}{te:TE}{wi:TI}{pos:Pos}
theorem zaf0 {G:Cx→Prop}{pins:List (Addr × Obj)}{σ:St}{H:Hp}{s2:Shared}{it:Addr}{fp:List Addr}{tn:Nat→Heap→Prop}{J:It}{QQ:List V→Hp→Prop}{cl:List (Str × Addr)}{RR:Value→Addr→Result→Shared→Prop}{E:Value→Shared→Prop}
  (I2:Inv X pins σ H s2) (hc:∀ cl C s H fp,G (cxC X sc cl N' C s H fp)) (T:TurnX G X.prog X.w X.K tg J fp it tn) (st:tn 0 s2.heap) (f2:∀ b∈fp,FpOk X pins H b) (cs:CompOk sc X.env.scope own X.N fr N')
  (h1:∀ x c,cl.lookup x=some c→X.env.cells.lookup x=some c) (h2:∀ y∈sc.names,y.2=.free→∃ c,cl.lookup y.1=some c)
  (hg:∀ cl C s H fp,PG (cxC X sc cl N' C s H fp) tg g) (hif:∀ cl C s H fp,PIf (cxC X sc cl N' C s H fp) ifs tt) (he:∀ cl C s H fp,PE (cxC X sc cl N' C s H fp) elt te)
  (KK:Comp J g tt te QQ (cst own.length fr σ) H)
  (hRR:∀ D C m H' ys s',s2.heap.objs.size≤C→s'.heap.Ns C m→H' D=none→(upd H' D (.lst ys)) C=none→QQ ys H'→Inv X pins σ (upd H' D (.lst ys)) s'→RR (.ref D) C (.ok .next) s') :
  wpAny (model X.prog X.w) X.A (newList []) (fun acc s₃=>wpAny (model X.prog X.w) X.A (newFunctionEnv sc X.env.globals cl [] X.env.qual none .none (some X.env)) (fun cenv s₄ =>
   codeAny (model X.prog X.w) X.A (.compStart (.ListComp elt [⟨tg,iter,ifs,0⟩] sc pos) 0 (.ref it) acc { cenv with scope:=relabel sc X.env }) (RR acc cenv.locals) s₄) E s₃) E s2:=by
 refine wpAny_newObj_type (wpAny_newFunctionEnv cs.nocell (by intro y hy; simp at hy) (fun h₁ hns₁ hsb₁=>?_) cs.kind)
 dsimp only at hns₁ hsb₁ ⊢
 generalize hH2:s2.heap.push { cls:=.type "list",dict:=none,data:=.seq ([]:List Value).toArray }=H2 at hns₁ hsb₁ ⊢
 have hC:H2.objs.size=s2.heap.objs.size + 1:=by rw [← hH2,Heap.size_push]
 have hDC:s2.heap.objs.size≠H2.objs.size:=by rw [hC]; exact Nat.ne_of_lt (Nat.lt_succ_self _)
 have hCle:s2.heap.objs.size≤H2.objs.size:=by rw [hC]; exact Nat.le_succ _
 have below:∀ b,b < s2.heap.objs.size→b≠H2.objs.size∧b≠s2.heap.objs.size:=fun b hb=>⟨by rw [hC]; exact Nat.ne_of_lt (Nat.lt_succ_of_lt hb),Nat.ne_of_lt hb⟩
 have old:∀ b o,s2.heap.get? b=some o→h₁.get? b=some o:=fun b o e=>hsb₁.extBut b o (below b (Heap.lt_size e)).1 (Heap.get?_push_of_some _ (hH2 ▸ Heap.get?_push_of_some _ e))
 have hacc:h₁.get? s2.heap.objs.size=some { cls:=.type "list",data:=.seq ([]:List Value).toArray 0 }:=hsb₁.extBut _ _ hDC (Heap.get?_push_of_some _ (hH2 ▸ Heap.get?_push_size _ rfl))
 have fpo:∀ b∈fp,FpOk X pins H b∧∃ o,s2.heap.get? b=some o:=fun b hb=>⟨f2 b hb,let ⟨o,e,_⟩:=T.obj 0 _ st b hb; ⟨o,e⟩⟩
 have st1:tn 0 h₁:=T.keep _ _ _ st fun b hb o e=>old b o e
 have hns:h₁.Ns H2.objs.size fun _=>none:=by simpa using hns₁
 obtain ⟨W,⟨m0,w0⟩,turn⟩:=KK.ex
 have loop:∀ s₃:Shared,s₃={ s2 with heap:=h₁,toks:=s2.toks + ([]:List (Str × Value)).length } →
   codeAny (model X.prog X.w) X.A (.compLoop (.ListComp elt [⟨tg,iter,ifs,0⟩] sc pos) 0 (.ref it) (.ref s2.heap.objs.size) (compEnvC sc cl H2.objs.size X.env)) (RR (.ref s2.heap.objs.size) H2.objs.size) s₃:=by
  rintro s₃ rfl
  have J0:Inv (cxC X sc cl N' H2.objs.size s2 H fp) [(s2.heap.objs.size,{ cls:=.type "list",data:=.seq ([]:List Value).toArray 0 })] (cst own.length fr σ) H { s2 with heap:=h₁,toks:=s2.toks + ([]:List (Str × Value)).length } :=
   zaih I2 cs h1 h2 fpo hCle (Nat.le_refl _) hDC old hns hacc (fun v z=>by cases z)
  have stat:∀ {pl:List (Addr × Obj)}{H':Hp},(∀ p∈pl,p.1=s2.heap.objs.size)→(∀ b∈fp,H' b=none)→∀ b∈fp,FpOk (cxC X sc cl N' H2.objs.size s2 H fp) pl H' b:=fun {pl H'} hpl hn b hb=>by
   obtain ⟨f,ob,e⟩:=fpo b hb
   refine ⟨hn b hb,(below b (Heap.lt_size e)).1,fun z=>?_,.inl hb,fun x c ec=>f.2.2.2.2.1 x c (h1 x c ec),fun p hp=>?_⟩
   ·have z':b∈frs X.stack:=z
    rcases List.mem_cons.mp (I2.stkSub b z') with q | q
    ·exact f.2.1 q
    ·exact f.2.2.1 q
   ·have hp':p∈pl:=hp
    rw [hpl p hp']
    exact Ne.symm (below b (Heap.lt_size e)).2
  have one:∀ (o:Obj),∀ p∈[(s2.heap.objs.size,o)],p.1=s2.heap.objs.size:=fun o p hp=>by
   have:p=(s2.heap.objs.size,o):=by simpa using hp
   rw [this]
  refine zahg (env:=compEnvC sc cl H2.objs.size X.env) (fun n s'=>∃ i ys its k σ' H',Inv (cxC X sc cl N' H2.objs.size s2 H fp) [(s2.heap.objs.size,{ cls:=.type "list",data:=.seq (its:List Value).toArray k })] σ' H' s'∧tn i s'.heap∧(∀ b∈fp,H' b=none)∧Vals ys its∧W i n ys σ' H')
   ?_ m0 ⟨0,[],[],0,_,H,J0,st1,fun b hb=>(f2 b hb).1,.nil,w0⟩
  rintro n s3 ⟨i,ys,its,k,σ3,H3,I3,st3,fr3,rv,w3⟩
  obtain ⟨hlen,alt⟩:=turn i n ys σ3 H3 w3
  rcases alt with ⟨stop,qn⟩ | ⟨go,N,hN,step⟩
  ·refine wpAny_mono (T.done (cxC X sc cl N' H2.objs.size s2 H fp) rfl rfl rfl (hc _ _ _ _ _) i _ s3 σ3 H3 (fun _ _=>False) I3 (stat (one _) fr3) st3 stop) (fun r s4 ⟨hr,I4⟩=>?_) fun _ _ z=>z
   subst hr
   obtain ⟨m,hm,_⟩:=I4.loc
   have hDn:H3 s2.heap.objs.size=none:=(I4.pin (s2.heap.objs.size,{ cls:=.type "list",data:=.seq its.toArray k }) (List.mem_append_right _ List.mem_cons_self)).2.1
   exact hRR _ _ m H3 ys s4 hCle hm hDn (by rw [zaa5 (Ne.symm hDC)]; exact I4.free) qn (zala I2 fpo (Nat.le_refl _) I4 rv (Nat.le_of_lt hlen))
  ·refine wpAny_mono (T.item (cxC X sc cl N' H2.objs.size s2 H fp) rfl rfl rfl (hc _ _ _ _ _) i _ s3 σ3 H3 (fun _ _=>False) I3 (stat (one _) fr3) st3 go) (fun r s4 ⟨u,hr,h4⟩=>?_) fun _ _ z=>z
   subst hr
   refine wpAny_mono h4 (fun _ s5 ⟨x,H5,I5,r5,y5,st5,fr5⟩=>?_) fun _ _ z=>z
   have I5':=I5.pinned (stat (one _) fr5) (T.obj _ _ st5)
   refine wpAny_mono (hg cl H2.objs.size s2 H fp _ s5 σ3 H5 x u _ I5' r5 (step x H5 y5)) (fun _ s6 ⟨σ6,H6,I6,q6⟩=>?_) fun _ _ z=>z
   refine wpAny_mono (hif cl H2.objs.size s2 H fp _ s6 σ6 H6 _ I6 q6) (fun b s7 ⟨H7,I7,q7⟩=>?_) fun _ _ z=>z
   have fps:∀ {σ8:St}{H8:Hp}{s8:Shared},Inv (cxC X sc cl N' H2.objs.size s2 H fp) ([(s2.heap.objs.size,{ cls:=.type "list",data:=.seq its.toArray k })]++pinsAt fp s5.heap) σ8 H8 s8 →
     tn (i + 1) s8.heap∧∀ b∈fp,H8 b=none:=fun {σ8 H8 s8} I8=>by
    refine ⟨T.keep _ _ _ st5 fun b hb o e=>(I8.pin (b,o) (List.mem_append_right _ (List.mem_append_right _ (zadh hb e)))).1,fun b hb=>?_⟩
    obtain ⟨o,e,d⟩:=T.obj _ _ st5 b hb
    exact (I8.pin (b,o) (List.mem_append_right _ (List.mem_append_right _ (zadh hb e)))).2.1
   cases b with
   | false =>
    obtain ⟨m',hm,w7⟩:=hN ys σ6 H7 q7
    exact ⟨m',hm,i + 1,ys,its,k,σ6,H7,I7.unpinned,(fps I7).1,(fps I7).2,rv,w7⟩
   | true =>
    have q7':te σ6 H7 fun y H4=>N (ys++[y]) σ6 H4:=q7
    refine wpAny_mono (he cl H2.objs.size s2 H fp _ s7 σ6 H7 _ I7 q7') (fun uy s8 ⟨y,H8,I8,r8,n8⟩=>?_) fun _ _ z=>z
    obtain ⟨m',hm,w8⟩:=hN _ _ _ n8
    obtain ⟨hDo,hDn,hDL,hDf,_⟩:=I8.pin (s2.heap.objs.size,{ cls:=.type "list",data:=.seq its.toArray k }) (List.mem_append_right _ (List.mem_append_left _ List.mem_cons_self))
    have hys:its.toArray.size≤sizeLine:=by rw [List.size_toArray,← rv.length]; exact Nat.le_of_lt hlen
    refine wpAny_list_append_plain (hsz:=hys) (⟨k,hDo⟩:s8.heap.PlainList s2.heap.objs.size its.toArray) fun h9 ⟨k',hl9⟩ hs9=>?_
    have hDp:∀ p∈(cxC X sc cl N' H2.objs.size s2 H fp).pn++pinsAt fp s5.heap,p.1≠s2.heap.objs.size:=fun p hp=>by
     have hp':p∈pinsAt fp s5.heap:=by
      have hp2:p∈([]:List (Addr × Obj))++pinsAt fp s5.heap:=hp
      simpa using hp2
     obtain ⟨hb,_⟩:=zag3 hp'
     obtain ⟨_,ob,e⟩:=fpo p.1 hb
     exact (below p.1 (Heap.lt_size e)).2
    have I8':Inv (cxC X sc cl N' H2.objs.size s2 H fp) (pinsAt fp s5.heap) σ6 H8 s8:=I8.pins_of fun p hp=>I8.pin p (List.mem_append_right _ (List.mem_append_right _ hp))
    have I9:Inv (cxC X sc cl N' H2.objs.size s2 H fp) (pinsAt fp s5.heap) σ6 H8 { s8 with heap:=h9 }:=I8'.turned (t':=s8.toks) (it:=s2.heap.objs.size) (fun b o hb e=>(hs9.2 b hb).trans e) hDn hDL (.inr (Nat.le_refl _))
     (fun x c e z=>by
      obtain ⟨v,q⟩:=I2.cell x c (h1 x c e)
      have:=q.lt
      rw [z] at this
      exact absurd this (Nat.lt_irrefl _)) hDp
    have key:=fps I8
    refine ⟨m',hm,i + 1,ys++[y],its++[uy],k',σ6,H8,I9.pins_of fun p hp=>?_,T.keep _ _ _ key.1 fun b hb o e=>?_,key.2,rv.append (.cons r8 .nil),w8⟩
    ·have e:p=(s2.heap.objs.size,{ cls:=.type "list",data:=.seq (its++[uy]).toArray k' }):=by simpa using hp
     subst e
     refine ⟨?_,hDn,hDL,hDf,fun v z=>by cases z⟩
     have:(its++[uy]).toArray=its.toArray.push uy:=by simp
     rw [this]; exact hl9
    ·obtain ⟨_,ob,e2⟩:=fpo b hb
     exact (hs9.2 b (below b (Heap.lt_size e2)).2).trans e
 exact codeAny_compStart_list (loop _ rfl) (wpAny_mono (T.self X.A 0 _ (fun it' s'=>it'=.ref it∧s'={ s2 with heap:=h₁,toks:=s2.toks + ([]:List (Str × Value)).length }) _ st1 ⟨rfl,rfl⟩) (fun it' s' ⟨e1,e2⟩=>by subst e1 e2; exact loop _ rfl) fun _ _ z=>z)
def tComp (n:Nat) (fr:List Nat) (wi:TI) (g:TG) (tt:TT) (te:TE):TE:=fun σ H Q=>wi σ H fun J H1=>Comp J g tt te (fun ys H2=>∀ D,H2 D=none→Q (.ref D) (upd H2 D (.lst ys))) (cst n fr σ) H1
theorem zaqd (hc:X.calm=true) (cs:CompOk sc X.env.scope own X.N fr N') (hi:PI X tg iter wi) (hg:∀ cl C s H fp,PG (cxC X sc cl N' C s H fp) tg g) (hif:∀ cl C s H fp,PIf (cxC X sc cl N' C s H fp) ifs tt)
  (he:∀ cl C s H fp,PE (cxC X sc cl N' C s H fp) elt te) (hs:∀ x,foldedSetIterable iter X.env x=pure x:=by intro _; rfl):PE X (.ListComp elt [⟨tg,iter,ifs,0⟩] sc pos) (tComp own.length fr wi g tt te):=by
 intro pins s σ H Q I h
 obtain ⟨cl,ecl,h1,h2⟩:=zae7 (env:=X.env) (sc:=sc) fun y hy hf=>I.ok.has y.1 (cs.fre y hy hf)
 rw [eval_ListComp]
 refine wpAny_comprehension_free (use:=none) rfl hs ecl cs.kind cs.loc (thn (hi pins s σ H _ I h) fun v s1 q1=>thn q1 fun itv s2 q2=>?_)
 obtain ⟨it,fp,tn,J,H2,rfl,I2,T,st,f2,KK⟩:=q2
 refine zaf0 (RR:=fun acc C=>compPost (model X.prog X.w) X.A X.xe none (EP X pins σ Q) acc C) I2 (fun _ _ _ _ _=>hc) T.x st f2 cs h1 h2 hg hif he KK fun D C m H' ys s' hC hn hD hCn hq I'=>?_
 refine ⟨m,hn,fun h' hs'=>⟨.ref D,upd H' D (.lst ys),?_,rfl,hq D hD⟩⟩
 obtain ⟨f0,f1,f2,f3,f4,f5⟩:=I2.fpOk hC hCn
 exact I'.turned (t':=s'.toks) (it:=C) (fun b o hb e=>(hs'.2 b hb).trans e) f0 (Ne.symm (Ne.symm f1)) f3 f4 f5
def tSetC (i n:Nat) (fr:List Nat) (wi:TI) (g:TG) (tt:TT) (te:TE):TS:=fun D σ H=>wi σ H fun J H1=>Comp J g tt te (fun ys H2=>∀ p,H2 p=none→D.nx (σ.set i (some (.ref p))) (upd H2 p (.lst ys))) (cst n fr σ) H1
theorem zaqe {i:Nat}{y:Str}{py spos:Pos} (hN:X.N.Nodup) (hy:X.N[i]?=some y) (hx:Loc X.env.scope y) (hc:X.calm=true) (cs:CompOk sc X.env.scope own X.N fr N') (hi:PI X tg iter wi)
  (hg:∀ cl C s H fp,PG (cxC X sc cl N' C s H fp) tg g) (hif:∀ cl C s H fp,PIf (cxC X sc cl N' C s H fp) ifs tt) (he:∀ cl C s H fp,PE (cxC X sc cl N' C s H fp) elt te)
  (hsw:swapsWith (.ListComp elt [⟨tg,iter,ifs,0⟩] sc pos) (some (.Name y py)) spos.line X.env=pure true) (hfn:X.fn y=true∨X.env.scope.names.lookup y=some .local:=by first | exact .inl rfl | exact .inr rfl | assumption) (hs:∀ x,foldedSetIterable iter X.env x=pure x:=by intro _; rfl) :
  PS X (.Assign [.Name y py] (.ListComp elt [⟨tg,iter,ifs,0⟩] sc pos) spos) (tSetC i own.length fr wi g tt te):=by
 intro pins s σ H D I h
 obtain ⟨cl,ecl,h1,h2⟩:=zae7 (env:=X.env) (sc:=sc) fun y hy hf=>I.ok.has y.1 (cs.fre y hy hf)
 rw [exec_Assign_Name_used _ _ _ _ hsw]
 refine wpAny_bind (wpAny_standAt (wpAny_bind ?_))
 show wpAny _ X.A (do let _ ← comprehension (.ListComp elt [⟨tg,iter,ifs,0⟩] sc pos) sc X.env _ (newList []) false (eval iter X.env) (some (assign (.Name y py) X.env))) _ _ s
 refine wpAny_bind (wpAny_mono (wpAny_comprehension_free (use:=some (assign (.Name y py) X.env)) (Q:=fun _ s'=>∃ σ' H',Inv X pins σ' H' s'∧D.nx σ' H') rfl hs ecl cs.kind cs.loc (thn (hi pins s σ H _ I h) fun v s1 q1=>thn q1 fun itv s2 q2=>?_))
  (fun _ s' hq=>wpAny_pure (wpAny_pure hq)) fun _ _ e=>e)
 obtain ⟨it,fp,tn,J,H2,rfl,I2,T,st,f2,KK⟩:=q2
 refine zaf0 (RR:=fun acc C=>compPost (model X.prog X.w) X.A X.xe (some (assign (.Name y py) X.env)) (fun _ s'=>∃ σ' H',Inv X pins σ' H' s'∧D.nx σ' H') acc C) I2 (fun _ _ _ _ _=>hc) T.x st f2 cs h1 h2 hg hif he KK fun p C m H' ys s' hC hn hD hCn hq I'=>?_
 obtain ⟨f0,f1,f2,f3,f4,f5⟩:=I2.fpOk hC hCn
 show wpAny _ X.A (assign (.Name y py) X.env (.ref p)) _ _ _
 refine wpAny_assign_Name (zag2 (v:=.ref p) I' hN hy hx rfl (fun s'' I'' ⟨a,hsa,ha⟩=>?_) hfn)
 have hCa:C≠a:=by
  rcases ha with z | z
  ·rw [z]; exact f1
  ·exact Ne.symm (f4 y a z)
 refine ⟨m,hn.sameBut hsa hCa,fun h' hs'=>⟨_,_,?_,hq p hD⟩⟩
 exact I''.turned (t':=s''.toks) (it:=C) (fun b o hb e=>(hs'.2 b hb).trans e) f0 f1 f3 f4 f5
end
theorem zae8 {J:It}{g:TG}{tt:TT}{te:TE}{Q:List V→Hp→Prop}{σ:St}{H:Hp} (n:Nat) (Pv:Nat→List V→St→Hp→Prop) (h0:Pv 0 [] σ H) (hl:∀ i ys σ H,i≤n→Pv i ys σ H→ys.length < sizeLine)
  (go:∀ i ys σ H,i < n→Pv i ys σ H→J.go i H) (stop:∀ ys σ H,Pv n ys σ H→J.stop n H)
  (turn:∀ i ys σ H,i < n→Pv i ys σ H→∀ x H',J.yld i H x H'→g x σ H' fun σ2 H2=>tt σ2 H2 fun b H3=>if b=true then te σ2 H3 fun y H4=>Pv (i + 1) (ys++[y]) σ2 H4 else Pv (i + 1) ys σ2 H3)
  (after:∀ ys σ H,Pv n ys σ H→Q ys H):Comp J g tt te Q σ H:=by
 refine ⟨fun i m ys σ H=>i≤n∧m=n - i∧Pv i ys σ H,⟨n,Nat.zero_le _,rfl,h0⟩,fun i m ys σ H ⟨hi,hm,p⟩=>⟨hl i ys σ H hi p,?_⟩⟩
 rcases Nat.lt_or_ge i n with h | h
 ·exact .inr ⟨go i ys σ H h p,Pv (i + 1),fun ys' σ' H' q=>⟨n - (i + 1),by omega,h,rfl,q⟩,turn i ys σ H h p⟩
 ·have e:i=n:=Nat.le_antisymm hi h
  subst e
  exact .inl ⟨stop ys σ H p,after ys σ H p⟩
theorem zaj2 {lo:Int}{n:Nat}{g:TG}{tt:TT}{te:TE}{Q:List V→Hp→Prop}{σ:St}{H:Hp} (Pv:Nat→List V→St→Hp→Prop) (hn:n < sizeLine) (h0:Pv 0 [] σ H) (hl:∀ i ys σ H,i≤n→Pv i ys σ H→ys.length≤i)
  (turn:∀ i ys σ H,i < n→Pv i ys σ H→g (.int (lo + i)) σ H fun σ2 H2=>tt σ2 H2 fun b H3=>if b=true then te σ2 H3 fun y H4=>Pv (i + 1) (ys++[y]) σ2 H4 else Pv (i + 1) ys σ2 H3)
  (after:∀ ys σ H,Pv n ys σ H→Q ys H):Comp (Itr lo n) g tt te Q σ H :=
 zae8 n Pv h0 (fun i ys σ H hi p=>Nat.lt_of_le_of_lt (Nat.le_trans (hl i ys σ H hi p) hi) hn) (fun i _ _ _ hi _=>hi) (fun _ _ _ _=>Nat.le_refl _) (fun i ys σ H hi p x H' y=>by obtain ⟨rfl,rfl⟩:=y; exact turn i ys σ _ hi p) after
theorem zac8 {K:PySem.W.Frag}{a:Addr} (xs:List V) {g:TG}{tt:TT}{te:TE}{Q:List V→Hp→Prop}{σ:St}{H:Hp} (Pv:Nat→List V→St→Hp→Prop) (hn:xs.length < sizeLine) (h0:Pv 0 [] σ H) (hl:∀ i ys σ H,i≤xs.length→Pv i ys σ H→ys.length≤i∧SqL K H a xs)
  (turn:∀ i ys σ H x,xs[i]?=some x→Pv i ys σ H→g x σ H fun σ2 H2=>tt σ2 H2 fun b H3=>if b=true then te σ2 H3 fun y H4=>Pv (i + 1) (ys++[y]) σ2 H4 else Pv (i + 1) ys σ2 H3)
  (after:∀ ys σ H,Pv xs.length ys σ H→Q ys H):Comp (Itl K a) g tt te Q σ H :=
 zae8 xs.length Pv h0 (fun i ys σ H hi p=>Nat.lt_of_le_of_lt (Nat.le_trans (hl i ys σ H hi p).1 hi) hn) (fun i ys σ H hi p=>⟨xs,xs[i],(hl i ys σ H (Nat.le_of_lt hi) p).2,List.getElem?_eq_getElem hi⟩)
  (fun ys σ H p=>⟨xs,(hl _ ys σ H (Nat.le_refl _) p).2,Nat.le_refl _⟩) (fun i ys σ H hi p x H' y=>by obtain ⟨rfl,y⟩:=y; exact turn i ys σ _ x (y xs (hl i ys σ _ (Nat.le_of_lt hi) p).2) p) after
theorem zaeo {K:PySem.W.Frag}{a:Addr} (xs:List V) {g:TG}{tt:TT}{te:TE}{Q:List V→Hp→Prop}{σ:St}{H:Hp} (Pv:Nat→List V→St→Hp→Prop) (hn:xs.length < sizeLine) (h0:Pv 0 [] σ H) (hl:∀ i ys σ H,i≤xs.length→Pv i ys σ H→ys.length≤i∧SqT K H a xs)
  (turn:∀ i ys σ H x,xs[i]?=some x→Pv i ys σ H→g x σ H fun σ2 H2=>tt σ2 H2 fun b H3=>if b=true then te σ2 H3 fun y H4=>Pv (i + 1) (ys++[y]) σ2 H4 else Pv (i + 1) ys σ2 H3)
  (after:∀ ys σ H,Pv xs.length ys σ H→Q ys H):Comp (Itt K a) g tt te Q σ H :=
 zae8 xs.length Pv h0 (fun i ys σ H hi p=>Nat.lt_of_le_of_lt (Nat.le_trans (hl i ys σ H hi p).1 hi) hn) (fun i ys σ H hi p=>⟨xs,xs[i],(hl i ys σ H (Nat.le_of_lt hi) p).2,List.getElem?_eq_getElem hi⟩)
  (fun ys σ H p=>⟨xs,(hl _ ys σ H (Nat.le_refl _) p).2,Nat.le_refl _⟩) (fun i ys σ H hi p x H' y=>by obtain ⟨rfl,y⟩:=y; exact turn i ys σ _ x (y xs (hl i ys σ _ (Nat.le_of_lt hi) p).2) p) after
end L2

namespace L2
open PySem PySem.Spec PyProof.Rows
open AutoSeq1 (wpAny_loadPart') in
set_option maxHeartbeats 4000000 in
theorem zae9 (k:SK) (l:Addr) (xs:Array Value) :
  Meets (Builtin.«enumerate.__new__» ⟨[.type "enumerate",.ref l],[]⟩) (fun _ R s=>SIs k s.heap l xs ∧
   R (.ok (.ret (.ref (s.heap.push (itObj k l)).objs.size))) { s with heap:=(s.heap.push (itObj k l)).push { cls:=.type "enumerate",data:=.fields #[.none,.bool false,.ref s.heap.objs.size,rawInt 0,.none,.none] } }):=by
 cases k with
 | list =>
  exact .of_wp fun prog w A R s h=>by
   obtain ⟨hp,g,d,tk,os⟩:=s; obtain ⟨hL,h⟩:=h
   have hsub:=sub_enumerate
   have hL:Heap.IsList (Shared.heap ⟨hp,g,d,tk,os⟩) l xs:=hL
   obtain ⟨ol,hl,hlc,nl,hld⟩:=id hL
   wp_walk using wpAny_loadPart' hl
   refine wpAny_stack_any fun st=>wpAny_pure ?_
   split
   ·rename_i c _ _ _ _ _
    cases (c == Value.type "enumerate")
    ·wp_walk using wpAny_loadPart' hl,wpAny_pyIter_list hL
     exact ⟨_,rfl,h⟩
    ·wp_walk using wpAny_loadPart' hl,wpAny_pyIter_list hL
     exact ⟨_,rfl,h⟩
   ·wp_walk using wpAny_loadPart' hl,wpAny_pyIter_list hL
    exact ⟨_,rfl,h⟩
 | tuple =>
  exact .of_wp fun prog w A R s h=>by
   obtain ⟨hp,g,d,tk,os⟩:=s; obtain ⟨hL,h⟩:=h
   have hsub:=sub_enumerate
   have hL:Heap.IsTuple (Shared.heap ⟨hp,g,d,tk,os⟩) l xs:=hL
   obtain ⟨ol,hl,hlc,nl,hld⟩:=id hL
   wp_walk using wpAny_loadPart' hl
   refine wpAny_stack_any fun st=>wpAny_pure ?_
   split
   ·rename_i c _ _ _ _ _
    cases (c == Value.type "enumerate")
    ·wp_walk using wpAny_loadPart' hl,wpAny_pyIter_tuple hL
     exact ⟨_,rfl,h⟩
    ·wp_walk using wpAny_loadPart' hl,wpAny_pyIter_tuple hL
     exact ⟨_,rfl,h⟩
   ·wp_walk using wpAny_loadPart' hl,wpAny_pyIter_tuple hL
    exact ⟨_,rfl,h⟩
section
variable {prog:Program}{w:World}{A:Around}{E:Value→Shared→Prop}{s:Shared}
theorem zaj3 {k:SK}{l:Addr}{xs:Array Value}{Q:Value→Shared→Prop} (hL:SIs k s.heap l xs)
  (h:∀ h',IsEnum h' (s.heap.objs.size + 1) s.heap.objs.size 0 .none→SIt k h' s.heap.objs.size l 0→(∀ b o,s.heap.get? b=some o→h'.get? b=some o)→Q (.ref (s.heap.objs.size + 1)) { s with heap:=h' }) :
  wpAny (model prog w) A (call (.type "enumerate") [.ref l]) Q E s:=by
 refine callType_new F.called_enumerate (by decide) (F.typeCall_enumerate_1 _) (F.newCall_enumerate_1 _) (fun obj=>F.args_object_init_2 obj _) F.entry_enumerate_new (zae9 k l xs) ⟨hL,?_⟩
 have hz:(s.heap.push (itObj k l)).objs.size=s.heap.objs.size + 1:=Heap.size_push ..
 have r1:(itObj k l).isFreed=false:=by cases k <;> rfl
 have he:=Heap.get?_push_size (s.heap.push (itObj k l)) (o:={ cls:=.type "enumerate",data:=.fields #[.none,.bool false,.ref s.heap.objs.size,rawInt 0,.none,.none] }) rfl
 rw [hz] at he
 show _∧_
 rw [hz]
 exact ⟨⟨_,he,rfl⟩,h _ he (zaf9 (Heap.get?_push_of_some _ (Heap.get?_push_size _ r1))) fun b o x=>Heap.get?_push_of_some _ (Heap.get?_push_of_some _ x)⟩
theorem zaj4 {k:SK}{e it l:Addr}{i:Nat}{items:Array Value}{x old:Value}{Q:Value→Shared→Prop}
  (he:IsEnum s.heap e it i old) (hit:SIt k s.heap it l i) (hl:SIs k s.heap l items) (hx:items[i]?=some x) (hne:e≠it)
  (hQ:∀ h',IsEnumOut h' e it ((i:Int) + 1) x s.heap.objs.size→SIt k h' it l (i + 1) →
   h'.get? s.heap.objs.size=some { cls:=.type "tuple",data:=.seq #[.int i s.toks,x] }→h'.objs.size=s.heap.objs.size + 1 →
   (∀ b o,b≠e→b≠it→s.heap.get? b=some o→h'.get? b=some o)→Q (.ref s.heap.objs.size) { s with heap:=h',toks:=s.toks + 1 }) :
  wpAny (model prog w) A (Builtin.«enumerate.__next__» ⟨[.ref e],[]⟩) (fun fin s'=>∃ v,fin=.done (.ret v)∧Q v s') E s:=by
 obtain ⟨hp,g,d,tk,os⟩:=s
 show wpAny _ _ (field (.ref e) 2 >>= _) _ _ _
 refine wpAny_bind (wpAny_field he rfl (x:=.ref it) rfl ?_)
 refine wpAny_bind (zact hit hl hx fun h₁ hit₁ hs₁=>?_)
 replace hs₁:Heap.SameBut it hp h₁:=hs₁
 have he₁:IsEnum h₁ e it i old:=(hs₁.2 e hne).trans he
 show wpAny _ _ (field (.ref e) 3 >>= _) _ _ ⟨h₁,g,d,tk,os⟩
 refine wpAny_bind (wpAny_field he₁ rfl (x:=rawInt i) rfl ?_)
 show wpAny _ _ (field (.ref e) 4 >>= _) _ _ ⟨h₁,g,d,tk,os⟩
 refine wpAny_bind (wpAny_field he₁ rfl (x:=.none) rfl ?_)
 show wpAny _ _ (mkInt i >>= _) _ _ ⟨h₁,g,d,tk,os⟩
 refine wpAny_bind (wpAny_mkInt ?_)
 show wpAny _ _ (setField (.ref e) 3 (rawInt ((i:Int) + 1)) >>= _) _ _ ⟨h₁,g,d,tk + 1,os⟩
 refine wpAny_bind (wpAny_setField_rec he₁ (by simp) fun h₂ he₂ hs₂=>?_)
 replace hs₂:Heap.SameBut e h₁ h₂:=hs₂
 replace he₂:IsEnum h₂ e it ((i:Int) + 1) old:=he₂
 show wpAny _ _ (setField (.ref e) 4 .none >>= _) _ _ ⟨h₂,g,d,tk + 1,os⟩
 refine wpAny_bind (wpAny_setField_rec he₂ (by simp) fun h₃ he₃ hs₃=>?_)
 replace hs₃:Heap.SameBut e h₂ h₃:=hs₃
 replace he₃:IsEnum h₃ e it ((i:Int) + 1) old:=he₃
 show wpAny _ _ (newTuple [.int i tk,x] >>= _) _ _ ⟨h₃,g,d,tk + 1,os⟩
 refine wpAny_bind (wpAny_newTuple ?_)
 have he₄:IsEnum (h₃.push { cls:=.type "tuple",data:=.seq #[.int i tk,x] }) e it ((i:Int) + 1) old:=Heap.get?_push_of_some _ he₃
 generalize hh₄:h₃.push { cls:=.type "tuple",data:=.seq #[.int i tk,x] }=h₄ at he₄
 have hsz:h₃.objs.size=hp.objs.size:=by rw [hs₃.1,hs₂.1,hs₁.1]
 have hel:e < hp.objs.size:=Heap.lt_size he
 have ht₄:h₄.get? hp.objs.size=some { cls:=.type "tuple",data:=.seq #[.int i tk,x] }:=by rw [← hh₄,← hsz]; exact Heap.get?_push_size _ rfl
 have hz₄:h₄.objs.size=hp.objs.size + 1:=by rw [← hh₄,Heap.size_push,hsz]
 have hk₄:∀ b o,b≠e→b≠it→hp.get? b=some o→h₄.get? b=some o:=fun b o hbe hbi hb=>by
  rw [← hh₄]; exact Heap.get?_push_of_some _ (hs₃.extBut b o hbe (hs₂.extBut b o hbe (hs₁.extBut b o hbi hb)))
 have hit₄:SIt k h₄ it l (i + 1):=by
  rw [← hh₄]; exact ((hit₁.ext hs₂.extBut (Ne.symm hne)).ext hs₃.extBut (Ne.symm hne)).at fun o ho=>Heap.get?_push_of_some _ ho
 show wpAny _ _ (Builtin.SmallTypes.ownedTupleIsFree (.ref e) >>= _) _ _ ⟨h₄,g,d,tk + 1,os⟩
 rw [hsz]
 clear hh₄ he₃ hs₃ he₂ hs₂ he₁ hs₁ hit₁ hsz h₃ h₂ h₁
 refine wpAny_bind ?_
 ·unfold Builtin.SmallTypes.ownedTupleIsFree
  refine wpAny_bind (wpAny_field he₄ rfl (x:=.none) rfl (wpAny_pure ?_))
  simp only [if_true]
  refine wpAny_bind (wpAny_rule ?_)
  refine wpAny_bind (wpAny_field he₄ rfl (x:=old) rfl ?_)
  refine wpAny_bind (wpAny_setField_rec he₄ (by simp) fun h₅ he₅ hs₅=>?_)
  replace hs₅:Heap.SameBut e h₄ h₅:=hs₅
  replace he₅:IsEnum h₅ e it ((i:Int) + 1) x:=he₅
  show wpAny _ _ (Builtin.SmallTypes.ownedTupleHandOut (.ref e) (.ref hp.objs.size) >>= _) _ _ ⟨h₅,g,d,tk + 1,os⟩
  refine wpAny_bind ?_
  ·unfold Builtin.SmallTypes.ownedTupleHandOut
   refine wpAny_bind (wpAny_setField_rec he₅ (by simp) fun h₆ he₆ hs₆=>?_)
   replace hs₆:Heap.SameBut e h₅ h₆:=hs₆
   replace he₆:IsEnumOut h₆ e it ((i:Int) + 1) x hp.objs.size:=he₆
   refine wpAny_setField_rec he₆ (by simp) fun h₇ he₇ hs₇=>?_
   replace hs₇:Heap.SameBut e h₆ h₇:=hs₇
   replace he₇:IsEnumOut h₇ e it ((i:Int) + 1) x hp.objs.size:=he₇
   refine wpAny_bind (wpAny_letGo (wpAny_pure ⟨_,rfl,hQ h₇ he₇ ?_ ?_ ?_ ?_⟩))
   ·exact ((hit₄.ext hs₅.extBut (Ne.symm hne)).ext hs₆.extBut (Ne.symm hne)).ext hs₇.extBut (Ne.symm hne)
   ·exact hs₇.extBut _ _ (Nat.ne_of_gt hel) (hs₆.extBut _ _ (Nat.ne_of_gt hel) (hs₅.extBut _ _ (Nat.ne_of_gt hel) ht₄))
   ·rw [hs₇.1,hs₆.1,hs₅.1,hz₄]
   ·exact fun b o hbe hbi hb=>hs₇.extBut b o hbe (hs₆.extBut b o hbe (hs₅.extBut b o hbe (hk₄ b o hbe hbi hb)))
theorem zad8 {k:SK}{e it l:Addr}{i:Nat}{items:Array Value}{x old:Value}{Q:Option Value→Shared→Prop}
  (he:IsEnum s.heap e it i old) (hit:SIt k s.heap it l i) (hl:SIs k s.heap l items) (hx:items[i]?=some x) (hne:e≠it)
  (hQ:∀ h',IsEnumOut h' e it ((i:Int) + 1) x s.heap.objs.size→SIt k h' it l (i + 1) →
   h'.get? s.heap.objs.size=some { cls:=.type "tuple",data:=.seq #[.int i s.toks,x] }→h'.objs.size=s.heap.objs.size + 1 →
   (∀ b o,b≠e→b≠it→s.heap.get? b=some o→h'.get? b=some o)→Q (some (.ref s.heap.objs.size)) { s with heap:=h',toks:=s.toks + 1 }) :
  wpAny (model prog w) A (pyNext (.ref e)) Q E s:=by
 have hT:s.TypeIs (.ref e) "enumerate" := ⟨_,he,rfl⟩
 unfold pyNext
 exact wpAny_bind (wpAny_attempt (wpAny_callSpecial?_slot (name:=Str.ofString "__next__") hT F.slot_enumerate_next
  (wpAny_call_entry F.slot_enumerate_next hT F.entry_enumerate_next
   (zaj4 he hit hl hx hne fun h' a b c d k=>wpAny_pure (hQ h' a b c d k)) (F.args_enumerate_next_1 _))))
theorem zaek {k:SK}{e it l:Addr}{i:Nat}{items:Array Value}{old:Value}{Q:Option Value→Shared→Prop} (hh:A.handled=none)
  (he:IsEnum s.heap e it i old) (hit:SIt k s.heap it l i) (hl:SIs k s.heap l items) (hx:items[i]?=none)
  (hQ:∀ h',Heap.ExtBut it s.heap h'→Q none { s with heap:=h' }):wpAny (model prog w) A (pyNext (.ref e)) Q E s:=by
 have hT:s.TypeIs (.ref e) "enumerate" := ⟨_,he,rfl⟩
 unfold pyNext
 refine wpAny_bind (wpAny_attempt (wpAny_callSpecial?_slot (name:=Str.ofString "__next__") hT F.slot_enumerate_next
  (wpAny_call_entry F.slot_enumerate_next hT F.entry_enumerate_next ?_ (F.args_enumerate_next_1 _))))
 show wpAny _ _ (field (.ref e) 2 >>= _) _ _ _
 refine wpAny_bind (wpAny_field he rfl (x:=.ref it) rfl ?_)
 refine wpAny_bind (zad5 hh hit hl hx fun h' x he' hx'=>?_)
 obtain ⟨o,ho,hc⟩:=hx'
 refine wpAny_bind (wpAny_isInstance (T := "StopIteration") (b:=true) ⟨o,ho,hc⟩ isSubtype_stop ?_)
 exact wpAny_pure (hQ _ he')
end
def Itn (K:PySem.W.Frag) (k:SK) (a:Addr):It :=
 ⟨fun i H=>∃ xs x,Sq k K H a xs∧xs[i]?=some x,
  fun i H v H'=>∃ T,H T=none∧v=.ref T∧∀ xs,Sq k K H a xs→∃ x,xs[i]?=some x∧H'=upd H T (.tup [.int i,x]),
  fun i H=>∃ xs,Sq k K H a xs∧xs.length≤i⟩
theorem zalb {P:Program}{w:World}{K:PySem.W.Frag}{elts:List Expr}{kk:Nat}{tpos:Pos}{k:SK}{e it a:Addr} (hne:e≠it) :
  Turn P w K (.Tuple elts kk tpos) (Itn K k a) [e,it] e (fun i h=>(∃ old,IsEnum h e it i old)∧SIt k h it a i) where
 mem:=by simp
 obj:=fun i h st b hb=>by
  obtain ⟨⟨old,he⟩,h1⟩:=st
  simp only [List.mem_cons,List.not_mem_nil,or_false] at hb
  rcases hb with rfl | rfl
  ·exact ⟨_,he,fun v q=>nomatch q⟩
  ·exact h1.obj
 keep:=fun i h h' st k=>by
  obtain ⟨⟨old,he⟩,h1⟩:=st
  exact ⟨⟨old,k _ (by simp) _ he⟩,h1.at fun o e=>k _ (by simp) o e⟩
 item:=by
  intro X hP hw hK hc i pins s σ H E I hf st hg
  subst hP hw hK
  obtain ⟨⟨old,he⟩,h1⟩:=st
  obtain ⟨xs,x,q1,hx⟩:=hg
  obtain ⟨ix,rx,px⟩:=I.sis q1
  obtain ⟨u,hu,ru⟩:=rx.get hx
  refine zad8 he h1 px (x:=u) (by simpa using hu) hne fun h' a1 a2 a3 a4 a5=>?_
  refine ⟨_,rfl,wpAny_letOwnedTupleGo_enum (s:={ s with heap:=h',toks:=s.toks + 1 }) a1 fun h'' b1 b2=>?_⟩
  have elt:e < s.heap.objs.size:=Heap.lt_size he
  have ilt:it < s.heap.objs.size:=by obtain ⟨o,ho,_⟩:=h1.obj; exact Heap.lt_size ho
  have k2:∀ c o,c ∉ [e,it]→s.heap.get? c=some o→h''.get? c=some o:=fun c o hc ec=>by
   simp only [List.mem_cons,List.not_mem_nil,or_false,not_or] at hc
   exact b2.extBut _ _ hc.1 (a5 c o hc.1 hc.2 ec)
  have hT2:h''.get? s.heap.objs.size=some { cls:=.type "tuple",data:=.seq #[.int i s.toks,u] }:=b2.extBut _ _ (Nat.ne_of_gt elt) a3
  refine ⟨.ref s.heap.objs.size,upd H s.heap.objs.size (.tup [.int i,x]),I.turnedNew (t':=s.toks + 1) (o:=.tup [.int i,x]) k2 hf (Nat.le_refl _)
   ⟨by show 2≤sizeLine; decide,[.int i s.toks,u],.cons ⟨_,rfl⟩ (.cons ru .nil),⟨_,hT2,rfl,_,rfl⟩⟩,rfl,
   ⟨_,I.hok.fresh (Nat.le_refl _),rfl,fun xs' e1=>?_⟩,⟨⟨u,by simpa using b1⟩,a2.at fun o eo=>b2.extBut _ _ (Ne.symm hne) eo⟩,fun b hb=>?_⟩
  ·rw [I.sq_inj e1 q1]
   exact ⟨x,hx,rfl⟩
  ·have blt:b < s.heap.objs.size:=by
    simp only [List.mem_cons,List.not_mem_nil,or_false] at hb
    rcases hb with rfl | rfl
    ·exact elt
    ·exact ilt
   rw [zaa5 (Nat.ne_of_lt blt)]
   exact (hf b hb).1
 done:=by
  intro X hP hw hK hc i pins s σ H E I hf st hg
  subst hP hw hK
  obtain ⟨⟨old,he⟩,h1⟩:=st
  obtain ⟨xs,q1,hl⟩:=hg
  obtain ⟨ix,rx,px⟩:=I.sis q1
  have l1:=rx.length
  refine zaek (I.ok.hd hc) he h1 px (by simp; omega) fun h' hk=>⟨rfl,I.turnedL (t':=s.toks) (its:=[e,it]) (fun b o hb eb=>?_) hf⟩
  simp only [List.mem_cons,List.not_mem_nil,or_false,not_or] at hb
  exact hk b o hb.2 eb
 self:=fun _ _ _ _ _ st h=>by
  obtain ⟨⟨old,he⟩,_⟩:=st
  exact wpAny_pyIter_enum he h
section
variable {X:Cx}{elts:List Expr}{kk:Nat}{tpos:Pos}
def iEnum (K:PySem.W.Frag) (k:SK) (ta:TA):TI:=fun σ H R=>ta σ H fun vs H1=>∃ a,vs=[.ref a]∧(∃ xs,Sq k K H1 a xs)∧R (Itn K k a) H1
theorem zaqf (k:SK) {a:Expr}{ta:TA}{p pos:Pos} (hg:Gl X "enumerate") (hm:X.mg "enumerate" = none) (ha:PA X [a] ta) (hs:starEach [a] X.env=[(false,eval a X.env)]:=by rfl) :
  PI X (.Tuple elts kk tpos) (.Call (.Name "enumerate" p) [a] [] pos) (iEnum X.K k ta):=by
 intro pins s σ H R I h
 refine Call_ (zadp I hg hm PyProof.Rows.Boot.«enumerate» (PyProof.Rows.callWith_type1 (thn (ha pos pins s σ H _ I h) fun us s1 ⟨vs,H1,I1,r1,q1⟩=>?_) hs rfl))
 obtain ⟨a',e,⟨xs,qx⟩,q⟩:=q1
 subst e
 cases r1 with
 | cons r rr =>
  cases rr
  cases r
  obtain ⟨ix,rx,px⟩:=I1.sis qx
  refine zaj3 px fun h' b1 b2 b3=>wpAny_pyIter_enum (s:={ s1 with heap:=h' }) b1 ?_
  have nn:∀ b,s1.heap.objs.size≤b→FpOk X pins H1 b:=fun b hb=>I1.fpOk hb (I1.hok.fresh hb)
  refine ⟨_,[s1.heap.objs.size + 1,s1.heap.objs.size],_,_,H1,rfl,I1.kept (t':=s1.toks) b3,zalb (k:=k) (Nat.ne_of_gt (Nat.lt_succ_self _)),⟨⟨_,b1⟩,b2⟩,fun b hb=>?_,q⟩
  simp only [List.mem_cons,List.not_mem_nil,or_false] at hb
  rcases hb with rfl | rfl
  ·exact nn _ (Nat.le_succ _)
  ·exact nn _ (Nat.le_refl _)
end
theorem zahh {K:PySem.W.Frag}{k:SK}{a:Addr}{xs:List V}{g:TG}{tb:TS}{D:Ends}{σ:St}{H:Hp} (Pv:Nat→St→Hp→Prop) (h0:Pv 0 σ H)
  (hl:∀ i σ H,i≤xs.length→Pv i σ H→Sq k K H a xs)
  (hs:∀ i x σ H T,xs[i]?=some x→Pv i σ H→H T=none→g (.ref T) σ (upd H T (.tup [.int i,x])) fun σ2 H2=>tb { D with nx:=Pv (i + 1),ct:=Pv (i + 1),bk:=D.nx } σ2 H2)
  (hd:∀ σ H,Pv xs.length σ H→D.nx σ H):Loop (Itn K k a) g tb D σ H:=by
 refine ⟨fun i m σ H=>m=xs.length - i∧i≤xs.length∧Pv i σ H,⟨xs.length,by simp,Nat.zero_le _,h0⟩,?_⟩
 rintro i m σ H ⟨rfl,hi,p⟩
 have q1:=hl i σ H hi p
 by_cases hlt:i < xs.length
 ·refine .inr ⟨⟨xs,xs[i],q1,by simp [hlt]⟩,Pv (i + 1),fun σ' H' p'=>⟨xs.length - (i + 1),by omega,rfl,hlt,p'⟩,fun x H' y=>?_⟩
  obtain ⟨T,hT,rfl,y⟩:=y
  obtain ⟨u,e1,rfl⟩:=y xs q1
  exact hs i u σ H T e1 p hT
 ·have e:i=xs.length:=by omega
  refine .inl ⟨⟨xs,q1,by omega⟩,?_⟩
  subst e
  exact hd σ H p
theorem zalc {K:PySem.W.Frag}{k:SK}{a:Addr} (xs:List V) {g:TG}{tt:TT}{te:TE}{Q:List V→Hp→Prop}{σ:St}{H:Hp} (Pv:Nat→List V→St→Hp→Prop) (hn:xs.length < sizeLine) (h0:Pv 0 [] σ H) (hl:∀ i ys σ H,i≤xs.length→Pv i ys σ H→ys.length≤i∧Sq k K H a xs)
  (turn:∀ i ys σ H x T,xs[i]?=some x→Pv i ys σ H→H T=none→g (.ref T) σ (upd H T (.tup [.int i,x])) fun σ2 H2=>tt σ2 H2 fun b H3=>if b=true then te σ2 H3 fun y H4=>Pv (i + 1) (ys++[y]) σ2 H4 else Pv (i + 1) ys σ2 H3)
  (after:∀ ys σ H,Pv xs.length ys σ H→Q ys H):Comp (Itn K k a) g tt te Q σ H :=
 zae8 xs.length Pv h0 (fun i ys σ H hi p=>Nat.lt_of_le_of_lt (Nat.le_trans (hl i ys σ H hi p).1 hi) hn) (fun i ys σ H hi p=>⟨xs,xs[i],(hl i ys σ H (Nat.le_of_lt hi) p).2,List.getElem?_eq_getElem hi⟩)
  (fun ys σ H p=>⟨xs,(hl _ ys σ H (Nat.le_refl _) p).2,Nat.le_refl _⟩) (fun i ys σ H hi p x H' y=>by
   obtain ⟨T,hT,rfl,y⟩:=y
   obtain ⟨u,e1,rfl⟩:=y xs (hl i ys σ _ (Nat.le_of_lt hi) p).2
   exact turn i ys σ _ u T e1 p hT) after
end L2

namespace L2
open PySem PySem.Spec PyProof.Rows
theorem zad9:typeLookup (.type "list") "__getattr__" = pure none:=by rw [typeLookup_type,builtinLookup_eq_fast]; kernel_rfl
theorem zafs:typeLookup (.type "list") "keys" = pure none:=by rw [typeLookup_type,builtinLookup_eq_fast]; kernel_rfl
set_option maxHeartbeats 4000000 in
theorem zafa (a:Addr) (its:Array Value) (n:Nat) (name:Str) (u:Tok) (hmiss:typeLookup (.type "list") name=pure none) (hns:[Str.ofString "__module__",Str.ofString "__name__",Str.ofString "__qualname__",Str.ofString "__doc__",Str.ofString "__annotations__"].contains name=false) (hsz:name.length + 100≤sizeLine:=by size_fits) :
  Meets (Builtin.«object.__getattribute__» ⟨[.ref a,.str name u],[]⟩) (fun A R s=>s.heap.get? a=some { cls:=.type "list",data:=.seq its n }∧raisesAttr (.ref a) name A R s) :=
 Meets.of_wp fun prog w A R s hs=>by
  obtain ⟨hp,g,d,tk,os⟩:=s
  obtain ⟨ha,hs⟩:=hs
  have hT:(⟨hp,g,d,tk,os⟩:Shared).TypeIs (.ref a) "list" := ⟨_,ha,rfl⟩
  unfold Builtin.«object.__getattribute__»
  repeat (any_goals (first | assumption | wp_step))
  rw [if_neg (by rw [hns]; exact Bool.false_ne_true)]
  repeat (any_goals (first | assumption | wp_step))
  exact wpAny_raiseAttrError hs.1 hs.2 (attrMsg_fits (by decide +kernel) hsz)
section
variable {prog:Program}{w:World}{A:Around}{E:Value→Shared→Prop}{s:Shared}
set_option maxHeartbeats 4000000 in
theorem zaft {a:Addr}{its:Array Value}{n:Nat}{name:Str}{Q:Option Value→Shared→Prop} (hmiss:typeLookup (.type "list") name=pure none) (hns:[Str.ofString "__module__",Str.ofString "__name__",Str.ofString "__qualname__",Str.ofString "__doc__",Str.ofString "__annotations__"].contains name=false) (hA:A.handled=none) (ha:s.heap.get? a=some { cls:=.type "list",data:=.seq its n })
  (h:∀ h' tk,(∀ b o,s.heap.get? b=some o→h'.get? b=some o)→Q none { s with heap:=h',toks:=tk }) (hsz:name.length + 100≤sizeLine:=by size_fits) :
  wpAny (model prog w) A (getAttr? (.ref a) name) Q E s:=by
 obtain ⟨hp,g,d,tk,os⟩:=s
 have hT:∀ t',(⟨hp,g,d,t',os⟩:Shared).TypeIs (.ref a) "list" := fun _=>⟨_,ha,rfl⟩
 have f1:=sub_AttributeError
 have f3:=F.slot_list_getattribute.lookup
 have f4:=F.slot_list_getattribute.bind (.ref a)
 have f5:=zad9
 unfold getAttr? getAttrBy? getAttrBy
 repeat (any_goals (first | assumption | exact hT _ | ((with_reducible show wpAny _ _ (call (Value.builtin "list.__getattribute__") _ _) _ _ _); refine call_meets F.slot_list_getattribute (hT _) F.entry_list_ga (F.args_list_getattribute_2 _ _) (zafa a its n name _ hmiss hns hsz) ⟨ha,hA,fun h' tk' e hx=>?_⟩) | wp_step))
 obtain ⟨t',u',he⟩:=hx.there
 show wpAny _ _ (getattributeRaised _ _ _ _ _ _ _) _ _ _
 unfold getattributeRaised
 repeat (any_goals (first | assumption | wp_step))
 exact h _ _ fun b o hb=>hx.keeps b o hb
end
theorem zahi:entryFor table "dict.update.loop" = some Builtin.«dict.update.loop»:=entryFor_of_tree (by kernel_rfl)
theorem zadw:plainId "dict.update.loop" = true:=by decide +kernel
section
variable {prog:Program}{w:World}{K:Type} [DecidableEq K] {knd:KeyKind prog w K}{A:Around}{R:Result→Shared→Prop}
theorem zald {d I l:Addr}{items:Array Value}{ps:List (K × Value)} (hh:A.handled=none) (hdI:d≠I) (hld:l≠d) (hlI:l≠I) (hn:items.size=ps.length) (hsz:ps.length≤sizeLine) :
  ∀ (k i:Nat) (s:Shared) (acc:List (K × Value)),ps.length - i=k→i≤ps.length→acc.length≤i→s.heap.IsListIter I l i→s.heap.IsList l items→s.heap.DictOf knd d acc →
  (∀ (j:Nat) (kv:K × Value),ps[j]?=some kv→∃ (t:Addr) (key:Value),items[j]?=some (Value.ref t)∧s.heap.IsTuple t #[key,kv.2]∧knd.is kv.1 key=true∧t≠d∧t≠I) →
  (∀ h' tk,h'.DictOf knd d (merged acc (ps.drop i))→(∀ b o,b≠d→b≠I→s.heap.get? b=some o→h'.get? b=some o)→R (.ok (.ret .none)) { s with heap:=h',toks:=tk }) →
  codeAny (model prog w) A (.builtin "dict.update.loop" ⟨[.ref d,.ref I,rawInt i,.none],[]⟩) R s:=by
 intro k
 induction k with
 | zero =>
  intro i s acc hk hi hacc hit hl hd hp hR
  refine codeAny_builtin zahi ?_
  rw [Around.under_plainId zadw _]
  show wpAny _ A.in1 (pyNext (.ref I) >>= _) _ _ s
  refine wpAny_bind (wpAny_pyNext_list_end (A:=A.in1) hh hit hl (by simp; omega) fun h₁ he₁=>?_)
  show wpAny _ _ (Builtin.Dict.addKeywords d [] >>= _) _ _ _
  refine wpAny_bind (wpAny_pure (wpAny_pure ?_))
  have:=hR h₁ s.toks (by rw [List.drop_of_length_le (by omega)]; exact hd.extBut he₁ hdI) (fun b o hb hbI e=>he₁ b o hbI e)
  exact this
 | succ k ih =>
  intro i s acc hk hi hacc hit hl hd hp hR
  have hlt:i < ps.length:=by omega
  obtain ⟨t,key,hx,ht,hkey,htd,htI⟩:=hp i ps[i] (List.getElem?_eq_getElem hlt)
  refine codeAny_builtin zahi ?_
  rw [Around.under_plainId zadw _]
  show wpAny _ A.in1 (pyNext (.ref I) >>= _) _ _ s
  refine wpAny_bind (wpAny_pyNext_list_item hit hl hx fun h₁ hit₁ hs₁=>?_)
  have ht₁:h₁.IsTuple t #[key,ps[i].2]:=let ⟨o,ho,r⟩:=ht; ⟨o,(hs₁.2 t htI).trans ho,r⟩
  have hd₁:h₁.DictOf knd d acc:=hd.sameBut hs₁ hdI
  refine wpAny_bind (wpAny_holding ?_)
  obtain ⟨ot,hot,hotc,nt,hotd⟩:=id ht₁
  refine wpAny_bind (wpAny_tryCatch ?_)
  unfold Builtin.Dict.pairItems
  refine wpAny_bind (wpAny_typeOf (T := "tuple") (⟨ot,hot,hotc⟩:Shared.TypeIs _ (.ref t) "tuple") ?_)
  rw [if_pos (by decide)]
  refine wpAny_bind (wpAny_seqItems hot hotd (wpAny_pure ?_))
  show wpAny _ _ (holding [key,ps[i].2] (dictSet d key ps[i].2)) _ _ _
  refine wpAny_holding (wpAny_dictSet_pairs (hsz:=by omega) hkey hd₁ fun h₂ hd₂ hs₂=>wpAny_pure ?_)
  refine ⟨plainId_quiet zadw _,?_⟩
  have up:∀ b o,b≠d→b≠I→s.heap.get? b=some o→h₂.get? b=some o:=fun b o hb hbI e=>(hs₂.2 b hb).trans ((hs₁.2 b hbI).trans e)
  have e1:(i:Int) + 1=((i + 1:Nat):Int):=by omega
  have:=ih (i + 1) { s with heap:=h₂,toks:=s.toks + 1 } (stored acc ps[i].1 ps[i].2) (by omega) hlt (Nat.le_trans (stored_length_le ..) (by omega)) (hit₁.extBut hs₂.extBut (Ne.symm hdI))
   (let ⟨o,ho,r⟩:=hl; ⟨o,up l o hld hlI ho,r⟩) hd₂ (fun j kv hj=>by
    obtain ⟨t',key',a1,⟨o,ho,r⟩,a3,a4,a5⟩:=hp j kv hj
    exact ⟨t',key',a1,⟨o,up t' o a4 a5 ho,r⟩,a3,a4,a5⟩) (fun h' tk hm hk'=>by
    have:=hR h' tk (by
     rw [List.drop_eq_getElem_cons hlt]
     exact hm) fun b o hb hbI e=>hk' b o hb hbI (up b o hb hbI e)
    exact this)
  rw [← e1] at this
  exact this
end
section
variable {prog:Program}{w:World}{K:Type} [DecidableEq K] {knd:KeyKind prog w K}{A:Around}{E:Value→Shared→Prop}{s:Shared}
theorem zafb {l:Addr}{items:List Value}{n:Nat}{ps:List (K × Value)}{Q:Value→Shared→Prop} (hh:A.handled=none) (hl:s.heap.get? l=some { cls:=.type "list",data:=.seq items.toArray n })
  (hn:items.length=ps.length) (hsz:ps.length≤sizeLine) (hp:∀ (j:Nat) (kv:K × Value),ps[j]?=some kv→∃ (t:Addr) (key:Value),items[j]?=some (Value.ref t)∧s.heap.IsTuple t #[key,kv.2]∧knd.is kv.1 key=true)
  (h:∀ h' tk,h'.DictOf knd s.heap.objs.size (merged [] ps)→(∀ b o,s.heap.get? b=some o→h'.get? b=some o)→Q (.ref s.heap.objs.size) { s with heap:=h',toks:=tk }) :
  wpAny (model prog w) A (call (.type "dict") [.ref l]) Q E s:=by
 refine callType_codes (Q₁:=fun obj s₁=>obj=.ref s.heap.objs.size∧s₁={ s with heap:=s.heap.push { cls:=.type "dict",data:=.dict #[] } }) F.kt_called_dict (F.kt_typeCall_dict_1 _) F.entry_dict_init (kt_code_dict_new _ ⟨rfl,rfl⟩) ?_
 rintro obj s₁ ⟨rfl,rfl⟩
 have hnew:(s.heap.push { cls:=.type "dict",data:=.dict #[] }).DictOf knd s.heap.objs.size []:=Heap.DictOf.new s.heap
 have hl':(s.heap.push { cls:=.type "dict",data:=.dict #[] }).get? l=some { cls:=.type "list",data:=.seq items.toArray n }:=Heap.get?_push_of_some _ hl
 refine ⟨hnew.typeIs,F.args_dict_init_2 _ _,?_⟩
 unfold Builtin.«dict.__init__»
 refine wpAny_bind ?_
 unfold Builtin.Dict.selfAndRest
 refine wpAny_bind (wpAny_notOrdered_dict hnew.typeIs ?_)
 show wpAny _ _ (pure (s.heap.objs.size,[Value.ref l])) _ _ _
 refine wpAny_pure ?_
 show wpAny _ _ (Builtin.Dict.updateFrom "dict.__init__" s.heap.objs.size (.ref l) [] .none) _ _ _
 unfold Builtin.Dict.updateFrom
 refine wpAny_bind (wpAny_typeOf (T := "list") (⟨_,hl',rfl⟩:Shared.TypeIs _ (.ref l) "list") ?_)
 rw [if_pos (by decide)]
 refine wpAny_bind (zaft (name := "keys") zafs (by decide +kernel) ?_ hl' fun h₁ tk₁ k₁=>?_)
 ·first | exact hh | (show A.in1.handled=none; exact hh)
 rw [if_pos (show (none:Option Value).isNone=true from rfl)]
 refine wpAny_bind (wpAny_rule ?_)
 have hl₁:h₁.IsList l items.toArray:=⟨_,k₁ _ _ hl',rfl,n,rfl⟩
 refine wpAny_bind (wpAny_pyIter_list (s:={ s with heap:=h₁,toks:=tk₁ }) hl₁ ?_)
 have szd:s.heap.objs.size < h₁.objs.size:=by
  obtain ⟨o,_,_,ho,_⟩:=hnew
  exact Heap.lt_size (k₁ _ _ ho)
 have lsz:l < s.heap.objs.size:=Heap.lt_size hl
 have old:∀ b o,s.heap.get? b=some o→(h₁.push { cls:=.type "list_iterator",data:=.fields #[.ref l,.int 0 0] }).get? b=some o:=fun b o e=>Heap.get?_push_of_some _ (k₁ b o (Heap.get?_push_of_some _ e))
 refine wpAny_pure ⟨plainId_quiet zadw _,?_⟩
 refine zald (knd:=knd) (d:=s.heap.objs.size) (I:=h₁.objs.size) (l:=l) (items:=items.toArray) (ps:=ps) (A:=A.in1) hh (Nat.ne_of_lt szd) (Nat.ne_of_lt lsz) (Nat.ne_of_lt (Nat.lt_trans lsz szd)) (by simpa using hn) hsz ps.length 0 _ [] rfl (Nat.zero_le _) (Nat.le_refl _)
  ⟨_,Heap.get?_push_size _ rfl,rfl,rfl⟩ ⟨_,Heap.get?_push_of_some _ (k₁ _ _ hl'),rfl,n,rfl⟩ (let ⟨o,es,ep,ho,r⟩:=hnew; ⟨o,es,ep,Heap.get?_push_of_some _ (k₁ _ _ ho),r⟩) (fun j kv hj=>?_) (fun h' tk hm hk=>?_)
 ·obtain ⟨t,key,a1,⟨o,ho,r⟩,a3⟩:=hp j kv hj
  have tlt:=Heap.lt_size ho
  exact ⟨t,key,by simpa using a1,⟨o,old t o ho,r⟩,a3,Nat.ne_of_lt tlt,Nat.ne_of_lt (Nat.lt_trans tlt szd)⟩
 ·exact ⟨rfl,h h' tk hm fun b o e=>hk b o (Nat.ne_of_lt (Heap.lt_size e)) (Nat.ne_of_lt (Nat.lt_trans (Heap.lt_size e) szd)) (old b o e)⟩
end
end L2

namespace L2
open PySem PySem.Spec PyProof.Rows
section
variable {X:Cx}
theorem zale {P:Program}{w:World}{k:Key}{u:Value} (r:RelV (kV k) u):(mixKind P w).is k u=true:=zafq r
theorem zaii {prog:Program}{w:World}{A:Around}{bs:List Bool}:TruthOf prog w A (fun i v=>(bs.map fun b=>Value.bool b).toArray[i]?=some v) (fun i=>bs.getD i false):=by
 intro i v s Q E hP hQ
 have hP':(bs.map fun b=>Value.bool b)[i]?=some v:=by simpa using hP
 rw [List.getElem?_map] at hP'
 cases e:bs[i]? with
 | none=>rw [e] at hP'; cases hP'
 | some b =>
  rw [e] at hP'
  cases hP'
  have:bs.getD i false=b:=by rw [List.getD_eq_getElem?_getD,e]; rfl
  have hQ:Q (bs.getD i false) s:=hQ
  rw [this] at hQ
  exact wpAny_pure hQ
theorem zalf (bs:List Bool):((List.range bs.length).all fun i=>bs.getD i false)=bs.all id:=by
 rw [Bool.eq_iff_iff,List.all_eq_true,List.all_eq_true]
 constructor
 ·intro h b hb
  obtain ⟨i,hi,rfl⟩:=List.mem_iff_getElem.mp hb
  have:=h i (List.mem_range.mpr hi)
  rw [List.getD_eq_getElem?_getD,List.getElem?_eq_getElem hi] at this
  exact this
 ·intro h i hi
  have hi:=List.mem_range.mp hi
  rw [List.getD_eq_getElem?_getD,List.getElem?_eq_getElem hi]
  exact h _ (List.getElem_mem hi)
theorem zaf1:∀ {bs:List Bool}{its:List Value},Vals (bs.map V.bl) its→its=bs.map fun b=>Value.bool b
 | [],_,.nil=>rfl
 | b :: bs,_,.cons r t=>by rw [List.map_cons,zaf1 t]; cases r; rfl
theorem zage (hc:X.calm=true):CallR X (.builtin "all") (fun xs H Q=>∃ (p:Addr) (bs:List Bool),xs=[.ref p]∧H p=some (.lst (bs.map V.bl))∧Q (.bl (bs.all id)) H):=by
 intro pins s σ H xs us Q I r h
 obtain ⟨p,bs,rfl,hp,q⟩:=h
 obtain ⟨u,rfl,ru⟩:=vals1 r
 cases ru
 obtain ⟨z,its,n,rv,e⟩:=I.hok p _ hp
 have ei:=zaf1 rv
 subst ei
 have hl:s.heap.IsList p (bs.map fun b=>Value.bool b).toArray:=⟨_,e,rfl,n,rfl⟩
 refine call_all_walk (wpAny_pyIter_list hl ?_)
 have hne:p≠s.heap.objs.size:=Nat.ne_of_lt (Heap.lt_size e)
 refine ⟨s.heap.objs.size,_,_,_,_,_,_,rfl,Walks.list (by first | exact I.ok.hd hc | (show X.A.in1.handled=none; exact I.ok.hd hc)) s.heap.objs.size p hne (bs.map fun b=>Value.bool b).toArray,
  ⟨⟨_,Heap.get?_push_size _ rfl,rfl,rfl⟩,⟨_,Heap.get?_push_of_some _ e,rfl,n,rfl⟩⟩,zaii,fun h' tk hk=>?_⟩
 have sz:(bs.map fun b=>Value.bool b).toArray.size=bs.length:=by simp
 rw [sz,zalf]
 exact ⟨.bl (bs.all id),H,I.kept (t':=tk) fun b o eb=>hk b o (by simp; exact Nat.ne_of_lt (Heap.lt_size eb)) (Heap.get?_push_of_some _ eb),rfl,q⟩
end
end L2

namespace L2
open PySem PySem.Spec PyProof.Rows
example (K:PySem.W.Frag):PySem.W.kitAny K (.type "list") [.type "list",.type "tuple"]=some true:=rfl
example (K:PySem.W.Frag):PySem.W.kitAny K (.type "tuple") [.type "list",.type "tuple"]=some true:=rfl
example (K:PySem.W.Frag):PySem.W.kitAny K (.type "int") [.type "list",.type "tuple"]=some false:=rfl
end L2

namespace L2
open PySem PySem.Spec PyProof.Rows
structure MakeOk (P:Program) (w:World) (K:PySem.W.Frag) (mg:Str→Option Value) (base:Heap) (CX:CXT) (k:Nat) (C:Addr) (x:Str) (ps:List Str) (sp:Sp):Prop where
 ex:∃ (f:Addr) (fd:FuncData),FnOk P w K mg base CX k f fd ps sp∧Binds K fd ps []∧Mk K C f∧mg x=some (.ref C)
theorem MakeOk.mono {P:Program}{w:World}{K:PySem.W.Frag}{mg:Str→Option Value}{base:Heap}{CX:CXT}{j k:Nat}{C:Addr}{x:Str}{ps:List Str}{sp:Sp} (D:MakeOk P w K mg base CX j C x ps sp) (h:j≤k):MakeOk P w K mg base CX k C x ps sp:=by
 obtain ⟨f,fd,F,b⟩:=D.ex
 exact ⟨f,fd,F.mono h,b⟩
section
variable {X:Cx}{CX:CXT}{k:Nat}{C:Addr}{ps:List Str}{sp:Sp}{E:XK}{x m:Str}{p pos apos:Pos}{e o:Expr}{es:List Expr}{ta:TE}{t:TA}
theorem zahj (D:MakeOk X.prog X.w X.K X.mg X.base CX k C x ps sp) (hr:Room (k + 1) X.A) (hg:Gl X x) (hx:Passes CX X E)
  (ha:Pr (PA X (e :: es) t)) (hdb:(x == ("__debug__" : Str))=false:=by decide) (he:starEach (e :: es) X.env=(false,eval e X.env) :: starEach es X.env:=by rfl) (hpl:(backTo pos (starEach es X.env)).any (·.1)=false:=by rfl) :
  Pr (PE X (.Call (.Name x p) (e :: es) [] pos) (tMake C sp [] E t)):=by
 obtain ⟨f,fd,F,b,M,hm⟩:=D.ex
 exact ⟨zapw M F hr hg hm b .nil hx ha.h hdb he hpl⟩
end
section
variable {X:Cx}{sc:Scope}{own:List Str}{fr:List Nat}{N':List Str}{tg elt iter:Expr}{ifs:List Expr}{g:TG}{tt:TT}{te:TE}{wi:TI}{pos:Pos}
theorem zacd:Pr (PIf X [] tYes):=⟨zaqb⟩
theorem zaep {c:Expr}{t:TT} (h:Pr (PT X c t)):Pr (PIf X [c] t):=⟨zaqc h.h⟩
theorem zab1 (hc:X.calm=true) (cs:CompOk sc X.env.scope own X.N fr N') (hi:Pr (PI X tg iter wi)) (hg:∀ cl C s H fp,Pr (PG (cxC X sc cl N' C s H fp) tg g)) (hif:∀ cl C s H fp,Pr (PIf (cxC X sc cl N' C s H fp) ifs tt))
  (he:∀ cl C s H fp,Pr (PE (cxC X sc cl N' C s H fp) elt te)) (hs:∀ x,foldedSetIterable iter X.env x=pure x:=by intro _; rfl):Pr (PE X (.ListComp elt [⟨tg,iter,ifs,0⟩] sc pos) (tComp own.length fr wi g tt te)) :=
 ⟨zaqd hc cs hi.h (fun a b c d e=>(hg a b c d e).h) (fun a b c d e=>(hif a b c d e).h) (fun a b c d e=>(he a b c d e).h) hs⟩
theorem zan4 {i:Nat}{y:Str}{py spos:Pos} (hN:X.N.Nodup) (hy:X.N[i]?=some y) (hx:Loc X.env.scope y) (hc:X.calm=true) (cs:CompOk sc X.env.scope own X.N fr N') (hi:Pr (PI X tg iter wi))
  (hg:∀ cl C s H fp,Pr (PG (cxC X sc cl N' C s H fp) tg g)) (hif:∀ cl C s H fp,Pr (PIf (cxC X sc cl N' C s H fp) ifs tt)) (he:∀ cl C s H fp,Pr (PE (cxC X sc cl N' C s H fp) elt te))
  (hsw:swapsWith (.ListComp elt [⟨tg,iter,ifs,0⟩] sc pos) (some (.Name y py)) spos.line X.env=pure true) (hfn:X.fn y=true∨X.env.scope.names.lookup y=some .local:=by first | exact .inl rfl | exact .inr rfl | assumption) (hs:∀ x,foldedSetIterable iter X.env x=pure x:=by intro _; rfl) :
  Pr (PS X (.Assign [.Name y py] (.ListComp elt [⟨tg,iter,ifs,0⟩] sc pos) spos) (tSetC i own.length fr wi g tt te)) :=
 ⟨zaqe hN hy hx hc cs hi.h (fun a b c d e=>(hg a b c d e).h) (fun a b c d e=>(hif a b c d e).h) (fun a b c d e=>(he a b c d e).h) hsw hfn hs⟩
theorem zagf (k:SK) {elts:List Expr}{kk:Nat}{tpos:Pos}{a:Expr}{ta:TA}{p pos:Pos} (hg:Gl X "enumerate") (hm:X.mg "enumerate" = none) (ha:Pr (PA X [a] ta)) (hs:starEach [a] X.env=[(false,eval a X.env)]:=by rfl) :
  Pr (PI X (.Tuple elts kk tpos) (.Call (.Name "enumerate" p) [a] [] pos) (iEnum X.K k ta)):=⟨zaqf k hg hm ha.h hs⟩
theorem zadx:Pr (PPs X pos [] [] []):=⟨zap5⟩
theorem zacf {k v:Expr}{ks:List (Option Expr)}{vs:List Expr}{tk tv:TE}{trs:List (TE × TE)} (hk:Pr (PE X k tk)) (hv:Pr (PE X v tv)) (hr:Pr (PPs X pos ks vs trs)):Pr (PPs X pos (some k :: ks) (v :: vs) ((tk,tv) :: trs)):=⟨zanx hk.h hv.h hr.h⟩
theorem zady {keys:List (Option Expr)}{values:List Expr}{trs:List (TE × TE)} (h:Pr (PPs X pos keys values trs)) (hall:keys.all (·.isSome)=true) (hl:keys.length=values.length) (h0:keys≠[])
  (h15:keys.length≤15):Pr (PE X (.Dict keys values pos) (tDisp trs)):=⟨zap6 h.h hall hl h0 h15⟩
theorem zalg:Pr (PE X (.Dict [] [] pos) tDNewK):=⟨zanw⟩
theorem zalh {o e f:Expr}{td ty tx:TE}{apos cpos:Pos} (hu:X.A.units + 1 < cLine) (ho:Pr (PE X o td)) (he:Pr (PE X e ty)) (hf:Pr (PE X f tx)) (m:M2 X o "get" apos e f cpos):Pr (PE X (.Call (.Attribute o "get" apos) [e,f] [] cpos) (tDGet2 td ty tx)):=⟨zany hu ho.h he.h hf.h m⟩
theorem zahk {st:Stmt}:Pr (PS X st tNever):=⟨zanj⟩
theorem zaqg {i j:Nat}{x y:Str}{a b:Expr}{ta:TA}{px py pt pos:Pos}{kt k2 pt2} (hc:X.calm=true) (hN:X.N.Nodup) (hi:X.N[i]?=some x) (hj:X.N[j]?=some y) (hij:i≠j)
  (hx:X.env.scope.names.lookup x=some .local) (hy:X.env.scope.names.lookup y=some .local) (ha:Pr (PA X [a,b] ta))
  (hw:swappedStores [.Tuple [.Name x px,.Name y py] kt pt] (.Tuple [a,b] k2 pt2) X.env=pure (some [x,y]))
  (hs:swapsWithSole [.Tuple [.Name x px,.Name y py] kt pt] (.Tuple [a,b] k2 pt2) pos.line X.env=pure false:=by rfl) :
  Pr (PS X (.Assign [.Tuple [.Name x px,.Name y py] kt pt] (.Tuple [a,b] k2 pt2) pos) (tPar i j ta)):=⟨zaru hc hN hi hj hij hx hy ha.h hw hs⟩
theorem compOk {sc outer:Scope}{own N:List Str}{fr:List Nat}{N':List Str} (h1:sc.kind=.function) (h2:∀ y∈sc.names,y.2≠.cell) (h3:∀ y∈sc.names,y.2=.local→sc.names.lookup y.1=some .local)
  (h4:∀ y∈sc.names,y.2=.free→outer.names.lookup y.1=some .cell∨outer.names.lookup y.1=some .free) (h5:N'.Nodup) (h6:N'.map some=own.map some++fr.map fun j=>N[j]?)
  (h7:∀ x∈fr.filterMap (fun j=>N[j]?),sc.names.lookup x=some .free∧(outer.names.lookup x=some .cell∨outer.names.lookup x=some .free)):CompOk sc outer own N fr N' :=
 ⟨h1,h2,h3,h4,h5,h6,fun j hj x hx=>h7 x (List.mem_filterMap.mpr ⟨j,hj,hx⟩)⟩
end
theorem iteD {c:Prop} [Decidable c] {A B:Prop} (hc:c) (h:A):if decide c=true then A else B:=by rw [if_pos (decide_eq_true hc)]; exact h
def Tu (H H':Hp):Prop:=∀ b xs,H b=some (.tup xs)→H' b=some (.tup xs)
theorem Tu.trans {H H1 H2:Hp} (a:Tu H H1) (b:Tu H1 H2):Tu H H2:=fun c xs h=>b c xs (a c xs h)
theorem Tu.same {H H':Hp} (c:Ch [] H H'):Tu H H':=fun b xs h=>c b _ h (by simp)
theorem Tu.ch {H H':Hp}{b:Addr}{o:HO} (c:Ch [b] H H') (hb:H b=some o) (ho:∀ xs,o≠.tup xs):Tu H H':=fun d xs h=>c d _ h (by
 intro z
 have e:d=b:=by simpa using z
 subst e
 rw [hb] at h
 exact ho xs (Option.some.inj h))
theorem Tu.lst {H H':Hp}{b:Addr}{ys:List V} (c:Ch [b] H H') (hb:H b=some (.lst ys)):Tu H H':=Tu.ch c hb (fun xs z=>by cases z)
end L2

namespace L2
open PySem PySem.Spec PyProof.Rows
section
variable {X:Cx}{a b o e value:Expr}{es:List Expr}{f:Str}{ta tb te:TE}{pos:Pos}{tg l:Expr}
theorem zacq (K:PySem.W.Frag) (hK:X.K=K):IxR X (aIxL K):=hK ▸ zaar
theorem zajc (K:PySem.W.Frag) (hK:X.K=K):IxR X (aIxT K):=hK ▸ zaa8
theorem zagg (K:PySem.W.Frag) (hK:X.K=K):CallR X (.builtin "len") (fun xs H Q=>∃ p ys,xs=[.ref p]∧(SqL K H p ys∨SqT K H p ys)∧Q (.int ys.length) H):=hK ▸ zaal
theorem zaj5 (K:PySem.W.Frag) (hK:X.K=K):OpR X (compareOp .In) (rIn K false):=hK ▸ zac5
theorem zajd (K:PySem.W.Frag) (n:Nat) (hK:X.K=K) {k:Nat}{t:TGs} (hc:X.calm=true) (h:Pr (PGs X es t)) (hn:(assignEach es X.env).length=n:=by rfl) (hst:(assignEach es X.env).findIdx? (·.1)=none:=by rfl) :
  Pr (PG X (.Tuple es k pos) (gTup K n t)):=hK ▸ ⟨zaot hc h.h hn hst⟩
end
end L2

namespace L2
open PySem PySem.W PyProof.Rows
section
variable {n:Nat}{L:Nat→Nat→Prop} [DecidableRel L] {cmp:Nat→Nat→(Bool→Shared→Prop)→Shared→Prop}{s:Shared}
end
end L2

namespace L2
open PySem PySem.W PyProof.Rows PySem.Calls
def KeptBut (a:Addr) (h h':Heap):Prop:=∀ b o,b≠a→h.get? b=some o→h'.get? b=some o
end L2

namespace L2
open PySem PySem.W PyProof.Rows
structure DAt (h:Heap) (d:Addr) (es:Array DictEntry) (ep:Nat):Prop where
 ex:∃ o,h.get? d=some o∧o.ExactDict∧o.data=.dict es ep
theorem DAt.at {h h':Heap}{d:Addr}{es:Array DictEntry}{ep:Nat} (m:DAt h d es ep) (k:∀ o,h.get? d=some o→h'.get? d=some o):DAt h' d es ep:=let ⟨o,e,r⟩:=m.ex; ⟨o,k o e,r⟩
theorem DAt.ty {s:Shared}{d:Addr}{es:Array DictEntry}{ep:Nat} (m:DAt s.heap d es ep):s.TypeIs (.ref d) "dict" := let ⟨o,e,r,_⟩:=m.ex; ⟨o,e,r.1⟩
def kitO (d:Addr) (i n ep:Nat):Obj:={ cls:=.type "dict_keyiterator",data:=.fields #[.ref d,.int i 0,.int n 0,.int ep 0] }
section
variable {prog:Program}{w:World}{A:Around}{E:Value→Shared→Prop}{s:Shared}{d it:Addr}{es:Array DictEntry}{ep i:Nat}
theorem zali {Q:Value→Shared→Prop} (hd:(d == sysModules)=false) (m:DAt s.heap d es ep) (q:Q (.ref s.heap.objs.size) { s with heap:=s.heap.push (kitO d 0 es.size ep) }):wpAny (model prog w) A (pyIter (.ref d)) Q E s:=by
 obtain ⟨o,ho,hc,hdat⟩:=m.ex
 refine wpAny_pyIter_slot m.ty F.slot_dict_iter (wpAny_call_entry F.slot_dict_iter m.ty F.entry_dict_iter ?_ (F.args_dict_iter_1 _))
 unfold Builtin.«dict.__iter__» Builtin.Dict.dictSlotNone Builtin.Dict.showsAll
 refine wpAny_bind (wpAny_bind (wpAny_notOrdered_dict m.ty (wpAny_pure ?_)))
 refine wpAny_bind (m:=Builtin.Dict.addrOf (.ref d)) (wpAny_pure ?_)
 rw [if_neg (by rw [hd]; simp)]
 refine wpAny_bind (wpAny_pure (wpAny_bind (wpAny_dictEntries ho hdat (wpAny_bind (wpAny_dictEpoch ho hdat ?_)))))
 exact wpAny_bind (wpAny_newObj_type (wpAny_pure ⟨_,rfl, "dict_keyiterator",_,⟨_,Heap.get?_push_size _ rfl,rfl⟩,F.slot_dict_keyiterator_next.lookup,by simpa [rawInt,kitO] using q⟩))
theorem zalj (hit:s.heap.get? it=some (kitO d i es.size ep)):s.TypeIs (.ref it) "dict_keyiterator" := ⟨_,hit,rfl⟩
theorem zalk {Q:Option Value→Shared→Prop} (hit:s.heap.get? it=some (kitO d i es.size ep)) (m:DAt s.heap d es ep) (hi:i < es.size)
  (q:∀ h',h'.get? it=some (kitO d (i + 1) es.size ep)→Heap.SameBut it s.heap h'→Q (some (es[i]).key) { s with heap:=h' }):wpAny (model prog w) A (pyNext (.ref it)) Q E s:=by
 obtain ⟨od,hod,hcd,hdd⟩:=m.ex
 have T:=zalj hit
 unfold pyNext
 refine wpAny_bind (wpAny_attempt (wpAny_callSpecial?_slot (name:=Str.ofString "__next__") T F.slot_dict_keyiterator_next (wpAny_call_entry F.slot_dict_keyiterator_next T F.entry_dict_keyiterator_next ?_ (F.args_dict_keyiterator_next_1 _))))
 refine wpAny_bind (wpAny_pure (wpAny_bind (wpAny_bind ?_)))
 refine wpAny_bind (wpAny_typeNameOfWhole_keyiter T (wpAny_pure (wpAny_bind (wpAny_fieldsOf hit rfl ?_))))
 simp only [show Builtin.Dict_items.ownsTuple "dict_keyiterator" = false from by decide,Bool.false_eq_true,if_false]
 show wpAny _ _ (if (Value.ref d == Value.none)=true then _ else _) _ _ s
 rw [if_neg (by intro z; cases z)]
 refine wpAny_bind (wpAny_pure (wpAny_bind (wpAny_dictEntries hod hdd ?_)))
 rw [if_neg (by simp)]
 refine wpAny_bind (wpAny_pure (wpAny_bind (wpAny_dictEpoch hod hdd ?_)))
 rw [if_neg (by simp)]
 refine wpAny_pure ?_
 simp only [show ¬ ((i:Int) < 0) from by omega,if_false,Int.toNat_natCast,Array.getElem?_eq_getElem hi]
 refine wpAny_bind (wpAny_bind (wpAny_typeNameOfWhole_keyiter T (wpAny_pure (wpAny_bind (wpAny_isOneOf_keyiter T ?_)))))
 show wpAny _ _ (setField (.ref it) 1 (rawInt ((i:Int) + 1)) >>= _) _ _ s
 refine wpAny_bind (wpAny_setField hit rfl (by simp) ?_)
 have g2:(s.heap.update it (Obj.mapFields (·.setIfInBounds 1 (rawInt ((i:Int) + 1))))).get? it=some (kitO d (i + 1) es.size ep):=by
  rw [Heap.get?_update_self _ hit (Obj.isFreed_of_fields (Obj.data_mapFields rfl _))]
  rfl
 refine wpAny_bind (wpAny_holding (wpAny_bind (wpAny_isOneOf_keyiter (s:={ s with heap:=s.heap.update it (Obj.mapFields (·.setIfInBounds 1 (rawInt ((i:Int) + 1)))) }) (zalj g2) ?_)))
 exact wpAny_pure (wpAny_pure ⟨_,rfl,wpAny_pure (q _ g2 (Heap.SameBut.update ..))⟩)
theorem zao1 {Q:Option Value→Shared→Prop} (hh:A.handled=none) (hit:s.heap.get? it=some (kitO d es.size es.size ep)) (m:DAt s.heap d es ep)
  (q:∀ h',Heap.ExtBut it s.heap h'→Q none { s with heap:=h' }):wpAny (model prog w) A (pyNext (.ref it)) Q E s:=by
 obtain ⟨od,hod,hcd,hdd⟩:=m.ex
 have T:=zalj hit
 unfold pyNext
 refine wpAny_bind (wpAny_attempt (wpAny_callSpecial?_slot (name:=Str.ofString "__next__") T F.slot_dict_keyiterator_next (wpAny_call_entry F.slot_dict_keyiterator_next T F.entry_dict_keyiterator_next ?_ (F.args_dict_keyiterator_next_1 _))))
 refine wpAny_bind (wpAny_pure (wpAny_bind (wpAny_bind ?_)))
 refine wpAny_bind (wpAny_typeNameOfWhole_keyiter T (wpAny_pure (wpAny_bind (wpAny_fieldsOf hit rfl ?_))))
 simp only [show Builtin.Dict_items.ownsTuple "dict_keyiterator" = false from by decide,Bool.false_eq_true,if_false]
 show wpAny _ _ (if (Value.ref d == Value.none)=true then _ else _) _ _ s
 rw [if_neg (by intro z; cases z)]
 refine wpAny_bind (wpAny_pure (wpAny_bind (wpAny_dictEntries hod hdd ?_)))
 rw [if_neg (by simp)]
 refine wpAny_bind (wpAny_pure (wpAny_bind (wpAny_dictEpoch hod hdd ?_)))
 rw [if_neg (by simp)]
 refine wpAny_pure ?_
 simp only [show ¬ ((es.size:Int) < 0) from by omega,if_false,Int.toNat_natCast,Array.getElem?_eq_none (Nat.le_refl es.size)]
 refine wpAny_bind (wpAny_bind (wpAny_typeNameOfWhole_keyiter T (wpAny_pure ?_)))
 show wpAny _ _ (setField (.ref it) 0 .none >>= _) _ _ s
 refine wpAny_bind (wpAny_setField hit rfl (by simp) ?_)
 show wpAny _ _ (newExc (.type "StopIteration") [] >>= _) _ _ _
 simp only [newExc,newTuple]
 refine wpAny_bind (wpAny_bind (wpAny_newObj_type ?_ (by size_fits)))
 refine wpAny_bind (m:=firstArgMember _ _) (wpAny_of_eq (a:=Value.none) (by first | rfl | (simp only [firstArgMember]; rfl)) (wpAny_newObj_type ?_ (by size_fits)))
 simp only [raiseNew]
 refine wpAny_bind (wpAny_handled ?_)
 rw [show A.in1.handled=none from hh]
 refine wpAny_bind (wpAny_pure (wpAny_throw ?_))
 refine wpAny_bind (wpAny_isInstance (T := "StopIteration") (b:=true) ⟨_,Heap.get?_push_size _ rfl,rfl⟩ isSubtype_stop ?_)
 exact wpAny_pure (q _ (((Heap.SameBut.update ..).extBut.push _).push _))
end
section
variable {prog:Program}{w:World}{A:Around}{R:Result→Shared→Prop}{d it S:Addr}{es:Array DictEntry}{ep:Nat}
theorem zan5 (hh:A.handled=none) (n1:S≠it) (n2:S≠d) (n3:it≠d) (hsz:es.size≤sizeLine) (res:Value) (g:Heap):∀ (k i:Nat) (s:Shared) (c:Nat),es.size - i=k→i≤es.size →
  s.heap.get? it=some (kitO d i es.size ep)→DAt s.heap d es ep→s.heap.get? S=some { cls:=.type "list",data:=.seq ((es.toList.take i).map (·.key)).toArray c } →
  (∀ b o,b≠it→b≠S→g.get? b=some o→s.heap.get? b=some o) →
  (∀ (h':Heap) (c':Nat),h'.get? S=some { cls:=.type "list",data:=.seq (es.toList.map (·.key)).toArray c' }→(∀ b o,b≠it→b≠S→g.get? b=some o→h'.get? b=some o)→R (.ok (.ret res)) { s with heap:=h' }) →
  codeAny (model prog w) A (.builtin "list.extend.loop" ⟨[.ref S,.ref it,res],[]⟩) R s:=by
 intro k
 induction k with
 | zero =>
  intro i s c hk hi hit m hS hg hR
  have e:i=es.size:=by omega
  subst e
  refine codeAny_builtin F.entry_extend_loop ?_
  rw [Around.under_plainId F.plain_extend_loop _]
  show wpAny _ A.in1 (pyNext (.ref it) >>= _) _ _ s
  refine wpAny_bind (zao1 (by exact hh) hit m fun h' x=>wpAny_pure (hR h' c ?_ fun b o b1 b2 e=>x b o b1 (hg b o b1 b2 e)))
  rw [x S _ n1 hS,List.take_of_length_le (by simp)]
 | succ k ih =>
  intro i s c hk hi hit m hS hg hR
  have hlt:i < es.size:=by omega
  refine codeAny_builtin F.entry_extend_loop ?_
  rw [Around.under_plainId F.plain_extend_loop _]
  show wpAny _ A.in1 (pyNext (.ref it) >>= _) _ _ s
  refine wpAny_bind (zalk hit m hlt fun h' a b=>?_)
  have hS':h'.get? S=some { cls:=.type "list",data:=.seq ((es.toList.take i).map (·.key)).toArray c }:=(b.2 S n1).trans hS
  refine wpAny_bind (wpAny_updateSeq hS' rfl (wpAny_pure ⟨plainId_quiet F.plain_extend_loop _,?_⟩) (by simp; omega) (by simp; omega))
  have oth:∀ b o,b≠S→h'.get? b=some o→(h'.update S (Obj.mapSeq (·.push es[i].key))).get? b=some o:=fun b o hb e=>(Heap.get?_update_other _ _ (Ne.symm hb)).trans e
  have hS2:=Heap.get?_update_self (Obj.mapSeq (·.push es[i].key)) hS' rfl
  have ea:((es.toList.take (i + 1)).map (·.key)).toArray=((es.toList.take i).map (·.key)).toArray.push es[i].key:=by
   rw [List.take_add_one,show es.toList[i]?=some es[i] from by simp [hlt]]
   simp
  refine ih (i + 1) _ _ (by omega) hlt (oth _ _ (Ne.symm n1) a) (m.at fun o e=>oth _ o (Ne.symm n2) ((b.2 d (Ne.symm n3)).trans e)) (by rw [ea]; exact hS2) (fun x o x1 x2 e=>oth x o x2 ((b.2 x x1).trans (hg x o x1 x2 e))) hR
end
end L2

namespace L2
open PySem PySem.W PyProof.Rows
section
variable {prog:Program}{w:World}{A:Around}{E:Value→Shared→Prop}{s:Shared}{d:Addr}{es:Array DictEntry}{ep:Nat}
theorem zan6 {Q:List Value→Shared→Prop} (hh:A.handled=none) (hd:(d == sysModules)=false) (m:DAt s.heap d es ep) (hsz:es.size≤sizeLine)
  (q:∀ h',(∀ b o,s.heap.get? b=some o→h'.get? b=some o)→s.heap.objs.size < h'.objs.size→Q (es.toList.map (·.key)) { s with heap:=h' }):wpAny (model prog w) A (collect (.ref d)) Q E s:=by
 have dlt:d < s.heap.objs.size:=let ⟨o,e,_⟩:=m.ex; Heap.lt_size e
 have nSd:s.heap.objs.size≠d:=Nat.ne_of_gt dlt
 have nSI:s.heap.objs.size≠s.heap.objs.size + 1:=Nat.ne_of_lt (Nat.lt_succ_self _)
 have nId:s.heap.objs.size + 1≠d:=Nat.ne_of_gt (Nat.lt_succ_of_lt dlt)
 unfold collect
 refine wpAny_bind (wpAny_runValue (codeAny_builtin entry_proto_collect' ?_))
 show wpAny _ _ (do again (.builtin "list.__iadd__" ⟨[← newList [],.ref d],[]⟩)) _ _ s
 refine wpAny_bind (wpAny_newList (wpAny_pure ⟨Code.quiet_builtin _ (by decide +kernel),codeAny_builtin entry_list_iadd' ?_⟩))
 show wpAny _ _ (Builtin.List.listExtendWith (.ref s.heap.objs.size) (.ref d) (.ref s.heap.objs.size)) _ _ { s with heap:=s.heap.push (seqObj "list" #[] 0) }
 unfold Builtin.List.listExtendWith
 have k1:∀ b o,s.heap.get? b=some o→(s.heap.push (seqObj "list" #[] 0)).get? b=some o:=fun b o e=>Heap.get?_push_of_some _ e
 have S1:(s.heap.push (seqObj "list" #[] 0)).get? s.heap.objs.size=some (seqObj "list" #[] 0):=Heap.get?_push_size _ rfl
 have z1:(s.heap.push (seqObj "list" #[] 0)).objs.size=s.heap.objs.size + 1:=size_push' _ _
 generalize hg1:s.heap.push (seqObj "list" #[] 0)=g1 at k1 S1 z1 ⊢
 have m1:DAt g1 d es ep:=m.at fun o e=>k1 d o e
 refine wpAny_bind (wpAny_typeOf (T := "dict") (DAt.ty (s:={ s with heap:=g1 }) m1) ?_)
 have e1:Builtin.List.listSameRef (.ref s.heap.objs.size) (.ref d)=false:=by simp [Builtin.List.listSameRef,nSd]
 have e2:(Value.type "dict" == Value.type "list")=false:=by decide
 have e3:(Value.type "dict" == Value.type "tuple")=false:=by decide
 simp only [e1,e2,e3,Bool.or_false,Bool.false_eq_true,if_false]
 refine wpAny_bind (zali (s:={ s with heap:=g1 }) hd m1 ?_)
 have k2:∀ b o,g1.get? b=some o→(g1.push (kitO d 0 es.size ep)).get? b=some o:=fun b o e=>Heap.get?_push_of_some _ e
 have I2:(g1.push (kitO d 0 es.size ep)).get? g1.objs.size=some (kitO d 0 es.size ep):=Heap.get?_push_size _ rfl
 show wpAny _ _ (holding [Value.ref g1.objs.size] _ >>= _) _ _ { s with heap:=g1.push (kitO d 0 es.size ep) }
 rw [z1] at I2 ⊢
 generalize g1.push (kitO d 0 es.size ep)=g2 at k2 I2 ⊢
 have m2:DAt g2 d es ep:=m1.at fun o e=>k2 d o e
 refine wpAny_bind (wpAny_holding (kdl_hint_dict (DAt.ty (s:={ s with heap:=g2 }) m2) ?_))
 show wpAny _ _ (rule "list.extend.makes-room" >>= fun _=>Builtin.List.listTouch (.ref s.heap.objs.size) >>= fun _=>again (.builtin "list.extend.loop" ⟨[.ref s.heap.objs.size,.ref (s.heap.objs.size + 1),.ref s.heap.objs.size],[]⟩)) _ _ _
 refine wpAny_bind (wpAny_rule (wpAny_bind ?_))
 have S2:=k2 _ _ S1
 refine wpAny_bind (listUpdate_at S2 rfl ?_ (Nat.zero_le _) (by simp [sizeLine_eq]))
 obtain ⟨c3,S3⟩:∃ c3,(g2.update s.heap.objs.size (Obj.mapSeq (·.push Value.none))).get? s.heap.objs.size=some (seqObj "list" #[Value.none] c3):=⟨_,get?_update_seq S2 (·.push Value.none)⟩
 refine listUpdate_at S3 rfl ?_ (by simp [sizeLine_eq]) (by simp [sizeLine_eq])
 obtain ⟨c4,S4⟩:∃ c4,((g2.update s.heap.objs.size (Obj.mapSeq (·.push Value.none))).update s.heap.objs.size (Obj.mapSeq (·.pop))).get? s.heap.objs.size=some (seqObj "list" #[] c4):=⟨_,get?_update_seq S3 (·.pop)⟩
 have k4:∀ b o,b≠s.heap.objs.size→g2.get? b=some o→((g2.update s.heap.objs.size (Obj.mapSeq (·.push Value.none))).update s.heap.objs.size (Obj.mapSeq (·.pop))).get? b=some o :=
  fun b o nb e=>(Heap.get?_update_other _ _ (Ne.symm nb)).trans ((Heap.get?_update_other _ _ (Ne.symm nb)).trans e)
 generalize (g2.update s.heap.objs.size (Obj.mapSeq (·.push Value.none))).update s.heap.objs.size (Obj.mapSeq (·.pop))=g4 at S4 k4 ⊢
 refine wpAny_pure ⟨plainId_quiet F.plain_extend_loop _,?_⟩
 refine zan5 (S:=s.heap.objs.size) (it:=s.heap.objs.size + 1) (d:=d) (es:=es) (ep:=ep) (by exact hh) nSI nSd nId hsz _ s.heap es.size 0 _ c4 rfl (Nat.zero_le _) (k4 _ _ (Ne.symm nSI) I2) (m2.at fun o e=>k4 d o (Ne.symm nSd) e) S4
  (fun b o b1 b2 e=>k4 b o b2 (k2 b o (k1 b o e))) fun h' c' hS hk=>?_
 refine wpAny_bind (wpAny_load hS ?_)
 exact wpAny_pure (q h' (fun b o e=>hk b o (Nat.ne_of_lt (Nat.lt_succ_of_lt (Heap.lt_size e))) (Nat.ne_of_lt (Heap.lt_size e)) e) (Heap.lt_size hS))
end
end L2

namespace L2
open PySem PySem.W PyProof.Rows
section
variable {X:Cx}{o e f:Expr}{apos cpos:Pos}{td ty tx:TE}
theorem zaqh {i:Expr}{pos:Pos} (hu:X.A.units + 1 < cLine) (hi:Pr (PE X i ty)) (ho:Pr (PE X o td)) (h1:behindInMarks .In o=false:=by rfl):Pr (PT X (.Compare i [.In] [o] pos) (tB (tDIn ty td))):=⟨zaos (zasc hu hi.h ho.h) h1⟩
theorem zaea {i:Expr}{pos:Pos} (hu:X.A.units + 1 < cLine) (hi:Pr (PE X i ty)) (ho:Pr (PE X o td)) (h1:behindInMarks .NotIn o=false:=by rfl):Pr (PT X (.Compare i [.NotIn] [o] pos) (tB (tDNotIn ty td))):=⟨zaos (zak1 hu hi.h ho.h) h1⟩
theorem zafc {i:Expr}{pos:Pos} (hu:X.A.units + 1 < cLine) (ho:Pr (PE X o td)) (hi:Pr (PE X i ty)) (hs:NoSl i):Pr (PE X (.Subscript o i pos) (tDGet td ty)):=⟨zap3 hu ho.h hi.h hs⟩
theorem zagh {i value:Expr}{tv:TE}{pos pos':Pos} (hu:X.A.units + 1 < cLine) (ho:Pr (PE X o td)) (hi:Pr (PE X i ty)) (hv:Pr (PE X value tv)) (hs:swapsWith value (some (.Subscript o i pos')) pos.line X.env=pure false) :
  Pr (PS X (.Assign [.Subscript o i pos'] value pos) (sDPut td ty tv)):=⟨zap4 hu ho.h hi.h hv.h hs⟩
theorem zall (ho:Pr (PE X o td)) (hbase:attributeBase o "pop" X.env (eval o X.env)=eval o X.env:=by rfl) (hline:(apos.endLine == cpos.line)=true:=by rfl):Pr (PE X (.Call (.Attribute o "pop" apos) [] [] cpos) (tBM0 X.K "list" rPop td)) :=
 ⟨zar8 PySem.F.plainAttrs_list PySem.F.slot_list_pop PySem.F.type_list_pop zar9 ho.h hbase hline⟩
end
end L2

namespace L2
open PySem PySem.Spec PyProof.Rows PySem.SeqAt
section
variable {X:Cx}
theorem zahl:∀ {ps:List Addr}{us:List Value},Vals (ps.map V.ref) us→us=ps.map Value.ref
 | [],_,.nil=>rfl
 | p :: ps,_,.cons r t=>by
  cases r
  rw [List.map_cons,zahl t]
end
end L2

namespace L2
open PySem PySem.Spec PyProof.Rows PySem.SeqAt
theorem zach {H:Hp}{a:Addr}{kvs:List (Key × V)}{i:Int}{v:V} (e:H a=some (.dK kvs)) (h:valV kvs (.inl i)=some v):DGet H a (.int i) (some v):=h ▸ DGet.k (k:=.inl i) e
theorem zaci {H:Hp}{a:Addr}{kvs:List (Key × V)}{i:Int} (e:H a=some (.dK kvs)) (h:valV kvs (.inl i)=none):DGet H a (.int i) none:=h ▸ DGet.k (k:=.inl i) e
theorem dputI {H:Hp}{a:Addr}{kvs:List (Key × V)}{i:Int}{v:V} (e:H a=some (.dK kvs)) (hl:kvs.length < sizeLine):DPut H a (.int i) v (upd H a (.dK (putK kvs (.inl i) v))):=DPut.k (k:=.inl i) e hl
end L2

namespace L2
open PySem
structure AF (sc:Scope) (N:List Str):Prop where
 h:∀ x∈N,(sc.names.lookup x=some .local∨sc.names.lookup x=some .cell)∧(x == ("__debug__" : Str))=false∧(x == ("__classdict__" : Str))=false
structure AV (sc:Scope) (N:List Str):Prop where
 h:∀ x∈N,(sc.names.lookup x=some .local∨sc.names.lookup x=some .cell∨sc.names.lookup x=some .free)∧(x == ("__debug__" : Str))=false∧(x == ("__classdict__" : Str))=false
structure AK (sc:Scope) (N:List Str):Prop where
 h:∀ x∈N,sc.names.lookup x=some .local
structure AG (sc:Scope) (N:List Str):Prop where
 h:∀ x∈N,sc.names.lookup x=some .globalImplicit
theorem AF.l {sc:Scope}{N:List Str} (A:AF sc N) (i:Nat) {x:Str} (e:N[i]?=some x):sc.names.lookup x=some .local∨sc.names.lookup x=some .cell:=(A.h x (List.mem_of_getElem? e)).1
theorem AK.k {sc:Scope}{N:List Str} (A:AK sc N) (i:Nat) {x:Str} (e:N[i]?=some x):sc.names.lookup x=some .local:=A.h x (List.mem_of_getElem? e)
theorem AG.g {sc:Scope}{N:List Str} (A:AG sc N) (i:Nat) {x:Str} (e:N[i]?=some x):sc.names.lookup x=some .globalImplicit:=A.h x (List.mem_of_getElem? e)
theorem qv {X:Cx}{x:Str}{pos:Pos} (A:AF X.env.scope X.N) (i:Nat) (e:X.N[i]?=some x):Pr (PE X (.Name x pos) (tVar i)) :=
 have a:=A.h x (List.mem_of_getElem? e)
 zak5 e (a.1.elim .inl fun h=>.inr (.inl h)) a.2.1 a.2.2
theorem qw {X:Cx}{x:Str}{pos:Pos} (A:AV X.env.scope X.N) (i:Nat) (e:X.N[i]?=some x):Pr (PE X (.Name x pos) (tVar i)) :=
 have a:=A.h x (List.mem_of_getElem? e)
 zak5 e a.1 a.2.1 a.2.2
end L2

namespace L2
open PySem PySem.W PyProof.Rows
def gal':Bool→Keyed→Array Keyed→Nat→Nat→Nat→StateT SortSt Sem (Option Nat):=sortPriv% PySem.Builtin.gallop
section
variable {prog:Program}{w:World}{A:Around}{E:Value→Shared→Prop}{s:Shared}
def KI (x:Keyed):Prop:=∃ n t,x.1=Value.int n t
theorem zaa9 {st:SortSt}{xs:Array Keyed}{i:Nat}{Q:Keyed→SortSt→Prop} (hi:i < xs.size) (h:Q xs[i] st):wpS (model prog w) A E s (elem' xs i) Q st:=by
 rw [elem'_eq,getElem?_pos xs i hi]
 exact wpS_pure h
end
end L2

namespace L2
open PySem PySem.W PyProof.Rows
def mlo':Array Keyed→Array Keyed→StateT SortSt Sem (Array Keyed):=sortPriv% PySem.Builtin.mergeLo
def mhi':Array Keyed→Array Keyed→StateT SortSt Sem (Array Keyed):=sortPriv% PySem.Builtin.mergeHi
structure MG (a b out:Array Keyed) (ia ib:Nat):Prop where
 pm:(out.toList++(a.toList.drop ia++b.toList.drop ib)).Perm (a.toList++b.toList)
theorem MG.a {a b out:Array Keyed}{ia ib:Nat} (m:MG a b out ia ib) (h:ia < a.size):MG a b (out.push a[ia]) (ia + 1) ib:=by
 refine ⟨List.Perm.trans (List.Perm.of_eq ?_) m.pm⟩
 rw [List.drop_eq_getElem_cons (show ia < a.toList.length by simpa using h)]
 simp
theorem MG.b {a b out:Array Keyed}{ia ib:Nat} (m:MG a b out ia ib) (h:ib < b.size):MG a b (out.push b[ib]) ia (ib + 1):=by
 refine ⟨List.Perm.trans ?_ m.pm⟩
 rw [List.drop_eq_getElem_cons (show ib < b.toList.length by simpa using h)]
 simp only [Array.toList_push,List.append_assoc,Array.getElem_toList]
 refine List.Perm.append_left _ ?_
 rw [List.singleton_append]
 exact (List.perm_middle (a:=b[ib])).symm
theorem MG.ak {a b out:Array Keyed}{ia ib:Nat} (m:MG a b out ia ib) (k:Nat):MG a b (out++a.extract ia (ia + k)) (ia + k) ib:=by
 refine ⟨List.Perm.trans (List.Perm.of_eq ?_) m.pm⟩
 simp only [Array.toList_append,Array.toList_extract,List.append_assoc,List.extract_eq_take_drop,Nat.add_sub_cancel_left]
 rw [← List.append_assoc (List.take k _),← List.drop_drop,List.take_append_drop]
theorem MG.bk {a b out:Array Keyed}{ia ib:Nat} (m:MG a b out ia ib) (k:Nat):MG a b (out++b.extract ib (ib + k)) ia (ib + k):=by
 refine ⟨List.Perm.trans ?_ m.pm⟩
 simp only [Array.toList_append,Array.toList_extract,List.append_assoc,List.extract_eq_take_drop,Nat.add_sub_cancel_left]
 refine List.Perm.append_left _ ?_
 rw [← List.append_assoc]
 refine (List.Perm.append_right _ List.perm_append_comm).trans ?_
 rw [List.append_assoc,← List.drop_drop,List.take_append_drop]
theorem MG.done {a b out:Array Keyed}{ia ib:Nat} (m:MG a b out ia ib):(out++a.extract ia a.size++b.extract ib b.size).toList.Perm (a.toList++b.toList):=by
 refine List.Perm.trans (List.Perm.of_eq ?_) m.pm
 simp [List.extract_eq_take_drop,List.take_of_length_le]
theorem MG.last {a b out:Array Keyed}{ia ib:Nat} (m:MG a b out ia ib):(out++b.extract ib b.size++a.extract ia a.size).toList.Perm (a.toList++b.toList):=by
 refine List.Perm.trans ?_ m.pm
 simp only [Array.toList_append,Array.toList_extract,List.append_assoc,List.extract_eq_take_drop]
 refine List.Perm.append_left _ (List.perm_append_comm.trans (List.Perm.of_eq ?_))
 simp [List.take_of_length_le]
structure SG (st st':SortSt):Prop where
 arr:arrOf st'=arrOf st
 kind:kindOf st'=kindOf st
 pend:pendingOf st'=pendingOf st
 fail:failedOf st'=failedOf st
theorem SG.put {st st':SortSt} (h:SG st st') (g:Nat):SG st (SortSt.mk' (kindOf st') (arrOf st') (pendingOf st') g (failedOf st')):=⟨h.arr,h.kind,h.pend,h.fail⟩
theorem SG.refl (st:SortSt):SG st st:=⟨rfl,rfl,rfl,rfl⟩
section
variable {prog:Program}{w:World}{A:Around}{E:Value→Shared→Prop}{s:Shared}
theorem zaf2 {st:SortSt}{x:String}{Q:Unit→SortSt→Prop} (h:Q () st):wpS (model prog w) A E s (liftM (rule x):StateT SortSt Sem Unit) Q st:=wpS_lift (wpAny_rule ⟨rfl,h⟩)
theorem zaa6 {α:Type}{c:Prop} [Decidable c] {t e:StateT SortSt Sem α}{st:SortSt}{Q:α→SortSt→Prop} (h1:c→wpS (model prog w) A E s t Q st) (h2:¬ c→wpS (model prog w) A E s e Q st):wpS (model prog w) A E s (if c then t else e) Q st:=by
 split
 ·exact h1 ‹_›
 ·exact h2 ‹_›
end
end L2

namespace L2
open PySem PySem.W PyProof.Rows
structure MH (a b out:Array Keyed) (na nb:Nat):Prop where
 pm:(a.toList.take na++(b.toList.take nb++out.toList.reverse)).Perm (a.toList++b.toList)
theorem MH.a {a b out:Array Keyed}{na nb:Nat} (m:MH a b out (na + 1) nb) (h:na < a.size):MH a b (out.push a[na]) na nb:=by
 refine ⟨List.Perm.trans ?_ m.pm⟩
 rw [List.take_add_one,List.getElem?_eq_getElem (show na < a.toList.length by simpa using h)]
 simp only [Array.toList_push,List.reverse_append,List.reverse_cons,List.reverse_nil,List.nil_append,List.append_assoc,Option.toList_some,Array.getElem_toList]
 refine List.Perm.append_left _ ?_
 show (b.toList.take nb++a[na] :: out.toList.reverse).Perm (a[na] :: (b.toList.take nb++out.toList.reverse))
 exact List.perm_middle
theorem MH.b {a b out:Array Keyed}{na nb:Nat} (m:MH a b out na (nb + 1)) (h:nb < b.size):MH a b (out.push b[nb]) na nb:=by
 refine ⟨List.Perm.trans (List.Perm.of_eq ?_) m.pm⟩
 rw [List.take_add_one,List.getElem?_eq_getElem (show nb < b.toList.length by simpa using h)]
 simp
theorem zaeq {l:List Keyed}{i n:Nat} (h:i≤n):l.take n=l.take i++(l.drop i).take (n - i):=by
 conv=>lhs; rw [show n=i + (n - i) by omega]
 rw [List.take_add]
theorem MH.ak {a b out:Array Keyed}{na nb i:Nat} (m:MH a b out na nb) (h:i≤na):MH a b (out++(a.extract i na).reverse) i nb:=by
 refine ⟨List.Perm.trans ?_ m.pm⟩
 rw [zaeq h]
 simp only [Array.toList_append,Array.toList_reverse,Array.toList_extract,List.extract_eq_take_drop,List.reverse_append,List.reverse_reverse,List.append_assoc]
 refine List.Perm.append_left _ ?_
 rw [← List.append_assoc,← List.append_assoc]
 exact List.Perm.append_right _ List.perm_append_comm
theorem MH.bk {a b out:Array Keyed}{na nb i:Nat} (m:MH a b out na nb) (h:i≤nb):MH a b (out++(b.extract i nb).reverse) na i:=by
 refine ⟨List.Perm.trans (List.Perm.of_eq ?_) m.pm⟩
 rw [zaeq h]
 simp only [Array.toList_append,Array.toList_reverse,Array.toList_extract,List.extract_eq_take_drop,List.reverse_append,List.reverse_reverse,List.append_assoc]
theorem MH.done {a b out:Array Keyed}{na nb:Nat} (m:MH a b out na nb):(a.extract 0 na++b.extract 0 nb++out.reverse).toList.Perm (a.toList++b.toList):=by
 refine List.Perm.trans (List.Perm.of_eq ?_) m.pm
 simp [List.extract_eq_take_drop]
theorem MH.first {a b out:Array Keyed}{na nb:Nat} (m:MH a b out na nb):(b.extract 0 nb++a.extract 0 na++out.reverse).toList.Perm (a.toList++b.toList):=by
 refine List.Perm.trans ?_ m.pm
 simp only [Array.toList_append,Array.toList_reverse,Array.toList_extract,List.extract_eq_take_drop,List.drop_zero,Nat.sub_zero,List.append_assoc]
 rw [← List.append_assoc,← List.append_assoc]
 exact List.Perm.append_right _ List.perm_append_comm
end L2

namespace L2
open PySem PySem.W PyProof.Rows
structure SPm (a0:Array Keyed) (st:SortSt):Prop where
 pm:(arrOf st).Perm a0
 kind:kindOf st=oneType'
 fail:failedOf st=none
theorem SPm.size {a0:Array Keyed}{st:SortSt} (h:SPm a0 st):(arrOf st).size=a0.size:=h.pm.size_eq
theorem SPm.ki {a0:Array Keyed}{st:SortSt} (h:SPm a0 st) (k0:∀ x∈a0.toList,KI x) {i:Nat} (hi:i < (arrOf st).size):KI (arrOf st)[i]:=k0 _ ((Array.perm_iff_toList_perm.mp h.pm).mem_iff.mp (by simp))
theorem SPm.arr {a0:Array Keyed}{st:SortSt} (h:SPm a0 st) {xs:Array Keyed} (p:xs.Perm (arrOf st)):SPm a0 (setArr st xs):=⟨p.trans h.pm,h.kind,h.fail⟩
end L2

namespace L2
open PySem PySem.W PyProof.Rows
structure RN (p:Array (Nat × Nat × Nat)) (top:Nat):Prop where
 ok:∀ (i:Nat) (x:Nat × Nat × Nat),p[i]?=some x→1≤x.2.1∧x.1 + x.2.1≤top
 nx:∀ (i:Nat) (x y:Nat × Nat × Nat),p[i]?=some x→p[i + 1]?=some y→y.1=x.1 + x.2.1
 la:∀ x:Nat × Nat × Nat,p[p.size - 1]?=some x→x.1 + x.2.1=top
theorem zagi:∀ (L:List Keyed) (xs:Array Keyed) (b k:Nat),b + k + L.length≤xs.size→((L.zipIdx k).foldl (fun (a:Array Keyed) (p:Keyed × Nat)=>a.setIfInBounds (b + p.2) p.1) xs).toList=xs.toList.take (b + k)++(L++xs.toList.drop (b + k + L.length))
 | [],xs,b,k,_=>by simp
 | x :: L,xs,b,k,h=>by
  have h:b + k + (L.length + 1)≤xs.size:=h
  have ih:=zagi L (xs.setIfInBounds (b + k) x) b (k + 1) (by simp; omega)
  rw [List.zipIdx_cons,List.foldl_cons]
  show ((L.zipIdx (k + 1)).foldl _ (xs.setIfInBounds (b + k) x)).toList=_
  rw [ih]
  have hl:b + k < xs.toList.length:=by simp; omega
  simp only [Array.toList_setIfInBounds,← Nat.add_assoc,List.length_cons]
  rw [List.take_add_one,List.take_set_of_le (Nat.le_refl _),List.getElem?_set_self hl,List.drop_set_of_lt (by omega),show b + k + 1 + L.length=b + k + L.length + 1 by omega]
  simp
theorem zan7 {xs m:Array Keyed}{b e:Nat} (hbe:b≤e) (he:e≤xs.size) (p:m.toList.Perm ((xs.toList.drop b).take (e - b))):(m.toList.zipIdx.foldl (fun (a:Array Keyed) (p:Keyed × Nat)=>a.setIfInBounds (b + p.2) p.1) xs).Perm xs:=by
 have hl:m.toList.length=e - b:=by
  rw [p.length_eq,List.length_take,List.length_drop]; simp; omega
 rw [Array.perm_iff_toList_perm,zagi m.toList xs b 0 (by rw [hl]; omega),hl]
 have e1:xs.toList=xs.toList.take b++((xs.toList.drop b).take (e - b)++xs.toList.drop e):=by
  conv=>lhs; rw [← List.take_append_drop b xs.toList,← List.take_append_drop (e - b) (xs.toList.drop b)]
  rw [List.drop_drop,show b + (e - b)=e by omega]
 conv=>rhs; rw [e1]
 rw [Nat.add_zero,show b + (e - b)=e by omega]
 exact List.Perm.append_left _ (List.Perm.append_right _ p)
theorem RN.join {p:Array (Nat × Nat × Nat)}{top i sa na pw sb nb pv:Nat} (r:RN p top) (hi:i + 1 < p.size) (e1:p[i]?=some (sa,na,pw)) (e2:p[i + 1]?=some (sb,nb,pv)):RN ((p.setIfInBounds i (sa,na + nb,pw)).eraseIdxIfInBounds (i + 1)) top:=by
 have o1:=r.ok _ _ e1
 have o2:=r.ok _ _ e2
 have n1:=r.nx _ _ _ e1 e2
 dsimp only at o1 o2 n1
 have hz:((p.setIfInBounds i (sa,na + nb,pw)).eraseIdxIfInBounds (i + 1)).size=p.size - 1:=by
  rw [Array.eraseIdxIfInBounds,dif_pos (by simpa using hi),Array.size_eraseIdx,Array.size_setIfInBounds]
 have g:∀ j:Nat,((p.setIfInBounds i (sa,na + nb,pw)).eraseIdxIfInBounds (i + 1))[j]?=if j < i then p[j]? else if j=i then some (sa,na + nb,pw) else p[j + 1]?:=fun j=>by
  rw [Array.eraseIdxIfInBounds,dif_pos (by simpa using hi),Array.getElem?_eraseIdx,Array.getElem?_setIfInBounds,Array.getElem?_setIfInBounds]
  by_cases h1:j < i
  ·rw [if_pos (by omega),if_neg (by omega),if_pos h1]
  by_cases h2:j=i
  ·subst h2
   rw [if_pos (by omega),if_pos rfl,if_pos (by omega),if_neg h1,if_pos rfl]
  ·rw [if_neg (by omega),if_neg (by omega),if_neg h1,if_neg h2]
 refine ⟨fun j x e=>?_,fun j x y ex ey=>?_,fun x e=>?_⟩
 ·rw [g] at e
  split at e
  ·exact r.ok _ _ e
  split at e
  ·cases e
   exact ⟨by show 1≤na + nb; omega,by show sa + (na + nb)≤top; omega⟩
  ·exact r.ok _ _ e
 ·rw [g] at ex ey
  by_cases h1:j + 1 < i
  ·rw [if_pos (by omega)] at ex
   rw [if_pos h1] at ey
   exact r.nx _ _ _ ex ey
  by_cases h2:j + 1=i
  ·rw [if_pos (by omega)] at ex
   rw [if_neg h1,if_pos h2] at ey
   cases ey
   rw [h2.symm] at e1
   exact r.nx _ _ (sa,na,pw) ex e1
  by_cases h3:j=i
  ·subst h3
   rw [if_neg (by omega),if_pos rfl] at ex
   rw [if_neg h1,if_neg h2] at ey
   cases ex
   have:=r.nx _ _ _ e2 ey
   dsimp only at this ⊢
   omega
  ·rw [if_neg (by omega),if_neg h3] at ex
   rw [if_neg h1,if_neg h2] at ey
   exact r.nx _ _ _ ex ey
 ·rw [hz,g] at e
  by_cases h1:p.size - 1 - 1=i
  ·rw [if_neg (by omega),if_pos h1] at e
   cases e
   have:=r.la _ (show p[p.size - 1]?=some (sb,nb,pv) by rw [show p.size - 1=i + 1 by omega]; exact e2)
   dsimp only at this ⊢
   omega
  ·rw [if_neg (by omega),if_neg h1,show p.size - 1 - 1 + 1=p.size - 1 by omega] at e
   exact r.la _ e
section
variable {prog:Program}{w:World}{A:Around}{E:Value→Shared→Prop}{s:Shared}
theorem zats {st x:SortSt}{Q:PUnit→SortSt→Prop} (h:Q ⟨⟩ x):wpS (model prog w) A E s (set x:StateT SortSt Sem PUnit) Q st:=by
 unfold wpS
 rw [StateT.run_set]
 exact wpAny_pure ⟨rfl,h⟩
end
end L2

namespace L2
open PySem PySem.W PyProof.Rows
theorem RN.nil {p:Array (Nat × Nat × Nat)} (e:p=#[]):RN p 0:=by
 subst e
 exact ⟨fun i x h=>by simp at h,fun i x y h=>by simp at h,fun x h=>by simp at h⟩
theorem zasi {c:Prop} [Decidable c] {a b k:Nat} (h1:a≤k) (h2:b≤k):(if c then a else b)≤k:=by split <;> assumption
theorem zasj {i n:Nat} (h:i≤n - 2) (hn:1 < n):i + 1 < n:=by omega
theorem RN.push {p:Array (Nat × Nat × Nat)}{lo n:Nat} (r:RN p lo) (hn:1≤n):RN (p.push (lo,n,0)) (lo + n):=by
 refine ⟨fun i x e=>?_,fun i x y ex ey=>?_,fun x e=>?_⟩
 ·rw [Array.getElem?_push] at e
  split at e
  ·cases e
   exact ⟨hn,Nat.le_refl _⟩
  ·have:=r.ok _ _ e
   exact ⟨this.1,by omega⟩
 ·rw [Array.getElem?_push] at ex ey
  by_cases h:i + 1=p.size
  ·rw [if_pos h] at ey
   rw [if_neg (by omega)] at ex
   cases ey
   exact (r.la _ (by rw [show p.size - 1=i by omega]; exact ex)).symm
  ·rw [if_neg h] at ey
   by_cases h2:i=p.size
   ·rw [getElem?_neg p (i + 1) (by omega)] at ey
    cases ey
   ·rw [if_neg h2] at ex
    exact r.nx _ _ _ ex ey
 ·rw [Array.size_push,Nat.add_sub_cancel,Array.getElem?_push,if_pos rfl] at e
  cases e
  rfl
theorem RN.mod {p:Array (Nat × Nat × Nat)}{lo k:Nat}{f:Nat × Nat × Nat→Nat × Nat × Nat} (r:RN p lo) (hf:∀ x,(f x).1=x.1∧(f x).2.1=x.2.1):RN (p.modify k f) lo:=by
 have g:∀ (i:Nat) x,(p.modify k f)[i]?=some x→∃ y,p[i]?=some y∧x.1=y.1∧x.2.1=y.2.1:=fun i x e=>by
  rw [Array.getElem?_modify] at e
  split at e
  ·obtain ⟨y,e1,e2⟩:=Option.map_eq_some_iff.mp e
   exact ⟨y,e1,by rw [← e2]; exact (hf y).1,by rw [← e2]; exact (hf y).2⟩
  ·exact ⟨x,e,rfl,rfl⟩
 refine ⟨fun i x e=>?_,fun i x y ex ey=>?_,fun x e=>?_⟩
 ·obtain ⟨y,e1,e2,e3⟩:=g _ _ e
  rw [e2,e3]
  exact r.ok _ _ e1
 ·obtain ⟨x',a1,a2,a3⟩:=g _ _ ex
  obtain ⟨y',b1,b2,b3⟩:=g _ _ ey
  rw [b2,a2,a3]
  exact r.nx _ _ _ a1 b1
 ·rw [Array.size_modify] at e
  obtain ⟨y,e1,e2,e3⟩:=g _ _ e
  rw [e2,e3]
  exact r.la _ e1
end L2

namespace L2
open PySem PySem.W PyProof.Rows
def kn (x:Keyed):Int:=match x.1 with
 | .int n _=>n
 | _=>0
def kv (xs:Array Keyed) (i:Nat):Int:=match xs[i]? with
 | some x=>kn x
 | none=>0
theorem zabw {xs:Array Keyed}{i:Nat} (h:i < xs.size):kv xs i=kn xs[i]:=by unfold kv; rw [getElem?_pos xs i h]
def bB (left:Bool) (key:Keyed) (xs:Array Keyed) (b i:Nat):Bool:=if left then decide (kv xs (b + i) < kn key) else !decide (kn key < kv xs (b + i))
def Asc (xs:Array Keyed) (b n:Nat):Prop:=∀ i j:Nat,i≤j→j < n→kv xs (b + i)≤kv xs (b + j)
theorem zafd {left:Bool}{key:Keyed}{xs:Array Keyed}{b n:Nat} (m:Asc xs b n) {i j:Nat} (h:i≤j) (hj:j < n) (e:bB left key xs b j=true):bB left key xs b i=true:=by
 have:=m i j h hj
 unfold bB at *
 cases left with
 | true =>
  have e:decide (kv xs (b + j) < kn key)=true:=e
  have e:=of_decide_eq_true e
  exact decide_eq_true (by omega)
 | false =>
  have e:(!decide (kn key < kv xs (b + j)))=true:=e
  have e:¬ kn key < kv xs (b + j):=by simpa using e
  show (!decide (kn key < kv xs (b + i)))=true
  rw [decide_eq_false (by omega)]
  rfl
theorem zaer {left:Bool}{key:Keyed}{xs:Array Keyed}{b n:Nat} (m:Asc xs b n) {i j:Nat} (h:i≤j) (hj:j < n) (e:bB left key xs b i=false):bB left key xs b j=false:=by
 cases z:bB left key xs b j with
 | false=>rfl
 | true=>rw [zafd m h hj z] at e; cases e
section
variable {prog:Program}{w:World}{A:Around}{E:Value→Shared→Prop}{s:Shared}
theorem zalm {st:SortSt}{x y:Keyed}{Q:Option Bool→SortSt→Prop} (hk:kindOf st=oneType') (hx:KI x) (hy:KI y) (h:Q (some (decide (kn x < kn y))) st):wpS (model prog w) A E s (lt' x y) Q st:=by
 obtain ⟨a,t,ex⟩:=hx
 obtain ⟨b,u,ey⟩:=hy
 have e1:kn x=a:=by unfold kn; rw [ex]
 have e2:kn y=b:=by unfold kn; rw [ey]
 rw [e1,e2] at h
 rw [lt'_eq,ex,ey]
 exact wpS_bind (wpS_get (by rw [hk,keyLt'_oneType]; exact wpS_bind (wpS_lift (wpAny_attempt (oneLt_int ⟨rfl,wpS_pure h⟩)))))
theorem zac9 {st:SortSt}{left:Bool}{key:Keyed}{xs:Array Keyed}{b n hint:Nat}{Q:Option Nat→SortSt→Prop} (hk:kindOf st=oneType') (ik:KI key) (ix:∀ i (h:i < xs.size),KI xs[i]) (hb:b + n≤xs.size) (hh:hint < n) (mo:Asc xs b n) (h:∀ k,k≤n→(∀ i,i < k→bB left key xs b i=true)→(∀ i,k≤i→i < n→bB left key xs b i=false)→Q (some k) st):wpS (model prog w) A E s (gal' left key xs b n hint) Q st:=by
 have bn:∀ i,i < n→b + i < xs.size:=fun i hi=>by omega
 have cell:∀ (st1:SortSt) (i:Nat) (hi:i < n) (hk:kindOf st1=oneType') {R:Option Bool→SortSt→Prop},R (some (bB left key xs b i)) st1→wpS (model prog w) A E s (do
   let x ← elem' xs (b + i)
   if left then lt' x key else return (← lt' key x).map (!·)) R st1:=fun st1 i hi hk R hR=>by
  refine wpS_bind (zaa9 (bn _ hi) ?_)
  unfold bB at hR
  rw [zabw (bn _ hi)] at hR
  cases left with
  | true=>exact zalm hk (ix _ _) ik hR
  | false=>exact wpS_bind (zalm hk ik (ix _ _) (wpS_pure hR))
 have bis:∀ (lo hi:Nat),lo≤hi→hi≤n→(∀ i,i < lo→bB left key xs b i=true)→(∀ i,hi≤i→i < n→bB left key xs b i=false)→∀ st1,st1=st→True:=fun _ _ _ _ _ _ _ _=>trivial
 refine wpS_bind (wpS_mono (Q:=fun r st'=>st'=st∧r=some (bB left key xs b hint)) (cell st hint hh hk ⟨rfl,rfl⟩) ?_)
 rintro r st1 ⟨rfl,rfl⟩
 dsimp only
 split
 ·rename_i bh
  refine wpS_bind (wpS_mono (wpS_forRange (I:=fun t c st'=>st'=st1∧∃ x y:Nat,c=(none,x,y)∧x < y∧hint + x < n∧bB left key xs b (hint + x)=true∧t + 1≤y) (Q:=fun c st'=>st'=st1∧∃ x y:Nat,c=(none,x,y)∧x < y∧hint + x < n∧bB left key xs b (hint + x)=true∧(n - hint≤y∨(hint + y < n∧bB left key xs b (hint + y)=false))) ?_ (fun c st' h=>by obtain ⟨a,x,y,e,h1,h2,h3,h4⟩:=h; exact ⟨a,x,y,e,h1,h2,h3,.inl (by simp at h4; omega)⟩) ⟨rfl,0,1,rfl,by omega,by omega,bh,by omega⟩) ?_)
  ·rintro i c st2 _ _ ⟨rfl,x,y,rfl,xy,hx,bx,ty⟩
   dsimp only
   split
   ·rename_i hy
    exact wpS_pure ⟨rfl,_,_,rfl,xy,hx,bx,.inl hy⟩
   ·rename_i hy
    have hy:hint + y < n:=by omega
    refine wpS_bind (wpS_mono (Q:=fun r st'=>st'=st2∧r=some (bB left key xs b (hint + y))) (cell st2 (hint + y) hy hk ⟨rfl,rfl⟩) ?_)
    rintro r st3 ⟨rfl,rfl⟩
    dsimp only
    split
    ·rename_i z
     exact wpS_pure ⟨rfl,_,_,rfl,xy,hx,bx,.inr ⟨hy,by simpa using z⟩⟩
    ·rename_i z
     exact wpS_pure ⟨rfl,_,_,rfl,by omega,hy,by simpa using z,by omega⟩
  rintro c st2 ⟨rfl,x,y,rfl,xy,hx,bx,ey⟩
  dsimp only
  have L1:∀ i,i < hint + x + 1→bB left key xs b i=true:=fun i hi=>zafd mo (show i≤hint + x by omega) hx bx
  have L2:∀ i,hint + min y (n - hint)≤i→i < n→bB left key xs b i=false:=fun i hi hn=>by
   rcases ey with ey | ⟨e1,e2⟩
   ·omega
   ·exact zaer mo (show hint + y≤i by omega) hn e2
  refine wpS_bind (wpS_mono (wpS_forRange (I:=fun t c st'=>st'=st2∧∃ x y:Nat,c=(none,x,y)∧x≤y∧y≤n∧(∀ i,i < x→bB left key xs b i=true)∧(∀ i,y≤i→i < n→bB left key xs b i=false)∧t + (y - x)≤n) (Q:=fun c st'=>st'=st2∧∃ x y:Nat,c=(none,x,y)∧y≤n∧(∀ i,i < y→bB left key xs b i=true)∧(∀ i,y≤i→i < n→bB left key xs b i=false)) ?_ ?_ ⟨rfl,_,_,rfl,by omega,by omega,L1,L2,by omega⟩) ?_)
  ·rintro i c st3 _ _ ⟨rfl,x,y,rfl,xy,hy,l1,l2,tt⟩
   dsimp only
   split
   ·rename_i z
    have z:x=y:=by omega
    subst z
    exact wpS_pure ⟨rfl,_,_,rfl,hy,l1,l2⟩
   ·rename_i z
    have hm:x + (y - x) / 2 < n:=by omega
    refine wpS_bind (wpS_mono (Q:=fun r st'=>st'=st3∧r=some (bB left key xs b (x + (y - x) / 2))) (cell st3 _ hm hk ⟨rfl,rfl⟩) ?_)
    rintro r st4 ⟨rfl,rfl⟩
    dsimp only
    split
    ·rename_i z
     exact wpS_pure ⟨rfl,_,_,rfl,by omega,hy,fun j hj=>zafd mo (show j≤x + (y - x) / 2 by omega) hm z,l2,by omega⟩
    ·rename_i z
     exact wpS_pure ⟨rfl,_,_,rfl,by omega,by omega,l1,fun j hj hn=>zaer mo hj hn (by simpa using z),by omega⟩
  ·rintro c st3 ⟨rfl,x,y,rfl,xy,hy,l1,l2,tt⟩
   simp at tt
   have z:x=y:=by omega
   subst z
   exact ⟨rfl,_,_,rfl,hy,l1,l2⟩
  ·rintro c st3 ⟨rfl,x,y,rfl,hy,l1,l2⟩
   exact wpS_pure (h _ hy l1 l2)
 ·rename_i bh
  have bh:bB left key xs b hint=false:=by simpa using bh
  refine wpS_bind (wpS_mono (wpS_forRange (I:=fun t c st'=>st'=st1∧∃ x y:Nat,c=(none,x,y)∧x < y∧x≤hint∧bB left key xs b (hint - x)=false∧t + 1≤y) (Q:=fun c st'=>st'=st1∧∃ x y:Nat,c=(none,x,y)∧x < y∧x≤hint∧bB left key xs b (hint - x)=false∧(hint + 1≤y∨(y≤hint∧bB left key xs b (hint - y)=true))) ?_ (fun c st' h=>by obtain ⟨a,x,y,e,h1,h2,h3,h4⟩:=h; exact ⟨a,x,y,e,h1,h2,h3,.inl (by simp at h4; omega)⟩) ⟨rfl,0,1,rfl,by omega,by omega,bh,by omega⟩) ?_)
  ·rintro i c st2 _ _ ⟨rfl,x,y,rfl,xy,hx,bx,ty⟩
   dsimp only
   split
   ·rename_i hy
    exact wpS_pure ⟨rfl,_,_,rfl,xy,hx,bx,.inl hy⟩
   ·rename_i hy
    have hy:y≤hint:=by omega
    refine wpS_bind (wpS_mono (Q:=fun r st'=>st'=st2∧r=some (bB left key xs b (hint - y))) (cell st2 (hint - y) (by omega) hk ⟨rfl,rfl⟩) ?_)
    rintro r st3 ⟨rfl,rfl⟩
    dsimp only
    split
    ·rename_i z
     exact wpS_pure ⟨rfl,_,_,rfl,xy,hx,bx,.inr ⟨hy,by simpa using z⟩⟩
    ·rename_i z
     exact wpS_pure ⟨rfl,_,_,rfl,by omega,hy,by simpa using z,by omega⟩
  rintro c st2 ⟨rfl,x,y,rfl,xy,hx,bx,ey⟩
  dsimp only
  have L1:∀ i,i < hint + 1 - min y (hint + 1)→bB left key xs b i=true:=fun i hi=>by
   rcases ey with ey | ⟨e1,e2⟩
   ·omega
   ·exact zafd mo (show i≤hint - y by omega) (by omega) e2
  have L2:∀ i,hint - x≤i→i < n→bB left key xs b i=false:=fun i hi hn=>zaer mo hi hn bx
  refine wpS_bind (wpS_mono (wpS_forRange (I:=fun t c st'=>st'=st2∧∃ x y:Nat,c=(none,x,y)∧x≤y∧y≤n∧(∀ i,i < x→bB left key xs b i=true)∧(∀ i,y≤i→i < n→bB left key xs b i=false)∧t + (y - x)≤n) (Q:=fun c st'=>st'=st2∧∃ x y:Nat,c=(none,x,y)∧y≤n∧(∀ i,i < y→bB left key xs b i=true)∧(∀ i,y≤i→i < n→bB left key xs b i=false)) ?_ ?_ ⟨rfl,_,_,rfl,by omega,by omega,L1,L2,by omega⟩) ?_)
  ·rintro i c st3 _ _ ⟨rfl,x,y,rfl,xy,hy,l1,l2,tt⟩
   dsimp only
   split
   ·rename_i z
    have z:x=y:=by omega
    subst z
    exact wpS_pure ⟨rfl,_,_,rfl,hy,l1,l2⟩
   ·rename_i z
    have hm:x + (y - x) / 2 < n:=by omega
    refine wpS_bind (wpS_mono (Q:=fun r st'=>st'=st3∧r=some (bB left key xs b (x + (y - x) / 2))) (cell st3 _ hm hk ⟨rfl,rfl⟩) ?_)
    rintro r st4 ⟨rfl,rfl⟩
    dsimp only
    split
    ·rename_i z
     exact wpS_pure ⟨rfl,_,_,rfl,by omega,hy,fun j hj=>zafd mo (show j≤x + (y - x) / 2 by omega) hm z,l2,by omega⟩
    ·rename_i z
     exact wpS_pure ⟨rfl,_,_,rfl,by omega,by omega,l1,fun j hj hn=>zaer mo hj hn (by simpa using z),by omega⟩
  ·rintro c st3 ⟨rfl,x,y,rfl,xy,hy,l1,l2,tt⟩
   simp at tt
   have z:x=y:=by omega
   subst z
   exact ⟨rfl,_,_,rfl,hy,l1,l2⟩
  ·rintro c st3 ⟨rfl,x,y,rfl,hy,l1,l2⟩
   exact wpS_pure (h _ hy l1 l2)
end
end L2

namespace L2
open PySem PySem.W PyProof.Rows
def UpK (l:List Keyed):Prop:=l.Pairwise fun x y=>kn x≤kn y
theorem zaln {o l r:List Keyed} (h1:UpK (o++l)) (h2:UpK (o++r)) (h3:∀ x∈l,∀ z∈r,kn x≤kn z):UpK ((o++l)++r):=by
 obtain ⟨_,ur,c⟩:=List.pairwise_append.mp h2
 refine List.pairwise_append.mpr ⟨h1,ur,fun x hx z hz=>?_⟩
 rcases List.mem_append.mp hx with hx | hx
 ·exact c x hx z hz
 ·exact h3 x hx z hz
theorem zalo {o l r:List Keyed} (h:UpK (o++(l++r))):UpK (o++l):=by rw [← List.append_assoc] at h; exact (List.pairwise_append.mp h).1
theorem zalp {a:Array Keyed}{i:Nat}{x:Keyed} (h:a.toList[i]?=some x):kn x=kv a i:=by
 unfold kv
 rw [Array.getElem?_toList] at h
 rw [h]
theorem zaij {a:Array Keyed} (h:UpK a.toList) {i j:Nat} (hij:i≤j) (hj:j < a.size):kv a i≤kv a j:=by
 rcases Nat.lt_or_eq_of_le hij with hij | rfl
 ·have:=List.pairwise_iff_getElem.mp h i j (by simp; omega) (by simpa using hj) hij
  rw [zabw (show i < a.size by omega),zabw hj]
  simpa using this
 ·exact Int.le_refl _
theorem zaf3 {a:Array Keyed} (h:UpK a.toList) {b n:Nat} (hn:b + n≤a.size):Asc a b n:=fun i j hij hj=>zaij h (by omega) (by omega)
theorem zahm {a:Array Keyed}{i:Nat}{x:Keyed} (h:x∈a.toList.drop i):∃ j,i≤j∧j < a.size∧kn x=kv a j:=by
 obtain ⟨j,hj,e⟩:=List.getElem_of_mem h
 rw [List.length_drop,Array.length_toList] at hj
 refine ⟨i + j,by omega,by omega,zalp ?_⟩
 rw [← e,List.getElem_drop,List.getElem?_eq_getElem]
theorem zafe {a:Array Keyed}{i k:Nat}{x:Keyed} (h:x∈(a.toList.drop i).take k):∃ j,j < k∧i + j < a.size∧kn x=kv a (i + j):=by
 obtain ⟨j,hj,e⟩:=List.getElem_of_mem h
 rw [List.length_take,List.length_drop,Array.length_toList] at hj
 refine ⟨j,by omega,by omega,zalp ?_⟩
 rw [← e,List.getElem_take,List.getElem_drop,List.getElem?_eq_getElem]
structure Mrg (a b out:Array Keyed):Prop where
 pm:out.toList.Perm (a.toList++b.toList)
 up:UpK out.toList
structure MGo (a b out:Array Keyed) (ia ib:Nat):Prop where
 g:MG a b out ia ib
 oa:UpK (out.toList++a.toList.drop ia)
 ob:UpK (out.toList++b.toList.drop ib)
theorem zadz (l:List Keyed) (i k:Nat):l.drop i=(l.drop i).take k++l.drop (i + k):=by rw [← List.drop_drop,List.take_append_drop]
theorem zad0 (a:Array Keyed) (i k:Nat):(a.extract i (i + k)).toList=(a.toList.drop i).take k:=by simp [Array.toList_extract,List.extract_eq_take_drop,Nat.add_sub_cancel_left]
theorem zagj (a:Array Keyed) (i:Nat):(a.extract i a.size).toList=a.toList.drop i:=by
 rw [Array.toList_extract,List.extract_eq_take_drop,List.take_of_length_le (by simp)]
theorem MGo.ak {a b out:Array Keyed}{ia ib:Nat} (m:MGo a b out ia ib) (k:Nat) (sb:UpK b.toList) (le:ib < b.size→∀ i,i < k→ia + i < a.size→kv a (ia + i)≤kv b ib):MGo a b (out++a.extract ia (ia + k)) (ia + k) ib:=by
 refine ⟨m.g.ak k,?_,?_⟩
 ·rw [Array.toList_append,zad0,List.append_assoc,← zadz]; exact m.oa
 ·rw [Array.toList_append,zad0]
  have oa:=m.oa
  rw [zadz a.toList ia k] at oa
  refine zaln (zalo oa) m.ob fun x hx z hz=>?_
  obtain ⟨i,hi,ha,e1⟩:=zafe hx
  obtain ⟨j,hj,hb,e2⟩:=zahm hz
  have:=le (by omega) i hi ha
  have:=zaij sb hj hb
  omega
theorem MGo.bk {a b out:Array Keyed}{ia ib:Nat} (m:MGo a b out ia ib) (k:Nat) (sa:UpK a.toList) (le:ia < a.size→∀ i,i < k→ib + i < b.size→kv b (ib + i)≤kv a ia):MGo a b (out++b.extract ib (ib + k)) ia (ib + k):=by
 refine ⟨m.g.bk k,?_,?_⟩
 ·rw [Array.toList_append,zad0]
  have ob:=m.ob
  rw [zadz b.toList ib k] at ob
  refine zaln (zalo ob) m.oa fun x hx z hz=>?_
  obtain ⟨i,hi,ha,e1⟩:=zafe hx
  obtain ⟨j,hj,hb,e2⟩:=zahm hz
  have:=le (by omega) i hi ha
  have:=zaij sa hj hb
  omega
 ·rw [Array.toList_append,zad0,List.append_assoc,← zadz]; exact m.ob
theorem zaje {a out:Array Keyed}{i:Nat} (h:i < a.size):(out.push a[i]).toList=(out++a.extract i (i + 1)).toList:=by
 rw [Array.toList_append,zad0,List.drop_eq_getElem_cons (show i < a.toList.length by simpa using h)]
 simp
theorem MGo.a {a b out:Array Keyed}{ia ib:Nat} (m:MGo a b out ia ib) (h:ia < a.size) (sb:UpK b.toList) (le:ib < b.size→kv a ia≤kv b ib):MGo a b (out.push a[ia]) (ia + 1) ib:=by
 have k:=m.ak 1 sb fun h1 i hi h2=>by rw [show ia + i=ia by omega]; exact le h1
 refine ⟨m.g.a h,?_,?_⟩ <;> rw [zaje h]
 ·exact k.oa
 ·exact k.ob
theorem MGo.b {a b out:Array Keyed}{ia ib:Nat} (m:MGo a b out ia ib) (h:ib < b.size) (sa:UpK a.toList) (le:ia < a.size→kv b ib≤kv a ia):MGo a b (out.push b[ib]) ia (ib + 1):=by
 have k:=m.bk 1 sa fun h1 i hi h2=>by rw [show ib + i=ib by omega]; exact le h1
 refine ⟨m.g.b h,?_,?_⟩ <;> rw [zaje h]
 ·exact k.oa
 ·exact k.ob
theorem MGo.done {a b out:Array Keyed}{ia ib:Nat} (m:MGo a b out ia ib) (h:a.size≤ia∨b.size≤ib):Mrg a b (out++a.extract ia a.size++b.extract ib b.size):=by
 refine ⟨m.g.done,?_⟩
 rw [Array.toList_append,Array.toList_append,zagj,zagj]
 rcases h with h | h
 ·rw [List.drop_of_length_le (show a.toList.length≤ia by simpa using h),List.append_nil]; exact m.ob
 ·rw [List.drop_of_length_le (show b.toList.length≤ib by simpa using h),List.append_nil]; exact m.oa
theorem MGo.last {a b out:Array Keyed}{ia ib:Nat} (m:MGo a b out ia ib) (h:ia + 1=a.size) (lb:∀ j,j < b.size→kv b j≤kv a (a.size - 1)):Mrg a b (out++b.extract ib b.size++a.extract ia a.size):=by
 refine ⟨m.g.last,?_⟩
 rw [Array.toList_append,Array.toList_append,zagj,zagj]
 refine zaln m.ob m.oa fun x hx z hz=>?_
 obtain ⟨i,hi,ha,e1⟩:=zahm hx
 obtain ⟨j,hj,hb,e2⟩:=zahm hz
 have:=lb i ha
 rw [show a.size - 1=j by omega] at this
 omega
section
variable {prog:Program}{w:World}{A:Around}{E:Value→Shared→Prop}{s:Shared}
theorem zaqi {st:SortSt}{a b:Array Keyed}{Q:Array Keyed→SortSt→Prop} (hk:kindOf st=oneType') (ia:∀ i (h:i < a.size),KI a[i]) (ib:∀ i (h:i < b.size),KI b[i]) (ha:0 < a.size) (hb:0 < b.size) (sa:UpK a.toList) (sb:UpK b.toList) (l0:kv b 0≤kv a 0) (lb:∀ j,j < b.size→kv b j≤kv a (a.size - 1))
  (h:∀ out st',Mrg a b out→SG st st'→Q out st'):wpS (model prog w) A E s (mlo' a b) Q st:=by
 refine wpS_bind (zaf2 ?_)
 refine wpS_bind (zaa9 hb ?_)
 have m0g:MG a b #[b[0]] 0 1:=by
  refine ⟨?_⟩
  have e:b.toList=b[0] :: b.toList.drop 1:=by
   have:=List.drop_eq_getElem_cons (l:=b.toList) (i:=0) (by simpa using hb)
   simpa using this
  rw [List.drop_zero]
  conv=>rhs; rw [e]
  show (b[0] :: (a.toList++b.toList.drop 1)).Perm _
  exact (List.perm_middle (a:=b[0])).symm
 have m0:MGo a b #[b[0]] 0 1:=by
  refine ⟨m0g,?_,?_⟩
  ·show UpK (b[0] :: a.toList.drop 0)
   refine List.pairwise_cons.mpr ⟨fun z hz=>?_,by rw [List.drop_zero]; exact sa⟩
   obtain ⟨j,hj,h2,e⟩:=zahm hz
   have:=zaij sa (Nat.zero_le j) h2
   rw [← zabw hb]
   omega
  ·have e:b.toList=b[0] :: b.toList.drop 1:=by
    have:=List.drop_eq_getElem_cons (l:=b.toList) (i:=0) (by simpa using hb)
    simpa using this
   show UpK (b[0] :: b.toList.drop 1)
   rw [← e]
   exact sb
 have rt:∀ out st',Mrg a b out→SG st st'→wpS (model prog w) A E s (pure out:StateT SortSt Sem (Array Keyed)) Q st':=fun out st' p g=>wpS_pure (h out st' p g)
 refine zaa6 (fun e=>rt _ _ (m0.done (.inr (by simp at e; omega))) (SG.refl _)) (fun n1=>?_)
 refine zaa6 (fun e=>rt _ _ (m0.last (by simp at e; omega) lb) (SG.refl _)) (fun n2=>?_)
 have n1:1 < b.size:=by simp at n1; omega
 have n2:1 < a.size:=by simp at n2; omega
 refine wpS_bind (wpS_get ?_)
 refine wpS_bind (wpS_mono (wpS_forRange (I:=fun x c st'=>SG st st'∧∃ out ja jb g,c=(none,out,ja,jb,g)∧MGo a b out ja jb∧ja + 1 < a.size∧jb < b.size∧x + (a.size - ja) + (b.size - jb) + 1≤a.size + b.size) (Q:=fun c st'=>SG st st'∧∃ out,c.1=some out∧Mrg a b out) ?_ ?_ ⟨SG.refl _,_,0,1,_,rfl,m0,n2,n1,by omega⟩) ?_)
 ·rintro x c st1 _ hx ⟨sg,out,ja,jb,g,rfl,m,ha1,hb1,hr⟩
  have hk1:kindOf st1=oneType':=sg.kind.trans hk
  refine wpS_bind (wpS_mono (wpS_forRange (I:=fun y c st'=>st'=st1∧∃ out ja' jb' p q,c=(none,out,ja',jb',p,q)∧MGo a b out ja' jb'∧ja' + 1 < a.size∧jb' < b.size∧y + (a.size - ja') + (b.size - jb')≤(a.size - ja) + (b.size - jb))
   (Q:=fun c st'=>st'=st1∧((∃ out,c.1=some out∧Mrg a b out)∨∃ out ja' jb' p q,c=(none,out,ja',jb',p,q)∧MGo a b out ja' jb'∧ja' + 1 < a.size∧jb' < b.size∧1 + (a.size - ja') + (b.size - jb')≤(a.size - ja) + (b.size - jb))) ?_ ?_ ⟨rfl,out,ja,jb,0,0,rfl,m,ha1,hb1,by omega⟩) ?_)
  ·rintro y c st2 _ hy ⟨rfl,out,ja',jb',p,q,rfl,m,ha2,hb2,hr2⟩
   refine wpS_bind (zaa9 hb2 (wpS_bind (zaa9 (show ja' < a.size by omega) (wpS_bind (zalm hk1 (ib _ _) (ia _ _) ?_)))))
   refine zaa6 (fun cc=>wpS_bind (zaa9 hb2 ?_)) (fun cc=>wpS_bind (zaa9 (show ja' < a.size by omega) ?_))
   ·have cc:kv b jb' < kv a ja':=by rw [zabw hb2,zabw (show ja' < a.size by omega)]; exact of_decide_eq_true cc
    have mb:=m.b hb2 sa fun _=>by omega
    refine zaa6 (fun e=>wpS_pure ⟨rfl,.inl ⟨_,rfl,mb.done (.inr (by have e:(jb' + 1 == b.size)=true:=e; simp at e; omega))⟩⟩) (fun ne=>?_)
    have ne:jb' + 1 < b.size:=by simp at ne; omega
    exact zaa6 (fun _=>wpS_pure ⟨rfl,.inr ⟨_,ja',jb' + 1,_,_,rfl,mb,ha2,ne,by omega⟩⟩) (fun _=>wpS_pure ⟨rfl,_,ja',jb' + 1,_,_,rfl,mb,ha2,ne,by omega⟩)
   ·have cc:¬ kv b jb' < kv a ja':=by rw [zabw hb2,zabw (show ja' < a.size by omega)]; exact of_decide_eq_false (by simpa using cc)
    have ma:=m.a (show ja' < a.size by omega) sb fun _=>by omega
    refine zaa6 (fun e=>wpS_pure ⟨rfl,.inl ⟨_,rfl,ma.last (by have e:(ja' + 1 + 1 == a.size)=true:=e; simp at e; omega) lb⟩⟩) (fun ne=>?_)
    have ne:ja' + 1 + 1 < a.size:=by simp at ne; omega
    exact zaa6 (fun _=>wpS_pure ⟨rfl,.inr ⟨_,ja' + 1,jb',_,_,rfl,ma,ne,hb2,by omega⟩⟩) (fun _=>wpS_pure ⟨rfl,_,ja' + 1,jb',_,_,rfl,ma,ne,hb2,by omega⟩)
  ·rintro c st2 ⟨rfl,out,ja',jb',p,q,rfl,m,ha2,hb2,hr2⟩
   exact ⟨rfl,.inr ⟨_,_,_,_,_,rfl,m,ha2,hb2,by omega⟩⟩
  rintro c st2 ⟨rfl,hc⟩
  rcases hc with ⟨out,hc,pm⟩ | ⟨out,ja',jb',p,q,rfl,m,ha2,hb2,hr2⟩
  ·obtain ⟨c1,c2⟩:=c
   dsimp only at hc
   subst hc
   exact wpS_pure ⟨sg,_,rfl,pm⟩
  refine wpS_bind (zaf2 ?_)
  refine wpS_bind (wpS_mono (wpS_forRange (I:=fun y c st'=>SG st st'∧∃ out ja2 jb2 mg p q,c=(none,out,ja2,jb2,mg,p,q)∧MGo a b out ja2 jb2∧ja2 + 1 < a.size∧jb2 < b.size∧(a.size - ja2) + (b.size - jb2)≤(a.size - ja') + (b.size - jb'))
   (Q:=fun c st'=>SG st st'∧((∃ out,c.1=some out∧Mrg a b out)∨∃ out ja2 jb2 mg p q,c=(none,out,ja2,jb2,mg,p,q)∧MGo a b out ja2 jb2∧ja2 + 1 < a.size∧jb2 < b.size∧(a.size - ja2) + (b.size - jb2)≤(a.size - ja') + (b.size - jb'))) ?_ ?_ ⟨sg,out,ja',jb',g + 1,p,q,rfl,m,ha2,hb2,by omega⟩) ?_)
  ·rintro y c st3 _ hy ⟨sg3,out,ja2,jb2,mg,p,q,rfl,m,ha3,hb3,hr3⟩
   refine zaa6 (fun _=>wpS_bind (wpS_modify ?_)) (fun _=>wpS_bind (wpS_modify ?_))
   all_goals
    have sgn:=sg3.put
    have hk3:=sg3.kind.trans hk
    refine wpS_bind (zaa9 hb3 ?_)
    refine wpS_bind (zac9 (b:=ja2) (n:=a.size - ja2) (hint:=0) hk3 (ib _ _) ia (by omega) (by omega) (zaf3 sa (by omega)) fun k1 hk1 g1 g2=>?_)
    have g1:∀ i,i < k1→kv a (ja2 + i)≤kv b jb2:=fun i hi=>by have:=g1 i hi; unfold bB at this; rw [← zabw hb3] at this; simp at this; omega
    have g2:∀ i,k1≤i→i < a.size - ja2→kv b jb2 < kv a (ja2 + i):=fun i hi hn=>by have:=g2 i hi hn; unfold bB at this; rw [← zabw hb3] at this; simp at this; omega
    have mk:=m.ak k1 sb fun _ i hi _=>g1 i hi
    refine zaa6 (fun kp=>zaa6 (fun e=>wpS_pure ⟨sgn _,.inl ⟨_,rfl,mk.last (by have e:(ja2 + k1 + 1 == a.size)=true:=e; simp at e; omega) lb⟩⟩) (fun n3=>zaa6 (fun e=>wpS_pure ⟨sgn _,.inl ⟨_,rfl,mk.done (.inl (by have e:(ja2 + k1 == a.size)=true:=e; simp at e; omega))⟩⟩) (fun n4=>?_))) (fun kp=>?_)
    ·have n4:ja2 + k1 + 1 < a.size:=by
      have n3:¬ (ja2 + k1 + 1 == a.size)=true:=n3
      have n4:¬ (ja2 + k1 == a.size)=true:=n4
      simp at n3 n4; omega
     refine wpS_bind (zaa9 hb3 ?_)
     have mb:=MGo.b mk hb3 sa fun h9=>by have:=g2 k1 (Nat.le_refl _) (by omega); omega
     refine zaa6 (fun e=>wpS_pure ⟨sgn _,.inl ⟨_,rfl,mb.done (.inr (by have e:(jb2 + 1 == b.size)=true:=e; simp at e; omega))⟩⟩) (fun ne=>?_)
     have ne:jb2 + 1 < b.size:=by
      have ne:¬ (jb2 + 1 == b.size)=true:=ne
      simp at ne; omega
     refine wpS_bind (zaa9 (show (ja2 + k1) < a.size by omega) ?_)
     refine wpS_bind (zac9 (b:=jb2 + 1) (n:=b.size - (jb2 + 1)) (hint:=0) hk3 (ia _ _) ib (by omega) (by omega) (zaf3 sb (by omega)) fun k2 hk2 g3 g4=>?_)
     have g3:∀ i,i < k2→kv b (jb2 + 1 + i) < kv a (ja2 + k1):=fun i hi=>by have:=g3 i hi; unfold bB at this; rw [← zabw (show (ja2 + k1) < a.size by omega)] at this; simpa using this
     have g4:∀ i,k2≤i→i < b.size - (jb2 + 1)→kv a (ja2 + k1)≤kv b (jb2 + 1 + i):=fun i hi hn=>by have:=g4 i hi hn; unfold bB at this; rw [← zabw (show (ja2 + k1) < a.size by omega)] at this; simpa using this
     have mbk:=mb.bk k2 sa fun _ i hi _=>by have:=g3 i hi; omega
     refine zaa6 (fun kp2=>zaa6 (fun e=>wpS_pure ⟨sgn _,.inl ⟨_,rfl,mbk.done (.inr (by have e:(jb2 + 1 + k2 == b.size)=true:=e; simp at e; omega))⟩⟩) (fun ne2=>?_)) (fun kp2=>?_)
     ·have ne2:jb2 + 1 + k2 < b.size:=by
       have ne2:¬ (jb2 + 1 + k2 == b.size)=true:=ne2
       simp at ne2; omega
      refine wpS_bind (zaa9 (show (ja2 + k1) < a.size by omega) ?_)
      have ma:=mbk.a (show (ja2 + k1) < a.size by omega) sb fun h9=>g4 k2 (Nat.le_refl _) (by omega)
      refine zaa6 (fun e=>wpS_pure ⟨sgn _,.inl ⟨_,rfl,ma.last (by have e:((ja2 + k1) + 1 + 1 == a.size)=true:=e; simp at e; omega) lb⟩⟩) (fun ne3=>?_)
      have ne3:(ja2 + k1) + 1 + 1 < a.size:=by
       have ne3:¬ ((ja2 + k1) + 1 + 1 == a.size)=true:=ne3
       simp at ne3; omega
      exact zaa6 (fun _=>wpS_pure ⟨sgn _,.inr ⟨_,(ja2 + k1) + 1,jb2 + 1 + k2,_,_,_,rfl,ma,ne3,ne2,by omega⟩⟩) (fun _=>wpS_pure ⟨sgn _,_,(ja2 + k1) + 1,jb2 + 1 + k2,_,_,_,rfl,ma,ne3,ne2,by omega⟩)
     ·refine wpS_bind (zaa9 (show (ja2 + k1) < a.size by omega) ?_)
      have kz2:k2=0:=by have kp2:¬ k2 > 0:=kp2; omega
      have ma:=mb.a (show (ja2 + k1) < a.size by omega) sb fun h9=>by have:=g4 0 (by omega) (by omega); rwa [Nat.add_zero] at this
      refine zaa6 (fun e=>wpS_pure ⟨sgn _,.inl ⟨_,rfl,ma.last (by have e:((ja2 + k1) + 1 + 1 == a.size)=true:=e; simp at e; omega) lb⟩⟩) (fun ne3=>?_)
      have ne3:(ja2 + k1) + 1 + 1 < a.size:=by
       have ne3:¬ ((ja2 + k1) + 1 + 1 == a.size)=true:=ne3
       simp at ne3; omega
      exact zaa6 (fun _=>wpS_pure ⟨sgn _,.inr ⟨_,(ja2 + k1) + 1,jb2 + 1,_,_,_,rfl,ma,ne3,ne,by omega⟩⟩) (fun _=>wpS_pure ⟨sgn _,_,(ja2 + k1) + 1,jb2 + 1,_,_,_,rfl,ma,ne3,ne,by omega⟩)
    ·skip
     refine wpS_bind (zaa9 hb3 ?_)
     have kz:k1=0:=by have kp:¬ k1 > 0:=kp; omega
     subst kz
     have mb:=MGo.b m hb3 sa fun h9=>by have:=g2 0 (Nat.le_refl _) (by omega); rw [Nat.add_zero] at this; omega
     refine zaa6 (fun e=>wpS_pure ⟨sgn _,.inl ⟨_,rfl,mb.done (.inr (by have e:(jb2 + 1 == b.size)=true:=e; simp at e; omega))⟩⟩) (fun ne=>?_)
     have ne:jb2 + 1 < b.size:=by
      have ne:¬ (jb2 + 1 == b.size)=true:=ne
      simp at ne; omega
     refine wpS_bind (zaa9 (show ja2 < a.size by omega) ?_)
     refine wpS_bind (zac9 (b:=jb2 + 1) (n:=b.size - (jb2 + 1)) (hint:=0) hk3 (ia _ _) ib (by omega) (by omega) (zaf3 sb (by omega)) fun k2 hk2 g3 g4=>?_)
     have g3:∀ i,i < k2→kv b (jb2 + 1 + i) < kv a ja2:=fun i hi=>by have:=g3 i hi; unfold bB at this; rw [← zabw (show ja2 < a.size by omega)] at this; simpa using this
     have g4:∀ i,k2≤i→i < b.size - (jb2 + 1)→kv a ja2≤kv b (jb2 + 1 + i):=fun i hi hn=>by have:=g4 i hi hn; unfold bB at this; rw [← zabw (show ja2 < a.size by omega)] at this; simpa using this
     have mbk:=mb.bk k2 sa fun _ i hi _=>by have:=g3 i hi; omega
     refine zaa6 (fun kp2=>zaa6 (fun e=>wpS_pure ⟨sgn _,.inl ⟨_,rfl,mbk.done (.inr (by have e:(jb2 + 1 + k2 == b.size)=true:=e; simp at e; omega))⟩⟩) (fun ne2=>?_)) (fun kp2=>?_)
     ·have ne2:jb2 + 1 + k2 < b.size:=by
       have ne2:¬ (jb2 + 1 + k2 == b.size)=true:=ne2
       simp at ne2; omega
      refine wpS_bind (zaa9 (show ja2 < a.size by omega) ?_)
      have ma:=mbk.a (show ja2 < a.size by omega) sb fun h9=>g4 k2 (Nat.le_refl _) (by omega)
      refine zaa6 (fun e=>wpS_pure ⟨sgn _,.inl ⟨_,rfl,ma.last (by have e:(ja2 + 1 + 1 == a.size)=true:=e; simp at e; omega) lb⟩⟩) (fun ne3=>?_)
      have ne3:ja2 + 1 + 1 < a.size:=by
       have ne3:¬ (ja2 + 1 + 1 == a.size)=true:=ne3
       simp at ne3; omega
      exact zaa6 (fun _=>wpS_pure ⟨sgn _,.inr ⟨_,ja2 + 1,jb2 + 1 + k2,_,_,_,rfl,ma,ne3,ne2,by omega⟩⟩) (fun _=>wpS_pure ⟨sgn _,_,ja2 + 1,jb2 + 1 + k2,_,_,_,rfl,ma,ne3,ne2,by omega⟩)
     ·refine wpS_bind (zaa9 (show ja2 < a.size by omega) ?_)
      have kz2:k2=0:=by have kp2:¬ k2 > 0:=kp2; omega
      have ma:=mb.a (show ja2 < a.size by omega) sb fun h9=>by have:=g4 0 (by omega) (by omega); rwa [Nat.add_zero] at this
      refine zaa6 (fun e=>wpS_pure ⟨sgn _,.inl ⟨_,rfl,ma.last (by have e:(ja2 + 1 + 1 == a.size)=true:=e; simp at e; omega) lb⟩⟩) (fun ne3=>?_)
      have ne3:ja2 + 1 + 1 < a.size:=by
       have ne3:¬ (ja2 + 1 + 1 == a.size)=true:=ne3
       simp at ne3; omega
      exact zaa6 (fun _=>wpS_pure ⟨sgn _,.inr ⟨_,ja2 + 1,jb2 + 1,_,_,_,rfl,ma,ne3,ne,by omega⟩⟩) (fun _=>wpS_pure ⟨sgn _,_,ja2 + 1,jb2 + 1,_,_,_,rfl,ma,ne3,ne,by omega⟩)
  ·rintro c st3 ⟨sg3,out,ja2,jb2,mg,p,q,rfl,m,ha3,hb3,hr3⟩
   exact ⟨sg3,.inr ⟨_,_,_,_,_,_,rfl,m,ha3,hb3,hr3⟩⟩
  rintro c st3 ⟨sg3,hc⟩
  rcases hc with ⟨out,hc,pm⟩ | ⟨out,ja2,jb2,mg,p,q,rfl,m,ha3,hb3,hr3⟩
  ·obtain ⟨c1,c2⟩:=c
   dsimp only at hc
   subst hc
   exact wpS_pure ⟨sg3,_,rfl,pm⟩
  refine wpS_bind (wpS_modify (wpS_pure ⟨⟨sg3.arr,sg3.kind,sg3.pend,sg3.fail⟩,_,ja2,jb2,_,rfl,m,ha3,hb3,by omega⟩))
 ·rintro c st1 ⟨sg,out,ja,jb,g,rfl,m,ha1,hb1,hr⟩
  omega
 ·rintro c st1 ⟨sg,out,hc,pm⟩
  obtain ⟨c1,c2⟩:=c
  dsimp only at hc
  subst hc
  exact rt _ _ pm sg
end
end L2

namespace L2
open PySem PySem.W PyProof.Rows
theorem zaik {l m r:List Keyed} (h1:UpK (l++r)) (h2:UpK (m++r)) (h3:∀ x∈l,∀ z∈m,kn x≤kn z):UpK (l++(m++r)):=by
 obtain ⟨ul,_,c⟩:=List.pairwise_append.mp h1
 refine List.pairwise_append.mpr ⟨ul,h2,fun x hx z hz=>?_⟩
 rcases List.mem_append.mp hz with hz | hz
 ·exact h3 x hx z hz
 ·exact c x hx z hz
theorem zacw {a:Array Keyed}{n:Nat}{x:Keyed} (h:x∈a.toList.take n):∃ j,j < n∧j < a.size∧kn x=kv a j:=by
 obtain ⟨j,h1,h2,e⟩:=zafe (a:=a) (i:=0) (k:=n) (by rw [List.drop_zero]; exact h)
 rw [Nat.zero_add] at h2 e
 exact ⟨j,h1,h2,e⟩
theorem zajf {l m r:List Keyed} (h:UpK ((l++m)++r)):UpK (m++r):=by rw [List.append_assoc] at h; exact (List.pairwise_append.mp h).2.1
structure MHo (a b out:Array Keyed) (na nb:Nat):Prop where
 g:MH a b out na nb
 oa:UpK (a.toList.take na++out.toList.reverse)
 ob:UpK (b.toList.take nb++out.toList.reverse)
theorem zaff (a out:Array Keyed) (i n:Nat):(out++(a.extract i n).reverse).toList.reverse=(a.toList.drop i).take (n - i)++out.toList.reverse:=by
 simp only [Array.toList_append,Array.toList_reverse,Array.toList_extract,List.extract_eq_take_drop,List.reverse_append,List.reverse_reverse]
theorem MHo.ak {a b out:Array Keyed}{na nb i:Nat} (m:MHo a b out na nb) (h:i≤na) (sb:UpK b.toList) (lb:nb≤b.size) (le:0 < nb→∀ j,i≤j→j < na→kv b (nb - 1)≤kv a j):MHo a b (out++(a.extract i na).reverse) i nb:=by
 have oa:=m.oa
 rw [zaeq h] at oa
 refine ⟨m.g.ak h,?_,?_⟩
 ·rw [zaff,← List.append_assoc]; exact oa
 ·rw [zaff]
  refine zaik m.ob (zajf oa) fun x hx z hz=>?_
  obtain ⟨j1,h1,h2,e1⟩:=zacw hx
  obtain ⟨j2,h3,h4,e2⟩:=zafe hz
  have:=le (by omega) (i + j2) (by omega) (by omega)
  have:=zaij sb (show j1≤nb - 1 by omega) (by omega)
  omega
theorem MHo.bk {a b out:Array Keyed}{na nb i:Nat} (m:MHo a b out na nb) (h:i≤nb) (sa:UpK a.toList) (la:na≤a.size) (le:0 < na→∀ j,i≤j→j < nb→kv a (na - 1)≤kv b j):MHo a b (out++(b.extract i nb).reverse) na i:=by
 have ob:=m.ob
 rw [zaeq h] at ob
 refine ⟨m.g.bk h,?_,?_⟩
 ·rw [zaff]
  refine zaik m.oa (zajf ob) fun x hx z hz=>?_
  obtain ⟨j1,h1,h2,e1⟩:=zacw hx
  obtain ⟨j2,h3,h4,e2⟩:=zafe hz
  have:=le (by omega) (i + j2) (by omega) (by omega)
  have:=zaij sa (show j1≤na - 1 by omega) (by omega)
  omega
 ·rw [zaff,← List.append_assoc]; exact ob
theorem zajg {a out:Array Keyed}{i:Nat} (h:i < a.size):(out.push a[i]).toList.reverse=(out++(a.extract i (i + 1)).reverse).toList.reverse:=by
 rw [zaff,show i + 1 - i=1 by omega,List.drop_eq_getElem_cons (show i < a.toList.length by simpa using h)]
 simp
theorem MHo.a {a b out:Array Keyed}{na nb:Nat} (m:MHo a b out (na + 1) nb) (h:na < a.size) (sb:UpK b.toList) (lb:nb≤b.size) (le:0 < nb→kv b (nb - 1)≤kv a na):MHo a b (out.push a[na]) na nb:=by
 have k:=m.ak (i:=na) (by omega) sb lb fun h1 j h2 h3=>by rw [show j=na by omega]; exact le h1
 refine ⟨m.g.a h,?_,?_⟩ <;> rw [zajg h]
 ·exact k.oa
 ·exact k.ob
theorem MHo.a' {a b out:Array Keyed}{na nb:Nat} (m:MHo a b out na nb) (h1:1≤na) (h:na - 1 < a.size) (sb:UpK b.toList) (lb:nb≤b.size) (le:0 < nb→kv b (nb - 1)≤kv a (na - 1)):MHo a b (out.push a[na - 1]) (na - 1) nb:=by
 obtain ⟨u,rfl⟩:∃ u,na=u + 1:=⟨na - 1,by omega⟩
 exact m.a h sb lb le
theorem MHo.b {a b out:Array Keyed}{na nb:Nat} (m:MHo a b out na (nb + 1)) (h:nb < b.size) (sa:UpK a.toList) (la:na≤a.size) (le:0 < na→kv a (na - 1)≤kv b nb):MHo a b (out.push b[nb]) na nb:=by
 have k:=m.bk (i:=nb) (by omega) sa la fun h1 j h2 h3=>by rw [show j=nb by omega]; exact le h1
 refine ⟨m.g.b h,?_,?_⟩ <;> rw [zajg h]
 ·exact k.oa
 ·exact k.ob
theorem zaes (a:Array Keyed) (n:Nat):(a.extract 0 n).toList=a.toList.take n:=by simp [Array.toList_extract,List.extract_eq_take_drop]
theorem MHo.done {a b out:Array Keyed}{na nb:Nat} (m:MHo a b out na nb) (h:na=0∨nb=0):Mrg a b (a.extract 0 na++b.extract 0 nb++out.reverse):=by
 refine ⟨m.g.done,?_⟩
 rw [Array.toList_append,Array.toList_append,zaes,zaes,Array.toList_reverse]
 rcases h with rfl | rfl
 ·exact m.ob
 ·rw [List.take_zero,List.append_nil]; exact m.oa
theorem MHo.first {a b out:Array Keyed}{na nb:Nat} (m:MHo a b out na nb) (h:nb=1) (fb:∀ j,j < a.size→kv b 0≤kv a j):Mrg a b (b.extract 0 nb++a.extract 0 na++out.reverse):=by
 refine ⟨m.g.first,?_⟩
 rw [Array.toList_append,Array.toList_append,zaes,zaes,Array.toList_reverse,List.append_assoc]
 refine zaik m.ob m.oa fun x hx z hz=>?_
 obtain ⟨j1,h1,h2,e1⟩:=zacw hx
 obtain ⟨j2,h3,h4,e2⟩:=zacw hz
 have:=fb j2 h4
 rw [show j1=0 by omega] at e1
 omega
section
variable {prog:Program}{w:World}{A:Around}{E:Value→Shared→Prop}{s:Shared}
theorem zaqj {st:SortSt}{a b:Array Keyed}{Q:Array Keyed→SortSt→Prop} (hk:kindOf st=oneType') (ia:∀ i (h:i < a.size),KI a[i]) (ib:∀ i (h:i < b.size),KI b[i]) (ha:0 < a.size) (hb:0 < b.size) (sa:UpK a.toList) (sb:UpK b.toList) (fb:∀ j,j < a.size→kv b 0≤kv a j) (lb:kv b (b.size - 1)≤kv a (a.size - 1))
  (h:∀ out st',Mrg a b out→SG st st'→Q out st'):wpS (model prog w) A E s (mhi' a b) Q st:=by
 have la:a.size - 1 < a.size:=by omega
 refine wpS_bind (zaf2 (wpS_bind (zaa9 la ?_)))
 have m0:MHo a b #[a[a.size - 1]] (a.size - 1) b.size:=by
  have mg:MH a b #[] (a.size - 1 + 1) b.size:=by
   refine ⟨List.Perm.of_eq ?_⟩
   rw [show a.size - 1 + 1=a.size by omega]
   simp [List.take_of_length_le]
  have m:MHo a b #[] (a.size - 1 + 1) b.size:=by
   refine ⟨mg,?_,?_⟩
   ·rw [show a.size - 1 + 1=a.size by omega,List.take_of_length_le (by simp)]
    simpa using sa
   ·rw [List.take_of_length_le (by simp)]
    simpa using sb
  exact m.a la sb (Nat.le_refl _) fun _=>lb
 have rt:∀ out st',Mrg a b out→SG st st'→wpS (model prog w) A E s (pure out:StateT SortSt Sem (Array Keyed)) Q st':=fun out st' p g=>wpS_pure (h out st' p g)
 refine zaa6 (fun e=>rt _ _ (m0.done (.inl (by simp at e; omega))) (SG.refl _)) (fun n1=>?_)
 refine zaa6 (fun e=>rt _ _ (m0.first (by simpa using e) fb) (SG.refl _)) (fun n2=>?_)
 have n1:1≤a.size - 1:=by simp at n1; omega
 have n2:2≤b.size:=by simp at n2; omega
 refine wpS_bind (wpS_get ?_)
 refine wpS_bind (wpS_mono (wpS_forRange (I:=fun x c st'=>SG st st'∧∃ out na nb g,c=(none,na,nb,out,g)∧MHo a b out na nb∧1≤na∧2≤nb∧na≤a.size∧nb≤b.size∧x + na + nb + 1≤a.size + b.size) (Q:=fun c st'=>SG st st'∧∃ out,c.1=some out∧Mrg a b out) ?_ ?_ ⟨SG.refl _,_,a.size - 1,b.size,_,rfl,m0,n1,n2,by omega,by omega,by omega⟩) ?_)
 ·rintro x c st1 _ hx ⟨sg,out,na,nb,g,rfl,m,ha1,hb1,la1,lb1,hr⟩
  have hk1:kindOf st1=oneType':=sg.kind.trans hk
  refine wpS_bind (wpS_mono (wpS_forRange (I:=fun y c st'=>st'=st1∧∃ out u v p q,c=(none,u,v,out,p,q)∧MHo a b out u v∧1≤u∧2≤v∧u≤a.size∧v≤b.size∧y + u + v≤na + nb)
   (Q:=fun c st'=>st'=st1∧((∃ out,c.1=some out∧Mrg a b out)∨∃ out u v p q,c=(none,u,v,out,p,q)∧MHo a b out u v∧1≤u∧2≤v∧u≤a.size∧v≤b.size∧1 + u + v≤na + nb)) ?_ ?_ ⟨rfl,out,na,nb,0,0,rfl,m,ha1,hb1,la1,lb1,by omega⟩) ?_)
  ·rintro y c st2 _ hy ⟨rfl,out,u,v,p,q,rfl,m,ha2,hb2,la2,lb2,hr2⟩
   obtain ⟨u,rfl⟩:∃ u',u=u' + 1:=⟨u - 1,by omega⟩
   obtain ⟨v,rfl⟩:∃ v',v=v' + 1:=⟨v - 1,by omega⟩
   have lu:u < a.size:=by omega
   have lv:v < b.size:=by omega
   refine wpS_bind (zaa9 (i:=v) lv (wpS_bind (zaa9 (i:=u) lu (wpS_bind (zalm hk1 (ib _ _) (ia _ _) ?_)))))
   refine zaa6 (fun cc=>wpS_bind (zaa9 (i:=u) lu ?_)) (fun cc=>wpS_bind (zaa9 (i:=v) lv ?_))
   ·have cc:kv b v < kv a u:=by rw [zabw lv,zabw lu]; exact of_decide_eq_true cc
    have ma:=m.a lu sb lb2 fun _=>by rw [Nat.add_sub_cancel]; omega
    refine zaa6 (fun e=>wpS_pure ⟨rfl,.inl ⟨_,rfl,ma.done (.inl (by have e:(u == 0)=true:=e; simpa using e))⟩⟩) (fun ne=>?_)
    have ne:1≤u:=by
     have ne:¬ (u == 0)=true:=ne
     simp at ne; omega
    exact zaa6 (fun _=>wpS_pure ⟨rfl,.inr ⟨_,u,v + 1,_,_,rfl,ma,ne,hb2,by omega,lb2,by omega⟩⟩) (fun _=>wpS_pure ⟨rfl,_,u,v + 1,_,_,rfl,ma,ne,hb2,by omega,lb2,by omega⟩)
   ·have cc:¬ kv b v < kv a u:=by rw [zabw lv,zabw lu]; exact of_decide_eq_false (by simpa using cc)
    have mb:=m.b lv sa la2 fun _=>by rw [Nat.add_sub_cancel]; omega
    refine zaa6 (fun e=>wpS_pure ⟨rfl,.inl ⟨_,rfl,mb.first (by have e:(v == 1)=true:=e; simpa using e) fb⟩⟩) (fun ne=>?_)
    have ne:2≤v:=by
     have ne:¬ (v == 1)=true:=ne
     simp at ne; omega
    exact zaa6 (fun _=>wpS_pure ⟨rfl,.inr ⟨_,u + 1,v,_,_,rfl,mb,ha2,ne,la2,by omega,by omega⟩⟩) (fun _=>wpS_pure ⟨rfl,_,u + 1,v,_,_,rfl,mb,ha2,ne,la2,by omega,by omega⟩)
  ·rintro c st2 ⟨rfl,out,u,v,p,q,rfl,m,ha2,hb2,la2,lb2,hr2⟩
   exact ⟨rfl,.inr ⟨_,u,v,_,_,rfl,m,ha2,hb2,la2,lb2,by omega⟩⟩
  rintro c st2 ⟨rfl,hc⟩
  rcases hc with ⟨out,hc,pm⟩ | ⟨out,u,v,p,q,rfl,m,ha2,hb2,la2,lb2,hr2⟩
  ·obtain ⟨c1,c2⟩:=c
   dsimp only at hc
   subst hc
   exact wpS_pure ⟨sg,_,rfl,pm⟩
  refine wpS_bind (zaf2 ?_)
  refine wpS_bind (wpS_mono (wpS_forRange (I:=fun y c st'=>SG st st'∧∃ out u2 v2 mg p q,c=(none,u2,v2,out,mg,p,q)∧MHo a b out u2 v2∧1≤u2∧2≤v2∧u2≤a.size∧v2≤b.size∧u2 + v2≤u + v)
   (Q:=fun c st'=>SG st st'∧((∃ out,c.1=some out∧Mrg a b out)∨∃ out u2 v2 mg p q,c=(none,u2,v2,out,mg,p,q)∧MHo a b out u2 v2∧1≤u2∧2≤v2∧u2≤a.size∧v2≤b.size∧u2 + v2≤u + v)) ?_ ?_ ⟨sg,out,u,v,g + 1,p,q,rfl,m,ha2,hb2,la2,lb2,by omega⟩) ?_)
  ·rintro y c st3 _ hy ⟨sg3,out,u2,v2,mg,p,q,rfl,m,ha3,hb3,la3,lb3,hr3⟩
   obtain ⟨v2,rfl⟩:∃ v',v2=v' + 1:=⟨v2 - 1,by omega⟩
   have lv:v2 < b.size:=by omega
   refine zaa6 (fun _=>wpS_bind (wpS_modify ?_)) (fun _=>wpS_bind (wpS_modify ?_))
   all_goals
    have sgn:=sg3.put
    have hk3:=sg3.kind.trans hk
    refine wpS_bind (zaa9 (i:=v2) lv ?_)
    refine wpS_bind (zac9 (b:=0) (n:=u2) (hint:=u2 - 1) hk3 (ib _ _) ia (by omega) (by omega) (zaf3 sa (by omega)) fun i1 hi1 g1 g2=>?_)
    have g1:∀ i,i < i1→kv a i≤kv b v2:=fun i hi=>by have:=g1 i hi; unfold bB at this; rw [← zabw lv,Nat.zero_add] at this; simp at this; omega
    have g2:∀ i,i1≤i→i < u2→kv b v2 < kv a i:=fun i hi hn=>by have:=g2 i hi hn; unfold bB at this; rw [← zabw lv,Nat.zero_add] at this; simp at this; omega
    have mk:=m.ak hi1 sb lb3 fun _ j h1 h2=>by rw [Nat.add_sub_cancel]; have:=g2 j h1 h2; omega
    refine zaa6 (fun kp=>zaa6 (fun e=>wpS_pure ⟨sgn _,.inl ⟨_,rfl,mk.done (.inl (by have e:(i1 == 0)=true:=e; simpa using e))⟩⟩) (fun n3=>?_)) (fun kp=>?_)
    ·have n3:1≤i1:=by
      have n3:¬ (i1 == 0)=true:=n3
      simp at n3; omega
     have lx:i1≤a.size:=by omega
     have lx2:i1≤u2:=hi1
     refine wpS_bind (zaa9 (i:=v2) lv ?_)
     have mb:=MHo.b mk lv sa lx fun h9=>g1 (i1 - 1) (by omega)
     refine zaa6 (fun e=>wpS_pure ⟨sgn _,.inl ⟨_,rfl,mb.first (by have e:(v2 == 1)=true:=e; simpa using e) fb⟩⟩) (fun ne=>?_)
     have ne:2≤v2:=by
      have ne:¬ (v2 == 1)=true:=ne
      simp at ne; omega
     obtain ⟨w1,ew1⟩:∃ w1,i1=w1 + 1:=⟨i1 - 1,by omega⟩
     have lw:i1 - 1 < a.size:=by omega
     refine wpS_bind (zaa9 (i:=i1 - 1) lw ?_)
     refine wpS_bind (zac9 (b:=0) (n:=v2) (hint:=v2 - 1) hk3 (ia _ _) ib (by omega) (by omega) (zaf3 sb (by omega)) fun i2 hi2 g3 g4=>?_)
     have g3:∀ i,i < i2→kv b i < kv a (i1 - 1):=fun i hi=>by have:=g3 i hi; unfold bB at this; rw [← zabw lw,Nat.zero_add] at this; simpa using this
     have g4:∀ i,i2≤i→i < v2→kv a (i1 - 1)≤kv b i:=fun i hi hn=>by have:=g4 i hi hn; unfold bB at this; rw [← zabw lw,Nat.zero_add] at this; simpa using this
     have mbk:=mb.bk hi2 sa lx fun _ j h1 h2=>g4 j h1 h2
     refine zaa6 (fun kp2=>zaa6 (fun e=>wpS_pure ⟨sgn _,.inl ⟨_,rfl,mbk.first (by have e:(i2 == 1)=true:=e; simpa using e) fb⟩⟩) (fun n5=>zaa6 (fun e=>wpS_pure ⟨sgn _,.inl ⟨_,rfl,mbk.done (.inr (by have e:(i2 == 0)=true:=e; simpa using e))⟩⟩) (fun n6=>?_))) (fun kp2=>?_)
     ·have n6:2≤i2:=by
       have n5:¬ (i2 == 1)=true:=n5
       have n6:¬ (i2 == 0)=true:=n6
       simp at n5 n6; omega
      refine wpS_bind (zaa9 (i:=i1 - 1) lw ?_)
      have ma:=mbk.a' n3 lw sb (by omega) fun h9=>by have:=g3 (i2 - 1) (by omega); omega
      refine zaa6 (fun e=>wpS_pure ⟨sgn _,.inl ⟨_,rfl,ma.done (.inl (by have e:(i1 - 1 == 0)=true:=e; simpa using e))⟩⟩) (fun ne3=>?_)
      have ne3:1≤i1 - 1:=by
       have ne3:¬ (i1 - 1 == 0)=true:=ne3
       simp at ne3; omega
      exact zaa6 (fun _=>wpS_pure ⟨sgn _,.inr ⟨_,i1 - 1,i2,_,_,_,rfl,ma,ne3,n6,by omega,by omega,by omega⟩⟩) (fun _=>wpS_pure ⟨sgn _,_,i1 - 1,i2,_,_,_,rfl,ma,ne3,n6,by omega,by omega,by omega⟩)
     ·refine wpS_bind (zaa9 (i:=i1 - 1) lw ?_)
      have kz2:i2=v2:=by have kp2:¬ v2 - i2 > 0:=kp2; omega
      have ma:=mb.a' n3 lw sb (by omega) fun h9=>by have:=g3 (v2 - 1) (by omega); omega
      refine zaa6 (fun e=>wpS_pure ⟨sgn _,.inl ⟨_,rfl,ma.done (.inl (by have e:(i1 - 1 == 0)=true:=e; simpa using e))⟩⟩) (fun ne3=>?_)
      have ne3:1≤i1 - 1:=by
       have ne3:¬ (i1 - 1 == 0)=true:=ne3
       simp at ne3; omega
      exact zaa6 (fun _=>wpS_pure ⟨sgn _,.inr ⟨_,i1 - 1,v2,_,_,_,rfl,ma,ne3,ne,by omega,by omega,by omega⟩⟩) (fun _=>wpS_pure ⟨sgn _,_,i1 - 1,v2,_,_,_,rfl,ma,ne3,ne,by omega,by omega,by omega⟩)
    ·skip
     have n3:1≤u2:=ha3
     have lx:u2≤a.size:=la3
     have lx2:u2≤u2:=Nat.le_refl _
     refine wpS_bind (zaa9 (i:=v2) lv ?_)
     have kz:i1=u2:=by have kp:¬ u2 - i1 > 0:=kp; omega
     have mb:=MHo.b m lv sa lx fun h9=>g1 (u2 - 1) (by omega)
     refine zaa6 (fun e=>wpS_pure ⟨sgn _,.inl ⟨_,rfl,mb.first (by have e:(v2 == 1)=true:=e; simpa using e) fb⟩⟩) (fun ne=>?_)
     have ne:2≤v2:=by
      have ne:¬ (v2 == 1)=true:=ne
      simp at ne; omega
     obtain ⟨w1,ew1⟩:∃ w1,u2=w1 + 1:=⟨u2 - 1,by omega⟩
     have lw:u2 - 1 < a.size:=by omega
     refine wpS_bind (zaa9 (i:=u2 - 1) lw ?_)
     refine wpS_bind (zac9 (b:=0) (n:=v2) (hint:=v2 - 1) hk3 (ia _ _) ib (by omega) (by omega) (zaf3 sb (by omega)) fun i2 hi2 g3 g4=>?_)
     have g3:∀ i,i < i2→kv b i < kv a (u2 - 1):=fun i hi=>by have:=g3 i hi; unfold bB at this; rw [← zabw lw,Nat.zero_add] at this; simpa using this
     have g4:∀ i,i2≤i→i < v2→kv a (u2 - 1)≤kv b i:=fun i hi hn=>by have:=g4 i hi hn; unfold bB at this; rw [← zabw lw,Nat.zero_add] at this; simpa using this
     have mbk:=mb.bk hi2 sa lx fun _ j h1 h2=>g4 j h1 h2
     refine zaa6 (fun kp2=>zaa6 (fun e=>wpS_pure ⟨sgn _,.inl ⟨_,rfl,mbk.first (by have e:(i2 == 1)=true:=e; simpa using e) fb⟩⟩) (fun n5=>zaa6 (fun e=>wpS_pure ⟨sgn _,.inl ⟨_,rfl,mbk.done (.inr (by have e:(i2 == 0)=true:=e; simpa using e))⟩⟩) (fun n6=>?_))) (fun kp2=>?_)
     ·have n6:2≤i2:=by
       have n5:¬ (i2 == 1)=true:=n5
       have n6:¬ (i2 == 0)=true:=n6
       simp at n5 n6; omega
      refine wpS_bind (zaa9 (i:=u2 - 1) lw ?_)
      have ma:=mbk.a' n3 lw sb (by omega) fun h9=>by have:=g3 (i2 - 1) (by omega); omega
      refine zaa6 (fun e=>wpS_pure ⟨sgn _,.inl ⟨_,rfl,ma.done (.inl (by have e:(u2 - 1 == 0)=true:=e; simpa using e))⟩⟩) (fun ne3=>?_)
      have ne3:1≤u2 - 1:=by
       have ne3:¬ (u2 - 1 == 0)=true:=ne3
       simp at ne3; omega
      exact zaa6 (fun _=>wpS_pure ⟨sgn _,.inr ⟨_,u2 - 1,i2,_,_,_,rfl,ma,ne3,n6,by omega,by omega,by omega⟩⟩) (fun _=>wpS_pure ⟨sgn _,_,u2 - 1,i2,_,_,_,rfl,ma,ne3,n6,by omega,by omega,by omega⟩)
     ·refine wpS_bind (zaa9 (i:=u2 - 1) lw ?_)
      have kz2:i2=v2:=by have kp2:¬ v2 - i2 > 0:=kp2; omega
      have ma:=mb.a' n3 lw sb (by omega) fun h9=>by have:=g3 (v2 - 1) (by omega); omega
      refine zaa6 (fun e=>wpS_pure ⟨sgn _,.inl ⟨_,rfl,ma.done (.inl (by have e:(u2 - 1 == 0)=true:=e; simpa using e))⟩⟩) (fun ne3=>?_)
      have ne3:1≤u2 - 1:=by
       have ne3:¬ (u2 - 1 == 0)=true:=ne3
       simp at ne3; omega
      exact zaa6 (fun _=>wpS_pure ⟨sgn _,.inr ⟨_,u2 - 1,v2,_,_,_,rfl,ma,ne3,ne,by omega,by omega,by omega⟩⟩) (fun _=>wpS_pure ⟨sgn _,_,u2 - 1,v2,_,_,_,rfl,ma,ne3,ne,by omega,by omega,by omega⟩)
  ·rintro c st3 ⟨sg3,out,u2,v2,mg,p,q,rfl,m,ha3,hb3,la3,lb3,hr3⟩
   exact ⟨sg3,.inr ⟨_,_,_,_,_,_,rfl,m,ha3,hb3,la3,lb3,hr3⟩⟩
  rintro c st3 ⟨sg3,hc⟩
  rcases hc with ⟨out,hc,pm⟩ | ⟨out,u2,v2,mg,p,q,rfl,m,ha3,hb3,la3,lb3,hr3⟩
  ·obtain ⟨c1,c2⟩:=c
   dsimp only at hc
   subst hc
   exact wpS_pure ⟨sg3,_,rfl,pm⟩
  exact wpS_bind (wpS_modify (wpS_pure ⟨⟨sg3.arr,sg3.kind,sg3.pend,sg3.fail⟩,_,u2,v2,_,rfl,m,ha3,hb3,la3,lb3,by omega⟩))
 ·rintro c st1 ⟨sg,out,na,nb,g,rfl,m,ha1,hb1,_,_,hr⟩
  omega
 ·rintro c st1 ⟨sg,out,hc,pm⟩
  obtain ⟨c1,c2⟩:=c
  dsimp only at hc
  subst hc
  exact rt _ _ pm sg
end
end L2

namespace L2
open PySem PySem.W PyProof.Rows
def Dif (a0:Array Keyed):Prop:=(a0.toList.map kn).Nodup
theorem SPm.ne {a0:Array Keyed}{st:SortSt} (h:SPm a0 st) (d:Dif a0) {i j:Nat} (hi:i < a0.size) (hj:j < a0.size) (ne:i≠j):kv (arrOf st) i≠kv (arrOf st) j:=by
 have hp:=(Array.perm_iff_toList_perm.mp h.pm).map kn
 have nd:((arrOf st).toList.map kn).Nodup:=hp.nodup_iff.mpr d
 have li:i < (arrOf st).size:=by rw [h.size]; exact hi
 have lj:j < (arrOf st).size:=by rw [h.size]; exact hj
 rw [zabw li,zabw lj]
 intro e
 have pw:=List.pairwise_iff_getElem.mp nd
 rcases Nat.lt_or_gt_of_ne ne with hl | hl
 ·exact absurd (by rw [List.getElem_map,List.getElem_map,Array.getElem_toList,Array.getElem_toList]; exact e) (pw i j (by simpa using li) (by simpa using lj) hl)
 ·exact absurd (by rw [List.getElem_map,List.getElem_map,Array.getElem_toList,Array.getElem_toList]; exact e.symm) (pw j i (by simpa using lj) (by simpa using li) hl)
theorem zacg {xs ys:Array Keyed}{i j:Nat} (h:xs[i]?=ys[j]?):kv xs i=kv ys j:=by unfold kv; rw [h]
theorem zalq {xs:Array Keyed}{i j:Nat} (hj:j≤xs.size) (k:Nat):kv (mirror xs i j ((j - i) / 2)) k=if i≤k∧k < j then kv xs (i + j - 1 - k) else kv xs k:=by
 have g:=getElem?_mirror_all (xs:=xs) (i:=i) hj k
 by_cases h:i≤k∧k < j
 ·rw [if_pos h] at g ⊢; exact zacg g
 ·rw [if_neg h] at g ⊢; exact zacg g
theorem zahn {xs:Array Keyed}{src d:Nat} (hs:src < xs.size) (hd:d≤src) (k:Nat):kv (bubble xs src d) k=if k=src - d then kv xs src else if src - d < k∧k≤src then kv xs (k - 1) else kv xs k:=by
 have g:=getElem?_bubble hs d hd k
 by_cases h:k=src - d
 ·rw [if_pos h] at g ⊢; exact zacg g
 ·rw [if_neg h] at g ⊢
  by_cases h2:src - d < k∧k≤src
  ·rw [if_pos h2] at g ⊢; exact zacg g
  ·rw [if_neg h2] at g ⊢; exact zacg g
theorem zafg {xs:Array Keyed}{b:Nat}:∀ {n:Nat},(∀ i,1≤i→i < n→kv xs (b + i - 1)≤kv xs (b + i))→Asc xs b n:=fun {n} h i j hij hj=>by
 induction j with
 | zero=>rw [show i=0 by omega]; exact Int.le_refl _
 | succ j ih =>
  rcases Nat.lt_or_eq_of_le hij with hl | rfl
  ·have h1:=ih (by omega) (by omega)
   have h2:=h (j + 1) (by omega) hj
   rw [show b + (j + 1) - 1=b + j by omega] at h2
   omega
  ·exact Int.le_refl _
section
variable {prog:Program}{w:World}{A:Around}{E:Value→Shared→Prop}{s:Shared}
theorem zadk {st:SortSt}{a0:Array Keyed}{i j:Nat}{Q:Option Bool→SortSt→Prop} (hs:SPm a0 st) (k0:∀ x∈a0.toList,KI x) (hi:i < a0.size) (hj:j < a0.size) (h:Q (some (decide (kv (arrOf st) i < kv (arrOf st) j))) st):wpS (model prog w) A E s (ltAt' i j) Q st:=by
 have li:i < (arrOf st).size:=by rw [hs.size]; exact hi
 have lj:j < (arrOf st).size:=by rw [hs.size]; exact hj
 rw [zabw li,zabw lj] at h
 exact wpS_bind (wpS_get (wpS_bind (zaa9 li (wpS_bind (zaa9 lj (zalm hs.kind (hs.ki k0 li) (hs.ki k0 lj) h))))))
theorem zan8 {st:SortSt}{i j:Nat}{Q:Unit→SortSt→Prop} (h:Q () (setArr st (bubble (arrOf st) i (i - j)))):wpS (model prog w) A E s (moveDown' i j) Q st:=by
 rw [moveDown'_eq]
 exact wpS_modify h
theorem zaqk {st:SortSt}{i j:Nat}{Q:Unit→SortSt→Prop} (h:Q () (setArr st (mirror (arrOf st) i j ((j - i) / 2)))):wpS (model prog w) A E s (reverseSlice' i j) Q st:=by
 rw [reverseSlice'_eq]
 exact wpS_modify h
def Low (lo:Nat) (st st':SortSt):Prop:=∀ k,k < lo→kv (arrOf st') k=kv (arrOf st) k
theorem zaql {st:SortSt}{a0:Array Keyed}{lo n ok:Nat}{Q:Bool→SortSt→Prop} (hs:SPm a0 st) (k0:∀ x∈a0.toList,KI x) (hn:lo + n≤a0.size) (hok:ok≤n) (as:Asc (arrOf st) lo ok) (h:∀ st',SPm a0 st'→pendingOf st'=pendingOf st→Low lo st st'→Asc (arrOf st') lo n→Q true st'):wpS (model prog w) A E s (binarySort' lo n ok) Q st:=by
 have as1:Asc (arrOf st) lo (min (max ok 1) n):=fun i j hij hj=>by
  by_cases h1:ok=0
  ·rw [show i=j by omega]; exact Int.le_refl _
  ·exact as i j hij (by omega)
 refine wpS_bind (wpS_mono (wpS_forRange (I:=fun x c st'=>c=(none,())∧SPm a0 st'∧pendingOf st'=pendingOf st∧Low lo st st'∧Asc (arrOf st') lo (min x n)) (Q:=fun c st'=>c=(none,())∧SPm a0 st'∧pendingOf st'=pendingOf st∧Low lo st st'∧Asc (arrOf st') lo n) ?_ ?_ ⟨rfl,hs,rfl,fun _ _=>rfl,as1⟩) ?_)
 ·rintro x c st1 hx0 hx ⟨rfl,s1,p1,l1,a1⟩
  rw [show min x n=x by omega] at a1
  have hz:=s1.size
  refine wpS_bind (wpS_mono (wpS_forRange (I:=fun y c st'=>st'=st1∧∃ u v:Nat,c=(none,u,v)∧u≤v∧v≤x∧y + (v - u)≤x∧(∀ i,i < u→kv (arrOf st1) (lo + i)≤kv (arrOf st1) (lo + x))∧(∀ i,v≤i→i < x→kv (arrOf st1) (lo + x) < kv (arrOf st1) (lo + i))) (Q:=fun c st'=>st'=st1∧∃ u v:Nat,c=(none,u,v)∧u≤x∧(∀ i,i < u→kv (arrOf st1) (lo + i)≤kv (arrOf st1) (lo + x))∧(∀ i,u≤i→i < x→kv (arrOf st1) (lo + x) < kv (arrOf st1) (lo + i))) ?_ ?_ ⟨rfl,0,x,rfl,by omega,by omega,by omega,fun i hi=>by omega,fun i h1 h2=>by omega⟩) ?_)
  ·rintro y c st2 _ hy ⟨rfl,u,v,rfl,uv,hv,hr,h1,h2⟩
   refine zaa6 (fun ge=>?_) (fun ne=>?_)
   ·have ge:u ≥ v:=ge
    have e:u=v:=by omega
    subst e
    exact wpS_pure ⟨rfl,u,u,rfl,hv,h1,h2⟩
   have ne:¬ u ≥ v:=ne
   refine wpS_bind (zadk (i:=lo + x) (j:=lo + (u + v) / 2) s1 k0 (by omega) (by omega) ?_)
   refine zaa6 (fun cc=>wpS_pure ⟨rfl,u,(u + v) / 2,rfl,by omega,by omega,by omega,h1,fun i hi hi2=>?_⟩) (fun cc=>wpS_pure ⟨rfl,(u + v) / 2 + 1,v,rfl,by omega,hv,by omega,fun i hi=>?_,h2⟩)
   ·have cc:kv (arrOf st2) (lo + x) < kv (arrOf st2) (lo + (u + v) / 2):=of_decide_eq_true cc
    have:=a1 ((u + v) / 2) i hi hi2
    omega
   ·have cc:¬ kv (arrOf st2) (lo + x) < kv (arrOf st2) (lo + (u + v) / 2):=of_decide_eq_false (by simpa using cc)
    have:=a1 i ((u + v) / 2) (by omega) (by omega)
    omega
  ·rintro c st2 ⟨rfl,u,v,rfl,uv,hv,hr,h1,h2⟩
   have hr:max 0 x + (v - u)≤x:=hr
   have e:u=v:=by omega
   subst e
   exact ⟨rfl,u,u,rfl,hv,h1,h2⟩
  ·rintro c st2 ⟨rfl,u,v,rfl,hu,h1,h2⟩
   refine wpS_bind (zan8 (i:=lo + x) (j:=lo + u) (wpS_pure ⟨rfl,s1.arr (bubble_perm _ _ _),p1,fun k hk=>?_,?_⟩))
   ·show kv (bubble (arrOf st2) (lo + x) (lo + x - (lo + u))) k=_
    rw [zahn (by omega) (by omega),if_neg (by omega),if_neg (by omega)]
    exact l1 k hk
   ·show Asc (bubble (arrOf st2) (lo + x) (lo + x - (lo + u))) lo (min (x + 1) n)
    rw [show min (x + 1) n=x + 1 by omega]
    have kb:∀ i,kv (bubble (arrOf st2) (lo + x) (lo + x - (lo + u))) (lo + i)=if i=u then kv (arrOf st2) (lo + x) else if u < i∧i≤x then kv (arrOf st2) (lo + i - 1) else kv (arrOf st2) (lo + i):=fun i=>by
     rw [zahn (by omega) (by omega)]
     by_cases e1:i=u
     ·rw [if_pos (by omega),if_pos e1]
     ·rw [if_neg (by omega),if_neg e1]
      by_cases e2:u < i∧i≤x
      ·rw [if_pos (by omega),if_pos e2]
      ·rw [if_neg (by omega),if_neg e2]
    refine zafg fun i hi1 hi2=>?_
    rw [show lo + i - 1=lo + (i - 1) by omega,kb,kb]
    by_cases e1:i=u
    ·subst e1
     rw [if_pos rfl,if_neg (by omega),if_neg (by omega)]
     exact h1 (i - 1) (by omega)
    rw [if_neg e1]
    by_cases e2:u < i∧i≤x
    ·rw [if_pos e2]
     by_cases e3:i - 1=u
     ·rw [if_pos e3,show lo + i - 1=lo + (i - 1) by omega]
      exact Int.le_of_lt (h2 (i - 1) (by omega) (by omega))
     ·rw [if_neg e3,if_pos (by omega),show lo + (i - 1) - 1=lo + (i - 2) by omega,show lo + i - 1=lo + (i - 1) by omega]
      exact a1 (i - 2) (i - 1) (by omega) (by omega)
    ·rw [if_neg e2,if_neg (by omega),if_neg (by omega)]
     exact a1 (i - 1) i (by omega) (by omega)
 ·rintro c st1 ⟨rfl,s1,p1,l1,a1⟩
  exact ⟨rfl,s1,p1,l1,by rwa [show min (max (max ok 1) n) n=n by omega] at a1⟩
 ·rintro c st1 ⟨rfl,s1,p1,l1,a1⟩
  exact wpS_pure (h _ s1 p1 l1 a1)
theorem zaqm {st:SortSt}{a0:Array Keyed}{lo n:Nat}{Q:Option Nat→SortSt→Prop} (hs:SPm a0 st) (k0:∀ x∈a0.toList,KI x) (df:Dif a0) (hn:lo + n≤a0.size) (h1:1≤n) (h:∀ m st',1≤m→m≤n→SPm a0 st'→pendingOf st'=pendingOf st→Low lo st st'→Asc (arrOf st') lo m→Q (some m) st'):wpS (model prog w) A E s (countRun' lo n) Q st:=by
 have hz:=hs.size
 refine wpS_bind (wpS_mono (wpS_forRange (I:=fun x c st'=>st'=st∧c=(none,x)∧∀ i,1≤i→i < x→kv (arrOf st) (lo + i - 1)≤kv (arrOf st) (lo + i)) (Q:=fun c st'=>st'=st∧∃ m:Nat,c=(none,m)∧1≤m∧m≤n∧(∀ i,1≤i→i < m→kv (arrOf st) (lo + i - 1)≤kv (arrOf st) (lo + i))∧(m=n∨kv (arrOf st) (lo + m) < kv (arrOf st) (lo + m - 1))) ?_ ?_ ⟨rfl,rfl,fun i a b=>by omega⟩) ?_)
 ·rintro x c st1 hx1 hx ⟨rfl,rfl,ad⟩
  refine wpS_bind (zadk (i:=lo + x) (j:=lo + x - 1) hs k0 (by omega) (by omega) ?_)
  refine zaa6 (fun cc=>wpS_pure ⟨rfl,x,rfl,hx1,by omega,ad,.inr (of_decide_eq_true cc)⟩) (fun cc=>wpS_pure ⟨rfl,rfl,fun i hi hi2=>?_⟩)
  by_cases e:i=x
  ·subst e
   have cc:¬ kv (arrOf st1) (lo + i) < kv (arrOf st1) (lo + i - 1):=of_decide_eq_false (by simpa using cc)
   omega
  ·exact ad i hi (by omega)
 ·rintro c st1 ⟨rfl,rfl,ad⟩
  exact ⟨rfl,_,rfl,by omega,by omega,ad,.inl (by omega)⟩
 rintro c st1 ⟨rfl,m,rfl,hm,hmn,ad,dn⟩
 refine zaa6 (fun _=>wpS_pure (h m _ hm hmn hs rfl (fun _ _=>rfl) (zafg ad))) (fun ne=>?_)
 have ne:m < n:=by
  have ne:¬ (m == n)=true:=ne
  simp at ne; omega
 have dn:kv (arrOf st1) (lo + m) < kv (arrOf st1) (lo + m - 1):=dn.resolve_left (by omega)
 refine zaa6 (fun m1=>wpS_bind (zadk (i:=lo) (j:=lo + m - 1) hs k0 (by omega) (by omega) (zaa6 (fun _=>wpS_pure (h m _ hm hmn hs rfl (fun _ _=>rfl) (zafg ad))) (fun cc=>?_)))) (fun m1=>?_)
 ·have m1:m > 1:=m1
  have cc:¬ kv (arrOf st1) lo < kv (arrOf st1) (lo + m - 1):=of_decide_eq_false (by simpa using cc)
  have h5:=zafg ad 0 (m - 1) (by omega) (by omega)
  rw [Nat.add_zero,show lo + (m - 1)=lo + m - 1 by omega] at h5
  exact absurd (by omega) (hs.ne df (i:=lo) (j:=lo + m - 1) (by omega) (by omega) (by omega))
 have m1:m=1:=by
  have m1:¬ m > 1:=m1
  omega
 subst m1
 refine wpS_bind (zaf2 ?_)
 refine wpS_bind (wpS_mono (wpS_forRange (I:=fun x c st'=>st'=st1∧c=(none,x,0)∧∀ i,1≤i→i < x→kv (arrOf st1) (lo + i) < kv (arrOf st1) (lo + i - 1)) (Q:=fun c st'=>st'=st1∧∃ r:Nat,c=(none,r,0)∧2≤r∧r≤n∧∀ i,1≤i→i < r→kv (arrOf st1) (lo + i) < kv (arrOf st1) (lo + i - 1)) ?_ ?_ ⟨rfl,rfl,fun i a b=>by rw [show i=1 by omega]; exact dn⟩) ?_)
 ·rintro x c st3 hx1 hx ⟨rfl,rfl,ad3⟩
  have hx1:1 + 1≤x:=hx1
  refine wpS_bind (zadk (i:=lo + x) (j:=lo + x - 1) hs k0 (by omega) (by omega) ?_)
  refine zaa6 (fun cc=>zaa6 (fun z=>absurd z (Nat.lt_irrefl 0)) (fun _=>wpS_pure ⟨rfl,rfl,fun i hi hi2=>?_⟩)) (fun cc=>?_)
  ·by_cases e:i=x
   ·subst e; exact of_decide_eq_true cc
   ·exact ad3 i hi (by omega)
  ·have cc:¬ kv (arrOf st3) (lo + x) < kv (arrOf st3) (lo + x - 1):=of_decide_eq_false (by simpa using cc)
   refine wpS_bind (zadk (i:=lo + x - 1) (j:=lo + x) hs k0 (by omega) (by omega) ?_)
   refine zaa6 (fun _=>wpS_pure ⟨rfl,x,rfl,by omega,by omega,ad3⟩) (fun c2=>?_)
   have c2:¬ kv (arrOf st3) (lo + x - 1) < kv (arrOf st3) (lo + x):=of_decide_eq_false (by simpa using c2)
   exact absurd (by omega) (hs.ne df (i:=lo + x) (j:=lo + x - 1) (by omega) (by omega) (by omega))
 ·rintro c st3 ⟨rfl,rfl,ad3⟩
  exact ⟨rfl,_,rfl,by show 2≤max (1 + 1) n; omega,by show max (1 + 1) n≤n; omega,ad3⟩
 rintro c st3 ⟨rfl,r0,rfl,hr0,hrn0,ad3⟩
 refine zaa6 (fun z=>absurd z (Nat.lt_irrefl 0)) (fun _=>?_)
 refine wpS_bind (zaqk (i:=lo) (j:=lo + r0) ?_)
 have s5:SPm a0 (setArr st3 (mirror (arrOf st3) lo (lo + r0) ((lo + r0 - lo) / 2))):=hs.arr (mirror_perm _ _ _ _)
 have km:∀ k,kv (arrOf (setArr st3 (mirror (arrOf st3) lo (lo + r0) ((lo + r0 - lo) / 2)))) k=if lo≤k∧k < lo + r0 then kv (arrOf st3) (lo + (lo + r0) - 1 - k) else kv (arrOf st3) k:=fun k=>zalq (by omega) k
 have p5:pendingOf (setArr st3 (mirror (arrOf st3) lo (lo + r0) ((lo + r0 - lo) / 2)))=pendingOf st3:=rfl
 generalize setArr st3 (mirror (arrOf st3) lo (lo + r0) ((lo + r0 - lo) / 2))=st5 at s5 km p5 ⊢
 have lw:Low lo st3 st5:=fun k hk=>by rw [km,if_neg (by omega)]
 have ad5:∀ i,1≤i→i < r0→kv (arrOf st5) (lo + i - 1)≤kv (arrOf st5) (lo + i):=fun i hi hi2=>by
  rw [km,km,if_pos (by omega),if_pos (by omega)]
  have:=ad3 (r0 - i) (by omega) (by omega)
  rw [show lo + (lo + r0) - 1 - (lo + i - 1)=lo + (r0 - i) by omega,show lo + (lo + r0) - 1 - (lo + i)=lo + (r0 - i) - 1 by omega]
  omega
 refine wpS_bind (wpS_mono (wpS_forRange (I:=fun x c st'=>st'=st5∧c=(none,x)∧∀ i,1≤i→i < x→kv (arrOf st5) (lo + i - 1)≤kv (arrOf st5) (lo + i)) (Q:=fun c st'=>st'=st5∧∃ r:Nat,c=(none,r)∧1≤r∧r≤n∧∀ i,1≤i→i < r→kv (arrOf st5) (lo + i - 1)≤kv (arrOf st5) (lo + i)) ?_ ?_ ⟨rfl,rfl,ad5⟩) ?_)
 ·rintro x c st6 hx1 hx ⟨rfl,rfl,ad6⟩
  have hx1:r0≤x:=hx1
  refine wpS_bind (zadk (i:=lo + x) (j:=lo + x - 1) s5 k0 (by omega) (by omega) ?_)
  refine zaa6 (fun _=>wpS_pure ⟨rfl,x,rfl,by omega,by omega,ad6⟩) (fun cc=>wpS_pure ⟨rfl,rfl,fun i hi hi2=>?_⟩)
  by_cases e:i=x
  ·subst e
   have cc:¬ kv (arrOf st6) (lo + i) < kv (arrOf st6) (lo + i - 1):=of_decide_eq_false (by simpa using cc)
   omega
  ·exact ad6 i hi (by omega)
 ·rintro c st6 ⟨rfl,rfl,ad6⟩
  exact ⟨rfl,_,rfl,by show 1≤max r0 n; omega,by show max r0 n≤n; omega,ad6⟩
 rintro c st6 ⟨rfl,r,rfl,hr,hrn,ad6⟩
 exact wpS_pure (h r _ hr hrn s5 p5 lw (zafg ad6))
end
end L2

namespace L2
open PySem PySem.W PyProof.Rows
theorem zada {xs ys:Array Keyed}{b n:Nat} (h:Asc xs b n) (e:∀ k,b≤k→k < b + n→kv ys k=kv xs k):Asc ys b n:=fun i j hij hj=>by
 rw [e (b + i) (by omega) (by omega),e (b + j) (by omega) (by omega)]
 exact h i j hij hj
theorem zajh {xs:Array Keyed}{s e j:Nat} (he:e≤xs.size) (h:s + j < e):kv (xs.extract s e) j=kv xs (s + j):=by
 refine zacg ?_
 rw [getElem?_pos (xs.extract s e) j (by rw [Array.size_extract]; omega),getElem?_pos xs (s + j) (by omega),Array.getElem_extract]
theorem zao2 {xs:Array Keyed}{s e:Nat} (he:e≤xs.size) (h:∀ i j,s≤i→i≤j→j < e→kv xs i≤kv xs j):UpK (xs.extract s e).toList:=by
 refine List.pairwise_iff_getElem.mpr fun i j hi hj hij=>?_
 have hi':i < (xs.extract s e).size:=by rw [Array.length_toList] at hi; exact hi
 have hj':j < (xs.extract s e).size:=by rw [Array.length_toList] at hj; exact hj
 have zi:=hi'
 have zj:=hj'
 rw [Array.size_extract] at zi zj
 have a:=zabw hi'
 have b:=zabw hj'
 rw [zajh he (by omega)] at a b
 rw [Array.getElem_toList,Array.getElem_toList,← a,← b]
 exact h _ _ (by omega) (by omega) (by omega)
theorem zalr {xs:Array Keyed}{s e:Nat}{x:Keyed} (he:e≤xs.size) (h:x∈(xs.extract s e).toList):∃ t,s≤t∧t < e∧kn x=kv xs t:=by
 obtain ⟨j,hj,e1⟩:=List.getElem_of_mem h
 have hj':j < (xs.extract s e).size:=by rw [Array.length_toList] at hj; exact hj
 have z:=hj'
 rw [Array.size_extract] at z
 refine ⟨s + j,by omega,by omega,?_⟩
 rw [← zajh he (by omega),zabw hj',← e1,Array.getElem_toList]
theorem zask {xs m:Array Keyed}{b:Nat} (h:b + m.size≤xs.size) (p:Nat):kv (m.toList.zipIdx.foldl (fun (a:Array Keyed) (p:Keyed × Nat)=>a.setIfInBounds (b + p.2) p.1) xs) p=if p < b then kv xs p else if p < b + m.size then kv m (p - b) else kv xs p:=by
 have e:=zagi m.toList xs b 0 (by rw [Array.length_toList]; omega)
 generalize m.toList.zipIdx.foldl (fun (a:Array Keyed) (p:Keyed × Nat)=>a.setIfInBounds (b + p.2) p.1) xs=ys at e ⊢
 rw [Nat.add_zero,Array.length_toList] at e
 have lb:(xs.toList.take b).length=b:=by rw [List.length_take,Array.length_toList]; omega
 have ge:∀ q,ys[q]?=ys.toList[q]?:=fun q=>by rw [Array.getElem?_toList]
 by_cases h1:p < b
 ·rw [if_pos h1]
  refine zacg ?_
  rw [ge,e,List.getElem?_append_left (by rw [lb]; exact h1),List.getElem?_take_of_lt h1,Array.getElem?_toList]
 ·rw [if_neg h1]
  by_cases h2:p < b + m.size
  ·rw [if_pos h2]
   refine zacg ?_
   rw [ge,e,List.getElem?_append_right (by rw [lb]; omega),lb,List.getElem?_append_left (by rw [Array.length_toList]; omega),Array.getElem?_toList]
  ·rw [if_neg h2]
   refine zacg ?_
   rw [ge,e,List.getElem?_append_right (by rw [lb]; omega),lb,List.getElem?_append_right (by rw [Array.length_toList]; omega),Array.length_toList,List.getElem?_drop,show b + m.size + (p - b - m.size)=p by omega,Array.getElem?_toList]
structure RO (st:SortSt) (top:Nat):Prop where
 rn:RN (pendingOf st) top
 so:∀ (i:Nat) (x:Nat × Nat × Nat),(pendingOf st)[i]?=some x→Asc (arrOf st) x.1 x.2.1
 z0:∀ x:Nat × Nat × Nat,(pendingOf st)[0]?=some x→x.1=0
 e0:(pendingOf st).size=0→top=0
theorem RN.le {p:Array (Nat × Nat × Nat)}{top:Nat} (r:RN p top) {i:Nat}{x:Nat × Nat × Nat} (ex:p[i]?=some x):∀ (d:Nat) (y:Nat × Nat × Nat),p[i + d + 1]?=some y→x.1 + x.2.1≤y.1
 | 0,y,ey=>by rw [r.nx i x y ex ey]; exact Nat.le_refl _
 | d + 1,y,ey=>by
  have hd:i + d + 1 < p.size:=by
   have:=(Array.getElem?_eq_some_iff.mp ey).1
   omega
  obtain ⟨z,ez⟩:∃ z,p[i + d + 1]?=some z:=⟨_,getElem?_pos p (i + d + 1) hd⟩
  have h1:=r.le ex d z ez
  have h2:=r.nx (i + d + 1) z y ez ey
  omega
theorem zaji {p:Array (Nat × Nat × Nat)}{i sa na nb pw:Nat} (hi:i + 1 < p.size) (j:Nat):((p.setIfInBounds i (sa,na + nb,pw)).eraseIdxIfInBounds (i + 1))[j]?=if j < i then p[j]? else if j=i then some (sa,na + nb,pw) else p[j + 1]?:=by
 rw [Array.eraseIdxIfInBounds,dif_pos (by simpa using hi),Array.getElem?_eraseIdx,Array.getElem?_setIfInBounds,Array.getElem?_setIfInBounds]
 by_cases h1:j < i
 ·rw [if_pos (by omega),if_neg (by omega),if_pos h1]
 by_cases h2:j=i
 ·subst h2
  rw [if_pos (by omega),if_pos rfl,if_pos (by omega),if_neg h1,if_pos rfl]
 ·rw [if_neg (by omega),if_neg (by omega),if_neg h1,if_neg h2]
theorem zaho {p:Array (Nat × Nat × Nat)}{i sa na nb pw:Nat} (hi:i + 1 < p.size):((p.setIfInBounds i (sa,na + nb,pw)).eraseIdxIfInBounds (i + 1)).size + 1=p.size:=by
 rw [Array.eraseIdxIfInBounds,dif_pos (by simpa using hi),Array.size_eraseIdx,Array.size_setIfInBounds]
 omega
theorem RO.join {st st':SortSt}{top i sa na pw sb nb pv:Nat} (r:RO st top) (hi:i + 1 < (pendingOf st).size) (e1:(pendingOf st)[i]?=some (sa,na,pw)) (e2:(pendingOf st)[i + 1]?=some (sb,nb,pv)) (ep:pendingOf st'=((pendingOf st).setIfInBounds i (sa,na + nb,pw)).eraseIdxIfInBounds (i + 1))
  (as:Asc (arrOf st') sa (na + nb)) (fr:∀ k,k < sa∨sa + na + nb≤k→kv (arrOf st') k=kv (arrOf st) k):RO st' top∧(pendingOf st').size + 1=(pendingOf st).size∧∀ k,top≤k→kv (arrOf st') k=kv (arrOf st) k:=by
 have o1:=r.rn.ok _ _ e1
 have o2:=r.rn.ok _ _ e2
 have n1:=r.rn.nx _ _ _ e1 e2
 dsimp only at o1 o2 n1
 refine ⟨⟨by rw [ep]; exact r.rn.join hi e1 e2,fun j x ex=>?_,fun x ex=>?_,fun z=>?_⟩,by rw [ep]; exact zaho hi,fun k hk=>fr k (.inr (by omega))⟩
 ·rw [ep,zaji hi] at ex
  by_cases h1:j < i
  ·rw [if_pos h1] at ex
   have lx:=r.rn.le ex (i - j - 1) (sa,na,pw) (by rw [show j + (i - j - 1) + 1=i by omega]; exact e1)
   exact zada (r.so j x ex) fun k h2 h3=>fr k (.inl (by dsimp only at lx; omega))
  rw [if_neg h1] at ex
  by_cases h2:j=i
  ·rw [if_pos h2] at ex
   cases ex
   exact as
  ·rw [if_neg h2] at ex
   have lx:=r.rn.le e2 (j - i - 1) x (by rw [show i + 1 + (j - i - 1) + 1=j + 1 by omega]; exact ex)
   exact zada (r.so _ x ex) fun k h3 h4=>fr k (.inr (by dsimp only at lx; omega))
 ·rw [ep,zaji hi] at ex
  by_cases h1:0 < i
  ·rw [if_pos h1] at ex
   exact r.z0 x ex
  ·rw [if_neg h1] at ex
   have hi0:i=0:=by omega
   subst hi0
   rw [if_pos rfl] at ex
   cases ex
   exact r.z0 (sa,na,pw) e1
 ·have:=zaho (sa:=sa) (na:=na) (nb:=nb) (pw:=pw) hi
  rw [ep] at z
  omega
section
variable {prog:Program}{w:World}{A:Around}{E:Value→Shared→Prop}{s:Shared}
theorem zail {st:SortSt}{a0:Array Keyed}{i top:Nat}{Q:Bool→SortSt→Prop} (hs:SPm a0 st) (k0:∀ x∈a0.toList,KI x) (hr:RO st top) (ht:top≤a0.size) (hi:i + 1 < (pendingOf st).size) (h:∀ st',SPm a0 st'→RO st' top→(pendingOf st').size + 1=(pendingOf st).size→(∀ k,top≤k→kv (arrOf st') k=kv (arrOf st) k)→Q true st'):wpS (model prog w) A E s (mergeAt' i) Q st:=by
 obtain ⟨⟨sa,na,pw⟩,e1⟩:∃ x,(pendingOf st)[i]?=some x:=⟨_,getElem?_pos _ i (by omega)⟩
 obtain ⟨⟨sb,nb,pv⟩,e2⟩:∃ x,(pendingOf st)[i + 1]?=some x:=⟨_,getElem?_pos _ (i + 1) hi⟩
 have o1:=hr.rn.ok _ _ e1
 have o2:=hr.rn.ok _ _ e2
 have n1:=hr.rn.nx _ _ _ e1 e2
 have aA:=hr.so _ _ e1
 have aB:=hr.so _ _ e2
 dsimp only at o1 o2 n1 aA aB
 have cA:∀ i j,sa≤i→i≤j→j < sb→kv (arrOf st) i≤kv (arrOf st) j:=fun i j h1 h2 h3=>by
  have:=aA (i - sa) (j - sa) (by omega) (by omega)
  rwa [show sa + (i - sa)=i by omega,show sa + (j - sa)=j by omega] at this
 have cB:∀ i j,sb≤i→i≤j→j < sb + nb→kv (arrOf st) i≤kv (arrOf st) j:=fun i j h1 h2 h3=>by
  have:=aB (i - sb) (j - sb) (by omega) (by omega)
  rwa [show sb + (i - sb)=i by omega,show sb + (j - sb)=j by omega] at this
 refine wpS_bind (wpS_get ?_)
 simp only [e1,e2]
 refine wpS_bind (zats ?_)
 have hz:=hs.size
 have s1:SPm a0 (setPending st (((pendingOf st).setIfInBounds i (sa,na + nb,pw)).eraseIdxIfInBounds (i + 1))):=⟨hs.pm,hs.kind,hs.fail⟩
 have ks:∀ j (h:j < (arrOf st).size),KI (arrOf st)[j]:=fun j h=>hs.ki k0 h
 have lsb:sb < (arrOf st).size:=by rw [hz]; omega
 have stay:Asc (arrOf st) sa (na + nb)→Q true (setPending st (((pendingOf st).setIfInBounds i (sa,na + nb,pw)).eraseIdxIfInBounds (i + 1))):=fun as=>by
  obtain ⟨r1,r2,r3⟩:=hr.join (st':=setPending st (((pendingOf st).setIfInBounds i (sa,na + nb,pw)).eraseIdxIfInBounds (i + 1))) hi e1 e2 rfl as (fun _ _=>rfl)
  exact h _ s1 r1 r2 r3
 refine wpS_bind (zaa9 (i:=sb) lsb ?_)
 refine wpS_bind (zac9 (b:=sa) (n:=na) (hint:=0) hs.kind (ks _ _) ks (show sa + na≤(arrOf st).size by rw [hz]; omega) (by omega) aA fun k hk g1 g2=>?_)
 have g1:∀ i,i < k→kv (arrOf st) (sa + i)≤kv (arrOf st) sb:=fun i hi=>by have:=g1 i hi; unfold bB at this; rw [← zabw lsb] at this; simp at this; omega
 have g2:∀ i,k≤i→i < na→kv (arrOf st) sb < kv (arrOf st) (sa + i):=fun i hi hn=>by have:=g2 i hi hn; unfold bB at this; rw [← zabw lsb] at this; simp at this; omega
 refine zaa6 (fun ek=>wpS_pure (stay fun p q hpq hq=>?_)) (fun ne=>?_)
 ·have ek:k=na:=by
   have ek:(na - k == 0)=true:=ek
   simp at ek; omega
  by_cases h1:q < na
  ·exact cA _ _ (by omega) (by omega) (by omega)
  ·by_cases h2:p < na
   ·have:=g1 p (by omega)
    have:=cB sb (sa + q) (by omega) (by omega) (by omega)
    omega
   ·exact cB _ _ (by omega) (by omega) (by omega)
 have ne:k < na:=by
  have ne:¬ (na - k == 0)=true:=ne
  simp at ne; omega
 have lla:sa + k + (na - k) - 1 < (arrOf st).size:=by rw [hz]; omega
 have ela:sa + k + (na - k) - 1=sb - 1:=by omega
 refine wpS_bind (zaa9 (i:=sa + k + (na - k) - 1) lla ?_)
 refine wpS_bind (zac9 (b:=sb) (n:=nb) (hint:=nb - 1) hs.kind (ks _ _) ks (show sb + nb≤(arrOf st).size by rw [hz]; omega) (by omega) aB fun m hm g3 g4=>?_)
 have g3:∀ i,i < m→kv (arrOf st) (sb + i) < kv (arrOf st) (sb - 1):=fun i hi=>by have:=g3 i hi; unfold bB at this; rw [← zabw lla,ela] at this; simpa using this
 have g4:∀ i,m≤i→i < nb→kv (arrOf st) (sb - 1)≤kv (arrOf st) (sb + i):=fun i hi hn=>by have:=g4 i hi hn; unfold bB at this; rw [← zabw lla,ela] at this; simpa using this
 refine zaa6 (fun em=>wpS_pure (stay fun p q hpq hq=>?_)) (fun ne2=>?_)
 ·have em:m=0:=by
   have em:(m == 0)=true:=em
   simpa using em
  by_cases h1:q < na
  ·exact cA _ _ (by omega) (by omega) (by omega)
  ·by_cases h2:p < na
   ·have h3:=g4 (q - na) (by omega) (by omega)
    rw [show sb + (q - na)=sa + q by omega] at h3
    have:=cA (sa + p) (sb - 1) (by omega) (by omega) (by omega)
    omega
   ·exact cB _ _ (by omega) (by omega) (by omega)
 have ne2:0 < m:=by
  have ne2:¬ (m == 0)=true:=ne2
  simp at ne2; omega
 have lm:sb + m≤(arrOf st).size:=by rw [hz]; omega
 have ls:sb≤(arrOf st).size:=by omega
 have zx:((arrOf st).extract (sa + k) sb).size=sb - (sa + k):=by rw [Array.size_extract,hz]; omega
 have zy:((arrOf st).extract sb (sb + m)).size=m:=by rw [Array.size_extract,hz]; omega
 have kx:∀ j (h:j < ((arrOf st).extract (sa + k) sb).size),KI ((arrOf st).extract (sa + k) sb)[j]:=fun j h=>by rw [Array.getElem_extract]; exact ks _ _
 have ky:∀ j (h:j < ((arrOf st).extract sb (sb + m)).size),KI ((arrOf st).extract sb (sb + m))[j]:=fun j h=>by rw [Array.getElem_extract]; exact ks _ _
 have ux:UpK ((arrOf st).extract (sa + k) sb).toList:=zao2 ls fun i j h1 h2 h3=>cA i j (by omega) h2 h3
 have uy:UpK ((arrOf st).extract sb (sb + m)).toList:=zao2 lm fun i j h1 h2 h3=>cB i j h1 h2 (by omega)
 have vx:∀ j,j < sb - (sa + k)→kv ((arrOf st).extract (sa + k) sb) j=kv (arrOf st) (sa + k + j):=fun j hj=>zajh ls (by omega)
 have vy:∀ j,j < m→kv ((arrOf st).extract sb (sb + m)) j=kv (arrOf st) (sb + j):=fun j hj=>zajh lm (by omega)
 have f0:∀ j,j < sb - (sa + k)→kv ((arrOf st).extract sb (sb + m)) 0≤kv ((arrOf st).extract (sa + k) sb) j:=fun j hj=>by
  rw [vx j hj,vy 0 ne2,Nat.add_zero]
  have:=g2 (k + j) (by omega) (by omega)
  rw [show sa + (k + j)=sa + k + j by omega] at this
  omega
 have fl:∀ j,j < m→kv ((arrOf st).extract sb (sb + m)) j≤kv ((arrOf st).extract (sa + k) sb) (((arrOf st).extract (sa + k) sb).size - 1):=fun j hj=>by
  rw [zx,vx _ (by omega),vy j hj,show sa + k + (sb - (sa + k) - 1)=sb - 1 by omega]
  have:=g3 j hj
  omega
 have fin:∀ (out:Array Keyed) (st2:SortSt),Mrg ((arrOf st).extract (sa + k) sb) ((arrOf st).extract sb (sb + m)) out→SG (setPending st (((pendingOf st).setIfInBounds i (sa,na + nb,pw)).eraseIdxIfInBounds (i + 1))) st2 →
   Q (failedOf st2).isNone (setArr st2 (out.toList.zipIdx.foldl (fun (a:Array Keyed) (p:Keyed × Nat)=>a.setIfInBounds (sa + k + p.2) p.1) (arrOf st2))):=fun out st2 mr sg=>by
  have hf:failedOf st2=none:=sg.fail.trans hs.fail
  have ea:arrOf st2=arrOf st:=sg.arr
  have zo:out.size=sb - (sa + k) + m:=by
   have:=mr.pm.length_eq
   rw [List.length_append,Array.length_toList,Array.length_toList,Array.length_toList,zx,zy] at this
   exact this
  rw [hf]
  have pe:(out.toList.zipIdx.foldl (fun (a:Array Keyed) (p:Keyed × Nat)=>a.setIfInBounds (sa + k + p.2) p.1) (arrOf st2)).Perm a0:=by
   rw [ea]
   refine (zan7 (b:=sa + k) (e:=sb + m) (by omega) (by rw [hz]; omega) (mr.pm.trans (List.Perm.of_eq ?_))).trans hs.pm
   simp only [Array.toList_extract,List.extract_eq_take_drop]
   rw [show sb + m - sb=m by omega,show sb + m - (sa + k)=(sb - (sa + k)) + m by omega,List.take_add,List.drop_drop,show sa + k + (sb - (sa + k))=sb by omega]
  have kvn:∀ p,kv (out.toList.zipIdx.foldl (fun (a:Array Keyed) (p:Keyed × Nat)=>a.setIfInBounds (sa + k + p.2) p.1) (arrOf st2)) p=if p < sa + k then kv (arrOf st) p else if p < sb + m then kv out (p - (sa + k)) else kv (arrOf st) p:=fun p=>by
   rw [zask (by rw [ea]; omega),ea,zo,show sa + k + (sb - (sa + k) + m)=sb + m by omega]
  have mem:∀ q,q < out.size→∃ t,sa + k≤t∧t < sb + m∧kv out q=kv (arrOf st) t:=fun q hq=>by
   have hm:out[q]∈((arrOf st).extract (sa + k) sb).toList++((arrOf st).extract sb (sb + m)).toList:=mr.pm.mem_iff.mp (by simp)
   rw [zabw hq]
   rcases List.mem_append.mp hm with hm | hm
   ·obtain ⟨t,t1,t2,t3⟩:=zalr ls hm
    exact ⟨t,t1,by omega,t3⟩
   ·obtain ⟨t,t1,t2,t3⟩:=zalr lm hm
    exact ⟨t,by omega,t2,t3⟩
  have as:Asc (out.toList.zipIdx.foldl (fun (a:Array Keyed) (p:Keyed × Nat)=>a.setIfInBounds (sa + k + p.2) p.1) (arrOf st2)) sa (na + nb):=fun p q hpq hq=>by
   rw [kvn,kvn]
   by_cases p1:p < k
   ·rw [if_pos (by omega)]
    have b1:=g1 p p1
    by_cases q1:q < k
    ·rw [if_pos (by omega)]
     exact cA _ _ (by omega) (by omega) (by omega)
    ·rw [if_neg (by omega)]
     by_cases q2:q < na + m
     ·rw [if_pos (by omega)]
      obtain ⟨t,t1,t2,t3⟩:=mem (sa + q - (sa + k)) (by omega)
      rw [t3]
      by_cases t4:t < sb
      ·exact cA _ _ (by omega) (by omega) t4
      ·have:=cB sb t (Nat.le_refl _) (by omega) (by omega)
       omega
     ·rw [if_neg (by omega)]
      have:=cB sb (sa + q) (Nat.le_refl _) (by omega) (by omega)
      omega
   ·rw [if_neg (by omega)]
    by_cases p2:p < na + m
    ·rw [if_pos (by omega)]
     by_cases q2:q < na + m
     ·rw [if_neg (by omega),if_pos (by omega)]
      exact zaij mr.up (by omega) (by omega)
     ·rw [if_neg (by omega),if_neg (by omega)]
      obtain ⟨t,t1,t2,t3⟩:=mem (sa + p - (sa + k)) (by omega)
      rw [t3]
      have b4:=g4 (q - na) (by omega) (by omega)
      rw [show sb + (q - na)=sa + q by omega] at b4
      by_cases t4:t < sb
      ·have:=cA t (sb - 1) (by omega) (by omega) (by omega)
       omega
      ·exact cB _ _ (by omega) (by omega) (by omega)
    ·rw [if_neg (by omega),if_neg (by omega),if_neg (by omega)]
     exact cB _ _ (by omega) (by omega) (by omega)
  obtain ⟨r1,r2,r3⟩:=hr.join (st':=setArr st2 (out.toList.zipIdx.foldl (fun (a:Array Keyed) (p:Keyed × Nat)=>a.setIfInBounds (sa + k + p.2) p.1) (arrOf st2))) hi e1 e2 sg.pend as fun p hp=>by
   show kv (out.toList.zipIdx.foldl (fun (a:Array Keyed) (p:Keyed × Nat)=>a.setIfInBounds (sa + k + p.2) p.1) (arrOf st2)) p=_
   rw [kvn]
   rcases hp with hp | hp
   ·rw [if_pos (by omega)]
   ·rw [if_neg (by omega),if_neg (by omega)]
  exact h _ ⟨pe,sg.kind.trans hs.kind,hf⟩ r1 r2 r3
 refine zaa6 (fun _=>?_) (fun _=>?_)
 ·exact wpS_bind (zaqi hs.kind kx ky (by rw [zx]; omega) (by rw [zy]; omega) ux uy (f0 0 (by omega)) (fun j hj=>fl j (by rw [zy] at hj; exact hj)) fun out st2 pm sg=>wpS_bind (wpS_modify (wpS_bind (wpS_get (wpS_pure (fin out st2 pm sg))))))
 ·exact wpS_bind (zaqj hs.kind kx ky (by rw [zx]; omega) (by rw [zy]; omega) ux uy (fun j hj=>f0 j (by rw [zx] at hj; exact hj)) (by rw [zy]; exact fl (m - 1) (by omega)) fun out st2 pm sg=>wpS_bind (wpS_modify (wpS_bind (wpS_get (wpS_pure (fin out st2 pm sg))))))
end
end L2

namespace L2
open PySem PySem.W PyProof.Rows
theorem RO.low {st st':SortSt}{lo:Nat} (r:RO st lo) (p:pendingOf st'=pendingOf st) (l:Low lo st st'):RO st' lo:=by
 refine ⟨by rw [p]; exact r.rn,fun i x e=>?_,fun x e=>r.z0 x (by rw [← p]; exact e),fun z=>r.e0 (by rw [← p]; exact z)⟩
 rw [p] at e
 have o:=r.rn.ok i x e
 exact zada (r.so i x e) fun k h1 h2=>l k (by omega)
theorem RO.push {st:SortSt}{lo n:Nat} (r:RO st lo) (hn:1≤n) (as:Asc (arrOf st) lo n):RO (setPending st ((pendingOf st).push (lo,n,0))) (lo + n):=by
 refine ⟨r.rn.push hn,fun i x e=>?_,fun x e=>?_,fun z=>?_⟩
 ·have e:((pendingOf st).push (lo,n,0))[i]?=some x:=e
  rw [Array.getElem?_push] at e
  split at e
  ·cases e; exact as
  ·exact r.so i x e
 ·have e:((pendingOf st).push (lo,n,0))[0]?=some x:=e
  rw [Array.getElem?_push] at e
  split at e
  ·rename_i z
   cases e
   exact r.e0 z.symm
  ·exact r.z0 x e
 ·have z:((pendingOf st).push (lo,n,0)).size=0:=z
  simp at z
theorem RO.mod {st:SortSt}{lo k:Nat}{f:Nat × Nat × Nat→Nat × Nat × Nat} (r:RO st lo) (hf:∀ x,(f x).1=x.1∧(f x).2.1=x.2.1):RO (setPending st ((pendingOf st).modify k f)) lo:=by
 have g:∀ (i:Nat) x,((pendingOf st).modify k f)[i]?=some x→∃ y,(pendingOf st)[i]?=some y∧x.1=y.1∧x.2.1=y.2.1:=fun i x e=>by
  rw [Array.getElem?_modify] at e
  split at e
  ·obtain ⟨y,e1,e2⟩:=Option.map_eq_some_iff.mp e
   exact ⟨y,e1,by rw [← e2]; exact (hf y).1,by rw [← e2]; exact (hf y).2⟩
  ·exact ⟨x,e,rfl,rfl⟩
 refine ⟨r.rn.mod hf,fun i x e=>?_,fun x e=>?_,fun z=>?_⟩
 ·obtain ⟨y,e1,e2,e3⟩:=g i x e
  rw [e2,e3]
  exact r.so i y e1
 ·obtain ⟨y,e1,e2,e3⟩:=g 0 x e
  rw [e2]
  exact r.z0 y e1
 ·have z:((pendingOf st).modify k f).size=0:=z
  rw [Array.size_modify] at z
  exact r.e0 z
theorem RO.end {st:SortSt}{top:Nat} (r:RO st top) (h:(pendingOf st).size≤1):Asc (arrOf st) 0 top:=by
 by_cases z:(pendingOf st).size=0
 ·rw [r.e0 z]
  intro i j _ hj
  omega
 ·obtain ⟨x,e⟩:∃ x,(pendingOf st)[0]?=some x:=⟨_,getElem?_pos _ 0 (by omega)⟩
  have h1:=r.z0 x e
  have h2:=r.rn.la x (by rw [show (pendingOf st).size - 1=0 by omega]; exact e)
  have:=r.so 0 x e
  rwa [h1,show x.2.1=top by omega] at this
section
variable {prog:Program}{w:World}{A:Around}{E:Value→Shared→Prop}{s:Shared}
theorem zan9 {st:SortSt}{a0:Array Keyed}{Q:Unit→SortSt→Prop} (hs:SPm a0 st) (k0:∀ x∈a0.toList,KI x) (df:Dif a0) (hp:pendingOf st=#[]) (h:∀ st',SPm a0 st'→Asc (arrOf st') 0 a0.size→Q () st'):wpS (model prog w) A E s sortRuns' Q st:=by
 have hz:=hs.size
 refine wpS_bind (wpS_get ?_)
 have r0:RO st 0:=⟨RN.nil hp,fun i x e=>by rw [hp] at e; simp at e,fun x e=>by rw [hp] at e; simp at e,fun _=>rfl⟩
 refine wpS_bind (wpS_mono (wpS_forRange (I:=fun x c st'=>SPm a0 st'∧∃ lo:Nat,c=(none,lo)∧RO st' lo∧lo≤a0.size∧x≤lo∧(pendingOf st').size≤x) (Q:=fun c st'=>SPm a0 st'∧∃ lo:Nat,c=(none,lo)∧RO st' lo∧lo=a0.size∧(pendingOf st').size≤a0.size) ?_ ?_ ⟨hs,0,rfl,r0,Nat.zero_le _,Nat.le_refl _,by rw [hp]; exact Nat.le_refl _⟩) ?_)
 ·rintro x c st1 _ hx ⟨s1,lo,rfl,r1,hlo,xlo,ps1⟩
  refine zaa6 (fun ge=>wpS_pure ⟨s1,lo,rfl,r1,by have ge:lo ≥ (arrOf st).size:=ge; omega,by omega⟩) (fun ne=>?_)
  have ne:lo < a0.size:=by
   have ne:¬ lo ≥ (arrOf st).size:=ne
   omega
  refine wpS_bind (zaqm (lo:=lo) (n:=(arrOf st).size - lo) s1 k0 df (by omega) (by omega) fun m st2 hm hmn s2 p2 l2 a2=>?_)
  refine zaa6 (fun lt=>wpS_bind (zaf2 (wpS_bind (zaql (lo:=lo) (n:=min ((arrOf st).size - lo) (minRun' (arrOf st).size (arrOf st).size 0)) s2 k0 (by omega) (by have lt:m < minRun' (arrOf st).size (arrOf st).size 0:=lt; omega) a2 fun st3 s3 p3 l3 a3=>zaa6 (fun z=>by cases z) (fun _=>?_))))) (fun _=>?_)
  ·have lt:m < minRun' (arrOf st).size (arrOf st).size 0:=lt
   have hN:1≤min ((arrOf st).size - lo) (minRun' (arrOf st).size (arrOf st).size 0):=by omega
   have hL:lo + min ((arrOf st).size - lo) (minRun' (arrOf st).size (arrOf st).size 0)≤a0.size:=by omega
   have r3:RO st3 lo:=r1.low (p3.trans p2) fun k hk=>(l3 k hk).trans (l2 k hk)
   have ps3:(pendingOf st3).size≤x:=by rw [p3,p2]; exact ps1
   refine wpS_bind (wpS_get ?_)
   split
   ·refine wpS_bind (wpS_mono (wpS_forRange (I:=fun y c st'=>c=(none,())∧SPm a0 st'∧RO st' lo∧(pendingOf st').size≤x∧∀ k,lo≤k→kv (arrOf st') k=kv (arrOf st3) k) (Q:=fun c st'=>c=(none,())∧SPm a0 st'∧RO st' lo∧(pendingOf st').size≤x∧∀ k,lo≤k→kv (arrOf st') k=kv (arrOf st3) k) ?_ (fun c st' h=>h) ⟨rfl,s3,r3,ps3,fun _ _=>rfl⟩) ?_)
    ·rintro y c st4 _ hy ⟨rfl,s4,r4,ps4,f4⟩
     refine wpS_bind (wpS_get ?_)
     dsimp only
     split
     ·rename_i eq
      have hsz:1 < (pendingOf st4).size:=by
       split at eq
       ·assumption
       ·cases eq
      refine zaa6 (fun _=>wpS_pure ⟨rfl,s4,r4,ps4,f4⟩) (fun _=>wpS_bind (zail (i:=(pendingOf st4).size - 2) s4 k0 r4 hlo (by omega) fun st5 s5 r5 z5 f5=>?_))
      exact zaa6 (fun z=>by cases z) (fun _=>wpS_pure ⟨rfl,s5,r5,by omega,fun k hk=>(f5 k hk).trans (f4 k hk)⟩)
     ·exact wpS_pure ⟨rfl,s4,r4,ps4,f4⟩
    ·rintro c st4 ⟨rfl,s4,r4,ps4,f4⟩
     refine wpS_bind (wpS_modify (wpS_bind (wpS_modify (wpS_pure ⟨⟨s4.pm,s4.kind,s4.fail⟩,lo + min ((arrOf st).size - lo) (minRun' (arrOf st).size (arrOf st).size 0),rfl,?_,hL,by omega,?_⟩))))
     ·exact RO.push (RO.mod r4 (by intro x; obtain ⟨a,b,c⟩:=x; exact ⟨rfl,rfl⟩)) hN (zada a3 fun k h1 h2=>f4 k h1)
     ·show (((pendingOf st4).modify _ _).push _).size≤x + 1
      rw [Array.size_push,Array.size_modify]
      omega
   ·refine wpS_bind (wpS_modify (wpS_pure ⟨⟨s3.pm,s3.kind,s3.fail⟩,lo + min ((arrOf st).size - lo) (minRun' (arrOf st).size (arrOf st).size 0),rfl,RO.push r3 hN a3,hL,by omega,?_⟩))
    show ((pendingOf st3).push _).size≤x + 1
    rw [Array.size_push]
    omega
  ·have s3:=s2
   have hN:1≤m:=hm
   have hL:lo + m≤a0.size:=by omega
   have r3:RO st2 lo:=r1.low p2 l2
   have a3:=a2
   have ps3:(pendingOf st2).size≤x:=by rw [p2]; exact ps1
   refine wpS_bind (wpS_get ?_)
   split
   ·refine wpS_bind (wpS_mono (wpS_forRange (I:=fun y c st'=>c=(none,())∧SPm a0 st'∧RO st' lo∧(pendingOf st').size≤x∧∀ k,lo≤k→kv (arrOf st') k=kv (arrOf st2) k) (Q:=fun c st'=>c=(none,())∧SPm a0 st'∧RO st' lo∧(pendingOf st').size≤x∧∀ k,lo≤k→kv (arrOf st') k=kv (arrOf st2) k) ?_ (fun c st' h=>h) ⟨rfl,s3,r3,ps3,fun _ _=>rfl⟩) ?_)
    ·rintro y c st4 _ hy ⟨rfl,s4,r4,ps4,f4⟩
     refine wpS_bind (wpS_get ?_)
     dsimp only
     split
     ·rename_i eq
      have hsz:1 < (pendingOf st4).size:=by
       split at eq
       ·assumption
       ·cases eq
      refine zaa6 (fun _=>wpS_pure ⟨rfl,s4,r4,ps4,f4⟩) (fun _=>wpS_bind (zail (i:=(pendingOf st4).size - 2) s4 k0 r4 hlo (by omega) fun st5 s5 r5 z5 f5=>?_))
      exact zaa6 (fun z=>by cases z) (fun _=>wpS_pure ⟨rfl,s5,r5,by omega,fun k hk=>(f5 k hk).trans (f4 k hk)⟩)
     ·exact wpS_pure ⟨rfl,s4,r4,ps4,f4⟩
    ·rintro c st4 ⟨rfl,s4,r4,ps4,f4⟩
     refine wpS_bind (wpS_modify (wpS_bind (wpS_modify (wpS_pure ⟨⟨s4.pm,s4.kind,s4.fail⟩,lo + m,rfl,?_,hL,by omega,?_⟩))))
     ·exact RO.push (RO.mod r4 (by intro x; obtain ⟨a,b,c⟩:=x; exact ⟨rfl,rfl⟩)) hN (zada a3 fun k h1 h2=>f4 k h1)
     ·show (((pendingOf st4).modify _ _).push _).size≤x + 1
      rw [Array.size_push,Array.size_modify]
      omega
   ·refine wpS_bind (wpS_modify (wpS_pure ⟨⟨s3.pm,s3.kind,s3.fail⟩,lo + m,rfl,RO.push r3 hN a3,hL,by omega,?_⟩))
    show ((pendingOf st2).push _).size≤x + 1
    rw [Array.size_push]
    omega
 ·rintro c st1 ⟨s1,lo,rfl,r1,hlo,xlo,ps1⟩
  have xlo:max 0 (arrOf st).size≤lo:=xlo
  have ps1:(pendingOf st1).size≤max 0 (arrOf st).size:=ps1
  exact ⟨s1,lo,rfl,r1,by omega,by omega⟩
 ·rintro c st1 ⟨s1,lo,rfl,r1,rfl,ps1⟩
  refine wpS_bind (wpS_mono (wpS_forRange (I:=fun y c st'=>c=(none,())∧SPm a0 st'∧RO st' a0.size∧((pendingOf st').size≤1∨(pendingOf st').size + y≤a0.size)) (Q:=fun c st'=>c=(none,())∧SPm a0 st'∧RO st' a0.size∧(pendingOf st').size≤1) ?_ ?_ ⟨rfl,s1,r1,.inr ps1⟩) ?_)
  ·rintro y c st4 _ hy ⟨rfl,s4,r4,ps4⟩
   refine wpS_bind (wpS_get ?_)
   refine zaa6 (fun le=>wpS_pure ⟨rfl,s4,r4,le⟩) (fun np=>?_)
   have np:1 < (pendingOf st4).size:=by
    have np:¬ (pendingOf st4).size≤1:=np
    omega
   refine wpS_bind (zail s4 k0 r4 (Nat.le_refl _) (zasj (n:=(pendingOf st4).size) (zasi (Nat.sub_le _ _) (Nat.le_refl _)) np) fun st5 s5 r5 z5 f5=>?_)
   exact zaa6 (fun z=>by cases z) (fun _=>wpS_pure ⟨rfl,s5,r5,.inr (by omega)⟩)
  ·rintro c st4 ⟨rfl,s4,r4,ps4⟩
   have ps4:(pendingOf st4).size≤1∨(pendingOf st4).size + max 0 (arrOf st).size≤a0.size:=ps4
   exact ⟨rfl,s4,r4,by omega⟩
  ·rintro c st4 ⟨rfl,s4,r4,ps4⟩
   exact wpS_pure (h _ s4 (r4.end ps4))
end
end L2

namespace L2
open PySem PySem.Spec PyProof.Rows
section
variable {X:Cx}{pins:List (Addr × Obj)}{σ:St}{H:Hp}{s:Shared}{d:Addr}
theorem Inv.swap (I:Inv X pins σ H s) {o o':HO} (e:H d=some o) (nt:∀ xs,o≠.tup xs) (no:∀ x,o≠.own x) (nb:∀ ps,o≠.tbl ps) (nf:(∀ b u,o≠.frz b u)∨∀ b u,X.H₀ d≠some (.frz b u)) (new:ObjOk X.prog X.w (upd H d o') s.heap d o'):Inv X pins σ (upd H d o') s:=by
 have ne:∀ b,H b=none→b≠d:=fun b h z=>by rw [z,e] at h; cases h
 refine ⟨I.ok,I.os,I.bare,⟨I.base.keep,I.base.slot,fun b u q n hx=>?_,I.base.there,fun b xs q=>?_,fun b u v q=>?_,fun b ps q=>?_⟩,I.loc,I.cell,?_,fun x c q=>?_,fun p hp=>?_,fun b u q=>?_,I.len⟩
 ·have z:=I.base.free b u q n hx
  rw [zaa5 (ne b z)]; exact z
 ·have z:=I.base.tups b xs q
  have nd:b≠d:=fun w=>by rw [w,e] at z; exact nt xs (Option.some.inj z)
  rw [zaa5 nd]; exact z
 ·have z:=I.base.frzs b u v q
  have nd:b≠d:=fun w=>by
   rcases nf with nf | nf
   ·rw [w,e] at z; exact nf u v (Option.some.inj z)
   ·rw [w] at q; exact nf u v q
  rw [zaa5 nd]; exact z
 ·obtain ⟨more,z⟩:=I.base.tbls b ps q
  have nd:b≠d:=fun w=>by rw [w,e] at z; exact nb _ (Option.some.inj z)
  exact ⟨more,by rw [zaa5 nd]; exact z⟩
 ·rw [zaa5 (ne _ I.free)]; exact I.free
 ·rw [zaa5 (ne _ (I.freeC x c q))]; exact I.freeC x c q
 ·obtain ⟨q1,q2,q3⟩:=I.pin p hp
  exact ⟨q1,by rw [zaa5 (ne _ q2)]; exact q2,q3⟩
 ·by_cases hb:b=d
  ·subst hb; rw [zaae] at q; cases q; exact new
  ·rw [zaa5 hb] at q
   exact (I.hok b u q).stay (fun _ _ _ z=>z) (fun c z=>by rw [zaa5 (fun w=>by rw [w,e] at z; exact no _ (Option.some.inj z))]; exact z) fun c xs z=>by rw [zaa5 (fun w=>by rw [w,e] at z; exact nt xs (Option.some.inj z))]; exact z
theorem Inv.freeze (I:Inv X pins σ H s) {kvs:List (Key × V)}{ob:Obj} (e:H d=some (.dK kvs)) (ho:s.heap.get? d=some ob):Inv X pins σ (upd H d (.frz ob (.dK kvs))) s :=
 I.swap e (fun _ z=>by cases z) (fun _ z=>by cases z) (fun _ z=>by cases z) (.inl fun _ _ z=>by cases z) ⟨ho,(I.hok d _ e:ObjOk X.prog X.w H s.heap d (.dK kvs))⟩
theorem Inv.thaw (I:Inv X pins σ H s) {kvs:List (Key × V)}{ob:Obj} (e:H d=some (.frz ob (.dK kvs))) (nf:∀ b u,X.H₀ d≠some (.frz b u)):Inv X pins σ (upd H d (.dK kvs)) s :=
 I.swap e (fun _ z=>by cases z) (fun _ z=>by cases z) (fun _ z=>by cases z) (.inr nf) ((I.hok d _ e:ObjOk X.prog X.w H s.heap d (.frz ob (.dK kvs))).2:ObjOk X.prog X.w H s.heap d (.dK kvs))
end
def Itd (d:Addr) (ob:Obj) (kvs:List (Key × V)):It:=⟨fun i H=>H d=some (.frz ob (.dK kvs))∧i < kvs.length,fun i H x H'=>H'=H∧∃ kv:Key × V,kvs[i]?=some kv∧x=kV kv.1,fun i H=>H d=some (.frz ob (.dK kvs))∧kvs.length≤i⟩
theorem zaim {k:Key}{v:Value} (h:keyIs k v=true):RelV (kV k) v:=by
 rcases zabl h with ⟨i,t,rfl,rfl⟩ | ⟨x,t,rfl,rfl⟩
 ·exact ⟨t,rfl⟩
 ·exact ⟨t,rfl⟩
theorem zals {P:Program}{w:World}:∀ {kvs:List (Key × V)}{vs:List (Key × Value)}{es:List DictEntry},KV kvs vs→Pairs (mixKind P w) es vs→es.length=kvs.length∧∀ (i:Nat) (kv:Key × V),kvs[i]?=some kv→∃ e:DictEntry,es[i]?=some e∧RelV (kV kv.1) e.key
 | _,_,_,.nil,.nil=>⟨rfl,fun i kv h=>by simp at h⟩
 | _,_,_,.cons a t,.cons b _ r=>by
  obtain ⟨l,g⟩:=zals t r
  refine ⟨by simp [l],fun i kv h=>?_⟩
  cases i with
  | zero =>
   cases h
   exact ⟨_,rfl,zaim (by rw [a.1]; exact b)⟩
  | succ i=>exact g i kv (by simpa using h)
theorem Inv.frzd {X:Cx}{pins:List (Addr × Obj)}{σ:St}{H:Hp}{s:Shared}{d:Addr}{kvs:List (Key × V)}{ob:Obj}{es:Array DictEntry}{ep:Nat} (I:Inv X pins σ H s) (e:H d=some (.frz ob (.dK kvs))) (hd:ob.data=.dict es ep):DAt s.heap d es ep∧es.size=kvs.length∧∀ (i:Nat) (kv:Key × V),kvs[i]?=some kv→∃ en:DictEntry,es[i]?=some en∧RelV (kV kv.1) en.key:=by
 obtain ⟨g1,_,_,vs,kv,o,es',ep',g2,g3,g4,_,g5,_⟩:=(I.hok d _ e:ObjOk X.prog X.w H s.heap d (.frz ob (.dK kvs)))
 rw [g1] at g2
 cases g2
 rw [hd] at g4
 cases g4
 obtain ⟨l,g⟩:=zals kv g5
 exact ⟨⟨_,g1,g3,hd⟩,by rw [← l]; simp,fun i kv h=>by obtain ⟨en,e1,e2⟩:=g i kv h; exact ⟨en,by simpa using e1,e2⟩⟩
theorem zalt {P:Program}{w:World}{K:PySem.W.Frag}{tg:Expr} (d it:Addr) {ob:Obj}{kvs:List (Key × V)}{es:Array DictEntry}{ep:Nat} (hd:ob.data=.dict es ep):Turn P w K tg (Itd d ob kvs) [it] it (fun i h=>h.get? it=some (kitO d i es.size ep)∧i≤es.size) where
 mem:=by simp
 obj:=fun i h st b hb=>by
  have e:b=it:=by simpa using hb
  subst e
  exact ⟨_,st.1,fun v z=>by cases z⟩
 keep:=fun i h h' st k=>⟨k it (by simp) _ st.1,st.2⟩
 item:=by
  intro X hP hw hK hc i pins s σ H E I hf st hg
  subst hP hw hK
  obtain ⟨hq,hi⟩:=hg
  obtain ⟨m,l,g⟩:=I.frzd hq hd
  obtain ⟨f0,f1,f2,f3,f4,f5⟩:=hf it (by simp)
  obtain ⟨en,e1,r⟩:=g i kvs[i] (List.getElem?_eq_getElem hi)
  have hi2:i < es.size:=by omega
  have e2:en=es[i]:=by rw [Array.getElem?_eq_getElem hi2] at e1; exact (Option.some.inj e1).symm
  subst e2
  refine zalk st.1 m hi2 fun h' st' sb=>?_
  have I1:Inv X pins σ H { s with heap:=h' }:=I.turned (t':=s.toks) (fun b o hb e=>(sb.2 b hb).trans e) f0 f1 f3 f4 f5
  exact ⟨_,rfl,zanm (s:={ s with heap:=h' }) st' rfl rfl (by decide) ⟨kV kvs[i].1,H,I1,r,⟨rfl,_,List.getElem?_eq_getElem hi,rfl⟩,⟨st',by omega⟩,fun b hb=>(hf b hb).1⟩⟩
 done:=by
  intro X hP hw hK hc i pins s σ H E I hf st hg
  subst hP hw hK
  obtain ⟨hq,hi⟩:=hg
  obtain ⟨m,l,g⟩:=I.frzd hq hd
  obtain ⟨f0,f1,f2,f3,f4,f5⟩:=hf it (by simp)
  have e:i=es.size:=by have:=st.2; omega
  subst e
  exact zao1 (I.ok.hd hc) st.1 m fun h' eb=>⟨rfl,I.turned (t':=s.toks) (fun b o hb e=>eb b o hb e) f0 f1 f3 f4 f5⟩
 self:=fun _ _ _ _ _ st h=>wpAny_pyIter_keyiter ⟨_,st.1,rfl,rfl⟩ h
def iDict (tl:TE):TI:=fun σ H R=>tl σ H fun x H1=>∃ d kvs,x=.ref d∧H1 d=some (.dK kvs)∧∀ ob,R (Itd d ob kvs) (upd H1 d (.frz ob (.dK kvs)))
theorem zaoa {X:Cx}{tg:Expr}{l:Expr}{tl:TE} (hl:Pr (PE X l tl)):Pr (PI X tg l (iDict tl)):=by
 refine ⟨?_⟩
 intro pins s σ H R I h
 refine thn (hl.h pins s σ H _ I h) fun v s1 ⟨x,H1,I1,r1,q1⟩=>?_
 obtain ⟨d,kvs,e,hq,q⟩:=q1
 subst e
 cases r1
 obtain ⟨_,nS,vs,kv,o,es,ep,g2,g3,g4,_⟩:=(I1.hok d _ hq:ObjOk X.prog X.w H1 s1.heap d (.dK kvs))
 have I2:=I1.freeze hq g2
 refine zali nS ⟨o,g2,g3,g4⟩ ?_
 refine ⟨s1.heap.objs.size,[s1.heap.objs.size],_,_,_,rfl,I2.kept (t':=s1.toks) fun b o e=>Heap.get?_push_of_some _ e,zalt d _ g4,⟨Heap.get?_push_size _ rfl,Nat.zero_le _⟩,fun b hb=>?_,q o⟩
 have e:b=s1.heap.objs.size:=by simpa using hb
 subst e
 exact I2.fpOk (Nat.le_refl _) (I2.hok.fresh (Nat.le_refl _))
theorem zalu {d:Addr}{ob:Obj} (kvs:List (Key × V)) {g:TG}{tt:TT}{te:TE}{Q:List V→Hp→Prop}{σ:St}{H:Hp} (Pv:Nat→List V→St→Hp→Prop) (hn:kvs.length < sizeLine) (h0:Pv 0 [] σ H) (hl:∀ i ys σ H,i≤kvs.length→Pv i ys σ H→ys.length≤i∧H d=some (.frz ob (.dK kvs)))
  (turn:∀ i ys σ H kv,kvs[i]?=some kv→Pv i ys σ H→g (kV kv.1) σ H fun σ2 H2=>tt σ2 H2 fun b H3=>if b=true then te σ2 H3 fun y H4=>Pv (i + 1) (ys++[y]) σ2 H4 else Pv (i + 1) ys σ2 H3)
  (after:∀ ys σ H,Pv kvs.length ys σ H→Q ys H):Comp (Itd d ob kvs) g tt te Q σ H :=
 zae8 kvs.length Pv h0 (fun i ys σ H hi p=>Nat.lt_of_le_of_lt (Nat.le_trans (hl i ys σ H hi p).1 hi) hn) (fun i ys σ H hi p=>⟨(hl i ys σ H (Nat.le_of_lt hi) p).2,hi⟩)
  (fun ys σ H p=>⟨(hl _ ys σ H (Nat.le_refl _) p).2,Nat.le_refl _⟩) (fun i ys σ H hi p x H' y=>by obtain ⟨rfl,kv,e,rfl⟩:=y; exact turn i ys σ _ kv e p) after
def Thaw (H0:Hp) (q:Hp→Prop) (H:Hp):Prop:=∃ d ob kvs,H d=some (.frz ob (.dK kvs))∧(∀ b u,H0 d≠some (.frz b u))∧q (upd H d (.dK kvs))
def eThaw (H0:Hp) (t:TE):TE:=fun σ H Q=>t σ H fun v H'=>Thaw H0 (Q v) H'
theorem zaob {X:Cx}{ex:Expr}{t:TE} (h:Pr (PE X ex t)):Pr (PE X ex (eThaw X.H₀ t)):=by
 refine ⟨?_⟩
 intro pins s σ H Q I q
 refine thn (h.h pins s σ H _ I q) fun v s1 q1=>?_
 obtain ⟨x,H1,I1,r,d,ob,kvs,e,nf,z⟩:=q1
 exact ⟨x,_,I1.thaw e nf,r,z⟩
end L2

namespace L2
open PySem PySem.Spec PyProof.Rows
def rDictC:List V→Hp→VK→Prop:=fun xs H Q=>∃ (a:Addr) (kvs:List (Key × V)),xs=[.ref a]∧H a=some (.dK kvs)∧∀ d,H d=none→Q (.ref d) (upd H d (.dK kvs))
theorem zaf4 {X:Cx}:CallR X (.type "dict") rDictC:=by
 intro pins s σ H xs us Q I r h
 obtain ⟨a,kvs,rfl,ha,q⟩:=h
 obtain ⟨u,rfl,ru⟩:=vals1 r
 cases ru
 obtain ⟨hz,nS,vs,kv,hd⟩:=(I.hok a _ ha:ObjOk X.prog X.w H s.heap a (.dK kvs))
 have lv:vs.length=kvs.length:=(Paired.length kv).symm
 refine kt_call_dict nS hd (by omega) fun h' hd' sb=>?_
 have kp:∀ b o,s.heap.get? b=some o→h'.get? b=some o:=fun b o e=>(sb.2 b (Nat.ne_of_lt (Heap.lt_size e))).trans (Heap.get?_push_of_some _ e)
 have nS2:(s.heap.objs.size == sysModules)=false:=beq_eq_false_iff_ne.mpr (Ne.symm (Nat.ne_of_lt I.big))
 exact ⟨.ref s.heap.objs.size,_,I.laid (t':=s.toks) kp (Nat.le_refl _) (show ObjOk X.prog X.w _ h' _ (.dK kvs) from ⟨hz,nS2,vs,kv,hd'⟩),rfl,q _ (I.hok.fresh (Nat.le_refl _))⟩
end L2

namespace L2
open PySem PySem.W PyProof.Rows PySem.Calls
theorem zahp {h:Heap}{a:Addr}{xs:Array Value}{n:Nat} (hO:h.get? a=some (seqObj "list" xs n)) (vs:List Value) (out:Array Value):KeptBut a h (sortedHeap h a vs out)∧∃ c,(sortedHeap h a vs out).get? a=some (seqObj "list" out c):=by
 obtain ⟨e1,hO1⟩:∃ e1,(h.update a (Obj.mapSeq fun _=>(#[]:Array Value))).get? a=some (seqObj "list" #[] e1):=⟨_,get?_update_seq hO fun _=>#[]⟩
 have na:=Heap.get?_push_of_some (seqObj "list" #[] 0) (Heap.get?_push_of_some (seqObj "tuple" vs.toArray 0) hO1)
 refine ⟨fun b o nb e=>?_,_,get?_update_seq na fun _=>out⟩
 unfold sortedHeap
 rw [Heap.get?_update_ne _ _ _ _ nb]
 exact Heap.get?_push_of_some _ (Heap.get?_push_of_some _ (by rw [Heap.get?_update_ne _ _ _ _ nb]; exact e))
theorem zafh:∀ {vs:List Value}{ns:List Int},IntsAre vs ns→Vals (ns.map V.int) vs
 | _,_,.nil=>.nil
 | _,_,.cons _ u t=>.cons ⟨u,rfl⟩ (zafh t)
theorem zalv {P:Program}{w:World}:∀ {kvs:List (Key × V)}{vs:List (Key × Value)}{es:List DictEntry}{ns:List Int},KV kvs vs→Pairs (mixKind P w) es vs→kvs.map (·.1)=ns.map Sum.inl→IntsAre (es.map (·.key)) ns
 | _,_,_,ns,.nil,.nil,e=>by
  cases ns with
  | nil=>exact .nil
  | cons n r=>cases e
 | _,_,_,ns,.cons a t,.cons b _ r,e=>by
  cases ns with
  | nil=>cases e
  | cons n r' =>
   simp only [List.map_cons,List.cons.injEq] at e
   have ih:=zalv t r e.2
   have kr:=zaim b
   rw [← a.1,e.1] at kr
   obtain ⟨u,eu⟩:=kr
   rw [List.map_cons,eu]
   exact .cons _ _ ih
end L2

namespace L2
open PySem PySem.W PyProof.Rows PySem.Calls PySem.SeqAt
theorem zao3 {x:Keyed} (h:KI x):kn x=numOf x.1:=by
 obtain ⟨n,t,e⟩:=h
 unfold kn
 rw [e]
 rfl
theorem zalw {vs:List Value}{ns:List Int} (hI:IntsAre vs ns) (nd:ns.Nodup):Dif (pairsOf vs):=by
 unfold Dif
 have e:(pairsOf vs).toList.map kn=ns:=by
  rw [← hI.nums,pairsOf_toList]
  have e2:(vs.zip vs).map (·.1)=vs:=List.map_fst_zip (l₁:=vs) (l₂:=vs) (Nat.le_refl _)
  conv=>rhs; rw [← e2]
  rw [List.map_map]
  refine List.map_congr_left fun x hx=>zao3 ?_
  have:=hI.intKeys x (by rw [pairsOf_toList]; exact hx)
  exact this
 rw [e]
 exact nd
theorem zaqn {vs:List Value}{ns:List Int} (hI:IntsAre vs ns) {xs:Array Keyed} (p:xs.Perm (pairsOf vs)) (as:Asc xs 0 (pairsOf vs).size):∃ ns',IntsAre (xs.map (·.2)).toList ns'∧ns'.Perm ns∧ns'.Pairwise (·≤·):=by
 have q:(xs.map (·.2)).toList.Perm vs:=by
  rw [Array.toList_map]
  have:=(Array.perm_iff_toList_perm.mp p).map (·.2)
  rw [pairsOf_toList] at this
  have e:(vs.zip vs).map (·.2)=vs:=List.map_snd_zip (l₁:=vs) (l₂:=vs) (Nat.le_refl _)
  rwa [e] at this
 refine ⟨_,intsAre_map _ fun v hv=>hI.all v (q.mem_iff.mp hv),?_,?_⟩
 ·have:=q.map numOf
  rwa [hI.nums] at this
 ·have sz:=p.size_eq
  have at_:∀ i (h:i < xs.size),numOf xs[i].2=kv xs i:=fun i h=>by
   have hm:xs[i]∈(pairsOf vs).toList:=(Array.perm_iff_toList_perm.mp p).mem_iff.mp (by simp)
   have hk:KI xs[i]:=hI.intKeys _ hm
   rw [pairsOf_toList] at hm
   rw [zabw h,zao3 hk,(mem_zip_self hm).1]
  rw [Array.toList_map,List.map_map]
  refine List.pairwise_iff_getElem.mpr fun i j hi hj hij=>?_
  rw [List.length_map,Array.length_toList] at hi hj
  rw [List.getElem_map,List.getElem_map,Array.getElem_toList,Array.getElem_toList]
  show numOf xs[i].2≤numOf xs[j].2
  rw [at_ i hi,at_ j hj]
  have:=as i j (by omega) (by omega)
  rwa [Nat.zero_add,Nat.zero_add] at this
section
variable {prog:Program}{w:World}{A:Around}{E:Value→Shared→Prop}{s:Shared}
theorem zaoc {n:Nat}{a:Addr}{vs:List Value}{ns:List Int}{P:PySem.Fin→Shared→Prop} (hO:s.heap.get? a=some (seqObj "list" vs.toArray n)) (hI:IntsAre vs ns) (nd:ns.Nodup) (n2:2≤vs.length) (nz:vs.length≤sizeLine)
  (k:∀ (out:Array Value) (ns':List Int) (c:Nat) (h':Heap),IntsAre out.toList ns'→ns'.Perm ns→ns'.Pairwise (·≤·)→KeptBut a s.heap h'→h'.get? a=some (seqObj "list" out c)→P (.done (.ret .none)) { s with heap:=h' }) :
  wpAny (model prog w) A (Builtin.«list.sort» ⟨[.ref a],[]⟩) P E s:=by
 obtain ⟨e1,hO1⟩:∃ e1,(s.heap.update a (Obj.mapSeq fun _=>(#[]:Array Value))).get? a=some (seqObj "list" #[] e1):=⟨_,get?_update_seq hO fun _=>#[]⟩
 have kb:KeptBut a s.heap (((s.heap.update a (Obj.mapSeq fun _=>(#[]:Array Value))).push (seqObj "tuple" vs.toArray 0)).push (seqObj "list" #[] 0)):=fun b o nb e =>
  Heap.get?_push_of_some _ (Heap.get?_push_of_some _ (by rw [Heap.get?_update_ne _ _ _ _ nb]; exact e))
 have na:=Heap.get?_push_of_some (seqObj "list" #[] 0) (Heap.get?_push_of_some (seqObj "tuple" vs.toArray 0) hO1)
 generalize hh:((s.heap.update a (Obj.mapSeq fun _=>(#[]:Array Value))).push (seqObj "tuple" vs.toArray 0)).push (seqObj "list" #[] 0)=g at kb na
 rw [list_sort_plain]
 refine wpAny_bind (listItems_at hO rfl (wpAny_bind (listUpdate_at hO rfl (wpAny_bind (seqEpoch_at hO1 rfl (wpAny_bind (wpAny_newTuple (wpAny_bind (wpAny_newList (wpAny_holding ?_) (Nat.zero_le _))) (by show vs.length≤_; omega))))) (by rw [List.size_toArray]; omega) (Nat.zero_le _))))
 show wpAny (model prog w) A _ P E { s with heap:=((s.heap.update a (Obj.mapSeq fun _=>(#[]:Array Value))).push (seqObj "tuple" vs.toArray 0)).push (seqObj "list" #[] 0) }
 rw [hh]
 dsimp only
 have hn2:¬ vs.toArray.size < 2:=by rw [List.size_toArray]; omega
 rw [if_neg hn2,if_neg hn2]
 have hk:keyKind' vs.toArray=pure oneType':=by
  match vs,n2,hI with
  | v1 :: v2 :: r,_,hI=>exact keyKind_ints hI
 rw [hk]
 refine wpAny_bind (wpAny_pure ?_)
 have ik:=hI.intKeys
 have run:=zan9 (prog:=prog) (w:=w) (A:=A) (E:=E) (s:={ s with heap:=g }) (a0:=pairsOf vs) (st:=SortSt.mk' oneType' (vs.toArray.zip vs.toArray) #[] 7 none) (Q:=fun _ st'=>SPm (pairsOf vs) st'∧Asc (arrOf st') 0 (pairsOf vs).size) ⟨Array.Perm.refl _,rfl,rfl⟩ (fun x hx=>ik x hx) (zalw hI nd) rfl fun st' h h2=>⟨h,h2⟩
 refine wpAny_bind (wpAny_mono run ?_ fun _ _ e=>e)
 rintro ⟨⟨⟩,st'⟩ s' ⟨rfl,sp,asc⟩
 dsimp only
 obtain ⟨ns',i1,i2,i3⟩:=zaqn hI sp.pm asc
 have zs:((arrOf st').map (·.2)).size≤sizeLine:=by rw [Array.size_map,sp.size,pairsOf_size]; exact nz
 obtain ⟨c2,hc2⟩:∃ c2,(g.update a (Obj.mapSeq fun _=>(arrOf st').map (·.2))).get? a=some (seqObj "list" ((arrOf st').map (·.2)) c2):=⟨_,get?_update_seq na fun _=>(arrOf st').map (·.2)⟩
 refine wpAny_bind (seqEpoch_at na rfl (wpAny_bind (listUpdate_at na rfl ?_ (Nat.zero_le _) (Nat.le_succ_of_le zs))))
 rw [sp.fail]
 simp only [bne_self_eq_false,Bool.false_eq_true,if_false]
 refine wpAny_pure (k _ ns' c2 _ i1 i2 i3 (fun b ob nb e=>?_) hc2)
 rw [Heap.get?_update_ne _ _ _ _ nb]
 exact kb b ob nb e
end
def rSrtO:List V→Hp→VK→Prop:=fun xs H Q=>∃ (a:Addr) (kvs:List (Key × V)) (ns:List Int),xs=[.ref a]∧H a=some (.dK kvs)∧kvs.map (·.1)=ns.map Sum.inl∧ns.length≤5000∧ns.Nodup∧∀ (p:Addr) (ns':List Int),ns'.Perm ns→ns'.Pairwise (·≤·)→H p=none→Q (.ref p) (upd H p (.lst (ns'.map V.int)))
theorem zahq {X:Cx} (hc:X.calm=true):CallR X (.builtin "sorted") rSrtO:=by
 intro pins s σ H xs us Q I r h
 obtain ⟨a,kvs,ns,rfl,ha,ek,hz5,nd,q⟩:=h
 obtain ⟨u,rfl,ru⟩:=vals1 r
 cases ru
 obtain ⟨hz,nS,vs,kv,o,es,ep,h1,h2,h3,h4,h5,_⟩:=(I.hok a _ ha:ObjOk X.prog X.w H s.heap a (.dK kvs))
 have m:DAt s.heap a es ep:=⟨o,h1,h2,h3⟩
 have hI:=zalv kv h5 ek
 have hlen:es.size=ns.length:=by have:=hI.length; simpa using this
 have hh:X.A.handled=none:=I.ok.hd hc
 refine call_function_entry kind_sorted plain_sorted entry_sorted (args_sorted1 _) ?_
 unfold Builtin.«sorted»
 refine wpAny_bind (m:=checkCount "sorted" 1 1 _) (wpAny_pure (wpAny_bind (zan6 (by exact hh) nS m (by rw [sizeLine_eq]; omega) fun h' kp lt=>?_)))
 generalize hvs:es.toList.map (·.key)=us at hI
 have lv:us.length=ns.length:=by rw [← hvs]; simpa using hlen
 refine wpAny_bind (wpAny_newList ?_ (by rw [sizeLine_eq]; omega))
 have hD:(h'.push (seqObj "list" us.toArray 0)).get? h'.objs.size=some (seqObj "list" us.toArray 0):=Heap.get?_push_size _ rfl
 have kD:∀ b o,s.heap.get? b=some o→b≠h'.objs.size∧(h'.push (seqObj "list" us.toArray 0)).get? b=some o:=fun b o e=>⟨Nat.ne_of_lt (Heap.lt_size (kp b o e)),Heap.get?_push_of_some _ (kp b o e)⟩
 have szD:s.heap.objs.size≤h'.objs.size:=Nat.le_of_lt lt
 have fin:∀ (out:List Value) (ns':List Int) (c:Nat) (h3:Heap),IntsAre out ns'→ns'.Perm ns→ns'.Pairwise (·≤·)→KeptBut h'.objs.size (h'.push (seqObj "list" us.toArray 0)) h3→h3.get? h'.objs.size=some (seqObj "list" out.toArray c)→∃ v H',Inv X pins σ H' { s with heap:=h3 }∧RelV v (.ref h'.objs.size)∧Q v H':=fun out ns' c h3 i1 i2 i3 kb ec=>by
  have ln:ns'.length≤5000:=by rw [i2.length_eq]; exact hz5
  exact ⟨.ref h'.objs.size,_,I.laid (t':=s.toks) (fun b o e'=>kb b o (kD b o e').1 (kD b o e').2) szD (show ObjOk X.prog X.w _ _ _ (.lst (ns'.map V.int)) from ⟨by rw [sizeLine_eq,List.length_map]; omega,out,c,zafh i1,ec⟩),rfl,q _ ns' i2 i3 (I.hok.fresh szD)⟩
 by_cases n2:2≤us.length
 ·refine wpAny_bind (wpAny_holding (wpAny_call_entry slot_list_sort ⟨_,hD,rfl⟩ entry_list_sort (zaoc hD hI nd n2 (by rw [sizeLine_eq]; omega) fun out ns' c h3 i1 i2 i3 kb ec=>⟨_,rfl,wpAny_pure ⟨_,rfl,?_⟩⟩) (args_list_sort _)))
  exact fin out.toList ns' c h3 i1 i2 i3 kb (by simpa using ec)
 ·refine wpAny_bind (wpAny_holding (wpAny_call_entry slot_list_sort ⟨_,hD,rfl⟩ entry_list_sort (list_sort_tree hD hI (by omega) fun out ns' a1 a2 a3=>⟨_,rfl,wpAny_pure ⟨_,rfl,?_⟩⟩) (args_list_sort _)))
  obtain ⟨kb,c,ec⟩:=zahp hD us out
  exact fin out.toList ns' c _ a1 a2 a3 kb (by simpa using ec)
end L2

namespace L2
open PySem PySem.W PyProof.Rows PySem.Calls
def mrg:List (Key × V)→List (Key × V)→List (Key × V):=fun acc l=>l.foldl (fun a kv=>putK a kv.1 kv.2) acc
theorem zajj:∀ {kvs:List (Key × V)}{ps:List (Key × Value)}{acc:List (Key × V)}{ac:List (Key × Value)},KV kvs ps→KV acc ac→KV (mrg acc kvs) (merged ac ps)
 | _,_,_,_,.nil,h=>h
 | x :: l,y :: ps,acc,ac,.cons a t,h=>by
  have e:KV (putK acc x.1 x.2) (stored ac y.1 y.2):=by rw [← a.1]; exact h.put x.1 a.2
  exact zajj (kvs:=l) (ps:=ps) t e
theorem zalx:∀ (l acc:List (Key × V)),(mrg acc l).length≤acc.length + l.length
 | [],acc=>by simp [mrg]
 | kv :: l,acc=>by
  have:=zalx l (putK acc kv.1 kv.2)
  have:=zacj acc kv.1 kv.2
  show (mrg (putK acc kv.1 kv.2) l).length≤_
  simp only [List.length_cons]
  omega
variable {X:Cx}
def rDictQ:List V→Hp→VK→Prop:=fun xs H Q=>∃ (p:Addr) (ts:List Addr) (kvs:List (Key × V)),xs=[.ref p]∧H p=some (.lst (ts.map V.ref))∧Paired (fun kv t=>H t=some (.tup [kV kv.1,kv.2])) kvs ts∧kvs.length≤5000∧∀ d,H d=none→Q (.ref d) (upd H d (.dK (mrg [] kvs)))
theorem zadl (hc:X.calm=true):CallR X (.type "dict") rDictQ:=by
 intro pins s σ H xs us Q I r h
 obtain ⟨p,ts,kvs,rfl,hp,hts,hz,q⟩:=h
 obtain ⟨u,rfl,ru⟩:=vals1 r
 cases ru
 obtain ⟨z,its,n,rv,e⟩:=I.hok p _ hp
 have ei:=zahl rv
 have mk:∀ {kvs:List (Key × V)}{ts:List Addr},Paired (fun kv t=>H t=some (.tup [kV kv.1,kv.2])) kvs ts→∃ ps:List (Key × Value),KV kvs ps∧ps.length=ts.length ∧
   ∀ (i:Nat) (kv:Key × Value),ps[i]?=some kv→∃ (t:Addr) (key:Value),(ts.map Value.ref)[i]?=some (.ref t)∧s.heap.IsTuple t #[key,kv.2]∧(mixKind X.prog X.w).is kv.1 key=true:=by
  intro kvs ts h
  induction h with
  | nil=>exact ⟨[],.nil,rfl,fun i kv e=>by simp at e⟩
  | @cons kv t kvs ts a _ ih =>
   obtain ⟨ps,h1,h2,h3⟩:=ih
   obtain ⟨_,us,r2,o,ho,hoc,no,hod⟩:=I.hok _ _ a
   obtain ⟨ku,vu,rfl,rk,rvv⟩:=vals2 r2
   refine ⟨(kv.1,vu) :: ps,.cons ⟨rfl,rvv⟩ h1,by simp [h2],fun i kv' e=>?_⟩
   cases i with
   | zero =>
    simp at e
    subst e
    exact ⟨t,ku,rfl,⟨o,ho,hoc,no,hod⟩,zale rk⟩
   | succ i =>
    obtain ⟨t',key,f1,f2,f3⟩:=h3 i kv' (by simpa using e)
    exact ⟨t',key,by simpa using f1,f2,f3⟩
 obtain ⟨ps,kv,lp,hps⟩:=mk hts
 have lps:kvs.length=ps.length:=Paired.length kv
 subst ei
 refine zafb (knd:=mixKind X.prog X.w) (ps:=ps) (I.ok.hd hc) e (by simp [lp]) (by rw [sizeLine_eq]; omega) (fun j kv' ej=>hps j kv' ej) fun h' tk hd hk=>?_
 have hf:H s.heap.objs.size=none:=I.hok.fresh (Nat.le_refl _)
 have ml:=zalx kvs []
 refine ⟨.ref s.heap.objs.size,upd H s.heap.objs.size (.dK (mrg [] kvs)),I.laid (t':=tk) hk (Nat.le_refl _) ?_,rfl,q _ hf⟩
 exact ⟨by rw [sizeLine_eq]; simp at ml; omega,beq_eq_false_iff_ne.mpr (Ne.symm (Nat.ne_of_lt I.big)),_,zajj kv .nil,hd⟩
theorem zaf5:∀ {kvs:List (Key × V)}{vs:List (Key × Value)} (l:List Value),KV kvs vs→l.length=vs.length→(∀ (j:Nat) (v:Value),l[j]?=some v→∃ k x,vs[j]?=some (k,x)∧keyIs k v=true)→Vals (kvs.map fun kv=>kV kv.1) l
 | _,_,[],.nil,_,_=>.nil
 | _,_,_ :: _,.nil,h,_=>by simp at h
 | _,_,[],.cons _ _,h,_=>by simp at h
 | _,_,v :: l,.cons a t,h,g=>by
  obtain ⟨k,x,e,ek⟩:=g 0 v rfl
  simp at e
  have:=zaim ek
  refine .cons ?_ (zaf5 l t (by simpa using h) fun j w e=>by simpa using g (j + 1) w (by simpa using e))
  show RelV (kV _) v
  rw [a.1,e]
  exact this
def rListK:List V→Hp→VK→Prop:=fun xs H Q=>∃ (a:Addr) (kvs:List (Key × V)),xs=[.ref a]∧H a=some (.dK kvs)∧∀ l,H l=none→Q (.ref l) (upd H l (.lst (kvs.map fun kv=>kV kv.1)))
theorem zaj6 (hc:X.calm=true):CallR X (.type "list") rListK:=by
 intro pins s σ H xs us Q I r h
 obtain ⟨a,kvs,rfl,ha,q⟩:=h
 obtain ⟨u,rfl,ru⟩:=vals1 r
 cases ru
 obtain ⟨hz,nS,vs,kv,hd⟩:=(I.hok a _ ha:ObjOk X.prog X.w H s.heap a (.dK kvs))
 have lv:vs.length=kvs.length:=(Paired.length kv).symm
 obtain ⟨ep,hat⟩:=hd.dictAt
 refine PySem.W.kdl_call (PySem.W.kdl_dict (knd:=mixKind X.prog X.w) (kvs:=vs) (ep:=ep) nS) (I.ok.hd hc) hat (by omega) fun h' tk acc c kp e it=>?_
 have vl:=zaf5 acc.toList kv (by simpa using it.1) fun j w hw=>it.2 j w (by simpa using hw)
 exact ⟨.ref s.heap.objs.size,_,I.laid (t':=tk) kp (Nat.le_refl _) (show ObjOk X.prog X.w _ h' _ (.lst (kvs.map fun kv=>kV kv.1)) from ⟨by simpa using hz,_,_,vl,by simpa using e⟩),rfl,q _ (I.hok.fresh (Nat.le_refl _))⟩
theorem zaf6:∀ {ns:List Int}{vs:List Value},Vals (ns.map V.int) vs→IntsAre vs ns
 | [],_,.nil=>.nil
 | n :: ns,_,.cons a t=>by
  obtain ⟨u,eu⟩:=a
  rw [eu]
  exact .cons _ _ (zaf6 t)
def rSrtI:List V→Hp→VK→Prop:=fun xs H Q=>∃ (a:Addr) (ns:List Int),xs=[.ref a]∧H a=some (.lst (ns.map V.int))∧ns.length < 64∧∀ (p:Addr) (ns':List Int),ns'.Perm ns→ns'.Pairwise (·≤·)→H p=none→Q (.ref p) (upd H p (.lst (ns'.map V.int)))
theorem zahr:CallR X (.builtin "sorted") rSrtI:=by
 intro pins s σ H xs us Q I r h
 obtain ⟨a,ns,rfl,ha,h64,q⟩:=h
 obtain ⟨u,rfl,ru⟩:=vals1 r
 cases ru
 obtain ⟨z,its,n,rv,e⟩:=(show ObjOk _ _ _ _ _ (.lst _) from I.hok a _ ha)
 have hI:=zaf6 rv
 have lv:its.length=ns.length:=hI.length
 have lz:its.length≤sizeLine:=by rw [sizeLine_eq]; omega
 refine call_function_entry kind_sorted plain_sorted entry_sorted (args_sorted1 _) ?_
 unfold Builtin.«sorted»
 refine wpAny_bind (m:=checkCount "sorted" 1 1 _) (wpAny_pure (wpAny_bind (collect_list ⟨_,e,rfl,n,rfl⟩ ?_ lz)))
 have kp:∀ b o,s.heap.get? b=some o→((s.heap.push (seqObj "list" #[] 0)).update s.heap.objs.size (Obj.mapSeq (·++its.toArray))).get? b=some o:=fun b o e=>by
  rw [Heap.get?_update_ne _ _ _ _ (Nat.ne_of_lt (Heap.lt_size e))]
  exact Heap.get?_push_of_some _ e
 have szD:s.heap.objs.size≤((s.heap.push (seqObj "list" #[] 0)).update s.heap.objs.size (Obj.mapSeq (·++its.toArray))).objs.size:=by rw [Heap.size_update,size_push']; exact Nat.le_succ _
 generalize (s.heap.push (seqObj "list" #[] 0)).update s.heap.objs.size (Obj.mapSeq (·++its.toArray))=h' at kp szD
 refine wpAny_bind (wpAny_newList ?_ lz)
 have hD:(h'.push (seqObj "list" its.toArray 0)).get? h'.objs.size=some (seqObj "list" its.toArray 0):=Heap.get?_push_size _ rfl
 have kD:∀ b o,s.heap.get? b=some o→b≠h'.objs.size∧(h'.push (seqObj "list" its.toArray 0)).get? b=some o:=fun b o e=>⟨Nat.ne_of_lt (Heap.lt_size (kp b o e)),Heap.get?_push_of_some _ (kp b o e)⟩
 refine wpAny_bind (wpAny_holding (wpAny_call_entry slot_list_sort ⟨_,hD,rfl⟩ entry_list_sort (list_sort_tree hD hI (by omega) fun out ns' a1 a2 a3=>⟨_,rfl,wpAny_pure ⟨_,rfl,?_⟩⟩) (args_list_sort _)))
 obtain ⟨kb,c,ec⟩:=zahp hD its out
 exact ⟨.ref h'.objs.size,_,I.laid (t':=s.toks) (fun b o e'=>kb b o (kD b o e').1 (kD b o e').2) szD (show ObjOk X.prog X.w _ _ _ (.lst (ns'.map V.int)) from ⟨by rw [sizeLine_eq,List.length_map,a2.length_eq]; omega,out.toList,c,zafh a1,by simpa using ec⟩),rfl,q _ ns' a2 a3 (I.hok.fresh szD)⟩
end L2

namespace B17
open PySem L2 PyProof PyProof.Rows
section
variable {prog:Program}{w:World}{A:Around}{R:Result→Shared→Prop}{I l S:Addr}{its:Array Value}{ns:Nat→Int}{kw:List (Str × Value)}
theorem zasl {s:Shared}{Q:Value→Shared→Prop}{E:Value→Shared→Prop}{x M:Int}{t u:Tok} (h:Q (.bool (decide (x > M))) s):wpAny (model prog w) A (richCompare .Gt (.int x t) (.int M u)) Q E s :=
 CmpOf.ints_gt (P:=fun i v=>∃ t,v=.int ([x,M].getD i 0) t) (fun i=>[x,M].getD i 0) (fun _ _ h=>h) 0 1 _ _ s Q E ⟨t,rfl⟩ ⟨u,rfl⟩ h
theorem zagk:(toString "max" ++ toString ".loop" : String) = "max.loop" := by decide
theorem zaqo (hh:A.handled=none) (hlI:l≠I) (sI:S≠I) (sl:S≠l) (hv:∀ i v,its[i]?=some v→∃ t,v=Value.int (ns i) t) :
  ∀ (r j:Nat) (s:Shared) (M:Int) (t u:Tok) (c:Nat),its.size - j=r→j≤its.size→s.heap.IsListIter I l j∧s.heap.IsList l its →
   s.heap.get? S=some { cls:=.type "list",dict:=none,data:=.seq #[.int M t,.int M u] c,slots:=#[] }→(∃ i,i < j∧ns i=M)→(∀ i,i < j→ns i≤M) →
   (∀ (N:Int) (t:Tok) h' tk,(∃ i,i < its.size∧ns i=N)→(∀ i,i < its.size→ns i≤N)→(∀ b o,b≠I→b≠S→s.heap.get? b=some o→h'.get? b=some o)→R (.ok (.ret (.int N t))) { s with heap:=h',toks:=tk }) →
   codeAny (model prog w) A (.builtin "max.loop" ⟨[.ref I,.none,.ref S],kw⟩) R s:=by
 have W:=Walks.list (prog:=prog) (w:=w) (A:=A.in1) hh I l hlI its
 intro r
 induction r with
 | zero =>
  intro j s M t u c hr hj st gS ex le q
  have ej:j=its.size:=by omega
  subst ej
  refine codeAny_builtin PySem.F.entry_max_loop ?_
  rw [Around.under_plainId PySem.F.plain_max_loop _]
  show wpAny (model prog w) A.in1 (seqItems? (.ref S) >>= _) _ _ s
  refine wpAny_bind (wpAny_seqItems gS rfl ?_)
  show wpAny (model prog w) A.in1 (tryCatch (pyNext (.ref I)) _ >>= _) _ _ s
  refine wpAny_bind (wpAny_tryCatch (W.done s _ _ st fun h' tk k=>?_))
  have g1:=k S _ (by simpa using sI) gS
  show wpAny (model prog w) A.in1 (updateSeq S (fun _=>#[]) >>= _) _ _ _
  refine wpAny_bind (wpAny_updateSeq g1 rfl (wpAny_bind (wpAny_letGo (wpAny_pure ?_))))
  exact q M t _ tk ex le fun b o n1 n2 e=>(Heap.get?_update_other _ _ (Ne.symm n2)).trans (k b o (by simpa using n1) e)
 | succ r ih =>
  intro j s M t u c hr hj st gS ex le q
  have lt:j < its.size:=by omega
  refine codeAny_builtin PySem.F.entry_max_loop ?_
  rw [Around.under_plainId PySem.F.plain_max_loop _]
  show wpAny (model prog w) A.in1 (seqItems? (.ref S) >>= _) _ _ s
  refine wpAny_bind (wpAny_seqItems gS rfl ?_)
  show wpAny (model prog w) A.in1 (tryCatch (pyNext (.ref I)) _ >>= _) _ _ s
  refine wpAny_bind (wpAny_tryCatch (W.item j s _ _ lt st fun v h' tk hP st' k=>?_))
  obtain ⟨t1,rfl⟩:=hv j v hP
  have g1:=k S _ (by simpa using sI) gS
  show wpAny (model prog w) A.in1 (tryCatch (holding [Value.int (ns j) t1,Value.int (ns j) t1] (richCompare .Gt (.int (ns j) t1) (.int M u) >>= _)) _ >>= _) _ _ _
  refine wpAny_bind (wpAny_tryCatch (wpAny_holding (wpAny_bind (zasl ?_))))
  refine wpAny_bind (wpAny_holding (wpAny_truthy_bool ?_))
  refine wpAny_bind (wpAny_letGo (wpAny_pure ?_))
  by_cases gt:ns j > M
  ·rw [decide_eq_true gt]
   simp only [if_true]
   refine wpAny_bind (wpAny_updateSeq g1 rfl (wpAny_bind (wpAny_letGo ?_)))
   rw [zagk]
   refine wpAny_pure ⟨plainId_quiet PySem.F.plain_max_loop _,ih (j + 1) _ (ns j) t1 t1 _ (by omega) lt (W.frame _ _ _ st' fun b hb o e=>?_) (Heap.get?_update_self _ g1 rfl) ⟨j,by omega,rfl⟩ (fun i hi=>?_) fun N t2 h2 tk2 a1 a2 k2=>?_⟩
   ·refine (Heap.get?_update_other _ _ ?_).trans e
    rintro rfl
    simp at hb
    exact hb.elim sI sl
   ·by_cases z:i=j
    ·rw [z]; exact Int.le_refl _
    ·have:=le i (by omega); omega
   ·exact q N t2 h2 tk2 a1 a2 fun b o n1 n2 e=>k2 b o n1 n2 ((Heap.get?_update_other _ _ (Ne.symm n2)).trans (k b o (by simpa using n1) e))
  ·rw [decide_eq_false gt]
   simp only [Bool.false_eq_true,if_false]
   refine wpAny_bind (wpAny_letGo ?_)
   rw [zagk]
   refine wpAny_pure ⟨plainId_quiet PySem.F.plain_max_loop _,ih (j + 1) _ M t u c (by omega) lt st' g1 (ex.imp fun i h=>⟨by omega,h.2⟩) (fun i hi=>?_) fun N t2 h2 tk2 a1 a2 k2=>?_⟩
   ·by_cases z:i=j
    ·rw [z]; omega
    ·exact le i (by omega)
   ·exact q N t2 h2 tk2 a1 a2 fun b o n1 n2 e=>k2 b o n1 n2 (k b o (by simpa using n1) e)
theorem zaod (hh:A.handled=none) (hlI:l≠I) (sI:S≠I) (sl:S≠l) (hv:∀ i v,its[i]?=some v→∃ t,v=Value.int (ns i) t) (hn:0 < its.size) {s:Shared}{c:Nat} (st:s.heap.IsListIter I l 0∧s.heap.IsList l its)
  (gS:s.heap.get? S=some { cls:=.type "list",dict:=none,data:=.seq #[] c,slots:=#[] })
  (q:∀ (N:Int) (t:Tok) h' tk,(∃ i,i < its.size∧ns i=N)→(∀ i,i < its.size→ns i≤N)→(∀ b o,b≠I→b≠S→s.heap.get? b=some o→h'.get? b=some o)→R (.ok (.ret (.int N t))) { s with heap:=h',toks:=tk }) :
  codeAny (model prog w) A (.builtin "max.loop" ⟨[.ref I,.none,.ref S],kw⟩) R s:=by
 have W:=Walks.list (prog:=prog) (w:=w) (A:=A.in1) hh I l hlI its
 refine codeAny_builtin PySem.F.entry_max_loop ?_
 rw [Around.under_plainId PySem.F.plain_max_loop _]
 show wpAny (model prog w) A.in1 (seqItems? (.ref S) >>= _) _ _ s
 refine wpAny_bind (wpAny_seqItems gS rfl ?_)
 show wpAny (model prog w) A.in1 (tryCatch (pyNext (.ref I)) _ >>= _) _ _ s
 refine wpAny_bind (wpAny_tryCatch (W.item 0 s _ _ hn st fun v h' tk hP st' k=>?_))
 obtain ⟨t1,rfl⟩:=hv 0 v hP
 have g1:=k S _ (by simpa using sI) gS
 show wpAny (model prog w) A.in1 (updateSeq S (fun _=>#[Value.int (ns 0) t1,Value.int (ns 0) t1]) >>= _) _ _ _
 refine wpAny_bind (wpAny_updateSeq g1 rfl ?_)
 rw [zagk]
 refine wpAny_pure ⟨plainId_quiet PySem.F.plain_max_loop _,zaqo hh hlI sI sl hv _ 1 _ (ns 0) t1 t1 _ rfl hn (W.frame _ _ _ st' fun b hb o e=>?_) (Heap.get?_update_self _ g1 rfl) ⟨0,by omega,rfl⟩ (fun i hi=>?_) fun N t2 h2 tk2 a1 a2 k2=>?_⟩
 ·refine (Heap.get?_update_other _ _ ?_).trans e
  rintro rfl
  simp at hb
  exact hb.elim sI sl
 ·have:i=0:=by omega
  rw [this]; exact Int.le_refl _
 ·exact q N t2 h2 tk2 a1 a2 fun b o n1 n2 e=>k2 b o n1 n2 ((Heap.get?_update_other _ _ (Ne.symm n2)).trans (k b o (by simpa using n1) e))
variable {E:Value→Shared→Prop}{s:Shared}{Q:Value→Shared→Prop}{d:Value}
theorem zaoe (hn:0 < its.size) (hh:A.handled=none) (hl:s.heap.IsList l its) (hv:∀ i v,its[i]?=some v→∃ t,v=Value.int (ns i) t)
  (q1:∀ (N:Int) (t:Tok) h' tk,(∃ i,i < its.size∧ns i=N)→(∀ i,i < its.size→ns i≤N)→(∀ b o,s.heap.get? b=some o→h'.get? b=some o)→Q (.int N t) { s with heap:=h',toks:=tk }) :
  wpAny (model prog w) A (call (.builtin "max") [.ref l]) Q E s:=by
 obtain ⟨ol,hol,_⟩:=id hl
 have hll:l < s.heap.objs.size:=Heap.lt_size hol
 refine kmk_tree PySem.F.kind_max PySem.F.plain_max PySem.F.entry_max (PySem.F.args_max1 _) ?_
 show wpAny (model prog w) A.in1 (Builtin.Builtins.bindParams "max" ["key", "default"] 0 ⟨[],[]⟩ >>= _) _ _ s
 refine wpAny_bind (wpAny_of_eq (show Builtin.Builtins.bindParams "max" ["key", "default"] 0 ⟨[],[]⟩=pure [none,none] from rfl) (wpAny_bind (wpAny_pure (wpAny_bind (wpAny_pyIter_list hl (wpAny_bind (wpAny_newList ?_ (Nat.zero_le _))))))))
 rw [zagk]
 refine wpAny_pure ⟨plainId_quiet PySem.F.plain_max_loop _,?_⟩
 have hS:(s.heap.push { cls:=.type "list_iterator",data:=.fields #[.ref l,.int 0 0] }).objs.size=s.heap.objs.size + 1:=Heap.size_push ..
 have hlI:l≠s.heap.objs.size:=Nat.ne_of_lt hll
 have sI:(s.heap.push { cls:=.type "list_iterator",data:=.fields #[.ref l,.int 0 0] }).objs.size≠s.heap.objs.size:=by rw [hS]; omega
 have sl:(s.heap.push { cls:=.type "list_iterator",data:=.fields #[.ref l,.int 0 0] }).objs.size≠l:=by rw [hS]; exact Nat.ne_of_gt (Nat.lt_succ_of_lt hll)
 have keep:∀ b o,s.heap.get? b=some o→b≠s.heap.objs.size∧b≠(s.heap.push { cls:=.type "list_iterator",data:=.fields #[.ref l,.int 0 0] }).objs.size∧((s.heap.push { cls:=.type "list_iterator",data:=.fields #[.ref l,.int 0 0] }).push { cls:=.type "list",data:=.seq #[] }).get? b=some o:=fun b o e=>by
  have lt:=Heap.lt_size e
  refine ⟨Nat.ne_of_lt lt,by rw [hS]; exact Nat.ne_of_lt (Nat.lt_succ_of_lt lt),Heap.get?_push_of_some _ (Heap.get?_push_of_some _ e)⟩
 have st:((s.heap.push { cls:=.type "list_iterator",data:=.fields #[.ref l,.int 0 0] }).push { cls:=.type "list",data:=.seq #[] }).IsListIter s.heap.objs.size l 0∧((s.heap.push { cls:=.type "list_iterator",data:=.fields #[.ref l,.int 0 0] }).push { cls:=.type "list",data:=.seq #[] }).IsList l its :=
  ⟨⟨_,Heap.get?_push_of_some _ (Heap.get?_push_size _ rfl),rfl,rfl⟩,(hl.push _).push _⟩
 exact zaod hh hlI sI sl hv hn st (Heap.get?_push_size _ rfl) fun N t h' tk a1 a2 k=>q1 N t h' tk a1 a2 fun b o hb=>k b o (keep b o hb).1 (keep b o hb).2.1 (keep b o hb).2.2
end
def gr (ns:List Int):Int:=ns.foldr max 0
theorem zasm:∀ {ns:List Int}{a:Int},a∈ns→a≤gr ns
 | x :: xs,a,h=>by
  show a≤max x (gr xs)
  rcases List.mem_cons.mp h with rfl | h
  ·omega
  ·have:=zasm h; omega
theorem zasn:∀ {ns:List Int}{N:Int},0≤N→(∀ a∈ns,a≤N)→gr ns≤N
 | [],N,h,_=>h
 | x :: xs,N,h0,h=>by
  show max x (gr xs)≤N
  have h1:=h x (by simp)
  have h2:=zasn (ns:=xs) h0 fun a ha=>h a (by simp [ha])
  omega
theorem zatt {ns:List Int}{N:Int} (m:N∈ns) (h:∀ a∈ns,a≤N) (h0:∀ a∈ns,0≤a):N=gr ns:=by
 have:=zasm m
 have:=zasn (h0 N m) h
 omega
theorem zafi:∀ {ns:List Int}{its:List Value},Vals (ns.map V.int) its→∀ (i:Nat) (v:Value),its[i]?=some v→∃ t,v=Value.int (ns.getD i 0) t
 | [],_,.nil,i,v,h=>by simp at h
 | x :: ns,_,.cons r t,0,v,h=>by obtain ⟨tk,rfl⟩:=r; exact ⟨tk,by simpa using h.symm⟩
 | x :: ns,_,.cons r t,i + 1,v,h=>zafi t i v (by simpa using h)
theorem zatu {ns:List Int} (h0:∀ a∈ns,0≤a) {n i:Nat} (en:n=ns.length) (hi:i < n) (a2:∀ j,j < n→ns.getD j 0≤ns.getD i 0):ns.getD i 0=gr ns:=by
 have m:ns.getD i 0∈ns:=by rw [List.getD_eq_getElem?_getD,List.getElem?_eq_getElem (by omega)]; exact List.getElem_mem _
 refine zatt m (fun a ha=>?_) h0
 obtain ⟨j,hj⟩:=List.getElem?_of_mem ha
 have h2:=a2 j (by have:=(List.getElem?_eq_some_iff.mp hj).1; omega)
 rw [List.getD_eq_getElem?_getD,hj] at h2
 exact h2
def rMax1:List V→Hp→VK→Prop:=fun xs H Q=>∃ (p:Addr) (ns:List Int),xs=[.ref p]∧H p=some (.lst (ns.map V.int))∧0 < ns.length∧(∀ a∈ns,0≤a)∧Q (.int (gr ns)) H
theorem zahs {X:Cx} (hc:X.calm=true):CallR X (.builtin "max") rMax1:=by
 intro pins s σ H xs us Q I r h
 obtain ⟨p,ns,rfl,hp,hn,h0,q⟩:=h
 obtain ⟨u,rfl,ru⟩:=vals1 r
 cases ru
 obtain ⟨z,its,n,rv,e⟩:=I.hok p _ hp
 have el:its.toArray.size=ns.length:=by rw [List.size_toArray,← rv.length,List.length_map]
 refine zaoe (its:=its.toArray) (ns:=fun i=>ns.getD i 0) (by omega) (I.ok.hd hc) ⟨_,e,rfl,n,rfl⟩ (fun i v hv=>zafi rv i v (by simpa using hv)) (fun N t h' tk a1 a2 k=>?_)
 obtain ⟨i,hi,rfl⟩:=a1
 exact ⟨.int (gr ns),H,I.kept (t':=tk) k,⟨t,by rw [← zatu h0 el hi a2]⟩,q⟩
end B17

namespace B17
open PySem L2 PyProof PyProof.Rows
section
variable {prog:Program}{w:World}{A:Around}{R:Result→Shared→Prop}{I l S:Addr}{its:Array Value}{ns:Nat→Int}{kw:List (Str × Value)}
theorem zaso {s:Shared}{Q:Value→Shared→Prop}{E:Value→Shared→Prop}{x M:Int}{t u:Tok} (h:Q (.bool (decide (x < M))) s):wpAny (model prog w) A (richCompare .Lt (.int x t) (.int M u)) Q E s :=
 CmpOf.ints_lt (P:=fun i v=>∃ t,v=.int ([x,M].getD i 0) t) (fun i=>[x,M].getD i 0) (fun _ _ h=>h) 0 1 _ _ s Q E ⟨t,rfl⟩ ⟨u,rfl⟩ h
theorem zagl:(toString "min" ++ toString ".loop" : String) = "min.loop" := by decide
theorem zaqp (hh:A.handled=none) (hlI:l≠I) (sI:S≠I) (sl:S≠l) (hv:∀ i v,its[i]?=some v→∃ t,v=Value.int (ns i) t) :
  ∀ (r j:Nat) (s:Shared) (M:Int) (t u:Tok) (c:Nat),its.size - j=r→j≤its.size→s.heap.IsListIter I l j∧s.heap.IsList l its →
   s.heap.get? S=some { cls:=.type "list",dict:=none,data:=.seq #[.int M t,.int M u] c,slots:=#[] }→(∃ i,i < j∧ns i=M)→(∀ i,i < j→M≤ns i) →
   (∀ (N:Int) (t:Tok) h' tk,(∃ i,i < its.size∧ns i=N)→(∀ i,i < its.size→N≤ns i)→(∀ b o,b≠I→b≠S→s.heap.get? b=some o→h'.get? b=some o)→R (.ok (.ret (.int N t))) { s with heap:=h',toks:=tk }) →
   codeAny (model prog w) A (.builtin "min.loop" ⟨[.ref I,.none,.ref S],kw⟩) R s:=by
 have W:=Walks.list (prog:=prog) (w:=w) (A:=A.in1) hh I l hlI its
 intro r
 induction r with
 | zero =>
  intro j s M t u c hr hj st gS ex le q
  have ej:j=its.size:=by omega
  subst ej
  refine codeAny_builtin PySem.F.entry_min_loop ?_
  rw [Around.under_plainId PySem.F.plain_min_loop _]
  show wpAny (model prog w) A.in1 (seqItems? (.ref S) >>= _) _ _ s
  refine wpAny_bind (wpAny_seqItems gS rfl ?_)
  show wpAny (model prog w) A.in1 (tryCatch (pyNext (.ref I)) _ >>= _) _ _ s
  refine wpAny_bind (wpAny_tryCatch (W.done s _ _ st fun h' tk k=>?_))
  have g1:=k S _ (by simpa using sI) gS
  show wpAny (model prog w) A.in1 (updateSeq S (fun _=>#[]) >>= _) _ _ _
  refine wpAny_bind (wpAny_updateSeq g1 rfl (wpAny_bind (wpAny_letGo (wpAny_pure ?_))))
  exact q M t _ tk ex le fun b o n1 n2 e=>(Heap.get?_update_other _ _ (Ne.symm n2)).trans (k b o (by simpa using n1) e)
 | succ r ih =>
  intro j s M t u c hr hj st gS ex le q
  have lt:j < its.size:=by omega
  refine codeAny_builtin PySem.F.entry_min_loop ?_
  rw [Around.under_plainId PySem.F.plain_min_loop _]
  show wpAny (model prog w) A.in1 (seqItems? (.ref S) >>= _) _ _ s
  refine wpAny_bind (wpAny_seqItems gS rfl ?_)
  show wpAny (model prog w) A.in1 (tryCatch (pyNext (.ref I)) _ >>= _) _ _ s
  refine wpAny_bind (wpAny_tryCatch (W.item j s _ _ lt st fun v h' tk hP st' k=>?_))
  obtain ⟨t1,rfl⟩:=hv j v hP
  have g1:=k S _ (by simpa using sI) gS
  show wpAny (model prog w) A.in1 (tryCatch (holding [Value.int (ns j) t1,Value.int (ns j) t1] (richCompare .Lt (.int (ns j) t1) (.int M u) >>= _)) _ >>= _) _ _ _
  refine wpAny_bind (wpAny_tryCatch (wpAny_holding (wpAny_bind (zaso ?_))))
  refine wpAny_bind (wpAny_holding (wpAny_truthy_bool ?_))
  refine wpAny_bind (wpAny_letGo (wpAny_pure ?_))
  by_cases gt:ns j < M
  ·rw [decide_eq_true gt]
   simp only [if_true]
   refine wpAny_bind (wpAny_updateSeq g1 rfl (wpAny_bind (wpAny_letGo ?_)))
   rw [zagl]
   refine wpAny_pure ⟨plainId_quiet PySem.F.plain_min_loop _,ih (j + 1) _ (ns j) t1 t1 _ (by omega) lt (W.frame _ _ _ st' fun b hb o e=>?_) (Heap.get?_update_self _ g1 rfl) ⟨j,by omega,rfl⟩ (fun i hi=>?_) fun N t2 h2 tk2 a1 a2 k2=>?_⟩
   ·refine (Heap.get?_update_other _ _ ?_).trans e
    rintro rfl
    simp at hb
    exact hb.elim sI sl
   ·by_cases z:i=j
    ·rw [z]; exact Int.le_refl _
    ·have:=le i (by omega); omega
   ·exact q N t2 h2 tk2 a1 a2 fun b o n1 n2 e=>k2 b o n1 n2 ((Heap.get?_update_other _ _ (Ne.symm n2)).trans (k b o (by simpa using n1) e))
  ·rw [decide_eq_false gt]
   simp only [Bool.false_eq_true,if_false]
   refine wpAny_bind (wpAny_letGo ?_)
   rw [zagl]
   refine wpAny_pure ⟨plainId_quiet PySem.F.plain_min_loop _,ih (j + 1) _ M t u c (by omega) lt st' g1 (ex.imp fun i h=>⟨by omega,h.2⟩) (fun i hi=>?_) fun N t2 h2 tk2 a1 a2 k2=>?_⟩
   ·by_cases z:i=j
    ·rw [z]; omega
    ·exact le i (by omega)
   ·exact q N t2 h2 tk2 a1 a2 fun b o n1 n2 e=>k2 b o n1 n2 (k b o (by simpa using n1) e)
theorem zaof (hh:A.handled=none) (hlI:l≠I) (sI:S≠I) (sl:S≠l) (hv:∀ i v,its[i]?=some v→∃ t,v=Value.int (ns i) t) (hn:0 < its.size) {s:Shared}{c:Nat} (st:s.heap.IsListIter I l 0∧s.heap.IsList l its)
  (gS:s.heap.get? S=some { cls:=.type "list",dict:=none,data:=.seq #[] c,slots:=#[] })
  (q:∀ (N:Int) (t:Tok) h' tk,(∃ i,i < its.size∧ns i=N)→(∀ i,i < its.size→N≤ns i)→(∀ b o,b≠I→b≠S→s.heap.get? b=some o→h'.get? b=some o)→R (.ok (.ret (.int N t))) { s with heap:=h',toks:=tk }) :
  codeAny (model prog w) A (.builtin "min.loop" ⟨[.ref I,.none,.ref S],kw⟩) R s:=by
 have W:=Walks.list (prog:=prog) (w:=w) (A:=A.in1) hh I l hlI its
 refine codeAny_builtin PySem.F.entry_min_loop ?_
 rw [Around.under_plainId PySem.F.plain_min_loop _]
 show wpAny (model prog w) A.in1 (seqItems? (.ref S) >>= _) _ _ s
 refine wpAny_bind (wpAny_seqItems gS rfl ?_)
 show wpAny (model prog w) A.in1 (tryCatch (pyNext (.ref I)) _ >>= _) _ _ s
 refine wpAny_bind (wpAny_tryCatch (W.item 0 s _ _ hn st fun v h' tk hP st' k=>?_))
 obtain ⟨t1,rfl⟩:=hv 0 v hP
 have g1:=k S _ (by simpa using sI) gS
 show wpAny (model prog w) A.in1 (updateSeq S (fun _=>#[Value.int (ns 0) t1,Value.int (ns 0) t1]) >>= _) _ _ _
 refine wpAny_bind (wpAny_updateSeq g1 rfl ?_)
 rw [zagl]
 refine wpAny_pure ⟨plainId_quiet PySem.F.plain_min_loop _,zaqp hh hlI sI sl hv _ 1 _ (ns 0) t1 t1 _ rfl hn (W.frame _ _ _ st' fun b hb o e=>?_) (Heap.get?_update_self _ g1 rfl) ⟨0,by omega,rfl⟩ (fun i hi=>?_) fun N t2 h2 tk2 a1 a2 k2=>?_⟩
 ·refine (Heap.get?_update_other _ _ ?_).trans e
  rintro rfl
  simp at hb
  exact hb.elim sI sl
 ·have:i=0:=by omega
  rw [this]; exact Int.le_refl _
 ·exact q N t2 h2 tk2 a1 a2 fun b o n1 n2 e=>k2 b o n1 n2 ((Heap.get?_update_other _ _ (Ne.symm n2)).trans (k b o (by simpa using n1) e))
variable {E:Value→Shared→Prop}{s:Shared}{Q:Value→Shared→Prop}{d:Value}
theorem zaog (hn:0 < its.size) (hh:A.handled=none) (hl:s.heap.IsList l its) (hv:∀ i v,its[i]?=some v→∃ t,v=Value.int (ns i) t)
  (q1:∀ (N:Int) (t:Tok) h' tk,(∃ i,i < its.size∧ns i=N)→(∀ i,i < its.size→N≤ns i)→(∀ b o,s.heap.get? b=some o→h'.get? b=some o)→Q (.int N t) { s with heap:=h',toks:=tk }) :
  wpAny (model prog w) A (call (.builtin "min") [.ref l]) Q E s:=by
 obtain ⟨ol,hol,_⟩:=id hl
 have hll:l < s.heap.objs.size:=Heap.lt_size hol
 refine kmk_tree PySem.F.kind_min PySem.F.plain_min PySem.F.entry_min (PySem.F.args_min1 _) ?_
 show wpAny (model prog w) A.in1 (Builtin.Builtins.bindParams "min" ["key", "default"] 0 ⟨[],[]⟩ >>= _) _ _ s
 refine wpAny_bind (wpAny_of_eq (show Builtin.Builtins.bindParams "min" ["key", "default"] 0 ⟨[],[]⟩=pure [none,none] from rfl) (wpAny_bind (wpAny_pure (wpAny_bind (wpAny_pyIter_list hl (wpAny_bind (wpAny_newList ?_ (Nat.zero_le _))))))))
 rw [zagl]
 refine wpAny_pure ⟨plainId_quiet PySem.F.plain_min_loop _,?_⟩
 have hS:(s.heap.push { cls:=.type "list_iterator",data:=.fields #[.ref l,.int 0 0] }).objs.size=s.heap.objs.size + 1:=Heap.size_push ..
 have hlI:l≠s.heap.objs.size:=Nat.ne_of_lt hll
 have sI:(s.heap.push { cls:=.type "list_iterator",data:=.fields #[.ref l,.int 0 0] }).objs.size≠s.heap.objs.size:=by rw [hS]; omega
 have sl:(s.heap.push { cls:=.type "list_iterator",data:=.fields #[.ref l,.int 0 0] }).objs.size≠l:=by rw [hS]; exact Nat.ne_of_gt (Nat.lt_succ_of_lt hll)
 have keep:∀ b o,s.heap.get? b=some o→b≠s.heap.objs.size∧b≠(s.heap.push { cls:=.type "list_iterator",data:=.fields #[.ref l,.int 0 0] }).objs.size∧((s.heap.push { cls:=.type "list_iterator",data:=.fields #[.ref l,.int 0 0] }).push { cls:=.type "list",data:=.seq #[] }).get? b=some o:=fun b o e=>by
  have lt:=Heap.lt_size e
  refine ⟨Nat.ne_of_lt lt,by rw [hS]; exact Nat.ne_of_lt (Nat.lt_succ_of_lt lt),Heap.get?_push_of_some _ (Heap.get?_push_of_some _ e)⟩
 have st:((s.heap.push { cls:=.type "list_iterator",data:=.fields #[.ref l,.int 0 0] }).push { cls:=.type "list",data:=.seq #[] }).IsListIter s.heap.objs.size l 0∧((s.heap.push { cls:=.type "list_iterator",data:=.fields #[.ref l,.int 0 0] }).push { cls:=.type "list",data:=.seq #[] }).IsList l its :=
  ⟨⟨_,Heap.get?_push_of_some _ (Heap.get?_push_size _ rfl),rfl,rfl⟩,(hl.push _).push _⟩
 exact zaof hh hlI sI sl hv hn st (Heap.get?_push_size _ rfl) fun N t h' tk a1 a2 k=>q1 N t h' tk a1 a2 fun b o hb=>k b o (keep b o hb).1 (keep b o hb).2.1 (keep b o hb).2.2
end
theorem zafj:∀ {ns:List Int}{its:List Value},Vals (ns.map V.int) its→∀ (i:Nat) (v:Value),its[i]?=some v→∃ t,v=Value.int (ns.getD i 0) t
 | [],_,.nil,i,v,h=>by simp at h
 | x :: ns,_,.cons r t,0,v,h=>by obtain ⟨tk,rfl⟩:=r; exact ⟨tk,by simpa using h.symm⟩
 | x :: ns,_,.cons r t,i + 1,v,h=>zafj t i v (by simpa using h)
def rMin1:List V→Hp→VK→Prop:=fun xs H Q=>∃ (p:Addr) (ns:List Int),xs=[.ref p]∧H p=some (.lst (ns.map V.int))∧0 < ns.length∧∀ M:Int,M∈ns→(∀ a∈ns,M≤a)→Q (.int M) H
theorem zaht {X:Cx} (hc:X.calm=true):CallR X (.builtin "min") rMin1:=by
 intro pins s σ H xs us Q I r h
 obtain ⟨p,ns,rfl,hp,hn,q⟩:=h
 obtain ⟨u,rfl,ru⟩:=vals1 r
 cases ru
 obtain ⟨z,its,n,rv,e⟩:=I.hok p _ hp
 have el:its.toArray.size=ns.length:=by rw [List.size_toArray,← rv.length,List.length_map]
 refine zaog (its:=its.toArray) (ns:=fun i=>ns.getD i 0) (by omega) (I.ok.hd hc) ⟨_,e,rfl,n,rfl⟩ (fun i v hv=>zafj rv i v (by simpa using hv)) (fun N t h' tk a1 a2 k=>?_)
 obtain ⟨i,hi,rfl⟩:=a1
 have m:ns.getD i 0∈ns:=by rw [List.getD_eq_getElem?_getD,List.getElem?_eq_getElem (by omega)]; exact List.getElem_mem _
 refine ⟨.int _,H,I.kept (t':=tk) k,⟨t,rfl⟩,q _ m fun a ha=>?_⟩
 obtain ⟨j,hj⟩:=List.getElem?_of_mem ha
 have h2:=a2 j (by have:=(List.getElem?_eq_some_iff.mp hj).1; omega)
 rw [List.getD_eq_getElem?_getD (i:=j),hj] at h2
 exact h2
end B17

namespace L2
open PySem PySem.W PyProof.Rows PySem.Calls
theorem zaoh {v:V} (h:flatV v=true):eqV v v=true:=by
 cases v <;> first | rfl | (simp [eqV]; done) | (cases h)
theorem zao4:∀ {kvs:List (Key × V)}{vs:List (Key × Value)},KV kvs vs→∀ {k:Key}{x:V},valV kvs k=some x→∃ y,valueAt vs k=some y∧RelV x y
 | _,_,.nil,k,x,h=>by cases h
 | (k1,x1) :: l,(k2,y2) :: vs,.cons a t,k,x,h=>by
  have e:k1=k2:=a.1
  subst e
  by_cases z:k1=k
  ·subst z
   rw [zaby (κ:=Key) rfl] at h
   cases h
   exact ⟨y2,by simp [valueAt],a.2⟩
  ·rw [zabz z] at h
   obtain ⟨y,e1,e2⟩:=zao4 t h
   exact ⟨y,by simp [valueAt,z] at e1 ⊢; exact e1,e2⟩
theorem zajk {A:Around}{s:Shared}{kb:List (Key × Value)}{kvs:List (Key × V)} (vb:KV kvs kb):∀ {l:List (Key × V)}{la:List (Key × Value)},KV l la→(∀ p∈l,valV kvs p.1=some p.2∧flatV p.2=true)→KeqHits A s kb la true
 | _,_,.nil,_=>.nil
 | (k1,x1) :: l,(k2,y2) :: la,.cons a t,h=>by
  have e:k1=k2:=a.1
  subst e
  obtain ⟨h1,h2⟩:=h (k1,x1) (by simp)
  obtain ⟨y,e1,e2⟩:=zao4 vb h1
  have eq:=zaow (A:=A) (s:=s) a.2 e2 h2 h2
  rw [zaoh h2] at eq
  exact .hit e1 eq (zajk vb t fun p hp=>h p (List.mem_cons_of_mem _ hp))
variable {X:Cx}
def rNeK:R2:=fun x y H Q=>∃ (a b:Addr) (kvs:List (Key × V)),x=.ref a∧y=.ref b∧H a=some (.dK kvs)∧H b=some (.dK kvs)∧(∀ p∈kvs,valV kvs p.1=some p.2∧flatV p.2=true)∧Q (.bl false) H
theorem zasp (hu:X.A.units + 64 < cLine):OpR X (compareOp .NotEq) rNeK:=by
 intro pins s σ H x y v u Q I rx ry h
 obtain ⟨a,b,kvs,rfl,rfl,ha,hb,fl,q⟩:=h
 cases rx
 cases ry
 obtain ⟨_,nA,va,ka,da⟩:=(I.hok a _ ha:ObjOk X.prog X.w H s.heap a (.dK kvs))
 obtain ⟨_,nB,vb,kb,db⟩:=(I.hok b _ hb:ObjOk X.prog X.w H s.heap b (.dK kvs))
 have lab:va.length=vb.length:=(Paired.length ka).symm.trans (Paired.length kb)
 refine keq_ne nA nB da db (by omega) (fun _=>zajk kb ka fl) ?_
 rw [lab,beq_self_eq_true]
 exact ⟨.bl false,H,I,rfl,q⟩
end L2

namespace L2
open PySem PySem.W PyProof.Rows PySem.Calls PySem.P
variable {X:Cx}
def tLR (ta:TA):TE:=fun σ H Q=>ta σ H fun vs H1=>∃ n:Nat,vs=[.int (n:Int)]∧n≤5000∧∀ l,H1 l=none→Q (.ref l) (upd H1 l (.lst ((List.range n).map fun k:Nat=>V.int (k:Int))))
theorem zaj7 {n:Nat}{acc:Array Value} (h:ItemsOf (fun i v=>∃ t,v=.int (0 + (i:Int) * 1) t) acc n):Vals ((List.range n).map fun k:Nat=>V.int (k:Int)) acc.toList:=by
 have key:∀ (m:Nat) (l:List Value),l.length=m→∀ k,(∀ (j:Nat) (v:Value),l[j]?=some v→∃ t,v=.int (((k + j:Nat):Int)) t)→Vals ((List.range' k m).map fun k:Nat=>V.int (k:Int)) l:=by
  intro m
  induction m with
  | zero=>intro l hl k _; cases l with
   | nil=>exact .nil
   | cons=>simp at hl
  | succ m ih =>
   intro l hl k g
   cases l with
   | nil=>simp at hl
   | cons v l =>
    rw [List.range'_succ,List.map_cons]
    refine .cons ?_ (ih l (by simpa using hl) (k + 1) fun j w e=>?_)
    ·obtain ⟨t,rfl⟩:=g 0 v rfl
     exact ⟨t,by simp⟩
    ·obtain ⟨t,rfl⟩:=g (j + 1) w (by simpa using e)
     exact ⟨t,by rw [show k + (j + 1)=k + 1 + j by omega]⟩
 rw [List.range_eq_range']
 refine key n acc.toList (by simpa using h.1) 0 fun j v e=>?_
 obtain ⟨t,rfl⟩:=h.2 j v (by simpa using e)
 exact ⟨t,by simp⟩
theorem zagm {a:Expr}{ta:TA}{p1 p2 p3 p4:Pos} (hc:X.calm=true) (hgl:Gl X "list") (hml:X.mg "list" = none) (hgr:Gl X "range") (hmr:X.mg "range" = none) (ha:Pr (PA X [a] ta))
  (hs:starEach [a] X.env=[(false,eval a X.env)]:=by rfl) (hsz:starEach [.Call (.Name "range" p2) [a] [] p3] X.env=[(false,eval (.Call (.Name "range" p2) [a] [] p3) X.env)]:=by rfl) :
  Pr (PE X (.Call (.Name "list" p1) [.Call (.Name "range" p2) [a] [] p3] [] p4) (tLR ta)):=by
 refine ⟨?_⟩
 intro pins s σ H Q I h
 refine Call_ (zadp I hgl hml PyProof.Rows.Boot.«list» (PyProof.Rows.callWith_type1 ?_ hsz rfl))
 rw [hsz]
 refine Calls.spliced_cons ?_
 refine Call_ (zadp I hgr hmr boot_range (PyProof.Rows.callWith_type1 (thn (ha.h p3 pins s σ H _ I h) fun us s1 ⟨vs,H1,I1,r1,q1⟩=>?_) hs rfl))
 obtain ⟨n,e,hn,q⟩:=q1
 subst e
 obtain ⟨u,rfl,ru⟩:=vals1 r1
 obtain ⟨t,rfl⟩:=ru
 refine call_range_1 (Calls.spliced_nil ?_)
 have hh:X.A.handled=none:=I.ok.hd hc
 have hsz2:Builtin.Range.rangeSize 0 (n:Int) 1=(n:Int):=by rw [rangeSize_one]; split <;> omega
 refine call_list_range (n:=n) hh (IsRange.new ..) (small_one (by omega) (by omega) (by omega) (by omega)) hsz2 (by omega) fun h' tk acc c kp e it=>?_
 have old:∀ b o,s1.heap.get? b=some o→h'.get? b=some o:=fun b o e=>kp b o (Heap.get?_push_of_some _ e)
 have szl:s1.heap.objs.size≤(s1.heap.push { cls:=.type "range",data:=.fields #[.int 0 s1.toks,.int (n:Int) t,.int 1 (s1.toks + 1)] }).objs.size:=by rw [size_push']; exact Nat.le_succ _
 refine ⟨.ref _,_,I1.laid (t':=tk) old szl (show ObjOk X.prog X.w _ h' _ (.lst ((List.range n).map fun k:Nat=>V.int (k:Int))) from ⟨by rw [sizeLine_eq,List.length_map,List.length_range]; omega,acc.toList,c,zaj7 it,by simpa using e⟩),rfl,q _ (I1.hok.fresh szl)⟩
end L2

set_option maxHeartbeats 4000000
namespace B17
open PySem L2
abbrev Vs (sc:Scope) (x:Str):Prop:=sc.names.lookup x=some NameKind.local∨sc.names.lookup x=some NameKind.cell∨sc.names.lookup x=some NameKind.free
abbrev Lc (sc:Scope) (x:Str):Prop:=sc.names.lookup x=some NameKind.local∨sc.names.lookup x=some NameKind.cell
abbrev Gi (sc:Scope) (x:Str):Prop:=sc.names.lookup x=some NameKind.globalImplicit
abbrev Nd (x:Str):Prop:=(x == ("__debug__" : Str))=false
abbrev Nc (x:Str):Prop:=(x == ("__classdict__" : Str))=false
local macro_rules | `(tactic| walk_at "few")=>`(tactic| (with_reducible show (List.length (α:=Str × V) _) < 1000); first | exact (by decide:0 < 1000) | exact (by decide:1 < 1000) | exact (by decide:2 < 1000) | exact (by decide:3 < 1000) | exact (by decide:4 < 1000) | exact (by decide:5 < 1000) | exact (by decide:6 < 1000))
local macro_rules | `(tactic| walk_at "get")=>`(tactic| first
 | with_reducible assumption
 | exact zaae
 | (apply zabi; (focus with_reducible assumption); (focus walk_at "get"))
 | (apply zab0; (focus walk_at "ne"); (focus walk_at "get"))
 | (apply Ch.get; (focus with_reducible assumption); (focus walk_at "get"); (focus walk_at "notin")))
local macro_rules | `(tactic| walk_at "ne")=>`(tactic| first | with_reducible assumption | (apply Ne.symm; with_reducible assumption) | (apply zah6; (focus with_reducible assumption); (focus with_reducible assumption); (focus (intro z; cases z))))
local macro_rules | `(tactic| walk_at "notin")=>`(tactic| first | exact List.not_mem_nil | (simp only [List.mem_cons,List.not_mem_nil,or_false,not_or,not_false_eq_true]; first | walk_at "ne" | trivial))
local macro_rules | `(tactic| walk_at "scr")=>`(tactic| first
 | with_reducible assumption
 | (apply Scr.ch; (focus with_reducible assumption); (focus with_reducible assumption); (focus walk_at "ch"))
 | (apply Scr.same; (focus with_reducible assumption); (focus walk_at "ch")))
local macro_rules | `(tactic| walk_at "ch")=>`(tactic| first
 | with_reducible assumption
 | exact Ch.refl _ _
 | exact Ch.put
 | (apply Ch.new; with_reducible assumption)
 | (apply Ch.wk; with_reducible assumption)
 | (apply Ch.own; (focus with_reducible assumption); (focus walk_at "ch"))
 | (apply Ch.trans; (rotate_left; focus with_reducible assumption); (focus walk_at "ch"))
 | (apply Ch.trans; (rotate_left; focus (apply Ch.wk; with_reducible assumption)); (focus walk_at "ch"))
 | (apply Ch.trans; (rotate_left; focus exact Ch.put); (focus walk_at "ch"))
 | (apply Ch.trans; (rotate_left; focus (apply Ch.new; with_reducible assumption)); (focus walk_at "ch")))
local macro_rules | `(tactic| walk_at "sq")=>`(tactic| first
 | (apply Scr.sq; walk_at "scr")
 | (apply Exists.intro; walk_at "sq")
 | (refine (‹∀ H:Hp,SqT _ H _ _›) _)
 | (apply SqL.of; walk_at "get")
 | (apply SqT.of; walk_at "get")
 | (apply Or.inl; apply Scr.sq; walk_at "scr")
 | (apply Or.inl; apply SqL.of; walk_at "get")
 | (apply Or.inr; apply SqT.of; walk_at "get"))
local macro_rules | `(tactic| walk_at "arith")=>`(tactic| first
 | omega
 | (simp only [List.length_map,List.length_cons,List.length_nil,List.length_append,List.length_singleton,List.length_replicate]; done)
 | ((try dsimp only); (try simp only [List.length_map,List.length_cons,List.length_nil,List.length_append,List.length_singleton,List.length_replicate,sizeLine_eq]); omega)
 | ((try dsimp only); (try simp only [List.length_map,List.length_cons,List.length_nil,List.length_append,List.length_singleton,List.length_replicate,sizeLine_eq] at *); omega))
local macro_rules | `(tactic| walk_at "cond")=>`(tactic| first
 | (refine Or.inl (And.intro ?_ ?_) <;> walk_at "arith")
 | (refine Or.inr (And.intro ?_ ?_) <;> walk_at "arith")
 | (refine And.intro ?_ (And.intro ?_ ?_) <;> walk_at "arith")
 | (refine And.intro ?_ ?_ <;> walk_at "arith"))
local macro_rules | `(tactic| walk_at "len")=>`(tactic| first
 | with_reducible assumption
 | exact len_one
 | (apply len_slice; walk_at "len")
 | (apply len_app; (focus walk_at "len"); (focus walk_at "len"))
 | exact Nat.le_refl _)
local macro_rules | `(tactic| walk_at "lens")=>`(tactic| first
 | (apply len_sum; (focus walk_at "len"); (focus walk_at "len"); (focus first | decide +kernel | walk_at "arith"))
 | (apply len_top; (focus walk_at "len"); (focus first | decide +kernel | walk_at "arith")))
local macro_rules | `(tactic| walk_at "side")=>`(tactic| first
 | with_reducible rfl | with_reducible assumption | walk_at "sq" | walk_at "get" | walk_at "scr" | walk_at "ch" | walk_at "ty" | exact TyOf.int _ | exact TyOf.str _ | (apply TyOf.tup; walk_at "get") | (apply TyOf.lst; walk_at "get") | exact TyOf.bl _ | exact TyOf.non | walk_at "few" | decide | omega | walk_at "arith" | walk_at "cond" | ((try simp only [List.length_map]); with_reducible assumption) | walk_at "lens" | (apply Or.inr; with_reducible assumption) | walk_at "user" | exact rfl | assumption)
local macro_rules | `(tactic| walk_at "ty")=>`(tactic| (refine Or.inl (And.intro rfl ?_); apply Exists.intro; walk_at "sq"))
local macro_rules | `(tactic| walk_at "user")=>`(tactic| fail)
local macro_rules | `(tactic| walk_at "rd1")=>`(tactic| first
 | apply Exists.intro
 | (refine And.intro rfl ?_)
 | (refine And.intro (show V.str _=L2.kV (Sum.inr _) from rfl) ?_)
 | (refine And.intro (show V.int _=L2.kV (Sum.inl _) from rfl) ?_)
 | (refine And.intro (L2.zan1 _ _) ?_)
 | (apply And.intro; (focus (walk_at "side"; done)))
 | apply Atx.head
 | (apply Atx.of; (focus first | exact rfl | with_reducible assumption | ((try simp only [List.length_map]); with_reducible assumption)))
 | (apply Or.inl; apply Exists.intro; (refine And.intro rfl ?_))
 | (apply Or.inr; apply Exists.intro; (refine And.intro rfl ?_))
 | (apply Or.inl; apply And.intro; (focus walk_at "sq"))
 | (apply Or.inr; apply And.intro; (focus walk_at "sq"))
 | (intro _)
 | walk_at "fin")
local macro_rules | `(tactic| walk_at "fin")=>`(tactic| first | exact rfl | (walk_at "get"; done))
local macro_rules | `(tactic| walk_at "rd")=>`(tactic| repeat walk_at "rd1")
section
def top (i:Nat):Stmt:=PySem.Challenge.pw_bitfloor_k39_bit_from.main.body.getD i (.Pass ⟨0,0,0,0⟩)
section
variable {P:Program}{w:World}{K:PySem.W.Frag}{mg:Str→Option Value}{base:Heap}{f:Addr}{fd:FuncData}{k:Nat}
theorem zaa0:bootBuiltins "isinstance" = some (.builtin "isinstance"):=by decide +kernel
theorem zaly:bootBuiltins "bool" = some (.type "bool"):=by decide +kernel
theorem zalz:("bool" : Str) ≠ "__name__" := by decide +kernel
theorem zal0:Nd "bool" := by decide +kernel
theorem zaa1:("isinstance" : Str) ≠ "__name__" := by decide +kernel
theorem zaa2:Nd "isinstance" := by decide +kernel
theorem zahu:bootBuiltins "int" = some (.type "int"):=by decide +kernel
theorem zahv:("int" : Str) ≠ "__name__" := by decide +kernel
theorem zahw:Nd "int" := by decide +kernel
theorem zain:Nd "is_whole" := by decide +kernel
theorem zal1:bootBuiltins "str" = some (.type "str"):=by decide +kernel
theorem zal2:("str" : Str) ≠ "__name__" := by decide +kernel
theorem zal3:Nd "str" := by decide +kernel
theorem zabd:("len" : Str) ≠ "__name__" := by decide +kernel
theorem zabe:Nd "len" := by decide +kernel
theorem zacx:bootBuiltins "tuple" = some (.type "tuple"):=by decide +kernel
theorem zacy:("tuple" : Str) ≠ "__name__" := by decide +kernel
theorem zacz:Nd "tuple" := by decide +kernel
theorem zac0:Nd "is_below" := by decide +kernel
theorem zadm:Nd "FEED_COUNTS" := by decide +kernel
theorem zal4:bootBuiltins "all" = some (.builtin "all"):=by decide +kernel
theorem zal5:("all" : Str) ≠ "__name__" := by decide +kernel
theorem zal6:Nd "all" := by decide +kernel
theorem zadb:bootBuiltins "list" = some (.type "list"):=by decide +kernel
theorem zadc:("list" : Str) ≠ "__name__" := by decide +kernel
theorem zadd:Nd "list" := by decide +kernel
theorem zaj8:Nd "is_gate" := by decide +kernel
theorem gl4:AG (defScope (top 4)) ["isinstance", "bool", "int"]:=⟨by decide +kernel⟩
theorem av4:AF (defScope (top 4)) ["thing"]:=⟨by decide +kernel⟩
def spWhole:Sp:=fun vs H Q _=>∃ i:Int,vs=[.int i]∧Q (.bl true) H
theorem scWhole:FnScope ["thing"] ["thing"] (defScope (top 4)):=⟨rfl,rfl,rfl,by decide +kernel,rfl,by decide +kernel,by decide +kernel⟩
theorem zaoi (F:Fun K "is_whole" "is_whole" (top 4) f fd) (z_isinstance:mg "isinstance" = none) (z_int:mg "int" = none) (z_bool:mg "bool" = none):FnOk P w K mg base CX0 (k + 1) f fd ["thing"] spWhole:=by
 have nd:=scWhole.nd
 refine F.ok scWhole (fun vs H Q E h=>by obtain ⟨i,rfl,_⟩:=h; rfl) (fun cdv A outer s H vs Q E hr h=>?_)
 obtain ⟨i,rfl,q⟩:=h
 refine ⟨_,(Pr.h (zaaf (zaas (zacu (zaaj zabo (gl4.g 0 rfl) z_isinstance zaa0 (zaaa (qv av4 0 rfl) (zaaa (zabp (v:=.ty "int") (gl4.g 2 rfl) z_int zahu rfl zahv zahw) zaab)) zaa1 zaa2) (zadn (zak7 (zaaj zabo (gl4.g 0 rfl) z_isinstance zaa0 (zaaa (qv av4 0 rfl) (zaaa (zabp (v:=.ty "bool") (gl4.g 1 rfl) z_bool zaly rfl zalz zal0) zaab)) zaa1 zaa2))))))),?_⟩
 (try dsimp only [cxOf])
 walk_at "rd"
 exact q
theorem av5:AF (defScope (top 5)) ["thing", "bound"]:=⟨by decide +kernel⟩
theorem gl5:AG (defScope (top 5)) ["is_whole"]:=⟨by decide +kernel⟩
def spBelow:Sp:=fun vs H Q _=>∃ i b:Int,vs=[.int i,.int b]∧0≤i∧i < b∧Q (.bl true) H
theorem scBelow:FnScope ["thing", "bound"] ["thing", "bound"] (defScope (top 5)):=⟨rfl,rfl,rfl,by decide +kernel,rfl,by decide +kernel,by decide +kernel⟩
theorem zaoj (F:Fun K "is_below" "is_below" (top 5) f fd) (Dis_whole:DefOk P w K mg base CX0 k "is_whole" ["thing"] spWhole):FnOk P w K mg base CX0 (k + 1) f fd ["thing", "bound"] spBelow:=by
 have nd:=scBelow.nd
 refine F.ok scBelow (fun vs H Q E h=>by obtain ⟨i,b,rfl,_⟩:=h; rfl) (fun cdv A outer s H vs Q E hr h=>?_)
 obtain ⟨i,b,rfl,h0,h1,q⟩:=h
 refine ⟨_,(Pr.h (zaaf (zaas (zacu (zaak Dis_whole hr (gl5.g 0 rfl) pass0 (zaaa (qv av5 0 rfl) zaab zaad) zain) (zadn (zak6 zatm zarz zaac (qv av5 0 rfl) (qv av5 1 rfl))))))),?_⟩
 (try dsimp only [cxOf])
 walk_at "rd"
 refine iteD h0 ?_
 walk_at "rd"
 show Q (.bl (decide (i < b))) H
 rw [decide_eq_true h1]
 exact q
end
inductive Gt where
 | inp | zero | one
 | keep (f:Int) (a:Nat)
 | not (a:Nat)
 | and (a b:Nat)
 | or (a b:Nat)
 | xor (a b:Nat)
 | pick (a b c:Nat)
deriving DecidableEq
def Gt.vs:Gt→List V
 | .inp=>[.str "in"]
 | .zero=>[.str "zero"]
 | .one=>[.str "one"]
 | .keep f a=>[.str "keep",.int f,.int a]
 | .not a=>[.str "not",.int a]
 | .and a b=>[.str "and",.int a,.int b]
 | .or a b=>[.str "or",.int a,.int b]
 | .xor a b=>[.str "xor",.int a,.int b]
 | .pick a b c=>[.str "pick",.int a,.int b,.int c]
def Gt.ok (i n:Nat):Gt→Prop
 | .inp=>True
 | .zero=>True
 | .one=>True
 | .keep f a=>0≤f∧f < 2∧a < n
 | .not a=>a < i
 | .and a b=>a < i∧b < i
 | .or a b=>a < i∧b < i
 | .xor a b=>a < i∧b < i
 | .pick a b c=>a < i∧b < i∧c < i
structure Gs (H:Hp) (gs:List Gt) (xs:List V):Prop where
 len:xs.length=gs.length
 at_:∀ (i:Nat) (g:Gt),gs[i]?=some g→∃ p,xs[i]?=some (.ref p)∧H p=some (.tup g.vs)
theorem Gs.tu {H H':Hp}{gs:List Gt}{xs:List V} (h:Gs H gs xs) (t:Tu H H'):Gs H' gs xs:=⟨h.len,fun i g e=>let ⟨p,a,b⟩:=h.at_ i g e; ⟨p,a,t p _ b⟩⟩
def Oks (gs:List Gt):Prop:=∀ (i:Nat) (g:Gt),gs[i]?=some g→g.ok i gs.length
def FC:List (Str × Int):=[("in",0),("zero",0),("one",0),("not",1),("and",2),("or",2),("xor",2),("pick",3)]
theorem zab5 {K:PySem.W.Frag}{pt:Addr}{zs:List Int}{i:Int}{H:Hp}{Q':List V→Hp→Prop} (hz:∀ z∈zs,0≤z∧z < i) (hp:H pt=some (.tup (zs.map V.int))) (hl:zs.length < 100)
  (h:∀ ys H',Ch [] H H'→ys=List.replicate zs.length (V.bl true)→Q' ys H'):Comp (Itt K pt) (gName 0) tYes (tCall spBelow [] E0 (tCons (tVar 0) (tCons (tVar 1) tNil))) Q' [none,some (.int i)] H:=by
 refine zaeo (zs.map V.int) (fun j ys σ H'=>H'=H∧ys=List.replicate j (V.bl true)∧∃ u,σ=[u,some (.int i)]) (by rw [List.length_map,sizeLine_eq]; omega) ⟨rfl,rfl,_,rfl⟩ ?_ ?_ ?_
 ·rintro j ys σ H' hj ⟨rfl,rfl,u,rfl⟩
  exact ⟨by simp,SqT.of hp⟩
 ·rintro j ys σ H' x hx ⟨rfl,rfl,u,rfl⟩
  obtain ⟨z,hz',rfl⟩:∃ z∈zs,x=.int z:=by
   rw [List.getElem?_map] at hx
   obtain ⟨z,h1,h2⟩:=Option.map_eq_some_iff.mp hx
   exact ⟨z,List.mem_of_getElem? h1,h2.symm⟩
  obtain ⟨h0,h1⟩:=hz z hz'
  exact ⟨_,rfl,_,rfl,z,i,rfl,h0,h1,rfl,by rw [← List.replicate_succ'],_,rfl⟩
 ·rintro ys σ H' ⟨rfl,rfl,_⟩
  exact h _ _ (Ch.refl _ _) (by rw [List.length_map])
section
variable {P:Program}{w:World}{K:PySem.W.Frag}{mg:Str→Option Value}{base:Heap}{f:Addr}{fd:FuncData}{k:Nat}
theorem gl8:AG (defScope (top 8)) ["isinstance", "str", "len", "tuple", "is_below", "FEED_COUNTS", "all"]:=⟨by decide +kernel⟩
theorem av8:AF (defScope (top 8)) ["thing", "ahead", "total"]:=⟨by decide +kernel⟩
def zajl:Scope:={ kind:=PySem.ScopeKind.function,names:=[ (PySem.Str.ofString ".0",PySem.NameKind.local),(PySem.Str.ofString "feed",PySem.NameKind.local),(PySem.Str.ofString "is_below",PySem.NameKind.globalImplicit),(PySem.Str.ofString "ahead",PySem.NameKind.free)],isGenerator:=false,isCoroutine:=false,more:=[]:PySem.Scope }
theorem zao5:CompOk zajl (defScope (top 8)) (["feed"]:List Str) (["thing", "ahead", "total"]:List Str) [1] (["feed", "ahead"]:List Str):=compOk rfl (by decide +kernel) (by decide +kernel) (by decide +kernel) (by decide +kernel) rfl (by decide +kernel)
theorem zao6:AK (relab zajl (defScope (top 8))) ["feed"]:=⟨by decide +kernel⟩
theorem zasq:AG (relab zajl (defScope (top 8))) ["is_below"]:=⟨by decide +kernel⟩
theorem zao7:AV (relab zajl (defScope (top 8))) ["feed", "ahead"]:=⟨by decide +kernel⟩
def spGate:Sp:=fun vs H Q _=>∃ (p:Addr) (g:Gt) (i n:Nat) (i' n':Int),vs=[.ref p,.int i',.int n']∧H p=some (.tup g.vs)∧i'=(i:Int)∧n'=(n:Int)∧g.ok i n∧∀ H',Ch [] H H'→Q (.bl true) H'
theorem scGate:FnScope ["thing", "ahead", "total"] ["thing", "ahead", "total"] (defScope (top 8)):=⟨rfl,rfl,rfl,by decide +kernel,rfl,by decide +kernel,by decide +kernel⟩
theorem zaqq {fa:Addr}{kvs:List (Key × V)} (F:Fun K "is_gate" "is_gate" (top 8) f fd) (Dis_below:DefOk P w K mg base CX0 k "is_below" ["thing", "bound"] spBelow)
  (m_FEED_COUNTS:mg "FEED_COUNTS" = some (.ref fa)) (hKD:KD P w K fa kvs) (hF:∀ w n,(w,n)∈FC→valV kvs (Sum.inr w)=some (.int n))
  (z_isinstance:mg "isinstance" = none) (z_tuple:mg "tuple" = none) (z_str:mg "str" = none) (z_len:mg "len" = none) (z_all:mg "all" = none):FnOk P w K mg base CX0 (k + 1) f fd ["thing", "ahead", "total"] spGate:=by
 have nd:=scGate.nd
 refine F.ok scGate (fun vs H Q E h=>by obtain ⟨p,g,i,n,i',n',rfl,_⟩:=h; rfl) (fun cdv A outer s H vs Q E hr h=>?_)
 obtain ⟨p,g,i,n,i',n',rfl,hp,rfl,rfl,hok,q⟩:=h
 refine ⟨_,(Pr.h (zaag (zaaz (zacp (zadv (zaco (zabu (zaaj zabo (gl8.g 0 rfl) z_isinstance zaa0 (zaaa (qv av8 0 rfl) (zaaa (zabp (v:=.ty "tuple") (gl8.g 3 rfl) z_tuple zacx rfl zacy zacz) zaab)) zaa1 zaa2))) (zadv (zaan zabt (zaaj zaal (gl8.g 2 rfl) z_len PySem.boot_len (zaaa (qv av8 0 rfl) zaab zaad) zabd zabe) zaac (nomark _)) (zac7 (zaco (zabu (zaaj zabo (gl8.g 0 rfl) z_isinstance zaa0 (zaaa (zaap zaa8 (qv av8 0 rfl) zaac (fun _ _=>rfl)) (zaaa (zabp (v:=.ty "str") (gl8.g 1 rfl) z_str zal1 rfl zal2 zal3) zaab)) zaa1 zaa2))))))) (zaaf (zaas zace)) zaat) (zaag (zaaz (zaan zabt (zaap zaa8 (qv av8 0 rfl) zaac (fun _ _=>rfl)) zaao (nomark _)) (zaaf (zaas (zacu (zab7 zabt (zaaj zaal (gl8.g 2 rfl) z_len PySem.boot_len (zaaa (qv av8 0 rfl) zaab zaad) zabd zabe) zaac (nomark _)) (zacu (zaak Dis_below hr (gl8.g 4 rfl) pass0 (zaaa (zaap zaa8 (qv av8 0 rfl) zaac (fun _ _=>rfl)) (zaaa zaac zaab zaah) zaa3) zac0) (zadn (zaak Dis_below hr (gl8.g 4 rfl) pass0 (zaaa (zaap zaa8 (qv av8 0 rfl) zaac (fun _ _=>rfl)) (zaaa (qv av8 2 rfl) zaab zaad) zaa3) zac0)))))) zaat) (zaag (zaaz (zacp (zadv (zaan zaga (zaap zaa8 (qv av8 0 rfl) zaac (fun _ _=>rfl)) (zajb (v:=.ref _) (gl8.g 5 rfl) m_FEED_COUNTS rfl zadm) rfl) (zac7 (zaan zaev (zaaj zaal (gl8.g 2 rfl) z_len PySem.boot_len (zaaa (qv av8 0 rfl) zaab zaad) zabd zabe) (zaai zab2 zaac (zap9 (zajb (v:=.ref _) (gl8.g 5 rfl) m_FEED_COUNTS rfl zadm) (zaap zaa8 (qv av8 0 rfl) zaac (fun _ _=>rfl)) (fun _ _=>rfl))) (nomark _))))) (zaaf (zaas zace)) zaat) (zaaf (zaas (zaaj (zage rfl) (gl8.g 6 rfl) z_all zal4 (zaaa (zab1 rfl zao5 (zae6 (zab3 zae1 (qv av8 0 rfl) (zacb zaac) zaca)) (fun _ _ _ _ _=>(zaav (i:=0) zao5.nd rfl (Or.inl (zao6.k 0 rfl)) (Or.inr (zao6.k 0 rfl)))) (fun _ _ _ _ _=>zacd) (fun _ _ _ _ _=>(zaak Dis_below hr (zasq.g 0 rfl) pass0 (zaaa (qw zao7 0 rfl) (zaaa (qw zao7 1 rfl) zaab zaad) zaad) zac0))) zaab zabm) zal5 zal6))))))),?_⟩
 (try dsimp only [cxOf])
 cases g with
 | inp =>
  have hv:=hF "in" 0 (by decide +kernel)
  have hp:H p=some (.tup [.str "in"]):=hp
  walk_at "rd"
  rw [hv]
  refine iteF ?_
  walk_at "rd"
  rename_i pt hpt
  refine zab5 (zs:=[]) (by simp <;> omega) (by rw [zaae,cut1]; rfl) (by simp) fun ys H' c e=>?_
  subst e
  intro D hD
  exact ⟨D,[],rfl,zaae,q _ (((Ch.new hpt _).trans c).trans (Ch.new hD _))⟩
 | zero =>
  have hv:=hF "zero" 0 (by decide +kernel)
  have hp:H p=some (.tup [.str "zero"]):=hp
  walk_at "rd"
  rw [hv]
  refine iteF ?_
  walk_at "rd"
  rename_i pt hpt
  refine zab5 (zs:=[]) (by simp <;> omega) (by rw [zaae,cut1]; rfl) (by simp) fun ys H' c e=>?_
  subst e
  intro D hD
  exact ⟨D,[],rfl,zaae,q _ (((Ch.new hpt _).trans c).trans (Ch.new hD _))⟩
 | one =>
  have hv:=hF "one" 0 (by decide +kernel)
  have hp:H p=some (.tup [.str "one"]):=hp
  walk_at "rd"
  rw [hv]
  refine iteF ?_
  walk_at "rd"
  rename_i pt hpt
  refine zab5 (zs:=[]) (by simp <;> omega) (by rw [zaae,cut1]; rfl) (by simp) fun ys H' c e=>?_
  subst e
  intro D hD
  exact ⟨D,[],rfl,zaae,q _ (((Ch.new hpt _).trans c).trans (Ch.new hD _))⟩
 | not a =>
  have hv:=hF "not" 1 (by decide +kernel)
  have hp:H p=some (.tup [.str "not",.int a]):=hp
  have ha:a < i:=hok
  walk_at "rd"
  rw [hv]
  refine iteF ?_
  walk_at "rd"
  rename_i pt hpt
  refine zab5 (zs:=[(a:Int)]) (by simp <;> omega) (by rw [zaae,cut1]; rfl) (by simp) fun ys H' c e=>?_
  subst e
  intro D hD
  exact ⟨D,[true],rfl,zaae,q _ (((Ch.new hpt _).trans c).trans (Ch.new hD _))⟩
 | and a b =>
  have hv:=hF "and" 2 (by decide +kernel)
  have hp:H p=some (.tup [.str "and",.int a,.int b]):=hp
  obtain ⟨ha,hb⟩:a < i∧b < i:=hok
  walk_at "rd"
  rw [hv]
  refine iteF ?_
  walk_at "rd"
  rename_i pt hpt
  refine zab5 (zs:=[(a:Int),(b:Int)]) (by simp <;> omega) (by rw [zaae,cut1]; rfl) (by simp) fun ys H' c e=>?_
  subst e
  intro D hD
  exact ⟨D,[true,true],rfl,zaae,q _ (((Ch.new hpt _).trans c).trans (Ch.new hD _))⟩
 | or a b =>
  have hv:=hF "or" 2 (by decide +kernel)
  have hp:H p=some (.tup [.str "or",.int a,.int b]):=hp
  obtain ⟨ha,hb⟩:a < i∧b < i:=hok
  walk_at "rd"
  rw [hv]
  refine iteF ?_
  walk_at "rd"
  rename_i pt hpt
  refine zab5 (zs:=[(a:Int),(b:Int)]) (by simp <;> omega) (by rw [zaae,cut1]; rfl) (by simp) fun ys H' c e=>?_
  subst e
  intro D hD
  exact ⟨D,[true,true],rfl,zaae,q _ (((Ch.new hpt _).trans c).trans (Ch.new hD _))⟩
 | xor a b =>
  have hv:=hF "xor" 2 (by decide +kernel)
  have hp:H p=some (.tup [.str "xor",.int a,.int b]):=hp
  obtain ⟨ha,hb⟩:a < i∧b < i:=hok
  walk_at "rd"
  rw [hv]
  refine iteF ?_
  walk_at "rd"
  rename_i pt hpt
  refine zab5 (zs:=[(a:Int),(b:Int)]) (by simp <;> omega) (by rw [zaae,cut1]; rfl) (by simp) fun ys H' c e=>?_
  subst e
  intro D hD
  exact ⟨D,[true,true],rfl,zaae,q _ (((Ch.new hpt _).trans c).trans (Ch.new hD _))⟩
 | pick a b c =>
  have hv:=hF "pick" 3 (by decide +kernel)
  have hp:H p=some (.tup [.str "pick",.int a,.int b,.int c]):=hp
  obtain ⟨ha,hb,hc⟩:a < i∧b < i∧c < i:=hok
  walk_at "rd"
  rw [hv]
  refine iteF ?_
  walk_at "rd"
  rename_i pt hpt
  refine zab5 (zs:=[(a:Int),(b:Int),(c:Int)]) (by simp <;> omega) (by rw [zaae,cut1]; rfl) (by simp) fun ys H' c e=>?_
  subst e
  intro D hD
  exact ⟨D,[true,true,true],rfl,zaae,q _ (((Ch.new hpt _).trans c).trans (Ch.new hD _))⟩
 | keep ff a =>
  have hp:H p=some (.tup [.str "keep",.int ff,.int a]):=hp
  obtain ⟨h1,h2,h3⟩:0≤ff∧ff < 2∧a < n:=hok
  walk_at "rd"
  exact q _ (Ch.refl _ _)
theorem av10:AF (defScope (top 10)) ["gate"]:=⟨by decide +kernel⟩
theorem gl10:AG (defScope (top 10)) ["list"]:=⟨by decide +kernel⟩
def Gt.feeds:Gt→List Nat
 | .inp=>[]
 | .zero=>[]
 | .one=>[]
 | .keep f a=>[a]
 | .not a=>[a]
 | .and a b=>[a,b]
 | .or a b=>[a,b]
 | .xor a b=>[a,b]
 | .pick a b c=>[a,b,c]
theorem freeN {H:Hp}{p r:Addr}{o:HO} (hp:H p=none) (hr:upd H p o r=none):H r=none:=by
 by_cases e:r=p
 ·rw [e]; exact hp
 ·rw [zaa5 e] at hr; exact hr
def nV (a:Nat):V:=.int (a:Int)
def spFeeds:Sp:=fun vs H Q _=>∃ (p:Addr) (g:Gt),vs=[.ref p]∧H p=some (.tup g.vs)∧∀ r H',Ch [] H H'→H r=none→H' r=some (.lst (g.feeds.map nV))→Q (.ref r) H'
theorem scFeeds:FnScope ["gate"] ["gate"] (defScope (top 10)):=⟨rfl,rfl,rfl,by decide +kernel,rfl,by decide +kernel,by decide +kernel⟩
theorem zaok (F:Fun K "feeds_of" "feeds_of" (top 10) f fd) (z_list:mg "list" = none):FnOk P w K mg base CX0 (k + 1) f fd ["gate"] spFeeds:=by
 have nd:=scFeeds.nd
 refine F.ok scFeeds (fun vs H Q E h=>by obtain ⟨p,g,rfl,_⟩:=h; rfl) (fun cdv A outer s H vs Q E hr h=>?_)
 obtain ⟨p,g,rfl,hp,q⟩:=h
 refine ⟨_,(Pr.h (zaag (zaaz (zaan zabt (zaap zaa8 (qv av10 0 rfl) zaac (fun _ _=>rfl)) zaao (nomark _)) (zaaf (zaas (zabb (zaaa (zaap zaa8 (qv av10 0 rfl) zaac (fun _ _=>rfl)) zaab zaa3)))) zaat) (zaaf (zaas (zabc zacl (gl10.g 0 rfl) z_list zadb (zaaa (zab3 zae1 (qv av10 0 rfl) (zacb zaac) zaca) zaab zaa3) zadc zadd))))),?_⟩
 (try dsimp only [cxOf])
 cases g with
 | keep ff a =>
  have hp:H p=some (.tup [.str "keep",.int ff,.int a]):=hp
  walk_at "rd"
  exact q _ _ (Ch.new (by assumption) _) (by assumption) zaae
 | inp =>
  have hp:H p=some (.tup [.str "in"]):=hp
  walk_at "rd"
  rename_i pt hpt r hr1
  exact q _ _ ((Ch.new hpt _).trans (Ch.new hr1 _)) (freeN hpt hr1) (by rw [zaae,cut1]; rfl)
 | zero =>
  have hp:H p=some (.tup [.str "zero"]):=hp
  walk_at "rd"
  rename_i pt hpt r hr1
  exact q _ _ ((Ch.new hpt _).trans (Ch.new hr1 _)) (freeN hpt hr1) (by rw [zaae,cut1]; rfl)
 | one =>
  have hp:H p=some (.tup [.str "one"]):=hp
  walk_at "rd"
  rename_i pt hpt r hr1
  exact q _ _ ((Ch.new hpt _).trans (Ch.new hr1 _)) (freeN hpt hr1) (by rw [zaae,cut1]; rfl)
 | not a =>
  have hp:H p=some (.tup [.str "not",.int a]):=hp
  walk_at "rd"
  rename_i pt hpt r hr1
  exact q _ _ ((Ch.new hpt _).trans (Ch.new hr1 _)) (freeN hpt hr1) (by rw [zaae,cut1]; rfl)
 | and a b =>
  have hp:H p=some (.tup [.str "and",.int a,.int b]):=hp
  walk_at "rd"
  rename_i pt hpt r hr1
  exact q _ _ ((Ch.new hpt _).trans (Ch.new hr1 _)) (freeN hpt hr1) (by rw [zaae,cut1]; rfl)
 | or a b =>
  have hp:H p=some (.tup [.str "or",.int a,.int b]):=hp
  walk_at "rd"
  rename_i pt hpt r hr1
  exact q _ _ ((Ch.new hpt _).trans (Ch.new hr1 _)) (freeN hpt hr1) (by rw [zaae,cut1]; rfl)
 | xor a b =>
  have hp:H p=some (.tup [.str "xor",.int a,.int b]):=hp
  walk_at "rd"
  rename_i pt hpt r hr1
  exact q _ _ ((Ch.new hpt _).trans (Ch.new hr1 _)) (freeN hpt hr1) (by rw [zaae,cut1]; rfl)
 | pick a b c =>
  have hp:H p=some (.tup [.str "pick",.int a,.int b,.int c]):=hp
  walk_at "rd"
  rename_i pt hpt r hr1
  exact q _ _ ((Ch.new hpt _).trans (Ch.new hr1 _)) (freeN hpt hr1) (by rw [zaae,cut1]; rfl)
def Gt.isIn:Gt→Bool
 | .inp=>true
 | _=>false
def Gt.isKeep:Gt→Bool
 | .keep _ _=>true
 | _=>false
end
theorem chFree {H H':Hp} (c:Ch [] H H') {r:Addr} (h:H' r=none):H r=none:=by
 cases e:H r with
 | none=>rfl
 | some o=>rw [c r o e (by simp)] at h; cases h
def fldsNet (gp op:Addr):List (Str × V):=[("gates",.ref gp),("outs",.ref op)]
theorem zad1 (gp op:Addr):List.lookup (Str.ofString "gates") (fldsNet gp op)=some (.ref gp):=rfl
structure NetAt (C:Addr) (H:Hp) (nt gp op:Addr) (gs:List Gt) (xs:List V) (os:List Nat):Prop where
 ob:∃ dx,H nt=some (.ins C dx (fldsNet gp op))
 gt:H gp=some (.tup xs)
 gg:Gs H gs xs
 ot:H op=some (.tup (os.map nV))
section
variable {P:Program}{w:World}{K:PySem.W.Frag}{mg:Str→Option Value}{base:Heap}{f:Addr}{fd:FuncData}{k:Nat}
theorem gl9m0:AG (defScope (inClass (top 9) 0)) ["enumerate", "is_gate", "len", "is_below", "tuple"]:=⟨by decide +kernel⟩
theorem av9m0:AF (defScope (inClass (top 9) 0)) ["self", "gates", "outs", "number", "gate", "out"]:=⟨by decide +kernel⟩
def spNet (C:Addr):Sp:=fun vs H Q _=>∃ (nt dx gl ol:Addr) (gs:List Gt) (xs:List V) (os:List Nat),vs=[.ref nt,.ref gl,.ref ol]∧H nt=some (.ins C dx [])∧H gl=some (.lst xs)∧Gs H gs xs∧Oks gs∧gs.length≤1000 ∧
 H ol=some (.lst (os.map nV))∧(∀ o∈os,o < gs.length)∧os.length≤1000∧∀ gp op H',Ch [nt] H H'→NetAt C H' nt gp op gs xs os→Q .non H'
theorem scNet:FnScope ["self", "gates", "outs", "number", "gate", "out"] ["self", "gates", "outs"] (defScope (inClass (top 9) 0)):=⟨rfl,rfl,rfl,by decide +kernel,rfl,by decide +kernel,by decide +kernel⟩
theorem zasr {C:Addr} (F:Fun K "__init__" "Net.__init__" (inClass (top 9) 0) f fd) (cl:Cls K C) (nG:NoAttr K C "gates") (nO:NoAttr K C "outs") (Dis_gate:DefOk P w K mg base CX0 k "is_gate" ["thing", "ahead", "total"] spGate)
  (Dis_below:DefOk P w K mg base CX0 k "is_below" ["thing", "bound"] spBelow) (z_enumerate:mg "enumerate" = none) (z_len:mg "len" = none) (z_tuple:mg "tuple" = none):FnOk P w K mg base CX0 (k + 1) f fd ["self", "gates", "outs"] (spNet C):=by
 have nd:=scNet.nd
 refine F.ok scNet (fun vs H Q E h=>by obtain ⟨nt,dx,gl,ol,gs,xs,os,rfl,_⟩:=h; rfl) (fun cdv A outer s H vs Q E hr h=>?_)
 obtain ⟨nt,dx,gl,ol,gs,xs,os,rfl,hn,hg,hgs,hok,hlen,ho,hos,hol,q⟩:=h
 refine ⟨_,(Pr.h (zaag (zabk PassesOwn.never rfl (zagf .list (gl9m0.g 0 rfl) z_enumerate (zaaa (qv av9m0 1 rfl) zaab zaad)) (zagc rfl (zabv (zaav (i:=3) nd rfl (av9m0.l 3 rfl)) (zabv (zaav (i:=4) nd rfl (av9m0.l 4 rfl)) zadj))) (zaaf (zaaz (zaco (zabu (zaak Dis_gate hr (gl9m0.g 1 rfl) pass0 (zaaa (qv av9m0 4 rfl) (zaaa (qv av9m0 3 rfl) (zaaa (zaaj zaal (gl9m0.g 2 rfl) z_len PySem.boot_len (zaaa (qv av9m0 1 rfl) zaab zaad) zabd zabe) zaab zabh) zaad) zaad) zaj8))) (zaaf zahk) zaat))) (zaag (zabk PassesOwn.never rfl (zacc (qv av9m0 2 rfl)) (zaav (i:=5) nd rfl (av9m0.l 5 rfl)) (zaaf (zaaz (zaco (zabu (zaak Dis_below hr (gl9m0.g 3 rfl) pass0 (zaaa (qv av9m0 5 rfl) (zaaa (zaaj zaal (gl9m0.g 2 rfl) z_len PySem.boot_len (zaaa (qv av9m0 1 rfl) zaab zaad) zabd zabe) zaab zabh) zaad) zac0))) (zaaf zahk) zaat))) (zaag (zak9 (qv av9m0 0 rfl) (zabc zacs (gl9m0.g 4 rfl) z_tuple zacx (zaaa (qv av9m0 1 rfl) zaab zaad) zacy zacz) rfl) (zaaf (zak9 (qv av9m0 0 rfl) (zabc zacs (gl9m0.g 4 rfl) z_tuple zacx (zaaa (qv av9m0 2 rfl) zaab zaad) zacy zacz) rfl)))))),?_⟩
 (try dsimp only [cxOf])
 have hx:=hgs.len
 walk_at "rd"
 refine zahh (xs:=xs) (fun i σ H'=>Ch [] H H'∧∃ u v r,σ=[some (.ref nt),some (.ref gl),some (.ref ol),u,v,r]) ⟨Ch.refl _ _,_,_,_,rfl⟩ ?_ ?_ ?_
 ·rintro i σ H' hi ⟨c,_⟩
  exact SqL.of (c.get hg (by simp))
 ·rintro i x σ H' T hx' ⟨c,u,v,r,rfl⟩ hT
  have hi:i < gs.length:=by rw [← hx]; exact (List.getElem?_eq_some_iff.mp hx').1
  obtain ⟨g,hgi⟩:∃ g,gs[i]?=some g:=⟨_,List.getElem?_eq_getElem hi⟩
  obtain ⟨p,ep,hp⟩:=hgs.at_ i g hgi
  rw [hx'] at ep
  cases ep
  have hp1:H' p=some (.tup g.vs):=c.get hp (by simp)
  have hg1:H' gl=some (.lst xs):=c.get hg (by simp)
  have hok1:g.ok i xs.length:=by rw [hx]; exact hok i g hgi
  walk_at "rd"
 ·rintro σ H1 ⟨c1,u,v,r,rfl⟩
  have ho1:H1 ol=some (.lst (os.map nV)):=c1.get ho (by simp)
  have hg1:H1 gl=some (.lst xs):=c1.get hg (by simp)
  walk_at "rd"
  refine zadt (xs:=os.map nV) (fun i σ H'=>Ch [] H H'∧∃ u v r,σ=[some (.ref nt),some (.ref gl),some (.ref ol),u,v,r]) ⟨c1,_,_,_,rfl⟩ ?_ ?_ ?_
  ·rintro i σ H' hi ⟨c,_⟩
   exact SqL.of (c.get ho (by simp))
  ·rintro i x σ H' hx' ⟨c,u,v,r,rfl⟩
   obtain ⟨o,ho',rfl⟩:∃ o∈os,x=nV o:=by
    rw [List.getElem?_map] at hx'
    obtain ⟨z,h1,h2⟩:=Option.map_eq_some_iff.mp hx'
    exact ⟨z,List.mem_of_getElem? h1,h2.symm⟩
   have:=hos o ho'
   have hg2:H' gl=some (.lst xs):=c.get hg (by simp)
   unfold nV
   walk_at "rd"
  ·rintro σ H2 ⟨c2,u,v,r,rfl⟩
   have ho2:H2 ol=some (.lst (os.map nV)):=c2.get ho (by simp)
   have hg2:H2 gl=some (.lst xs):=c2.get hg (by simp)
   have hn2:H2 nt=some (.ins C dx []):=c2.get hn (by simp)
   walk_at "rd"
   rename_i l1 hl1 l2 hl2
   (try refine ⟨by show 1 < 1000; decide,?_⟩)
   have n1:l1≠nt:=(zaam hn2 hl1).symm
   have n2:l2≠nt:=by
    intro z
    rw [z,zaae] at hl2
    cases hl2
   have cF:Ch [nt] H (upd (upd (upd (upd H2 l1 (.tup xs)) nt (.ins C dx (putF "gates" (.ref l1) []))) l2 (.tup (os.map nV))) nt (.ins C dx (putF "outs" (.ref l2) (putF "gates" (.ref l1) [])))) :=
    ((((Ch.wk c2).trans (Ch.new hl1 _)).trans Ch.put).trans (Ch.new hl2 _)).trans Ch.put
   refine q l1 l2 _ cF ⟨⟨dx,zaae⟩,?_,hgs.tu (Tu.ch cF hn (fun xs z=>by cases z)),?_⟩
   ·exact zab0 n1 (zabi hl2 (zab0 n1 zaae))
   ·exact zab0 n2 zaae
end
end

section
def spNext (K:PySem.W.Frag):Sp:=fun vs H Q _=>∃ (a b:Addr) (ns:List Int) (c:Int),vs=[.ref a,.ref b]∧Scr K H a ns∧H b=some (.lst [.int c])∧0≤c∧c < 2 ^ 60 ∧
 ∀ (n:Int) (H':Hp),0≤n→n < 2147483629→Ch [b] H H'→H' b=some (.lst [.int (c + 1)])→Q (.int n) H'
theorem zaet {α:Type} (x:α):∀ n:Nat,(List.replicate n [x]).flatten=List.replicate n x
 | 0=>rfl
 | n + 1=>by rw [List.replicate_succ,List.flatten_cons,zaet x n,List.replicate_succ]; rfl
section
variable {P:Program}{w:World}{K:PySem.W.Frag}{mg:Str→Option Value}{base:Heap}{f:Addr}{fd:FuncData}{k:Nat}
theorem av21:AF (defScope (top 21)) ["_law_script", "_law_at", "_law_cell", "_law_figures", "_law_k", "_law_m"]:=⟨by decide +kernel⟩
theorem gl21:AG (defScope (top 21)) ["len", "range"]:=⟨by decide +kernel⟩
theorem scNext:FnScope ["_law_script", "_law_at", "_law_cell", "_law_figures", "_law_k", "_law_m"] ["_law_script", "_law_at"] (defScope (top 21)):=⟨rfl,rfl,rfl,by decide +kernel,rfl,by decide +kernel,by decide +kernel⟩
theorem zaqr (F:Fun K "_law_next" "_law_next" (top 21) f fd) (z_len:mg "len" = none) (z_range:mg "range" = none) :
  FnOk P w K mg base CX0 (k + 1) f fd ["_law_script", "_law_at"] (spNext K):=by
 have nd:=scNext.nd
 refine F.ok scNext (fun vs H Q E h=>?_) (fun cdv A outer s H vs Q E hr h=>?_)
 ·obtain ⟨a,b,ns,c,rfl,_⟩:=h
  rfl
 obtain ⟨a,b,ns,c,rfl,hS,hb,h0,h1,q⟩:=h
 refine ⟨_,(Pr.h (zaag (zagd (zaai zab2 (zaap zaar (qv av21 1 rfl) zaac (fun _ _=>rfl)) zaac) (zak8 (qv av21 1 rfl) zaac zai5)) (zaag (zaaq (i:=2) nd rfl (av21.l 2 rfl) zaac) (zaaw (zaaz (zaan zah8 (zaaj zaal (gl21.g 0 rfl) z_len PySem.boot_len (zaaa (qv av21 0 rfl) zaab zaad) zabd zabe) zaac (nomark _)) (zaaf (zaaq (i:=2) nd rfl (av21.l 2 rfl) (zaap zaar (qv av21 0 rfl) (zaai zaax (zaap zaar (qv av21 1 rfl) zaac (fun _ _=>rfl)) (zaaj zaal (gl21.g 0 rfl) z_len PySem.boot_len (zaaa (qv av21 0 rfl) zaab zaad) zabd zabe)) (fun _ _=>rfl)))) zaat) (zaaw (zaaz (zacp (zae5 (zaan zah8 (zaaj zaal (gl21.g 0 rfl) z_len PySem.boot_len (zaaa (qv av21 0 rfl) zaab zaad) zabd zabe) zaac (nomark _)) (zadu (zaan zabt (zaai zaax (zaap zaar (qv av21 0 rfl) zaac (fun _ _=>rfl)) zaac) zaac (nomark _))))) (zaag (zaaq (i:=3) nd rfl (av21.l 3 rfl) (qv av21 2 rfl)) (zaag (zabk PassesOwn.never rfl (zabs (gl21.g 1 rfl) z_range (zaaa (zaai zaax (zaai zaa7 (zaap zaar (qv av21 1 rfl) zaac (fun _ _=>rfl)) (zaaj zaal (gl21.g 0 rfl) z_len PySem.boot_len (zaaa (qv av21 0 rfl) zaab zaad) zabd zabe)) zaac) zaab zaay)) (zaav (i:=4) nd rfl (av21.l 4 rfl)) (zaaf (zaaq (i:=3) nd rfl (av21.l 3 rfl) (zaai zaa7 (qv av21 3 rfl) zaac)))) (zaaf (zaaz (zacp (zadv (zaan zac6 (qv av21 3 rfl) (zabf (zaaa zaac (zaaa (zash zary zaac) zaab zaj0) zaah)) rfl) (zac7 (zaan zarz (zaap zaar (qv av21 1 rfl) zaac (fun _ _=>rfl)) (zaaj zaal (gl21.g 0 rfl) z_len PySem.boot_len (zaaa (qv av21 0 rfl) zaab zaad) zabd zabe) (nomark _))))) (zaaf (zaas (zaai zaax (qv av21 3 rfl) zaac))) zaat)))) zaat) (zaag (zaaq (i:=5) nd rfl (av21.l 5 rfl) (zaai zaax (zaai zafv (zaai zab2 (zaai zab2 (zaai zaax (qv av21 2 rfl) zaac) (zaai zafv (zaai zafv (zaap zaar (qv av21 1 rfl) zaac (fun _ _=>rfl)) (zaap zaar (qv av21 1 rfl) zaac (fun _ _=>rfl))) zaac)) zaac) zaac) zaac)) (zaag (zaaq (i:=5) nd rfl (av21.l 5 rfl) (zaai zaax (zaai zafv (qv av21 5 rfl) (qv av21 5 rfl)) zaac)) (zaaf (zaas (zaai zaax (zaai zafv (zaai zab2 (qv av21 5 rfl) (zaai zafv (zaap zaar (qv av21 1 rfl) zaac (fun _ _=>rfl)) zaac)) zaac) zaac)))))))))),?_⟩
 have h63:ns.length≤63:=hS.1
 (try dsimp only [cxOf])
 walk_at "rd"
 refine zabg (fun σ H'=>∃ n:Int,σ=[some (.ref a),some (.ref b),some (.int n),none,none,none]∧Ch [b] H H'∧H' b=some (.lst [.int (c + 1)])) ?_ ?_
 ·walk_at "rd"
  refine ite2 (fun hc=>?_) (fun hc=>?_)
  ·have hc':0 < (ns.length:Int):=by simpa using hc
   have e1:0≤(c + 1) % (ns.length:Int):=Int.emod_nonneg _ (by omega)
   have e2:(c + 1) % (ns.length:Int) < (ns.length:Int):=Int.emod_lt_of_pos _ hc'
   obtain ⟨n,hn⟩:=zaja e1 e2
   walk_at "rd"
  ·walk_at "rd"
 ·rintro σ H1 ⟨n,rfl,c1,b1⟩
  have hS1:Scr K H1 a ns:=hS.ch hb c1
  refine zabg (fun σ H'=>∃ u v w,σ=[some (.ref a),some (.ref b),some (.int n),u,v,w]∧Ch [b] H H'∧H' b=some (.lst [.int (c + 1)])) ?_ ?_
  ·walk_at "rd"
   refine ite2 (fun hc=>?_) (fun hc=>iteF ?_)
   ·have hc':0 < (ns.length:Int):=by simpa using hc
    obtain ⟨n0,hn0⟩:=zaja (ns:=ns) (i:=0) (by omega) hc'
    walk_at "rd"
    refine ite2 (fun hd=>?_) (fun hd=>?_)
    ·walk_at "rd"
     refine zabr (fun i σ H'=>H'=H1∧∃ g kk,σ=[some (.ref a),some (.ref b),some (.int n),some (.int g),kk,none]) ⟨rfl,_,_,rfl⟩ ?_ ?_
     ·rintro i σ H' hi ⟨rfl,g,kk,rfl⟩
      walk_at "rd"
     ·rintro σ H' ⟨rfl,g,kk,rfl⟩
      walk_at "rd"
      refine ite2 (fun hd=>iteT ?_) (fun hd=>?_)
      ·walk_at "rd"
       exact q _ _ (Int.emod_nonneg _ (by decide)) (Int.lt_of_lt_of_le (Int.emod_lt_of_pos _ (by decide)) (by decide)) (c1.trans (Ch.new (by assumption) _)) (by walk_at "get")
      ·walk_at "rd"
       refine ite2 (fun he=>?_) (fun he=>?_)
       ·walk_at "rd"
        exact q _ _ (Int.emod_nonneg _ (by decide)) (Int.lt_of_lt_of_le (Int.emod_lt_of_pos _ (by decide)) (by decide)) (c1.trans (Ch.new (by assumption) _)) (by walk_at "get")
       ·walk_at "rd"
    ·walk_at "rd"
   ·walk_at "rd"
  ·rintro σ H2 ⟨u,v,w,rfl,c2,b2⟩
   walk_at "rd"
   exact q _ _ (Int.emod_nonneg _ (by decide)) (Int.emod_lt_of_pos _ (by decide)) c2 b2
end
theorem Gs.push {H:Hp}{gs:List Gt}{xs:List V}{gl p:Addr}{g:Gt}{ys:List V} (h:Gs H gs xs) (hg:H gl=some (.lst ys)) (hp:H p=some (.tup g.vs)):Gs (upd H gl (.lst (xs++[.ref p]))) (gs++[g]) (xs++[.ref p]):=by
 have t:Tu H (upd H gl (.lst (xs++[.ref p]))):=Tu.lst Ch.put hg
 refine ⟨by simp [h.len],fun i g' e=>?_⟩
 by_cases hi:i < gs.length
 ·rw [List.getElem?_append_left hi] at e
  obtain ⟨p',h1,h2⟩:=h.at_ i g' e
  exact ⟨p',by rw [List.getElem?_append_left (by rw [h.len]; exact hi)]; exact h1,t _ _ h2⟩
 ·rw [List.getElem?_append_right (by omega)] at e
  have hi0:i - gs.length=0:=by
   rcases Nat.eq_zero_or_pos (i - gs.length) with z | z
   ·exact z
   ·rw [List.getElem?_eq_none (by simp; omega)] at e; cases e
  rw [hi0] at e
  cases e
  refine ⟨p,?_,t _ _ hp⟩
  rw [List.getElem?_append_right (by rw [h.len]; omega),h.len,hi0]; rfl
theorem Gs.set {H:Hp}{gs:List Gt}{xs:List V}{gl p:Addr}{g:Gt}{ys:List V}{j:Nat} (h:Gs H gs xs) (hg:H gl=some (.lst ys)) (hp:H p=some (.tup g.vs)):Gs (upd H gl (.lst (xs.set j (.ref p)))) (gs.set j g) (xs.set j (.ref p)):=by
 have t:Tu H (upd H gl (.lst (xs.set j (.ref p)))):=Tu.lst Ch.put hg
 refine ⟨by simp [h.len],fun i g' e=>?_⟩
 rw [List.getElem?_set] at e ⊢
 split at e
 ·split at e
  ·cases e
   rename_i h1 h2
   refine ⟨p,?_,t _ _ hp⟩
   rw [if_pos h1,if_pos (by rw [h.len]; exact h2)]
  ·cases e
 ·rename_i h1
  obtain ⟨p',h2,h3⟩:=h.at_ i g' e
  exact ⟨p',by rw [if_neg h1]; exact h2,t _ _ h3⟩
theorem Gt.ok_mono {g:Gt}{i n m:Nat} (h:g.ok i n) (hm:n≤m):g.ok i m:=by
 cases g <;> simp only [Gt.ok] at * <;> first | trivial | omega
theorem Oks.push {gs:List Gt}{g:Gt} (h:Oks gs) (hg:g.ok gs.length (gs.length + 1)):Oks (gs++[g]):=by
 intro i g' e
 rw [List.length_append,List.length_singleton]
 by_cases hi:i < gs.length
 ·rw [List.getElem?_append_left hi] at e
  exact Gt.ok_mono (h i g' e) (by omega)
 ·rw [List.getElem?_append_right (by omega)] at e
  have hi0:i - gs.length=0:=by
   rcases Nat.eq_zero_or_pos (i - gs.length) with z | z
   ·exact z
   ·rw [List.getElem?_eq_none (by simp; omega)] at e; cases e
  rw [hi0] at e
  cases e
  rw [show i=gs.length by omega]; exact hg
theorem Oks.set {gs:List Gt}{g:Gt}{j:Nat} (h:Oks gs) (hg:g.ok j gs.length):Oks (gs.set j g):=by
 intro i g' e
 rw [List.length_set]
 rw [List.getElem?_set] at e
 split at e
 ·split at e
  ·cases e
   rename_i h1 _
   rw [← h1]; exact hg
  ·cases e
 ·exact h i g' e
theorem zaf7 {t:Gt→Bool}{g g':Gt}:∀ {gs:List Gt}{j:Nat},gs[j]?=some g→t g=t g'→(gs.set j g').countP t=gs.countP t
 | [],_,h,_=>by simp at h
 | a :: gs,0,h,e=>by
  simp at h
  subst h
  simp [List.countP_cons,e]
 | a :: gs,j + 1,h,e=>by
  have:=zaf7 (gs:=gs) (j:=j) (by simpa using h) e
  simp [List.countP_cons,this]
def WS:List Str:=["and", "or", "xor", "pick", "not", "and", "xor", "or", "zero", "one"]
def arW (x:Str):Nat:=if x = "zero" then 0 else if x = "one" then 0 else if x = "not" then 1 else if x = "pick" then 3 else 2
theorem mkG {x:Str} (hx:x∈WS) {fs:List Nat} (hl:fs.length=arW x) {i:Nat} (hf:∀ a∈fs,a < i):∃ g:Gt,g.vs=.str x :: fs.map nV∧g.ok i (i + 1)∧g.isIn=false∧g.isKeep=false:=by
 have two:∀ {fs:List Nat},fs.length=2→∃ a b,fs=[a,b]:=fun {fs} h=>by
  match fs,h with
  | [a,b],_=>exact ⟨a,b,rfl⟩
 have d2:∀ {y:Str},arW y=2→fs.length=arW y→∃ a b,fs=[a,b]:=fun h1 h2=>two (h2.trans h1)
 simp only [WS,List.mem_cons,List.not_mem_nil,or_false] at hx
 rcases hx with rfl | rfl | rfl | rfl | rfl | rfl | rfl | rfl | rfl | rfl
 ·obtain ⟨a,b,rfl⟩:=d2 (by decide +kernel) hl
  exact ⟨.and a b,rfl,⟨hf a (by simp),hf b (by simp)⟩,rfl,rfl⟩
 ·obtain ⟨a,b,rfl⟩:=d2 (by decide +kernel) hl
  exact ⟨.or a b,rfl,⟨hf a (by simp),hf b (by simp)⟩,rfl,rfl⟩
 ·obtain ⟨a,b,rfl⟩:=d2 (by decide +kernel) hl
  exact ⟨.xor a b,rfl,⟨hf a (by simp),hf b (by simp)⟩,rfl,rfl⟩
 ·have hl:fs.length=3:=hl.trans (by decide +kernel)
  match fs,hl with
  | [a,b,c],_=>exact ⟨.pick a b c,rfl,⟨hf a (by simp),hf b (by simp),hf c (by simp)⟩,rfl,rfl⟩
 ·have hl:fs.length=1:=hl.trans (by decide +kernel)
  match fs,hl with
  | [a],_=>exact ⟨.not a,rfl,hf a (by simp),rfl,rfl⟩
 ·obtain ⟨a,b,rfl⟩:=d2 (by decide +kernel) hl
  exact ⟨.and a b,rfl,⟨hf a (by simp),hf b (by simp)⟩,rfl,rfl⟩
 ·obtain ⟨a,b,rfl⟩:=d2 (by decide +kernel) hl
  exact ⟨.xor a b,rfl,⟨hf a (by simp),hf b (by simp)⟩,rfl,rfl⟩
 ·obtain ⟨a,b,rfl⟩:=d2 (by decide +kernel) hl
  exact ⟨.or a b,rfl,⟨hf a (by simp),hf b (by simp)⟩,rfl,rfl⟩
 ·have hl:fs.length=0:=hl.trans (by decide +kernel)
  match fs,hl with
  | [],_=>exact ⟨.zero,rfl,trivial,rfl,rfl⟩
 ·have hl:fs.length=0:=hl.trans (by decide +kernel)
  match fs,hl with
  | [],_=>exact ⟨.one,rfl,trivial,rfl,rfl⟩
end

section
section
variable {P:Program}{w:World}{K:PySem.W.Frag}{mg:Str→Option Value}{base:Heap}{f:Addr}{fd:FuncData}{k:Nat}
theorem zaau:Nd "_law_next" := by decide +kernel
theorem zal7:bootBuiltins "max" = some (.builtin "max"):=by decide +kernel
theorem zal8:("max" : Str) ≠ "__name__" := by decide +kernel
theorem zal9:Nd "max" := by decide +kernel
theorem zama:bootBuiltins "min" = some (.builtin "min"):=by decide +kernel
theorem zamb:("min" : Str) ≠ "__name__" := by decide +kernel
theorem zamc:Nd "min" := by decide +kernel
structure NS (H0 H':Hp) (b gl:Addr) (c B:Int) (gs:List Gt) (xs:List V) (ins:Nat):Prop where
 ch:Ch [b] H0 H'
 at_:∃ c',H' b=some (.lst [.int c'])∧c≤c'∧c'≤c + B
 gl:H' gl=some (.lst xs)
 gg:Gs H' gs xs
 ok:Oks gs
 ci:gs.countP Gt.isIn=ins
 lo:∀ i,i < ins→gs[i]?=some .inp
theorem NS.bump {H0 H' H1:Hp}{b gl:Addr}{c c' B:Int}{gs:List Gt}{xs:List V}{ins:Nat} (n:NS H0 H' b gl c B gs xs ins) (nb:gl≠b) (hb:H' b=some (.lst [.int c'])) (c1:Ch [b] H' H1) (hb1:H1 b=some (.lst [.int (c' + 1)])):NS H0 H1 b gl c (B + 1) gs xs ins:=by
 obtain ⟨c'',h1,h2,h3⟩:=n.at_
 rw [hb] at h1
 injection h1 with h1; injection h1 with h1; injection h1 with h1 _; injection h1 with h1
 subst h1
 exact ⟨n.ch.trans c1,⟨c' + 1,hb1,by omega,by omega⟩,c1.get n.gl (by simpa using nb),n.gg.tu (Tu.lst c1 hb),n.ok,n.ci,n.lo⟩
theorem NS.wk {H0 H':Hp}{b gl:Addr}{c B B':Int}{gs:List Gt}{xs:List V}{ins:Nat} (n:NS H0 H' b gl c B gs xs ins) (h:B≤B'):NS H0 H' b gl c B' gs xs ins:=by
 obtain ⟨c'',h1,h2,h3⟩:=n.at_
 exact ⟨n.ch,⟨c'',h1,h2,by omega⟩,n.gl,n.gg,n.ok,n.ci,n.lo⟩
theorem NS.same {H0 H' H1:Hp}{b gl:Addr}{c B:Int}{gs:List Gt}{xs:List V}{ins:Nat} (n:NS H0 H' b gl c B gs xs ins) (c1:Ch [] H' H1):NS H0 H1 b gl c B gs xs ins:=by
 obtain ⟨c'',h1,h2,h3⟩:=n.at_
 exact ⟨n.ch.trans (Ch.wk c1),⟨c'',c1.get h1 (by simp),h2,h3⟩,c1.get n.gl (by simp),n.gg.tu (Tu.same c1),n.ok,n.ci,n.lo⟩
theorem NS.push {H0 H':Hp}{b gl p:Addr}{c B:Int}{gs:List Gt}{xs:List V}{ins:Nat}{g:Gt} (n:NS H0 H' b gl c B gs xs ins) (nb:gl≠b) (fg:H0 gl=none) (hp:H' p=some (.tup g.vs)) (hg:g.ok gs.length (gs.length + 1)) (hi:g.isIn=false):NS H0 (upd H' gl (.lst (xs++[.ref p]))) b gl c B (gs++[g]) (xs++[.ref p]) ins:=by
 obtain ⟨c'',h1,h2,h3⟩:=n.at_
 refine ⟨Ch.own fg n.ch,⟨c'',zab0 nb.symm h1,h2,h3⟩,zaae,n.gg.push n.gl hp,n.ok.push hg,?_,fun i h=>?_⟩
 ·rw [List.countP_append,n.ci]; simp [hi]
 ·have:=n.lo i h
  rw [List.getElem?_append_left (List.getElem?_eq_some_iff.mp this).1]; exact this
theorem NS.set {H0 H':Hp}{b gl p:Addr}{c B:Int}{gs:List Gt}{xs:List V}{ins j:Nat}{g g0:Gt} (n:NS H0 H' b gl c B gs xs ins) (nb:gl≠b) (fg:H0 gl=none) (hp:H' p=some (.tup g.vs)) (hj:gs[j]?=some g0) (hg:g.ok j gs.length) (hi:g0.isIn=g.isIn) (hl:ins≤j):NS H0 (upd H' gl (.lst (xs.set j (.ref p)))) b gl c B (gs.set j g) (xs.set j (.ref p)) ins:=by
 obtain ⟨c'',h1,h2,h3⟩:=n.at_
 refine ⟨Ch.own fg n.ch,⟨c'',zab0 nb.symm h1,h2,h3⟩,zaae,n.gg.set n.gl hp,n.ok.set hg,?_,fun i h=>?_⟩
 ·rw [zaf7 hj hi,n.ci]
 ·rw [List.getElem?_set_ne (by omega)]; exact n.lo i h
theorem NS.own {H0 H':Hp}{b gl p:Addr}{c B:Int}{gs:List Gt}{xs ys zs:List V}{ins:Nat} (n:NS H0 H' b gl c B gs xs ins) (f:H0 p=none) (pb:p≠b) (pg:p≠gl) (hp:H' p=some (.lst ys)):NS H0 (upd H' p (.lst zs)) b gl c B gs xs ins:=by
 obtain ⟨c'',h1,h2,h3⟩:=n.at_
 exact ⟨Ch.own f n.ch,⟨c'',zab0 pb.symm h1,h2,h3⟩,zab0 pg.symm n.gl,n.gg.tu (Tu.lst Ch.put hp),n.ok,n.ci,n.lo⟩
theorem NS.fresh {H0 H':Hp}{b gl p:Addr}{c B c0:Int}{gs:List Gt}{xs:List V}{ins:Nat} (n:NS H0 H' b gl c B gs xs ins) (hb:H0 b=some (.lst [.int c0])) (h:H' p=none):H0 p=none∧p≠b∧p≠gl:=by
 have f:H0 p=none:=by
  cases e:H0 p with
  | none=>rfl
  | some o =>
   by_cases z:p=b
   ·obtain ⟨c9,h9,_⟩:=n.at_
    rw [z,h9] at h; cases h
   ·have:=n.ch.get e (by simpa using z)
    rw [this] at h; cases h
 exact ⟨f,(zaam hb f).symm,(zaam n.gl h).symm⟩
structure KP (gs:List Gt) (lo hi:Nat):Prop where
 of:∀ j,lo≤j→j < hi→∃ ff a,gs[j]?=some (.keep ff a)
theorem KP.push {gs:List Gt}{lo hi:Nat} (h:KP gs lo hi) (g:Gt):KP (gs++[g]) lo hi:=.mk fun j a b=>by
 obtain ⟨ff,x,e⟩:=h.of j a b
 exact ⟨ff,x,by rw [List.getElem?_append_left (List.getElem?_eq_some_iff.mp e).1]; exact e⟩
theorem KP.more {gs:List Gt}{lo:Nat}{ff:Int}{x:Nat} (h:KP gs lo gs.length):KP (gs++[.keep ff x]) lo (gs.length + 1):=.mk fun j a b=>by
 by_cases e:j < gs.length
 ·exact (h.push _).of j a e
 ·refine ⟨ff,x,?_⟩
  rw [List.getElem?_append_right (by omega),show j - gs.length=0 by omega]; rfl
theorem KP.set {gs:List Gt}{lo hi i:Nat}{ff:Int}{x:Nat} (h:KP gs lo hi):KP (gs.set i (.keep ff x)) lo hi:=.mk fun j a b=>by
 obtain ⟨ff',x',e⟩:=h.of j a b
 rw [List.getElem?_set]
 split
 ·rw [if_pos (by rename_i z; rw [z]; exact (List.getElem?_eq_some_iff.mp e).1)]; exact ⟨_,_,rfl⟩
 ·exact ⟨_,_,e⟩
theorem zatv {m:Int} (h0:0≤m) (h1:m < 10):∃ x∈WS,atI (WS.map V.str) m=some (.str x):=by
 have hk:m.toNat < WS.length:=by show m.toNat < 10; omega
 have e:m=((m.toNat:Nat):Int):=by omega
 refine ⟨WS[m.toNat],List.getElem_mem hk,?_⟩
 have:=zab8 (xs:=WS.map V.str) (j:=m.toNat) (v:=.str WS[m.toNat]) (by rw [List.getElem?_map,List.getElem?_eq_getElem hk]; simp)
 rw [← e] at this
 exact this
structure Below (fs:List Nat) (n:Nat):Prop where
 of:∀ a∈fs,a < n
theorem Below.nil {n:Nat}:Below [] n:=⟨fun a h=>by cases h⟩
theorem Below.snoc {fs:List Nat}{n a:Nat} (h:Below fs n) (ha:a < n):Below (fs++[a]) n:=⟨fun b hb=>by
 rcases List.mem_append.mp hb with h1 | h1
 ·exact h.of b h1
 ·rw [List.mem_singleton.mp h1]; exact ha⟩
def DD:List (Key × V):=[(Sum.inr "zero",.int 0),(Sum.inr "one",.int 0),(Sum.inr "not",.int 1),(Sum.inr "pick",.int 3)]
theorem zass {x:Str} (hx:x∈WS):(valV (mergeK [] DD) (Sum.inr x)).getD (.int 2)=.int (arW x:Int):=by
 simp only [WS,List.mem_cons,List.not_mem_nil,or_false] at hx
 rcases hx with rfl | rfl | rfl | rfl | rfl | rfl | rfl | rfl | rfl | rfl <;> decide +kernel
theorem zast {x:Str} (hx:x∈WS):arW x≤3:=by
 simp only [WS,List.mem_cons,List.not_mem_nil,or_false] at hx
 rcases hx with rfl | rfl | rfl | rfl | rfl | rfl | rfl | rfl | rfl | rfl <;> decide +kernel
theorem zatw {m:Int} (h0:0≤m) (h1:m < 2):∃ x∈WS,arW x=0∧atI [V.str "zero",V.str "one"] m=some (.str x):=by
 have:m=0∨m=1:=by omega
 rcases this with rfl | rfl
 ·exact ⟨"zero",by decide +kernel,by decide +kernel,rfl⟩
 ·exact ⟨"one",by decide +kernel,by decide +kernel,rfl⟩
theorem av23:AF (defScope (top 23)) ["_law_script", "_law_at", "_law_ins", "_law_keeps", "_law_many", "_law_gates", "_law_k", "_law_m", "_law_word", "_law_feeds", "_law_j", "_law_outs"]:=⟨by decide +kernel⟩
theorem gl23:AG (defScope (top 23)) ["range", "_law_next", "len", "max", "tuple", "min"]:=⟨by decide +kernel⟩
def spLNet (K:PySem.W.Frag):Sp:=fun vs H Q _=>∃ (a b:Addr) (ns:List Int) (c ins' keeps' many':Int) (ins keeps many:Nat),vs=[.ref a,.ref b,.int ins',.int keeps',.int many']∧ins'=(ins:Int)∧keeps'=(keeps:Int)∧many'=(many:Int)∧ins≤12∧keeps≤12∧many≤24 ∧
 Scr K H a ns∧H b=some (.lst [.int c])∧0≤c∧c < 2 ^ 59 ∧
 ∀ (R gl ol:Addr) (gs:List Gt) (xs:List V) (os:List Nat) (H':Hp),NS H H' b gl c 1000 gs xs ins→H' R=some (.tup [.ref gl,.ref ol])→(gs.length≤48∧many≤gs.length)→H' ol=some (.lst (os.map nV))→(∀ o∈os,o < gs.length)→os.length≤4→H gl=none→H ol=none→Q (.ref R) H'
theorem scLNet:FnScope ["_law_script", "_law_at", "_law_ins", "_law_keeps", "_law_many", "_law_gates", "_law_k", "_law_m", "_law_word", "_law_feeds", "_law_j", "_law_outs"] ["_law_script", "_law_at", "_law_ins", "_law_keeps", "_law_many"] (defScope (top 23)):=⟨rfl,rfl,rfl,by decide +kernel,rfl,by decide +kernel,by decide +kernel⟩
theorem zaqs (F:Fun K "_law_net" "_law_net" (top 23) f fd) (D_law_next:DefOk P w K mg base CX0 k "_law_next" ["_law_script", "_law_at"] (spNext K)) (z_len:mg "len" = none) (z_range:mg "range" = none) (z_max:mg "max" = none) (z_min:mg "min" = none) (z_tuple:mg "tuple" = none) :
  FnOk P w K mg base CX0 (k + 1) f fd ["_law_script", "_law_at", "_law_ins", "_law_keeps", "_law_many"] (spLNet K):=by
 have nd:=scLNet.nd
 refine F.ok scLNet (fun vs H Q E h=>by obtain ⟨a,b,ns,c,ins',keeps',many',ins,keeps,many,rfl,_⟩:=h; rfl) (fun cdv A outer s H vs Q E hr h=>?_)
 obtain ⟨a,b,ns,c,ins',keeps',many',ins,keeps,many,rfl,rfl,rfl,rfl,hi,hk,hm,hS,hb,h0,h1,q⟩:=h
 have hu:=zaei hr
 refine ⟨_,(Pr.h (zaag (zaaq (i:=5) nd rfl (av23.l 5 rfl) (zaai zaoz (zabb (zaaa (zabf (zaaa zaao zaab zaah)) zaab zabx)) (qv av23 2 rfl))) (zaag (zabk PassesOwn.never rfl (zabs (gl23.g 0 rfl) z_range (zaaa (qv av23 3 rfl) zaab zaad)) (zaav (i:=6) nd rfl (av23.l 6 rfl)) (zaaf (zaba (zabn PySem.F.plainAttrs_list PySem.F.slot_list_append PySem.F.type_list_append zaa4 (qv av23 5 rfl) (zaaa (zabf (zaaa zaao (zaaa (zaai zaax (zaak D_law_next hr (gl23.g 1 rfl) pass0 (zaaa (qv av23 0 rfl) (zaaa (qv av23 1 rfl) zaab zaad) zaad) zaau) zaac) (zaaa zaac zaab zaah) zaay) zaah)) zaab zabx))))) (zaag (zabk PassesOwn.never rfl (zabs (gl23.g 0 rfl) z_range (zaaa (qv av23 4 rfl) zaab zaad)) (zaav (i:=6) nd rfl (av23.l 6 rfl)) (zaag (zaaq (i:=7) nd rfl (av23.l 7 rfl) (zaak D_law_next hr (gl23.g 1 rfl) pass0 (zaaa (qv av23 0 rfl) (zaaa (qv av23 1 rfl) zaab zaad) zaad) zaau)) (zaag (zaaq (i:=8) nd rfl (av23.l 8 rfl) (zaap zaar (zabb (zaaa zaao (zaaa zaao (zaaa zaao (zaaa zaao (zaaa zaao (zaaa zaao (zaaa zaao (zaaa zaao (zaaa zaao (zaaa zaao zaab zaah) zaah) zaah) zaah) zaah) zaah) zaah) zaah) zaah) zaah)) (zaai zaax (qv av23 7 rfl) zaac) (fun _ _=>rfl))) (zaaw (zaaz (zacp (zae5 (zaan zabt (zaaj zaal (gl23.g 2 rfl) z_len PySem.boot_len (zaaa (qv av23 5 rfl) zaab zaad) zabd zabe) zaac (nomark _)) (zadu (zaan zac6 (qv av23 8 rfl) (zabf (zaaa zaao (zaaa zaao zaab zaah) zaah)) rfl)))) (zaaf (zaaq (i:=8) nd rfl (av23.l 8 rfl) (zaap zaar (zabb (zaaa zaao (zaaa zaao zaab zaah) zaah)) (zaai zaax (zaai zaa7 (qv av23 7 rfl) zaac) zaac) (fun _ _=>rfl)))) zaat) (zaag (zaaq (i:=9) nd rfl (av23.l 9 rfl) (zabb zaab)) (zaag (zabk PassesOwn.never rfl (zabs (gl23.g 0 rfl) z_range (zaaa (zalh hu (zady (zacf zaao zaac (zacf zaao zaac (zacf zaao zaac (zacf zaao zaac zadx)))) rfl rfl (by intro z; cases z) (by decide)) (qv av23 8 rfl) zaac ⟨rfl,rfl,rfl,rfl⟩) zaab zabh)) (zaav (i:=10) nd rfl (av23.l 10 rfl)) (zaag (zaaq (i:=7) nd rfl (av23.l 7 rfl) (zaak D_law_next hr (gl23.g 1 rfl) pass0 (zaaa (qv av23 0 rfl) (zaaa (qv av23 1 rfl) zaab zaad) zaad) zaau)) (zaaf (zaba (zabn PySem.F.plainAttrs_list PySem.F.slot_list_append PySem.F.type_list_append zaa4 (qv av23 9 rfl) (zaaa (zack (zaan zabt (zaai zaax (qv av23 7 rfl) zaac) zaac (nomark _)) (zaai zaax (zaai zaa7 (qv av23 7 rfl) zaac) (zaaj zaal (gl23.g 2 rfl) z_len PySem.boot_len (zaaa (qv av23 5 rfl) zaab zaad) zabd zabe)) (zaaj (zakl rfl) (gl23.g 3 rfl) z_max zal7 (zaaa zaac (zaaa (zaai zac3 (zaai zac3 (zaaj zaal (gl23.g 2 rfl) z_len PySem.boot_len (zaaa (qv av23 5 rfl) zaab zaad) zabd zabe) zaac) (zaai zaax (zaai zaa7 (qv av23 7 rfl) zaac) zaac)) zaab zaay) zaah) zal8 zal9)) zaab zaen)))))) (zaaf (zaba (zabn PySem.F.plainAttrs_list PySem.F.slot_list_append PySem.F.type_list_append zaa4 (qv av23 5 rfl) (zaaa (zabc zacs (gl23.g 4 rfl) z_tuple zacx (zaaa (zaai zae3 (zabb (zaaa (qv av23 8 rfl) zaab zaad)) (qv av23 9 rfl)) zaab zaay) zacy zacz) zaab zabh)))))))))) (zaag (zabk PassesOwn.never rfl (zaj1 (gl23.g 0 rfl) z_range (zaaa (qv av23 2 rfl) (zaaa (zaai zab2 (qv av23 2 rfl) (qv av23 3 rfl)) zaab zaay) zaad)) (zaav (i:=6) nd rfl (av23.l 6 rfl)) (zaaf (zagd (zabf (zaaa zaao (zaaa (zaap zaa8 (zaap zaar (qv av23 5 rfl) (qv av23 6 rfl) (fun _ _=>rfl)) zaac (fun _ _=>rfl)) (zaaa (zaai zaax (zaak D_law_next hr (gl23.g 1 rfl) pass0 (zaaa (qv av23 0 rfl) (zaaa (qv av23 1 rfl) zaab zaad) zaad) zaau) (zaaj zaal (gl23.g 2 rfl) z_len PySem.boot_len (zaaa (qv av23 5 rfl) zaab zaad) zabd zabe)) zaab zaay) zaa3) zaah)) (zak8 (qv av23 5 rfl) (qv av23 6 rfl) zai5)))) (zaag (zaaq (i:=11) nd rfl (av23.l 11 rfl) (zabb zaab)) (zaag (zabk PassesOwn.never rfl (zabs (gl23.g 0 rfl) z_range (zaaa (zaai zab2 zaac (zaai zaax (zaak D_law_next hr (gl23.g 1 rfl) pass0 (zaaa (qv av23 0 rfl) (zaaa (qv av23 1 rfl) zaab zaad) zaad) zaau) zaac)) zaab zaay)) (zaav (i:=6) nd rfl (av23.l 6 rfl)) (zaaf (zaaz (zaan zah8 (zaaj zaal (gl23.g 2 rfl) z_len PySem.boot_len (zaaa (qv av23 5 rfl) zaab zaad) zabd zabe) zaac (nomark _)) (zaag (zaaq (i:=7) nd rfl (av23.l 7 rfl) (zaak D_law_next hr (gl23.g 1 rfl) pass0 (zaaa (qv av23 0 rfl) (zaaa (qv av23 1 rfl) zaab zaad) zaad) zaau)) (zaaf (zaba (zabn PySem.F.plainAttrs_list PySem.F.slot_list_append PySem.F.type_list_append zaa4 (qv av23 11 rfl) (zaaa (zack (zaan zabt (zaai zaax (qv av23 7 rfl) zaac) zaac (nomark _)) (zaai zaax (zaai zaa7 (qv av23 7 rfl) zaac) (zaaj zaal (gl23.g 2 rfl) z_len PySem.boot_len (zaaa (qv av23 5 rfl) zaab zaad) zabd zabe)) (zaai zac3 (zaai zac3 (zaaj zaal (gl23.g 2 rfl) z_len PySem.boot_len (zaaa (qv av23 5 rfl) zaab zaad) zabd zabe) zaac) (zaai zaax (zaai zaa7 (qv av23 7 rfl) zaac) (zaaj (zakm rfl) (gl23.g 5 rfl) z_min zama (zaaa zaac (zaaa (zaaj zaal (gl23.g 2 rfl) z_len PySem.boot_len (zaaa (qv av23 5 rfl) zaab zaad) zabd zabe) zaab zabh) zaah) zamb zamc)))) zaab zaen))))) zaat))) (zaaf (zaas (zabf (zaaa (qv av23 5 rfl) (zaaa (qv av23 11 rfl) zaab zaad) zaad))))))))))),?_⟩
 (try dsimp only [cxOf])
 walk_at "rd"
 rename_i p1 hp1 p2 hp2 gl hgl
 have fg:H gl=none:=freeN hp1 (freeN hp2 hgl)
 have nb:gl≠b:=(zaam hb fg).symm
 have st0:NS H (upd (upd (upd H p1 (HO.tup [V.str (Str.ofString "in")])) p2 (HO.lst [V.ref p1])) gl (HO.lst (List.replicate ((ins:Int)).toNat [V.ref p1]).flatten)) b gl c 0 (List.replicate ins .inp) (List.replicate ins (.ref p1)) ins:=by
  have cc:Ch [] H (upd (upd (upd H p1 (HO.tup [V.str (Str.ofString "in")])) p2 (HO.lst [V.ref p1])) gl (HO.lst (List.replicate ((ins:Int)).toNat [V.ref p1]).flatten)):=((Ch.new hp1 _).trans (Ch.new hp2 _)).trans (Ch.new hgl _)
  refine ⟨Ch.wk cc,⟨c,cc.get hb (by simp),by omega,by omega⟩,by rw [zaae,zaet]; simp,⟨by simp,fun i g e=>?_⟩,fun i g e=>?_,by rw [List.countP_replicate]; rfl,fun i h=>by rw [List.getElem?_replicate,if_pos h]⟩
  ·rw [List.getElem?_replicate] at e
   split at e
   ·cases e
    rename_i hi2
    exact ⟨p1,by rw [List.getElem?_replicate,if_pos hi2],zabi hgl (zabi hp2 zaae)⟩
   ·cases e
  ·rw [List.getElem?_replicate] at e
   split at e
   ·cases e
    exact True.intro
   ·cases e
 generalize (upd (upd (upd H p1 (HO.tup [V.str (Str.ofString "in")])) p2 (HO.lst [V.ref p1])) gl (HO.lst (List.replicate ((ins:Int)).toNat [V.ref p1]).flatten))=H0 at st0 ⊢
 clear hgl hp2 hp1
 refine zabr (fun i σ H'=>∃ gs xs u,σ=[some (.ref a),some (.ref b),some (.int (ins:Int)),some (.int (keeps:Int)),some (.int (many:Int)),some (.ref gl),u,none,none,none,none,none]∧NS H H' b gl c (i:Int) gs xs ins∧gs.length=ins + i∧KP gs ins gs.length) ⟨_,_,_,rfl,st0,by simp,.mk fun j h1 h2=>?_⟩ ?_ ?_
 ·simp at h2; omega
 ·rintro i σ H' hi' ⟨gs,xs,u,rfl,n,hl,kp⟩
  have hi2:i < keeps:=by simpa using hi'
  obtain ⟨c',hb1,hc1,hc2⟩:=n.at_
  have hS1:Scr K H' a ns:=hS.ch hb n.ch
  have hxl:=n.gg.len
  have gl1:=n.gl
  have nc:=n.ch
  walk_at "rd"
  rename_i z H2 hz0 hz1 c2 hb2 p hp
  have n2:=(n.bump nb hb1 c2 hb2).same (Ch.new hp (HO.tup [V.str (Str.ofString "keep"),V.int (z % 2),V.int 0]))
  have n3:=n2.push (g:=.keep (z % 2) 0) nb fg zaae ⟨by omega,by omega,by omega⟩ rfl
  have gl2:=n2.gl
  walk_at "rd"
  rw [List.length_append]; exact kp.more
 ·rintro σ H' ⟨gs,xs,u,rfl,n,hl,kp⟩
  have hl:gs.length=ins + keeps:=by simpa using hl
  rw [hl] at kp
  walk_at "rd"
  refine zabr (fun i σ H'=>∃ gs xs u1 u2 u3 u4 u5,σ=[some (.ref a),some (.ref b),some (.int (ins:Int)),some (.int (keeps:Int)),some (.int (many:Int)),some (.ref gl),u1,u2,u3,u4,u5,none]∧NS H H' b gl c (12 + 4 * i:Int) gs xs ins∧gs.length=ins + keeps + i∧KP gs ins (ins + keeps)) ⟨_,_,_,_,_,_,_,rfl,n.wk (by simp; omega),by omega,kp⟩ ?_ ?_
  ·skip
   rintro i σ H' hi' ⟨gs,xs,u1,u2,u3,u4,u5,rfl,n,hl,kp⟩
   have hi2:i < many:=by simpa using hi'
   obtain ⟨c',hb1,hc1,hc2⟩:=n.at_
   have hS1:Scr K H' a ns:=hS.ch hb n.ch
   have hxl:=n.gg.len
   have gl1:=n.gl
   have nc:=n.ch
   walk_at "rd"
   rename_i m H2 hm0 hm1 c2 hb2 p hp
   obtain ⟨x,hx,hat⟩:=zatv (m:=m % 10) (by omega) (by omega)
   refine Atx.of hat ?_
   have n2:=(n.bump nb hb1 c2 hb2).same (Ch.new hp (HO.lst (WS.map V.str)))
   have gl2:=n2.gl
   walk_at "rd"
   refine zabg (fun σ H3=>∃ x2,x2∈WS∧(gs.length=0→arW x2=0)∧σ=[some (.ref a),some (.ref b),some (.int (ins:Int)),some (.int (keeps:Int)),some (.int (many:Int)),some (.ref gl),some (.int (0 + (i:Int))),some (.int m),some (.str x2),u4,u5,none]∧NS H H3 b gl c (12 + 4 * i + 1:Int) gs xs ins) ?_ ?_
   ·walk_at "rd"
    refine ite2 (fun hc=>?_) (fun hc=>iteF ?_)
    ·walk_at "rd"
     rename_i pz hpz
     refine ite2 (fun hd=>?_) (fun hd=>?_)
     ·obtain ⟨x2,hx2,hx3,hat2⟩:=zatw (m:=m / 10 % 2) (by omega) (by omega)
      walk_at "rd"
      exact (n2.same (Ch.new hpz _)).same (Ch.new (by assumption) _)
     ·have hz:arW x=0:=by
       clear hat
       simp only [WS,List.mem_cons,List.not_mem_nil,or_false] at hx
       rcases hx with rfl | rfl | rfl | rfl | rfl | rfl | rfl | rfl | rfl | rfl <;> first | decide +kernel | (exfalso; revert hd; decide +kernel)
      exact ⟨x,hx,fun _=>hz,rfl,n2.same (Ch.new hpz _)⟩
    ·refine ⟨x,hx,fun z=>?_,rfl,n2⟩
     rw [← hxl] at z
     exact absurd (by rw [z]; decide) hc
   ·rintro σ H3 ⟨x2,hx2,hx0,rfl,n3⟩
    walk_at "rd"
    rename_i fl hfl dp hdp
    refine ⟨(rfl:_=List.map (fun kv=>(kV kv.1,kv.2)) DD),by decide,?_⟩
    have hal:=zast hx2
    have hdg:=zass hx2
    have n4:=(n3.same (Ch.new hfl (HO.lst []))).same (Ch.own (o:=HO.dK (mergeK [] DD)) hdp (Ch.new hdp (HO.dK [])))
    have fl4:upd (upd (upd H3 fl (HO.lst [])) dp (HO.dK [])) dp (HO.dK (mergeK [] DD)) fl=some (HO.lst []):=Ch.get (W:=[]) (Ch.own hdp (Ch.new hdp (HO.dK []))) zaae (by simp)
    have ffl:H fl=none:=by
     cases e:H fl with
     | none=>rfl
     | some o =>
      by_cases z:fl=b
      ·obtain ⟨c9,h9,_⟩:=n3.at_
       rw [z,h9] at hfl; cases hfl
      ·have:=n3.ch.get e (by simpa using z)
       rw [this] at hfl; cases hfl
    have nfb:fl≠b:=(zaam hb ffl).symm
    have nfg:fl≠gl:=(zaam n3.gl hfl).symm
    refine ⟨dp,rfl,Or.inl ⟨_,Or.inl zaae⟩,_,rfl,_,DGet.k (k:=Sum.inr x2) zaae,?_⟩
    rw [hdg]
    generalize upd (upd (upd H3 fl (HO.lst [])) dp (HO.dK [])) dp (HO.dK (mergeK [] DD))=H4 at n4 fl4 ⊢
    walk_at "rd"
    refine zabr (fun j σ H5=>∃ fs u2 u5,σ=[some (.ref a),some (.ref b),some (.int (ins:Int)),some (.int (keeps:Int)),some (.int (many:Int)),some (.ref gl),some (.int (0 + (i:Int))),u2,some (.str x2),some (.ref fl),u5,none]∧NS H H5 b gl c (12 + 4 * i + 1 + j:Int) gs xs ins∧H5 fl=some (.lst (List.map nV fs))∧fs.length=j∧Below fs gs.length) ⟨[],_,_,rfl,n4.wk (by simp),fl4,rfl,.nil⟩ ?_ ?_
    ·rintro j σ H5 hj ⟨fs,v2,v5,rfl,n5,gf5,lf5,bf5⟩
     have hj2:j < arW x2:=by simpa using hj
     have hgp:0 < gs.length:=by
      rcases Nat.eq_zero_or_pos gs.length with z | z
      ·have:=hx0 z; omega
      ·exact z
     obtain ⟨c5,hb5,hc5,hd5⟩:=n5.at_
     have hS5:Scr K H5 a ns:=hS.ch hb n5.ch
     have gl5:=n5.gl
     walk_at "rd"
     rename_i z H6 hz0 hz1 c6 hb6
     have n6:=n5.bump nb hb5 c6 hb6
     have gl6:=n6.gl
     have gf6:H6 fl=some (.lst (List.map nV fs)):=c6.get gf5 (by simpa using nfb)
     refine ite2 (fun he=>?_) (fun he=>?_)
     ·obtain ⟨q1,hq1,hq2⟩:∃ q1:Nat,z / 2 % (xs.length:Int)=(q1:Int)∧q1 < gs.length:=by
       have h1:0≤z / 2 % (xs.length:Int):=Int.emod_nonneg _ (by omega)
       have h2:z / 2 % (xs.length:Int) < (xs.length:Int):=Int.emod_lt_of_pos _ (by omega)
       exact ⟨(z / 2 % (xs.length:Int)).toNat,by omega,by omega⟩
      walk_at "rd"
      refine ⟨(n6.own ffl nfb nfg gf6).wk (by omega),(by rw [zaae]; (try dsimp only); rw [hq1]; simp [nV]:_=some (HO.lst (List.map nV (fs++[q1])))),by simp [lf5],bf5.snoc hq2⟩
     ·obtain ⟨q1,hq1,hq2⟩:∃ q1:Nat,(if (xs.length:Int) - 1 - z / 2 % 4 > 0 then (xs.length:Int) - 1 - z / 2 % 4 else 0)=(q1:Int)∧q1 < gs.length:=by
       refine ⟨(if (xs.length:Int) - 1 - z / 2 % 4 > 0 then (xs.length:Int) - 1 - z / 2 % 4 else 0).toNat,?_,?_⟩ <;> split <;> omega
      walk_at "rd"
      refine ⟨(n6.own ffl nfb nfg gf6).wk (by omega),(by rw [zaae]; (try dsimp only); rw [hq1]; simp [nV]:_=some (HO.lst (List.map nV (fs++[q1])))),by simp [lf5],bf5.snoc hq2⟩
    ·rintro σ H5 ⟨fs,v2,v5,rfl,n5,gf5,lf5,bf5⟩
     have lf5:fs.length=arW x2:=by simpa using lf5
     have gl5:=n5.gl
     obtain ⟨g,eg,g1,g2,g3⟩:=mkG hx2 lf5 bf5.of
     walk_at "rd"
     rename_i e1 he1 e2 he2 e3 he3
     have n7:=((n5.same (Ch.new he1 (HO.lst [V.str x2]))).same (Ch.new he2 (HO.lst ([V.str x2]++List.map nV fs)))).same (Ch.new he3 (HO.tup ([V.str x2]++List.map nV fs)))
     have n8:=n7.push (g:=g) nb fg (by rw [zaae,eg]; rfl) g1 g2
     exact ⟨n8.wk (by omega),by simp; omega,kp.push _⟩
  ·skip
   rintro σ H' ⟨gs,xs,u1,u2,u3,u4,u5,rfl,n,hl,kp⟩
   have hl:gs.length=ins + keeps + many:=by simpa using hl
   have n:=n.wk (B':=108) (by simp; omega)
   walk_at "rd"
   refine zabr (fun i σ H'=>∃ gs xs u1,σ=[some (.ref a),some (.ref b),some (.int (ins:Int)),some (.int (keeps:Int)),some (.int (many:Int)),some (.ref gl),u1,u2,u3,u4,u5,none]∧NS H H' b gl c (108 + i:Int) gs xs ins∧gs.length=ins + keeps + many∧KP gs ins (ins + keeps)) ⟨_,_,_,rfl,n.wk (by simp),hl,kp⟩ ?_ ?_
   ·skip
    rintro i σ H' hi' ⟨gs,xs,u1,rfl,n,hl,kp⟩
    have hi2:i < keeps:=by omega
    obtain ⟨ff,a0,hj⟩:=kp.of (ins + i) (by omega) (by omega)
    obtain ⟨f0,f1,_⟩:0≤ff∧ff < 2∧_:=n.ok _ _ hj
    obtain ⟨p,ep,hp⟩:=n.gg.at_ _ _ hj
    have hp:H' p=some (.tup [.str "keep",.int ff,.int a0]):=hp
    obtain ⟨c',hb1,hc1,hc2⟩:=n.at_
    have hS1:Scr K H' a ns:=hS.ch hb n.ch
    have hxl:=n.gg.len
    have gl1:=n.gl
    have hat:atI xs ((ins:Int) + (i:Int))=some (.ref p):=by
     have:=zab8 ep
     rwa [Int.natCast_add] at this
    have hix:ixN xs.length ((ins:Int) + (i:Int))=some (ins + i):=by
     unfold ixN; rw [if_pos (by omega),if_pos (by omega)]; congr 1
    walk_at "rd"
    rename_i z H2 hz0 hz1 c2 hb2 tp htp
    have n2:=n.bump nb hb1 c2 hb2
    have h1:0≤z % (xs.length:Int):=Int.emod_nonneg _ (by omega)
    have h2:z % (xs.length:Int) < (xs.length:Int):=Int.emod_lt_of_pos _ (by omega)
    have n3:=n2.same (Ch.new htp (HO.tup [V.str (Str.ofString "keep"),V.int ff,V.int (z % (xs.length:Int))]))
    have gl3:=n3.gl
    have n4:=n3.set (g:=.keep ff (z % (xs.length:Int)).toNat) nb fg (by rw [zaae]; show _=some (HO.tup [_,_,V.int (((z % (xs.length:Int)).toNat:Nat):Int)]); rw [show (((z % (xs.length:Int)).toNat:Nat):Int)=z % (xs.length:Int) by omega]) hj ⟨f0,f1,by omega⟩ rfl (by omega)
    exact ⟨n4.wk (by omega),by simp [hl],kp.set⟩
   ·skip
    rintro σ H' ⟨gs,xs,u1,rfl,n,hl,kp⟩
    have n:=n.wk (B':=120) (by omega)
    obtain ⟨c',hb1,hc1,hc2⟩:=n.at_
    have hS1:Scr K H' a ns:=hS.ch hb n.ch
    have hxl:=n.gg.len
    walk_at "rd"
    rename_i ol hol z H2 hz0 hz1 c2 hb2
    obtain ⟨fol,ob,og⟩:=n.fresh hb hol
    have n2:=(n.same (Ch.new hol (HO.lst []))).bump nb (zabi hol hb1) c2 hb2
    have o2:H2 ol=some (.lst (List.map nV [])):=c2.get zaae (by simpa using ob)
    refine zabr (fun j σ H5=>∃ os u6 u7,σ=[some (.ref a),some (.ref b),some (.int (ins:Int)),some (.int (keeps:Int)),some (.int (many:Int)),some (.ref gl),u6,u7,u3,u4,u5,some (.ref ol)]∧NS H H5 b gl c (121 + j:Int) gs xs ins∧H5 ol=some (.lst (List.map nV os))∧os.length≤j∧Below os gs.length) ⟨[],_,_,rfl,n2.wk (by omega),o2,by simp,.nil⟩ ?_ ?_
    ·rintro j σ H5 hj ⟨os,v2,v5,rfl,n5,gf5,lf5,bf5⟩
     have hj2:j < 4:=by omega
     obtain ⟨c5,hb5,hc5,hd5⟩:=n5.at_
     have hS5:Scr K H5 a ns:=hS.ch hb n5.ch
     have gl5:=n5.gl
     walk_at "rd"
     refine ite2 (fun hc=>?_) (fun hc=>?_)
     ·have hgp:0 < gs.length:=by
       have:0 < (xs.length:Int):=by simpa using hc
       omega
      walk_at "rd"
      rename_i z H6 hz0 hz1 c6 hb6
      have n6:=n5.bump nb hb5 c6 hb6
      have gl6:=n6.gl
      have gf6:H6 ol=some (.lst (List.map nV os)):=c6.get gf5 (by simpa using ob)
      refine ite2 (fun he=>?_) (fun he=>?_)
      ·obtain ⟨q1,hq1,hq2⟩:∃ q1:Nat,z / 2 % (xs.length:Int)=(q1:Int)∧q1 < gs.length:=by
        have h1:0≤z / 2 % (xs.length:Int):=Int.emod_nonneg _ (by omega)
        have h2:z / 2 % (xs.length:Int) < (xs.length:Int):=Int.emod_lt_of_pos _ (by omega)
        exact ⟨(z / 2 % (xs.length:Int)).toNat,by omega,by omega⟩
       walk_at "rd"
       refine ⟨(n6.own fol ob og gf6).wk (by omega),(by rw [zaae]; (try dsimp only); rw [hq1]; simp [nV]:_=some (HO.lst (List.map nV (os++[q1])))),by simp; omega,bf5.snoc hq2⟩
      ·obtain ⟨q1,hq1,hq2⟩:∃ q1:Nat,(xs.length:Int) - 1 - z / 2 % (if (xs.length:Int) < 3 then (xs.length:Int) else 3)=(q1:Int)∧q1 < gs.length:=by
        have h1:0≤z / 2 % (if (xs.length:Int) < 3 then (xs.length:Int) else 3):=Int.emod_nonneg _ (by split <;> omega)
        have h2:z / 2 % (if (xs.length:Int) < 3 then (xs.length:Int) else 3) < (if (xs.length:Int) < 3 then (xs.length:Int) else 3):=Int.emod_lt_of_pos _ (by split <;> omega)
        have h3:(if (xs.length:Int) < 3 then (xs.length:Int) else 3)≤(xs.length:Int):=by split <;> omega
        refine ⟨((xs.length:Int) - 1 - z / 2 % (if (xs.length:Int) < 3 then (xs.length:Int) else 3)).toNat,?_,?_⟩ <;> (generalize (if (xs.length:Int) < 3 then (xs.length:Int) else 3)=W3 at *; generalize z / 2 % W3=Y3 at *; omega)
       walk_at "rd"
       refine ⟨(n6.own fol ob og gf6).wk (by omega),(by rw [zaae]; (try dsimp only); rw [hq1]; simp [nV]:_=some (HO.lst (List.map nV (os++[q1])))),by simp; omega,bf5.snoc hq2⟩
     ·refine ⟨os,_,_,rfl,n5.wk (by omega),gf5,by omega,bf5⟩
    ·rintro σ H5 ⟨os,v2,v5,rfl,n5,gf5,lf5,bf5⟩
     walk_at "rd"
     rename_i R hR
     exact q R gl ol gs xs os _ ((n5.same (Ch.new hR _)).wk (by omega)) zaae (by omega) (zabi hR gf5) bf5.of (by omega) fg fol
end
end

section
def Gt.src:Gt→Bool
 | .inp=>true
 | .keep _ _=>true
 | _=>false
def Gt.wd:Gt→Str
 | .inp => "in"
 | .zero => "zero"
 | .one => "one"
 | .keep _ _ => "keep"
 | .not _ => "not"
 | .and _ _ => "and"
 | .or _ _ => "or"
 | .xor _ _ => "xor"
 | .pick _ _ _ => "pick"
end

section
theorem zagn (g:Gt):∃ (wd:Str) (rs:List V),g.vs=.str wd :: rs∧inV (.str wd) [.str "in",.str "keep"]=g.src:=by
 cases g <;> refine ⟨_,_,rfl,?_⟩ <;> first | (show inV _ _=true; decide +kernel) | (show inV _ _=false; decide +kernel)
section
variable {P:Program}{w:World}{K:PySem.W.Frag}{mg:Str→Option Value}{base:Heap}{f:Addr}{fd:FuncData}{k:Nat}
theorem zaee:Nd "is_source" := by decide +kernel
theorem zafk:Nd "feeds_of" := by decide +kernel
theorem av12:AF (defScope (top 12)) ["gate"]:=⟨by decide +kernel⟩
def spSrc:Sp:=fun vs H Q _=>∃ (p:Addr) (g:Gt),vs=[.ref p]∧H p=some (.tup g.vs)∧∀ H',Ch [] H H'→Q (.bl g.src) H'
theorem scSrc:FnScope ["gate"] ["gate"] (defScope (top 12)):=⟨rfl,rfl,rfl,by decide +kernel,rfl,by decide +kernel,by decide +kernel⟩
theorem zasu (F:Fun K "is_source" "is_source" (top 12) f fd):FnOk P w K mg base CX0 (k + 1) f fd ["gate"] spSrc:=by
 have nd:=scSrc.nd
 refine F.ok scSrc (fun vs H Q E h=>by obtain ⟨p,g,rfl,_⟩:=h; rfl) (fun cdv A outer s0 H vs Q E hr h=>?_)
 obtain ⟨p,g,rfl,hp,q⟩:=h
 refine ⟨_,(Pr.h (zaaf (zaas (zab7 zac5 (zaap zaa8 (qv av12 0 rfl) zaac (fun _ _=>rfl)) (zabf (zaaa zaao (zaaa zaao zaab zaah) zaah)) rfl)))),?_⟩
 (try dsimp only [cxOf])
 obtain ⟨wd,rs,ev,hs⟩:=zagn g
 rw [ev] at hp
 walk_at "rd"
 rename_i T hT
 rw [hs]
 exact q _ (Ch.new hT _)
theorem av13:AF (defScope (top 13)) ["net", "number", "gate"]:=⟨by decide +kernel⟩
theorem gl13:AG (defScope (top 13)) ["is_source", "feeds_of"]:=⟨by decide +kernel⟩
def fwn (g:Gt):List Nat:=if g.src then [] else g.feeds
def spFw (CN:Addr):Sp:=fun vs H Q _=>∃ (nt gp op:Addr) (gs:List Gt) (xs:List V) (os:List Nat) (n:Nat) (g:Gt),vs=[.ref nt,.int (n:Int)]∧NetAt CN H nt gp op gs xs os∧gs[n]?=some g∧∀ (r:Addr) (H':Hp),Ch [] H H'→H r=none→H' r=some (.lst ((fwn g).map nV))→Q (.ref r) H'
theorem scFw:FnScope ["net", "number", "gate"] ["net", "number"] (defScope (top 13)):=⟨rfl,rfl,rfl,by decide +kernel,rfl,by decide +kernel,by decide +kernel⟩
theorem zatx {CN:Addr} (F:Fun K "feeds_within" "feeds_within" (top 13) f fd) (cl:Cls K CN) (nG:NoAttr K CN "gates") (Dis_source:DefOk P w K mg base CX0 k "is_source" ["gate"] spSrc) (Dfeeds_of:DefOk P w K mg base CX0 k "feeds_of" ["gate"] spFeeds):FnOk P w K mg base CX0 (k + 1) f fd ["net", "number"] (spFw CN):=by
 have nd:=scFw.nd
 refine F.ok scFw (fun vs H Q E h=>by obtain ⟨nt,gp,op,gs,xs,os,n,g,rfl,_⟩:=h; rfl) (fun cdv A outer s0 H vs Q E hr h=>?_)
 obtain ⟨nt,gp,op,gs,xs,os,n,g,rfl,na,eg,q⟩:=h
 refine ⟨_,(Pr.h (zaag (zaaq (i:=2) nd rfl (av13.l 2 rfl) (zaap zaa8 (zagb (qv av13 0 rfl) rfl) (qv av13 1 rfl) (fun _ _=>rfl))) (zaaf (zaas (zack (zabu (zaak Dis_source hr (gl13.g 0 rfl) pass0 (zaaa (qv av13 2 rfl) zaab zaad) zaee)) (zabb zaab) (zaak Dfeeds_of hr (gl13.g 1 rfl) pass0 (zaaa (qv av13 2 rfl) zaab zaad) zafk)))))),?_⟩
 (try dsimp only [cxOf])
 obtain ⟨⟨d1,ob⟩,gt,gg,_⟩:=id na
 have f1:=zad1 gp op
 obtain ⟨p,ep,hp⟩:=gg.at_ n g eg
 have at1:=zab8 ep
 walk_at "rd"
 rename_i H1 c1
 cases e:g.src with
 | true =>
  refine iteT ?_
  walk_at "rd"
  rename_i r hr1
  exact q r _ (c1.trans (Ch.new hr1 _)) (chFree c1 hr1) (by rw [zaae]; simp [fwn,e])
 | false =>
  have hp1:=c1.get hp (by simp)
  refine iteF ?_
  walk_at "rd"
  rename_i r H2 c2 fr hr2
  exact q r _ (c1.trans c2) (chFree c1 fr) (by rw [hr2]; simp [fwn,e])
end
end

section
local macro_rules | `(tactic| walk_at "user")=>`(tactic| first
 | (apply zach; (focus walk_at "get"); (focus with_reducible assumption))
 | (apply zaci; (focus walk_at "get"); (focus with_reducible assumption))
 | (apply dputI; (focus walk_at "get"); (focus walk_at "arith")))
theorem zab6 {α β:Type}{R S:α→β→Prop} (h:∀ x y,R x y→S x y):∀ {xs:List α}{ys:List β},Paired R xs ys→Paired S xs ys
 | _,_,.nil=>.nil
 | _,_,.cons a t=>.cons (h _ _ a) (zab6 h t)
theorem zac1 {α β:Type}{R:α→β→Prop}{x:α}{y:β} (h:R x y):∀ {xs:List α}{ys:List β},Paired R xs ys→Paired R (xs++[x]) (ys++[y])
 | _,_,.nil=>.cons h .nil
 | _,_,.cons a t=>.cons a (zac1 h t)
def kt (n:Nat):Key × V:=(.inl (n:Int),.bl true)
theorem zajm:∀ (ks:List Nat) (n:Nat),valV (ks.map kt) (.inl (n:Int))=if n∈ks then some (.bl true) else none
 | [],n=>rfl
 | k :: ks,n=>by
  have ih:=zajm ks n
  by_cases e:n=k
  ·subst e
   simp [valV,kt]
  ·have:¬ (k:Int)=(n:Int):=fun z=>e (by omega)
   rw [List.map_cons]
   simp [valV,kt,this,e,Ne.symm e] at ih ⊢
   first | exact ih | (rw [ih])
theorem zao8 {ks:List Nat}{n:Nat} (h:n ∉ ks):putK (ks.map kt) (.inl (n:Int)) (.bl true)=(ks++[n]).map kt:=by
 rw [zai8 _ (by rw [zajm,if_neg h]),List.map_append]
 rfl
theorem zamd:∀ (l:List Nat) (acc:List (Key × V)) (n:Nat),valV (mrg acc (l.map kt)) (.inl (n:Int))=if n∈l then some (.bl true) else valV acc (.inl (n:Int))
 | [],acc,n=>rfl
 | k :: l,acc,n=>by
  show valV (mrg (putK acc (.inl (k:Int)) (.bl true)) (l.map kt)) _=_
  rw [zamd l,zadr]
  by_cases e:n∈l
  ·simp [e]
  ·by_cases e2:n=k
   ·subst e2; simp
   ·have:¬ ((Sum.inl (n:Int):Key)=Sum.inl (k:Int)):=fun z=>e2 (by have:=Sum.inl.inj z; omega)
    simp [e,e2,this]
theorem zafl:∀ (N:Nat) (l:List Nat),l.Nodup→(∀ n∈l,n < N)→l.length≤N
 | 0,[],_,_=>Nat.le_refl _
 | 0,x :: l,_,h=>absurd (h x (by simp)) (by omega)
 | N + 1,l,nd,h=>by
  have h1:=zafl N (l.filter (· != N)) (nd.filter _) fun n m=>by
   obtain ⟨m1,m2⟩:=List.mem_filter.mp m
   have:=h n m1
   simp at m2
   omega
  have h2:l.length≤(l.filter (· != N)).length + 1:=by
   clear h h1
   induction l with
   | nil=>simp
   | cons x l ih =>
    obtain ⟨a,b⟩:=List.nodup_cons.mp nd
    by_cases e:x=N
    ·subst e
     have:l.filter (· != x)=l:=List.filter_eq_self.mpr fun y hy=>by
      have:y≠x:=fun z=>a (z ▸ hy)
      simp [this]
     simp [List.filter_cons,this]
    ·have:=ih b
     simp [List.filter_cons,e]
     omega
  omega
inductive Dn (gs:List Gt) (st:List Nat) (g:Nat):Nat→Prop where
 | top:g ∉ st→Dn gs st g g
 | fed {n m:Nat}{h:Gt}:Dn gs st g m→gs[m]?=some h→n∈fwn h→n ∉ st→Dn gs st g n
structure Gy (gs:List Gt) (st:List Nat) (g:Nat) (ks vs:List Nat):Prop where
 nd:ks.Nodup
 lt:∀ n∈ks,n < gs.length
 top:g ∉ st→g∈ks∨g∈vs
 cl:∀ (n:Nat) (h:Gt) (a:Nat),n∈ks→gs[n]?=some h→a∈fwn h→a ∉ st→a∈ks∨a∈vs
 rc:∀ n∈ks,Dn gs st g n
 ws:∀ n∈vs,n < gs.length∧(n ∉ st→Dn gs st g n)
theorem Gy.start {gs:List Gt}{st:List Nat}{g:Nat} (h:g < gs.length):Gy gs st g [] [g] :=
 ⟨List.nodup_nil,by simp,fun _=>by simp,by simp,by simp,fun n m=>by rw [List.mem_singleton.mp m]; exact ⟨h,.top⟩⟩
theorem Gy.skip {gs:List Gt}{st:List Nat}{g n:Nat}{ks vs:List Nat} (h:Gy gs st g ks (vs++[n])) (hn:n∈ks∨n∈st):Gy gs st g ks vs:=by
 refine ⟨h.nd,h.lt,fun z=>?_,fun m b a x y z u=>?_,h.rc,fun m z=>h.ws m (List.mem_append_left _ z)⟩
 ·rcases h.top z with e | e
  ·exact .inl e
  ·rcases List.mem_append.mp e with e | e
   ·exact .inr e
   ·rw [List.mem_singleton.mp e] at z ⊢; exact .inl (hn.resolve_right z)
 ·rcases h.cl m b a x y z u with e | e
  ·exact .inl e
  ·rcases List.mem_append.mp e with e | e
   ·exact .inr e
   ·rw [List.mem_singleton.mp e] at u ⊢; exact .inl (hn.resolve_right u)
theorem Gy.take {gs:List Gt}{st:List Nat}{g n:Nat}{ks vs:List Nat}{b:Gt} (h:Gy gs st g ks (vs++[n])) (hk:n ∉ ks) (hs:n ∉ st) (hg:gs[n]?=some b) (hf:∀ a∈fwn b,a < gs.length):Gy gs st g (ks++[n]) (vs++fwn b):=by
 have dn:=(h.ws n (by simp)).2 hs
 refine ⟨?_,fun m z=>?_,fun z=>?_,fun m c a x y z u=>?_,fun m z=>?_,fun m z=>?_⟩
 ·exact List.nodup_append.mpr ⟨h.nd,by simp,fun x hx y hy=>by rw [List.mem_singleton.mp hy]; exact fun e=>hk (e ▸ hx)⟩
 ·rcases List.mem_append.mp z with e | e
  ·exact h.lt m e
  ·rw [List.mem_singleton.mp e]; exact (h.ws n (by simp)).1
 ·rcases h.top z with e | e
  ·exact .inl (List.mem_append_left _ e)
  ·rcases List.mem_append.mp e with e | e
   ·exact .inr (List.mem_append_left _ e)
   ·exact .inl (List.mem_append_right _ e)
 ·rcases List.mem_append.mp x with x | x
  ·rcases h.cl m c a x y z u with e | e
   ·exact .inl (List.mem_append_left _ e)
   ·rcases List.mem_append.mp e with e | e
    ·exact .inr (List.mem_append_left _ e)
    ·exact .inl (List.mem_append_right _ e)
  ·rw [List.mem_singleton.mp x,hg] at y
   cases y
   exact .inr (List.mem_append_right _ z)
 ·rcases List.mem_append.mp z with e | e
  ·exact h.rc m e
  ·rw [List.mem_singleton.mp e]; exact dn
 ·rcases List.mem_append.mp z with e | e
  ·exact h.ws m (List.mem_append_left _ e)
  ·exact ⟨hf m e,fun u=>.fed dn hg e u⟩
theorem Gy.done {gs:List Gt}{st:List Nat}{g:Nat}{ks:List Nat} (h:Gy gs st g ks []) (n:Nat):n∈ks↔Dn gs st g n:=by
 refine ⟨h.rc n,fun d=>?_⟩
 induction d with
 | top a=>exact (h.top a).resolve_right (by simp)
 | fed _ a b c ih=>exact (h.cl _ _ _ ih a b c).resolve_right (by simp)
theorem zajn {ns:List Int}{ks:List Nat} (h:ns.Perm (ks.map fun n:Nat=>(n:Int))):∃ ks':List Nat,ns=ks'.map (fun n:Nat=>(n:Int))∧ks'.Perm ks:=by
 refine ⟨ns.map Int.toNat,?_,?_⟩
 ·rw [List.map_map]
  refine (List.map_id ns).symm.trans (List.map_congr_left fun x hx=>?_)
  obtain ⟨k,_,rfl⟩:=List.mem_map.mp (h.mem_iff.mp hx)
  rfl
 ·have:=h.map Int.toNat
  rw [List.map_map] at this
  have e:(Int.toNat ∘ fun n:Nat=>(n:Int))=id:=funext fun n=>rfl
  rw [e,List.map_id] at this
  exact this
theorem zaqt (g:Gt):(fwn g).length≤3:=by
 unfold fwn
 split
 ·simp
 ·cases g <;> simp [Gt.feeds]
theorem NetAt.ch {C:Addr}{H H':Hp}{nt gp op:Addr}{gs:List Gt}{xs:List V}{os:List Nat} (n:NetAt C H nt gp op gs xs os) (c:Ch [] H H'):NetAt C H' nt gp op gs xs os:=by
 obtain ⟨⟨dx,ob⟩,gt,gg,ot⟩:=n
 exact ⟨⟨dx,c.get ob (by simp)⟩,c.get gt (by simp),gg.tu (Tu.same c),c.get ot (by simp)⟩
theorem zame (g:Gt):∃ (wd:Str) (rs:List V),g.vs=.str wd :: rs∧decide (V.str wd=V.str "in")=g.isIn∧decide (V.str wd=V.str "keep")=g.isKeep∧g.src=(g.isIn || g.isKeep)∧(g.src=false→rs=g.feeds.map nV):=by
 cases g <;> exact ⟨_,_,rfl,rfl,rfl,rfl,fun h=>by first | rfl | cases h⟩
theorem zab4 {g:Gt}{i n:Nat} (h:g.ok i n) (s:g.src=false):∀ a∈g.feeds,a < i:=by
 cases g <;> simp only [Gt.ok,Gt.src,Gt.feeds,List.mem_cons,List.not_mem_nil,or_false,List.mem_singleton] at * <;> first | (intro a m; omega) | (intro a m; exact m.elim) | (intro a m; cases m; done) | (cases s; done)
end

section
local macro_rules | `(tactic| walk_at "user")=>`(tactic| first
 | (apply zach; (focus walk_at "get"); (focus with_reducible assumption))
 | (apply zaci; (focus walk_at "get"); (focus with_reducible assumption))
 | (apply dputI; (focus walk_at "get"); (focus walk_at "arith")))
theorem Ch.thaw {H H':Hp}{d:Addr}{ob:Obj}{o:HO} (c:Ch [] (upd H d (.frz ob o)) H') (h:H d=some o):Ch [] H (upd H' d o):=fun b u e _=>by
 by_cases hb:b=d
 ·subst hb; rw [zaae,← h,e]
 ·rw [zaa5 hb]; exact c b u (by rw [zaa5 hb]; exact e) (by simp)
def bi:Bool→Int
 | true=>1
 | false=>0
def bV (b:Bool):V:=.int (bi b)
def kb1 (p:Nat × Bool):Key × V:=(.inl (p.1:Int),bV p.2)
def kbV (kb:List (Nat × Bool)):List (Key × V):=kb.map kb1
theorem zafm:∀ (kb:List (Nat × Bool)) (n:Nat),valV (kbV kb) (.inl (n:Int))=(kb.lookup n).map bV
 | [],n=>rfl
 | (m,b) :: kb,n=>by
  have ih:=zafm kb n
  show valV ((.inl (m:Int),bV b) :: kbV kb) (.inl (n:Int))=_
  by_cases e:m=n
  ·subst e
   rw [zaby (κ:=Key) rfl,List.lookup_cons,beq_self_eq_true]
   rfl
  ·rw [zabz (fun z=>e (by have:=Sum.inl.inj z; omega)),ih,List.lookup_cons,beq_eq_false_iff_ne.mpr (fun z=>e z.symm)]
theorem zacr {kb:List (Nat × Bool)}{n:Nat}:n∈kb.map (·.1)↔∃ b,kb.lookup n=some b:=by
 induction kb with
 | nil=>simp
 | cons p kb ih =>
  obtain ⟨m,c⟩:=p
  rw [List.map_cons,List.mem_cons,List.lookup_cons]
  by_cases e:n=m
  ·subst e; simp
  ·rw [beq_eq_false_iff_ne.mpr e]
   simp only [e,false_or]
   exact ih
theorem zago {ks:List Nat} (h:ks.Nodup):(ks.map fun n:Nat=>(n:Int)).Nodup:=by
 refine List.pairwise_map.mpr (h.imp fun h=>by omega)
section
variable {P:Program}{w:World}{K:PySem.W.Frag}{mg:Str→Option Value}{base:Heap}{f:Addr}{fd:FuncData}{k:Nat}
theorem zade:bootBuiltins "dict" = some (.type "dict"):=by decide +kernel
theorem zadf:("dict" : Str) ≠ "__name__" := by decide +kernel
theorem zadg:Nd "dict" := by decide +kernel
theorem zafn:Nd "feeds_within" := by decide +kernel
theorem zahx:bootBuiltins "sorted" = some (.builtin "sorted"):=by decide +kernel
theorem zahy:("sorted" : Str) ≠ "__name__" := by decide +kernel
theorem zahz:Nd "sorted" := by decide +kernel
theorem av14:AF (defScope (top 14)) ["net", "gate", "stops", "stopped", "seen", "waiting", "number"]:=⟨by decide +kernel⟩
theorem gl14:AG (defScope (top 14)) ["dict", "len", "feeds_within", "sorted"]:=⟨by decide +kernel⟩
def zaio:Scope:={ kind:=PySem.ScopeKind.function,names:=[(PySem.Str.ofString ".0",PySem.NameKind.local),(PySem.Str.ofString "number",PySem.NameKind.local)],isGenerator:=false,isCoroutine:=false,more:=[]:PySem.Scope }
theorem zamf:CompOk zaio (defScope (top 14)) (["number"]:List Str) (["net", "gate", "stops", "stopped", "seen", "waiting", "number"]:List Str) [] (["number"]:List Str):=compOk rfl (by decide +kernel) (by decide +kernel) (by decide +kernel) (by decide +kernel) rfl (by decide +kernel)
theorem zamg:AK (relab zaio (defScope (top 14))) ["number"]:=⟨by decide +kernel⟩
theorem zaqu:AV (relab zaio (defScope (top 14))) ["number"]:=⟨by decide +kernel⟩
def spGd (CN:Addr):Sp:=fun vs H Q _=>∃ (nt gp op sp:Addr) (gs:List Gt) (xs:List V) (os:List Nat) (kb:List (Nat × Bool)) (g:Nat),vs=[.ref nt,.int (g:Int),.ref sp]∧NetAt CN H nt gp op gs xs os∧H sp=some (.dK (kbV kb))∧g < gs.length∧(∀ (i:Nat) (b:Gt),gs[i]?=some b→∀ a∈fwn b,a < gs.length)∧gs.length≤200∧kb.length≤300 ∧
 ∀ (r:Addr) (ks:List Nat) (H':Hp),Ch [] H H'→H r=none→H' r=some (.lst (ks.map nV))→ks.length≤gs.length→ks.Pairwise (·≤·)→ks.Nodup→(∀ n,n∈ks↔Dn gs (kb.map (·.1)) g n)→Q (.ref r) H'
theorem scGd:FnScope ["net", "gate", "stops", "stopped", "seen", "waiting", "number"] ["net", "gate", "stops"] (defScope (top 14)):=⟨rfl,rfl,rfl,by decide +kernel,rfl,by decide +kernel,by decide +kernel⟩
theorem zaty {CN:Addr} (F:Fun K "gates_down" "gates_down" (top 14) f fd) (Dfeeds_within:DefOk P w K mg base CX0 k "feeds_within" ["net", "number"] (spFw CN)) (z_dict:mg "dict" = none) (z_sorted:mg "sorted" = none) (z_len:mg "len" = none):FnOk P w K mg base CX0 (k + 1) f fd ["net", "gate", "stops"] (spGd CN):=by
 have nd:=scGd.nd
 refine F.ok scGd (fun vs H Q E h=>by obtain ⟨nt,gp,op,sp,gs,xs,os,kb,g,rfl,_⟩:=h; rfl) (fun cdv A outer s0 H vs Q E hr h=>?_)
 obtain ⟨nt,gp,op,sp,gs,xs,os,kb,g,rfl,na,hs,hg,lf,zg,zs,q⟩:=h
 obtain ⟨st,est⟩:∃ st,st=kb.map (·.1):=⟨_,rfl⟩
 rw [← est] at q
 have hu:=zaei hr
 refine ⟨_,(Pr.h (zaaw (zaaq (i:=3) nd rfl (av14.l 3 rfl) (zabc (zadl rfl) (gl14.g 0 rfl) z_dict zade (zaaa (zaob (zab1 rfl zamf (zaoa (qv av14 2 rfl)) (fun _ _ _ _ _=>(zaav (i:=0) zamf.nd rfl (Or.inl (zamg.k 0 rfl)) (Or.inr (zamg.k 0 rfl)))) (fun _ _ _ _ _=>zacd) (fun _ _ _ _ _=>(zabf (zaaa (qw zaqu 0 rfl) (zaaa zace zaab zaah) zaad))))) zaab zabm) zadf zadg)) (zaag (zaaq (i:=4) nd rfl (av14.l 4 rfl) zalg) (zaaw (zaaq (i:=5) nd rfl (av14.l 5 rfl) (zabb (zaaa (qv av14 1 rfl) zaab zaad))) (zaag (zahf PassesOwn.never (zaan zah8 (zaaj zaal (gl14.g 1 rfl) z_len PySem.boot_len (zaaa (qv av14 5 rfl) zaab zaad) zabd zabe) zaac (nomark _)) (zaag (zaaq (i:=6) nd rfl (av14.l 6 rfl) (zall (qv av14 5 rfl))) (zaaf (zaaz (zacp (zae5 (zaea hu (qv av14 6 rfl) (qv av14 4 rfl)) (zadu (zaea hu (qv av14 6 rfl) (qv av14 3 rfl))))) (zaag (zagh hu (qv av14 4 rfl) (qv av14 6 rfl) zace rfl) (zaaf (zaba (zabn PySem.F.plainAttrs_list PySem.F.slot_list_extend PySem.F.type_list_extend zakv (qv av14 5 rfl) (zaaa (zaak Dfeeds_within hr (gl14.g 2 rfl) pass0 (zaaa (qv av14 0 rfl) (zaaa (qv av14 6 rfl) zaab zaad) zaad) zafn) zaab zabh))))) zaat)))) (zaaf (zaas (zaaj (zahq rfl) (gl14.g 3 rfl) z_sorted zahx (zaaa (qv av14 4 rfl) zaab zaad) zahy zahz)))))))),?_⟩
 (try dsimp only [cxOf])
 refine zabg (fun σ H'=>∃ sd kvs,σ=[some (.ref nt),some (.int (g:Int)),some (.ref sp),some (.ref sd),none,none,none]∧Ch [] H H'∧H' sd=some (.dK kvs)∧∀ n:Nat,valV kvs (.inl (n:Int))=if n∈st then some (.bl true) else none) ?_ ?_
 ·walk_at "rd"
  rename_i ob
  have kf:upd H sp (.frz ob (.dK (kbV kb))) sp=some (.frz ob (.dK (kbV kb))):=zaae
  have thw:∀ H',Ch [] (upd H sp (.frz ob (.dK (kbV kb)))) H'→Ch [] H (upd H' sp (.dK (kbV kb))):=fun H' c=>Ch.thaw c hs
  generalize upd H sp (.frz ob (.dK (kbV kb)))=HF at kf thw ⊢
  have lkb:(kbV kb).length=kb.length:=List.length_map _
  have lst9:st.length=kb.length:=by rw [est,List.length_map]
  refine zalu (kbV kb) (fun i ys σ H'=>∃ (ts:List Addr) (u:Option V),σ=[u]∧ys=ts.map V.ref∧Ch [] HF H'∧ts.length=i∧Paired (fun kv t=>H' t=some (.tup [kV kv.1,kv.2])) ((st.take i).map kt) ts) (by rw [sizeLine_eq,lkb]; omega) ⟨[],_,rfl,rfl,Ch.refl _ _,rfl,.nil⟩ ?_ ?_ ?_
  ·rintro i ys σ H' hi ⟨ts,u,rfl,rfl,c,lt,_⟩
   exact ⟨by simp [lt],c.get kf (by simp)⟩
  ·rintro i ys σ H' kv hkv ⟨ts,u,rfl,rfl,c,lt,pr⟩
   unfold kbV at hkv
   rw [List.getElem?_map] at hkv
   obtain ⟨pb,hpb,rfl⟩:=Option.map_eq_some_iff.mp hkv
   have e:st[i]?=some pb.1:=by rw [est,List.getElem?_map,hpb]; rfl
   dsimp only [kV,kb1]
   walk_at "rd"
   rename_i t ht
   refine ⟨(List.map_append (f:=V.ref) (l₁:=ts) (l₂:=[t])).symm,c.trans (Ch.new ht _),by simp [lt],?_⟩
   rw [List.take_add_one,e,List.map_append]
   exact zac1 (x:=kt pb.1) (y:=t) (by exact zaae) (zab6 (fun _ _ z=>zabi ht z) pr)
  rintro ys σ H' ⟨ts,u,rfl,rfl,c,lt,pr⟩
  rw [lkb,← lst9,List.take_length] at pr
  intro D hD
  have kf6:=c.get kf (by simp)
  refine ⟨sp,ob,kbV kb,zabi hD kf6,(fun b u z=>by have z:H sp=some (.frz b u):=z; rw [hs] at z; cases z),?_⟩
  have c7:=thw _ (c.trans (Ch.new hD (.lst (ts.map V.ref))))
  have nD:D≠sp:=(zaam kf6 hD).symm
  have k6:=zabi (u:=HO.lst (ts.map V.ref)) hD kf6
  refine ⟨D,ts,st.map kt,rfl,zab0 nD zaae,zab6 (fun _ t z=>zab0 (zah6 (zabi hD z) k6 (by intro z; cases z)) (zabi hD z)) pr,by rw [List.length_map]; omega,fun d hd=>?_⟩
  exact ⟨d,_,rfl,c7.trans (Ch.new hd _),zaae,fun n=>zamd st [] n⟩
 rintro σ H1 ⟨sd,sk,rfl,c1,hs1,vs⟩
 walk_at "rd"
 rename_i d hd
 have fd0:H d=none:=chFree c1 hd
 refine zabg (fun σ H'=>∃ wl,σ=[some (.ref nt),some (.int (g:Int)),some (.ref sp),some (.ref sd),some (.ref d),some (.ref wl),none]∧Ch [] H H'∧Ch [d] H1 H'∧H' d=some (.dK [])∧H' wl=some (.lst ([g].map nV))∧H1 wl=none∧d≠wl) ?_ ?_
 ·walk_at "rd"
  rename_i wl hwl
  exact ⟨freeN hd hwl,zaam zaae hwl⟩
 rintro σ H2 ⟨wl,rfl,c2,c12,hd2,hw2,fwl1,ndw⟩
 have fwl:H wl=none:=chFree c1 fwl1
 have nsd:sd≠d:=zaam hs1 hd
 have nsw:sd≠wl:=zaam hs1 fwl1
 have hs2:=c12.get hs1 (by simpa using nsd)
 refine ⟨(fun m σ H'=>∃ (ks ws:List Nat) (u:Option V),σ=[some (.ref nt),some (.int (g:Int)),some (.ref sp),some (.ref sd),some (.ref d),some (.ref wl),u]∧Ch [] H H'∧H' d=some (.dK (ks.map kt))∧H' sd=some (.dK sk)∧Gy gs st g ks ws∧H' wl=some (.lst (ws.map nV))∧ks.length≤gs.length∧m=ws.length + 4 * (gs.length - ks.length)∧m≤1000),⟨_,[],[g],_,rfl,c2,hd2,hs2,Gy.start hg,hw2,Nat.zero_le _,rfl,by simp; omega⟩,?_⟩
 rintro m σ H1 ⟨ks,ws,u,rfl,c,hk,hsd,gy,hw,kl,rfl,hm⟩
 walk_at "rd"
 refine ite2 (fun hc=>?_) (fun hc=>?_)
 ·refine ⟨_,fun σ' H' z=>z,?_⟩
  have hne:ws≠[]:=by rintro rfl; simp at hc
  obtain ⟨ws,n,rfl⟩:∃ ws' n,ws=ws'++[n]:=⟨ws.dropLast,ws.getLast hne,(List.dropLast_concat_getLast hne).symm⟩
  have hla:((ws++[n]).map nV)[((ws++[n]).map nV).length - 1]?=some (nV n):=by simp
  have edl:((ws++[n]).map nV).dropLast=ws.map nV:=by rw [List.map_append]; exact List.dropLast_concat
  have cP:=Ch.own (o:=.lst (ws.map nV)) fwl c
  have hkP:upd H1 wl (.lst (ws.map nV)) d=some (.dK (ks.map kt)):=zab0 ndw hk
  have hsP:upd H1 wl (.lst (ws.map nV)) sd=some (.dK sk):=zab0 nsw hsd
  have hwP:upd H1 wl (.lst (ws.map nV)) wl=some (.lst (ws.map nV)):=zaae
  refine ⟨_,rfl,.inl ⟨rfl,_,SqL.of hw⟩,wl,_,_,rfl,rfl,hw,hla,?_⟩
  rw [edl]
  generalize upd H1 wl (.lst (ws.map nV))=H3 at cP hkP hwP hsP ⊢
  clear hk hw c c2 hd2 hw2 hsd hs2 c12 hs1 hd hs
  have nlt:=(gy.ws n (by simp)).1
  obtain ⟨b,egn⟩:∃ b,gs[n]?=some b:=⟨_,List.getElem?_eq_getElem nlt⟩
  have dv:=zajm ks n
  have sv:=vs n
  rw [List.length_append,List.length_singleton] at hm ⊢
  have kl9:(ks.map kt).length≤200:=by rw [List.length_map]; omega
  by_cases e1:n∈ks
  ·rw [if_pos e1] at dv
   unfold nV
   walk_at "rd"
   exact ⟨(by omega:ws.length + 4 * (gs.length - ks.length) < ws.length + 1 + 4 * (gs.length - ks.length)),ks,ws,_,rfl,cP,hkP,hsP,gy.skip (.inl e1),hwP,kl,rfl,by omega⟩
  ·rw [if_neg e1] at dv
   by_cases e2:n∈st
   ·rw [if_pos e2] at sv
    unfold nV
    walk_at "rd"
    exact ⟨(by omega:ws.length + 4 * (gs.length - ks.length) < ws.length + 1 + 4 * (gs.length - ks.length)),ks,ws,_,rfl,cP,hkP,hsP,gy.skip (.inr e2),hwP,kl,rfl,by omega⟩
   ·rw [if_neg e2] at sv
    have gy2:=gy.take e1 e2 egn (lf n b egn)
    have kl2:=zafl _ _ gy2.nd gy2.lt
    rw [List.length_append,List.length_singleton] at kl2
    have fl3:=zaqt b
    have cD:=Ch.own (o:=.dK (putK (ks.map kt) (.inl (n:Int)) (.bl true))) fd0 cP
    obtain ⟨H4,e4⟩:∃ H4,H4=upd H3 d (.dK (putK (ks.map kt) (.inl (n:Int)) (.bl true))):=⟨_,rfl⟩
    have na4:NetAt CN H4 nt gp op gs xs os:=by
     obtain ⟨⟨dx,ob⟩,gt,gg,ot⟩:=na
     rw [e4]
     exact ⟨⟨dx,cD.get ob (by simp)⟩,cD.get gt (by simp),gg.tu (Tu.same cD),cD.get ot (by simp)⟩
    rw [← e4] at cD
    have hw4:H4 wl=some (.lst (ws.map nV)):=by rw [e4]; exact zab0 (Ne.symm ndw) hwP
    have hk4:H4 d=some (.dK ((ks++[n]).map kt)):=by rw [e4,zaae,zao8 e1]
    have hs4:H4 sd=some (.dK sk):=by rw [e4]; exact zab0 nsd hsP
    unfold nV at hwP hw4 ⊢
    walk_at "rd"
    rw [← e4]
    refine ⟨na4,egn,fun r H5 c5 fr hr5=>?_⟩
    have hw5:=c5.get hw4 (by simp)
    unfold nV at hr5
    clear hkP hwP hsP e4 hw4 na4
    walk_at "rd"
    exact ⟨(by simp; omega:(ws++fwn b).length + 4 * (gs.length - (ks++[n]).length) < ws.length + 1 + 4 * (gs.length - ks.length)),ks++[n],ws++fwn b,_,rfl,Ch.own fwl (cD.trans c5),zab0 ndw (c5.get hk4 (by simp)),zab0 nsw (c5.get hs4 (by simp)),gy2,by rw [zaae,List.map_append],by simp; omega,rfl,by simp; omega⟩
 ·have hnil:ws=[]:=by
   cases ws with
   | nil=>rfl
   | cons _ _=>exact absurd hc (by simp)
  subst hnil
  walk_at "rd"
  refine ⟨(by simp [kt]:_=List.map Sum.inl (ks.map (fun n:Nat=>(n:Int)))),by rw [List.length_map]; omega,zago gy.nd,fun p ns' pm ps hp=>?_⟩
  obtain ⟨ks',rfl,pk⟩:=zajn pm
  exact q p ks' _ (c.trans (Ch.new hp _)) (chFree c hp) (by rw [zaae,List.map_map]; rfl) (by rw [pk.length_eq]; exact kl) (by rw [List.pairwise_map] at ps; exact ps.imp fun h=>by omega) (pk.nodup_iff.mpr gy.nd) fun n=>pk.mem_iff.trans (gy.done n)
end
end

section
local macro_rules | `(tactic| walk_at "user")=>`(tactic| first
 | (apply zach; (focus walk_at "get"); (focus with_reducible assumption))
 | (apply zaci; (focus walk_at "get"); (focus with_reducible assumption))
 | (apply dputI; (focus walk_at "get"); (focus walk_at "arith")))
def evB (v:Nat→Bool):Gt→Bool
 | .inp=>false
 | .keep _ _=>false
 | .zero=>false
 | .one=>true
 | .not a=>!v a
 | .and a b=>v a && v b
 | .or a b=>v a || v b
 | .xor a b=>xor (v a) (v b)
 | .pick a b c=>if v a then v b else v c
theorem zafo {v v':Nat→Bool}{g:Gt} (h:∀ a∈g.feeds,v a=v' a) (s:g.src=false):evB v g=evB v' g:=by
 cases g <;> simp [Gt.feeds] at h <;> first | rfl | (cases s; done) | (simp only [evB,h]; done) | (obtain ⟨a,b⟩:=h; simp only [evB,a,b]; done) | (obtain ⟨a,b,c⟩:=h; simp only [evB,a,b,c]; done)
theorem zasv (a b:Bool):Builtin.bitAnd (bi a) (bi b)=bi (a && b):=by cases a <;> cases b <;> decide +kernel
theorem zatz (a b:Bool):Builtin.bitOr (bi a) (bi b)=bi (a || b):=by cases a <;> cases b <;> decide +kernel
theorem zasw (a b:Bool):Builtin.bitXor (bi a) (bi b)=bi (xor a b):=by cases a <;> cases b <;> decide +kernel
theorem zat0 (b:Bool):Builtin.bitXor 1 (bi b)=bi (!b):=by cases b <;> decide +kernel
theorem zat1 (a b c:Bool):Builtin.bitOr (Builtin.bitAnd (bi a) (bi b)) (Builtin.bitAnd (Builtin.bitXor 1 (bi a)) (bi c))=bi (if a then b else c):=by cases a <;> cases b <;> cases c <;> decide +kernel
theorem zaol (g:Gt):∃ rs,g.vs=.str g.wd :: rs:=by cases g <;> exact ⟨_,rfl⟩
section
variable {P:Program}{w:World}{K:PySem.W.Frag}{mg:Str→Option Value}{base:Heap}{f:Addr}{fd:FuncData}{k:Nat}
theorem av16:AF (defScope (top 16)) ["word", "fed", "whole"]:=⟨by decide +kernel⟩
def spTold:Sp:=fun vs H Q _=>∃ (r:Addr) (g:Gt) (v:Nat→Bool),vs=[.str g.wd,.ref r,.int 1]∧g.src=false∧H r=some (.lst (g.feeds.map fun a=>bV (v a)))∧Q (bV (evB v g)) H
theorem scTold:FnScope ["word", "fed", "whole"] ["word", "fed", "whole"] (defScope (top 16)):=⟨rfl,rfl,rfl,by decide +kernel,rfl,by decide +kernel,by decide +kernel⟩
theorem zaqv (F:Fun K "gate_bits" "gate_bits" (top 16) f fd):FnOk P w K mg base CX0 (k + 1) f fd ["word", "fed", "whole"] spTold:=by
 have nd:=scTold.nd
 refine F.ok scTold (fun vs H Q E h=>by obtain ⟨r,g,v,rfl,_⟩:=h; rfl) (fun cdv A outer s H vs Q E hr h=>?_)
 obtain ⟨r,g,v,rfl,hs,hf,q⟩:=h
 refine ⟨_,(Pr.h (zaag (zaaz (zaan zabt (qv av16 0 rfl) zaao (nomark _)) (zaaf (zaas zaac)) zaat) (zaag (zaaz (zaan zabt (qv av16 0 rfl) zaao (nomark _)) (zaaf (zaas (qv av16 2 rfl))) zaat) (zaag (zaaz (zaan zabt (qv av16 0 rfl) zaao (nomark _)) (zaaf (zaas (zaai zakh (qv av16 2 rfl) (zaap zaar (qv av16 1 rfl) zaac (fun _ _=>rfl))))) zaat) (zaag (zaaz (zaan zabt (qv av16 0 rfl) zaao (nomark _)) (zaaf (zaas (zaai zakg (zaap zaar (qv av16 1 rfl) zaac (fun _ _=>rfl)) (zaap zaar (qv av16 1 rfl) zaac (fun _ _=>rfl))))) zaat) (zaag (zaaz (zaan zabt (qv av16 0 rfl) zaao (nomark _)) (zaaf (zaas (zaai zarx (zaap zaar (qv av16 1 rfl) zaac (fun _ _=>rfl)) (zaap zaar (qv av16 1 rfl) zaac (fun _ _=>rfl))))) zaat) (zaag (zaaz (zaan zabt (qv av16 0 rfl) zaao (nomark _)) (zaaf (zaas (zaai zakh (zaap zaar (qv av16 1 rfl) zaac (fun _ _=>rfl)) (zaap zaar (qv av16 1 rfl) zaac (fun _ _=>rfl))))) zaat) (zaaf (zaas (zaai zarx (zaai zakg (zaap zaar (qv av16 1 rfl) zaac (fun _ _=>rfl)) (zaap zaar (qv av16 1 rfl) zaac (fun _ _=>rfl))) (zaai zakg (zaai zakh (qv av16 2 rfl) (zaap zaar (qv av16 1 rfl) zaac (fun _ _=>rfl))) (zaap zaar (qv av16 1 rfl) zaac (fun _ _=>rfl))))))))))))),?_⟩
 (try dsimp only [cxOf])
 cases g with
 | inp=>cases hs
 | keep _ _=>cases hs
 | zero =>
  have hf:H r=some (.lst []):=hf
  walk_at "rd"
  exact q
 | one =>
  have hf:H r=some (.lst []):=hf
  walk_at "rd"
  exact q
 | not a =>
  have hf:H r=some (.lst [.int (bi (v a))]):=hf
  walk_at "rd"
  refine Eq.mp (congrArg (fun z=>Q (.int z) H) (zat0 _).symm) ?_
  exact q
 | and a b =>
  have hf:H r=some (.lst [.int (bi (v a)),.int (bi (v b))]):=hf
  walk_at "rd"
  refine Eq.mp (congrArg (fun z=>Q (.int z) H) (zasv _ _).symm) ?_
  exact q
 | or a b =>
  have hf:H r=some (.lst [.int (bi (v a)),.int (bi (v b))]):=hf
  walk_at "rd"
  refine Eq.mp (congrArg (fun z=>Q (.int z) H) (zatz _ _).symm) ?_
  exact q
 | xor a b =>
  have hf:H r=some (.lst [.int (bi (v a)),.int (bi (v b))]):=hf
  walk_at "rd"
  refine Eq.mp (congrArg (fun z=>Q (.int z) H) (zasw _ _).symm) ?_
  exact q
 | pick a b c =>
  have hf:H r=some (.lst [.int (bi (v a)),.int (bi (v b)),.int (bi (v c))]):=hf
  walk_at "rd"
  refine Eq.mp (congrArg (fun z=>Q (.int z) H) (zat1 _ _ _).symm) ?_
  exact q
end
def oV:Option Bool→V
 | none=>.non
 | some b=>bV b
def lbn (kb:List (Nat × Bool)) (vs:List (Option Bool)) (i:Nat) (g:Gt):Option Bool:=match kb.lookup i with
 | some b=>some b
 | none=>if g.src then none else if g.feeds.all (fun a=>(vs.getD a none).isSome) then some (evB (fun a=>(vs.getD a none).getD false) g) else none
structure Lb (gs:List Gt) (kb:List (Nat × Bool)) (i:Nat) (vs:List (Option Bool)):Prop where
 len:vs.length=i
 at_:∀ (j:Nat) (g:Gt),j < i→gs[j]?=some g→vs[j]?=some (lbn kb vs j g)
theorem zaj9 {gs:List Gt}{kb:List (Nat × Bool)}{i:Nat}{vs:List (Option Bool)} (h:Lb gs kb i vs) {n:Nat}{g:Gt} (hn:n < i) (e:gs[n]?=some g):vs.getD n none=lbn kb vs n g:=by
 rw [List.getD_eq_getElem?_getD,h.at_ n g hn e]
 rfl
theorem zamh {bs cs:List (Option Bool)}{a:Nat} (h:a < bs.length):(bs++cs).getD a none=bs.getD a none:=by
 rw [List.getD_eq_getElem?_getD,List.getD_eq_getElem?_getD,List.getElem?_append_left h]
theorem zami {kb:List (Nat × Bool)}{vs vs':List (Option Bool)}{j n:Nat}{g:Gt} (ok:g.ok j n) (lt:∀ a,a < j→vs'.getD a none=vs.getD a none):lbn kb vs' j g=lbn kb vs j g:=by
 unfold lbn
 cases kb.lookup j with
 | some b=>rfl
 | none =>
  cases s:g.src with
  | true=>rfl
  | false =>
   have lt:∀ a∈g.feeds,vs'.getD a none=vs.getD a none:=fun a m=>lt a (zab4 ok s a m)
   have e1:g.feeds.all (fun a=>(vs'.getD a none).isSome)=g.feeds.all (fun a=>(vs.getD a none).isSome):=by
    rw [Bool.eq_iff_iff,List.all_eq_true,List.all_eq_true]
    exact ⟨fun z a m=>by rw [← lt a m]; exact z a m,fun z a m=>by rw [lt a m]; exact z a m⟩
   have e2:evB (fun a=>(vs'.getD a none).getD false) g=evB (fun a=>(vs.getD a none).getD false) g:=zafo (fun a m=>by rw [lt a m]) s
   simp only [e1,e2]
theorem Lb.push {gs:List Gt}{kb:List (Nat × Bool)}{i:Nat}{vs:List (Option Bool)}{g:Gt} (h:Lb gs kb i vs) (ok:Oks gs) (e:gs[i]?=some g):Lb gs kb (i + 1) (vs++[lbn kb vs i g]):=by
 refine ⟨by simp [h.len],fun j g' hj ej=>?_⟩
 rw [zami (ok j g' ej) fun a ha=>zamh (cs:=[lbn kb vs i g]) (by rw [h.len]; omega)]
 by_cases z:j < i
 ·rw [List.getElem?_append_left (by rw [h.len]; exact z)]
  exact h.at_ j g' z ej
 ·have z:j=i:=by omega
  subst z
  rw [List.getElem?_append_right (by rw [h.len]; exact Nat.le_refl _),h.len]
  rw [e] at ej
  cases ej
  simp
def lbv (gs:List Gt) (kb:List (Nat × Bool)):Nat→List (Option Bool)
 | 0=>[]
 | i + 1=>lbv gs kb i++match gs[i]? with
  | some g=>[lbn kb (lbv gs kb i) i g]
  | none=>[]
theorem zajo {gs:List Gt}{kb:List (Nat × Bool)}{i:Nat}{g:Gt} (e:gs[i]?=some g):lbv gs kb (i + 1)=lbv gs kb i++[lbn kb (lbv gs kb i) i g]:=by
 simp only [lbv,e]
theorem zah0 {gs:List Gt}{kb:List (Nat × Bool)} (ok:Oks gs):∀ {i:Nat},i≤gs.length→Lb gs kb i (lbv gs kb i)
 | 0,_=>⟨rfl,fun j g h=>by omega⟩
 | i + 1,h=>by
  have e:gs[i]?=some gs[i]:=List.getElem?_eq_getElem (by omega)
  rw [zajo e]
  exact (zah0 ok (by omega)).push ok e
theorem zaqw {gs:List Gt}{kb:List (Nat × Bool)}{i g:Nat}{vs:List (Option Bool)} (h:Lb gs kb i vs) (ok:Oks gs) (hg:g < i) (hi:i≤gs.length) {n:Nat} (d:Dn gs (kb.map (·.1)) g n) (hn:vs.getD n none=none):vs.getD g none=none:=by
 have lt:∀ m,Dn gs (kb.map (·.1)) g m→m < i∧kb.lookup m=none:=fun m d=>by
  have no:m ∉ kb.map (·.1):=by cases d with
   | top h=>exact h
   | fed _ _ _ h=>exact h
  have nl:kb.lookup m=none:=by
   cases e:kb.lookup m with
   | none=>rfl
   | some b=>exact absurd (zacr.mpr ⟨b,e⟩) no
  refine ⟨?_,nl⟩
  clear no nl hn
  induction d with
  | top=>exact hg
  | @fed n m b dm em hm ns ih =>
   unfold fwn at hm
   cases s:b.src with
   | true=>rw [s] at hm; simp at hm
   | false =>
    rw [s] at hm
    have:=zab4 (ok m b em) s n hm
    omega
 induction d with
 | top=>exact hn
 | @fed n m b dm em hm ns ih =>
  apply ih
  obtain ⟨l1,l2⟩:=lt m dm
  unfold fwn at hm
  cases s:b.src with
  | true=>rw [s] at hm; simp at hm
  | false =>
   rw [s] at hm
   have hm:n∈b.feeds:=hm
   rw [zaj9 h l1 em]
   unfold lbn
   rw [l2,s]
   simp only [Bool.false_eq_true,if_false]
   rw [if_neg]
   intro z
   have:=List.all_eq_true.mp z n hm
   rw [hn] at this
   cases this
end

section
local macro_rules | `(tactic| walk_at "user")=>`(tactic| first
 | (apply zach; (focus walk_at "get"); (focus with_reducible assumption))
 | (apply zaci; (focus walk_at "get"); (focus with_reducible assumption))
 | (apply dputI; (focus walk_at "get"); (focus walk_at "arith")))
theorem zamj {v:Nat→Option Bool}:∀ l:List Nat,inV .non (l.map fun a=>oV (v a))=!(l.all fun a=>(v a).isSome)
 | []=>rfl
 | a :: l=>by
  have ih:=zamj (v:=v) l
  unfold inV at ih ⊢
  rw [List.map_cons,List.any_cons,ih,List.all_cons]
  cases v a with
  | none=>rfl
  | some b=>cases b <;> rfl
theorem zaqx {v:Nat→Option Bool} (l:List Nat):(l.map fun a=>oV (v a)).all flatV=true:=by
 rw [List.all_map,List.all_eq_true]
 intro a _
 show flatV (oV (v a))=true
 cases v a with
 | none=>rfl
 | some b=>rfl
theorem zasx {v:Nat→Option Bool}{l:List Nat} (h:l.all (fun a=>(v a).isSome)=true):(l.map fun a=>oV (v a))=l.map fun a=>bV ((v a).getD false):=by
 refine List.map_congr_left fun a ha=>?_
 have:=List.all_eq_true.mp h a ha
 cases e:v a with
 | none=>rw [e] at this; cases this
 | some b=>rfl
theorem zasy (a b:Bool):(bi a + bi b) % 2=bi (xor a b):=by cases a <;> cases b <;> decide
theorem zasz (a b:Bool):gr [bi a,bi b]=bi (a || b):=by cases a <;> cases b <;> decide
theorem zas0 (a:Bool):1 - bi a=bi (!a):=by cases a <;> decide
theorem zas1 {a b:Bool}{M:Int} (h1:M∈[1,bi a,bi b]) (h2:∀ z∈[1,bi a,bi b],M≤z):M=bi (a && b):=by
 simp at h1 h2
 cases a <;> cases b <;> simp [bi] at h1 h2 ⊢ <;> omega
theorem zagp (g:Gt):decide (V.str g.wd=V.str "keep")=g.isKeep:=by cases g <;> rfl
theorem zao9 (g:Gt):inV (.str g.wd) [.str "in",.str "keep"]=g.src:=by
 obtain ⟨wd,rs,e,h⟩:=zagn g
 obtain ⟨rs',e'⟩:=zaol g
 rw [e'] at e
 injection e with e _
 rw [e]
 exact h
theorem zaom (xs:List V) (i:Nat) (h:i≤xs.length):cutV xs none (some (i:Int))=xs.take i:=by
 unfold cutV
 have h1:HT.sIx xs.length 0 none=0:=rfl
 have h2:HT.sIx xs.length xs.length (some (i:Int))=i:=by
  show (if (i:Int) < 0 then ((i:Int) + (xs.length:Int)).toNat else min (i:Int).toNat xs.length)=_
  rw [if_neg (by omega)]
  omega
 rw [h1,h2]
 rfl
theorem zapa {vs:List (Option Bool)}{a:Nat} (h:a < vs.length):atI (vs.map oV) (a:Int)=some (oV (vs.getD a none)):=by
 apply zab8
 rw [List.getElem?_map,List.getD_eq_getElem?_getD,List.getElem?_eq_getElem h]
 rfl
theorem zapb (x:Bool):decide (V.int (bi x)=V.int 1)=x:=by cases x <;> rfl
theorem zapc:(if (!decide (V.str Gt.zero.wd=V.str (Str.ofString "zero")))=true then (1:Int) else 0)=0:=by
 rw [decide_eq_true (show V.str Gt.zero.wd=V.str (Str.ofString "zero") from rfl)]; rfl
theorem zas2:(if (!decide (V.str Gt.one.wd=V.str (Str.ofString "zero")))=true then (1:Int) else 0)=1:=by
 rw [decide_eq_false (show ¬ V.str Gt.one.wd=V.str (Str.ofString "zero") from fun z=>by injection z with z; revert z; decide +kernel)]; rfl
theorem zas3 (x y:Nat):(if (!decide (V.str (Gt.and x y).wd=V.str (Str.ofString "zero")))=true then (1:Int) else 0)=1:=by
 have h:¬ V.str (Gt.and x y).wd=V.str (Str.ofString "zero"):=fun z=>by
  have z:V.str (Str.ofString "and")=V.str (Str.ofString "zero"):=z
  injection z with z; revert z; decide +kernel
 rw [decide_eq_false h]; rfl
theorem zagq (g:Gt):∃ rs,g.vs=.str g.wd :: rs∧(g.isKeep=false→rs=g.feeds.map nV):=by cases g <;> exact ⟨_,rfl,fun h=>by first | rfl | cases h⟩
section
variable {P:Program}{w:World}{K:PySem.W.Frag}{mg:Str→Option Value}{base:Heap}{f:Addr}{fd:FuncData}{k:Nat}
theorem av32:AF (defScope (top 32)) ["_law_gates", "_law_gate", "_law_known", "_law_bits_here", "_law_number", "_law_one", "_law_some"]:=⟨by decide +kernel⟩
theorem gl32:AG (defScope (top 32)) ["enumerate", "max", "min", "int"]:=⟨by decide +kernel⟩
def zaip:Scope:={ kind:=PySem.ScopeKind.function,names:=[ (PySem.Str.ofString ".0",PySem.NameKind.local),(PySem.Str.ofString "_law_feed",PySem.NameKind.local),(PySem.Str.ofString "_law_bits_here",PySem.NameKind.free)],isGenerator:=false,isCoroutine:=false,more:=[]:PySem.Scope }
theorem zamk:CompOk zaip (defScope (top 32)) (["_law_feed"]:List Str) (["_law_gates", "_law_gate", "_law_known", "_law_bits_here", "_law_number", "_law_one", "_law_some"]:List Str) [3] (["_law_feed", "_law_bits_here"]:List Str):=compOk rfl (by decide +kernel) (by decide +kernel) (by decide +kernel) (by decide +kernel) rfl (by decide +kernel)
theorem zaml:AK (relab zaip (defScope (top 32))) ["_law_feed"]:=⟨by decide +kernel⟩
theorem zamm:AV (relab zaip (defScope (top 32))) ["_law_feed", "_law_bits_here"]:=⟨by decide +kernel⟩
def spLbf:Sp:=fun vs H Q _=>∃ (gl sp:Addr) (gs:List Gt) (xs:List V) (kb:List (Nat × Bool)) (g:Nat),vs=[.ref gl,.int (g:Int),.ref sp]∧H gl=some (.lst xs)∧Gs H gs xs∧Oks gs∧gs.length≤200∧H sp=some (.dK (kbV kb))∧g < gs.length ∧
 ∀ H':Hp,Ch [] H H'→Q (oV ((lbv gs kb (g + 1)).getD g none)) H'
theorem scLbf:FnScope ["_law_gates", "_law_gate", "_law_known", "_law_bits_here", "_law_number", "_law_one", "_law_some"] ["_law_gates", "_law_gate", "_law_known"] (defScope (top 32)):=⟨rfl,rfl,rfl,by decide +kernel,rfl,by decide +kernel,by decide +kernel⟩
theorem zas4 (F:Fun K "_law_bit_from" "_law_bit_from" (top 32) f fd) (z_enumerate:mg "enumerate" = none) (z_max:mg "max" = none) (z_min:mg "min" = none) (z_int:mg "int" = none):FnOk P w K mg base CX0 (k + 1) f fd ["_law_gates", "_law_gate", "_law_known"] spLbf:=by
 have nd:=scLbf.nd
 refine F.ok scLbf (fun vs H Q E h=>by obtain ⟨gl,sp,gs,xs,kb,g,rfl,_⟩:=h; rfl) (fun cdv A outer s0 H vs Q E hr h=>?_)
 obtain ⟨gl,sp,gs,xs,kb,g,rfl,hg,gg,ok,zg,hs,gle,q⟩:=h
 have hu:=zaei hr
 refine ⟨_,(Pr.h (zaag (zaaq (i:=3) nd rfl (av32.l 3 rfl) (zabb zaab)) (zaag (zabk PassesOwn.never rfl (zagf .list (gl32.g 0 rfl) z_enumerate (zaaa (zab3 zaia (qv av32 0 rfl) zaca (zacb (zaai zab2 (qv av32 1 rfl) zaac))) zaab zaa3)) (zagc rfl (zabv (zaav (i:=4) nd rfl (av32.l 4 rfl)) (zabv (zaav (i:=5) nd rfl (av32.l 5 rfl)) zadj))) (zaaw (zaaq (i:=6) nd rfl (av32.l 6 rfl) (zack (zaan zaev (zaap zaa8 (qv av32 5 rfl) zaac (fun _ _=>rfl)) zaao (nomark _)) (zab1 rfl zamk (zae6 (zab3 zae1 (qv av32 5 rfl) (zacb zaac) zaca)) (fun _ _ _ _ _=>(zaav (i:=0) zamk.nd rfl (Or.inl (zaml.k 0 rfl)) (Or.inr (zaml.k 0 rfl)))) (fun _ _ _ _ _=>zacd) (fun _ _ _ _ _=>(zaap (zacq K rfl) (qw zamm 1 rfl) (qw zamm 0 rfl) (fun _ _=>rfl)))) (zabb (zaaa zad6 zaab zaah)))) (zaaf (zaaz (zaqh hu (qv av32 4 rfl) (qv av32 2 rfl)) (zaaf (zaba (zabn PySem.F.plainAttrs_list PySem.F.slot_list_append PySem.F.type_list_append zaa4 (qv av32 3 rfl) (zaaa (zafc hu (qv av32 2 rfl) (qv av32 4 rfl) (fun _ _=>rfl)) zaab zaa3)))) (zaaf (zaaz (zacp (zadv (zaan zac5 (zaap zaa8 (qv av32 5 rfl) zaac (fun _ _=>rfl)) (zabf (zaaa zaao (zaaa zaao zaab zaah) zaah)) rfl) (zac7 (zaan zac5 zad6 (qv av32 6 rfl) rfl)))) (zaaf (zaba (zabn PySem.F.plainAttrs_list PySem.F.slot_list_append PySem.F.type_list_append zaa4 (qv av32 3 rfl) (zaaa zad6 zaab zaah)))) (zaaf (zaaz (zaan zabt (zaap zaa8 (qv av32 5 rfl) zaac (fun _ _=>rfl)) zaao (nomark _)) (zaaf (zaba (zabn PySem.F.plainAttrs_list PySem.F.slot_list_append PySem.F.type_list_append zaa4 (qv av32 3 rfl) (zaaa (zack (zaan zabt (zaap zaar (qv av32 6 rfl) zaac (fun _ _=>rfl)) zaac (nomark _)) (zaap zaar (qv av32 6 rfl) zaac (fun _ _=>rfl)) (zaap zaar (qv av32 6 rfl) zaac (fun _ _=>rfl))) zaab zaen)))) (zaaf (zaaz (zaan zabt (zaap zaa8 (qv av32 5 rfl) zaac (fun _ _=>rfl)) zaao (nomark _)) (zaaf (zaba (zabn PySem.F.plainAttrs_list PySem.F.slot_list_append PySem.F.type_list_append zaa4 (qv av32 3 rfl) (zaaa (zaai zaax (zaai zab2 (zaap zaar (qv av32 6 rfl) zaac (fun _ _=>rfl)) (zaap zaar (qv av32 6 rfl) zaac (fun _ _=>rfl))) zaac) zaab zaay)))) (zaaf (zaaz (zaan zabt (zaap zaa8 (qv av32 5 rfl) zaac (fun _ _=>rfl)) zaao (nomark _)) (zaaf (zaba (zabn PySem.F.plainAttrs_list PySem.F.slot_list_append PySem.F.type_list_append zaa4 (qv av32 3 rfl) (zaaa (zaaj (zahs rfl) (gl32.g 1 rfl) z_max zal7 (zaaa (qv av32 6 rfl) zaab zaad) zal8 zal9) zaab zabh)))) (zaaf (zaaz (zaan zabt (zaap zaa8 (qv av32 5 rfl) zaac (fun _ _=>rfl)) zaao (nomark _)) (zaaf (zaba (zabn PySem.F.plainAttrs_list PySem.F.slot_list_append PySem.F.type_list_append zaa4 (qv av32 3 rfl) (zaaa (zaai zac3 zaac (zaap zaar (qv av32 6 rfl) zaac (fun _ _=>rfl))) zaab zaay)))) (zaaf (zaba (zabn PySem.F.plainAttrs_list PySem.F.slot_list_append PySem.F.type_list_append zaa4 (qv av32 3 rfl) (zaaa (zaaj (zaht rfl) (gl32.g 2 rfl) z_min zama (zaaa (zaai zae3 (zabb (zaaa (zabc zaew (gl32.g 3 rfl) z_int zahu (zaaa (zab7 zaev (zaap zaa8 (qv av32 5 rfl) zaac (fun _ _=>rfl)) zaao (nomark _)) zaab zafz) zahv zahw) zaab zabh)) (qv av32 6 rfl)) zaab zaay) zamb zamc) zaab zabh)))))))))))))))))) (zaaf (zaas (zaap zaar (qv av32 3 rfl) (qv av32 1 rfl) (fun _ _=>rfl))))))),?_⟩
 (try dsimp only [cxOf])
 have lx:=gg.len
 walk_at "rd"
 rename_i bh hbh sl hsl
 have eg1:((g:Int) + 1)=((g + 1:Nat):Int):=by omega
 dsimp only
 rw [eg1,zaom xs (g + 1) (by omega)]
 have nbs:bh≠sl:=zaam zaae hsl
 refine zahh (xs:=xs.take (g + 1)) (fun i σ H'=>∃ u4 u5 u6,σ=[some (.ref gl),some (.int (g:Int)),some (.ref sp),some (.ref bh),u4,u5,u6]∧Ch [] H H'∧H' bh=some (.lst ((lbv gs kb i).map oV))∧H' sl=some (.lst (xs.take (g + 1)))) ⟨_,_,_,rfl,(Ch.new hbh _).trans (Ch.new hsl _),zabi hsl zaae,zaae⟩ ?_ ?_ ?_
 ·rintro i σ H' hi ⟨u4,u5,u6,rfl,c,hb,hsl'⟩
  exact SqL.of hsl'
 ·rintro i x σ H1 T hx ⟨u4,u5,u6,rfl,c,hb,hsl1⟩ hT
  have hi:i < g + 1:=by have:=(List.getElem?_eq_some_iff.mp hx).1; rw [List.length_take] at this; omega
  rw [List.getElem?_take_of_lt hi] at hx
  obtain ⟨b,egi⟩:∃ b,gs[i]?=some b:=⟨_,List.getElem?_eq_getElem (by omega)⟩
  obtain ⟨p,ep,hp⟩:=gg.at_ i b egi
  rw [hx] at ep
  cases ep
  have lb:=zah0 (kb:=kb) ok (i:=i) (by omega)
  have ls:=zajo (kb:=kb) egi
  rw [ls]
  generalize lbv gs kb i=vv at lb hb ⊢
  have lv:=lb.len
  obtain ⟨rs,ev,er⟩:=zagq b
  have cT:Ch [] H (upd H1 T (HO.tup [V.int (i:Int),V.ref p])):=c.trans (Ch.new hT _)
  have hbT:=zabi (u:=HO.tup [V.int (i:Int),V.ref p]) hT hb
  have hsT:=zabi (u:=HO.tup [V.int (i:Int),V.ref p]) hT hsl1
  have hpT:=cT.get hp (by simp)
  rw [ev] at hpT
  have f3:b.feeds.length≤3:=by cases b <;> simp [Gt.feeds]
  walk_at "rd"
  refine zabg (fun σ H'=>∃ sm,σ=[some (.ref gl),some (.int (g:Int)),some (.ref sp),some (.ref bh),some (.int (i:Int)),some (.ref p),some (.ref sm)]∧Ch [] (upd H1 T (HO.tup [V.int (i:Int),V.ref p])) H'∧H' sm=some (.lst (if b.isKeep then [V.non] else b.feeds.map fun a=>oV (vv.getD a none)))) ?_ ?_
  ·walk_at "rd"
   rw [zagp]
   cases hK:b.isKeep with
   | true =>
    refine iteF ?_
    walk_at "rd"
   | false =>
    refine iteT ?_
    rw [er hK] at hpT
    walk_at "rd"
    rename_i tp htp
    rw [cut1]
    have ht9:upd (upd H1 T (HO.tup [V.int (i:Int),V.ref p])) tp (HO.tup (b.feeds.map nV)) tp=some (.tup (b.feeds.map nV)):=zaae
    have c9:Ch [] (upd H1 T (HO.tup [V.int (i:Int),V.ref p])) (upd (upd H1 T (HO.tup [V.int (i:Int),V.ref p])) tp (HO.tup (b.feeds.map nV))):=Ch.new htp _
    generalize upd (upd H1 T (HO.tup [V.int (i:Int),V.ref p])) tp (HO.tup (b.feeds.map nV))=H9 at ht9 c9 ⊢
    have hb9:=c9.get hbT (by simp)
    have sb:b.src=false∨b.feeds=[]:=by cases b <;> first | (exact .inl rfl) | (exact .inr rfl) | (cases hK)
    refine zaeo (b.feeds.map nV) (fun j ys σ H'=>H'=H9∧ys=(b.feeds.take j).map (fun a=>oV (vv.getD a none))∧∃ u,σ=[u,some (.ref bh)]) (by rw [sizeLine_eq,List.length_map]; omega) ⟨rfl,rfl,_,rfl⟩ ?_ ?_ ?_
    ·rintro j ys σ H' hj ⟨rfl,rfl,_⟩
     exact ⟨by simp; omega,SqT.of ht9⟩
    ·rintro j ys σ H' x hx ⟨rfl,rfl,u,rfl⟩
     rw [List.getElem?_map] at hx
     cases ea:b.feeds[j]? with
     | none=>rw [ea] at hx; cases hx
     | some a =>
      rw [ea] at hx
      cases hx
      have ma:=List.mem_of_getElem? ea
      have la:a < i:=by
       rcases sb with sb | sb
       ·exact zab4 (ok i b egi) sb a ma
       ·rw [sb] at ma; cases ma
      have at1:=zapa (vs:=vv) (a:=a) (by omega)
      unfold nV
      walk_at "rd"
      refine ⟨?_,_,rfl⟩
      rw [List.take_add_one,ea,List.map_append]
      rfl
    ·rintro ys σ H5 ⟨rfl,rfl,u,rfl⟩
     rw [List.length_map,List.take_length]
     intro D hD
     exact ⟨D,rfl,c9.trans (Ch.new hD _),zaae⟩
  rintro σ H3 ⟨sm,rfl,c3,hm3⟩
  have hb3:=c3.get hbT (by simp)
  have hs3:=c3.get hsT (by simp)
  have hp3:=c3.get hpT (by simp)
  have c03:=cT.trans c3
  have hk3:=c03.get hs (by simp)
  have fbh:H bh=none:=hbh
  clear hbT hsT hpT hb hsl1
  generalize upd H1 T (HO.tup [V.int (i:Int),V.ref p])=HT at cT c3
  have fin:∀ (x:V),x=oV (lbn kb vv i b)→some (HO.lst (vv.map oV++[x]))=some (HO.lst ((vv++[lbn kb vv i b]).map oV)):=fun x e=>by rw [e,List.map_append]; rfl
  have kval:=zafm kb i
  have lvb:(vv.map oV).length≤200:=by rw [List.length_map]; omega
  cases el:kb.lookup i with
  | some y =>
   rw [el] at kval
   have kval:valV (kbV kb) (.inl (i:Int))=some (bV y):=kval
   walk_at "rd"
   exact ⟨by rw [zaae]; exact fin _ (by unfold lbn; rw [el]; rfl),zab0 nbs.symm hs3⟩
  | none =>
   rw [el] at kval
   have kval:valV (kbV kb) (.inl (i:Int))=none:=kval
   have ln:lbn kb vv i b=if b.src then none else if b.feeds.all (fun a=>(vv.getD a none).isSome) then some (evB (fun a=>(vv.getD a none).getD false) b) else none:=by unfold lbn; rw [el]
   walk_at "rd"
   rw [zao9]
   cases hsr:b.src with
   | true =>
    rw [hsr] at ln
    refine iteT (iteT ?_)
    walk_at "rd"
    exact ⟨by rw [zaae]; exact fin _ (by rw [ln]; rfl),by walk_at "get"⟩
   | false =>
    rw [hsr] at ln
    have hK:b.isKeep=false:=by cases b <;> first | rfl | cases hsr
    rw [hK] at hm3
    have hm3:H3 sm=some (.lst (b.feeds.map fun a=>oV (vv.getD a none))):=hm3
    refine iteF ?_
    walk_at "rd"
    refine ⟨zaqx (v:=fun a=>vv.getD a none) _,_,rfl,?_⟩
    have iv:=zamj (v:=fun a=>vv.getD a none) b.feeds
    dsimp only at iv ⊢
    rw [iv]
    cases hall:b.feeds.all (fun a=>(vv.getD a none).isSome) with
    | false =>
     rw [hall] at ln
     refine iteT ?_
     walk_at "rd"
     exact ⟨by rw [zaae]; exact fin _ (by rw [ln]; rfl),by walk_at "get"⟩
    | true =>
     rw [hall] at ln
     have ln:lbn kb vv i b=some (evB (fun a=>(vv.getD a none).getD false) b):=ln
     obtain ⟨v,ev9⟩:∃ v:Nat→Bool,v=fun a=>(vv.getD a none).getD false:=⟨_,rfl⟩
     have hm3:H3 sm=some (.lst (b.feeds.map fun a=>bV (v a))):=by rw [hm3,zasx hall,ev9]
     rw [← ev9] at ln
     refine iteF ?_
     clear el kval hall er ev f3 hp
     cases b with
     | inp=>cases hsr
     | keep _ _=>cases hsr
     | zero =>
      have hm3:H3 sm=some (.lst []):=hm3
      walk_at "rd"
      refine ⟨(by rw [zaae,zapc]; rfl:_=some (HO.lst (List.map V.int [0]))),by simp,fun M m1 m2=>?_⟩
      have m1:M=0:=by simpa using m1
      subst m1
      walk_at "rd"
      exact ⟨by rw [zaae]; exact fin _ (by rw [ln]; rfl),by walk_at "get"⟩
     | one =>
      have hm3:H3 sm=some (.lst []):=hm3
      walk_at "rd"
      refine ⟨(by rw [zaae,zas2]; rfl:_=some (HO.lst (List.map V.int [1]))),by simp,fun M m1 m2=>?_⟩
      have m1:M=1:=by simpa using m1
      subst m1
      walk_at "rd"
      exact ⟨by rw [zaae]; exact fin _ (by rw [ln]; rfl),by walk_at "get"⟩
     | not x =>
      have hm3:H3 sm=some (.lst [.int (bi (v x))]):=hm3
      walk_at "rd"
      exact ⟨by rw [zaae]; exact fin _ (by rw [ln]; show V.int (1 - bi (v x))=V.int (bi (!v x)); rw [zas0]),by walk_at "get"⟩
     | and x y =>
      have hm3:H3 sm=some (.lst [.int (bi (v x)),.int (bi (v y))]):=hm3
      walk_at "rd"
      refine ⟨(by rw [zaae,zas3]; rfl:_=some (HO.lst (List.map V.int [1,bi (v x),bi (v y)]))),by simp,fun M m1 m2=>?_⟩
      have m1:=zas1 m1 m2
      subst m1
      walk_at "rd"
      exact ⟨by rw [zaae]; exact fin _ (by rw [ln]; rfl),by walk_at "get"⟩
     | or x y =>
      have hm3:H3 sm=some (.lst [.int (bi (v x)),.int (bi (v y))]):=hm3
      walk_at "rd"
      refine ⟨(by show _=some (HO.lst [V.int (bi (v x)),V.int (bi (v y))]); walk_at "get" : _=some (HO.lst (List.map V.int [bi (v x),bi (v y)]))),by simp,fun a ha=>?_,?_⟩
      ·simp at ha
       rcases ha with rfl | rfl
       ·cases v x <;> decide
       ·cases v y <;> decide
      rw [zasz]
      walk_at "rd"
      exact ⟨by rw [zaae]; exact fin _ (by rw [ln]; rfl),by walk_at "get"⟩
     | xor x y =>
      have hm3:H3 sm=some (.lst [.int (bi (v x)),.int (bi (v y))]):=hm3
      walk_at "rd"
      exact ⟨by rw [zaae]; exact fin _ (by rw [ln]; show V.int ((bi (v x) + bi (v y)) % 2)=V.int (bi (xor (v x) (v y))); rw [zasy]),by walk_at "get"⟩
     | pick x y z =>
      have hm3:H3 sm=some (.lst [.int (bi (v x)),.int (bi (v y)),.int (bi (v z))]):=hm3
      walk_at "rd"
      rw [zapb]
      have ln:lbn kb vv i (Gt.pick x y z)=some (if v x then v y else v z):=ln
      cases hx:v x with
      | true =>
       rw [hx] at ln
       refine iteT ?_
       walk_at "rd"
       exact ⟨by rw [zaae]; exact fin _ (by rw [ln]; rfl),by walk_at "get"⟩
      | false =>
       rw [hx] at ln
       refine iteF ?_
       walk_at "rd"
       exact ⟨by rw [zaae]; exact fin _ (by rw [ln]; rfl),by walk_at "get"⟩
 ·rintro σ H' ⟨u4,u5,u6,rfl,c,hb,hsl'⟩
  have lt:(xs.take (g + 1)).length=g + 1:=by rw [List.length_take]; omega
  rw [lt] at hb
  have lb:=zah0 (kb:=kb) ok (i:=g + 1) (by omega)
  have at9:=zapa (vs:=lbv gs kb (g + 1)) (a:=g) (by rw [lb.len]; omega)
  walk_at "rd"
  exact q _ c
end
end

section
structure Gb (gs:List Gt) (i:Nat) (bs:List Bool):Prop where
 len:bs.length=i
 at_:∀ (j:Nat) (g:Gt),j < i→gs[j]?=some g→g.src=false→bs[j]?=some (evB (fun a=>bs.getD a false) g)
theorem zamn {bs cs:List Bool}{a:Nat} (h:a < bs.length):(bs++cs).getD a false=bs.getD a false:=by
 rw [List.getD_eq_getElem?_getD,List.getD_eq_getElem?_getD,List.getElem?_append_left h]
theorem Gb.push {gs:List Gt}{i:Nat}{bs:List Bool}{g:Gt}{v:Bool} (h:Gb gs i bs) (ok:Oks gs) (e:gs[i]?=some g) (hv:g.src=false→v=evB (fun a=>bs.getD a false) g):Gb gs (i + 1) (bs++[v]):=by
 refine ⟨by simp [h.len],fun j g' hj ej s=>?_⟩
 rw [zafo (v':=fun a=>bs.getD a false) (fun a m=>zamn (by rw [h.len]; have:=zab4 (ok j g' ej) s a m; omega)) s]
 by_cases z:j < i
 ·rw [List.getElem?_append_left (by rw [h.len]; exact z)]
  exact h.at_ j g' z ej s
 ·have z:j=i:=by omega
  subst z
  rw [List.getElem?_append_right (by rw [h.len]; exact Nat.le_refl _),h.len]
  rw [e] at ej
  cases ej
  simp [hv s]
theorem zas5 (g:Gt):decide (V.str g.wd=V.str "in")=g.isIn:=by cases g <;> rfl
theorem zamo {vs:List Bool}{a:Nat} (h:a < vs.length):atI (vs.map bV) (a:Int)=some (bV (vs.getD a false)):=by
 apply zab8
 rw [List.getElem?_map,List.getD_eq_getElem?_getD,List.getElem?_eq_getElem h]
 rfl
theorem zamp {gs:List Gt}{i:Nat}{g:Gt} (t:Gt→Bool) (e:gs[i]?=some g):(gs.drop i).countP t=(gs.drop (i + 1)).countP t + if t g then 1 else 0:=by
 rw [List.drop_eq_getElem_cons (List.getElem?_eq_some_iff.mp e).1,List.countP_cons,(List.getElem?_eq_some_iff.mp e).2]
structure G4 (H H':Hp) (bh fl hl:Addr) (bs fs hs:List Bool):Prop where
 c:Ch [] H H'
 b:H' bh=some (.lst (bs.map bV))
 f:H' fl=some (.lst (fs.map bV))
 h:H' hl=some (.lst (hs.map bV))
section
variable {P:Program}{w:World}{K:PySem.W.Frag}{mg:Str→Option Value}{base:Heap}{f:Addr}{fd:FuncData}{k:Nat}
theorem av31:AF (defScope (top 31)) ["_law_gates", "_law_fed", "_law_held", "_law_bits_here", "_law_gate", "_law_some"]:=⟨by decide +kernel⟩
theorem zat2:(defScope (top 31)).names.lookup (Str.ofString "_law_fed")=some NameKind.local:=by decide +kernel
theorem zat3:(defScope (top 31)).names.lookup (Str.ofString "_law_held")=some NameKind.local:=by decide +kernel
theorem gl31:AG (defScope (top 31)) ["list", "max", "min", "int"]:=⟨by decide +kernel⟩
def zaiq:Scope:={ kind:=PySem.ScopeKind.function,names:=[ (PySem.Str.ofString ".0",PySem.NameKind.local),(PySem.Str.ofString "_law_feed",PySem.NameKind.local),(PySem.Str.ofString "_law_bits_here",PySem.NameKind.free)],isGenerator:=false,isCoroutine:=false,more:=[]:PySem.Scope }
theorem zamq:CompOk zaiq (defScope (top 31)) (["_law_feed"]:List Str) (["_law_gates", "_law_fed", "_law_held", "_law_bits_here", "_law_gate", "_law_some"]:List Str) [3] (["_law_feed", "_law_bits_here"]:List Str):=compOk rfl (by decide +kernel) (by decide +kernel) (by decide +kernel) (by decide +kernel) rfl (by decide +kernel)
theorem zamr:AK (relab zaiq (defScope (top 31))) ["_law_feed"]:=⟨by decide +kernel⟩
theorem zams:AV (relab zaiq (defScope (top 31))) ["_law_feed", "_law_bits_here"]:=⟨by decide +kernel⟩
def spGbs:Sp:=fun vs H Q _=>∃ (gl fp hp:Addr) (gs:List Gt) (xs:List V) (fs hs:List Bool),vs=[.ref gl,.ref fp,.ref hp]∧H gl=some (.lst xs)∧Gs H gs xs∧Oks gs∧gs.length≤200∧H fp=some (.lst (fs.map bV))∧fs.length=gs.countP Gt.isIn∧H hp=some (.lst (hs.map bV))∧hs.length=gs.countP Gt.isKeep ∧
 ∀ (r:Addr) (bs:List Bool) (H':Hp),Ch [] H H'→H r=none→H' r=some (.lst (bs.map bV))→Gb gs gs.length bs→Q (.ref r) H'
theorem scGbs:FnScope ["_law_gates", "_law_fed", "_law_held", "_law_bits_here", "_law_gate", "_law_some"] ["_law_gates", "_law_fed", "_law_held"] (defScope (top 31)):=⟨rfl,rfl,rfl,by decide +kernel,rfl,by decide +kernel,by decide +kernel⟩
theorem zas6 (F:Fun K "_law_gate_bits" "_law_gate_bits" (top 31) f fd) (z_list:mg "list" = none) (z_max:mg "max" = none) (z_min:mg "min" = none) (z_int:mg "int" = none):FnOk P w K mg base CX0 (k + 1) f fd ["_law_gates", "_law_fed", "_law_held"] spGbs:=by
 have nd:=scGbs.nd
 refine F.ok scGbs (fun vs H Q E h=>by obtain ⟨gl,fp,hp,gs,xs,fs,hs,rfl,_⟩:=h; rfl) (fun cdv A outer s0 H vs Q E hr h=>?_)
 obtain ⟨gl,fp,hp,gs,xs,fs,hs,rfl,hg,gg,ok,zg,hf,lf,hh,lh,q⟩:=h
 have hu:=zaei hr
 refine ⟨_,(Pr.h (zaag (zaaq (i:=3) nd rfl (av31.l 3 rfl) (zabb zaab)) (zaag (zaqg (i:=1) (j:=2) rfl nd rfl rfl (by decide) zat2 zat3 (zaaa (zabc zacl (gl31.g 0 rfl) z_list zadb (zaaa (qv av31 1 rfl) zaab zaad) zadc zadd) (zaaa (zabc zacl (gl31.g 0 rfl) z_list zadb (zaaa (qv av31 2 rfl) zaab zaad) zadc zadd) zaab zabh) zabh) rfl) (zaag (zabk PassesOwn.never rfl (zacc (qv av31 0 rfl)) (zaav (i:=4) nd rfl (av31.l 4 rfl)) (zaaw (zaaq (i:=5) nd rfl (av31.l 5 rfl) (zack (zaan zaev (zaap zaa8 (qv av31 4 rfl) zaac (fun _ _=>rfl)) zaao (nomark _)) (zab1 rfl zamq (zae6 (zab3 zae1 (qv av31 4 rfl) (zacb zaac) zaca)) (fun _ _ _ _ _=>(zaav (i:=0) zamq.nd rfl (Or.inl (zamr.k 0 rfl)) (Or.inr (zamr.k 0 rfl)))) (fun _ _ _ _ _=>zacd) (fun _ _ _ _ _=>(zaap (zacq K rfl) (qw zams 1 rfl) (qw zams 0 rfl) (fun _ _=>rfl)))) (zabb zaab))) (zaaf (zaaz (zaan zabt (zaap zaa8 (qv av31 4 rfl) zaac (fun _ _=>rfl)) zaao (nomark _)) (zaaf (zaba (zabn PySem.F.plainAttrs_list PySem.F.slot_list_append PySem.F.type_list_append zaa4 (qv av31 3 rfl) (zaaa (zabn PySem.F.plainAttrs_list PySem.F.slot_list_pop PySem.F.type_list_pop zai6 (qv av31 1 rfl) (zaaa zaac zaab zaah)) zaab zabh)))) (zaaf (zaaz (zaan zabt (zaap zaa8 (qv av31 4 rfl) zaac (fun _ _=>rfl)) zaao (nomark _)) (zaaf (zaba (zabn PySem.F.plainAttrs_list PySem.F.slot_list_append PySem.F.type_list_append zaa4 (qv av31 3 rfl) (zaaa (zabn PySem.F.plainAttrs_list PySem.F.slot_list_pop PySem.F.type_list_pop zai6 (qv av31 2 rfl) (zaaa zaac zaab zaah)) zaab zabh)))) (zaaf (zaaz (zaan zabt (zaap zaa8 (qv av31 4 rfl) zaac (fun _ _=>rfl)) zaao (nomark _)) (zaaf (zaba (zabn PySem.F.plainAttrs_list PySem.F.slot_list_append PySem.F.type_list_append zaa4 (qv av31 3 rfl) (zaaa (zack (zaan zabt (zaap zaar (qv av31 5 rfl) zaac (fun _ _=>rfl)) zaac (nomark _)) (zaap zaar (qv av31 5 rfl) zaac (fun _ _=>rfl)) (zaap zaar (qv av31 5 rfl) zaac (fun _ _=>rfl))) zaab zaen)))) (zaaf (zaaz (zaan zabt (zaap zaa8 (qv av31 4 rfl) zaac (fun _ _=>rfl)) zaao (nomark _)) (zaaf (zaba (zabn PySem.F.plainAttrs_list PySem.F.slot_list_append PySem.F.type_list_append zaa4 (qv av31 3 rfl) (zaaa (zaai zaax (zaai zab2 (zaap zaar (qv av31 5 rfl) zaac (fun _ _=>rfl)) (zaap zaar (qv av31 5 rfl) zaac (fun _ _=>rfl))) zaac) zaab zaay)))) (zaaf (zaaz (zaan zabt (zaap zaa8 (qv av31 4 rfl) zaac (fun _ _=>rfl)) zaao (nomark _)) (zaaf (zaba (zabn PySem.F.plainAttrs_list PySem.F.slot_list_append PySem.F.type_list_append zaa4 (qv av31 3 rfl) (zaaa (zaaj (zahs rfl) (gl31.g 1 rfl) z_max zal7 (zaaa (qv av31 5 rfl) zaab zaad) zal8 zal9) zaab zabh)))) (zaaf (zaaz (zaan zabt (zaap zaa8 (qv av31 4 rfl) zaac (fun _ _=>rfl)) zaao (nomark _)) (zaaf (zaba (zabn PySem.F.plainAttrs_list PySem.F.slot_list_append PySem.F.type_list_append zaa4 (qv av31 3 rfl) (zaaa (zaai zac3 zaac (zaap zaar (qv av31 5 rfl) zaac (fun _ _=>rfl))) zaab zaay)))) (zaaf (zaba (zabn PySem.F.plainAttrs_list PySem.F.slot_list_append PySem.F.type_list_append zaa4 (qv av31 3 rfl) (zaaa (zaaj (zaht rfl) (gl31.g 2 rfl) z_min zama (zaaa (zaai zae3 (zabb (zaaa (zabc zaew (gl31.g 3 rfl) z_int zahu (zaaa (zab7 zaev (zaap zaa8 (qv av31 4 rfl) zaac (fun _ _=>rfl)) zaao (nomark _)) zaab zafz) zahv zahw) zaab zabh)) (qv av31 5 rfl)) zaab zaay) zamb zamc) zaab zabh)))))))))))))))))) (zaaf (zaas (qv av31 3 rfl))))))),?_⟩
 (try dsimp only [cxOf])
 have lx:=gg.len
 walk_at "rd"
 rename_i bh hbh fl hfl hl hhl
 have nbf:bh≠fl:=zaam zaae hfl
 have nbh:bh≠hl:=zaam (zabi hfl zaae) hhl
 have nfh:fl≠hl:=zaam zaae hhl
 have ffl:H fl=none:=freeN hbh hfl
 have fhl:H hl=none:=freeN hbh (freeN hfl hhl)
 refine zadt (xs:=xs) (fun i σ H'=>∃ u4 u5 bs fs' hs',σ=[some (.ref gl),some (.ref fl),some (.ref hl),some (.ref bh),u4,u5]∧G4 H H' bh fl hl bs fs' hs'∧Gb gs i bs∧fs'.length=(gs.drop i).countP Gt.isIn∧hs'.length=(gs.drop i).countP Gt.isKeep) ⟨_,_,[],fs,hs,rfl,⟨((Ch.new hbh _).trans (Ch.new hfl _)).trans (Ch.new hhl _),zabi hhl (zabi hfl zaae),zabi hhl zaae,zaae⟩,⟨rfl,fun j g h=>by omega⟩,by simpa using lf,by simpa using lh⟩ ?_ ?_ ?_
 ·rintro i σ H' hi ⟨u4,u5,bs,fs',hs',rfl,g4,_⟩
  exact SqL.of (g4.c.get hg (by simp))
 ·rintro i x σ H1 hx ⟨u4,u5,bs,fs',hs',rfl,g4,gb,lf1,lh1⟩
  have hi:i < gs.length:=by rw [← lx]; exact (List.getElem?_eq_some_iff.mp hx).1
  obtain ⟨b,egi⟩:∃ b,gs[i]?=some b:=⟨_,List.getElem?_eq_getElem hi⟩
  obtain ⟨p,ep,hp⟩:=gg.at_ i b egi
  rw [hx] at ep
  cases ep
  have lv:=gb.len
  obtain ⟨rs,ev,er⟩:=zagq b
  have hpT:=g4.c.get hp (by simp)
  have hbT:=g4.b
  rw [ev] at hpT
  have f3:b.feeds.length≤3:=by cases b <;> simp [Gt.feeds]
  have di:=zamp Gt.isIn egi
  have dk:=zamp Gt.isKeep egi
  walk_at "rd"
  refine zabg (fun σ H'=>∃ sm,σ=[some (.ref gl),some (.ref fl),some (.ref hl),some (.ref bh),some (.ref p),some (.ref sm)]∧Ch [] H1 H'∧H' sm=some (.lst (if b.isKeep then [] else b.feeds.map fun a=>bV (bs.getD a false)))) ?_ ?_
  ·walk_at "rd"
   rw [zagp]
   cases hK:b.isKeep with
   | true =>
    refine iteF ?_
    walk_at "rd"
   | false =>
    refine iteT ?_
    rw [er hK] at hpT
    walk_at "rd"
    rename_i tp htp
    rw [cut1]
    have ht9:upd H1 tp (HO.tup (b.feeds.map nV)) tp=some (.tup (b.feeds.map nV)):=zaae
    have c9:Ch [] H1 (upd H1 tp (HO.tup (b.feeds.map nV))):=Ch.new htp _
    generalize upd H1 tp (HO.tup (b.feeds.map nV))=H9 at ht9 c9 ⊢
    have hb9:=c9.get hbT (by simp)
    have sb:b.src=false∨b.feeds=[]:=by cases b <;> first | (exact .inl rfl) | (exact .inr rfl) | (cases hK)
    refine zaeo (b.feeds.map nV) (fun j ys σ H'=>H'=H9∧ys=(b.feeds.take j).map (fun a=>bV (bs.getD a false))∧∃ u,σ=[u,some (.ref bh)]) (by rw [sizeLine_eq,List.length_map]; omega) ⟨rfl,rfl,_,rfl⟩ ?_ ?_ ?_
    ·rintro j ys σ H' hj ⟨rfl,rfl,_⟩
     exact ⟨by simp; omega,SqT.of ht9⟩
    ·rintro j ys σ H' x hx ⟨rfl,rfl,u,rfl⟩
     rw [List.getElem?_map] at hx
     cases ea:b.feeds[j]? with
     | none=>rw [ea] at hx; cases hx
     | some a =>
      rw [ea] at hx
      cases hx
      have ma:=List.mem_of_getElem? ea
      have la:a < i:=by
       rcases sb with sb | sb
       ·exact zab4 (ok i b egi) sb a ma
       ·rw [sb] at ma; cases ma
      have at1:=zamo (vs:=bs) (a:=a) (by omega)
      unfold nV
      walk_at "rd"
      refine ⟨?_,_,rfl⟩
      rw [List.take_add_one,ea,List.map_append]
      rfl
    ·rintro ys σ H5 ⟨rfl,rfl,u,rfl⟩
     rw [List.length_map,List.take_length]
     intro D hD
     exact ⟨D,rfl,c9.trans (Ch.new hD _),zaae⟩
  rintro σ H3 ⟨sm,rfl,c3,hm3⟩
  have hb3:=c3.get g4.b (by simp)
  have hf3:=c3.get g4.f (by simp)
  have hh3:=c3.get g4.h (by simp)
  have hp3:=c3.get hpT (by simp)
  have c03:=g4.c.trans c3
  clear hbT hpT
  have fin:∀ (v:Bool) (x:V),x=bV v→some (HO.lst (bs.map bV++[x]))=some (HO.lst ((bs++[v]).map bV)):=fun v x e=>by rw [e,List.map_append]; rfl
  have lvb:(bs.map bV).length≤200:=by rw [List.length_map]; omega
  walk_at "rd"
  rw [zas5]
  cases hI:b.isIn with
  | true =>
   rw [hI] at di
   have hKn:b.isKeep=false:=by cases b <;> first | rfl | cases hI
   rw [hKn] at dk
   have hsr:b.src=true:=by cases b <;> first | rfl | cases hI
   obtain ⟨y,fs2,rfl⟩:∃ y fs2,fs'=y :: fs2:=by
    cases fs' with
    | nil=>simp at lf1 di; omega
    | cons y t=>exact ⟨y,t,rfl⟩
   refine iteT ?_
   walk_at "rd"
   refine ⟨(by simp [seqIndex?]:_=some 0),(rfl:_=some (bV y)),?_⟩
   walk_at "rd"
   exact ⟨⟨Ch.own hbh (Ch.own ffl c03),by rw [zaae]; exact fin y _ rfl,(by rw [zab0 nbf.symm zaae]; rfl:_=some (HO.lst (fs2.map bV))),zab0 nbh.symm (zab0 nfh.symm hh3)⟩,gb.push ok egi (fun h=>by rw [hsr] at h; cases h),by simp at lf1 di; omega,by simp at dk; omega⟩
  | false =>
   rw [hI] at di
   refine iteF ?_
   walk_at "rd"
   rw [zagp]
   cases hK:b.isKeep with
   | true =>
    rw [hK] at dk
    have hsr:b.src=true:=by cases b <;> first | rfl | cases hK
    obtain ⟨y,hs2,rfl⟩:∃ y hs2,hs'=y :: hs2:=by
     cases hs' with
     | nil=>simp at lh1 dk; omega
     | cons y t=>exact ⟨y,t,rfl⟩
    refine iteT ?_
    walk_at "rd"
    refine ⟨(by simp [seqIndex?]:_=some 0),(rfl:_=some (bV y)),?_⟩
    walk_at "rd"
    exact ⟨⟨Ch.own hbh (Ch.own fhl c03),by rw [zaae]; exact fin y _ rfl,zab0 nbf.symm (zab0 nfh hf3),(by rw [zab0 nbh.symm zaae]; rfl:_=some (HO.lst (hs2.map bV)))⟩,gb.push ok egi (fun h=>by rw [hsr] at h; cases h),by simp at di; omega,by simp at lh1 dk; omega⟩
   | false =>
    rw [hK] at dk hm3
    have hsr:b.src=false:=by cases b <;> first | rfl | (cases hI; done) | (cases hK; done)
    have lf2:fs'.length=(gs.drop (i + 1)).countP Gt.isIn:=by simp at di; omega
    have lh2:hs'.length=(gs.drop (i + 1)).countP Gt.isKeep:=by simp at dk; omega
    obtain ⟨v,ev9⟩:∃ v:Nat→Bool,v=fun a=>bs.getD a false:=⟨_,rfl⟩
    have hm3:H3 sm=some (.lst (b.feeds.map fun a=>bV (v a))):=by rw [hm3,ev9]; rfl
    have gbp:Gb gs (i + 1) (bs++[evB v b]):=gb.push ok egi fun _=>by rw [ev9]
    refine iteF ?_
    clear er ev f3 hp di dk
    cases b with
    | inp=>cases hsr
    | keep _ _=>cases hsr
    | zero =>
     have hm3:H3 sm=some (.lst []):=hm3
     walk_at "rd"
     refine ⟨(by rw [zaae,zapc]; rfl:_=some (HO.lst (List.map V.int [0]))),by simp,fun M m1 m2=>?_⟩
     have m1:M=0:=by simpa using m1
     subst m1
     walk_at "rd"
     exact ⟨⟨by walk_at "ch",by rw [zaae]; exact fin (evB v _) _ rfl,by walk_at "get",by walk_at "get"⟩,gbp,lf2,lh2⟩
    | one =>
     have hm3:H3 sm=some (.lst []):=hm3
     walk_at "rd"
     refine ⟨(by rw [zaae,zas2]; rfl:_=some (HO.lst (List.map V.int [1]))),by simp,fun M m1 m2=>?_⟩
     have m1:M=1:=by simpa using m1
     subst m1
     walk_at "rd"
     exact ⟨⟨by walk_at "ch",by rw [zaae]; exact fin (evB v _) _ rfl,by walk_at "get",by walk_at "get"⟩,gbp,lf2,lh2⟩
    | not x =>
     have hm3:H3 sm=some (.lst [.int (bi (v x))]):=hm3
     walk_at "rd"
     exact ⟨⟨by walk_at "ch",by rw [zaae]; exact fin (!v x) _ (by show V.int (1 - bi (v x))=V.int (bi (!v x)); rw [zas0]),by walk_at "get",by walk_at "get"⟩,gbp,lf2,lh2⟩
    | and x y =>
     have hm3:H3 sm=some (.lst [.int (bi (v x)),.int (bi (v y))]):=hm3
     walk_at "rd"
     refine ⟨(by rw [zaae,zas3]; rfl:_=some (HO.lst (List.map V.int [1,bi (v x),bi (v y)]))),by simp,fun M m1 m2=>?_⟩
     have m1:=zas1 m1 m2
     subst m1
     walk_at "rd"
     exact ⟨⟨by walk_at "ch",by rw [zaae]; exact fin (evB v _) _ rfl,by walk_at "get",by walk_at "get"⟩,gbp,lf2,lh2⟩
    | or x y =>
     have hm3:H3 sm=some (.lst [.int (bi (v x)),.int (bi (v y))]):=hm3
     walk_at "rd"
     refine ⟨(by show _=some (HO.lst [V.int (bi (v x)),V.int (bi (v y))]); walk_at "get" : _=some (HO.lst (List.map V.int [bi (v x),bi (v y)]))),by simp,fun a ha=>?_,?_⟩
     ·simp at ha
      rcases ha with rfl | rfl
      ·cases v x <;> decide
      ·cases v y <;> decide
     rw [zasz]
     walk_at "rd"
     exact ⟨⟨by walk_at "ch",by rw [zaae]; exact fin (evB v _) _ rfl,by walk_at "get",by walk_at "get"⟩,gbp,lf2,lh2⟩
    | xor x y =>
     have hm3:H3 sm=some (.lst [.int (bi (v x)),.int (bi (v y))]):=hm3
     walk_at "rd"
     exact ⟨⟨by walk_at "ch",by rw [zaae]; exact fin (xor (v x) (v y)) _ (by show V.int ((bi (v x) + bi (v y)) % 2)=V.int (bi (xor (v x) (v y))); rw [zasy]),by walk_at "get",by walk_at "get"⟩,gbp,lf2,lh2⟩
    | pick x y z =>
     have hm3:H3 sm=some (.lst [.int (bi (v x)),.int (bi (v y)),.int (bi (v z))]):=hm3
     walk_at "rd"
     rw [zapb]
     have ln:bV (evB v (Gt.pick x y z))=bV (if v x then v y else v z):=rfl
     cases hx:v x with
     | true =>
      rw [hx] at ln
      refine iteT ?_
      walk_at "rd"
      exact ⟨⟨by walk_at "ch",by rw [zaae]; exact fin (evB v (Gt.pick x y z)) _ (by show _=bV (if v x then v y else v z); rw [hx]; rfl),by walk_at "get",by walk_at "get"⟩,gbp,lf2,lh2⟩
     | false =>
      rw [hx] at ln
      refine iteF ?_
      walk_at "rd"
      exact ⟨⟨by walk_at "ch",by rw [zaae]; exact fin (evB v (Gt.pick x y z)) _ (by show _=bV (if v x then v y else v z); rw [hx]; rfl),by walk_at "get",by walk_at "get"⟩,gbp,lf2,lh2⟩
 ·rintro σ H' ⟨u4,u5,bs,fs',hs',rfl,g4,gb,_⟩
  have hb9:=g4.b
  walk_at "rd"
  exact q bh bs _ g4.c hbh hb9 (by rw [← lx]; exact gb)
end
end

section
section
variable {P:Program}{w:World}{K:PySem.W.Frag}{mg:Str→Option Value}{base:Heap}{f:Addr}{fd:FuncData}{k:Nat}
theorem av25:AF (defScope (top 25)) ["_law_gates", "_law_number"]:=⟨by decide +kernel⟩
def spLSrc:Sp:=fun vs H Q _=>∃ (gl:Addr) (gs:List Gt) (xs:List V) (n:Nat) (g:Gt),vs=[.ref gl,.int (n:Int)]∧H gl=some (.lst xs)∧Gs H gs xs∧gs[n]?=some g∧∀ H',Ch [] H H'→Q (.bl g.src) H'
theorem scLSrc:FnScope ["_law_gates", "_law_number"] ["_law_gates", "_law_number"] (defScope (top 25)):=⟨rfl,rfl,rfl,by decide +kernel,rfl,by decide +kernel,by decide +kernel⟩
theorem zaqy (F:Fun K "_law_is_source" "_law_is_source" (top 25) f fd):FnOk P w K mg base CX0 (k + 1) f fd ["_law_gates", "_law_number"] spLSrc:=by
 have nd:=scLSrc.nd
 refine F.ok scLSrc (fun vs H Q E h=>by obtain ⟨gl,gs,xs,n,g,rfl,_⟩:=h; rfl) (fun cdv A outer s0 H vs Q E hr h=>?_)
 obtain ⟨gl,gs,xs,n,g,rfl,hg,gg,eg,q⟩:=h
 refine ⟨_,(Pr.h (zaaf (zaas (zab7 zac5 (zaap zaa8 (zaap zaar (qv av25 0 rfl) (qv av25 1 rfl) (fun _ _=>rfl)) zaac (fun _ _=>rfl)) (zabf (zaaa zaao (zaaa zaao zaab zaah) zaah)) rfl)))),?_⟩
 (try dsimp only [cxOf])
 obtain ⟨wd,rs,ev,hs⟩:=zagn g
 obtain ⟨p,ep,hp⟩:=gg.at_ n g eg
 have at1:=zab8 ep
 rw [ev] at hp
 walk_at "rd"
 rename_i T hT
 show Q (V.bl (inV (V.str wd) _)) _
 rw [hs]
 exact q _ (Ch.new hT _)
end
end

section
local macro_rules | `(tactic| walk_at "user")=>`(tactic| first
 | (apply zach; (focus walk_at "get"); (focus with_reducible assumption))
 | (apply zaci; (focus walk_at "get"); (focus with_reducible assumption))
 | (apply dputI; (focus walk_at "get"); (focus walk_at "arith")))
structure Cm (N g:Nat) (ks ws:List Nat):Prop where
 nd:ks.Nodup
 le:∀ n∈ks,n≤g
 top:g∈ks
 ws:∀ n∈ws,n∈ks
theorem Cm.pop {N g n:Nat}{ks ws:List Nat} (h:Cm N g ks (ws++[n])):Cm N g ks ws:=⟨h.nd,h.le,h.top,fun m z=>h.ws m (List.mem_append_left _ z)⟩
theorem Cm.push {N g n:Nat}{ks ws:List Nat} (h:Cm N g ks ws) (hn:n ∉ ks) (l:n≤g):Cm N g (ks++[n]) (ws++[n]):=by
 refine ⟨List.nodup_append.mpr ⟨h.nd,by simp,fun x hx y hy=>by rw [List.mem_singleton.mp hy]; exact fun e=>hn (e ▸ hx)⟩,fun m z=>?_,List.mem_append_left _ h.top,fun m z=>?_⟩
 ·rcases List.mem_append.mp z with e | e
  ·exact h.le m e
  ·rw [List.mem_singleton.mp e]; exact l
 ·rcases List.mem_append.mp z with e | e
  ·exact List.mem_append_left _ (h.ws m e)
  ·exact List.mem_append_right _ e
theorem Cm.few {N g:Nat}{ks ws:List Nat} (h:Cm N g ks ws) (hg:g < N):ks.length≤N:=zafl N ks h.nd fun n m=>by have:=h.le n m; omega
theorem Cm.last {N g:Nat}{ks ws rs:List Nat} (h:Cm N g ks ws) (p:rs.Perm ks) (s:rs.Pairwise (·≤·)):∃ is:List Nat,rs=is++[g]∧g ∉ is:=by
 have hne:rs≠[]:=by rintro rfl; exact absurd (p.mem_iff.mpr h.top) (by simp)
 obtain ⟨is,l,rfl⟩:∃ is l,rs=is++[l]:=⟨rs.dropLast,rs.getLast hne,(List.dropLast_concat_getLast hne).symm⟩
 have l1:l≤g:=h.le l (p.mem_iff.mp (by simp))
 have l2:g≤l:=by
  rcases List.mem_append.mp (p.mem_iff.mpr h.top) with e | e
  ·exact (List.pairwise_append.mp s).2.2 g e l (by simp)
  ·rw [List.mem_singleton.mp e]; exact Nat.le_refl _
 have e:l=g:=by omega
 subst e
 refine ⟨is,rfl,fun z=>?_⟩
 have nd:=p.nodup_iff.mpr h.nd
 exact (List.nodup_append.mp nd).2.2 l z l (by simp) rfl
section
variable {P:Program}{w:World}{K:PySem.W.Frag}{mg:Str→Option Value}{base:Heap}{f:Addr}{fd:FuncData}{k:Nat}
theorem zab9:Nd "_law_is_source" := by decide +kernel
theorem av26:AF (defScope (top 26)) ["_law_gates", "_law_gate", "_law_found", "_law_met", "_law_one", "_law_feed"]:=⟨by decide +kernel⟩
theorem gl26:AG (defScope (top 26)) ["len", "_law_is_source", "sorted", "list"]:=⟨by decide +kernel⟩
def spCone:Sp:=fun vs H Q _=>∃ (gl:Addr) (gs:List Gt) (xs:List V) (g:Nat),vs=[.ref gl,.int (g:Int)]∧H gl=some (.lst xs)∧Gs H gs xs∧Oks gs∧gs.length < 64∧g < gs.length ∧
 ∀ (r:Addr) (is:List Nat) (H':Hp),Ch [] H H'→H r=none→H' r=some (.lst ((is++[g]).map nV))→g ∉ is→(∀ n∈is,n≤g)→is.length≤64→Q (.ref r) H'
theorem scCone:FnScope ["_law_gates", "_law_gate", "_law_found", "_law_met", "_law_one", "_law_feed"] ["_law_gates", "_law_gate"] (defScope (top 26)):=⟨rfl,rfl,rfl,by decide +kernel,rfl,by decide +kernel,by decide +kernel⟩
theorem zaqz (F:Fun K "_law_cone" "_law_cone" (top 26) f fd) (D_law_is_source:DefOk P w K mg base CX0 k "_law_is_source" ["_law_gates", "_law_number"] spLSrc) (z_len:mg "len" = none) (z_sorted:mg "sorted" = none) (z_list:mg "list" = none):FnOk P w K mg base CX0 (k + 1) f fd ["_law_gates", "_law_gate"] spCone:=by
 have nd:=scCone.nd
 refine F.ok scCone (fun vs H Q E h=>by obtain ⟨gl,gs,xs,g,rfl,_⟩:=h; rfl) (fun cdv A outer s0 H vs Q E hr h=>?_)
 obtain ⟨gl,gs,xs,g,rfl,hg,gg,ok,zg,gl64,q⟩:=h
 have hu:=zaei hr
 refine ⟨_,(Pr.h (zaaw (zaaq (i:=2) nd rfl (av26.l 2 rfl) (zabb (zaaa (qv av26 1 rfl) zaab zaad))) (zaaw (zaaq (i:=3) nd rfl (av26.l 3 rfl) (zady (zacf (qv av26 1 rfl) zace zadx) rfl rfl (by intro z; cases z) (by decide))) (zaag (zahf PassesOwn.never (zaan zah8 (zaaj zaal (gl26.g 0 rfl) z_len PySem.boot_len (zaaa (qv av26 2 rfl) zaab zaad) zabd zabe) zaac (nomark _)) (zaaw (zaaq (i:=4) nd rfl (av26.l 4 rfl) (zall (qv av26 2 rfl))) (zaaf (zaaz (zaco (zabu (zaak D_law_is_source hr (gl26.g 1 rfl) pass0 (zaaa (qv av26 0 rfl) (zaaa (qv av26 4 rfl) zaab zaad) zaad) zab9))) (zaaf (zabk PassesOwn.never rfl (zae6 (zab3 zae1 (zaap zaar (qv av26 0 rfl) (qv av26 4 rfl) (fun _ _=>rfl)) (zacb zaac) zaca)) (zaav (i:=5) nd rfl (av26.l 5 rfl)) (zaaf (zaaz (zaea hu (qv av26 5 rfl) (qv av26 3 rfl)) (zaag (zagh hu (qv av26 3 rfl) (qv av26 5 rfl) zace rfl) (zaaf (zaba (zabn PySem.F.plainAttrs_list PySem.F.slot_list_append PySem.F.type_list_append zaa4 (qv av26 2 rfl) (zaaa (qv av26 5 rfl) zaab zaad))))) zaat)))) zaat)))) (zaaf (zaas (zaaj zahr (gl26.g 2 rfl) z_sorted zahx (zaaa (zabc (zaj6 rfl) (gl26.g 3 rfl) z_list zadb (zaaa (qv av26 3 rfl) zaab zaad) zadc zadd) zaab zabh) zahy zahz))))))),?_⟩
 (try dsimp only [cxOf])
 refine zabg (fun σ H'=>∃ wl,σ=[some (.ref gl),some (.int (g:Int)),some (.ref wl),none,none,none]∧Ch [] H H'∧H' wl=some (.lst ([g].map nV))∧H wl=none) ?_ ?_
 ·walk_at "rd"
 rintro σ H1 ⟨wl,rfl,c1,hw1,fwl⟩
 refine zabg (fun σ H'=>∃ d,σ=[some (.ref gl),some (.int (g:Int)),some (.ref wl),some (.ref d),none,none]∧Ch [] H H'∧H' wl=some (.lst ([g].map nV))∧H' d=some (.dK ([g].map kt))∧H d=none) ?_ ?_
 ·walk_at "rd"
  rename_i d hd
  refine ⟨(rfl:_=List.map (fun kv=>(kV kv.1,kv.2)) ([g].map kt)),by simp,?_⟩
  have cd:=Ch.own (W:=[]) (o:=HO.dK (mergeK [] ([g].map kt))) hd (Ch.new hd (HO.dK []))
  exact ⟨d,rfl,c1.trans cd,cd.get hw1 (by simp),by rw [zaae]; rfl,chFree c1 hd⟩
 rintro σ H2 ⟨d,rfl,c2,hw2,hd2,fd0⟩
 have ndw:d≠wl:=zah6 hd2 hw2 (by intro z; cases z)
 have cn0:Cm gs.length g [g] [g]:=⟨by simp,by simp,by simp,by simp⟩
 refine ⟨(fun m σ H'=>∃ (ks ws:List Nat) (u v:Option V),σ=[some (.ref gl),some (.int (g:Int)),some (.ref wl),some (.ref d),u,v]∧Ch [] H H'∧H' d=some (.dK (ks.map kt))∧Cm gs.length g ks ws∧H' wl=some (.lst (ws.map nV))∧m=ws.length + 2 * (gs.length - ks.length)∧m≤1000),⟨_,[g],[g],_,_,rfl,c2,hd2,cn0,hw2,rfl,by simp; omega⟩,?_⟩
 rintro m σ H1 ⟨ks,ws,u,v,rfl,c,hk,cn,hw,rfl,hm⟩
 walk_at "rd"
 refine ite2 (fun hc=>?_) (fun hc=>?_)
 ·refine ⟨_,fun σ' H' z=>z,?_⟩
  have hne:ws≠[]:=by rintro rfl; simp at hc
  obtain ⟨ws,n,rfl⟩:∃ ws' n,ws=ws'++[n]:=⟨ws.dropLast,ws.getLast hne,(List.dropLast_concat_getLast hne).symm⟩
  have hla:((ws++[n]).map nV)[((ws++[n]).map nV).length - 1]?=some (nV n):=by simp
  have edl:((ws++[n]).map nV).dropLast=ws.map nV:=by rw [List.map_append]; exact List.dropLast_concat
  have cP:=Ch.own (o:=.lst (ws.map nV)) fwl c
  have hkP:upd H1 wl (.lst (ws.map nV)) d=some (.dK (ks.map kt)):=zab0 ndw hk
  have hwP:upd H1 wl (.lst (ws.map nV)) wl=some (.lst (ws.map nV)):=zaae
  rw [List.length_append,List.length_singleton] at hm
  refine zabg (fun σ H'=>σ=[some (.ref gl),some (.int (g:Int)),some (.ref wl),some (.ref d),some (.int (n:Int)),v]∧Ch [] H H'∧H' d=some (.dK (ks.map kt))∧H' wl=some (.lst (ws.map nV))) ?_ ?_
  ·refine ⟨_,rfl,.inl ⟨rfl,_,SqL.of hw⟩,wl,_,_,rfl,rfl,hw,hla,?_⟩
   rw [edl]
   exact ⟨rfl,cP,hkP,hwP⟩
  clear hk hw cP hkP hwP
  rintro σ H3 ⟨rfl,c3,hk,hw⟩
  have nk:=cn.ws n (by simp)
  have ng:=cn.le n nk
  have nlt:n < gs.length:=by omega
  obtain ⟨b,egn⟩:∃ b,gs[n]?=some b:=⟨_,List.getElem?_eq_getElem nlt⟩
  have gg3:=gg.tu (Tu.same c3)
  have hg3:=c3.get hg (by simp)
  obtain ⟨wd,rs,ev,h1,h2,h3,h4⟩:=zame b
  obtain ⟨p,ep,hp⟩:=gg.at_ n b egn
  have at1:=zab8 ep
  have cn1:=cn.pop
  walk_at "rd"
  rename_i H4 c4
  have hk4:=c4.get hk (by simp)
  have hw4:=c4.get hw (by simp)
  have c04:=c3.trans c4
  have kf:=cn.few gl64
  clear hk hw c3 c4
  rw [List.length_append,List.length_singleton]
  cases hsr:b.src with
  | true =>
   refine iteF ?_
   exact ⟨_,(by omega:ws.length + 2 * (gs.length - ks.length) < ws.length + 1 + 2 * (gs.length - ks.length)),ks,ws,_,_,rfl,c04,hk4,cn1,hw4,rfl,by omega⟩
  | false =>
   refine iteT ?_
   have hp4:=c04.get hp (by simp)
   rw [ev,h4 hsr] at hp4
   have hg4:=c04.get hg (by simp)
   have fl9:=zab4 (ok n b egn) hsr
   walk_at "rd"
   rename_i tp htp
   rw [cut1]
   have ht9:upd H4 tp (HO.tup (b.feeds.map nV)) tp=some (.tup (b.feeds.map nV)):=zaae
   have c9:Ch [] H4 (upd H4 tp (HO.tup (b.feeds.map nV))):=Ch.new htp _
   generalize upd H4 tp (HO.tup (b.feeds.map nV))=H9 at c9 ht9 ⊢
   refine zan0 (xs:=b.feeds.map nV) (fun j σ H'=>∃ ks' ws' v,σ=[some (.ref gl),some (.int (g:Int)),some (.ref wl),some (.ref d),some (.int (n:Int)),v]∧Ch [] H H'∧H' d=some (.dK (ks'.map kt))∧Cm gs.length g ks' ws'∧H' wl=some (.lst (ws'.map nV))∧H' tp=some (.tup (b.feeds.map nV))∧ws'.length + 2 * (gs.length - ks'.length)≤ws.length + 2 * (gs.length - ks.length)) ⟨ks,ws,_,rfl,c04.trans c9,c9.get hk4 (by simp),cn1,c9.get hw4 (by simp),ht9,Nat.le_refl _⟩ ?_ ?_ ?_
   ·rintro j σ H' hj ⟨ks',ws',v',rfl,c5,hk5,cn5,hw5,ht5,le5⟩
    exact SqT.of ht5
   ·rintro j x σ H' hx ⟨ks',ws',v',rfl,c5,hk5,cn5,hw5,ht5,le5⟩
    rw [List.getElem?_map] at hx
    cases e:b.feeds[j]? with
    | none=>rw [e] at hx; cases hx
    | some a =>
     rw [e] at hx
     cases hx
     have la:=fl9 a (List.mem_of_getElem? e)
     have kv:=zajm ks' a
     have kf5:=cn5.few gl64
     have kl9:(ks'.map kt).length≤64:=by rw [List.length_map]; omega
     have wl9:ws'.length≤1000:=by omega
     by_cases ea:a∈ks'
     ·rw [if_pos ea] at kv
      unfold nV
      clear hk4 hw4 hg4 hp4
      walk_at "rd"
      exact ⟨hw5,ht5,le5⟩
     ·rw [if_neg ea] at kv
      have cn6:=cn5.push ea (by omega)
      have kf6:=cn6.few gl64
      rw [List.length_append,List.length_singleton] at kf6
      have cD:=Ch.own (o:=.dK (putK (ks'.map kt) (.inl (a:Int)) (.bl true))) fd0 c5
      have hw6:upd H' d (.dK (putK (ks'.map kt) (.inl (a:Int)) (.bl true))) wl=some (.lst (ws'.map nV)):=zab0 (Ne.symm ndw) hw5
      have ntd:tp≠d:=zah6 ht5 hk5 (by intro z; cases z)
      have ntw:tp≠wl:=zah6 ht5 hw5 (by intro z; cases z)
      unfold nV at hw5 hw6 ⊢
      clear hk4 hw4 hg4 hp4
      walk_at "rd"
      exact ⟨by rw [zab0 ndw zaae,zao8 ea],cn6,by rw [zaae,List.map_append]; rfl,zab0 ntw (zab0 ntd ht5),by simp; omega⟩
   ·rintro σ H' ⟨ks',ws',v',rfl,c5,hk5,cn5,hw5,ht5,le5⟩
    exact ⟨_,(by omega:ws'.length + 2 * (gs.length - ks'.length) < ws.length + 1 + 2 * (gs.length - ks.length)),ks',ws',_,_,rfl,c5,hk5,cn5,hw5,rfl,by omega⟩
 ·have hnil:ws=[]:=by
   cases ws with
   | nil=>rfl
   | cons _ _=>exact absurd hc (by simp)
  subst hnil
  walk_at "rd"
  rename_i l hl
  have kf:=cn.few gl64
  refine ⟨(by rw [zaae]; simp [kt,kV]:_=some (HO.lst (List.map V.int (ks.map (fun n:Nat=>(n:Int)))))),by rw [List.length_map]; omega,fun p ns' pm ps hp=>?_⟩
  obtain ⟨ks',rfl,pk⟩:=zajn pm
  have pw:ks'.Pairwise (·≤·):=by
   rw [List.pairwise_map] at ps
   exact ps.imp fun h=>by omega
  obtain ⟨is,rfl,gi⟩:=cn.last pk pw
  have il:=pk.length_eq
  rw [List.length_append,List.length_singleton] at il
  have c9:=c.trans (Ch.new hl (HO.lst (List.map (fun kv=>kV kv.1) (ks.map kt))))
  exact q p is _ (c9.trans (Ch.new hp _)) (chFree c9 hp) (by rw [zaae,List.map_map]; rfl) gi (fun n hn=>cn.le n (pk.mem_iff.mp (List.mem_append_left _ hn))) (by omega)
end
end

section
structure GB (H0 H':Hp) (b gl:Addr) (c B:Int) (gs:List Gt) (xs:List V):Prop where
 ch:Ch [b] H0 H'
 at_:∃ c',H' b=some (.lst [.int c'])∧c≤c'∧c'≤c + B
 gl:H' gl=some (.lst xs)
 gg:Gs H' gs xs
 ok:Oks gs
theorem NS.gb {H0 H':Hp}{b gl:Addr}{c B:Int}{gs:List Gt}{xs:List V}{ins:Nat} (n:NS H0 H' b gl c B gs xs ins):GB H0 H' b gl c B gs xs:=⟨n.ch,n.at_,n.gl,n.gg,n.ok⟩
theorem GB.bump {H0 H' H1:Hp}{b gl:Addr}{c c' B:Int}{gs:List Gt}{xs:List V} (n:GB H0 H' b gl c B gs xs) (nb:gl≠b) (hb:H' b=some (.lst [.int c'])) (c1:Ch [b] H' H1) (hb1:H1 b=some (.lst [.int (c' + 1)])):GB H0 H1 b gl c (B + 1) gs xs:=by
 obtain ⟨c'',h1,h2,h3⟩:=n.at_
 rw [hb] at h1
 injection h1 with h1; injection h1 with h1; injection h1 with h1 _; injection h1 with h1
 subst h1
 exact ⟨n.ch.trans c1,⟨c' + 1,hb1,by omega,by omega⟩,c1.get n.gl (by simpa using nb),n.gg.tu (Tu.lst c1 hb),n.ok⟩
theorem GB.wk {H0 H':Hp}{b gl:Addr}{c B B':Int}{gs:List Gt}{xs:List V} (n:GB H0 H' b gl c B gs xs) (h:B≤B'):GB H0 H' b gl c B' gs xs:=by
 obtain ⟨c'',h1,h2,h3⟩:=n.at_
 exact ⟨n.ch,⟨c'',h1,h2,by omega⟩,n.gl,n.gg,n.ok⟩
theorem GB.same {H0 H' H1:Hp}{b gl:Addr}{c B:Int}{gs:List Gt}{xs:List V} (n:GB H0 H' b gl c B gs xs) (c1:Ch [] H' H1):GB H0 H1 b gl c B gs xs:=by
 obtain ⟨c'',h1,h2,h3⟩:=n.at_
 exact ⟨n.ch.trans (Ch.wk c1),⟨c'',c1.get h1 (by simp),h2,h3⟩,c1.get n.gl (by simp),n.gg.tu (Tu.same c1),n.ok⟩
theorem GB.push {H0 H':Hp}{b gl p:Addr}{c B:Int}{gs:List Gt}{xs:List V}{g:Gt} (n:GB H0 H' b gl c B gs xs) (nb:gl≠b) (fg:H0 gl=none) (hp:H' p=some (.tup g.vs)) (hg:g.ok gs.length (gs.length + 1)):GB H0 (upd H' gl (.lst (xs++[.ref p]))) b gl c B (gs++[g]) (xs++[.ref p]):=by
 obtain ⟨c'',h1,h2,h3⟩:=n.at_
 exact ⟨Ch.own fg n.ch,⟨c'',zab0 nb.symm h1,h2,h3⟩,zaae,n.gg.push n.gl hp,n.ok.push hg⟩
theorem GB.new {H0 H':Hp}{b gl g2:Addr}{c B:Int}{gs gs2:List Gt}{xs xs2:List V} (n:GB H0 H' b gl c B gs xs) (h:H' g2=some (.lst xs2)) (g:Gs H' gs2 xs2) (o:Oks gs2):GB H0 H' b g2 c B gs2 xs2:=⟨n.ch,n.at_,h,g,o⟩
theorem GB.fresh {H0 H':Hp}{b gl p:Addr}{c B c0:Int}{gs:List Gt}{xs:List V} (n:GB H0 H' b gl c B gs xs) (hb:H0 b=some (.lst [.int c0])) (h:H' p=none):H0 p=none∧p≠b∧p≠gl:=by
 have f:H0 p=none:=by
  cases e:H0 p with
  | none=>rfl
  | some o =>
   by_cases z:p=b
   ·obtain ⟨c9,h9,_⟩:=n.at_
    rw [z,h9] at h; cases h
   ·have:=n.ch.get e (by simpa using z)
    rw [this] at h; cases h
 exact ⟨f,(zaam hb f).symm,(zaam n.gl h).symm⟩
theorem zaq0 {m:Int} (h0:0≤m) (h1:m < 3):∃ (x:Str) (mk:Nat→Nat→Gt),atI [V.str "and",V.str "or",V.str "xor"] m=some (.str x)∧(∀ a c,(mk a c).vs=[.str x,nV a,nV c])∧(∀ a c i n,a < i→c < i→(mk a c).ok i n)∧(∀ a c,(mk a c).feeds=[a,c])∧∀ a c,(mk a c).src=false:=by
 have:m=0∨m=1∨m=2:=by omega
 rcases this with rfl | rfl | rfl
 ·exact ⟨"and",.and,rfl,fun _ _=>rfl,fun _ _ _ _ h1 h2=>⟨h1,h2⟩,fun _ _=>rfl,fun _ _=>rfl⟩
 ·exact ⟨"or",.or,rfl,fun _ _=>rfl,fun _ _ _ _ h1 h2=>⟨h1,h2⟩,fun _ _=>rfl,fun _ _=>rfl⟩
 ·exact ⟨"xor",.xor,rfl,fun _ _=>rfl,fun _ _ _ _ h1 h2=>⟨h1,h2⟩,fun _ _=>rfl,fun _ _=>rfl⟩
theorem zac2 (m:Int) {n:Nat} (h:0 < n):∃ q:Nat,m % (n:Int)=(q:Int)∧q < n:=by
 have h1:0≤m % (n:Int):=Int.emod_nonneg _ (by omega)
 have h2:m % (n:Int) < (n:Int):=Int.emod_lt_of_pos _ (by omega)
 exact ⟨(m % (n:Int)).toNat,by omega,by omega⟩
structure Pn (H H':Hp) (b R gl ol:Addr) (c B:Int) (N:Nat) (gs:List Gt) (xs:List V) (os:List Nat):Prop where
 gb:GB H H' b gl c B gs xs
 tu:H' R=some (.tup [.ref gl,.ref ol])
 len:gs.length≤N
 hol:H' ol=some (.lst (os.map nV))
 olt:∀ o∈os,o < gs.length
 ln:os.length≤N
 nb:gl≠b
 ob:ol≠b
section
variable {P:Program}{w:World}{K:PySem.W.Frag}{mg:Str→Option Value}{base:Heap}{f:Addr}{fd:FuncData}{k:Nat}
theorem av27:AF (defScope (top 27)) ["_law_script", "_law_at", "_law_ins", "_law_many", "_law_gates", "_law_k", "_law_m", "_law_other", "_law_third", "_law_last"]:=⟨by decide +kernel⟩
theorem gl27:AG (defScope (top 27)) ["range", "_law_next", "len"]:=⟨by decide +kernel⟩
def spLad (K:PySem.W.Frag):Sp:=fun vs H Q _=>∃ (a b:Addr) (ns:List Int) (c ins' many':Int) (ins many:Nat),vs=[.ref a,.ref b,.int ins',.int many']∧ins'=(ins:Int)∧many'=(many:Int)∧ins≤12∧many≤24 ∧
 Scr K H a ns∧H b=some (.lst [.int c])∧0≤c∧c < 2 ^ 59 ∧
 ∀ (R gl ol:Addr) (gs:List Gt) (xs:List V) (os:List Nat) (H':Hp),Pn H H' b R gl ol c 1000 48 gs xs os→Q (.ref R) H'
theorem scLad:FnScope ["_law_script", "_law_at", "_law_ins", "_law_many", "_law_gates", "_law_k", "_law_m", "_law_other", "_law_third", "_law_last"] ["_law_script", "_law_at", "_law_ins", "_law_many"] (defScope (top 27)):=⟨rfl,rfl,rfl,by decide +kernel,rfl,by decide +kernel,by decide +kernel⟩
theorem zas7 (F:Fun K "_law_ladder" "_law_ladder" (top 27) f fd) (D_law_next:DefOk P w K mg base CX0 k "_law_next" ["_law_script", "_law_at"] (spNext K)) (z_len:mg "len" = none) (z_range:mg "range" = none) :
  FnOk P w K mg base CX0 (k + 1) f fd ["_law_script", "_law_at", "_law_ins", "_law_many"] (spLad K):=by
 have nd:=scLad.nd
 refine F.ok scLad (fun vs H Q E h=>by obtain ⟨a,b,ns,c,ins',many',ins,many,rfl,_⟩:=h; rfl) (fun cdv A outer s H vs Q E hr h=>?_)
 obtain ⟨a,b,ns,c,ins',many',ins,many,rfl,rfl,rfl,hi,hm,hS,hb,h0,h1,q⟩:=h
 have hu:=zaei hr
 refine ⟨_,(Pr.h (zaaw (zaaq (i:=4) nd rfl (av27.l 4 rfl) (zaai zae3 (zaai zaoz (zabb (zaaa (zabf (zaaa zaao zaab zaah)) zaab zabx)) (qv av27 2 rfl)) (zabb (zaaa (zabf (zaaa zaao (zaaa zaac (zaaa (qv av27 2 rfl) zaab zaad) zaah) zaah)) zaab zabx)))) (zaag (zabk PassesOwn.never rfl (zabs (gl27.g 0 rfl) z_range (zaaa (qv av27 3 rfl) zaab zaad)) (zaav (i:=5) nd rfl (av27.l 5 rfl)) (zaaw (zaaq (i:=6) nd rfl (av27.l 6 rfl) (zaak D_law_next hr (gl27.g 1 rfl) pass0 (zaaa (qv av27 0 rfl) (zaaa (qv av27 1 rfl) zaab zaad) zaad) zaau)) (zaag (zaaq (i:=7) nd rfl (av27.l 7 rfl) (zaai zaax (zaai zaa7 (qv av27 6 rfl) zaac) (zaaj zaal (gl27.g 2 rfl) z_len PySem.boot_len (zaaa (qv av27 4 rfl) zaab zaad) zabd zabe))) (zaag (zaaq (i:=8) nd rfl (av27.l 8 rfl) (zaai zaax (zaai zaa7 (qv av27 6 rfl) zaac) (zaaj zaal (gl27.g 2 rfl) z_len PySem.boot_len (zaaa (qv av27 4 rfl) zaab zaad) zabd zabe))) (zaag (zaaq (i:=9) nd rfl (av27.l 9 rfl) (zaai zac3 (zaaj zaal (gl27.g 2 rfl) z_len PySem.boot_len (zaaa (qv av27 4 rfl) zaab zaad) zabd zabe) zaac)) (zaaf (zaaz (zaan zabt (zaai zaax (qv av27 6 rfl) zaac) zaac (nomark _)) (zaaf (zaba (zabn PySem.F.plainAttrs_list PySem.F.slot_list_append PySem.F.type_list_append zaa4 (qv av27 4 rfl) (zaaa (zabf (zaaa zaao (zaaa (qv av27 7 rfl) (zaaa (qv av27 9 rfl) (zaaa (qv av27 8 rfl) zaab zaad) zaad) zaad) zaah)) zaab zabx)))) (zaaf (zaaz (zaan zabt (zaai zaax (qv av27 6 rfl) zaac) zaac (nomark _)) (zaaf (zaba (zabn PySem.F.plainAttrs_list PySem.F.slot_list_append PySem.F.type_list_append zaa4 (qv av27 4 rfl) (zaaa (zabf (zaaa zaao (zaaa (qv av27 9 rfl) zaab zaad) zaah)) zaab zabx)))) (zaaf (zaba (zabn PySem.F.plainAttrs_list PySem.F.slot_list_append PySem.F.type_list_append zaa4 (qv av27 4 rfl) (zaaa (zabf (zaaa (zaap zaar (zabb (zaaa zaao (zaaa zaao (zaaa zaao zaab zaah) zaah) zaah)) (zaai zaax (qv av27 6 rfl) zaac) (fun _ _=>rfl)) (zaaa (qv av27 9 rfl) (zaaa (qv av27 7 rfl) zaab zaad) zaad) zaa3)) zaab zabx))))))))))))) (zaaf (zaas (zabf (zaaa (qv av27 4 rfl) (zaaa (zabb (zaaa (zaai zac3 (zaaj zaal (gl27.g 2 rfl) z_len PySem.boot_len (zaaa (qv av27 4 rfl) zaab zaad) zabd zabe) zaac) (zaaa (zaai zaax (zaak D_law_next hr (gl27.g 1 rfl) pass0 (zaaa (qv av27 0 rfl) (zaaa (qv av27 1 rfl) zaab zaad) zaad) zaau) (zaaj zaal (gl27.g 2 rfl) z_len PySem.boot_len (zaaa (qv av27 4 rfl) zaab zaad) zabd zabe)) zaab zaay) zaay)) zaab zaie) zaad))))))),?_⟩
 (try dsimp only [cxOf])
 refine zabg (fun σ H'=>∃ gl xs,σ=[some (.ref a),some (.ref b),some (.int (ins:Int)),some (.int (many:Int)),some (.ref gl),none,none,none,none,none]∧GB H H' b gl c 0 (List.replicate ins .inp++[.keep 1 ins]) xs∧H gl=none) ?_ ?_
 ·walk_at "rd"
  rename_i p1 hp1 p2 hp2 p3 hp3 p4 hp4 p5 hp5
  refine ⟨by rw [zaet,sizeLine_eq]; simp; omega,fun gl hgl=>⟨gl,(List.replicate ((ins:Int)).toNat [V.ref p1]).flatten++[V.ref p4],rfl,?_,?_⟩⟩
  ·have cc:=((((Ch.new hp1 (HO.tup [V.str (Str.ofString "in")])).trans (Ch.new hp2 _)).trans (Ch.new hp3 _)).trans (Ch.new hp4 _)).trans (Ch.new (W:=[]) hp5 (HO.lst [V.ref p4]))
   have e1:=((((Ch.new hp2 _).trans (Ch.new hp3 _)).trans (Ch.new hp4 _)).trans (Ch.new (W:=[]) hp5 (HO.lst [V.ref p4]))).get (zaae (H:=H) (a:=p1) (o:=HO.tup [V.str (Str.ofString "in")])) (by simp)
   have cG:=Ch.new (W:=[]) hgl (HO.lst ((List.replicate ((ins:Int)).toNat [V.ref p1]).flatten++[V.ref p4]))
   refine ⟨Ch.wk (cc.trans cG),⟨c,(cc.trans cG).get hb (by simp),by omega,by omega⟩,zaae,?_,?_⟩
   ·have f1:=cG.get e1 (by simp)
    have f4:=cG.get (zabi hp5 (zaae (a:=p4) (o:=HO.tup [V.str (Str.ofString "keep"),V.int 1,V.int ↑ins]))) (by simp)
    generalize upd _ gl _=HF at f1 f4 ⊢
    rw [zaet]
    refine ⟨by simp,fun i g e=>?_⟩
    by_cases z:i < ins
    ·rw [List.getElem?_append_left (by simpa using z),List.getElem?_replicate,if_pos z] at e
     cases e
     exact ⟨p1,by rw [List.getElem?_append_left (by simpa using z),List.getElem?_replicate,if_pos (by simpa using z)],f1⟩
    ·have z2:i=ins:=by have:=(List.getElem?_eq_some_iff.mp e).1; simp at this; omega
     subst z2
     rw [List.getElem?_append_right (by simp)] at e
     simp at e
     subst e
     exact ⟨p4,by rw [List.getElem?_append_right (by simp)]; simp,f4⟩
   ·intro i g e
    by_cases z:i < ins
    ·rw [List.getElem?_append_left (by simpa using z),List.getElem?_replicate,if_pos z] at e
     cases e
     exact True.intro
    ·have z2:i=ins:=by have:=(List.getElem?_eq_some_iff.mp e).1; simp at this; omega
     subst z2
     rw [List.getElem?_append_right (by simp)] at e
     simp at e
     subst e
     exact ⟨by omega,by omega,by simp⟩
  ·exact freeN hp1 (freeN hp2 (freeN hp3 (freeN hp4 (freeN hp5 hgl))))
 rintro σ H1 ⟨gl,xs,rfl,n,fg⟩
 have nb:gl≠b:=(zaam hb fg).symm
 walk_at "rd"
 refine zabr (fun i σ H'=>∃ gs xs u1 u2 u3 u4 u5,σ=[some (.ref a),some (.ref b),some (.int (ins:Int)),some (.int (many:Int)),some (.ref gl),u1,u2,u3,u4,u5]∧GB H H' b gl c (i:Int) gs xs∧gs.length=ins + 1 + i) ⟨_,_,_,_,_,_,_,rfl,n,by simp⟩ ?_ ?_
 ·rintro i σ H2 hi' ⟨gs,xs,u1,u2,u3,u4,u5,rfl,n,hl⟩
  have hi2:i < many:=by simpa using hi'
  obtain ⟨c',hb1,hc1,hc2⟩:=n.at_
  have hS1:Scr K H2 a ns:=hS.ch hb n.ch
  have hxl:=n.gg.len
  have gl1:=n.gl
  walk_at "rd"
  refine zabg (fun σ H'=>∃ m,0≤m∧σ=[some (.ref a),some (.ref b),some (.int (ins:Int)),some (.int (many:Int)),some (.ref gl),some (.int (0 + (i:Int))),some (.int m),u3,u4,u5]∧GB H H' b gl c (i + 1:Int) gs xs) ?_ ?_
  ·walk_at "rd"
   rename_i m H3 m0 m1 c3 hb3
   exact n.bump nb hb1 c3 hb3
  rintro σ H3 ⟨m,m0,rfl,n3⟩
  have gl3:=n3.gl
  obtain ⟨o,eo,ho⟩:=zac2 (m / 8) (n:=xs.length) (by omega)
  obtain ⟨t,et,ht⟩:=zac2 (m / 800) (n:=xs.length) (by omega)
  obtain ⟨l,el⟩:∃ l:Nat,(xs.length:Int) - 1=(l:Int):=⟨xs.length - 1,by omega⟩
  obtain ⟨x,mk,ax,mv,mo,_⟩:=zaq0 (m:=m % 3) (by omega) (by omega)
  clear n gl1 hS1 hb1
  walk_at "rd"
  refine ite2 (fun hc=>?_) (fun hc=>?_)
  ·walk_at "rd"
   rename_i p hp
   dsimp only
   rw [eo,et,el]
   have n4:=(n3.same (Ch.new hp (HO.tup (Gt.pick o l t).vs))).push (g:=.pick o l t) nb fg zaae ⟨by omega,by omega,by omega⟩
   exact ⟨n4.wk (by omega),by simp; omega⟩
  ·walk_at "rd"
   refine ite2 (fun hd=>?_) (fun hd=>?_)
   ·walk_at "rd"
    rename_i p hp
    dsimp only
    rw [el]
    have n4:=(n3.same (Ch.new hp (HO.tup (Gt.not l).vs))).push (g:=.not l) nb fg zaae (by show l < _; omega)
    exact ⟨n4.wk (by omega),by simp; omega⟩
   ·walk_at "rd"
    rename_i q1 hq1 p hp
    dsimp only
    rw [el,eo]
    have n4:=((n3.same (Ch.new hq1 (HO.lst [V.str (Str.ofString "and"),V.str (Str.ofString "or"),V.str (Str.ofString "xor")]))).same (Ch.new hp (HO.tup (mk l o).vs))).push (g:=mk l o) nb fg zaae (mo l o _ _ (by omega) (by omega))
    rw [mv] at n4
    exact ⟨n4.wk (by omega),by simp; omega⟩
 ·rintro σ H2 ⟨gs,xs,u1,u2,u3,u4,u5,rfl,n,hl⟩
  obtain ⟨c',hb1,hc1,hc2⟩:=n.at_
  have hS1:Scr K H2 a ns:=hS.ch hb n.ch
  have hxl:=n.gg.len
  have gl1:=n.gl
  walk_at "rd"
  rename_i z H3 z0 z1 c3 hb3 ol hol R hR
  obtain ⟨r2,e2,hr2⟩:=zac2 z (n:=xs.length) (by omega)
  obtain ⟨l,el⟩:∃ l:Nat,(xs.length:Int) - 1=(l:Int):=⟨xs.length - 1,by omega⟩
  dsimp only at hR ⊢
  rw [el,e2] at hR ⊢
  have hl:gs.length=ins + 1 + many:=by simpa using hl
  exact q R gl ol gs xs [l,r2] _ ⟨(((n.bump nb hb1 c3 hb3).same (Ch.new hol _)).same (Ch.new hR _)).wk (by simp; omega),zaae,by omega,zabi hR zaae,by intro o ho; simp at ho; omega,by simp,nb,((n.bump nb hb1 c3 hb3).fresh hb hol).2.1⟩
end
end

section
theorem GB.pre {H0 H H':Hp}{b gl:Addr}{c c0 B B0:Int}{gs:List Gt}{xs:List V} (n:GB H H' b gl c B gs xs) (c1:Ch [b] H0 H) (h1:c0≤c) (h2:c≤c0 + B0):GB H0 H' b gl c0 (B0 + B) gs xs:=by
 obtain ⟨c',h3,h4,h5⟩:=n.at_
 exact ⟨c1.trans n.ch,⟨c',h3,by omega,by omega⟩,n.gl,n.gg,n.ok⟩
def spNo:Sp:=fun _ _ _ _=>False
section
variable {P:Program}{w:World}{K:PySem.W.Frag}{mg:Str→Option Value}{base:Heap}{f:Addr}{fd:FuncData}{k:Nat}
theorem zagr:Nd "_law_broad" := by decide +kernel
theorem zafp:Nd "_law_net" := by decide +kernel
theorem zafu:Nd "_law_ladder" := by decide +kernel
theorem scBro:FnScope ["_law_script", "_law_at", "_law_many", "_law_gates", "_law_fresh", "_law_k", "_law_m", "_law_last", "_law_other"] ["_law_script", "_law_at"] (defScope (top 30)):=⟨rfl,rfl,rfl,by decide +kernel,rfl,by decide +kernel,by decide +kernel⟩
theorem zas8 (F:Fun K "_law_broad" "_law_broad" (top 30) f fd):FnOk P w K mg base CX0 (k + 1) f fd ["_law_script", "_law_at"] spNo :=
 F.ok scBro (fun vs H Q E h=>h.elim) (fun cdv A outer s H vs Q E hr h=>h.elim)
theorem av28:AF (defScope (top 28)) ["_law_script", "_law_at", "_law_small", "_law_m"]:=⟨by decide +kernel⟩
theorem gl28:AG (defScope (top 28)) ["_law_next", "_law_broad", "_law_net", "_law_ladder"]:=⟨by decide +kernel⟩
def spFst (K:PySem.W.Frag):Sp:=fun vs H Q _=>∃ (a b:Addr) (ns:List Int) (c:Int),vs=[.ref a,.ref b,.bl false]∧Scr K H a ns∧H b=some (.lst [.int c])∧0≤c∧c < 2 ^ 58 ∧
 ∀ (R gl ol:Addr) (gs:List Gt) (xs:List V) (os:List Nat) (H':Hp),Pn H H' b R gl ol c 1001 48 gs xs os→Q (.ref R) H'
theorem scFst:FnScope ["_law_script", "_law_at", "_law_small", "_law_m"] ["_law_script", "_law_at", "_law_small"] (defScope (top 28)):=⟨rfl,rfl,rfl,by decide +kernel,rfl,by decide +kernel,by decide +kernel⟩
theorem zas9 (F:Fun K "_law_first_net" "_law_first_net" (top 28) f fd) (D_law_next:DefOk P w K mg base CX0 k "_law_next" ["_law_script", "_law_at"] (spNext K)) (D_law_broad:DefOk P w K mg base CX0 k "_law_broad" ["_law_script", "_law_at"] spNo) (D_law_ladder:DefOk P w K mg base CX0 k "_law_ladder" ["_law_script", "_law_at", "_law_ins", "_law_many"] (spLad K)) (D_law_net:DefOk P w K mg base CX0 k "_law_net" ["_law_script", "_law_at", "_law_ins", "_law_keeps", "_law_many"] (spLNet K)) :
  FnOk P w K mg base CX0 (k + 1) f fd ["_law_script", "_law_at", "_law_small"] (spFst K):=by
 have nd:=scFst.nd
 refine F.ok scFst (fun vs H Q E h=>by obtain ⟨a,b,ns,c,rfl,_⟩:=h; rfl) (fun cdv A outer s H vs Q E hr h=>?_)
 obtain ⟨a,b,ns,c,rfl,hS,hb,h0,h1,q⟩:=h
 refine ⟨_,(Pr.h (zaaw (zaaq (i:=3) nd rfl (av28.l 3 rfl) (zaak D_law_next hr (gl28.g 0 rfl) pass0 (zaaa (qv av28 0 rfl) (zaaa (qv av28 1 rfl) zaab zaad) zaad) zaau)) (zaag (zaaz (zacp (zae5 (zabu (qv av28 2 rfl)) (zadu (zaan zabt (zaai zaax (qv av28 3 rfl) zaac) zaac (nomark _))))) (zaaf (zaas (zaak D_law_broad hr (gl28.g 1 rfl) pass0 (zaaa (qv av28 0 rfl) (zaaa (qv av28 1 rfl) zaab zaad) zaad) zagr))) zaat) (zaag (zaaz (zabu (qv av28 2 rfl)) (zaaf (zaas (zaak D_law_net hr (gl28.g 2 rfl) pass0 (zaaa (qv av28 0 rfl) (zaaa (qv av28 1 rfl) (zaaa (zaai zaax (zaai zaa7 (qv av28 3 rfl) zaac) zaac) (zaaa (zaai zaax (zaai zaa7 (qv av28 3 rfl) zaac) zaac) (zaaa (zaai zab2 zaac (zaai zaax (zaai zaa7 (qv av28 3 rfl) zaac) zaac)) zaab zaay) zaay) zaay) zaad) zaad) zafp))) zaat) (zaag (zaaz (zaan zabt (zaai zaax (qv av28 3 rfl) zaac) zaac (nomark _)) (zaaf (zaas (zaak D_law_ladder hr (gl28.g 3 rfl) pass0 (zaaa (qv av28 0 rfl) (zaaa (qv av28 1 rfl) (zaaa (zaai zab2 zaac (zaai zaax (zaai zaa7 (qv av28 3 rfl) zaac) zaac)) (zaaa (zaai zab2 zaac (zaai zaax (zaai zaa7 (qv av28 3 rfl) zaac) zaac)) zaab zaay) zaay) zaad) zaad) zafu))) zaat) (zaaf (zaas (zaak D_law_net hr (gl28.g 2 rfl) pass0 (zaaa (qv av28 0 rfl) (zaaa (qv av28 1 rfl) (zaaa (zaai zaax (zaai zaa7 (qv av28 3 rfl) zaac) zaac) (zaaa (zaai zaax (zaai zaa7 (qv av28 3 rfl) zaac) zaac) (zaaa (zaai zab2 zaac (zaai zaax (zaai zaa7 (qv av28 3 rfl) zaac) zaac)) zaab zaay) zaay) zaay) zaad) zaad) zafp)))))))),?_⟩
 (try dsimp only [cxOf])
 refine zabg (fun σ H'=>∃ m,0≤m∧σ=[some (.ref a),some (.ref b),some (.bl false),some (.int m)]∧Ch [b] H H'∧H' b=some (.lst [.int (c + 1)])) ?_ ?_
 ·walk_at "rd"
 rintro σ H1 ⟨m,m0,rfl,c1,hb1⟩
 have hS1:Scr K H1 a ns:=hS.ch hb c1
 obtain ⟨i1,e1⟩:∃ i1:Nat,3 + m / 3 % 4=(i1:Int):=⟨(3 + m / 3 % 4).toNat,by omega⟩
 obtain ⟨i2,e2⟩:∃ i2:Nat,4 + m / 12 % 9=(i2:Int):=⟨(4 + m / 12 % 9).toNat,by omega⟩
 obtain ⟨i3,e3⟩:∃ i3:Nat,m / 3 % 6=(i3:Int):=⟨(m / 3 % 6).toNat,by omega⟩
 obtain ⟨i4,e4⟩:∃ i4:Nat,m / 18 % 3=(i4:Int):=⟨(m / 18 % 3).toNat,by omega⟩
 obtain ⟨i5,e5⟩:∃ i5:Nat,3 + m / 54 % 10=(i5:Int):=⟨(3 + m / 54 % 10).toNat,by omega⟩
 walk_at "rd"
 refine ite2 (fun hc=>?_) (fun hc=>?_)
 ·walk_at "rd"
  rename_i R gl ol gs xs os H2 pn
  exact q R gl ol gs xs os _ ⟨(pn.gb.pre (c0:=c) (B0:=1) c1 (by omega) (by omega)).wk (by omega),pn.tu,pn.len,pn.hol,pn.olt,pn.ln,pn.nb,pn.ob⟩
 ·walk_at "rd"
  rename_i R gl ol gs xs os H2 ns2 htu hln hol hos lno f1 f2
  exact q R gl ol gs xs os _ ⟨(ns2.gb.pre (c0:=c) (B0:=1) c1 (by omega) (by omega)).wk (by omega),htu,hln.1,hol,hos,by omega,(zaam hb1 f1).symm,(zaam hb1 f2).symm⟩
theorem av34:AF (defScope (top 34)) ["_law_script", "_law_at", "_law_many", "_law_gates", "_law_k", "_law_m", "_law_last", "_law_other"]:=⟨by decide +kernel⟩
theorem gl34:AG (defScope (top 34)) ["range", "_law_next", "len", "int"]:=⟨by decide +kernel⟩
structure Ldr (gs:List Gt):Prop where
 g0:gs[0]?=some .inp
 g1:gs[1]?=some .inp
 g2:gs[2]?=some (.not 0)
 up:∀ (i:Nat) (g:Gt),3≤i→gs[i]?=some g→g.src=false∧(∀ a∈g.feeds,2≤a)∧(i - 1)∈g.feeds
theorem Ldr.push {gs:List Gt}{g:Gt} (h:Ldr gs) (l:3≤gs.length) (s:g.src=false) (f:∀ a∈g.feeds,2≤a) (m:(gs.length - 1)∈g.feeds):Ldr (gs++[g]):=by
 refine ⟨by rw [List.getElem?_append_left (by omega)]; exact h.g0,by rw [List.getElem?_append_left (by omega)]; exact h.g1,by rw [List.getElem?_append_left (by omega)]; exact h.g2,fun i b hi e=>?_⟩
 by_cases z:i < gs.length
 ·rw [List.getElem?_append_left z] at e
  exact h.up i b hi e
 ·have z2:i=gs.length:=by have:=(List.getElem?_eq_some_iff.mp e).1; simp at this; omega
  subst z2
  rw [List.getElem?_append_right (by simp)] at e
  simp at e
  subst e
  exact ⟨s,f,m⟩
def spLng (K:PySem.W.Frag):Sp:=fun vs H Q _=>∃ (a b:Addr) (ns:List Int) (c many':Int) (many:Nat),vs=[.ref a,.ref b,.int many']∧many'=(many:Int)∧many≤140∧Scr K H a ns∧H b=some (.lst [.int c])∧0≤c∧c < 2 ^ 58 ∧
 ∀ (gl:Addr) (gs:List Gt) (xs:List V) (H':Hp),GB H H' b gl c 1001 gs xs→Ldr gs→gs.length=3 + many→H gl=none→Q (.ref gl) H'
theorem scLng:FnScope ["_law_script", "_law_at", "_law_many", "_law_gates", "_law_k", "_law_m", "_law_last", "_law_other"] ["_law_script", "_law_at", "_law_many"] (defScope (top 34)):=⟨rfl,rfl,rfl,by decide +kernel,rfl,by decide +kernel,by decide +kernel⟩
theorem zata (F:Fun K "_law_long" "_law_long" (top 34) f fd) (D_law_next:DefOk P w K mg base CX0 k "_law_next" ["_law_script", "_law_at"] (spNext K)) (z_len:mg "len" = none) (z_range:mg "range" = none) (z_int:mg "int" = none) :
  FnOk P w K mg base CX0 (k + 1) f fd ["_law_script", "_law_at", "_law_many"] (spLng K):=by
 have nd:=scLng.nd
 refine F.ok scLng (fun vs H Q E h=>by obtain ⟨a,b,ns,c,many',many,rfl,_⟩:=h; rfl) (fun cdv A outer s H vs Q E hr h=>?_)
 obtain ⟨a,b,ns,c,many',many,rfl,rfl,hm,hS,hb,h0,h1,q⟩:=h
 have hu:=zaei hr
 refine ⟨_,(Pr.h (zaaw (zaaq (i:=3) nd rfl (av34.l 3 rfl) (zabb (zaaa (zabf (zaaa zaao zaab zaah)) (zaaa (zabf (zaaa zaao zaab zaah)) (zaaa (zabf (zaaa zaao (zaaa zaac zaab zaah) zaah)) zaab zabx) zabx) zabx))) (zaag (zabk PassesOwn.never rfl (zabs (gl34.g 0 rfl) z_range (zaaa (qv av34 2 rfl) zaab zaad)) (zaav (i:=4) nd rfl (av34.l 4 rfl)) (zaaw (zaaq (i:=5) nd rfl (av34.l 5 rfl) (zaak D_law_next hr (gl34.g 1 rfl) pass0 (zaaa (qv av34 0 rfl) (zaaa (qv av34 1 rfl) zaab zaad) zaad) zaau)) (zaag (zaaq (i:=6) nd rfl (av34.l 6 rfl) (zaai zac3 (zaaj zaal (gl34.g 2 rfl) z_len PySem.boot_len (zaaa (qv av34 3 rfl) zaab zaad) zabd zabe) zaac)) (zaaw (zaaq (i:=7) nd rfl (av34.l 7 rfl) (zaai zac3 (qv av34 6 rfl) (zabc zaew (gl34.g 3 rfl) z_int zahu (zaaa (zacu (zab7 zabt (zaai zaax (qv av34 5 rfl) zaac) zaac (nomark _)) (zadn (zab7 zah8 (qv av34 4 rfl) zaac (nomark _)))) zaab zak2) zahv zahw))) (zaaf (zaba (zabn PySem.F.plainAttrs_list PySem.F.slot_list_append PySem.F.type_list_append zaa4 (qv av34 3 rfl) (zaaa (zabf (zaaa (zaap zaar (zabb (zaaa zaao (zaaa zaao (zaaa zaao zaab zaah) zaah) zaah)) (zaai zaax (zaai zaa7 (qv av34 5 rfl) zaac) zaac) (fun _ _=>rfl)) (zaaa (qv av34 6 rfl) (zaaa (qv av34 7 rfl) zaab zaad) zaad) zaa3)) zaab zabx)))))))) (zaaf (zaas (qv av34 3 rfl)))))),?_⟩
 (try dsimp only [cxOf])
 refine zabg (fun σ H'=>∃ gl xs,σ=[some (.ref a),some (.ref b),some (.int (many:Int)),some (.ref gl),none,none,none,none]∧GB H H' b gl c 0 [.inp,.inp,.not 0] xs∧H gl=none) ?_ ?_
 ·walk_at "rd"
  rename_i p1 hp1 p2 hp2 p3 hp3 gl hgl
  have cc:=(((Ch.new hp1 (HO.tup [V.str (Str.ofString "in")])).trans (Ch.new hp2 (HO.tup [V.str (Str.ofString "in")]))).trans (Ch.new hp3 (HO.tup [V.str (Str.ofString "not"),V.int 0]))).trans (Ch.new (W:=[]) hgl (HO.lst [V.ref p1,V.ref p2,V.ref p3]))
  have f1:=zabi (u:=HO.lst [V.ref p1,V.ref p2,V.ref p3]) hgl (zabi (u:=HO.tup [V.str (Str.ofString "not"),V.int 0]) hp3 (zabi (u:=HO.tup [V.str (Str.ofString "in")]) hp2 (zaae (H:=H) (a:=p1) (o:=HO.tup [V.str (Str.ofString "in")]))))
  have f2:=zabi (u:=HO.lst [V.ref p1,V.ref p2,V.ref p3]) hgl (zabi (u:=HO.tup [V.str (Str.ofString "not"),V.int 0]) hp3 (zaae (a:=p2) (o:=HO.tup [V.str (Str.ofString "in")])))
  have f3:=zabi (u:=HO.lst [V.ref p1,V.ref p2,V.ref p3]) hgl (zaae (a:=p3) (o:=HO.tup [V.str (Str.ofString "not"),V.int 0]))
  refine ⟨⟨Ch.wk cc,⟨c,cc.get hb (by simp),by omega,by omega⟩,zaae,⟨rfl,fun i g e=>?_⟩,fun i g e=>?_⟩,freeN hp1 (freeN hp2 (freeN hp3 hgl))⟩
  ·match i,e with
   | 0,e=>cases e; exact ⟨p1,rfl,f1⟩
   | 1,e=>cases e; exact ⟨p2,rfl,f2⟩
   | 2,e=>cases e; exact ⟨p3,rfl,f3⟩
   | i + 3,e=>simp at e
  ·match i,e with
   | 0,e=>cases e; exact True.intro
   | 1,e=>cases e; exact True.intro
   | 2,e=>cases e; show 0 < 2; omega
   | i + 3,e=>simp at e
 rintro σ H1 ⟨gl,xs,rfl,n,fg⟩
 have nb:gl≠b:=(zaam hb fg).symm
 have ld:Ldr [.inp,.inp,.not 0]:=⟨rfl,rfl,rfl,fun i g h e=>by have:=(List.getElem?_eq_some_iff.mp e).1; simp at this; omega⟩
 walk_at "rd"
 refine zabr (fun i σ H'=>∃ gs xs u1 u2 u3 u4,σ=[some (.ref a),some (.ref b),some (.int (many:Int)),some (.ref gl),u1,u2,u3,u4]∧GB H H' b gl c (i:Int) gs xs∧Ldr gs∧gs.length=3 + i) ⟨_,_,_,_,_,_,rfl,n,ld,by simp⟩ ?_ ?_
 ·rintro i σ H2 hi' ⟨gs,xs,u1,u2,u3,u4,rfl,n,ld,hl⟩
  have hi2:i < many:=by simpa using hi'
  obtain ⟨c',hb1,hc1,hc2⟩:=n.at_
  have hS1:Scr K H2 a ns:=hS.ch hb n.ch
  have hxl:=n.gg.len
  walk_at "rd"
  refine zabg (fun σ H'=>∃ m,0≤m∧σ=[some (.ref a),some (.ref b),some (.int (many:Int)),some (.ref gl),some (.int (0 + (i:Int))),some (.int m),u3,u4]∧GB H H' b gl c (i + 1:Int) gs xs) ?_ ?_
  ·walk_at "rd"
   rename_i m H3 m0 m1 c3 hb3
   exact n.bump nb hb1 c3 hb3
  rintro σ H3 ⟨m,m0,rfl,n3⟩
  have gl3:=n3.gl
  clear n hS1 hb1
  walk_at "rd"
  refine zabg (fun σ H'=>∃ o:Nat,σ=[some (.ref a),some (.ref b),some (.int (many:Int)),some (.ref gl),some (.int (0 + (i:Int))),some (.int m),some (.int ((xs.length:Int) - 1)),some (.int (o:Int))]∧H'=H3∧o < gs.length∧2≤o) ?_ ?_
  ·obtain ⟨o,eo,o1,o2⟩:∃ o:Nat,(xs.length:Int) - 1 - (if decide (0 < 0 + (i:Int))=true then 1 else 0)=(o:Int)∧o < gs.length∧2≤o:=by
    by_cases z:0 < i
    ·exact ⟨xs.length - 2,by rw [if_pos (by simpa using z)]; omega,by omega,by omega⟩
    ·exact ⟨xs.length - 1,by rw [if_neg (by simpa using z)]; omega,by omega,by omega⟩
   obtain ⟨o',eo',o1',o2'⟩:∃ o:Nat,(xs.length:Int) - 1 - (if false=true then 1 else 0)=(o:Int)∧o < gs.length∧2≤o:=⟨xs.length - 1,by simp; omega,by omega,by omega⟩
   walk_at "rd"
   refine ite2 (fun hc=>?_) (fun hc=>?_)
   ·walk_at "rd"
    exact ⟨by dsimp only [List.set]; rw [eo],rfl,o1,o2⟩
   ·walk_at "rd"
    exact ⟨by dsimp only [List.set]; rw [eo'],rfl,o1',o2'⟩
  rintro σ H4 ⟨o,rfl,rfl,o1,o2⟩
  obtain ⟨l,el⟩:∃ l:Nat,(xs.length:Int) - 1=(l:Int):=⟨xs.length - 1,by omega⟩
  obtain ⟨x,mk,ax,mv,mo,mf,ms⟩:=zaq0 (m:=m / 5 % 3) (by omega) (by omega)
  walk_at "rd"
  rename_i q1 hq1 p hp
  rw [el]
  have n4:=((n3.same (Ch.new hq1 (HO.lst [V.str (Str.ofString "and"),V.str (Str.ofString "or"),V.str (Str.ofString "xor")]))).same (Ch.new hp (HO.tup (mk l o).vs))).push (g:=mk l o) nb fg zaae (mo l o _ _ (by omega) o1)
  rw [mv] at n4
  exact ⟨n4.wk (by omega),ld.push (by omega) (ms _ _) (by rw [mf]; intro z hz; simp at hz; omega) (by rw [mf]; simp; omega),by simp; omega⟩
 ·rintro σ H2 ⟨gs,xs,u1,u2,u3,u4,rfl,n,ld,hl⟩
  have gl1:=n.gl
  have hl:gs.length=3 + many:=by simpa using hl
  walk_at "rd"
  exact q gl gs xs _ (n.wk (by simp; omega)) ld hl fg
end
end

section
theorem cutN:∀ os:List Nat,cutV (os.map nV) (some 1) none=(os.drop 1).map nV
 | []=>rfl
 | x :: os=>by rw [List.map_cons,cut1]; rfl
section
variable {P:Program}{w:World}{K:PySem.W.Frag}{mg:Str→Option Value}{base:Heap}{f:Addr}{fd:FuncData}{k:Nat}
theorem zaeb:Nd "_law_first_net" := by decide +kernel
theorem gl29:AG (defScope (top 29)) ["_law_first_net", "_law_next", "len", "range"]:=⟨by decide +kernel⟩
theorem av29:AF (defScope (top 29)) ["_law_script", "_law_at", "_law_small", "_law_gates", "_law_outs", "_law_m", "_law_place", "_law_k"]:=⟨by decide +kernel⟩
def spSom (K:PySem.W.Frag):Sp:=fun vs H Q _=>∃ (a b:Addr) (ns:List Int) (c:Int),vs=[.ref a,.ref b,.bl false]∧Scr K H a ns∧H b=some (.lst [.int c])∧0≤c∧c < 2 ^ 57 ∧
 ∀ (R gl ol:Addr) (gs:List Gt) (xs:List V) (os:List Nat) (H':Hp),Pn H H' b R gl ol c 2000 53 gs xs os→Q (.ref R) H'
theorem scSom:FnScope ["_law_script", "_law_at", "_law_small", "_law_gates", "_law_outs", "_law_m", "_law_place", "_law_k"] ["_law_script", "_law_at", "_law_small"] (defScope (top 29)):=⟨rfl,rfl,rfl,by decide +kernel,rfl,by decide +kernel,by decide +kernel⟩
theorem zatb (F:Fun K "_law_some_net" "_law_some_net" (top 29) f fd) (D_law_next:DefOk P w K mg base CX0 k "_law_next" ["_law_script", "_law_at"] (spNext K)) (D_law_first_net:DefOk P w K mg base CX0 k "_law_first_net" ["_law_script", "_law_at", "_law_small"] (spFst K)) (z_len:mg "len" = none) (z_range:mg "range" = none) :
  FnOk P w K mg base CX0 (k + 1) f fd ["_law_script", "_law_at", "_law_small"] (spSom K):=by
 have nd:=scSom.nd
 refine F.ok scSom (fun vs H Q E h=>by obtain ⟨a,b,ns,c,rfl,_⟩:=h; rfl) (fun cdv A outer s H vs Q E hr h=>?_)
 obtain ⟨a,b,ns,c,rfl,hS,hb,h0,h1,q⟩:=h
 have hu:=zaei hr
 refine ⟨_,(Pr.h (zaag (zagd (zaak D_law_first_net hr (gl29.g 0 rfl) pass0 (zaaa (qv av29 0 rfl) (zaaa (qv av29 1 rfl) (zaaa (qv av29 2 rfl) zaab zaad) zaad) zaad) zaeb) (zagc rfl (zabv (zaav (i:=3) nd rfl (av29.l 3 rfl)) (zabv (zaav (i:=4) nd rfl (av29.l 4 rfl)) zadj)))) (zaaw (zaaq (i:=5) nd rfl (av29.l 5 rfl) (zaak D_law_next hr (gl29.g 1 rfl) pass0 (zaaa (qv av29 0 rfl) (zaaa (qv av29 1 rfl) zaab zaad) zaad) zaau)) (zaag (zaaz (zaan zah8 (zaai zaax (qv av29 5 rfl) zaac) zaac (nomark _)) (zaaf (zaas (zabf (zaaa (qv av29 3 rfl) (zaaa (qv av29 4 rfl) zaab zaad) zaad)))) zaat) (zaag (zaaq (i:=6) nd rfl (av29.l 6 rfl) (zaaj zaal (gl29.g 2 rfl) z_len PySem.boot_len (zaaa (qv av29 3 rfl) zaab zaad) zabd zabe)) (zaaw (zaaq (i:=3) nd rfl (av29.l 3 rfl) (zaai zae3 (qv av29 3 rfl) (zabb (zaaa (zabf (zaaa zaao zaab zaah)) (zaaa (zabf (zaaa zaao (zaaa (zaai zaax (zaai zaa7 (qv av29 5 rfl) zaac) zaac) (zaaa (zaai zaax (zaai zaa7 (qv av29 5 rfl) zaac) (zaai zab2 (qv av29 6 rfl) zaac)) zaab zaay) zaay) zaah)) zaab zabx) zabx)))) (zaag (zabk PassesOwn.never rfl (zabs (gl29.g 3 rfl) z_range (zaaa (zaai zab2 zaac (zaai zaax (zaai zaa7 (qv av29 5 rfl) zaac) zaac)) zaab zaay)) (zaav (i:=7) nd rfl (av29.l 7 rfl)) (zaaw (zaaq (i:=5) nd rfl (av29.l 5 rfl) (zaak D_law_next hr (gl29.g 1 rfl) pass0 (zaaa (qv av29 0 rfl) (zaaa (qv av29 1 rfl) zaab zaad) zaad) zaau)) (zaaf (zaba (zabn PySem.F.plainAttrs_list PySem.F.slot_list_append PySem.F.type_list_append zaa4 (qv av29 3 rfl) (zaaa (zabf (zaaa (zaap zaar (zabb (zaaa zaao (zaaa zaao (zaaa zaao zaab zaah) zaah) zaah)) (zaai zaax (qv av29 5 rfl) zaac) (fun _ _=>rfl)) (zaaa (zaai zab2 (qv av29 6 rfl) (zaai zaax (zaai zaa7 (qv av29 5 rfl) zaac) zaac)) (zaaa (zaai zaax (zaai zaa7 (qv av29 5 rfl) zaac) (zaaj zaal (gl29.g 2 rfl) z_len PySem.boot_len (zaaa (qv av29 3 rfl) zaab zaad) zabd zabe)) zaab zaay) zaay) zaa3)) zaab zabx)))))) (zaaf (zaas (zabf (zaaa (qv av29 3 rfl) (zaaa (zaai zae3 (zab3 zaia (qv av29 4 rfl) (zacb zaac) zaca) (zabb (zaaa (zaai zac3 (zaaj zaal (gl29.g 2 rfl) z_len PySem.boot_len (zaaa (qv av29 3 rfl) zaab zaad) zabd zabe) zaac) (zaaa (zaai zab2 (qv av29 6 rfl) (zaai zaax (zaai zaa7 (qv av29 5 rfl) zaac) zaac)) zaab zaay) zaay))) zaab zaay) zaad))))))))))),?_⟩
 (try dsimp only [cxOf])
 walk_at "rd"
 rename_i R gl ol gs xs os H1 pn
 obtain ⟨n,tu,len,hol,olt,ln,nb,ob⟩:=pn
 obtain ⟨c1,hb1,hc1,hc2⟩:=n.at_
 have hS1:Scr K H1 a ns:=hS.ch hb n.ch
 walk_at "rd"
 refine zabg (fun σ H'=>∃ m,0≤m∧σ=[some (.ref a),some (.ref b),some (.bl false),some (.ref gl),some (.ref ol),some (.int m),none,none]∧GB H H' b gl c 1002 gs xs∧H' ol=some (.lst (os.map nV))) ?_ ?_
 ·walk_at "rd"
  rename_i m H3 m0 m1 c3 hb3
  exact ⟨n.bump nb hb1 c3 hb3,c3.get hol (by simpa using ob)⟩
 rintro σ H2 ⟨m,m0,rfl,n2,ho2⟩
 have gl2:=n2.gl
 have hxl:=n2.gg.len
 clear n tu hol hb1 hS1
 walk_at "rd"
 refine ite2 (fun hc=>?_) (fun hc=>?_)
 ·walk_at "rd"
  rename_i R2 hR2
  exact q R2 gl ol gs xs os _ ⟨(n2.same (Ch.new hR2 _)).wk (by omega),zaae,by omega,zabi hR2 ho2,olt,by omega,nb,ob⟩
 obtain ⟨q1,e1,hq1⟩:=zac2 (m / 6) (n:=xs.length + 2) (by omega)
 obtain ⟨f1,f2⟩:0≤m / 3 % 2∧m / 3 % 2 < 2:=by omega
 walk_at "rd"
 walk_at "rd"
 refine zabg (fun σ H'=>∃ g2 xs2,σ=[some (.ref a),some (.ref b),some (.bl false),some (.ref g2),some (.ref ol),some (.int m),some (.int (xs.length:Int)),none]∧GB H H' b g2 c 1002 (gs++[.inp,.keep (m / 3 % 2) q1]) xs2∧H' ol=some (.lst (os.map nV))∧H g2=none) ?_ ?_
 ·walk_at "rd"
  rename_i p1 hp1 p2 hp2 p3 hp3 g2 hg2
  dsimp only at hp3 hg2 ⊢
  have e1':m / 6 % ((xs.length:Int) + 2)=(q1:Int):=by rw [← e1]; rfl
  rw [e1'] at hp3 hg2 ⊢
  have cc:=(((Ch.new hp1 (HO.tup [V.str (Str.ofString "in")])).trans (Ch.new hp2 (HO.tup [V.str (Str.ofString "keep"),V.int (m / 3 % 2),V.int (q1:Int)]))).trans (Ch.new hp3 (HO.lst [V.ref p1,V.ref p2]))).trans (Ch.new (W:=[]) hg2 (HO.lst (xs++[V.ref p1,V.ref p2])))
  have k1:=zabi (u:=HO.lst (xs++[V.ref p1,V.ref p2])) hg2 (zabi (u:=HO.lst [V.ref p1,V.ref p2]) hp3 (zabi (u:=HO.tup [V.str (Str.ofString "keep"),V.int (m / 3 % 2),V.int (q1:Int)]) hp2 (zaae (H:=H2) (a:=p1) (o:=HO.tup [V.str (Str.ofString "in")]))))
  have k2:=zabi (u:=HO.lst (xs++[V.ref p1,V.ref p2])) hg2 (zabi (u:=HO.lst [V.ref p1,V.ref p2]) hp3 (zaae (a:=p2) (o:=HO.tup [V.str (Str.ofString "keep"),V.int (m / 3 % 2),V.int (q1:Int)])))
  have fr:=(n2.fresh hb (freeN hp1 (freeN hp2 (freeN hp3 hg2)))).1
  have n9:=n2.same cc
  refine ⟨n9.new zaae ⟨by simp [hxl],fun i g e=>?_⟩ fun i g e=>?_,cc.get ho2 (by simp),fr⟩
  ·by_cases z:i < gs.length
   ·rw [List.getElem?_append_left z] at e
    obtain ⟨p',h1,h2⟩:=n9.gg.at_ i g e
    exact ⟨p',by rw [List.getElem?_append_left (by rw [hxl]; exact z)]; exact h1,h2⟩
   ·obtain ⟨j,rfl⟩:∃ j,i=gs.length + j:=⟨i - gs.length,by omega⟩
    rw [List.getElem?_append_right (by omega),show gs.length + j - gs.length=j by omega] at e
    rw [List.getElem?_append_right (by omega),show gs.length + j - xs.length=j by omega]
    match j,e with
    | 0,e=>cases e; exact ⟨p1,rfl,k1⟩
    | 1,e=>cases e; exact ⟨p2,rfl,k2⟩
    | j + 2,e=>simp at e
  ·rw [List.length_append,show ([Gt.inp,Gt.keep (m / 3 % 2) q1]).length=2 from rfl]
   by_cases z:i < gs.length
   ·rw [List.getElem?_append_left z] at e
    exact Gt.ok_mono (n2.ok i g e) (by omega)
   ·obtain ⟨j,rfl⟩:∃ j,i=gs.length + j:=⟨i - gs.length,by omega⟩
    rw [List.getElem?_append_right (by omega),show gs.length + j - gs.length=j by omega] at e
    match j,e with
    | 0,e=>cases e; exact True.intro
    | 1,e=>cases e; exact ⟨f1,f2,by omega⟩
    | j + 2,e=>simp at e
 rintro σ H3 ⟨g2,xs2,rfl,n3,ho3,fg2⟩
 have nb2:g2≠b:=(zaam hb fg2).symm
 have nol:ol≠g2:=by
  rintro rfl
  obtain ⟨p,ep,hp⟩:=n3.gg.at_ gs.length .inp (by simp)
  have h9:=n3.gl
  rw [ho3] at h9
  injection h9 with h9
  injection h9 with h9
  rw [← h9,List.getElem?_map] at ep
  cases e:os[gs.length]? <;> rw [e] at ep <;> cases ep
 clear n2 gl2 ho2
 walk_at "rd"
 refine zabr (fun i σ H'=>∃ gs3 xs3 u m,0≤m∧σ=[some (.ref a),some (.ref b),some (.bl false),some (.ref g2),some (.ref ol),some (.int m),some (.int (xs.length:Int)),u]∧GB H H' b g2 c (1002 + i:Int) gs3 xs3∧H' ol=some (.lst (os.map nV))∧gs3.length=gs.length + 2 + i) ⟨_,_,_,m,m0,rfl,n3.wk (by simp),ho3,by simp⟩ ?_ ?_
 ·rintro i σ H4 hi' ⟨gs3,xs3,u,m,m0,rfl,n,ho4,hl⟩
  have hi2:i < 3:=by omega
  obtain ⟨c',hb1,hc1,hc2⟩:=n.at_
  have hS1:Scr K H4 a ns:=hS.ch hb n.ch
  have hxl3:=n.gg.len
  walk_at "rd"
  refine zabg (fun σ H'=>∃ m,0≤m∧σ=[some (.ref a),some (.ref b),some (.bl false),some (.ref g2),some (.ref ol),some (.int m),some (.int (xs.length:Int)),some (.int (0 + (i:Int)))]∧GB H H' b g2 c (1002 + i + 1:Int) gs3 xs3∧H' ol=some (.lst (os.map nV))) ?_ ?_
  ·walk_at "rd"
   rename_i m H3 m0 m1 c3 hb3
   exact ⟨n.bump nb2 hb1 c3 hb3,c3.get ho4 (by simpa using ob)⟩
  rintro σ H5 ⟨m,m0,rfl,n5,ho5⟩
  have gl5:=n5.gl
  clear n hS1 hb1 ho4
  obtain ⟨o,eo,hoo⟩:=zac2 (m / 6) (n:=xs3.length) (by omega)
  obtain ⟨l,el⟩:∃ l:Nat,(xs.length:Int) + m / 3 % 2=(l:Int):=⟨((xs.length:Int) + m / 3 % 2).toNat,by omega⟩
  obtain ⟨x,mk,ax,mv,mo,mf,ms⟩:=zaq0 (m:=m % 3) (by omega) (by omega)
  walk_at "rd"
  rename_i w1 hw1 p hp
  dsimp only
  rw [el,eo]
  have n6:=(n5.same (Ch.new hw1 (HO.lst [V.str (Str.ofString "and"),V.str (Str.ofString "or"),V.str (Str.ofString "xor")]))).same (Ch.new hp (HO.tup (mk l o).vs))
  have n7:=n6.push (g:=mk l o) nb2 fg2 zaae (mo l o _ _ (by omega) (by omega))
  rw [mv] at n7
  exact ⟨n7.wk (by omega),zab0 nol (zabi hp (zabi hw1 ho5)),by simp; omega⟩
 ·rintro σ H4 ⟨gs3,xs3,u,m,m0,rfl,n,ho4,hl⟩
  have gl4:=n.gl
  have hxl3:=n.gg.len
  have hl4:gs3.length≤gs.length + 5:=by rw [hl]; omega
  walk_at "rd"
  rename_i s1 hs1 s2 hs2
  rw [cutN] at hs2 ⊢
  obtain ⟨o,eo⟩:∃ o:Nat,(xs3.length:Int) - 1=(o:Int):=⟨xs3.length - 1,by omega⟩
  obtain ⟨l,el⟩:∃ l:Nat,(xs.length:Int) + m / 60000 % 2=(l:Int):=⟨((xs.length:Int) + m / 60000 % 2).toNat,by omega⟩
  dsimp only
  rw [eo,el]
  refine ⟨by rw [sizeLine_eq]; simp; omega,fun s3 hs3=>?_⟩
  refine ⟨by rw [sizeLine_eq]; simp,fun R hR=>?_⟩
  have fr:=(n.fresh hb (freeN hs1 (freeN hs2 hs3))).2.1
  refine q R g2 s3 gs3 xs3 (os.drop 1++[o,l]) _ ⟨((((n.same (Ch.new hs1 _)).same (Ch.new hs2 _)).same (Ch.new hs3 _)).same (Ch.new hR _)).wk (by omega),zaae,by omega,?_,fun z hz=>?_,by simp; omega,nb2,fr⟩
  ·rw [zabi hR zaae,List.map_append]; rfl
  ·rcases List.mem_append.mp hz with hz | hz
   ·have:=olt z (List.mem_of_mem_drop hz); omega
   ·simp at hz; omega
end
end

section
structure NK (kb:List (Nat × Bool)):Prop where
 nd:(kb.map (·.1)).Nodup
theorem zaq1 {kb:List (Nat × Bool)} (nk:NK kb) (n:Nat) (b:Bool):∃ kb',putK (kbV kb) (.inl (n:Int)) (bV b)=kbV kb'∧kb'.length≤kb.length + 1∧NK kb':=by
 have va:=zadi (Sum.inl (n:Int):Key) (kbV kb)
 by_cases e:∃ c,kb.lookup n=some c
 ·refine ⟨kb.map fun p=>if p.1=n then (n,b) else p,?_,by simp,⟨?_⟩⟩
  ·obtain ⟨c,ec⟩:=e
   rw [zafm,ec] at va
   unfold putK
   rw [if_pos (by rw [va]; rfl)]
   unfold kbV
   rw [List.map_map,List.map_map]
   refine List.map_congr_left fun p _=>?_
   show (if (Sum.inl (p.1:Int):Key)=.inl (n:Int) then ((Sum.inl (p.1:Int):Key),bV b) else kb1 p)=kb1 (if p.1=n then (n,b) else p)
   by_cases h:p.1=n
   ·rw [if_pos (by rw [h]),if_pos h,h]; rfl
   ·rw [if_neg (fun z=>h (by have:=Sum.inl.inj z; omega)),if_neg h]
  ·rw [List.map_map]
   have:(fun p:Nat × Bool=>(if p.1=n then (n,b) else p).1)=fun p=>p.1:=funext fun p=>by split <;> simp_all
   show (kb.map fun p:Nat × Bool=>(if p.1=n then (n,b) else p).1).Nodup
   rw [this]
   exact nk.nd
 ·have no:n ∉ kb.map (·.1):=fun z=>e (zacr.mp z)
  refine ⟨kb++[(n,b)],?_,by simp,⟨?_⟩⟩
  ·have hv:valV (kbV kb) (.inl (n:Int))=none:=by
    rw [zafm]
    cases ec:kb.lookup n with
    | none=>rfl
    | some c=>exact absurd ⟨c,ec⟩ e
   rw [zai8 _ hv]
   unfold kbV
   rw [List.map_append]
   rfl
  ·rw [List.map_append]
   exact List.nodup_append.mpr ⟨nk.nd,by simp,fun x hx y hy=>by rw [List.mem_singleton.mp hy]; rintro rfl; exact no hx⟩
theorem zajp:∀ (l:List (Nat × Bool)) {kb:List (Nat × Bool)},NK kb→∃ kb',mrg (kbV kb) (l.map kb1)=kbV kb'∧kb'.length≤kb.length + l.length∧NK kb'
 | [],kb,nk=>⟨kb,rfl,Nat.le_refl _,nk⟩
 | p :: l,kb,nk=>by
  obtain ⟨k1,e1,l1,n1⟩:=zaq1 nk p.1 p.2
  obtain ⟨k2,e2,l2,n2⟩:=zajp l n1
  refine ⟨k2,?_,by simp; omega,n2⟩
  show mrg (putK (kbV kb) (.inl (p.1:Int)) (bV p.2)) (l.map kb1)=_
  rw [e1,e2]
theorem zatc {a b:Bool} (h:bV a=bV b):a=b:=by
 cases a <;> cases b <;> first | rfl | (exact absurd h (by intro z; injection z with z; cases z))
theorem zamt {β:Nat→Bool}:∀ (l:List Nat) (acc:List (Key × V)) (n:Nat),valV (mrg acc ((l.map fun a=>(a,β a)).map kb1)) (.inl (n:Int))=if n∈l then some (bV (β n)) else valV acc (.inl (n:Int))
 | [],acc,n=>rfl
 | k :: l,acc,n=>by
  show valV (mrg (putK acc (.inl (k:Int)) (bV (β k))) ((l.map fun a=>(a,β a)).map kb1)) _=_
  rw [zamt l,zadr]
  by_cases e:n∈l
  ·simp [e]
  ·by_cases e2:n=k
   ·subst e2; simp
   ·have:¬ ((Sum.inl (n:Int):Key)=Sum.inl (k:Int)):=fun z=>e2 (by have:=Sum.inl.inj z; omega)
    simp [e,e2,this]
theorem zaq2 {kb:List (Nat × Bool)} (nk:NK kb):∀ p∈kbV kb,valV (kbV kb) p.1=some p.2∧flatV p.2=true:=fun p hp=>by
 obtain ⟨q,hq,rfl⟩:=List.mem_map.mp hp
 refine ⟨?_,rfl⟩
 show valV (kbV kb) (.inl (q.1:Int))=some (bV q.2)
 rw [zafm]
 have:kb.lookup q.1=some q.2:=by
  have nd:=nk.nd
  clear nk hp
  induction kb with
  | nil=>cases hq
  | cons r kb ih =>
   rw [List.map_cons,List.nodup_cons] at nd
   obtain ⟨r1,r2⟩:=r
   rw [List.lookup_cons]
   rcases List.mem_cons.mp hq with z | hq2
   ·rw [z]
    simp
   ·have ne:q.1≠r1:=fun z=>nd.1 (by rw [← z]; exact List.mem_map.mpr ⟨q,hq2,rfl⟩)
    rw [beq_eq_false_iff_ne.mpr ne]
    exact ih hq2 nd.2
 rw [this]
 rfl
theorem zamu (z:Int):V.int (z % 2)=bV (decide (z % 2=1)):=by
 have:z % 2=0∨z % 2=1:=by omega
 rcases this with h | h <;> rw [h] <;> rfl
theorem zatd {H H':Hp} (h:Ch [] H H') {l:List (Nat × Bool)}{ts:List Addr} (p:Paired (fun kv t=>H t=some (.tup [kV kv.1,kv.2])) (l.map kb1) ts):Paired (fun kv t=>H' t=some (.tup [kV kv.1,kv.2])) (l.map kb1) ts:=zab6 (fun _ _ z=>h.get z (by simp)) p
theorem freeB {H H':Hp}{b p:Addr}{o:HO} (c:Ch [b] H H') (hb:H' b=some o) (h:H' p=none):H p=none:=by
 cases e:H p with
 | none=>rfl
 | some o' =>
  by_cases z:p=b
  ·rw [z,hb] at h; cases h
  ·rw [c.get e (by simpa using z)] at h; cases h
structure PG (H0 H:Hp) (N:Nat) (p:Addr) (ps:List Nat):Prop where
 at_:H p=some (.lst (ps.map nV))
 lt:∀ n∈ps,n < N
 len:ps.length≤70
 fr:H0 p=none
theorem PG.ch {H0 H H':Hp}{N:Nat}{p:Addr}{ps:List Nat} (h:PG H0 H N p ps) (c:Ch [] H H'):PG H0 H' N p ps:=⟨c.get h.at_ (by simp),h.lt,h.len,h.fr⟩
theorem at4 {H0 H:Hp}{N:Nat}{p1 p2 p3 p4:Addr}{l1 l2 l3 l4:List Nat} (h1:PG H0 H N p1 l1) (h2:PG H0 H N p2 l2) (h3:PG H0 H N p3 l3) (h4:PG H0 H N p4 l4) (n1:0 < l1.length) (n2:0 < l2.length) (n3:0 < l3.length) (n4:0 < l4.length) {m:Int} (m0:0≤m) (m1:m < 4):∃ p ps,atI [V.ref p1,V.ref p2,V.ref p3,V.ref p4] m=some (.ref p)∧PG H0 H N p ps∧0 < ps.length:=by
 have:m=0∨m=1∨m=2∨m=3:=by omega
 rcases this with rfl | rfl | rfl | rfl
 ·exact ⟨p1,l1,rfl,h1,n1⟩
 ·exact ⟨p2,l2,rfl,h2,n2⟩
 ·exact ⟨p3,l3,rfl,h3,n3⟩
 ·exact ⟨p4,l4,rfl,h4,n4⟩
structure TK (W:List Addr) (H0 H:Hp) (i:Nat) (ys:List V):Prop where
 ex:∃ (l:List (Nat × Bool)) (ts:List Addr),ys=ts.map V.ref∧ts.length=l.length∧l.length≤i∧Paired (fun kv t=>H t=some (.tup [kV kv.1,kv.2])) (l.map kb1) ts∧Ch W H0 H
theorem TK.add {W:List Addr}{H0 H H':Hp}{i n:Nat}{b:Bool}{ys:List V}{t:Addr} (h:TK W H0 H i ys) (c:Ch W H H') (k:Tu H H') (e:H' t=some (.tup [V.int (n:Int),bV b])):TK W H0 H' (i + 1) (ys++[.ref t]):=by
 obtain ⟨l,ts,rfl,e1,e2,e3,e4⟩:=h.ex
 refine ⟨l++[(n,b)],ts++[t],(List.map_append (f:=V.ref) (l₁:=ts) (l₂:=[t])).symm,by simp [e1],by simp; omega,?_,e4.trans c⟩
 rw [List.map_append]
 exact zac1 (x:=kb1 (n,b)) (y:=t) e (zab6 (fun _ _ z=>k _ _ z) e3)
theorem TK.skip {W:List Addr}{H0 H H':Hp}{i:Nat}{ys:List V} (h:TK W H0 H i ys) (c:Ch W H H') (k:Tu H H'):TK W H0 H' (i + 1) ys:=by
 obtain ⟨l,ts,rfl,e1,e2,e3,e4⟩:=h.ex
 exact ⟨l,ts,rfl,e1,by omega,zab6 (fun _ _ z=>k _ _ z) e3,e4.trans c⟩
theorem zaq3 (xs:List V):cutV xs none (some 2)=xs.take 2:=by
 unfold cutV
 have h1:HT.sIx xs.length 0 none=0:=rfl
 have h2:HT.sIx xs.length xs.length (some 2)=min 2 xs.length:=rfl
 rw [h1,h2,List.drop_zero,Nat.sub_zero]
 by_cases h:2≤xs.length
 ·rw [show min 2 xs.length=2 by omega]
 ·rw [show min 2 xs.length=xs.length by omega,List.take_length,List.take_of_length_le (by omega)]
theorem zamv {x:Bool}{R A B:Prop} (h2:¬ x=true→R→B) (h1:x=true→R→A) (r:R):if x=true then A else B:=by
 split
 ·exact h1 ‹_› r
 ·exact h2 ‹_› r
section
variable {P:Program}{w:World}{K:PySem.W.Frag}{mg:Str→Option Value}{base:Heap}{f:Addr}{fd:FuncData}{k:Nat}
theorem zaef:Nd "_law_cone" := by decide +kernel
theorem av33:AF (defScope (top 33)) ["_law_script", "_law_at", "_law_gates", "_law_gate", "_law_beat", "_law_m", "_law_pool", "_law_some"]:=⟨by decide +kernel⟩
theorem gl33:AG (defScope (top 33)) ["_law_next", "_law_cone", "list", "range", "len", "dict", "enumerate"]:=⟨by decide +kernel⟩
def zags:Scope:={ kind:=PySem.ScopeKind.function,names:=[ (PySem.Str.ofString ".0",PySem.NameKind.local),(PySem.Str.ofString "_law_k",PySem.NameKind.local),(PySem.Str.ofString "_law_next",PySem.NameKind.globalImplicit),(PySem.Str.ofString "len",PySem.NameKind.globalImplicit),(PySem.Str.ofString "_law_at",PySem.NameKind.free),(PySem.Str.ofString "_law_pool",PySem.NameKind.free),(PySem.Str.ofString "_law_script",PySem.NameKind.free)],isGenerator:=false,isCoroutine:=false,more:=[]:PySem.Scope }
theorem zamw:CompOk zags (defScope (top 33)) (["_law_k"]:List Str) (["_law_script", "_law_at", "_law_gates", "_law_gate", "_law_beat", "_law_m", "_law_pool", "_law_some"]:List Str) [6,0,1] (["_law_k", "_law_pool", "_law_script", "_law_at"]:List Str):=compOk rfl (by decide +kernel) (by decide +kernel) (by decide +kernel) (by decide +kernel) rfl (by decide +kernel)
theorem zamx:AK (relab zags (defScope (top 33))) ["_law_k"]:=⟨by decide +kernel⟩
theorem zagt:AV (relab zags (defScope (top 33))) ["_law_k", "_law_pool", "_law_script", "_law_at"]:=⟨by decide +kernel⟩
theorem zamy:AG (relab zags (defScope (top 33))) ["_law_next", "len"]:=⟨by decide +kernel⟩
def zagu:Scope:={ kind:=PySem.ScopeKind.function,names:=[ (PySem.Str.ofString ".0",PySem.NameKind.local),(PySem.Str.ofString "_law_one",PySem.NameKind.local),(PySem.Str.ofString "_law_is_source",PySem.NameKind.globalImplicit),(PySem.Str.ofString "_law_gates",PySem.NameKind.free)],isGenerator:=false,isCoroutine:=false,more:=[]:PySem.Scope }
theorem zamz:CompOk zagu (defScope (top 33)) (["_law_one"]:List Str) (["_law_script", "_law_at", "_law_gates", "_law_gate", "_law_beat", "_law_m", "_law_pool", "_law_some"]:List Str) [2] (["_law_one", "_law_gates"]:List Str):=compOk rfl (by decide +kernel) (by decide +kernel) (by decide +kernel) (by decide +kernel) rfl (by decide +kernel)
theorem zam0:AK (relab zagu (defScope (top 33))) ["_law_one"]:=⟨by decide +kernel⟩
theorem zaq4:AG (relab zagu (defScope (top 33))) ["_law_is_source"]:=⟨by decide +kernel⟩
theorem zair:AV (relab zagu (defScope (top 33))) ["_law_one", "_law_gates"]:=⟨by decide +kernel⟩
def zais:Scope:={ kind:=PySem.ScopeKind.function,names:=[ (PySem.Str.ofString ".0",PySem.NameKind.local),(PySem.Str.ofString "_law_number",PySem.NameKind.local),(PySem.Str.ofString "_law_bit",PySem.NameKind.local),(PySem.Str.ofString "_law_gate",PySem.NameKind.free)],isGenerator:=false,isCoroutine:=false,more:=[]:PySem.Scope }
theorem zait:CompOk zais (defScope (top 33)) (["_law_number", "_law_bit"]:List Str) (["_law_script", "_law_at", "_law_gates", "_law_gate", "_law_beat", "_law_m", "_law_pool", "_law_some"]:List Str) [3] (["_law_number", "_law_bit", "_law_gate"]:List Str):=compOk rfl (by decide +kernel) (by decide +kernel) (by decide +kernel) (by decide +kernel) rfl (by decide +kernel)
theorem zagv:AK (relab zais (defScope (top 33))) ["_law_number", "_law_bit"]:=⟨by decide +kernel⟩
theorem zagw:AV (relab zais (defScope (top 33))) ["_law_number", "_law_bit", "_law_gate"]:=⟨by decide +kernel⟩
def zagx:Scope:={ kind:=PySem.ScopeKind.function,names:=[ (PySem.Str.ofString ".0",PySem.NameKind.local),(PySem.Str.ofString "_law_one",PySem.NameKind.local),(PySem.Str.ofString "_law_next",PySem.NameKind.globalImplicit),(PySem.Str.ofString "_law_at",PySem.NameKind.free),(PySem.Str.ofString "_law_script",PySem.NameKind.free)],isGenerator:=false,isCoroutine:=false,more:=[]:PySem.Scope }
theorem zam1:CompOk zagx (defScope (top 33)) (["_law_one"]:List Str) (["_law_script", "_law_at", "_law_gates", "_law_gate", "_law_beat", "_law_m", "_law_pool", "_law_some"]:List Str) [0,1] (["_law_one", "_law_script", "_law_at"]:List Str):=compOk rfl (by decide +kernel) (by decide +kernel) (by decide +kernel) (by decide +kernel) rfl (by decide +kernel)
theorem zam2:AK (relab zagx (defScope (top 33))) ["_law_one"]:=⟨by decide +kernel⟩
theorem zaq5:AG (relab zagx (defScope (top 33))) ["_law_next"]:=⟨by decide +kernel⟩
theorem zaiu:AV (relab zagx (defScope (top 33))) ["_law_one", "_law_script", "_law_at"]:=⟨by decide +kernel⟩
def spSk (K:PySem.W.Frag):Sp:=fun vs H Q _=>∃ (a b gl bp:Addr) (ns:List Int) (c:Int) (gs:List Gt) (xs:List V) (g:Nat) (beat:List Bool),vs=[.ref a,.ref b,.ref gl,.int (g:Int),.ref bp]∧Scr K H a ns∧H b=some (.lst [.int c])∧0≤c∧c < 2 ^ 57∧H gl=some (.lst xs)∧Gs H gs xs∧Oks gs∧gs.length < 64∧g < gs.length∧gl≠b∧H bp=some (.lst (beat.map bV))∧beat.length=gs.length∧bp≠b ∧
 ∀ (d:Addr) (kb:List (Nat × Bool)) (c':Int) (H':Hp),Ch [b] H H'→H' b=some (.lst [.int c'])→c≤c'→c'≤c + 200→H' d=some (.dK (kbV kb))→NK kb→kb.length≤300→H d=none→Q (.ref d) H'
theorem scSk:FnScope ["_law_script", "_law_at", "_law_gates", "_law_gate", "_law_beat", "_law_m", "_law_pool", "_law_some"] ["_law_script", "_law_at", "_law_gates", "_law_gate", "_law_beat"] (defScope (top 33)):=⟨rfl,rfl,rfl,by decide +kernel,rfl,by decide +kernel,by decide +kernel⟩
theorem zat4 (F:Fun K "_law_some_known" "_law_some_known" (top 33) f fd) (D_law_next:DefOk P w K mg base CX0 k "_law_next" ["_law_script", "_law_at"] (spNext K)) (D_law_cone:DefOk P w K mg base CX0 k "_law_cone" ["_law_gates", "_law_gate"] spCone) (D_law_is_source:DefOk P w K mg base CX0 k "_law_is_source" ["_law_gates", "_law_number"] spLSrc) (z_len:mg "len" = none) (z_range:mg "range" = none) (z_list:mg "list" = none) (z_dict:mg "dict" = none) (z_enumerate:mg "enumerate" = none) :
  FnOk P w K mg base CX0 (k + 1) f fd ["_law_script", "_law_at", "_law_gates", "_law_gate", "_law_beat"] (spSk K):=by
 have nd:=scSk.nd
 refine F.ok scSk (fun vs H Q E h=>by obtain ⟨a,b,gl,bp,ns,c,gs,xs,g,beat,rfl,_⟩:=h; rfl) (fun cdv A outer s H vs Q E hr h=>?_)
 obtain ⟨a,b,gl,bp,ns,c,gs,xs,g,beat,rfl,hS,hb,h0,h1,hg,gg,ok,zg,gle,nb,hbp,lbt,nbp,q⟩:=h
 have hu:=zaei hr
 refine ⟨_,(Pr.h (zaaw (zaaq (i:=5) nd rfl (av33.l 5 rfl) (zaak D_law_next hr (gl33.g 0 rfl) pass0 (zaaa (qv av33 0 rfl) (zaaa (qv av33 1 rfl) zaab zaad) zaad) zaau)) (zaaw (zaaq (i:=6) nd rfl (av33.l 6 rfl) (zaap zaar (zabb (zaaa (zagm rfl (gl33.g 2 rfl) z_list (gl33.g 3 rfl) z_range (zaaa (zaaj zaal (gl33.g 4 rfl) z_len PySem.boot_len (zaaa (qv av33 2 rfl) zaab zaad) zabd zabe) zaab zabh)) (zaaa (zaak D_law_cone hr (gl33.g 1 rfl) pass0 (zaaa (qv av33 2 rfl) (zaaa (qv av33 3 rfl) zaab zaad) zaad) zaef) (zaaa (zabb (zaaa (qv av33 3 rfl) zaab zaad)) (zaaa (zaak D_law_cone hr (gl33.g 1 rfl) pass0 (zaaa (qv av33 2 rfl) (zaaa (qv av33 3 rfl) zaab zaad) zaad) zaef) zaab zabh) zaie) zabh) zabh)) (zaai zaax (qv av33 5 rfl) zaac) (fun _ _=>rfl))) (zaaw (zan4 (i:=7) nd rfl (av33.l 7 rfl) rfl zamw (zabs (gl33.g 3 rfl) z_range (zaaa (zaai zaax (zaai zaa7 (qv av33 5 rfl) zaac) zaac) zaab zaay)) (fun _ _ _ _ _=>(zaav (i:=0) zamw.nd rfl (Or.inl (zamx.k 0 rfl)) (Or.inr (zamx.k 0 rfl)))) (fun _ _ _ _ _=>zacd) (fun _ _ _ _ _=>(zaap (zacq K rfl) (qw zagt 1 rfl) (zaai zaax (zaak D_law_next hr (zamy.g 0 rfl) pass0 (zaaa (qw zagt 2 rfl) (zaaa (qw zagt 3 rfl) zaab zaad) zaad) zaau) (zaaj (zagg K rfl) (zamy.g 1 rfl) z_len PySem.boot_len (zaaa (qw zagt 1 rfl) zaab zaad) zabd zabe)) (fun _ _=>rfl))) rfl) (zaaw (zaaz (zaan zabt (zaai zaax (qv av33 5 rfl) zaac) zaac (nomark _)) (zaaf (zaaq (i:=7) nd rfl (av33.l 7 rfl) (zaai zae3 (zab1 rfl zamz (zacc (qv av33 6 rfl)) (fun _ _ _ _ _=>(zaav (i:=0) zamz.nd rfl (Or.inl (zam0.k 0 rfl)) (Or.inr (zam0.k 0 rfl)))) (fun _ _ _ _ _=>(zaep (zabu (zaak D_law_is_source hr (zaq4.g 0 rfl) pass0 (zaaa (qw zair 1 rfl) (zaaa (qw zair 0 rfl) zaab zaad) zaad) zab9)))) (fun _ _ _ _ _=>(qw zair 0 rfl))) (zab3 zaia (qv av33 7 rfl) zaca (zacb zaac))))) zaat) (zaaw (zaaz (zacp (zae5 (zaan zabt (zaai zaax (qv av33 5 rfl) zaac) zaac (nomark _)) (zadu (zaan zac6 (zaap zaa8 (zaap zaar (qv av33 2 rfl) (qv av33 3 rfl) (fun _ _=>rfl)) zaac (fun _ _=>rfl)) (zabf (zaaa zaao (zaaa zaao zaab zaah) zaah)) rfl)))) (zaaf (zaaq (i:=7) nd rfl (av33.l 7 rfl) (zabc zacl (gl33.g 2 rfl) z_list zadb (zaaa (zab3 zae1 (zaap zaar (qv av33 2 rfl) (qv av33 3 rfl) (fun _ _=>rfl)) (zacb zaac) zaca) zaab zaa3) zadc zadd))) zaat) (zaag (zaaz (zaan zabt (zaai zaax (zaai zaa7 (qv av33 5 rfl) zaac) zaac) zaac (nomark _)) (zaaf (zaas (zabc (zadl rfl) (gl33.g 5 rfl) z_dict zade (zaaa (zab1 rfl zait (zagf .list (gl33.g 6 rfl) z_enumerate (zaaa (qv av33 4 rfl) zaab zaad)) (fun _ _ _ _ _=>(zajd K 2 rfl rfl (zabv (zaav (i:=0) zait.nd rfl (Or.inl (zagv.k 0 rfl)) (Or.inr (zagv.k 0 rfl))) (zabv (zaav (i:=1) zait.nd rfl (Or.inl (zagv.k 1 rfl)) (Or.inr (zagv.k 1 rfl))) zadj)))) (fun _ _ _ _ _=>(zaep (zaan zaev (qw zagw 0 rfl) (qw zagw 2 rfl) (nomark _)))) (fun _ _ _ _ _=>(zabf (zaaa (qw zagw 0 rfl) (zaaa (qw zagw 1 rfl) zaab zaad) zaad)))) zaab zabm) zadf zadg))) zaat) (zaaf (zaas (zabc (zadl rfl) (gl33.g 5 rfl) z_dict zade (zaaa (zab1 rfl zam1 (zacc (qv av33 7 rfl)) (fun _ _ _ _ _=>(zaav (i:=0) zam1.nd rfl (Or.inl (zam2.k 0 rfl)) (Or.inr (zam2.k 0 rfl)))) (fun _ _ _ _ _=>zacd) (fun _ _ _ _ _=>(zabf (zaaa (qw zaiu 0 rfl) (zaaa (zaai zaax (zaak D_law_next hr (zaq5.g 0 rfl) pass0 (zaaa (qw zaiu 1 rfl) (zaaa (qw zaiu 2 rfl) zaab zaad) zaad) zaau) zaac) zaab zaay) zaad)))) zaab zabm) zadf zadg)))))))))),?_⟩
 (try dsimp only [cxOf])
 have hxl:=gg.len
 refine zabg (fun σ H'=>∃ m,0≤m∧σ=[some (.ref a),some (.ref b),some (.ref gl),some (.int (g:Int)),some (.ref bp),some (.int m),none,none]∧Ch [b] H H'∧H' b=some (.lst [.int (c + 1)])) ?_ ?_
 ·walk_at "rd"
 rintro σ H1 ⟨m,m0,rfl,c1,hb1⟩
 have hg1:=c1.get hg (by simpa using nb)
 have gg1:=gg.tu (Tu.lst c1 hb)
 refine zabg (fun σ H'=>∃ pl ps,σ=[some (.ref a),some (.ref b),some (.ref gl),some (.int (g:Int)),some (.ref bp),some (.int m),some (.ref pl),none]∧Ch [] H1 H'∧PG H1 H' gs.length pl ps∧0 < ps.length) ?_ ?_
 ·walk_at "rd"
  rename_i l0 hl0
  have cA:Ch [] H1 (upd H1 l0 (HO.lst (List.map (fun k:Nat=>V.int (k:Int)) (List.range xs.length)))):=Ch.new hl0 _
  have p0:PG H1 (upd H1 l0 (HO.lst (List.map (fun k:Nat=>V.int (k:Int)) (List.range xs.length)))) gs.length l0 (List.range xs.length):=⟨zaae,fun n hn=>by rw [List.mem_range] at hn; omega,by simp; omega,hl0⟩
  generalize upd H1 l0 (HO.lst (List.map (fun k:Nat=>V.int (k:Int)) (List.range xs.length)))=HA at cA p0 ⊢
  refine ⟨gg1.tu (Tu.same cA),ok,zg,gle,fun r1 i1 HB cB fB hB gB lB nB=>?_⟩
  have cAB:=cA.trans cB
  have p1:PG H1 HB gs.length r1 (i1++[g]):=⟨hB,fun n hn=>by rcases List.mem_append.mp hn with h | h; exact Nat.lt_of_le_of_lt (lB n h) gle; rw [List.mem_singleton.mp h]; exact gle,by simp; omega,chFree cA fB⟩
  have p0:=p0.ch cB
  have hgB:=cAB.get hg1 (by simp)
  walk_at "rd"
  rename_i l2 hl2
  have p2:PG H1 (upd HB l2 (HO.lst [V.int (g:Int)])) gs.length l2 [g]:=⟨zaae,fun n hn=>by rw [List.mem_singleton.mp hn]; exact gle,by simp,chFree cAB hl2⟩
  have c2':Ch [] HB (upd HB l2 (HO.lst [V.int (g:Int)])):=Ch.new hl2 _
  have p0:=p0.ch c2'
  have p1:=p1.ch c2'
  have cC:=cAB.trans c2'
  generalize upd HB l2 (HO.lst [V.int (g:Int)])=HC at p0 p1 p2 cC ⊢
  refine ⟨gg1.tu (Tu.same cC),ok,zg,gle,fun r3 i3 HD cD fD hD gD lD nD=>?_⟩
  have p3:PG H1 HD gs.length r3 (i3++[g]):=⟨hD,fun n hn=>by rcases List.mem_append.mp hn with h | h; exact Nat.lt_of_le_of_lt (lD n h) gle; rw [List.mem_singleton.mp h]; exact gle,by simp; omega,chFree cC fD⟩
  obtain ⟨pl,ps,e4,pp,pn⟩:=at4 (p0.ch cD) (p1.ch cD) (p2.ch cD) p3 (by simp; omega) (by simp) (by simp) (by simp) (m:=m % 4) (by omega) (by omega)
  have cE:=cC.trans cD
  walk_at "rd"
  rename_i lp hlp
  exact ⟨pp.ch (Ch.new hlp _),pn⟩
 rintro σ H2 ⟨pl,ps,rfl,c2,pp,ppl⟩
 have hb2:=c2.get hb1 (by simp)
 have hp2:=pp.at_
 have fpl:H pl=none:=freeB c1 hb1 pp.fr
 have npl:pl≠b:=(zaam hb fpl).symm
 have cH:=c1.trans (Ch.wk c2)
 refine zabg (fun σ H'=>∃ (sm:Addr) (st:List Nat),σ=[some (.ref a),some (.ref b),some (.ref gl),some (.int (g:Int)),some (.ref bp),some (.int m),some (.ref pl),some (.ref sm)]∧Ch [b] H2 H'∧(∃ c',H' b=some (.lst [.int c'])∧c≤c'∧c'≤c + 10)∧H' sm=some (.lst (st.map nV))∧st.length≤80∧H sm=none) ?_ ?_
 ·have hS2:Scr K H2 a ns:=hS.ch hb cH
  have atp:∀ z:Int,∃ n:Nat,atI (ps.map nV) (z % ((ps.map nV).length:Int))=some (.int (n:Int))∧n∈ps:=fun z=>by
   obtain ⟨n,en,ln⟩:=zac2 z (n:=(ps.map nV).length) (by rw [List.length_map]; exact ppl)
   rw [List.length_map] at ln
   refine ⟨ps[n],?_,List.getElem_mem ln⟩
   rw [en]
   exact zab8 (by rw [List.getElem?_map,List.getElem?_eq_getElem ln]; rfl)
  walk_at "rd"
  refine zaj2 (fun i ys σ H'=>∃ (st:List Nat) (u:Option V),σ=[u,some (.ref pl),some (.ref a),some (.ref b)]∧ys=List.map nV st∧st.length=i∧(∀ n∈st,n∈ps)∧Ch [b] H2 H'∧H' b=some (.lst [.int (c + 1 + i)])) (by rw [sizeLine_eq]; omega) ⟨[],_,rfl,rfl,rfl,by simp,Ch.refl _ _,by simpa using hb2⟩ ?_ ?_ ?_
  ·rintro i ys σ H' hi ⟨st,u,rfl,rfl,ls,_⟩
   rw [List.length_map,ls]; exact Nat.le_refl _
  ·rintro i ys σ H' hi ⟨st,u,rfl,rfl,ls,ms,c5,hb5⟩
   have hp5:=c5.get hp2 (by simpa using npl)
   have hS5:Scr K H' a ns:=hS.ch hb (cH.trans c5)
   have l9:i < 9:=by omega
   have pll:0 < (ps.map nV).length:=by rw [List.length_map]; exact ppl
   walk_at "rd"
   rename_i z H6 z0 z1 c6 hb6
   obtain ⟨n,en,mn⟩:=atp z
   refine Atx.of en ⟨st++[n],_,rfl,by rw [List.map_append]; rfl,by simp [ls],fun y hy=>?_,c5.trans c6,?_⟩
   ·rcases List.mem_append.mp hy with hy | hy
    ·exact ms y hy
    ·rw [List.mem_singleton.mp hy]; exact mn
   ·rw [hb6,show c + 1 + (i:Int) + 1=c + 1 + ((i + 1:Nat):Int) by omega]
  ·rintro ys σ H' ⟨st,u,rfl,rfl,ls,ms,c5,hb5⟩
   intro p hp
   exact ⟨p,st,rfl,c5.trans (Ch.wk (Ch.new hp _)),⟨_,zabi hp hb5,by omega,by omega⟩,zaae,by omega,freeB (cH.trans c5) hb5 hp⟩
 rintro σ H3 ⟨sm,st,rfl,c3,⟨c3',hb3,c30,c31⟩,hm3,lst,fsm⟩
 have cH3:=cH.trans c3
 refine zabg (fun σ H'=>∃ (sm:Addr) (st:List Nat),σ=[some (.ref a),some (.ref b),some (.ref gl),some (.int (g:Int)),some (.ref bp),some (.int m),some (.ref pl),some (.ref sm)]∧Ch [] H3 H'∧H' sm=some (.lst (st.map nV))∧st.length≤160∧H sm=none) ?_ ?_
 ·walk_at "rd"
  refine ite2 (fun hc=>?_) (fun hc=>?_)
  ·have hp3:=c3.get hp2 (by simpa using npl)
   have hg3:=c3.get (c2.get hg1 (by simp)) (by simpa using nb)
   have gg3:=(gg1.tu (Tu.same c2)).tu (Tu.lst c3 hb2)
   have pl70:=pp.len
   walk_at "rd"
   refine zac8 (ps.map nV) (fun i ys σ H'=>∃ (st':List Nat) (u:Option V),σ=[u,some (.ref gl)]∧ys=st'.map nV∧st'.length≤i∧Ch [] H3 H') (by rw [sizeLine_eq,List.length_map]; omega) ⟨[],_,rfl,rfl,Nat.le_refl _,Ch.refl _ _⟩ ?_ ?_ ?_
   ·rintro i ys σ H' hi ⟨st',u,rfl,rfl,ls,c'⟩
    exact ⟨by rw [List.length_map]; exact ls,SqL.of (c'.get hp3 (by simp))⟩
   ·rintro i ys σ H' x hx ⟨st',u,rfl,rfl,ls,c'⟩
    rw [List.getElem?_map] at hx
    cases ea:ps[i]? with
    | none=>rw [ea] at hx; cases hx
    | some n =>
     rw [ea] at hx
     cases hx
     have nl:=pp.lt n (List.mem_of_getElem? ea)
     obtain ⟨gn,egn⟩:∃ gn,gs[n]?=some gn:=⟨_,List.getElem?_eq_getElem nl⟩
     have hg':=c'.get hg3 (by simp)
     have gg':=gg3.tu (Tu.same c')
     unfold nV
     walk_at "rd"
     rename_i H8 c8
     cases hsr:gn.src with
     | true=>exact iteT ⟨_,rfl,st'++[n],_,rfl,by rw [List.map_append]; rfl,by simp; omega,c'.trans c8⟩
     | false=>exact iteF ⟨st',_,rfl,rfl,by omega,c'.trans c8⟩
   ·rintro ys σ H' ⟨st',u,rfl,rfl,ls,c'⟩
    rw [List.length_map] at ls
    intro D hD
    have c9:=c'.trans (Ch.new hD (HO.lst (st'.map nV)))
    have hD9:upd H' D (HO.lst (st'.map nV)) D=some (.lst (st'.map nV)):=zaae
    generalize upd H' D (HO.lst (st'.map nV))=H9 at c9 hD9 ⊢
    have hm9:=c9.get hm3 (by simp)
    walk_at "rd"
    rename_i s2 hs2
    rw [zaq3,← List.map_take]
    refine ⟨by rw [sizeLine_eq]; simp; omega,fun s3 hs3=>?_⟩
    exact ⟨s3,st'++st.take 2,rfl,(c9.trans (Ch.new hs2 _)).trans (Ch.new hs3 _),by rw [zaae,List.map_append],by simp; omega,freeB (cH3.trans (Ch.wk (c9.trans (Ch.new hs2 _)))) (zabi hs2 (c9.get hb3 (by simp))) hs3⟩
  ·exact ⟨sm,st,rfl,Ch.refl _ _,hm3,by omega,fsm⟩
 rintro σ H4 ⟨sm4,st4,rfl,c4,hm4,lst4,fsm4⟩
 refine zabg (fun σ H'=>∃ (sm:Addr) (st:List Nat),σ=[some (.ref a),some (.ref b),some (.ref gl),some (.int (g:Int)),some (.ref bp),some (.int m),some (.ref pl),some (.ref sm)]∧Ch [] H3 H'∧H' sm=some (.lst (st.map nV))∧st.length≤160∧H sm=none) ?_ ?_
 ·have hg4:=c4.get (c3.get (c2.get hg1 (by simp)) (by simpa using nb)) (by simp)
  have gg4:=((gg1.tu (Tu.same c2)).tu (Tu.lst c3 hb2)).tu (Tu.same c4)
  obtain ⟨gt,egt⟩:∃ gt,gs[g]?=some gt:=⟨_,List.getElem?_eq_getElem gle⟩
  obtain ⟨p,ep,hp⟩:=gg4.at_ g gt egt
  have at1:=zab8 ep
  obtain ⟨rs,ev,er⟩:=zagq gt
  rw [ev] at hp
  have f3:gt.feeds.length≤3:=by cases gt <;> simp [Gt.feeds]
  walk_at "rd"
  refine zamv (fun _ z=>iteF z) (fun hd z=>?_) ⟨sm4,st4,rfl,c4,hm4,lst4,fsm4⟩
  walk_at "rd"
  rename_i tq htq
  have cq:=Ch.new (W:=[]) htq (HO.tup [V.str (Str.ofString "in"),V.str (Str.ofString "keep")])
  refine ite2 (fun he=>?_) (fun he=>?_)
  ·have hsr:gt.src=false:=by
    have he:(!inV (V.str gt.wd) [V.str (Str.ofString "in"),V.str (Str.ofString "keep")])=true:=he
    have ws:=zao9 gt
    rw [ws] at he
    simpa using he
   have hK:gt.isKeep=false:=by cases gt <;> first | rfl | (cases hsr; done)
   rw [er hK] at hp
   walk_at "rd"
   rename_i tp htp l9 hl9
   rw [cut1] at hl9 ⊢
   exact ⟨zaae,by omega,freeB (cH3.trans (Ch.wk ((c4.trans cq).trans (Ch.new htp (HO.tup (gt.feeds.map nV)))))) (zabi htp (cq.get (c4.get hb3 (by simp)) (by simp))) hl9⟩
  ·exact ⟨sm4,st4,rfl,c4.trans cq,cq.get hm4 (by simp),lst4,fsm4⟩
 rintro σ H5 ⟨sm5,st5,rfl,c5,hm5,lst5,fsm5⟩
 have cH5:=cH3.trans (Ch.wk c5)
 have hb5:=c5.get hb3 (by simp)
 have hbp5:=cH5.get hbp (by simpa using nbp)
 have nsm:sm5≠b:=(zaam hb fsm5).symm
 walk_at "rd"
 refine ite2 (fun hc=>?_) (fun hc=>?_)
 ·walk_at "rd"
  refine zalc (beat.map bV) (fun i ys σ H'=>TK [] H5 H' i ys∧∃ (u v:Option V),σ=[u,v,some (.int (g:Int))]) (by rw [sizeLine_eq,List.length_map]; omega) ⟨⟨[],[],rfl,rfl,Nat.le_refl _,.nil,Ch.refl _ _⟩,_,_,rfl⟩ ?_ ?_ ?_
  ·rintro i ys σ H' hi ⟨tk,_⟩
   obtain ⟨l,ts,rfl,lt,li,pr,c'⟩:=tk.ex
   exact ⟨by simp; omega,SqL.of (c'.get hbp5 (by simp))⟩
  ·rintro i ys σ H' x T hx ⟨tk,u,v,rfl⟩ hT
   rw [List.getElem?_map] at hx
   cases ea:beat[i]? with
   | none=>rw [ea] at hx; cases hx
   | some y =>
    rw [ea] at hx
    cases hx
    have cT:=Ch.new (W:=[]) hT (HO.tup [V.int (i:Int),bV y])
    walk_at "rd"
    refine ite2 (fun he=>?_) (fun he=>?_)
    ·walk_at "rd"
     rename_i t ht
     have c2:=cT.trans (Ch.new ht (HO.tup [V.int (i:Int),bV y]))
     exact ⟨tk.add c2 (Tu.same c2) zaae,_,_,rfl⟩
    ·exact ⟨tk.skip cT (Tu.same cT),_,_,rfl⟩
  ·rintro ys σ H' ⟨tk,_⟩
   obtain ⟨l,ts,rfl,lt,li,pr,c'⟩:=tk.ex
   rw [List.length_map] at li
   intro D hD
   refine ⟨D,ts,l.map kb1,rfl,zaae,zatd (Ch.new hD _) pr,by rw [List.length_map]; omega,fun d hd=>?_⟩
   obtain ⟨kb,e1,e2,e3⟩:=zajp l (kb:=[]) ⟨List.nodup_nil⟩
   have e1:mrg [] (l.map kb1)=kbV kb:=e1
   have c9:=cH5.trans (Ch.wk (c'.trans (Ch.new hD (HO.lst (ts.map V.ref)))))
   exact q d kb c3' _ (c9.trans (Ch.wk (Ch.new hd _))) (zabi hd (zabi hD (c'.get hb5 (by simp)))) (by omega) (by omega) (by rw [zaae,e1]) e3 (by simp at e2; omega) (freeB c9 (zabi hD (c'.get hb5 (by simp))) hd)
 ·walk_at "rd"
  refine zac8 (st5.map nV) (fun i ys σ H'=>TK [b] H5 H' i ys∧H' b=some (.lst [.int (c3' + i)])∧∃ (u:Option V),σ=[u,some (.ref a),some (.ref b)]) (by rw [sizeLine_eq,List.length_map]; omega) ⟨⟨[],[],rfl,rfl,Nat.le_refl _,.nil,Ch.refl _ _⟩,by simpa using hb5,_,rfl⟩ ?_ ?_ ?_
  ·rintro i ys σ H' hi ⟨tk,_⟩
   obtain ⟨l,ts,rfl,lt,li,pr,c'⟩:=tk.ex
   exact ⟨by simp; omega,SqL.of (c'.get hm5 (by simpa using nsm))⟩
  ·rintro i ys σ H' x hx ⟨tk,hb',u,rfl⟩
   obtain ⟨_,_,_,_,_,_,c'⟩:=tk.ex
   have hS':Scr K H' a ns:=hS.ch hb (cH5.trans c')
   rw [List.getElem?_map] at hx
   cases ea:st5[i]? with
   | none=>rw [ea] at hx; cases hx
   | some n =>
    rw [ea] at hx
    cases hx
    have i160:i < 160:=by have:=(List.getElem?_eq_some_iff.mp ea).1; omega
    unfold nV
    walk_at "rd"
    rename_i z H6 z0 z1 c6 hb6 t ht
    have c7:=c6.trans (Ch.wk (Ch.new (W:=[]) ht (HO.tup [V.int (n:Int),V.int (z % 2)])))
    have t7:=(Tu.lst c6 hb').trans (Tu.same (Ch.new ht (HO.tup [V.int (n:Int),V.int (z % 2)])))
    refine ⟨tk.add (b:=decide (z % 2=1)) c7 t7 (by rw [zaae,← zamu]),?_,_,rfl⟩
    rw [zabi ht hb6,show c3' + (i:Int) + 1=c3' + ((i + 1:Nat):Int) by omega]
  ·rintro ys σ H' ⟨tk,hb',_⟩
   obtain ⟨l,ts,rfl,lt,li,pr,c'⟩:=tk.ex
   rw [List.length_map] at li hb'
   intro D hD
   refine ⟨D,ts,l.map kb1,rfl,zaae,zatd (Ch.new hD _) pr,by rw [List.length_map]; omega,fun d hd=>?_⟩
   obtain ⟨kb,e1,e2,e3⟩:=zajp l (kb:=[]) ⟨List.nodup_nil⟩
   have e1:mrg [] (l.map kb1)=kbV kb:=e1
   have c9:=(cH5.trans c').trans (Ch.wk (Ch.new hD (HO.lst (ts.map V.ref))))
   exact q d kb _ _ (c9.trans (Ch.wk (Ch.new hd _))) (zabi hd (zabi hD hb')) (by omega) (by omega) (by rw [zaae,e1]) e3 (by simp at e2; omega) (freeB c9 (zabi hD hb') hd)
end
end

section
section
variable {P:Program}{w:World}{K:PySem.W.Frag}{mg:Str→Option Value}{base:Heap}{f:Addr}{fd:FuncData}{k:Nat}
theorem zate (z:Int):V.int (z % 2)=bV (decide (z % 2=1)):=by
 have:z % 2=0∨z % 2=1:=by omega
 rcases this with h | h <;> rw [h] <;> rfl
theorem av22:AF (defScope (top 22)) ["_law_script", "_law_at", "_law_many", "_law_m", "_law_bits_here", "_law_k"]:=⟨by decide +kernel⟩
theorem gl22:AG (defScope (top 22)) ["_law_next", "range"]:=⟨by decide +kernel⟩
structure LB (H H':Hp) (b r:Addr) (i:Nat) (d c m:Int):Prop where
 m0:0≤m
 m1:m < 2147483629
 ch:Ch [b] H H'
 ex:∃ (bs:List Bool) (c':Int),bs.length=i∧H' r=some (.lst (bs.map bV))∧H' b=some (.lst [.int c'])∧c < c'∧c'≤c + 1 + d
def spLBits (K:PySem.W.Frag):Sp:=fun vs H Q _=>∃ (a b:Addr) (ns:List Int) (c n':Int) (n:Nat),vs=[.ref a,.ref b,.int n']∧n'=(n:Int)∧n≤1000∧Scr K H a ns∧H b=some (.lst [.int c])∧0≤c∧c < 2 ^ 50 ∧
 ∀ (r:Addr) (bs:List Bool) (c':Int) (H':Hp),Ch [b] H H'→H r=none→bs.length=n→H' r=some (.lst (bs.map bV))→H' b=some (.lst [.int c'])→c < c'→c'≤c + 1 + n→Q (.ref r) H'
theorem scLBits:FnScope ["_law_script", "_law_at", "_law_many", "_law_m", "_law_bits_here", "_law_k"] ["_law_script", "_law_at", "_law_many"] (defScope (top 22)):=⟨rfl,rfl,rfl,by decide +kernel,rfl,by decide +kernel,by decide +kernel⟩
theorem zaon (F:Fun K "_law_bits" "_law_bits" (top 22) f fd) (D_law_next:DefOk P w K mg base CX0 k "_law_next" ["_law_script", "_law_at"] (spNext K)) (z_range:mg "range" = none):FnOk P w K mg base CX0 (k + 1) f fd ["_law_script", "_law_at", "_law_many"] (spLBits K):=by
 have nd:=scLBits.nd
 refine F.ok scLBits (fun vs H Q E h=>by obtain ⟨a,b,ns,c,n',n,rfl,_⟩:=h; rfl) (fun cdv A outer s H vs Q E hr h=>?_)
 obtain ⟨a,b,ns,c,n',n,rfl,rfl,hn,hS,hb,h0,h1,q⟩:=h
 refine ⟨_,(Pr.h (zaag (zaaq (i:=3) nd rfl (av22.l 3 rfl) (zaak D_law_next hr (gl22.g 0 rfl) pass0 (zaaa (qv av22 0 rfl) (zaaa (qv av22 1 rfl) zaab zaad) zaad) zaau)) (zaag (zaaq (i:=4) nd rfl (av22.l 4 rfl) (zabb zaab)) (zaag (zabk PassesOwn.never rfl (zabs (gl22.g 1 rfl) z_range (zaaa (qv av22 2 rfl) zaab zaad)) (zaav (i:=5) nd rfl (av22.l 5 rfl)) (zaaw (zaaz (zaan zabt (zaai zaax (qv av22 5 rfl) zaac) zaac (nomark _)) (zaaf (zaaq (i:=3) nd rfl (av22.l 3 rfl) (zaak D_law_next hr (gl22.g 0 rfl) pass0 (zaaa (qv av22 0 rfl) (zaaa (qv av22 1 rfl) zaab zaad) zaad) zaau))) zaat) (zaag (zaba (zabn PySem.F.plainAttrs_list PySem.F.slot_list_append PySem.F.type_list_append zaa4 (qv av22 4 rfl) (zaaa (zaai zaax (qv av22 3 rfl) zaac) zaab zaay))) (zaaf (zaaq (i:=3) nd rfl (av22.l 3 rfl) (zaai zaa7 (qv av22 3 rfl) zaac)))))) (zaaf (zaas (qv av22 4 rfl))))))),?_⟩
 (try dsimp only [cxOf])
 walk_at "rd"
 rename_i m0 H1 m00 m01 c1 b1 r hr1
 have nbr:b≠r:=zaam b1 hr1
 have fr:H r=none:=by
  cases z:H r with
  | none=>rfl
  | some o=>rw [c1.get z (by simpa using Ne.symm nbr)] at hr1; cases hr1
 refine zabr (fun i σ H'=>∃ m u,σ=[some (.ref a),some (.ref b),some (.int (n:Int)),some (.int m),some (.ref r),u]∧LB H H' b r i i c m) ⟨m0,_,rfl,m00,m01,c1.trans (Ch.new hr1 _),[],c + 1,rfl,zaae,zabi hr1 b1,by omega,by omega⟩ ?_ ?_
 ·rintro i σ H' hi ⟨m,u,rfl,l⟩
  have hi2:i < n:=by simpa using hi
  obtain ⟨m0',m1',ch,bs,c',hl,gr,gb,e1,e2⟩:=id l
  walk_at "rd"
  refine zabg (fun σ H''=>∃ m',σ=[some (.ref a),some (.ref b),some (.int (n:Int)),some (.int m'),some (.ref r),some (.int (0 + (i:Int)))]∧LB H H'' b r i (i + 1) c m') ?_ ?_
  ·walk_at "rd"
   refine ite2 (fun hc=>?_) (fun hc=>?_)
   ·have hS':Scr K H' a ns:=hS.ch hb ch
    have hc0:0≤c':=by omega
    have hc1:c' < 2 ^ 60:=by omega
    walk_at "rd"
    rename_i m2 H2 k0 k1 c2 b2
    exact ⟨k0,k1,ch.trans c2,bs,_,hl,c2.get gr (by simpa using Ne.symm nbr),b2,by omega,by omega⟩
   ·walk_at "rd"
    exact ⟨m0',m1',ch,bs,c',hl,gr,gb,e1,by omega⟩
  ·rintro σ H'' ⟨m',rfl,k0,k1,ch2,bs2,c'',hl2,gr2,gb2,f1,f2⟩
   have sz:bs2.length < 1000:=by omega
   walk_at "rd"
   refine ⟨by omega,by omega,Ch.own fr ch2,bs2++[decide (m' % 2=1)],c'',by simp [hl2],?_,zab0 nbr gb2,by omega,by omega⟩
   have eb:=zate m'
   rw [zaae]; (try dsimp only); rw [eb]; simp
 ·rintro σ H' ⟨m,u,rfl,m0',m1',ch,bs,c',hl,gr,gb,e1,e2⟩
  walk_at "rd"
  exact q r bs c' _ ch fr (by simpa using hl) gr gb e1 (by simpa using e2)
end
end

section
local macro_rules | `(tactic| walk_at "user")=>`(tactic| first
 | (apply zach; (focus walk_at "get"); (focus with_reducible assumption))
 | (apply zaci; (focus walk_at "get"); (focus with_reducible assumption))
 | (apply dputI; (focus walk_at "get"); (focus walk_at "arith")))
theorem zaq6 {gs:List Gt} (ok:Oks gs):∀ (i:Nat) (b:Gt),gs[i]?=some b→∀ a∈fwn b,a < gs.length:=fun i b e a m=>by
 unfold fwn at m
 cases s:b.src with
 | true=>rw [s] at m; simp at m
 | false =>
  rw [s] at m
  have:=zab4 (ok i b e) s a m
  have:=(List.getElem?_eq_some_iff.mp e).1
  omega
structure Bf (gs:List Gt) (kb:List (Nat × Bool)) (vs:List (Option Bool)) (done:List Nat) (kvs:List (Key × V)):Prop where
 len:kvs.length≤kb.length + done.length
 old:∀ (n:Nat) (b:Bool),kb.lookup n=some b→valV kvs (.inl (n:Int))=some (bV b)
 new:∀ n∈done,∃ b,vs.getD n none=some b∧valV kvs (.inl (n:Int))=some (bV b)
theorem Bf.put {gs:List Gt}{kb:List (Nat × Bool)}{vs:List (Option Bool)}{done:List Nat}{kvs:List (Key × V)}{n:Nat}{b:Bool} (h:Bf gs kb vs done kvs) (hv:vs.getD n none=some b) (hn:kb.lookup n=none):Bf gs kb vs (done++[n]) (putK kvs (.inl (n:Int)) (bV b)):=by
 refine ⟨?_,fun m c e=>?_,fun m hm=>?_⟩
 ·have:=zacj kvs (.inl (n:Int)) (bV b)
  have:=h.len
  simp
  omega
 ·have ne:m≠n:=by rintro rfl; rw [hn] at e; cases e
  rw [zadr,if_neg (fun z=>ne (by have:=Sum.inl.inj z; omega))]
  exact h.old m c e
 ·by_cases e:m=n
  ·subst e
   exact ⟨b,hv,by rw [zadr,if_pos rfl]⟩
  ·obtain ⟨c,h1,h2⟩:=h.new m ((List.mem_append.mp hm).resolve_right (by simpa using e))
   exact ⟨c,h1,by rw [zadr,if_neg (fun z=>e (by have:=Sum.inl.inj z; omega))]; exact h2⟩
theorem zat5 {gs:List Gt}{kb:List (Nat × Bool)}{g n:Nat} (d:Dn gs (kb.map (·.1)) g n):kb.lookup n=none:=by
 have no:n ∉ kb.map (·.1):=by cases d with
  | top h=>exact h
  | fed _ _ _ h=>exact h
 cases e:kb.lookup n with
 | none=>rfl
 | some b=>exact absurd (zacr.mpr ⟨b,e⟩) no
theorem zat6 {gs:List Gt}{st:List Nat} (ok:Oks gs) {g n:Nat} (d:Dn gs st g n):n≤g:=by
 induction d with
 | top=>exact Nat.le_refl _
 | @fed n m b dm em hm ns ih =>
  unfold fwn at hm
  cases s:b.src with
  | true=>rw [s] at hm; simp at hm
  | false =>
   rw [s] at hm
   have:=zab4 (ok m b em) s n hm
   omega
section
variable {P:Program}{w:World}{K:PySem.W.Frag}{mg:Str→Option Value}{base:Heap}{f:Addr}{fd:FuncData}{k:Nat}
theorem zagy:Nd "gates_down" := by decide +kernel
theorem zah1:Nd "gate_bits" := by decide +kernel
theorem zah2:Nd "bits_from" := by decide +kernel
theorem av17:AF (defScope (top 17)) ["net", "gate", "known", "whole", "bits", "number", "feeds"]:=⟨by decide +kernel⟩
theorem gl17:AG (defScope (top 17)) ["dict", "gates_down", "is_source", "feeds_of", "gate_bits"]:=⟨by decide +kernel⟩
def zaiv:Scope:={ kind:=PySem.ScopeKind.function,names:=[ (PySem.Str.ofString ".0",PySem.NameKind.local),(PySem.Str.ofString "feed",PySem.NameKind.local),(PySem.Str.ofString "bits",PySem.NameKind.free)],isGenerator:=false,isCoroutine:=false,more:=[]:PySem.Scope }
theorem zam3:CompOk zaiv (defScope (top 17)) (["feed"]:List Str) (["net", "gate", "known", "whole", "bits", "number", "feeds"]:List Str) [4] (["feed", "bits"]:List Str):=compOk rfl (by decide +kernel) (by decide +kernel) (by decide +kernel) (by decide +kernel) rfl (by decide +kernel)
theorem zam4:AK (relab zaiv (defScope (top 17))) ["feed"]:=⟨by decide +kernel⟩
theorem zam5:AV (relab zaiv (defScope (top 17))) ["feed", "bits"]:=⟨by decide +kernel⟩
def spBf (CN:Addr):Sp:=fun vs H Q _=>∃ (nt gp op sp:Addr) (gs:List Gt) (xs:List V) (os:List Nat) (kb:List (Nat × Bool)) (g:Nat),vs=[.ref nt,.int (g:Int),.ref sp,.int 1]∧NetAt CN H nt gp op gs xs os∧H sp=some (.dK (kbV kb))∧g < gs.length∧Oks gs∧gs.length≤200∧kb.length≤300 ∧
 ∀ H':Hp,Ch [] H H'→Q (oV ((lbv gs kb (g + 1)).getD g none)) H'
theorem scBf:FnScope ["net", "gate", "known", "whole", "bits", "number", "feeds"] ["net", "gate", "known", "whole"] (defScope (top 17)):=⟨rfl,rfl,rfl,by decide +kernel,rfl,by decide +kernel,by decide +kernel⟩
theorem zat7 {CN:Addr} (F:Fun K "bits_from" "bits_from" (top 17) f fd) (cl:Cls K CN) (nG:NoAttr K CN "gates") (Dgates_down:DefOk P w K mg base CX0 k "gates_down" ["net", "gate", "stops"] (spGd CN)) (Dis_source:DefOk P w K mg base CX0 k "is_source" ["gate"] spSrc) (Dfeeds_of:DefOk P w K mg base CX0 k "feeds_of" ["gate"] spFeeds) (Dgate_bits:DefOk P w K mg base CX0 k "gate_bits" ["word", "fed", "whole"] spTold) (z_dict:mg "dict" = none):FnOk P w K mg base CX0 (k + 1) f fd ["net", "gate", "known", "whole"] (spBf CN):=by
 have nd:=scBf.nd
 refine F.ok scBf (fun vs H Q E h=>by obtain ⟨nt,gp,op,sp,gs,xs,os,kb,g,rfl,_⟩:=h; rfl) (fun cdv A outer s0 H vs Q E hr h=>?_)
 obtain ⟨nt,gp,op,sp,gs,xs,os,kb,g,rfl,na,hs,hg,ok,zg,zs,q⟩:=h
 have hu:=zaei hr
 refine ⟨_,(Pr.h (zaaw (zaaq (i:=4) nd rfl (av17.l 4 rfl) (zabc zaf4 (gl17.g 0 rfl) z_dict zade (zaaa (qv av17 2 rfl) zaab zaad) zadf zadg)) (zaag (zabk PassesOwn.never rfl (zacc (zaak Dgates_down hr (gl17.g 1 rfl) pass0 (zaaa (qv av17 0 rfl) (zaaa (qv av17 1 rfl) (zaaa (qv av17 2 rfl) zaab zaad) zaad) zaad) zagy)) (zaav (i:=5) nd rfl (av17.l 5 rfl)) (zaag (zaaz (zabu (zaak Dis_source hr (gl17.g 2 rfl) pass0 (zaaa (zaap zaa8 (zagb (qv av17 0 rfl) rfl) (qv av17 5 rfl) (fun _ _=>rfl)) zaab zaa3) zaee)) (zaaf (zaas zad6)) zaat) (zaaw (zaaq (i:=6) nd rfl (av17.l 6 rfl) (zaak Dfeeds_of hr (gl17.g 3 rfl) pass0 (zaaa (zaap zaa8 (zagb (qv av17 0 rfl) rfl) (qv av17 5 rfl) (fun _ _=>rfl)) zaab zaa3) zafk)) (zaaf (zagh hu (qv av17 4 rfl) (qv av17 5 rfl) (zaak Dgate_bits hr (gl17.g 4 rfl) pass0 (zaaa (zaap zaa8 (zaap zaa8 (zagb (qv av17 0 rfl) rfl) (qv av17 5 rfl) (fun _ _=>rfl)) zaac (fun _ _=>rfl)) (zaaa (zab1 rfl zam3 (zacc (qv av17 6 rfl)) (fun _ _ _ _ _=>(zaav (i:=0) zam3.nd rfl (Or.inl (zam4.k 0 rfl)) (Or.inr (zam4.k 0 rfl)))) (fun _ _ _ _ _=>zacd) (fun _ _ _ _ _=>(zafc hu (qw zam5 1 rfl) (qw zam5 0 rfl) (fun _ _=>rfl)))) (zaaa (qv av17 3 rfl) zaab zaad) zabm) zaa3) zah1) rfl))))) (zaaf (zaas (zafc hu (qv av17 4 rfl) (qv av17 1 rfl) (fun _ _=>rfl))))))),?_⟩
 (try dsimp only [cxOf])
 have lb:=zah0 (kb:=kb) ok (i:=g + 1) (by omega)
 generalize lbv gs kb (g + 1)=vv at lb q
 refine zabg (fun σ H'=>∃ d,σ=[some (.ref nt),some (.int (g:Int)),some (.ref sp),some (.int 1),some (.ref d),none,none]∧Ch [] H H'∧H' d=some (.dK (kbV kb))∧H d=none) ?_ ?_
 ·walk_at "rd"
 rintro σ H1 ⟨d,rfl,c1,hd1,fd0⟩
 have hs1:=c1.get hs (by simp)
 have na1:=na.ch c1
 have fw:=zaq6 ok
 walk_at "rd"
 rename_i r ks H2 c2 fr hr2 lk srt knd mk
 have c02:=c1.trans c2
 have hd2:=c2.get hd1 (by simp)
 have nrd:r≠d:=(zaam hd1 fr).symm
 have bf0:Bf gs kb vv [] (kbV kb):=⟨by unfold kbV; simp,fun n b e=>by rw [zafm,e]; rfl,fun n h=>by cases h⟩
 refine zadt (xs:=ks.map nV) (fun i σ H'=>∃ (kvs:List (Key × V)) (u5 u6:Option V),σ=[some (.ref nt),some (.int (g:Int)),some (.ref sp),some (.int 1),some (.ref d),u5,u6]∧Ch [] H H'∧H' d=some (.dK kvs)∧H' r=some (.lst (ks.map nV))∧Bf gs kb vv (ks.take i) kvs) ⟨kbV kb,_,_,rfl,c02,hd2,hr2,bf0⟩ ?_ ?_ ?_
 ·rintro i σ H' hi ⟨kvs,u5,u6,rfl,c,hk,hrr,bf⟩
  exact SqL.of hrr
 ·rintro i x σ H' hx ⟨kvs,u5,u6,rfl,c,hk,hrr,bf⟩
  rw [List.getElem?_map] at hx
  cases e:ks[i]? with
  | none=>rw [e] at hx; cases hx
  | some n =>
   rw [e] at hx
   cases hx
   have dn:=(mk n).mp (List.mem_of_getElem? e)
   have ng:=zat6 ok dn
   have kn0:=zat5 dn
   obtain ⟨b,egn⟩:∃ b,gs[n]?=some b:=⟨_,List.getElem?_eq_getElem (by omega)⟩
   obtain ⟨⟨d1,ob⟩,gt,gg,_⟩:=na.ch c
   have f1:=zad1 gp op
   obtain ⟨p,ep,hp⟩:=gg.at_ n b egn
   have at1:=zab8 ep
   have lbn0:=zaj9 lb (n:=n) (by omega) egn
   unfold lbn at lbn0
   rw [kn0] at lbn0
   unfold nV
   walk_at "rd"
   rename_i H3 c3
   cases hsr:b.src with
   | true =>
    rw [hsr] at lbn0
    have nn:=zaqw lb ok (by omega) (by omega) dn lbn0
    rw [nn] at q
    refine iteT ?_
    walk_at "rd"
    exact q _ (c.trans c3)
   | false =>
    rw [hsr] at lbn0
    refine iteF ?_
    have feed:∀ a∈b.feeds,∃ y,vv.getD a none=some y∧valV kvs (.inl (a:Int))=some (bV y):=fun a ha=>by
     have la:=zab4 (ok n b egn) hsr a ha
     by_cases hst:a∈kb.map (·.1)
     ·obtain ⟨y,ey⟩:=zacr.mp hst
      obtain ⟨ga,ega⟩:∃ ga,gs[a]?=some ga:=⟨_,List.getElem?_eq_getElem (by omega)⟩
      have:=zaj9 lb (n:=a) (by omega) ega
      unfold lbn at this
      rw [ey] at this
      exact ⟨y,this,bf.old a y ey⟩
     ·have da:Dn gs (kb.map (·.1)) g a:=.fed dn egn (by unfold fwn; rw [hsr]; exact ha) hst
      obtain ⟨j,hj,ej⟩:=List.getElem_of_mem ((mk a).mpr da)
      refine bf.new a ?_
      have hi:=(List.getElem?_eq_some_iff.mp e).1
      have en:=(List.getElem?_eq_some_iff.mp e).2
      have ji:j < i:=by
       rcases Nat.lt_or_ge j i with z | z
       ·exact z
       ·exfalso
        rcases Nat.lt_or_eq_of_le z with z | z
        ·have:=List.pairwise_iff_getElem.mp srt i j hi hj z
         omega
        ·subst z
         omega
      rw [← ej]
      exact List.mem_iff_getElem.mpr ⟨j,by rw [List.length_take]; omega,by rw [List.getElem_take]⟩
    have allS:b.feeds.all (fun a=>(vv.getD a none).isSome)=true:=List.all_eq_true.mpr fun a ha=>by obtain ⟨y,e1,_⟩:=feed a ha; rw [e1]; rfl
    simp only [Bool.false_eq_true,if_false] at lbn0
    rw [if_pos allS] at lbn0
    obtain ⟨rs,evs⟩:=zaol b
    have c03:=c.trans c3
    have hk3:=c3.get hk (by simp)
    have hr3:=c3.get hrr (by simp)
    have ob3:=c3.get ob (by simp)
    have gt3:=c3.get gt (by simp)
    have hp3:=c3.get hp (by simp)
    have f3:b.feeds.length≤3:=by cases b <;> simp [Gt.feeds]
    clear hk hrr ob gt hp gg
    walk_at "rd"
    refine zabg (fun σ H'=>∃ fl,σ=[some (.ref nt),some (.int (g:Int)),some (.ref sp),some (.int 1),some (.ref d),some (.int (n:Int)),some (.ref fl)]∧Ch [] H3 H'∧H' fl=some (.lst (b.feeds.map nV))) ?_ ?_
    ·walk_at "rd"
    rintro σ H4 ⟨fl,rfl,c4,hf4⟩
    have hk4:=c4.get hk3 (by simp)
    have hr4:=c4.get hr3 (by simp)
    have ob4:=c4.get ob3 (by simp)
    have gt4:=c4.get gt3 (by simp)
    have hp4:=c4.get hp3 (by simp)
    rw [evs] at hp4
    clear hk3 hr3 ob3 gt3 hp3
    walk_at "rd"
    refine zac8 (b.feeds.map nV) (fun j ys σ H'=>H'=H4∧ys=(b.feeds.take j).map (fun a=>bV ((vv.getD a none).getD false))∧∃ u,σ=[u,some (.ref d)]) (by rw [sizeLine_eq,List.length_map]; omega) ⟨rfl,rfl,_,rfl⟩ ?_ ?_ ?_
    ·rintro j ys σ H' hj ⟨rfl,rfl,_⟩
     exact ⟨by simp; omega,SqL.of hf4⟩
    ·rintro j ys σ H' x hx ⟨rfl,rfl,u,rfl⟩
     rw [List.getElem?_map] at hx
     cases ea:b.feeds[j]? with
     | none=>rw [ea] at hx; cases hx
     | some a =>
      rw [ea] at hx
      cases hx
      obtain ⟨y,y1,y2⟩:=feed a (List.mem_of_getElem? ea)
      unfold nV
      walk_at "rd"
      refine ⟨?_,_,rfl⟩
      rw [List.take_add_one,ea,List.map_append]
      show _=_++[bV ((vv.getD a none).getD false)]
      rw [y1]
      rfl
    ·rintro ys σ H5 ⟨rfl,rfl,u,rfl⟩
     rw [List.length_map,List.take_length]
     intro D hD
     refine ⟨_,rfl,D,b,fun a=>(vv.getD a none).getD false,rfl,hsr,zaae,?_⟩
     have hk5:=zabi (u:=HO.lst (b.feeds.map fun a=>bV ((vv.getD a none).getD false))) hD hk4
     have kl:=bf.len
     have tl:(ks.take i).length≤200:=by rw [List.length_take]; omega
     have c05:=(c03.trans c4).trans (Ch.new hD (HO.lst (b.feeds.map fun a=>bV ((vv.getD a none).getD false))))
     have hr5:=zabi (u:=HO.lst (b.feeds.map fun a=>bV ((vv.getD a none).getD false))) hD hr4
     generalize upd H5 D (HO.lst (b.feeds.map fun a=>bV ((vv.getD a none).getD false)))=H6 at hk5 c05 hr5 ⊢
     clear hk4 hr4 ob4 gt4 hp4
     walk_at "rd"
     refine ⟨zab0 nrd hr5,?_⟩
     rw [List.take_add_one,e]
     exact bf.put lbn0 kn0
 ·rintro σ H' ⟨kvs,u5,u6,rfl,c,hk,hrr,bf⟩
  rw [List.length_map,List.take_length] at bf
  obtain ⟨y,ey,vy⟩:∃ y,vv.getD g none=some y∧valV kvs (.inl (g:Int))=some (bV y):=by
   by_cases hst:g∈kb.map (·.1)
   ·obtain ⟨y,ey⟩:=zacr.mp hst
    obtain ⟨ga,ega⟩:∃ ga,gs[g]?=some ga:=⟨_,List.getElem?_eq_getElem hg⟩
    have:=zaj9 lb (n:=g) (by omega) ega
    unfold lbn at this
    rw [ey] at this
    exact ⟨y,this,bf.old g y ey⟩
   ·exact bf.new g ((mk g).mpr (.top hst))
  rw [ey] at q
  walk_at "rd"
  exact q _ c
theorem gl19:AG (defScope (top 19)) ["bits_from"]:=⟨by decide +kernel⟩
theorem av19:AF (defScope (top 19)) ["net", "gate", "known"]:=⟨by decide +kernel⟩
def spBo (CN:Addr):Sp:=fun vs H Q _=>∃ (nt gp op sp:Addr) (gs:List Gt) (xs:List V) (os:List Nat) (kb:List (Nat × Bool)) (g:Nat),vs=[.ref nt,.int (g:Int),.ref sp]∧NetAt CN H nt gp op gs xs os∧H sp=some (.dK (kbV kb))∧g < gs.length∧Oks gs∧gs.length≤200∧kb.length≤300 ∧
 ∀ H':Hp,Ch [] H H'→Q (oV ((lbv gs kb (g + 1)).getD g none)) H'
theorem scBo:FnScope ["net", "gate", "known"] ["net", "gate", "known"] (defScope (top 19)):=⟨rfl,rfl,rfl,by decide +kernel,rfl,by decide +kernel,by decide +kernel⟩
theorem zat8 {CN:Addr} (F:Fun K "bit_from" "bit_from" (top 19) f fd) (Dbits_from:DefOk P w K mg base CX0 k "bits_from" ["net", "gate", "known", "whole"] (spBf CN)):FnOk P w K mg base CX0 (k + 1) f fd ["net", "gate", "known"] (spBo CN):=by
 have nd:=scBo.nd
 refine F.ok scBo (fun vs H Q E h=>by obtain ⟨nt,gp,op,sp,gs,xs,os,kb,g,rfl,_⟩:=h; rfl) (fun cdv A outer s0 H vs Q E hr h=>?_)
 obtain ⟨nt,gp,op,sp,gs,xs,os,kb,g,rfl,na,hs,hg,ok,zg,zs,q⟩:=h
 refine ⟨_,(Pr.h (zaaf (zaas (zaak Dbits_from hr (gl19.g 0 rfl) pass0 (zaaa (qv av19 0 rfl) (zaaa (qv av19 1 rfl) (zaaa (qv av19 2 rfl) (zaaa zaac zaab zaah) zaad) zaad) zaad) zah2)))),?_⟩
 (try dsimp only [cxOf])
 walk_at "rd"
 rename_i H1 c1
 exact q _ c1
end
end

section
theorem Ch.forget {W:List Addr}{H H':Hp} (c:Ch W H H') (h:∀ w∈W,H w=none):Ch [] H H':=fun a o e _=>c a o e fun z=>by rw [h a z] at e; cases e
theorem Ch.inst {H:Hp}{x dx C:Addr} (hx:H x=none) (hd:H dx=none) (n:dx≠x):Ch [] H (upd (upd H dx (.own x)) x (.ins C dx [])):=(Ch.new hd _).trans (Ch.new (by rw [zaa5 n.symm]; exact hx) _)
theorem NetAt.b {C:Addr}{H H':Hp}{b nt gp op:Addr}{gs:List Gt}{xs ys:List V}{os:List Nat} (n:NetAt C H nt gp op gs xs os) (c:Ch [b] H H') (hb:H b=some (.lst ys)):NetAt C H' nt gp op gs xs os:=by
 obtain ⟨⟨dx,ob⟩,gt,gg,ot⟩:=n
 have ne:∀ {p:Addr}{o:HO},H p=some o→o≠.lst ys→p ∉ [b]:=fun h1 h2=>by simpa using zah6 h1 hb (by intro z; exact h2 z)
 exact ⟨⟨dx,c.get ob (ne ob (by intro z; cases z))⟩,c.get gt (ne gt (by intro z; cases z)),gg.tu (Tu.lst c hb),c.get ot (ne ot (by intro z; cases z))⟩
section
variable {P:Program}{w:World}{K:PySem.W.Frag}{mg:Str→Option Value}{base:Heap}{f:Addr}{fd:FuncData}{k:Nat}
theorem zacn:Nd "_law_same" := by decide +kernel
theorem zah3:Nd "_law_long" := by decide +kernel
theorem zapd:Nd "Net" := by decide +kernel
theorem zac4:Nd "_law_bit_from" := by decide +kernel
theorem zado:Nd "bit_from" := by decide +kernel
theorem av24:AF (defScope (top 24)) ["_law_found", "_law_due"]:=⟨by decide +kernel⟩
theorem gl24:AG (defScope (top 24)) ["isinstance", "dict", "len", "all", "tuple", "list", "zip", "str", "bool", "int"]:=⟨by decide +kernel⟩
def zagz:Scope:={ kind:=PySem.ScopeKind.function,names:=[ (PySem.Str.ofString ".0",PySem.NameKind.local),(PySem.Str.ofString "_law_name",PySem.NameKind.local),(PySem.Str.ofString "_law_same",PySem.NameKind.globalImplicit),(PySem.Str.ofString "_law_due",PySem.NameKind.free),(PySem.Str.ofString "_law_found",PySem.NameKind.free)],isGenerator:=false,isCoroutine:=false,more:=[]:PySem.Scope }
theorem zam6:CompOk zagz (defScope (top 24)) (["_law_name"]:List Str) (["_law_found", "_law_due"]:List Str) [0,1] (["_law_name", "_law_found", "_law_due"]:List Str):=compOk rfl (by decide +kernel) (by decide +kernel) (by decide +kernel) (by decide +kernel) rfl (by decide +kernel)
theorem zam7:AK (relab zagz (defScope (top 24))) ["_law_name"]:=⟨by decide +kernel⟩
theorem zaq7:AG (relab zagz (defScope (top 24))) ["_law_same"]:=⟨by decide +kernel⟩
theorem zaec:AV (relab zagz (defScope (top 24))) ["_law_name", "_law_found", "_law_due"]:=⟨by decide +kernel⟩
def zag0:Scope:={ kind:=PySem.ScopeKind.function,names:=[ (PySem.Str.ofString ".0",PySem.NameKind.local),(PySem.Str.ofString "_law_one",PySem.NameKind.local),(PySem.Str.ofString "_law_other",PySem.NameKind.local),(PySem.Str.ofString "_law_same",PySem.NameKind.globalImplicit)],isGenerator:=false,isCoroutine:=false,more:=[]:PySem.Scope }
theorem zaiw:CompOk zag0 (defScope (top 24)) (["_law_one", "_law_other"]:List Str) (["_law_found", "_law_due"]:List Str) [] (["_law_one", "_law_other"]:List Str):=compOk rfl (by decide +kernel) (by decide +kernel) (by decide +kernel) (by decide +kernel) rfl (by decide +kernel)
theorem zag1:AK (relab zag0 (defScope (top 24))) ["_law_one", "_law_other"]:=⟨by decide +kernel⟩
theorem zaq8:AG (relab zag0 (defScope (top 24))) ["_law_same"]:=⟨by decide +kernel⟩
theorem zam8:AV (relab zag0 (defScope (top 24))) ["_law_one", "_law_other"]:=⟨by decide +kernel⟩
def spSame:Sp:=fun vs H Q _=>∃ b:Option Bool,vs=[oV b,oV b]∧∀ H',Ch [] H H'→Q (.bl true) H'
theorem scSame:FnScope ["_law_found", "_law_due"] ["_law_found", "_law_due"] (defScope (top 24)):=⟨rfl,rfl,rfl,by decide +kernel,rfl,by decide +kernel,by decide +kernel⟩
theorem zaoo (F:Fun K "_law_same" "_law_same" (top 24) f fd) (D_law_same:DefOk P w K mg base CX0 k "_law_same" ["_law_found", "_law_due"] spNo) (z_isinstance:mg "isinstance" = none) (z_dict:mg "dict" = none) (z_list:mg "list" = none) (z_tuple:mg "tuple" = none) (z_str:mg "str" = none) (z_int:mg "int" = none) (z_bool:mg "bool" = none) (z_len:mg "len" = none) (z_all:mg "all" = none) (z_zip:mg "zip" = none) :
  FnOk P w K mg base CX0 (k + 1) f fd ["_law_found", "_law_due"] spSame:=by
 have nd:=scSame.nd
 refine F.ok scSame (fun vs H Q E h=>by obtain ⟨b,rfl,_⟩:=h; rfl) (fun cdv A outer s H vs Q E hr h=>?_)
 obtain ⟨b,rfl,q⟩:=h
 have hu:=zaei hr
 refine ⟨_,(Pr.h (zaag (zaaz (zaan zaov (qv av24 1 rfl) zad6 (nomark _)) (zaaf (zaas (zab7 zaov (qv av24 0 rfl) zad6 (nomark _)))) zaat) (zaag (zaaz (zabu (zaaj zabo (gl24.g 0 rfl) z_isinstance zaa0 (zaaa (qv av24 1 rfl) (zaaa (zabp (v:=.ty "dict") (gl24.g 1 rfl) z_dict zade rfl zadf zadg) zaab)) zaa1 zaa2)) (zaag (zaaz (zacp (zadv (zaco (zabu (zaaj zabo (gl24.g 0 rfl) z_isinstance zaa0 (zaaa (qv av24 0 rfl) (zaaa (zabp (v:=.ty "dict") (gl24.g 1 rfl) z_dict zade rfl zadf zadg) zaab)) zaa1 zaa2))) (zac7 (zaan zaev (zaaj zaal (gl24.g 2 rfl) z_len PySem.boot_len (zaaa (qv av24 0 rfl) zaab zaad) zabd zabe) (zaaj zaal (gl24.g 2 rfl) z_len PySem.boot_len (zaaa (qv av24 1 rfl) zaab zaad) zabd zabe) (nomark _))))) (zaaf (zaas zace)) zaat) (zaaf (zaas (zaaj (zage rfl) (gl24.g 3 rfl) z_all zal4 (zaaa (zab1 rfl zam6 (zacc (qv av24 1 rfl)) (fun _ _ _ _ _=>(zaav (i:=0) zam6.nd rfl (Or.inl (zam7.k 0 rfl)) (Or.inr (zam7.k 0 rfl)))) (fun _ _ _ _ _=>zacd) (fun _ _ _ _ _=>(zacu (zab7 (zaj5 K rfl) (qw zaec 0 rfl) (qw zaec 1 rfl) rfl) (zadn (zaak D_law_same hr (zaq7.g 0 rfl) pass0 (zaaa (zaap (zacq K rfl) (qw zaec 1 rfl) (qw zaec 0 rfl) (fun _ _=>rfl)) (zaaa (zaap (zacq K rfl) (qw zaec 2 rfl) (qw zaec 0 rfl) (fun _ _=>rfl)) zaab zaa3) zaa3) zacn))))) zaab zabm) zal5 zal6)))) zaat) (zaag (zaaz (zacp (zadv (zabu (zaaj zabo (gl24.g 0 rfl) z_isinstance zaa0 (zaaa (qv av24 1 rfl) (zaaa (zabp (v:=.ty "list") (gl24.g 5 rfl) z_list zadb rfl zadc zadd) zaab)) zaa1 zaa2)) (zac7 (zabu (zaaj zabo (gl24.g 0 rfl) z_isinstance zaa0 (zaaa (qv av24 1 rfl) (zaaa (zabp (v:=.ty "tuple") (gl24.g 4 rfl) z_tuple zacx rfl zacy zacz) zaab)) zaa1 zaa2))))) (zaag (zaaz (zaan zaev (zaaj zabo (gl24.g 0 rfl) z_isinstance zaa0 (zaaa (qv av24 0 rfl) (zaaa (zabp (v:=.ty "list") (gl24.g 5 rfl) z_list zadb rfl zadc zadd) zaab)) zaa1 zaa2) (zaaj zabo (gl24.g 0 rfl) z_isinstance zaa0 (zaaa (qv av24 1 rfl) (zaaa (zabp (v:=.ty "list") (gl24.g 5 rfl) z_list zadb rfl zadc zadd) zaab)) zaa1 zaa2) (nomark _)) (zaaf (zaas zace)) zaat) (zaag (zaaz (zacp (zadv (zaan zaev (zaaj zabo (gl24.g 0 rfl) z_isinstance zaa0 (zaaa (qv av24 0 rfl) (zaaa (zabp (v:=.ty "tuple") (gl24.g 4 rfl) z_tuple zacx rfl zacy zacz) zaab)) zaa1 zaa2) (zaaj zabo (gl24.g 0 rfl) z_isinstance zaa0 (zaaa (qv av24 1 rfl) (zaaa (zabp (v:=.ty "tuple") (gl24.g 4 rfl) z_tuple zacx rfl zacy zacz) zaab)) zaa1 zaa2) (nomark _)) (zac7 (zaan zaev (zaaj zaal (gl24.g 2 rfl) z_len PySem.boot_len (zaaa (qv av24 0 rfl) zaab zaad) zabd zabe) (zaaj zaal (gl24.g 2 rfl) z_len PySem.boot_len (zaaa (qv av24 1 rfl) zaab zaad) zabd zabe) (nomark _))))) (zaaf (zaas zace)) zaat) (zaaf (zaas (zaaj (zage rfl) (gl24.g 3 rfl) z_all zal4 (zaaa (zab1 rfl zaiw (zaqa .list .list (gl24.g 6 rfl) z_zip (zaaa (qv av24 0 rfl) (zaaa (qv av24 1 rfl) zaab zaad) zaad)) (fun _ _ _ _ _=>(zajd K 2 rfl rfl (zabv (zaav (i:=0) zaiw.nd rfl (Or.inl (zag1.k 0 rfl)) (Or.inr (zag1.k 0 rfl))) (zabv (zaav (i:=1) zaiw.nd rfl (Or.inl (zag1.k 1 rfl)) (Or.inr (zag1.k 1 rfl))) zadj)))) (fun _ _ _ _ _=>zacd) (fun _ _ _ _ _=>(zaak D_law_same hr (zaq8.g 0 rfl) pass0 (zaaa (qw zam8 0 rfl) (zaaa (qw zam8 1 rfl) zaab zaad) zaad) zacn))) zaab zabm) zal5 zal6))))) zaat) (zaag (zaaz (zabu (zaaj zabo (gl24.g 0 rfl) z_isinstance zaa0 (zaaa (qv av24 1 rfl) (zaaa (zabp (v:=.ty "str") (gl24.g 7 rfl) z_str zal1 rfl zal2 zal3) zaab)) zaa1 zaa2)) (zaaf (zaas (zacu (zaaj zabo (gl24.g 0 rfl) z_isinstance zaa0 (zaaa (qv av24 0 rfl) (zaaa (zabp (v:=.ty "str") (gl24.g 7 rfl) z_str zal1 rfl zal2 zal3) zaab)) zaa1 zaa2) (zadn (zab7 zabt (qv av24 0 rfl) (qv av24 1 rfl) (nomark _)))))) zaat) (zaaf (zaas (zacu (zaaj zabo (gl24.g 0 rfl) z_isinstance zaa0 (zaaa (qv av24 0 rfl) (zaaa (zabp (v:=.ty "int") (gl24.g 9 rfl) z_int zahu rfl zahv zahw) zaab)) zaa1 zaa2) (zacu (zak7 (zaaj zabo (gl24.g 0 rfl) z_isinstance zaa0 (zaaa (qv av24 0 rfl) (zaaa (zabp (v:=.ty "bool") (gl24.g 8 rfl) z_bool zaly rfl zalz zal0) zaab)) zaa1 zaa2)) (zadn (zab7 zabt (qv av24 0 rfl) (qv av24 1 rfl) (nomark _)))))))))))),?_⟩
 (try dsimp only [cxOf])
 cases b with
 | none =>
  show _
  unfold oV
  walk_at "rd"
  exact q _ (Ch.refl _ _)
 | some b =>
  unfold oV bV
  walk_at "rd"
  have e:decide (V.int (bi b)=V.int (bi b))=true:=by simp
  rw [e]
  exact q _ (Ch.refl _ _)
theorem zaop (F:Fun K "_law_same" "_law_same" (top 24) f fd):FnOk P w K mg base CX0 (k + 1) f fd ["_law_found", "_law_due"] spNo :=
 F.ok scSame (fun vs H Q E h=>h.elim) (fun cdv A outer s H vs Q E hr h=>h.elim)
theorem av35:AF (defScope (top 35)) ["_law_script", "_law_at", "_law_gates", "_law_net_here", "_law_last", "_law_known"]:=⟨by decide +kernel⟩
theorem gl35:AG (defScope (top 35)) ["_law_long", "_law_next", "Net", "len", "_law_same", "_law_bit_from", "bit_from"]:=⟨by decide +kernel⟩
def spLr (K:PySem.W.Frag):Sp:=fun vs H Q _=>∃ (a b:Addr) (ns:List Int) (c:Int),vs=[.ref a,.ref b]∧Scr K H a ns∧H b=some (.lst [.int c])∧0≤c∧c < 2 ^ 57∧∀ (c':Int) (H':Hp),Ch [b] H H'→H' b=some (.lst [.int c'])→0≤c'→c'≤c + 2000→Q (.bl true) H'
theorem scLr:FnScope ["_law_script", "_law_at", "_law_gates", "_law_net_here", "_law_last", "_law_known"] ["_law_script", "_law_at"] (defScope (top 35)):=⟨rfl,rfl,rfl,by decide +kernel,rfl,by decide +kernel,by decide +kernel⟩
theorem zat9 {CN:Addr} (F:Fun K "_law_long_right" "_law_long_right" (top 35) f fd) (MkNet:MakeOk P w K mg base CX0 k CN "Net" ["self", "gates", "outs"] (spNet CN)) (m_Net:mg "Net" = some (.ref CN)) (D_law_next:DefOk P w K mg base CX0 (k + 1) "_law_next" ["_law_script", "_law_at"] (spNext K)) (D_law_long:DefOk P w K mg base CX0 (k + 1) "_law_long" ["_law_script", "_law_at", "_law_many"] (spLng K)) (Dbit_from:DefOk P w K mg base CX0 (k + 1) "bit_from" ["net", "gate", "known"] (spBo CN)) (D_law_bit_from:DefOk P w K mg base CX0 (k + 1) "_law_bit_from" ["_law_gates", "_law_gate", "_law_known"] spLbf) (D_law_same:DefOk P w K mg base CX0 (k + 1) "_law_same" ["_law_found", "_law_due"] spSame) (z_len:mg "len" = none) :
  FnOk P w K mg base CX0 (k + 2) f fd ["_law_script", "_law_at"] (spLr K):=by
 have nd:=scLr.nd
 refine F.ok scLr (fun vs H Q E h=>by obtain ⟨a,b,ns,c,rfl,_⟩:=h; rfl) (fun cdv A outer s H vs Q E hr h=>?_)
 obtain ⟨a,b,ns,c,rfl,hS,hb,h0,h1,q⟩:=h
 have hrm:=hr
 refine ⟨_,(Pr.h (zaaw (zaaq (i:=2) nd rfl (av35.l 2 rfl) (zaak D_law_long hr (gl35.g 0 rfl) pass0 (zaaa (qv av35 0 rfl) (zaaa (qv av35 1 rfl) (zaaa (zaai zab2 zaac (zaai zaax (zaak D_law_next hr (gl35.g 1 rfl) pass0 (zaaa (qv av35 0 rfl) (zaaa (qv av35 1 rfl) zaab zaad) zaad) zaau) zaac)) zaab zaay) zaad) zaad) zah3)) (zaaw (zaaq (i:=3) nd rfl (av35.l 3 rfl) (zahj MkNet hrm (gl35.g 2 rfl) pass0 (zaaa (qv av35 2 rfl) (zaaa (zabb zaab) zaab zaie) zaad) zapd)) (zaag (zaaq (i:=4) nd rfl (av35.l 4 rfl) (zaai zac3 (zaaj zaal (gl35.g 3 rfl) z_len PySem.boot_len (zaaa (qv av35 2 rfl) zaab zaad) zabd zabe) zaac)) (zaag (zabk PassesOwn.never rfl (zacc (zabb (zaaa (zady (zacf zaac (zaai zaax (zaak D_law_next hr (gl35.g 1 rfl) pass0 (zaaa (qv av35 0 rfl) (zaaa (qv av35 1 rfl) zaab zaad) zaad) zaau) zaac) zadx) rfl rfl (by intro z; cases z) (by decide)) (zaaa (zady (zacf zaac zaac zadx) rfl rfl (by intro z; cases z) (by decide)) (zaaa (zady (zacf (zaai zab2 zaac (zaai zaax (zaak D_law_next hr (gl35.g 1 rfl) pass0 (zaaa (qv av35 0 rfl) (zaaa (qv av35 1 rfl) zaab zaad) zaad) zaau) zaac)) zaac zadx) rfl rfl (by intro z; cases z) (by decide)) zaab zaif) zaif) zaif))) (zaav (i:=5) nd rfl (av35.l 5 rfl)) (zaaf (zaaz (zaco (zabu (zaak D_law_same hr (gl35.g 4 rfl) pass0 (zaaa (zaak Dbit_from hr (gl35.g 6 rfl) pass0 (zaaa (qv av35 3 rfl) (zaaa (qv av35 4 rfl) (zaaa (qv av35 5 rfl) zaab zaad) zaad) zaad) zado) (zaaa (zaak D_law_bit_from hr (gl35.g 5 rfl) pass0 (zaaa (qv av35 2 rfl) (zaaa (qv av35 4 rfl) (zaaa (qv av35 5 rfl) zaab zaad) zaad) zaad) zac4) zaab zabh) zabh) zacn))) (zaaf (zaas zace)) zaat))) (zaaf (zaas zace))))))),?_⟩
 (try dsimp only [cxOf])
 refine zabg (fun σ H'=>∃ gl gs xs,σ=[some (.ref a),some (.ref b),some (.ref gl),none,none,none]∧GB H H' b gl c 1002 gs xs∧113≤gs.length∧gs.length≤142∧H gl=none) ?_ ?_
 ·walk_at "rd"
  rename_i z H1 z0 z1 c1 hb1
  refine ⟨(Int.toNat_of_nonneg (by omega:0≤110 + z % 30)).symm,by omega,hS.ch hb c1,hb1,by omega,by omega,fun gl gs xs H2 n ld ll fg=>?_⟩
  exact ⟨gl,gs,xs,rfl,(n.pre (c0:=c) (B0:=1) c1 (by omega) (by omega)).wk (by omega),by omega,by omega,freeB c1 hb1 fg⟩
 rintro σ H1 ⟨gl,gs,xs,rfl,n,l1,l2,fg⟩
 have nb:gl≠b:=(zaam hb fg).symm
 refine zabg (fun σ H'=>∃ nt gp op,σ=[some (.ref a),some (.ref b),some (.ref gl),some (.ref nt),none,none]∧Ch [] H1 H'∧NetAt CN H' nt gp op gs xs []) ?_ ?_
 ·have dgl:=n.gl
  have dgg:=n.gg
  have dok:=n.ok
  walk_at "rd"
  rename_i l2' h2 x dx hx hdx nx
  have ci:=Ch.inst (C:=CN) hx hdx nx
  have cL:=Ch.new (W:=[]) h2 (.lst [])
  have cA:=cL.trans ci
  refine ⟨ci.get (zabi h2 dgl) (by simp),dgg.tu (Tu.same cA),dok,by omega,(ci.get zaae (by simp):_=some (HO.lst (List.map nV []))),by simp,by simp,fun gp1 op1 H3 c3 na3=>⟨rfl,?_⟩⟩
  have c13:=cL.trans (Ch.forget (ci.wk.trans c3) (by simpa using hx))
  exact ⟨x,gp1,op1,rfl,c13,na3⟩
 rintro σ H2 ⟨nt,gp,op,rfl,c2,na⟩
 have n2:=n.same c2
 obtain ⟨c',hb2,hc1,hc2⟩:=n2.at_
 have hS2:Scr K H2 a ns:=hS.ch hb n2.ch
 have hg2:=n2.gl
 have gg2:=n2.gg
 have ok2:=n2.ok
 have hxl:=n2.gg.len
 obtain ⟨l,el⟩:∃ l:Nat,(xs.length:Int) - 1=(l:Int):=⟨xs.length - 1,by omega⟩
 walk_at "rd"
 rename_i d1 hd1 z1 H3 z10 z11 c3 hb3
 have nd1:d1≠b:=(zaam hb2 hd1).symm
 have hd3:=c3.get (zaae (a:=d1) (o:=HO.dK [])) (by simpa using nd1)
 refine ⟨hd3,[kb1 (0,decide (z1 % 2=1))],(by show [(V.int 0,V.int (z1 % 2))]=_; rw [zamu]; rfl),by simp,?_⟩
 have cA:Ch [b] H2 (upd H3 d1 (HO.dK (mergeK [] [kb1 (0,decide (z1 % 2=1))]))):=Ch.own hd1 ((Ch.wk (Ch.new hd1 _)).trans c3)
 have kA:upd H3 d1 (HO.dK (mergeK [] [kb1 (0,decide (z1 % 2=1))])) d1=some (.dK (kbV [(0,decide (z1 % 2=1))])):=by rw [zaae]; rfl
 have bA:upd H3 d1 (HO.dK (mergeK [] [kb1 (0,decide (z1 % 2=1))])) b=some (.lst [.int (c' + 1)]):=zab0 nd1.symm hb3
 generalize upd H3 d1 (HO.dK (mergeK [] [kb1 (0,decide (z1 % 2=1))]))=HA at cA kA bA ⊢
 walk_at "rd"
 rename_i d2 hd2
 refine ⟨(rfl:_=List.map (fun kv=>(kV kv.1,kv.2)) [kb1 (1,true)]),by simp,?_⟩
 have cB:Ch [] HA (upd (upd HA d2 (HO.dK [])) d2 (HO.dK (mergeK [] [kb1 (1,true)]))):=Ch.own hd2 (Ch.new hd2 _)
 have kB:upd (upd HA d2 (HO.dK [])) d2 (HO.dK (mergeK [] [kb1 (1,true)])) d2=some (.dK (kbV [(1,true)])):=by rw [zaae]; rfl
 generalize upd (upd HA d2 (HO.dK [])) d2 (HO.dK (mergeK [] [kb1 (1,true)]))=HB at cB kB ⊢
 have bB:=cB.get bA (by simp)
 have kA:=cB.get kA (by simp)
 have cB2:=cA.trans (Ch.wk cB)
 have nd2:d2≠b:=(zaam bA hd2).symm
 have hSB:Scr K HB a ns:=hS.ch hb (n2.ch.trans cB2)
 walk_at "rd"
 rename_i d3 hd3' z3 HC z30 z31 cC hbC
 have nd3:d3≠b:=(zaam bB hd3').symm
 have hd3c:=cC.get (zaae (a:=d3) (o:=HO.dK [])) (by simpa using nd3)
 refine ⟨hd3c,[kb1 ((2 + z3 % 100).toNat,true)],(by show [(V.int (2 + z3 % 100),V.int 1)]=[(V.int (((2 + z3 % 100).toNat:Nat):Int),V.int 1)]; rw [Int.toNat_of_nonneg (by omega)]),by simp,?_⟩
 have cD:Ch [b] HB (upd HC d3 (HO.dK (mergeK [] [kb1 ((2 + z3 % 100).toNat,true)]))):=Ch.own hd3' ((Ch.wk (Ch.new hd3' _)).trans cC)
 have kD:upd HC d3 (HO.dK (mergeK [] [kb1 ((2 + z3 % 100).toNat,true)])) d3=some (.dK (kbV [((2 + z3 % 100).toNat,true)])):=by rw [zaae]; rfl
 have bD:upd HC d3 (HO.dK (mergeK [] [kb1 ((2 + z3 % 100).toNat,true)])) b=some (.lst [.int (c' + 1 + 1)]):=zab0 nd3.symm hbC
 generalize upd HC d3 (HO.dK (mergeK [] [kb1 ((2 + z3 % 100).toNat,true)]))=HD at cD kD bD ⊢
 have kA:=cD.get kA (by simpa using nd1)
 have kB:=cD.get kB (by simpa using nd2)
 have cE:=cB2.trans cD
 have naD:=na.b cE hb2
 have hgD:=cE.get hg2 (by simpa using nb)
 have ggD:=gg2.tu (Tu.lst cE hb2)
 have ll:l < gs.length:=by omega
 clear hS2 hg2 gg2 hSB bB bA
 walk_at "rd"
 rename_i L hL
 have hL9:upd HD L (HO.lst [V.ref d1,V.ref d2,V.ref d3]) L=some (.lst [V.ref d1,V.ref d2,V.ref d3]):=zaae
 have cL:Ch [] HD (upd HD L (HO.lst [V.ref d1,V.ref d2,V.ref d3])):=Ch.new hL _
 generalize upd HD L (HO.lst [V.ref d1,V.ref d2,V.ref d3])=HE at hL9 cL ⊢
 dsimp only
 rw [el]
 refine zadt (xs:=[V.ref d1,V.ref d2,V.ref d3]) (fun i σ H'=>∃ u5,σ=[some (.ref a),some (.ref b),some (.ref gl),some (.ref nt),some (.int (l:Int)),u5]∧Ch [] HE H') ⟨_,rfl,Ch.refl _ _⟩ ?_ ?_ ?_
 ·rintro i σ H' hi ⟨u5,rfl,c9⟩
  exact SqL.of (c9.get hL9 (by simp))
 ·rintro i x σ H' hx ⟨u5,rfl,c9⟩
  have cX:=cL.trans c9
  obtain ⟨d,kb,rfl,hd,lk⟩:∃ d kb,x=.ref d∧H' d=some (.dK (kbV kb))∧kb.length≤300:=by
   match i,hx with
   | 0,hx=>cases hx; exact ⟨d1,_,rfl,cX.get kA (by simp),by simp⟩
   | 1,hx=>cases hx; exact ⟨d2,_,rfl,cX.get kB (by simp),by simp⟩
   | 2,hx=>cases hx; exact ⟨d3,_,rfl,cX.get kD (by simp),by simp⟩
   | i + 3,hx=>simp at hx
  have na9:=naD.ch cX
  have hg9:=cX.get hgD (by simp)
  have gg9:=ggD.tu (Tu.same cX)
  have l200:gs.length≤200:=by omega
  clear kA kB kD hgD ggD naD
  walk_at "rd"
  rename_i H10 c10
  refine ⟨gg9.tu (Tu.same c10),ok2,l200,c10.get hd (by simp),ll,fun H11 c11=>?_⟩
  have c99:=(c9.trans c10).trans c11
  refine ⟨_,rfl,fun H12 c12=>?_⟩
  walk_at "rd"
 ·rintro σ H' ⟨u5,rfl,c9⟩
  walk_at "rd"
  have cX:=cL.trans c9
  exact q _ _ ((n2.ch.trans cE).trans (Ch.wk cX)) (cX.get bD (by simp)) (by omega) (by omega)
end
end

section
theorem zaoq {gs:List Gt}{beat:List Bool}{g:Nat}{b:Gt}{kb:List (Nat × Bool)} (ok:Oks gs) (gb:Gb gs gs.length beat) (e:gs[g]?=some b) (s:b.src=false) (hk:∀ n,kb.lookup n=if n∈b.feeds then some (beat.getD n false) else none):(lbv gs kb (g + 1)).getD g none=some (beat.getD g false):=by
 have gl:=(List.getElem?_eq_some_iff.mp e).1
 have lb:=zah0 (kb:=kb) ok (i:=g + 1) (by omega)
 generalize lbv gs kb (g + 1)=vv at lb
 have nf:g ∉ b.feeds:=fun z=>by have:=zab4 (ok g b e) s g z; omega
 have va:∀ a∈b.feeds,vv.getD a none=some (beat.getD a false):=fun a ha=>by
  have la:=zab4 (ok g b e) s a ha
  obtain ⟨ga,ega⟩:∃ ga,gs[a]?=some ga:=⟨_,List.getElem?_eq_getElem (by omega)⟩
  rw [zaj9 lb (by omega) ega]
  unfold lbn
  rw [hk a,if_pos ha]
 rw [zaj9 lb (by omega) e]
 unfold lbn
 rw [hk g,if_neg nf,s]
 simp only [Bool.false_eq_true,if_false]
 rw [if_pos (List.all_eq_true.mpr fun a ha=>by rw [va a ha]; rfl)]
 have:=gb.at_ g b gl e s
 rw [List.getD_eq_getElem?_getD,this]
 show some _=some _
 congr 1
 exact zafo (fun a ha=>by rw [va a ha]; rfl) s
structure TF (β:Nat→Bool) (l:List Nat) (H0 H:Hp) (ys:List V):Prop where
 ex:∃ ts:List Addr,ys=ts.map V.ref∧ts.length=l.length∧Paired (fun kv t=>H t=some (.tup [kV kv.1,kv.2])) ((l.map fun a=>(a,β a)).map kb1) ts∧Ch [] H0 H
theorem TF.add {β:Nat→Bool}{l:List Nat}{H0 H H':Hp}{ys:List V}{t:Addr}{n:Nat} (h:TF β l H0 H ys) (c:Ch [] H H') (e:H' t=some (.tup [V.int (n:Int),bV (β n)])):TF β (l++[n]) H0 H' (ys++[.ref t]):=by
 obtain ⟨ts,rfl,e1,e2,e3⟩:=h.ex
 refine ⟨ts++[t],(List.map_append (f:=V.ref) (l₁:=ts) (l₂:=[t])).symm,by simp [e1],?_,e3.trans c⟩
 rw [List.map_append,List.map_append]
 exact zac1 (x:=kb1 (n,β n)) (y:=t) e (zab6 (fun _ _ z=>c.get z (by simp)) e2)
section
variable {P:Program}{w:World}{K:PySem.W.Frag}{mg:Str→Option Value}{base:Heap}{f:Addr}{fd:FuncData}{k:Nat}
theorem zad2:Nd "_law_long_right" := by decide +kernel
theorem zael:Nd "_law_some_net" := by decide +kernel
theorem zaeg:Nd "_law_bits" := by decide +kernel
theorem zaed:Nd "_law_gate_bits" := by decide +kernel
theorem zad3:Nd "_law_some_known" := by decide +kernel
theorem av36:AF (defScope (top 36)) ["_law_script", "_law_at", "_law_gates", "_law_outs", "_law_net_here", "_law_ins", "_law_held", "_law_beat", "_law_k", "_law_gate", "_law_known", "_law_kept", "_law_due", "_law_feeds"]:=⟨by decide +kernel⟩
theorem gl36:AG (defScope (top 36)) ["_law_long_right", "_law_some_net", "Net", "len", "_law_bits", "_law_gate_bits", "range", "_law_next", "_law_some_known", "dict", "_law_bit_from", "_law_same", "bit_from", "_law_is_source"]:=⟨by decide +kernel⟩
def zaix:Scope:={ kind:=PySem.ScopeKind.function,names:=[(PySem.Str.ofString ".0",PySem.NameKind.local),(PySem.Str.ofString "_law_gate",PySem.NameKind.local)],isGenerator:=false,isCoroutine:=false,more:=[]:PySem.Scope }
theorem zam9:CompOk zaix (defScope (top 36)) (["_law_gate"]:List Str) (["_law_script", "_law_at", "_law_gates", "_law_outs", "_law_net_here", "_law_ins", "_law_held", "_law_beat", "_law_k", "_law_gate", "_law_known", "_law_kept", "_law_due", "_law_feeds"]:List Str) [] (["_law_gate"]:List Str):=compOk rfl (by decide +kernel) (by decide +kernel) (by decide +kernel) (by decide +kernel) rfl (by decide +kernel)
theorem zana:AK (relab zaix (defScope (top 36))) ["_law_gate"]:=⟨by decide +kernel⟩
theorem zanb:AV (relab zaix (defScope (top 36))) ["_law_gate"]:=⟨by decide +kernel⟩
def zaiy:Scope:={ kind:=PySem.ScopeKind.function,names:=[(PySem.Str.ofString ".0",PySem.NameKind.local),(PySem.Str.ofString "_law_gate",PySem.NameKind.local)],isGenerator:=false,isCoroutine:=false,more:=[]:PySem.Scope }
theorem zanc:CompOk zaiy (defScope (top 36)) (["_law_gate"]:List Str) (["_law_script", "_law_at", "_law_gates", "_law_outs", "_law_net_here", "_law_ins", "_law_held", "_law_beat", "_law_k", "_law_gate", "_law_known", "_law_kept", "_law_due", "_law_feeds"]:List Str) [] (["_law_gate"]:List Str):=compOk rfl (by decide +kernel) (by decide +kernel) (by decide +kernel) (by decide +kernel) rfl (by decide +kernel)
theorem zand:AK (relab zaiy (defScope (top 36))) ["_law_gate"]:=⟨by decide +kernel⟩
theorem zane:AV (relab zaiy (defScope (top 36))) ["_law_gate"]:=⟨by decide +kernel⟩
def zaiz:Scope:={ kind:=PySem.ScopeKind.function,names:=[ (PySem.Str.ofString ".0",PySem.NameKind.local),(PySem.Str.ofString "_law_feed",PySem.NameKind.local),(PySem.Str.ofString "_law_beat",PySem.NameKind.free)],isGenerator:=false,isCoroutine:=false,more:=[]:PySem.Scope }
theorem zanf:CompOk zaiz (defScope (top 36)) (["_law_feed"]:List Str) (["_law_script", "_law_at", "_law_gates", "_law_outs", "_law_net_here", "_law_ins", "_law_held", "_law_beat", "_law_k", "_law_gate", "_law_known", "_law_kept", "_law_due", "_law_feeds"]:List Str) [7] (["_law_feed", "_law_beat"]:List Str):=compOk rfl (by decide +kernel) (by decide +kernel) (by decide +kernel) (by decide +kernel) rfl (by decide +kernel)
theorem zang:AK (relab zaiz (defScope (top 36))) ["_law_feed"]:=⟨by decide +kernel⟩
theorem zai0:AV (relab zaiz (defScope (top 36))) ["_law_feed", "_law_beat"]:=⟨by decide +kernel⟩
def spLaw (K:PySem.W.Frag):Sp:=fun vs H Q _=>∃ (a:Addr) (ns:List Int),vs=[.ref a]∧Scr K H a ns∧∀ H',Q (.bl true) H'
theorem scLaw:FnScope ["_law_script", "_law_at", "_law_gates", "_law_outs", "_law_net_here", "_law_ins", "_law_held", "_law_beat", "_law_k", "_law_gate", "_law_known", "_law_kept", "_law_due", "_law_feeds"] ["_law_script"] (defScope (top 36)):=⟨rfl,rfl,rfl,by decide +kernel,rfl,by decide +kernel,by decide +kernel⟩
theorem zatf {CN:Addr} (F:Fun K "law" "law" (top 36) f fd) (MkNet:MakeOk P w K mg base CX0 k CN "Net" ["self", "gates", "outs"] (spNet CN)) (m_Net:mg "Net" = some (.ref CN)) (D_law_next:DefOk P w K mg base CX0 (k + 1) "_law_next" ["_law_script", "_law_at"] (spNext K)) (D_law_long_right:DefOk P w K mg base CX0 (k + 1) "_law_long_right" ["_law_script", "_law_at"] (spLr K)) (D_law_some_net:DefOk P w K mg base CX0 (k + 1) "_law_some_net" ["_law_script", "_law_at", "_law_small"] (spSom K)) (D_law_is_source:DefOk P w K mg base CX0 (k + 1) "_law_is_source" ["_law_gates", "_law_number"] spLSrc) (D_law_some_known:DefOk P w K mg base CX0 (k + 1) "_law_some_known" ["_law_script", "_law_at", "_law_gates", "_law_gate", "_law_beat"] (spSk K)) (D_law_bits:DefOk P w K mg base CX0 (k + 1) "_law_bits" ["_law_script", "_law_at", "_law_many"] (spLBits K)) (D_law_gate_bits:DefOk P w K mg base CX0 (k + 1) "_law_gate_bits" ["_law_gates", "_law_fed", "_law_held"] spGbs) (Dbit_from:DefOk P w K mg base CX0 (k + 1) "bit_from" ["net", "gate", "known"] (spBo CN)) (D_law_bit_from:DefOk P w K mg base CX0 (k + 1) "_law_bit_from" ["_law_gates", "_law_gate", "_law_known"] spLbf) (D_law_same:DefOk P w K mg base CX0 (k + 1) "_law_same" ["_law_found", "_law_due"] spSame) (z_len:mg "len" = none) (z_range:mg "range" = none) (z_dict:mg "dict" = none) :
  FnOk P w K mg base CX0 (k + 2) f fd ["_law_script"] (spLaw K):=by
 have nd:=scLaw.nd
 refine F.ok scLaw (fun vs H Q E h=>by obtain ⟨a,ns,rfl,_⟩:=h; rfl) (fun cdv A outer s H vs Q E hr h=>?_)
 obtain ⟨a,ns,rfl,hS,q⟩:=h
 have hrm:=hr
 have hu:=zaei hr
 refine ⟨_,(Pr.h (zaaw (zaaq (i:=1) nd rfl (av36.l 1 rfl) (zabb (zaaa zaac zaab zaah))) (zaag (zaaz (zaco (zabu (zaak D_law_long_right hr (gl36.g 0 rfl) pass0 (zaaa (qv av36 0 rfl) (zaaa (qv av36 1 rfl) zaab zaad) zaad) zad2))) (zaaf (zaas zace)) zaat) (zaag (zagd (zaak D_law_some_net hr (gl36.g 1 rfl) pass0 (zaaa (qv av36 0 rfl) (zaaa (qv av36 1 rfl) (zaaa zace zaab zaah) zaad) zaad) zael) (zagc rfl (zabv (zaav (i:=2) nd rfl (av36.l 2 rfl)) (zabv (zaav (i:=3) nd rfl (av36.l 3 rfl)) zadj)))) (zaaw (zaaq (i:=4) nd rfl (av36.l 4 rfl) (zahj MkNet hrm (gl36.g 2 rfl) pass0 (zaaa (qv av36 2 rfl) (zaaa (qv av36 3 rfl) zaab zaad) zaad) zapd)) (zaag (zaaz (zaan zabt (zaaj zaal (gl36.g 3 rfl) z_len PySem.boot_len (zaaa (qv av36 2 rfl) zaab zaad) zabd zabe) zaac (nomark _)) (zaaf (zaas zace)) zaat) (zaaw (zaaq (i:=5) nd rfl (av36.l 5 rfl) (zaaj zaal (gl36.g 3 rfl) z_len PySem.boot_len (zaaa (zab1 rfl zam9 (zacc (qv av36 2 rfl)) (fun _ _ _ _ _=>(zaav (i:=0) zam9.nd rfl (Or.inl (zana.k 0 rfl)) (Or.inr (zana.k 0 rfl)))) (fun _ _ _ _ _=>(zaep (zaan zabt (zaap (zajc K rfl) (qw zanb 0 rfl) zaac (fun _ _=>rfl)) zaao (nomark _)))) (fun _ _ _ _ _=>(qw zanb 0 rfl))) zaab zabm) zabd zabe)) (zaaw (zaaq (i:=6) nd rfl (av36.l 6 rfl) (zaak D_law_bits hr (gl36.g 4 rfl) pass0 (zaaa (qv av36 0 rfl) (zaaa (qv av36 1 rfl) (zaaa (zaaj zaal (gl36.g 3 rfl) z_len PySem.boot_len (zaaa (zab1 rfl zanc (zacc (qv av36 2 rfl)) (fun _ _ _ _ _=>(zaav (i:=0) zanc.nd rfl (Or.inl (zand.k 0 rfl)) (Or.inr (zand.k 0 rfl)))) (fun _ _ _ _ _=>(zaep (zaan zabt (zaap (zajc K rfl) (qw zane 0 rfl) zaac (fun _ _=>rfl)) zaao (nomark _)))) (fun _ _ _ _ _=>(qw zane 0 rfl))) zaab zabm) zabd zabe) zaab zabh) zaad) zaad) zaeg)) (zaaw (zaaq (i:=7) nd rfl (av36.l 7 rfl) (zaak D_law_gate_bits hr (gl36.g 5 rfl) pass0 (zaaa (qv av36 2 rfl) (zaaa (zaak D_law_bits hr (gl36.g 4 rfl) pass0 (zaaa (qv av36 0 rfl) (zaaa (qv av36 1 rfl) (zaaa (qv av36 5 rfl) zaab zaad) zaad) zaad) zaeg) (zaaa (qv av36 6 rfl) zaab zaad) zabh) zaad) zaed)) (zaag (zabk PassesOwn.never rfl (zabs (gl36.g 6 rfl) z_range (zaaa (zaai zab2 zaac (zaai zaax (zaak D_law_next hr (gl36.g 7 rfl) pass0 (zaaa (qv av36 0 rfl) (zaaa (qv av36 1 rfl) zaab zaad) zaad) zaau) zaac)) zaab zaay)) (zaav (i:=8) nd rfl (av36.l 8 rfl)) (zaag (zaaq (i:=9) nd rfl (av36.l 9 rfl) (zaai zaax (zaak D_law_next hr (gl36.g 7 rfl) pass0 (zaaa (qv av36 0 rfl) (zaaa (qv av36 1 rfl) zaab zaad) zaad) zaau) (zaaj zaal (gl36.g 3 rfl) z_len PySem.boot_len (zaaa (qv av36 2 rfl) zaab zaad) zabd zabe))) (zaaw (zaaq (i:=10) nd rfl (av36.l 10 rfl) (zaak D_law_some_known hr (gl36.g 8 rfl) pass0 (zaaa (qv av36 0 rfl) (zaaa (qv av36 1 rfl) (zaaa (qv av36 2 rfl) (zaaa (qv av36 9 rfl) (zaaa (qv av36 7 rfl) zaab zaad) zaad) zaad) zaad) zaad) zad3)) (zaaw (zaaq (i:=11) nd rfl (av36.l 11 rfl) (zabc zaf4 (gl36.g 9 rfl) z_dict zade (zaaa (qv av36 10 rfl) zaab zaad) zadf zadg)) (zaaw (zaaq (i:=12) nd rfl (av36.l 12 rfl) (zaak D_law_bit_from hr (gl36.g 10 rfl) pass0 (zaaa (qv av36 2 rfl) (zaaa (qv av36 9 rfl) (zaaa (qv av36 10 rfl) zaab zaad) zaad) zaad) zac4)) (zaag (zaaz (zacp (zadv (zaco (zabu (zaak D_law_same hr (gl36.g 11 rfl) pass0 (zaaa (zaak Dbit_from hr (gl36.g 12 rfl) pass0 (zaaa (qv av36 4 rfl) (zaaa (qv av36 9 rfl) (zaaa (qv av36 10 rfl) zaab zaad) zaad) zaad) zado) (zaaa (qv av36 12 rfl) zaab zaad) zabh) zacn))) (zac7 (zaan (zasp hr.units) (qv av36 10 rfl) (qv av36 11 rfl) (nomark _))))) (zaaf (zaas zace)) zaat) (zaaf (zaaz (zaco (zabu (zaak D_law_is_source hr (gl36.g 13 rfl) pass0 (zaaa (qv av36 2 rfl) (zaaa (qv av36 9 rfl) zaab zaad) zaad) zab9))) (zaaw (zaaq (i:=13) nd rfl (av36.l 13 rfl) (zabc (zadl rfl) (gl36.g 9 rfl) z_dict zade (zaaa (zab1 rfl zanf (zae6 (zab3 zae1 (zaap zaar (qv av36 2 rfl) (qv av36 9 rfl) (fun _ _=>rfl)) (zacb zaac) zaca)) (fun _ _ _ _ _=>(zaav (i:=0) zanf.nd rfl (Or.inl (zang.k 0 rfl)) (Or.inr (zang.k 0 rfl)))) (fun _ _ _ _ _=>zacd) (fun _ _ _ _ _=>(zabf (zaaa (qw zai0 0 rfl) (zaaa (zaap (zacq K rfl) (qw zai0 1 rfl) (qw zai0 0 rfl) (fun _ _=>rfl)) zaab zaa3) zaad)))) zaab zabm) zadf zadg)) (zaaf (zaaz (zaan zaev (zaak Dbit_from hr (gl36.g 12 rfl) pass0 (zaaa (qv av36 4 rfl) (zaaa (qv av36 9 rfl) (zaaa (qv av36 13 rfl) zaab zaad) zaad) zaad) zado) (zaap zaar (qv av36 7 rfl) (qv av36 9 rfl) (fun _ _=>rfl)) (nomark _)) (zaaf (zaas zace)) zaat))) zaat)))))))) (zaaf (zaas zace)))))))))))),?_⟩
 (try dsimp only [cxOf])
 refine zabg (fun σ H'=>∃ b,σ=[some (.ref a),some (.ref b),none,none,none,none,none,none,none,none,none,none,none,none]∧Scr K H' a ns∧H' b=some (.lst [.int 0])) ?_ ?_
 ·walk_at "rd"
 rintro σ H0 ⟨b,rfl,hS,hb⟩
 walk_at "rd"
 rename_i c1 H1 k1 hb1 c10 c11 R gl ol gs xs os H2 pn
 obtain ⟨n,tu,len,hol,olt,ln,nb,ob⟩:=pn
 refine ⟨SqT.of tu,rfl,?_⟩
 have hS2:Scr K H2 a ns:=hS.ch hb (k1.trans n.ch)
 obtain ⟨c2,hb2,c20,c21⟩:=n.at_
 have hg2:=n.gl
 have gg2:=n.gg
 have ok:=n.ok
 have hxl:=gg2.len
 clear tu k1 hb1 hS hb n
 walk_at "rd"
 refine zabg (fun σ H'=>∃ nt gp op,σ=[some (.ref a),some (.ref b),some (.ref gl),some (.ref ol),some (.ref nt),none,none,none,none,none,none,none,none,none]∧Ch [] H2 H'∧NetAt CN H' nt gp op gs xs os) ?_ ?_
 ·walk_at "rd"
  rename_i x dx hx hdx nx
  have ci:=Ch.inst (C:=CN) hx hdx nx
  refine ⟨ci.get hg2 (by simp),gg2.tu (Tu.same ci),ok,by omega,ci.get hol (by simp),olt,by omega,fun gp1 op1 H3 c3 na3=>⟨rfl,?_⟩⟩
  exact ⟨x,gp1,op1,rfl,Ch.forget (ci.wk.trans c3) (by simpa using hx),na3⟩
 rintro σ H3 ⟨nt,gp,op,rfl,k3,na⟩
 have hg3:=k3.get hg2 (by simp)
 have gg3:=gg2.tu (Tu.same k3)
 have hb3:=k3.get hb2 (by simp)
 have hS3:Scr K H3 a ns:=hS2.same k3
 clear hg2 gg2 hb2 hS2
 have nbl:ol≠b:=ob
 walk_at "rd"
 refine ite2 (fun hc=>?_) (fun hc=>?_)
 ·walk_at "rd"
  exact q _
 have gpos:0 < gs.length:=by
  rcases Nat.eq_zero_or_pos gs.length with z | z
  ·exact absurd (by simp [hxl,z]) hc
  ·exact z
 walk_at "rd"
 refine zabg (fun σ H'=>σ=[some (.ref a),some (.ref b),some (.ref gl),some (.ref ol),some (.ref nt),some (.int ((gs.countP Gt.isIn:Nat):Int)),none,none,none,none,none,none,none,none]∧Ch [] H3 H') ?_ ?_
 ·walk_at "rd"
  refine zac8 xs (fun i ys σ H'=>H'=H3∧ys.length=(gs.take i).countP Gt.isIn∧∃ u,σ=[u]) (by rw [sizeLine_eq]; omega) ⟨rfl,rfl,_,rfl⟩ ?_ ?_ ?_
  ·rintro i ys σ H' hi ⟨rfl,ly,_⟩
   exact ⟨by rw [ly]; exact Nat.le_trans List.countP_le_length (by simp; omega),SqL.of hg3⟩
  ·rintro i ys σ H' x hx ⟨rfl,ly,u,rfl⟩
   have hi:i < gs.length:=by rw [← hxl]; exact (List.getElem?_eq_some_iff.mp hx).1
   obtain ⟨g1,eg1⟩:∃ g1,gs[i]?=some g1:=⟨_,List.getElem?_eq_getElem hi⟩
   obtain ⟨p,ep,hp⟩:=gg3.at_ i g1 eg1
   rw [hx] at ep
   cases ep
   obtain ⟨rs,ev⟩:=zaol g1
   rw [ev] at hp
   have tk:(gs.take (i + 1)).countP Gt.isIn=(gs.take i).countP Gt.isIn + if g1.isIn then 1 else 0:=by rw [List.take_add_one,eg1,List.countP_append]; simp [List.countP_cons]
   walk_at "rd"
   rw [zas5]
   cases hI:g1.isIn with
   | true =>
    rw [hI] at tk
    exact iteT ⟨_,rfl,rfl,by rw [tk,List.length_append,ly]; rfl,_,rfl⟩
   | false =>
    rw [hI] at tk
    exact iteF ⟨rfl,by rw [tk,ly]; rfl,_,rfl⟩
  ·rintro ys σ H' ⟨rfl,ly,_⟩
   rw [hxl,List.take_length] at ly
   intro D hD
   refine ⟨D,ys,rfl,.inl (SqL.of zaae),?_⟩
   rw [ly]
   exact ⟨rfl,Ch.new hD _⟩
 rintro σ H4 ⟨rfl,k4⟩
 have hg4:=k4.get hg3 (by simp)
 have gg4:=gg3.tu (Tu.same k4)
 have hb4:=k4.get hb3 (by simp)
 have hS4:Scr K H4 a ns:=hS3.same k4
 have na4:=na.ch k4
 clear hg3 gg3 hb3 hS3 na k4 k3 hol
 refine zabg (fun σ H'=>∃ (hr9:Addr) (hs:List Bool) (c5:Int),σ=[some (.ref a),some (.ref b),some (.ref gl),some (.ref ol),some (.ref nt),some (.int ((gs.countP Gt.isIn:Nat):Int)),some (.ref hr9),none,none,none,none,none,none,none]∧Ch [b] H4 H'∧H' b=some (.lst [.int c5])∧0≤c5∧c5≤c2 + 100∧H' hr9=some (.lst (hs.map bV))∧hs.length=gs.countP Gt.isKeep∧H4 hr9=none) ?_ ?_
 ·walk_at "rd"
  refine zac8 xs (fun i ys σ H'=>H'=H4∧ys.length=(gs.take i).countP Gt.isKeep∧∃ u,σ=[u]) (by rw [sizeLine_eq]; omega) ⟨rfl,rfl,_,rfl⟩ ?_ ?_ ?_
  ·rintro i ys σ H' hi ⟨rfl,ly,_⟩
   exact ⟨by rw [ly]; exact Nat.le_trans List.countP_le_length (by simp; omega),SqL.of hg4⟩
  ·rintro i ys σ H' x hx ⟨rfl,ly,u,rfl⟩
   have hi:i < gs.length:=by rw [← hxl]; exact (List.getElem?_eq_some_iff.mp hx).1
   obtain ⟨g1,eg1⟩:∃ g1,gs[i]?=some g1:=⟨_,List.getElem?_eq_getElem hi⟩
   obtain ⟨p,ep,hp⟩:=gg4.at_ i g1 eg1
   rw [hx] at ep
   cases ep
   obtain ⟨rs,ev⟩:=zaol g1
   rw [ev] at hp
   have tk:(gs.take (i + 1)).countP Gt.isKeep=(gs.take i).countP Gt.isKeep + if g1.isKeep then 1 else 0:=by rw [List.take_add_one,eg1,List.countP_append]; simp [List.countP_cons]
   walk_at "rd"
   rw [zagp]
   cases hI:g1.isKeep with
   | true =>
    rw [hI] at tk
    exact iteT ⟨_,rfl,rfl,by rw [tk,List.length_append,ly]; rfl,_,rfl⟩
   | false =>
    rw [hI] at tk
    exact iteF ⟨rfl,by rw [tk,ly]; rfl,_,rfl⟩
  ·rintro ys σ H' ⟨rfl,ly,_⟩
   rw [hxl,List.take_length] at ly
   intro D hD
   refine ⟨D,ys,rfl,.inl (SqL.of zaae),?_⟩
   rw [ly]
   have kk:gs.countP Gt.isKeep≤53:=Nat.le_trans List.countP_le_length len
   have cD:=Ch.new (W:=[]) hD (HO.lst ys)
   have hSD:Scr K (upd H' D (HO.lst ys)) a ns:=hS4.same cD
   have hbD:=cD.get hb4 (by simp)
   generalize upd H' D (HO.lst ys)=HD at cD hSD hbD ⊢
   walk_at "rd"
   rename_i r9 bs9 c9 HX kX frX lX hX bX l1 l2
   exact chFree cD frX
 rintro σ H5 ⟨hr9,hs,c5,rfl,k5,hb5,c50,c51,hh5,lh,fh⟩
 have hg5:=k5.get hg4 (by simpa using nb)
 have gg5:=gg4.tu (Tu.lst k5 hb4)
 have hS5:Scr K H5 a ns:=hS4.ch hb4 k5
 have na5:=na4.b k5 hb4
 have nhr:hr9≠b:=(zaam hb4 fh).symm
 have ki:gs.countP Gt.isIn≤53:=Nat.le_trans List.countP_le_length len
 clear hg4 gg4 hS4 na4
 refine zabg (fun σ H'=>∃ (bp:Addr) (beat:List Bool) (c6:Int),σ=[some (.ref a),some (.ref b),some (.ref gl),some (.ref ol),some (.ref nt),some (.int ((gs.countP Gt.isIn:Nat):Int)),some (.ref hr9),some (.ref bp),none,none,none,none,none,none]∧Ch [b] H5 H'∧H' b=some (.lst [.int c6])∧0≤c6∧c6≤c2 + 200∧H' bp=some (.lst (beat.map bV))∧Gb gs gs.length beat∧bp≠b) ?_ ?_
 ·walk_at "rd"
  rename_i r bs c' HX kX frX lX hX bX l1 l2
  refine ⟨gg5.tu (Tu.lst kX hb5),ok,by omega,hX,lX,kX.get hh5 (by simpa using nhr),lh,fun r2 bs2 HY cY fY hY gbY=>?_⟩
  exact ⟨r2,bs2,c',rfl,kX.trans (Ch.wk cY),cY.get bX (by simp),by omega,by omega,hY,gbY,(zaam bX fY).symm⟩
 rintro σ H6 ⟨bp,beat,c6,rfl,k6,hb6,c60,c61,hbp6,gb,nbp⟩
 have hg6:=k6.get hg5 (by simpa using nb)
 have gg6:=gg5.tu (Tu.lst k6 hb5)
 have hS6:Scr K H6 a ns:=hS5.ch hb5 k6
 have na6:=na5.b k6 hb5
 clear hg5 gg5 hS5 na5 k6 k5 hh5 hb5 hb4
 walk_at "rd"
 rename_i z7 H7 z70 z71 k7 hb7
 refine zabr (fun i σ H'=>∃ c' u8 u9 u10 u11 u12 u13,σ=[some (.ref a),some (.ref b),some (.ref gl),some (.ref ol),some (.ref nt),some (.int ((gs.countP Gt.isIn:Nat):Int)),some (.ref hr9),some (.ref bp),u8,u9,u10,u11,u12,u13]∧Ch [b] H6 H'∧H' b=some (.lst [.int c'])∧0≤c'∧c'≤9000 + 300 * (i:Int)) ⟨_,_,_,_,_,_,_,rfl,k7,hb7,by omega,by simp; omega⟩ ?_ ?_
 ·rintro i σ H8 hi ⟨c8,u8,u9,u10,u11,u12,u13,rfl,k8,hb8,c80,c81⟩
  have i11:i < 11:=by omega
  have hg8:=k8.get hg6 (by simpa using nb)
  have gg8:=gg6.tu (Tu.lst k8 hb6)
  have hS8:Scr K H8 a ns:=hS6.ch hb6 k8
  have na8:=na6.b k8 hb6
  have hbp8:=k8.get hbp6 (by simpa using nbp)
  have xpos:0 < xs.length:=by omega
  walk_at "rd"
  rename_i z9 H9 z90 z91 k9 hb9
  obtain ⟨g,eg,lg⟩:=zac2 z9 xpos
  dsimp only
  rw [eg]
  obtain ⟨bg,ebg⟩:∃ bg,gs[g]?=some bg:=⟨_,List.getElem?_eq_getElem (by omega)⟩
  have gle:g < gs.length:=by omega
  have kA:=k8.trans k9
  have hg9:=kA.get hg6 (by simpa using nb)
  have gg9:=gg6.tu (Tu.lst kA hb6)
  have hS9:Scr K H9 a ns:=hS6.ch hb6 kA
  have na9:=na6.b kA hb6
  have hbp9:=kA.get hbp6 (by simpa using nbp)
  have lbt:=gb.len
  have l64:gs.length < 64:=by omega
  clear hg8 gg8 hS8 na8 hbp8 k9 k8 hb8
  walk_at "rd"
  refine zabg (fun σ H'=>∃ (d:Addr) (kb:List (Nat × Bool)) (c10:Int),σ=[some (.ref a),some (.ref b),some (.ref gl),some (.ref ol),some (.ref nt),some (.int ((gs.countP Gt.isIn:Nat):Int)),some (.ref hr9),some (.ref bp),some (.int (0 + (i:Int))),some (.int (g:Int)),some (.ref d),u11,u12,u13]∧Ch [b] H9 H'∧H' b=some (.lst [.int c10])∧0≤c10∧c10≤c8 + 250∧H' d=some (.dK (kbV kb))∧NK kb∧kb.length≤300∧H9 d=none) ?_ ?_
  ·walk_at "rd"
  rintro σ H10 ⟨d,kb,c10,rfl,k10,hb10,c100,c101,hd10,nk,lk,fd9⟩
  have hg10:=k10.get hg9 (by simpa using nb)
  have gg10:=gg9.tu (Tu.lst k10 hb9)
  have na10:=na9.b k10 hb9
  have hbp10:=k10.get hbp9 (by simpa using nbp)
  have kB:=kA.trans k10
  clear hg9 gg9 hS9 na9 hbp9 k10 hb9
  refine zabg (fun σ H'=>∃ (d2:Addr),σ=[some (.ref a),some (.ref b),some (.ref gl),some (.ref ol),some (.ref nt),some (.int ((gs.countP Gt.isIn:Nat):Int)),some (.ref hr9),some (.ref bp),some (.int (0 + (i:Int))),some (.int (g:Int)),some (.ref d),some (.ref d2),u12,u13]∧Ch [] H10 H'∧H' d2=some (.dK (kbV kb))) ?_ ?_
  ·walk_at "rd"
  rintro σ H11 ⟨d2,rfl,k11,hd2⟩
  have hg11:=k11.get hg10 (by simp)
  have gg11:=gg10.tu (Tu.same k11)
  have na11:=na10.ch k11
  have hbp11:=k11.get hbp10 (by simp)
  have hd11:=k11.get hd10 (by simp)
  have l200:gs.length≤200:=by omega
  clear hg10 gg10 na10 hbp10 hd10
  refine zabg (fun σ H'=>σ=[some (.ref a),some (.ref b),some (.ref gl),some (.ref ol),some (.ref nt),some (.int ((gs.countP Gt.isIn:Nat):Int)),some (.ref hr9),some (.ref bp),some (.int (0 + (i:Int))),some (.int (g:Int)),some (.ref d),some (.ref d2),some (oV ((lbv gs kb (g + 1)).getD g none)),u13]∧Ch [] H11 H') ?_ ?_
  ·walk_at "rd"
  rintro σ H12 ⟨rfl,k12⟩
  have hg12:=k12.get hg11 (by simp)
  have gg12:=gg11.tu (Tu.same k12)
  have na12:=na11.ch k12
  have hbp12:=k12.get hbp11 (by simp)
  have hd12:=k12.get hd11 (by simp)
  have hdd:=k12.get hd2 (by simp)
  have kbs:=zaq2 nk
  clear hg11 gg11 na11 hbp11 hd11 hd2
  walk_at "rd"
  rename_i HA cA HB cB
  refine ⟨gg12.tu (Tu.same (cA.trans cB)),ebg,fun HC cC=>⟨_,rfl,?_⟩⟩
  have cX:=(cA.trans cB).trans cC
  have hgX:=cX.get hg12 (by simp)
  have ggX:=gg12.tu (Tu.same cX)
  have naX:=na12.ch cX
  have hbpX:=cX.get hbp12 (by simp)
  have kX:=kB.trans (Ch.wk ((k11.trans k12).trans cX))
  have hbX:=cX.get (k12.get (k11.get hb10 (by simp)) (by simp)) (by simp)
  clear hg12 gg12 na12 hbp12 hd12 hdd
  cases hsr:bg.src with
  | true =>
   refine iteF ?_
   exact ⟨c10,_,_,_,_,_,_,rfl,kX,hbX,c100,by omega⟩
  | false =>
   refine iteT ?_
   refine zabg (fun σ H'=>∃ (d3:Addr) (kb3:List (Nat × Bool)),σ=[some (.ref a),some (.ref b),some (.ref gl),some (.ref ol),some (.ref nt),some (.int ((gs.countP Gt.isIn:Nat):Int)),some (.ref hr9),some (.ref bp),some (.int (0 + (i:Int))),some (.int (g:Int)),some (.ref d),some (.ref d2),some (oV ((lbv gs kb (g + 1)).getD g none)),some (.ref d3)]∧Ch [] HC H'∧H' d3=some (.dK (kbV kb3))∧(∀ n,kb3.lookup n=if n∈bg.feeds then some (beat.getD n false) else none)∧kb3.length≤300) ?_ ?_
   ·obtain ⟨p,ep,hp⟩:=ggX.at_ g bg ebg
    have at1:=zab8 ep
    obtain ⟨rs,ev,er⟩:=zagq bg
    have hK:bg.isKeep=false:=by cases bg <;> first | rfl | (cases hsr; done)
    rw [ev,er hK] at hp
    have f3:bg.feeds.length≤3:=by cases bg <;> simp [Gt.feeds]
    walk_at "rd"
    rename_i tp htp
    rw [cut1]
    have ht9:upd HC tp (HO.tup (bg.feeds.map nV)) tp=some (.tup (bg.feeds.map nV)):=zaae
    have c9:Ch [] HC (upd HC tp (HO.tup (bg.feeds.map nV))):=Ch.new htp _
    generalize upd HC tp (HO.tup (bg.feeds.map nV))=HF at ht9 c9 ⊢
    have hb9:=c9.get hbpX (by simp)
    refine zaeo (bg.feeds.map nV) (fun j ys σ H'=>TF (fun a=>beat.getD a false) (bg.feeds.take j) HF H' ys∧∃ u,σ=[u,some (.ref bp)]) (by rw [sizeLine_eq,List.length_map]; omega) ⟨⟨[],rfl,rfl,.nil,Ch.refl _ _⟩,_,rfl⟩ ?_ ?_ ?_
    ·rintro j ys σ H' hj ⟨tf,_⟩
     obtain ⟨ts,rfl,e1,e2,e3⟩:=tf.ex
     exact ⟨by simp [e1]; omega,SqT.of (e3.get ht9 (by simp))⟩
    ·rintro j ys σ H' x hx ⟨tf,u,rfl⟩
     obtain ⟨ts,_,e1,e2,e3⟩:=tf.ex
     rw [List.getElem?_map] at hx
     cases ea:bg.feeds[j]? with
     | none=>rw [ea] at hx; cases hx
     | some n =>
      rw [ea] at hx
      cases hx
      have la:=zab4 (ok g bg ebg) hsr n (List.mem_of_getElem? ea)
      have at2:=zamo (vs:=beat) (a:=n) (by omega)
      have hb':=e3.get hb9 (by simp)
      unfold nV
      walk_at "rd"
      rename_i t ht
      refine ⟨?_,_,rfl⟩
      rw [List.take_add_one,ea]
      exact tf.add (Ch.new ht _) zaae
    ·rintro ys σ H' ⟨tf,_⟩
     rw [List.length_map,List.take_length] at tf
     obtain ⟨ts,rfl,e1,e2,e3⟩:=tf.ex
     intro D hD
     refine ⟨D,ts,(bg.feeds.map fun a=>(a,beat.getD a false)).map kb1,rfl,zaae,zab6 (fun _ _ z=>zabi hD z) e2,by simp; omega,fun d3 hd3=>?_⟩
     obtain ⟨kb3,e4,e5,e6⟩:=zajp (bg.feeds.map fun a=>(a,beat.getD a false)) (kb:=[]) ⟨List.nodup_nil⟩
     have e4:mrg [] ((bg.feeds.map fun a=>(a,beat.getD a false)).map kb1)=kbV kb3:=e4
     refine ⟨d3,kb3,rfl,(c9.trans (e3.trans (Ch.new hD _))).trans (Ch.new hd3 _),by rw [zaae,e4],fun n=>?_,by simp at e5; omega⟩
     have mv:=zamt (β:=fun a=>beat.getD a false) bg.feeds [] n
     rw [e4,zafm] at mv
     by_cases hn:n∈bg.feeds
     ·rw [if_pos hn] at mv ⊢
      obtain ⟨y,y1,y2⟩:=Option.map_eq_some_iff.mp mv
      rw [y1,zatc y2]
     ·rw [if_neg hn] at mv ⊢
      cases el:kb3.lookup n with
      | none=>rfl
      | some y=>rw [el] at mv; cases mv
   rintro σ HG ⟨d3,kb3,rfl,cG,hd3,lk3,ln3⟩
   have bf:=zaoq ok gb ebg hsr lk3
   have naG:=naX.ch cG
   have hbG:=cG.get hbpX (by simp)
   have at3:=zamo (vs:=beat) (a:=g) (by omega)
   have kG:=kX.trans (Ch.wk cG)
   have hbbG:=cG.get hbX (by simp)
   clear naX hbpX hgX ggX
   walk_at "rd"
   rename_i HZ cZ
   rw [bf]
   unfold oV bV
   walk_at "rd"
   refine ite2 (fun he=>?_) (fun he=>?_)
   ·exfalso; simp at he
   ·exact ⟨c10,_,_,_,_,_,_,rfl,kG.trans (Ch.wk cZ),cZ.get hbbG (by simp),c100,by omega⟩
 ·rintro σ H8 ⟨c8,u8,u9,u10,u11,u12,u13,rfl,k8,hb8,c80,c81⟩
  walk_at "rd"
  exact q _
end
end

section
theorem zatg {l:PySem.W.OpenLaw}{w:World}{K:PySem.W.Frag}{h:Heap}{mg:Str→Option Value}{fa CN:Addr} (X:K.In h) (G:h.Ns mainGlobals mg) (hfa:mg "law" = some (.ref fa))
  {f0:Addr}{od0 an0:Option Addr}{sl0:Array (Option Value)}{oc0 kV0 dc0 pm0 cd0 ct0:Value}
  {f1:Addr}{od1 an1:Option Addr}{sl1:Array (Option Value)}{oc1 kV1 dc1 pm1 cd1 ct1:Value}
  {f2:Addr}{od2 an2:Option Addr}{sl2:Array (Option Value)}{oc2 kV2 dc2 pm2 cd2 ct2:Value}
  {f3:Addr}{od3 an3:Option Addr}{sl3:Array (Option Value)}{oc3 kV3 dc3 pm3 cd3 ct3:Value}
  {f4:Addr}{od4 an4:Option Addr}{sl4:Array (Option Value)}{oc4 kV4 dc4 pm4 cd4 ct4:Value}
  {f5:Addr}{od5 an5:Option Addr}{sl5:Array (Option Value)}{oc5 kV5 dc5 pm5 cd5 ct5:Value}
  {f6:Addr}{od6 an6:Option Addr}{sl6:Array (Option Value)}{oc6 kV6 dc6 pm6 cd6 ct6:Value}
  {f7:Addr}{od7 an7:Option Addr}{sl7:Array (Option Value)}{oc7 kV7 dc7 pm7 cd7 ct7:Value}
  {f8:Addr}{od8 an8:Option Addr}{sl8:Array (Option Value)}{oc8 kV8 dc8 pm8 cd8 ct8:Value}
  {f9:Addr}{od9 an9:Option Addr}{sl9:Array (Option Value)}{oc9 kV9 dc9 pm9 cd9 ct9:Value}
  {f10:Addr}{od10 an10:Option Addr}{sl10:Array (Option Value)}{oc10 kV10 dc10 pm10 cd10 ct10:Value}
  {f11:Addr}{od11 an11:Option Addr}{sl11:Array (Option Value)}{oc11 kV11 dc11 pm11 cd11 ct11:Value}
  {f12:Addr}{od12 an12:Option Addr}{sl12:Array (Option Value)}{oc12 kV12 dc12 pm12 cd12 ct12:Value}
  {f13:Addr}{od13 an13:Option Addr}{sl13:Array (Option Value)}{oc13 kV13 dc13 pm13 cd13 ct13:Value}
  {f14:Addr}{od14 an14:Option Addr}{sl14:Array (Option Value)}{oc14 kV14 dc14 pm14 cd14 ct14:Value}
  {f15:Addr}{od15 an15:Option Addr}{sl15:Array (Option Value)}{oc15 kV15 dc15 pm15 cd15 ct15:Value}
  {f16:Addr}{od16 an16:Option Addr}{sl16:Array (Option Value)}{oc16 kV16 dc16 pm16 cd16 ct16:Value}
  {f17:Addr}{od17 an17:Option Addr}{sl17:Array (Option Value)}{oc17 kV17 dc17 pm17 cd17 ct17:Value}
  {f18:Addr}{od18 an18:Option Addr}{sl18:Array (Option Value)}{oc18 kV18 dc18 pm18 cd18 ct18:Value}
  {f19:Addr}{od19 an19:Option Addr}{sl19:Array (Option Value)}{oc19 kV19 dc19 pm19 cd19 ct19:Value}
  {f20:Addr}{od20 an20:Option Addr}{sl20:Array (Option Value)}{oc20 kV20 dc20 pm20 cd20 ct20:Value}
  {f21:Addr}{od21 an21:Option Addr}{sl21:Array (Option Value)}{oc21 kV21 dc21 pm21 cd21 ct21:Value}
  {f22:Addr}{od22 an22:Option Addr}{sl22:Array (Option Value)}{oc22 kV22 dc22 pm22 cd22 ct22:Value}
  {f23:Addr}{od23 an23:Option Addr}{sl23:Array (Option Value)}{oc23 kV23 dc23 pm23 cd23 ct23:Value}
  {f24:Addr}{od24 an24:Option Addr}{sl24:Array (Option Value)}{oc24 kV24 dc24 pm24 cd24 ct24:Value}
  {f25:Addr}{od25 an25:Option Addr}{sl25:Array (Option Value)}{oc25 kV25 dc25 pm25 cd25 ct25:Value}
  {f26:Addr}{od26 an26:Option Addr}{sl26:Array (Option Value)}{oc26 kV26 dc26 pm26 cd26 ct26:Value}
  (aN:PySem.W.nsIn K mainGlobals "Net" = some (some (.ref CN)))
  (a0:PySem.W.nsIn K mainGlobals "is_whole" = some (some (.ref f0))) (l0:K.lookup f0=some ⟨oc0,od0,.func (PySem.W.fnOf "is_whole" "is_whole" (defArgs (top 4)) (defBody (top 4)) (defScope (top 4)) .none kV0 dc0 pm0 an0 cd0 ct0),sl0⟩) (c0:PySem.W.codeIn K cd0 "is_whole" = true) (k0:PySem.W.keepIn K (.ref f0)=true)
  (a1:PySem.W.nsIn K mainGlobals "is_below" = some (some (.ref f1))) (l1:K.lookup f1=some ⟨oc1,od1,.func (PySem.W.fnOf "is_below" "is_below" (defArgs (top 5)) (defBody (top 5)) (defScope (top 5)) .none kV1 dc1 pm1 an1 cd1 ct1),sl1⟩) (c1:PySem.W.codeIn K cd1 "is_below" = true) (k1:PySem.W.keepIn K (.ref f1)=true)
  (a2:PySem.W.nsIn K mainGlobals "is_gate" = some (some (.ref f2))) (l2:K.lookup f2=some ⟨oc2,od2,.func (PySem.W.fnOf "is_gate" "is_gate" (defArgs (top 8)) (defBody (top 8)) (defScope (top 8)) .none kV2 dc2 pm2 an2 cd2 ct2),sl2⟩) (c2:PySem.W.codeIn K cd2 "is_gate" = true) (k2:PySem.W.keepIn K (.ref f2)=true)
  (a3:PySem.W.nsIn K mainGlobals "feeds_of" = some (some (.ref f3))) (l3:K.lookup f3=some ⟨oc3,od3,.func (PySem.W.fnOf "feeds_of" "feeds_of" (defArgs (top 10)) (defBody (top 10)) (defScope (top 10)) .none kV3 dc3 pm3 an3 cd3 ct3),sl3⟩) (c3:PySem.W.codeIn K cd3 "feeds_of" = true) (k3:PySem.W.keepIn K (.ref f3)=true)
  (a4:PySem.W.nsIn K mainGlobals "is_source" = some (some (.ref f4))) (l4:K.lookup f4=some ⟨oc4,od4,.func (PySem.W.fnOf "is_source" "is_source" (defArgs (top 12)) (defBody (top 12)) (defScope (top 12)) .none kV4 dc4 pm4 an4 cd4 ct4),sl4⟩) (c4:PySem.W.codeIn K cd4 "is_source" = true) (k4:PySem.W.keepIn K (.ref f4)=true)
  (a5:PySem.W.nsIn K mainGlobals "feeds_within" = some (some (.ref f5))) (l5:K.lookup f5=some ⟨oc5,od5,.func (PySem.W.fnOf "feeds_within" "feeds_within" (defArgs (top 13)) (defBody (top 13)) (defScope (top 13)) .none kV5 dc5 pm5 an5 cd5 ct5),sl5⟩) (c5:PySem.W.codeIn K cd5 "feeds_within" = true) (k5:PySem.W.keepIn K (.ref f5)=true)
  (a6:PySem.W.nsIn K mainGlobals "gates_down" = some (some (.ref f6))) (l6:K.lookup f6=some ⟨oc6,od6,.func (PySem.W.fnOf "gates_down" "gates_down" (defArgs (top 14)) (defBody (top 14)) (defScope (top 14)) .none kV6 dc6 pm6 an6 cd6 ct6),sl6⟩) (c6:PySem.W.codeIn K cd6 "gates_down" = true) (k6:PySem.W.keepIn K (.ref f6)=true)
  (a7:PySem.W.nsIn K mainGlobals "gate_bits" = some (some (.ref f7))) (l7:K.lookup f7=some ⟨oc7,od7,.func (PySem.W.fnOf "gate_bits" "gate_bits" (defArgs (top 16)) (defBody (top 16)) (defScope (top 16)) .none kV7 dc7 pm7 an7 cd7 ct7),sl7⟩) (c7:PySem.W.codeIn K cd7 "gate_bits" = true) (k7:PySem.W.keepIn K (.ref f7)=true)
  (a8:PySem.W.nsIn K mainGlobals "bits_from" = some (some (.ref f8))) (l8:K.lookup f8=some ⟨oc8,od8,.func (PySem.W.fnOf "bits_from" "bits_from" (defArgs (top 17)) (defBody (top 17)) (defScope (top 17)) .none kV8 dc8 pm8 an8 cd8 ct8),sl8⟩) (c8:PySem.W.codeIn K cd8 "bits_from" = true) (k8:PySem.W.keepIn K (.ref f8)=true)
  (a9:PySem.W.nsIn K mainGlobals "bit_from" = some (some (.ref f9))) (l9:K.lookup f9=some ⟨oc9,od9,.func (PySem.W.fnOf "bit_from" "bit_from" (defArgs (top 19)) (defBody (top 19)) (defScope (top 19)) .none kV9 dc9 pm9 an9 cd9 ct9),sl9⟩) (c9:PySem.W.codeIn K cd9 "bit_from" = true) (k9:PySem.W.keepIn K (.ref f9)=true)
  (a10:PySem.W.nsIn K mainGlobals "_law_next" = some (some (.ref f10))) (l10:K.lookup f10=some ⟨oc10,od10,.func (PySem.W.fnOf "_law_next" "_law_next" (defArgs (top 21)) (defBody (top 21)) (defScope (top 21)) .none kV10 dc10 pm10 an10 cd10 ct10),sl10⟩) (c10:PySem.W.codeIn K cd10 "_law_next" = true) (k10:PySem.W.keepIn K (.ref f10)=true)
  (a11:PySem.W.nsIn K mainGlobals "_law_bits" = some (some (.ref f11))) (l11:K.lookup f11=some ⟨oc11,od11,.func (PySem.W.fnOf "_law_bits" "_law_bits" (defArgs (top 22)) (defBody (top 22)) (defScope (top 22)) .none kV11 dc11 pm11 an11 cd11 ct11),sl11⟩) (c11:PySem.W.codeIn K cd11 "_law_bits" = true) (k11:PySem.W.keepIn K (.ref f11)=true)
  (a12:PySem.W.nsIn K mainGlobals "_law_net" = some (some (.ref f12))) (l12:K.lookup f12=some ⟨oc12,od12,.func (PySem.W.fnOf "_law_net" "_law_net" (defArgs (top 23)) (defBody (top 23)) (defScope (top 23)) .none kV12 dc12 pm12 an12 cd12 ct12),sl12⟩) (c12:PySem.W.codeIn K cd12 "_law_net" = true) (k12:PySem.W.keepIn K (.ref f12)=true)
  (a13:PySem.W.nsIn K mainGlobals "_law_same" = some (some (.ref f13))) (l13:K.lookup f13=some ⟨oc13,od13,.func (PySem.W.fnOf "_law_same" "_law_same" (defArgs (top 24)) (defBody (top 24)) (defScope (top 24)) .none kV13 dc13 pm13 an13 cd13 ct13),sl13⟩) (c13:PySem.W.codeIn K cd13 "_law_same" = true) (k13:PySem.W.keepIn K (.ref f13)=true)
  (a14:PySem.W.nsIn K mainGlobals "_law_is_source" = some (some (.ref f14))) (l14:K.lookup f14=some ⟨oc14,od14,.func (PySem.W.fnOf "_law_is_source" "_law_is_source" (defArgs (top 25)) (defBody (top 25)) (defScope (top 25)) .none kV14 dc14 pm14 an14 cd14 ct14),sl14⟩) (c14:PySem.W.codeIn K cd14 "_law_is_source" = true) (k14:PySem.W.keepIn K (.ref f14)=true)
  (a15:PySem.W.nsIn K mainGlobals "_law_cone" = some (some (.ref f15))) (l15:K.lookup f15=some ⟨oc15,od15,.func (PySem.W.fnOf "_law_cone" "_law_cone" (defArgs (top 26)) (defBody (top 26)) (defScope (top 26)) .none kV15 dc15 pm15 an15 cd15 ct15),sl15⟩) (c15:PySem.W.codeIn K cd15 "_law_cone" = true) (k15:PySem.W.keepIn K (.ref f15)=true)
  (a16:PySem.W.nsIn K mainGlobals "_law_ladder" = some (some (.ref f16))) (l16:K.lookup f16=some ⟨oc16,od16,.func (PySem.W.fnOf "_law_ladder" "_law_ladder" (defArgs (top 27)) (defBody (top 27)) (defScope (top 27)) .none kV16 dc16 pm16 an16 cd16 ct16),sl16⟩) (c16:PySem.W.codeIn K cd16 "_law_ladder" = true) (k16:PySem.W.keepIn K (.ref f16)=true)
  (a17:PySem.W.nsIn K mainGlobals "_law_first_net" = some (some (.ref f17))) (l17:K.lookup f17=some ⟨oc17,od17,.func (PySem.W.fnOf "_law_first_net" "_law_first_net" (defArgs (top 28)) (defBody (top 28)) (defScope (top 28)) .none kV17 dc17 pm17 an17 cd17 ct17),sl17⟩) (c17:PySem.W.codeIn K cd17 "_law_first_net" = true) (k17:PySem.W.keepIn K (.ref f17)=true)
  (a18:PySem.W.nsIn K mainGlobals "_law_some_net" = some (some (.ref f18))) (l18:K.lookup f18=some ⟨oc18,od18,.func (PySem.W.fnOf "_law_some_net" "_law_some_net" (defArgs (top 29)) (defBody (top 29)) (defScope (top 29)) .none kV18 dc18 pm18 an18 cd18 ct18),sl18⟩) (c18:PySem.W.codeIn K cd18 "_law_some_net" = true) (k18:PySem.W.keepIn K (.ref f18)=true)
  (a19:PySem.W.nsIn K mainGlobals "_law_broad" = some (some (.ref f19))) (l19:K.lookup f19=some ⟨oc19,od19,.func (PySem.W.fnOf "_law_broad" "_law_broad" (defArgs (top 30)) (defBody (top 30)) (defScope (top 30)) .none kV19 dc19 pm19 an19 cd19 ct19),sl19⟩) (c19:PySem.W.codeIn K cd19 "_law_broad" = true) (k19:PySem.W.keepIn K (.ref f19)=true)
  (a20:PySem.W.nsIn K mainGlobals "_law_gate_bits" = some (some (.ref f20))) (l20:K.lookup f20=some ⟨oc20,od20,.func (PySem.W.fnOf "_law_gate_bits" "_law_gate_bits" (defArgs (top 31)) (defBody (top 31)) (defScope (top 31)) .none kV20 dc20 pm20 an20 cd20 ct20),sl20⟩) (c20:PySem.W.codeIn K cd20 "_law_gate_bits" = true) (k20:PySem.W.keepIn K (.ref f20)=true)
  (a21:PySem.W.nsIn K mainGlobals "_law_bit_from" = some (some (.ref f21))) (l21:K.lookup f21=some ⟨oc21,od21,.func (PySem.W.fnOf "_law_bit_from" "_law_bit_from" (defArgs (top 32)) (defBody (top 32)) (defScope (top 32)) .none kV21 dc21 pm21 an21 cd21 ct21),sl21⟩) (c21:PySem.W.codeIn K cd21 "_law_bit_from" = true) (k21:PySem.W.keepIn K (.ref f21)=true)
  (a22:PySem.W.nsIn K mainGlobals "_law_some_known" = some (some (.ref f22))) (l22:K.lookup f22=some ⟨oc22,od22,.func (PySem.W.fnOf "_law_some_known" "_law_some_known" (defArgs (top 33)) (defBody (top 33)) (defScope (top 33)) .none kV22 dc22 pm22 an22 cd22 ct22),sl22⟩) (c22:PySem.W.codeIn K cd22 "_law_some_known" = true) (k22:PySem.W.keepIn K (.ref f22)=true)
  (a23:PySem.W.nsIn K mainGlobals "_law_long" = some (some (.ref f23))) (l23:K.lookup f23=some ⟨oc23,od23,.func (PySem.W.fnOf "_law_long" "_law_long" (defArgs (top 34)) (defBody (top 34)) (defScope (top 34)) .none kV23 dc23 pm23 an23 cd23 ct23),sl23⟩) (c23:PySem.W.codeIn K cd23 "_law_long" = true) (k23:PySem.W.keepIn K (.ref f23)=true)
  (a24:PySem.W.nsIn K mainGlobals "_law_long_right" = some (some (.ref f24))) (l24:K.lookup f24=some ⟨oc24,od24,.func (PySem.W.fnOf "_law_long_right" "_law_long_right" (defArgs (top 35)) (defBody (top 35)) (defScope (top 35)) .none kV24 dc24 pm24 an24 cd24 ct24),sl24⟩) (c24:PySem.W.codeIn K cd24 "_law_long_right" = true) (k24:PySem.W.keepIn K (.ref f24)=true)
  (a25:PySem.W.nsIn K mainGlobals "law" = some (some (.ref f25))) (l25:K.lookup f25=some ⟨oc25,od25,.func (PySem.W.fnOf "law" "law" (defArgs (top 36)) (defBody (top 36)) (defScope (top 36)) .none kV25 dc25 pm25 an25 cd25 ct25),sl25⟩) (c25:PySem.W.codeIn K cd25 "law" = true) (k25:PySem.W.keepIn K (.ref f25)=true)
  (a26:PySem.W.findIn K (.ref CN) "__init__" = some (some (.ref f26))) (l26:K.lookup f26=some ⟨oc26,od26,.func (PySem.W.fnOf "__init__" "Net.__init__" (defArgs (inClass (top 9) 0)) (defBody (inClass (top 9) 0)) (defScope (inClass (top 9) 0)) .none kV26 dc26 pm26 an26 cd26 ct26),sl26⟩) (c26:PySem.W.codeIn K cd26 "Net.__init__" = true) (k26:PySem.W.keepIn K (.ref f26)=true) (i26:PySem.W.isFn K (.ref f26)=true)
  (pgN:PySem.W.plainGet K CN Str.empty=true) (hdN:PySem.W.hasDictIn K CN=true) (poN:PySem.W.plainOver K CN=true) (saN:PySem.W.findIn K (.ref CN) "__setattr__" = some (some (.builtin "object.__setattr__"))) (mkN:PySem.W.makesIn K CN=true) (kcN:PySem.W.keepIn K (.ref CN)=true)
  (nN_gates:PySem.W.findIn K (.ref CN) "gates" = some none)
  (nN_outs:PySem.W.findIn K (.ref CN) "outs" = some none)
  (z_len:PySem.W.nsIn K mainGlobals "len" = some none)
  (z_range:PySem.W.nsIn K mainGlobals "range" = some none)
  (z_int:PySem.W.nsIn K mainGlobals "int" = some none)
  (z_str:PySem.W.nsIn K mainGlobals "str" = some none)
  (z_isinstance:PySem.W.nsIn K mainGlobals "isinstance" = some none)
  (z_zip:PySem.W.nsIn K mainGlobals "zip" = some none)
  (z_list:PySem.W.nsIn K mainGlobals "list" = some none)
  (z_tuple:PySem.W.nsIn K mainGlobals "tuple" = some none)
  (z_bool:PySem.W.nsIn K mainGlobals "bool" = some none)
  (z_all:PySem.W.nsIn K mainGlobals "all" = some none)
  (z_any:PySem.W.nsIn K mainGlobals "any" = some none)
  (z_enumerate:PySem.W.nsIn K mainGlobals "enumerate" = some none)
  (z_max:PySem.W.nsIn K mainGlobals "max" = some none)
  (z_min:PySem.W.nsIn K mainGlobals "min" = some none)
  (z_dict:PySem.W.nsIn K mainGlobals "dict" = some none)
  (z_sorted:PySem.W.nsIn K mainGlobals "sorted" = some none)
  {ff:Addr}{kvs:List (Key × V)} (aFC:PySem.W.nsIn K mainGlobals "FEED_COUNTS" = some (some (.ref ff)))
  (hKD:KD l.prog w K ff kvs)
  (hF:∀ w n,(w,n)∈FC→valV kvs (Sum.inr w)=some (.int n)) :
  ∃ fd:FuncData,(∀ (s:Shared) (v:Value),BindsTo s fd ⟨[v],[]⟩ [("_law_script",v)])∧∀ base:Heap,K.In base→base.Ns mainGlobals mg→FnOk l.prog w K mg base CX0 8 fa fd ["_law_script"] (spLaw K):=by
 have e:=hfa.symm.trans (PySem.W.mg_of X G a25)
 cases e
 have F0:=zabq (st:=top 4) l0 c0 k0
 have b0:=F0.binds (ps:=["thing"]) fun _ _ _ _ _ _ us hl=>match us,hl with | [_],_=>rfl
 have m0:=PySem.W.mg_of X G a0
 have F1:=zabq (st:=top 5) l1 c1 k1
 have b1:=F1.binds (ps:=["thing", "bound"]) fun _ _ _ _ _ _ us hl=>match us,hl with | [_,_],_=>rfl
 have m1:=PySem.W.mg_of X G a1
 have F2:=zabq (st:=top 8) l2 c2 k2
 have b2:=F2.binds (ps:=["thing", "ahead", "total"]) fun _ _ _ _ _ _ us hl=>match us,hl with | [_,_,_],_=>rfl
 have m2:=PySem.W.mg_of X G a2
 have F3:=zabq (st:=top 10) l3 c3 k3
 have b3:=F3.binds (ps:=["gate"]) fun _ _ _ _ _ _ us hl=>match us,hl with | [_],_=>rfl
 have m3:=PySem.W.mg_of X G a3
 have F4:=zabq (st:=top 12) l4 c4 k4
 have b4:=F4.binds (ps:=["gate"]) fun _ _ _ _ _ _ us hl=>match us,hl with | [_],_=>rfl
 have m4:=PySem.W.mg_of X G a4
 have F5:=zabq (st:=top 13) l5 c5 k5
 have b5:=F5.binds (ps:=["net", "number"]) fun _ _ _ _ _ _ us hl=>match us,hl with | [_,_],_=>rfl
 have m5:=PySem.W.mg_of X G a5
 have F6:=zabq (st:=top 14) l6 c6 k6
 have b6:=F6.binds (ps:=["net", "gate", "stops"]) fun _ _ _ _ _ _ us hl=>match us,hl with | [_,_,_],_=>rfl
 have m6:=PySem.W.mg_of X G a6
 have F7:=zabq (st:=top 16) l7 c7 k7
 have b7:=F7.binds (ps:=["word", "fed", "whole"]) fun _ _ _ _ _ _ us hl=>match us,hl with | [_,_,_],_=>rfl
 have m7:=PySem.W.mg_of X G a7
 have F8:=zabq (st:=top 17) l8 c8 k8
 have b8:=F8.binds (ps:=["net", "gate", "known", "whole"]) fun _ _ _ _ _ _ us hl=>match us,hl with | [_,_,_,_],_=>rfl
 have m8:=PySem.W.mg_of X G a8
 have F9:=zabq (st:=top 19) l9 c9 k9
 have b9:=F9.binds (ps:=["net", "gate", "known"]) fun _ _ _ _ _ _ us hl=>match us,hl with | [_,_,_],_=>rfl
 have m9:=PySem.W.mg_of X G a9
 have F10:=zabq (st:=top 21) l10 c10 k10
 have b10:=F10.binds (ps:=["_law_script", "_law_at"]) fun _ _ _ _ _ _ us hl=>match us,hl with | [_,_],_=>rfl
 have m10:=PySem.W.mg_of X G a10
 have F11:=zabq (st:=top 22) l11 c11 k11
 have b11:=F11.binds (ps:=["_law_script", "_law_at", "_law_many"]) fun _ _ _ _ _ _ us hl=>match us,hl with | [_,_,_],_=>rfl
 have m11:=PySem.W.mg_of X G a11
 have F12:=zabq (st:=top 23) l12 c12 k12
 have b12:=F12.binds (ps:=["_law_script", "_law_at", "_law_ins", "_law_keeps", "_law_many"]) fun _ _ _ _ _ _ us hl=>match us,hl with | [_,_,_,_,_],_=>rfl
 have m12:=PySem.W.mg_of X G a12
 have F13:=zabq (st:=top 24) l13 c13 k13
 have b13:=F13.binds (ps:=["_law_found", "_law_due"]) fun _ _ _ _ _ _ us hl=>match us,hl with | [_,_],_=>rfl
 have m13:=PySem.W.mg_of X G a13
 have F14:=zabq (st:=top 25) l14 c14 k14
 have b14:=F14.binds (ps:=["_law_gates", "_law_number"]) fun _ _ _ _ _ _ us hl=>match us,hl with | [_,_],_=>rfl
 have m14:=PySem.W.mg_of X G a14
 have F15:=zabq (st:=top 26) l15 c15 k15
 have b15:=F15.binds (ps:=["_law_gates", "_law_gate"]) fun _ _ _ _ _ _ us hl=>match us,hl with | [_,_],_=>rfl
 have m15:=PySem.W.mg_of X G a15
 have F16:=zabq (st:=top 27) l16 c16 k16
 have b16:=F16.binds (ps:=["_law_script", "_law_at", "_law_ins", "_law_many"]) fun _ _ _ _ _ _ us hl=>match us,hl with | [_,_,_,_],_=>rfl
 have m16:=PySem.W.mg_of X G a16
 have F17:=zabq (st:=top 28) l17 c17 k17
 have b17:=F17.binds (ps:=["_law_script", "_law_at", "_law_small"]) fun _ _ _ _ _ _ us hl=>match us,hl with | [_,_,_],_=>rfl
 have m17:=PySem.W.mg_of X G a17
 have F18:=zabq (st:=top 29) l18 c18 k18
 have b18:=F18.binds (ps:=["_law_script", "_law_at", "_law_small"]) fun _ _ _ _ _ _ us hl=>match us,hl with | [_,_,_],_=>rfl
 have m18:=PySem.W.mg_of X G a18
 have F19:=zabq (st:=top 30) l19 c19 k19
 have b19:=F19.binds (ps:=["_law_script", "_law_at"]) fun _ _ _ _ _ _ us hl=>match us,hl with | [_,_],_=>rfl
 have m19:=PySem.W.mg_of X G a19
 have F20:=zabq (st:=top 31) l20 c20 k20
 have b20:=F20.binds (ps:=["_law_gates", "_law_fed", "_law_held"]) fun _ _ _ _ _ _ us hl=>match us,hl with | [_,_,_],_=>rfl
 have m20:=PySem.W.mg_of X G a20
 have F21:=zabq (st:=top 32) l21 c21 k21
 have b21:=F21.binds (ps:=["_law_gates", "_law_gate", "_law_known"]) fun _ _ _ _ _ _ us hl=>match us,hl with | [_,_,_],_=>rfl
 have m21:=PySem.W.mg_of X G a21
 have F22:=zabq (st:=top 33) l22 c22 k22
 have b22:=F22.binds (ps:=["_law_script", "_law_at", "_law_gates", "_law_gate", "_law_beat"]) fun _ _ _ _ _ _ us hl=>match us,hl with | [_,_,_,_,_],_=>rfl
 have m22:=PySem.W.mg_of X G a22
 have F23:=zabq (st:=top 34) l23 c23 k23
 have b23:=F23.binds (ps:=["_law_script", "_law_at", "_law_many"]) fun _ _ _ _ _ _ us hl=>match us,hl with | [_,_,_],_=>rfl
 have m23:=PySem.W.mg_of X G a23
 have F24:=zabq (st:=top 35) l24 c24 k24
 have b24:=F24.binds (ps:=["_law_script", "_law_at"]) fun _ _ _ _ _ _ us hl=>match us,hl with | [_,_],_=>rfl
 have m24:=PySem.W.mg_of X G a24
 have F25:=zabq (st:=top 36) l25 c25 k25
 have F26:=zabq (st:=inClass (top 9) 0) l26 c26 k26
 have b26:=F26.binds (ps:=["self", "gates", "outs"]) fun _ _ _ _ _ _ us hl=>match us,hl with | [_,_,_],_=>rfl
 have z_len:=PySem.W.mg_none_of X G z_len
 have z_range:=PySem.W.mg_none_of X G z_range
 have z_int:=PySem.W.mg_none_of X G z_int
 have z_str:=PySem.W.mg_none_of X G z_str
 have z_isinstance:=PySem.W.mg_none_of X G z_isinstance
 have z_zip:=PySem.W.mg_none_of X G z_zip
 have z_list:=PySem.W.mg_none_of X G z_list
 have z_tuple:=PySem.W.mg_none_of X G z_tuple
 have z_bool:=PySem.W.mg_none_of X G z_bool
 have z_all:=PySem.W.mg_none_of X G z_all
 have z_any:=PySem.W.mg_none_of X G z_any
 have z_enumerate:=PySem.W.mg_none_of X G z_enumerate
 have z_max:=PySem.W.mg_none_of X G z_max
 have z_min:=PySem.W.mg_none_of X G z_min
 have z_dict:=PySem.W.mg_none_of X G z_dict
 have z_sorted:=PySem.W.mg_none_of X G z_sorted
 have mN:=PySem.W.mg_of X G aN
 have clN:Cls K CN:=⟨pgN,hdN,poN,saN⟩
 refine ⟨PySem.W.fnOf "law" "law" (defArgs (top 36)) (defBody (top 36)) (defScope (top 36)) .none kV25 dc25 pm25 an25 cd25 ct25,fun s v=>.of_eq rfl,fun base _ _=>?_⟩
 have m_FEED_COUNTS:=PySem.W.mg_of X G aFC
 have D_is_whole_1:DefOk l.prog w K mg base CX0 1 "is_whole" ["thing"] spWhole:=⟨f0,_,zaoi (k:=0) F0 z_isinstance z_int z_bool,b0,k0,m0⟩
 have D_is_below_2:DefOk l.prog w K mg base CX0 2 "is_below" ["thing", "bound"] spBelow:=⟨f1,_,zaoj (k:=1) F1 D_is_whole_1,b1,k1,m1⟩
 have D_is_gate_3:DefOk l.prog w K mg base CX0 3 "is_gate" ["thing", "ahead", "total"] spGate:=⟨f2,_,zaqq (k:=2) F2 D_is_below_2 m_FEED_COUNTS hKD hF z_isinstance z_tuple z_str z_len z_all,b2,k2,m2⟩
 have MkN:MakeOk l.prog w K mg base CX0 4 CN "Net" ["self", "gates", "outs"] (spNet CN):=⟨⟨f26,_,zasr (k:=3) F26 clN nN_gates nN_outs D_is_gate_3 (D_is_below_2.mono (by omega)) z_enumerate z_len z_tuple,b26,⟨mkN,a26,i26,kcN⟩,mN⟩⟩
 have D_feeds_of_1:DefOk l.prog w K mg base CX0 1 "feeds_of" ["gate"] spFeeds:=⟨f3,_,zaok (k:=0) F3 z_list,b3,k3,m3⟩
 have D_is_source_1:DefOk l.prog w K mg base CX0 1 "is_source" ["gate"] spSrc:=⟨f4,_,zasu (k:=0) F4,b4,k4,m4⟩
 have D_feeds_within_2:DefOk l.prog w K mg base CX0 2 "feeds_within" ["net", "number"] (spFw CN):=⟨f5,_,zatx (k:=1) F5 clN nN_gates D_is_source_1 D_feeds_of_1,b5,k5,m5⟩
 have D_gates_down_3:DefOk l.prog w K mg base CX0 3 "gates_down" ["net", "gate", "stops"] (spGd CN):=⟨f6,_,zaty (k:=2) F6 D_feeds_within_2 z_dict z_sorted z_len,b6,k6,m6⟩
 have D_gate_bits_1:DefOk l.prog w K mg base CX0 1 "gate_bits" ["word", "fed", "whole"] spTold:=⟨f7,_,zaqv (k:=0) F7,b7,k7,m7⟩
 have D_bits_from_4:DefOk l.prog w K mg base CX0 4 "bits_from" ["net", "gate", "known", "whole"] (spBf CN):=⟨f8,_,zat7 (k:=3) F8 clN nN_gates D_gates_down_3 (D_is_source_1.mono (by omega)) (D_feeds_of_1.mono (by omega)) (D_gate_bits_1.mono (by omega)) z_dict,b8,k8,m8⟩
 have D_bit_from_5:DefOk l.prog w K mg base CX0 5 "bit_from" ["net", "gate", "known"] (spBo CN):=⟨f9,_,zat8 (k:=4) F9 D_bits_from_4,b9,k9,m9⟩
 have D__law_next_1:DefOk l.prog w K mg base CX0 1 "_law_next" ["_law_script", "_law_at"] (spNext K):=⟨f10,_,zaqr (k:=0) F10 z_len z_range,b10,k10,m10⟩
 have D__law_bits_2:DefOk l.prog w K mg base CX0 2 "_law_bits" ["_law_script", "_law_at", "_law_many"] (spLBits K):=⟨f11,_,zaon (k:=1) F11 D__law_next_1 z_range,b11,k11,m11⟩
 have D__law_net_2:DefOk l.prog w K mg base CX0 2 "_law_net" ["_law_script", "_law_at", "_law_ins", "_law_keeps", "_law_many"] (spLNet K):=⟨f12,_,zaqs (k:=1) F12 D__law_next_1 z_len z_range z_max z_min z_tuple,b12,k12,m12⟩
 have D__law_ladder_2:DefOk l.prog w K mg base CX0 2 "_law_ladder" ["_law_script", "_law_at", "_law_ins", "_law_many"] (spLad K):=⟨f16,_,zas7 (k:=1) F16 D__law_next_1 z_len z_range,b16,k16,m16⟩
 have D__law_broad_1:DefOk l.prog w K mg base CX0 1 "_law_broad" ["_law_script", "_law_at"] spNo:=⟨f19,_,zas8 (k:=0) F19,b19,k19,m19⟩
 have D__law_first_net_3:DefOk l.prog w K mg base CX0 3 "_law_first_net" ["_law_script", "_law_at", "_law_small"] (spFst K):=⟨f17,_,zas9 (k:=2) F17 (D__law_next_1.mono (by omega)) (D__law_broad_1.mono (by omega)) D__law_ladder_2 D__law_net_2,b17,k17,m17⟩
 have D__law_some_net_4:DefOk l.prog w K mg base CX0 4 "_law_some_net" ["_law_script", "_law_at", "_law_small"] (spSom K):=⟨f18,_,zatb (k:=3) F18 (D__law_next_1.mono (by omega)) D__law_first_net_3 z_len z_range,b18,k18,m18⟩
 have D__law_is_source_1:DefOk l.prog w K mg base CX0 1 "_law_is_source" ["_law_gates", "_law_number"] spLSrc:=⟨f14,_,zaqy (k:=0) F14,b14,k14,m14⟩
 have D__law_cone_2:DefOk l.prog w K mg base CX0 2 "_law_cone" ["_law_gates", "_law_gate"] spCone:=⟨f15,_,zaqz (k:=1) F15 D__law_is_source_1 z_len z_sorted z_list,b15,k15,m15⟩
 have D__law_gate_bits_1:DefOk l.prog w K mg base CX0 1 "_law_gate_bits" ["_law_gates", "_law_fed", "_law_held"] spGbs:=⟨f20,_,zas6 (k:=0) F20 z_list z_max z_min z_int,b20,k20,m20⟩
 have D__law_bit_from_1:DefOk l.prog w K mg base CX0 1 "_law_bit_from" ["_law_gates", "_law_gate", "_law_known"] spLbf:=⟨f21,_,zas4 (k:=0) F21 z_enumerate z_max z_min z_int,b21,k21,m21⟩
 have D__law_some_known_3:DefOk l.prog w K mg base CX0 3 "_law_some_known" ["_law_script", "_law_at", "_law_gates", "_law_gate", "_law_beat"] (spSk K):=⟨f22,_,zat4 (k:=2) F22 (D__law_next_1.mono (by omega)) D__law_cone_2 (D__law_is_source_1.mono (by omega)) z_len z_range z_list z_dict z_enumerate,b22,k22,m22⟩
 have D__law_same_1:DefOk l.prog w K mg base CX0 1 "_law_same" ["_law_found", "_law_due"] spNo:=⟨f13,_,zaop (k:=0) F13,b13,k13,m13⟩
 have D__law_same_2:DefOk l.prog w K mg base CX0 2 "_law_same" ["_law_found", "_law_due"] spSame:=⟨f13,_,zaoo (k:=1) F13 D__law_same_1 z_isinstance z_dict z_list z_tuple z_str z_int z_bool z_len z_all z_zip,b13,k13,m13⟩
 have D__law_long_2:DefOk l.prog w K mg base CX0 2 "_law_long" ["_law_script", "_law_at", "_law_many"] (spLng K):=⟨f23,_,zata (k:=1) F23 D__law_next_1 z_len z_range z_int,b23,k23,m23⟩
 have D__law_long_right_7:DefOk l.prog w K mg base CX0 7 "_law_long_right" ["_law_script", "_law_at"] (spLr K):=⟨f24,_,zat9 (k:=5) F24 (MkN.mono (by omega)) (PySem.W.mg_of X G aN) (D__law_next_1.mono (by omega)) (D__law_long_2.mono (by omega)) (D_bit_from_5.mono (by omega)) (D__law_bit_from_1.mono (by omega)) (D__law_same_2.mono (by omega)) z_len,b24,k24,m24⟩
 exact zatf (k:=6) F25 (MkN.mono (by omega)) (PySem.W.mg_of X G aN) (D__law_next_1.mono (by omega)) D__law_long_right_7 (D__law_some_net_4.mono (by omega)) (D__law_is_source_1.mono (by omega)) (D__law_some_known_3.mono (by omega)) (D__law_bits_2.mono (by omega)) (D__law_gate_bits_1.mono (by omega)) (D_bit_from_5.mono (by omega)) (D__law_bit_from_1.mono (by omega)) (D__law_same_2.mono (by omega)) z_len z_range z_dict
end

end B17
namespace B17
open PySem L2
def XS:List (Str × Tok × Value):=[("in",251,.int 0 252),("zero",253,.int 0 254),("one",255,.int 0 256),("not",257,.int 1 258),("and",259,.int 2 260),("or",261,.int 2 262),("xor",263,.int 2 264),("pick",265,.int 3 266)]
def VS:List V:=[.int 0,.int 0,.int 0,.int 1,.int 2,.int 2,.int 2,.int 3]
def KVS:List (Key × V):=(XS.map fun x=>(Sum.inr x.1:Key)).zip VS
theorem zaua:(XS.map (·.1)).Nodup:=by decide +kernel
theorem zaq9:Vals VS (XS.map (·.2.2)):=.cons ⟨_,rfl⟩ (.cons ⟨_,rfl⟩ (.cons ⟨_,rfl⟩ (.cons ⟨_,rfl⟩ (.cons ⟨_,rfl⟩ (.cons ⟨_,rfl⟩ (.cons ⟨_,rfl⟩ (.cons ⟨_,rfl⟩ (.nil))))))))
theorem zaor {P:Program}{w:World}{K:PySem.W.Frag}{ff:Addr}{od:Option Addr}{ep:Nat}{sl:Array (Option Value)}{es:Array DictEntry} (l:K.lookup ff=some ⟨.type "dict",od,.dict es ep,sl⟩) (he:es.toList=XS.map (ent w))
  (hx:(⟨.type "dict",od,.dict es ep,sl⟩:Obj).ExactDict) (ns:(ff == sysModules)=false):KD P w K ff KVS:=zatr XS VS l he hx ns zaua zaq9
theorem zara:∀ w n,(w,n)∈FC→valV KVS (Sum.inr w)=some (.int n):=by
 intro w n h
 simp only [FC,List.mem_cons,List.not_mem_nil,or_false,Prod.mk.injEq] at h
 rcases h with ⟨rfl,rfl⟩ | ⟨rfl,rfl⟩ | ⟨rfl,rfl⟩ | ⟨rfl,rfl⟩ | ⟨rfl,rfl⟩ | ⟨rfl,rfl⟩ | ⟨rfl,rfl⟩ | ⟨rfl,rfl⟩ <;> rfl
end B17
open PySem PySem.W PyProof.Rows
theorem PySem.W.Fast.tw13463458812966717764:True:=trivial
theorem PySem.W.Fast.tw5987526183392933215:True:=trivial
theorem PySem.W.Fast.tw8175697649845754857:True:=trivial
theorem PySem.W.Fast.tw7679701532991961731:True:=trivial
theorem PySem.W.Fast.tw9255446163194767907:True:=trivial
theorem PySem.W.Fast.tw1556361650104030054:True:=trivial
theorem PySem.W.Fast.tw3975647210311994612:True:=trivial
theorem PySem.W.Fast.tw983941795054436373:True:=trivial
theorem PySem.W.Fast.tw14735531504924700276:True:=trivial
theorem PySem.W.Fast.tw11955152854231901695:True:=trivial
theorem PySem.W.Fast.tw15024477683822022407:True:=trivial
theorem PySem.W.Fast.tw274465416248655631:True:=trivial
theorem PySem.W.Fast.tw6118201613404453138:True:=trivial
theorem PySem.W.Fast.tw1881944130216223998:True:=trivial
theorem PySem.W.Fast.tw15472080388482646362:True:=trivial
theorem PySem.W.Fast.tw1293843412691919453:True:=trivial
theorem PySem.W.Fast.tw8068325065446501093:True:=trivial
theorem PySem.W.Fast.tw9712445888176820594:True:=trivial
theorem PySem.W.Fast.tw6861511782908525227:True:=trivial
theorem PySem.W.Fast.tw17672094692252956217:True:=trivial
theorem PySem.W.Fast.tw15611069765125642706:True:=trivial
theorem PySem.W.Fast.tw8330367971028063462:True:=trivial
theorem PySem.W.Fast.tw13264790947627155363:True:=trivial
theorem PySem.W.Fast.tw4714419335162807432:True:=trivial
theorem PySem.W.Fast.tw11870749566638965297:True:=trivial
theorem PySem.W.Fast.tw412743351286611653:True:=trivial
theorem PySem.W.Fast.tw2357064498034982416:True:=trivial
theorem PySem.W.Fast.tw18289386466111229990:True:=trivial
theorem PySem.W.Fast.tw17041167575358388569:True:=trivial
theorem PySem.W.Fast.tw17654787924606710024:True:=trivial
theorem PySem.W.Fast.tw11815690418567622219:True:=trivial
theorem PySem.W.Fast.tw15026161801317154598:True:=trivial
theorem PySem.W.Fast.tw2342572971108381736:True:=trivial
theorem PySem.W.Fast.tw18062770487292131080:True:=trivial
theorem PySem.W.Fast.tw7563998502694028363:True:=trivial
theorem PySem.W.Fast.tw300011093953874939:True:=trivial
theorem PySem.W.Fast.tw4605395983370238941:True:=trivial
theorem PySem.W.Fast.tw1202923640844414431:True:=trivial
theorem PySem.W.Fast.tw7381836473872590922:True:=trivial
theorem PySem.W.Fast.tw313166680645346843:True:=trivial
theorem PySem.W.Fast.tw2781757801774937349:True:=trivial
theorem PySem.W.Fast.tw6800789125826489233:True:=trivial
theorem PySem.W.Fast.tw3826303194088120070:True:=trivial
theorem PySem.W.Fast.tw15959105461379703667:True:=trivial
theorem PySem.W.Fast.tw9909049532767068975:True:=trivial
theorem PySem.W.Fast.tw4899327416216786489:True:=trivial
theorem PySem.W.Fast.tw2450931546306704314:True:=trivial
theorem PySem.W.Fast.tw13998084675051562004:True:=trivial
theorem PySem.W.Fast.tw16982903465878678103:True:=trivial
theorem PySem.W.Fast.tw16188799077460493281:True:=trivial
theorem PySem.W.Fast.tw12722924880521020030:True:=trivial
theorem PySem.W.Fast.tw4281504077967868506:True:=trivial
theorem PySem.W.Fast.tw6117966893153822090:True:=trivial
theorem PySem.W.Fast.tw15866751498315599525:True:=trivial
theorem PySem.W.Fast.tw11678516722850919311:True:=trivial
theorem PySem.W.Fast.tw13426673826116282655:True:=trivial
theorem PySem.W.Fast.tw9592086768736240416:True:=trivial
theorem PySem.W.Fast.tw3042103994254101569:True:=trivial
theorem PySem.W.Fast.tw13659142066685780056:True:=trivial
theorem PySem.W.Fast.tw12162840181966942116:True:=trivial
theorem PySem.W.Fast.tw7180419894032578537:True:=trivial
theorem PySem.W.Fast.tw12799519381750724189:True:=trivial
theorem PySem.W.Fast.tw3544528216298738746:True:=trivial
theorem PySem.W.Fast.tw2114656120464963028:True:=trivial
theorem PySem.W.Fast.tw5730856048824424900:True:=trivial
set_option maxRecDepth 100000 in
set_option maxHeartbeats 0 in
theorem PySem.Challenge.cw_bitfloor_k39_bit_from_holds : PySem.Challenge.rw_bitfloor_k39_bit_from.Holds := by
 w_on; o_law; k_head; (case hw=>w_witness2)
 k_fill
 refine L2.zanv (l:=PySem.Challenge.rw_bitfloor_k39_bit_from) (n:=63) (k:=8) (x := "_law_script") (CX:=L2.CX0) (sp:=B17.spLaw) rfl (by decide) rfl ⟨rfl,by decide,by decide⟩ (fun w h Y=>PySem.W.kIn_of Y) ?F ?S ?C
 case F =>
  intro w mg fa h KX G hmg
  refine' B17.zatg KX G hmg ?aN ?a0 ?l0 ?c0 ?k0 ?a1 ?l1 ?c1 ?k1 ?a2 ?l2 ?c2 ?k2 ?a3 ?l3 ?c3 ?k3 ?a4 ?l4 ?c4 ?k4 ?a5 ?l5 ?c5 ?k5 ?a6 ?l6 ?c6 ?k6 ?a7 ?l7 ?c7 ?k7 ?a8 ?l8 ?c8 ?k8 ?a9 ?l9 ?c9 ?k9 ?a10 ?l10 ?c10 ?k10 ?a11 ?l11 ?c11 ?k11 ?a12 ?l12 ?c12 ?k12 ?a13 ?l13 ?c13 ?k13 ?a14 ?l14 ?c14 ?k14 ?a15 ?l15 ?c15 ?k15 ?a16 ?l16 ?c16 ?k16 ?a17 ?l17 ?c17 ?k17 ?a18 ?l18 ?c18 ?k18 ?a19 ?l19 ?c19 ?k19 ?a20 ?l20 ?c20 ?k20 ?a21 ?l21 ?c21 ?k21 ?a22 ?l22 ?c22 ?k22 ?a23 ?l23 ?c23 ?k23 ?a24 ?l24 ?c24 ?k24 ?a25 ?l25 ?c25 ?k25 ?a26 ?l26 ?c26 ?k26 ?i26 ?pgN ?hdN ?poN ?saN ?mkN ?kcN ?nN_gates ?nN_outs ?z_len ?z_range ?z_int ?z_str ?z_isinstance ?z_zip ?z_list ?z_tuple ?z_bool ?z_all ?z_any ?z_enumerate ?z_max ?z_min ?z_dict ?z_sorted ?qaFC (B17.zaor ?qlf ?qhe ?qhx ?qns) B17.zara
  (case aN=>k_is)
  (case a0=>k_is)
  (case l0=>k_is)
  (case c0=>k_is)
  (case k0=>k_is)
  (case a1=>k_is)
  (case l1=>k_is)
  (case c1=>k_is)
  (case k1=>k_is)
  (case a2=>k_is)
  (case l2=>k_is)
  (case c2=>k_is)
  (case k2=>k_is)
  (case a3=>k_is)
  (case l3=>k_is)
  (case c3=>k_is)
  (case k3=>k_is)
  (case a4=>k_is)
  (case l4=>k_is)
  (case c4=>k_is)
  (case k4=>k_is)
  (case a5=>k_is)
  (case l5=>k_is)
  (case c5=>k_is)
  (case k5=>k_is)
  (case a6=>k_is)
  (case l6=>k_is)
  (case c6=>k_is)
  (case k6=>k_is)
  (case a7=>k_is)
  (case l7=>k_is)
  (case c7=>k_is)
  (case k7=>k_is)
  (case a8=>k_is)
  (case l8=>k_is)
  (case c8=>k_is)
  (case k8=>k_is)
  (case a9=>k_is)
  (case l9=>k_is)
  (case c9=>k_is)
  (case k9=>k_is)
  (case a10=>k_is)
  (case l10=>k_is)
  (case c10=>k_is)
  (case k10=>k_is)
  (case a11=>k_is)
  (case l11=>k_is)
  (case c11=>k_is)
  (case k11=>k_is)
  (case a12=>k_is)
  (case l12=>k_is)
  (case c12=>k_is)
  (case k12=>k_is)
  (case a13=>k_is)
  (case l13=>k_is)
  (case c13=>k_is)
  (case k13=>k_is)
  (case a14=>k_is)
  (case l14=>k_is)
  (case c14=>k_is)
  (case k14=>k_is)
  (case a15=>k_is)
  (case l15=>k_is)
  (case c15=>k_is)
  (case k15=>k_is)
  (case a16=>k_is)
  (case l16=>k_is)
  (case c16=>k_is)
  (case k16=>k_is)
  (case a17=>k_is)
  (case l17=>k_is)
  (case c17=>k_is)
  (case k17=>k_is)
  (case a18=>k_is)
  (case l18=>k_is)
  (case c18=>k_is)
  (case k18=>k_is)
  (case a19=>k_is)
  (case l19=>k_is)
  (case c19=>k_is)
  (case k19=>k_is)
  (case a20=>k_is)
  (case l20=>k_is)
  (case c20=>k_is)
  (case k20=>k_is)
  (case a21=>k_is)
  (case l21=>k_is)
  (case c21=>k_is)
  (case k21=>k_is)
  (case a22=>k_is)
  (case l22=>k_is)
  (case c22=>k_is)
  (case k22=>k_is)
  (case a23=>k_is)
  (case l23=>k_is)
  (case c23=>k_is)
  (case k23=>k_is)
  (case a24=>k_is)
  (case l24=>k_is)
  (case c24=>k_is)
  (case k24=>k_is)
  (case a25=>k_is)
  (case l25=>k_is)
  (case c25=>k_is)
  (case k25=>k_is)
  (case a26=>k_is)
  (case l26=>k_is)
  (case c26=>k_is)
  (case k26=>k_is)
  (case i26=>k_is)
  (case pgN=>k_is)
  (case hdN=>k_is)
  (case poN=>k_is)
  (case saN=>k_is)
  (case mkN=>k_is)
  (case kcN=>k_is)
  (case nN_gates=>k_is)
  (case nN_outs=>k_is)
  (case z_len=>k_is)
  (case z_range=>k_is)
  (case z_int=>k_is)
  (case z_str=>k_is)
  (case z_isinstance=>k_is)
  (case z_zip=>k_is)
  (case z_list=>k_is)
  (case z_tuple=>k_is)
  (case z_bool=>k_is)
  (case z_all=>k_is)
  (case z_any=>k_is)
  (case z_enumerate=>k_is)
  (case z_max=>k_is)
  (case z_min=>k_is)
  (case z_dict=>k_is)
  (case z_sorted=>k_is)
  (case qaFC=>k_is)
  (case qlf=>k_is)
  (case qhe=>rfl)
  (case qhx=>exact ⟨rfl,rfl,rfl⟩)
  (case qns=>rfl)
 case S=>exact fun K H a ns hl hO hS=>⟨a,ns,rfl,L2.Scr.of hS hl hO,fun _=>rfl⟩
 case C=>exact fun _ _ _ _ z=>z
