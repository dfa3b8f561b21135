import PyProof.Rows.All
import Wide.All
import OpenK.AllK
import Wide.FinOn
import Lean
import PyProof.EqAt
import PyProof.EqKinds
import PyProof.TupleCall
import PyProof.AttrMiss
import PyProof.ConsumeWalk
import KE.KDictOf
import OpenK.KOwn
import PyProof.NsDelKeeps
import KE.KIsAll
import PyProof.Rows.SumAny
import PyProof.NeKinds
import PyProof.SeqI3
import KE.KRevIter
import KE.KSortTup
import PyProof.DictIter
import KE.KDictList
import PyProof.TupleOfGen
import PyProof.MinMaxWalk
import PyProof.WalkInts
import PyProof.DictWalks
import OpenK.KCls
import KE.KItemsList
import PyProof.StrCalls
import KE.KListMore
import KE.KFind
import PyProof.TupleIter
import PySem.Challenge.RW_bitfloor_k22_each_rule
import KE.RegKIsAll
set_option Elab.async false
set_option linter.all false
set_option maxRecDepth 100000
namespace L2
open PySem PySem.Spec PyProof.Rows
abbrev Key:=Sum Int Str
def keyIs:Key→Value→Bool
 | .inl k,v=>Value.isInt k v
 | .inr x,v=>Value.isStrOf x v
def keyH (w:World):Key→Int
 | .inl k=>hashInt k
 | .inr x=>hashStr w x
theorem zabp:∀ {k:Key}{v:Value},keyIs k v=true→(∃ i t,k=Sum.inl i∧v=Value.int i t)∨(∃ x t,k=Sum.inr x∧v=Value.str x t)
 | .inl i,v,h=>by
  obtain ⟨t,e⟩:=Value.isInt_shape (k:=i) (v:=v) h
  exact .inl ⟨i,t,rfl,e⟩
 | .inr x,v,h=>by
  obtain ⟨t,e⟩:=Value.isStrOf_shape (x:=x) (v:=v) h
  exact .inr ⟨x,t,rfl,e⟩
theorem zah2 (i:Int) (t:Tok):keyIs (.inl i) (.int i t)=true:=by simp [keyIs,Value.isInt]
theorem zaeb (x:Str) (t:Tok):keyIs (.inr x) (.str x t)=true:=by simp [keyIs,Value.isStrOf]
theorem zamz (a b:Int):decide ((Sum.inl a:Key)=Sum.inl b)=(a == b):=by
 by_cases e:a=b
 ·subst e; simp
 ·have h:¬ (Sum.inl a:Key)=Sum.inl b:=fun q=>e (Sum.inl.inj q)
  rw [decide_eq_false h]
  exact (beq_eq_false_iff_ne.mpr e).symm
theorem zam0 (a b:Str):decide ((Sum.inr a:Key)=Sum.inr b)=decide (a=b):=by
 by_cases e:a=b
 ·subst e; simp
 ·have h:¬ (Sum.inr a:Key)=Sum.inr b:=fun q=>e (Sum.inr.inj q)
  rw [decide_eq_false h,decide_eq_false e]
theorem zam1 (a:Int) (b:Str):decide ((Sum.inl a:Key)=Sum.inr b)=false:=decide_eq_false (fun q=>nomatch q)
theorem zam2 (a:Str) (b:Int):decide ((Sum.inr a:Key)=Sum.inl b)=false:=decide_eq_false (fun q=>nomatch q)
def mixKind (prog:Program) (w:World):PySem.KeyKind prog w Key where
 is:=keyIs
 hash:=keyH w
 inj:=fun v a b ha hb=>by
  rcases zabp ha with ⟨i,t,rfl,rfl⟩ | ⟨x,t,rfl,rfl⟩
  ·rcases zabp hb with ⟨j,u,rfl,e⟩ | ⟨y,u,rfl,e⟩
   ·injection e with e1 _; rw [e1]
   ·exact nomatch e
  ·rcases zabp hb with ⟨j,u,rfl,e⟩ | ⟨y,u,rfl,e⟩
   ·exact nomatch e
   ·injection e with e1 _; rw [e1]
 byValue:=fun k v h=>by
  rcases zabp h with ⟨i,t,rfl,rfl⟩ | ⟨x,t,rfl,rfl⟩ <;> rfl
 pyHash:=fun hv h=>by
  rcases zabp hv with ⟨i,t,rfl,rfl⟩ | ⟨x,t,rfl,rfl⟩
  ·exact wpAny_pyHash_int h
  ·exact wpAny_pyHash_str h
 eqBool:=fun hu hv h=>by
  rcases zabp hu with ⟨i,t,rfl,rfl⟩ | ⟨x,t,rfl,rfl⟩
  ·rcases zabp hv with ⟨j,u,rfl,rfl⟩ | ⟨y,u,rfl,rfl⟩
   ·rw [zamz] at h; exact wpAny_eqBool_int h
   ·rw [zam1] at h; exact SeqAt.EqAt.int_str i t y u _ _ _ _ h
  ·rcases zabp hv with ⟨j,u,rfl,rfl⟩ | ⟨y,u,rfl,rfl⟩
   ·rw [zam2] at h; exact SeqAt.EqAt.str_int x t j u _ _ _ _ h
   ·rw [zam0] at h; exact wpAny_eqBool_str h
 «strs»:=fun k x t v h=>by
  rcases zabp h with ⟨i,u,rfl,e⟩ | ⟨y,u,rfl,e⟩
  ·exact nomatch e
  ·injection e with e1 _
   subst e1
   cases v <;> rfl
theorem zaf9 (prog:Program) (w:World) (i:Int) (t:Tok):(mixKind prog w).is (.inl i) (.int i t)=true:=zah2 i t
theorem zaga (prog:Program) (w:World) (x:Str) (t:Tok):(mixKind prog w).is (.inr x) (.str x t)=true:=zaeb x t
inductive V where
 | non | bl (b:Bool) | int (i:Int) | str (x:Str) | byt (b:Array UInt8) | flt (b:UInt64) | ref (a:Addr) | ty (n:String)
 deriving DecidableEq
def RelV:V→Value→Prop
 | .non,u=>u=Value.none
 | .bl b,u=>u=Value.bool b
 | .int i,u=>∃ t,u=Value.int i t
 | .str x,u=>∃ t,u=Value.str x t
 | .byt b,u=>∃ t,u=Value.bytes b t
 | .flt b,u=>∃ t,u=Value.float b t
 | .ref a,u=>u=Value.ref a
 | .ty n,u=>u=Value.type n
abbrev Vals:List V→List Value→Prop:=Paired RelV
theorem Vals.length {xs:List V}{us:List Value} (r:Vals xs us):xs.length=us.length:=Paired.length r
theorem Vals.get:∀ {xs:List V}{us:List Value}{i:Nat}{x:V},Vals xs us→xs[i]?=some x→∃ u,us[i]?=some u∧RelV x u
 | _,_,_,_,.nil,e=>by simp at e
 | _,_,0,_,.cons r _,e=>by simp at e; subst e; exact ⟨_,rfl,r⟩
 | _,_,i + 1,x,.cons _ t,e=>by
  obtain ⟨u,h1,h2⟩:=Vals.get (i:=i) (x:=x) t (by simpa using e)
  exact ⟨u,by simpa using h1,h2⟩
theorem Vals.set {x:V}{u:Value} (r:RelV x u):∀ {xs:List V}{us:List Value} (i:Nat),Vals xs us→Vals (xs.set i x) (us.set i u)
 | _,_,_,.nil=>.nil
 | _,_,0,.cons _ t=>.cons r t
 | _,_,i + 1,.cons q t=>.cons q (Vals.set r i t)
theorem Vals.append:∀ {xs ys:List V}{us ws:List Value},Vals xs us→Vals ys ws→Vals (xs++ys) (us++ws)
 | _,_,_,_,.nil,s=>s
 | _,_,_,_,.cons r t,s=>.cons r (Vals.append t s)
theorem Vals.take:∀ {xs:List V}{us:List Value} (n:Nat),Vals xs us→Vals (xs.take n) (us.take n)
 | _,_,0,_=>.nil
 | _,_,_ + 1,.nil=>.nil
 | _,_,n + 1,.cons r t=>.cons r (Vals.take n t)
theorem Vals.drop:∀ {xs:List V}{us:List Value} (n:Nat),Vals xs us→Vals (xs.drop n) (us.drop n)
 | _,_,0,r=>r
 | _,_,_ + 1,.nil=>.nil
 | _,_,n + 1,.cons _ t=>Vals.drop n t
def RelO:Option V→Option Value→Prop
 | some v,some u=>RelV v u
 | none,none=>True
 | _,_=>False
def KV {κ:Type}:List (κ × V)→List (κ × Value)→Prop:=Paired fun (p:κ × V) (q:κ × Value)=>p.1=q.1∧RelV p.2 q.2
def kV:Key→V
 | .inl i=>.int i
 | .inr x=>.str x
inductive HO where
 | lst (xs:List V)
 | tup (xs:List V)
 | dK (kvs:List (Key × V)) | dT (kvs:List (List Key × V))
 | set (S:Int→Bool) (n:Nat)
 | ins (C dx:Addr) (fs:List (Str × V))
 | own (x:Addr)
 | xd (fs:List (Str × V))
 | met (f x:Addr)
 | rng (lo hi:Int)
 | frz (o:Obj) (u:HO)
 | tbl (ps:Array Value)
 | ext (φ:Heap→Prop)
abbrev Hp:=Addr→Option HO
def upd (H:Hp) (a:Addr) (o:HO):Hp:=fun b=>if b=a then some o else H b
theorem zaag {H:Hp}{a:Addr}{o:HO}:upd H a o a=some o:=by unfold upd; rw [if_pos rfl]
theorem zabe {H:Hp}{a b:Addr}{o:HO} (h:b≠a):upd H a o b=H b:=by unfold upd; rw [if_neg h]
theorem zahk {H:Hp}{a b:Addr}{o u:HO} (h:H a=some o) (h':H b=some u) (d:o≠u):a≠b:=by
 intro e; subst e; rw [h] at h'; exact d (Option.some.inj h')
theorem zaa0 {H:Hp}{a b:Addr}{o:HO} (h:H a=some o) (h':H b=none):a≠b:=by
 intro e; subst e; rw [h] at h'; cases h'
section
variable (P:Program) (w:World)
def ObjOk (H:Hp) (h:Heap) (a:Addr):HO→Prop
 | .lst xs=>xs.length≤sizeLine∧∃ (its:List Value) (n:Nat),Vals xs its∧h.get? a=some { cls:=.type "list",data:=.seq its.toArray n }
 | .tup xs=>xs.length≤sizeLine∧∃ its:List Value,Vals xs its∧IsTup h a its.toArray
 | .dK kvs=>kvs.length≤sizeLine∧(a == sysModules)=false∧∃ vs,KV kvs vs∧h.DictOf (mixKind P w) a vs
 | .dT kvs=>kvs.length≤sizeLine∧(a == sysModules)=false∧∃ xs:List (List Key × Addr × Value),
   Paired (fun (p:List Key × V) (q:List Key × Addr × Value)=>p.1=q.1∧H q.2.1=some (.tup (p.1.map kV))∧RelV p.2 q.2.2) kvs xs ∧
   ∃ o es ep,h.get? a=some o∧o.ExactDict∧o.data=.dict es ep∧es.toList=xs.map (entryOfKey (tupleKind (mixKind P w)))∧(xs.map (·.1)).Nodup
 | .set S n=>h.SetOf (intKind P w) a S n
 | .ins C dx fs=>H dx=some (.own a)∧fs.length≤1000∧dx≠a∧h.get? a=some (PySem.W.instObj C dx) ∧
   ∃ mA,h.Ns1 dx mA∧(∀ f,RelO (fs.lookup f) (mA f))∧PySem.Within mA (fs.map (·.1))
 | .own _=>∃ o,h.get? a=some o
 | .xd fs=>∃ mA,h.Ns1 a mA∧∀ f,RelO (fs.lookup f) (mA f)
 | .rng lo hi=>∃ t u v,h.get? a=some { cls:=.type "range",data:=.fields #[.int lo t,.int hi u,.int 1 v] }
 | .frz o u=>h.get? a=some o∧ObjOk H h a u
 | .tbl ps=>h.get? a=some { cls:=.none,data:=.fields ps }
 | .met f x=>h.get? a=some (PySem.W.methodObj (.ref f) (.ref x))
 | .ext φ=>φ h∧(∃ o,h.get? a=some o)∧∀ h1 h2:Heap,φ h1→(∀ o,h1.get? a=some o→h2.get? a=some o)→φ h2
def HOk (H:Hp) (h:Heap):Prop:=∀ a o,H a=some o→ObjOk P w H h a o
end
section
variable {P:Program}{w:World}{H H':Hp}{h h':Heap}{a:Addr}{o:HO}
theorem ObjOk.lt (x:ObjOk P w H h a o):a < h.objs.size:=by
 cases o with
 | lst xs=>obtain ⟨_,_,_,_,e⟩:=x; exact Heap.lt_size e
 | tup xs=>obtain ⟨_,_,_,p⟩:=x; exact p.lt
 | dK kvs=>obtain ⟨_,_,_,_,o,_,_,e,_⟩:=x; exact Heap.lt_size e
 | dT kvs=>obtain ⟨_,_,_,_,o,_,_,e,_⟩:=x; exact Heap.lt_size e
 | set S n=>obtain ⟨o,_,_,_,e,_⟩:=x; exact Heap.lt_size e
 | ins C dx fs=>obtain ⟨_,_,_,e,_⟩:=x; exact Heap.lt_size e
 | own y=>obtain ⟨_,e⟩:=x; exact Heap.lt_size e
 | xd fs=>obtain ⟨_,⟨_,_,_,e,_⟩,_⟩:=x; exact Heap.lt_size e
 | rng lo hi=>obtain ⟨_,_,_,e⟩:=x; exact Heap.lt_size e
 | frz ob u=>obtain ⟨e,_⟩:=x; exact Heap.lt_size e
 | tbl ps=>exact Heap.lt_size (show h.get? a=some _ from x)
 | met f y=>exact Heap.lt_size (show h.get? a=some _ from x)
 | ext φ=>obtain ⟨_,⟨_,e⟩,_⟩:=x; exact Heap.lt_size e
theorem Paired.mapP {α β:Type}{F G:α→β→Prop}:∀ {l₁:List α}{l₂:List β},Paired F l₁ l₂→(∀ a b,F a b→G a b)→Paired G l₁ l₂
 | _,_,.nil,_=>.nil
 | _,_,.cons r t,f=>.cons (f _ _ r) (Paired.mapP t f)
theorem ObjOk.stay (x:ObjOk P w H h a o) (k:∀ b u,(b=a∨H b=some (.own a))→h.get? b=some u→h'.get? b=some u)
  (ho:∀ b,H b=some (.own a)→H' b=some (.own a)) (ht:∀ b xs,H b=some (.tup xs)→H' b=some (.tup xs)):ObjOk P w H' h' a o:=by
 induction o with
 | lst xs=>obtain ⟨z,its,n,r,e⟩:=x; exact ⟨z,its,n,r,k _ _ (.inl rfl) e⟩
 | tup xs=>obtain ⟨z,its,r,ob,e,c⟩:=x; exact ⟨z,its,r,ob,k _ _ (.inl rfl) e,c⟩
 | dK kvs=>obtain ⟨z,y,vs,r,ob,es,ep,e,c⟩:=x; exact ⟨z,y,vs,r,ob,es,ep,k _ _ (.inl rfl) e,c⟩
 | dT kvs =>
  obtain ⟨z,y,xs,r,ob,es,ep,e,c⟩:=x
  exact ⟨z,y,xs,Paired.mapP r fun p q z=>⟨z.1,ht _ _ z.2.1,z.2.2⟩,ob,es,ep,k _ _ (.inl rfl) e,c⟩
 | set S n=>obtain ⟨ob,es,ep,t,e,c⟩:=x; exact ⟨ob,es,ep,t,k _ _ (.inl rfl) e,c⟩
 | ins C dx fs =>
  obtain ⟨d,z,ne,e,mA,⟨od,es,ep,e2,c⟩,r⟩:=x
  exact ⟨ho _ d,z,ne,k _ _ (.inl rfl) e,mA,⟨od,es,ep,k _ _ (.inr d) e2,c⟩,r⟩
 | own y=>obtain ⟨ob,e⟩:=x; exact ⟨ob,k _ _ (.inl rfl) e⟩
 | xd fs=>obtain ⟨mA,⟨od,es,ep,e,c⟩,r⟩:=x; exact ⟨mA,⟨od,es,ep,k _ _ (.inl rfl) e,c⟩,r⟩
 | rng lo hi=>obtain ⟨t,u,v,e⟩:=x; exact ⟨t,u,v,k _ _ (.inl rfl) e⟩
 | frz ob u ih=>obtain ⟨e,q⟩:=x; exact ⟨k _ _ (.inl rfl) e,ih q⟩
 | tbl ps =>
  have e:h.get? a=some { cls:=.none,data:=.fields ps }:=x
  show h'.get? a=some { cls:=.none,data:=.fields ps }
  exact k a _ (.inl rfl) e
 | met f y =>
  have e:h.get? a=some (PySem.W.methodObj (.ref f) (.ref y)):=x
  show h'.get? a=some (PySem.W.methodObj (.ref f) (.ref y))
  exact k a _ (.inl rfl) e
 | ext φ=>obtain ⟨p,⟨o,e⟩,st⟩:=x; exact ⟨st _ _ p fun o q=>k _ _ (.inl rfl) q,⟨o,k _ _ (.inl rfl) e⟩,st⟩
theorem HOk.lt (x:HOk P w H h) (e:H a=some o):a < h.objs.size:=(x a o e).lt
theorem HOk.fresh (x:HOk P w H h) (e:h.objs.size≤a):H a=none:=by
 cases q:H a with
 | none=>rfl
 | some u=>exact absurd (Nat.lt_of_lt_of_le (x.lt q) e) (Nat.lt_irrefl _)
theorem HOk.kept (x:HOk P w H h) (k:∀ b u,h.get? b=some u→h'.get? b=some u):HOk P w H h':=fun a o e =>
 (x a o e).stay (fun b u _ q=>k b u q) (fun _ q=>q) fun _ _ q=>q
theorem HOk.laid (x:HOk P w H h) (k:∀ b u,h.get? b=some u→h'.get? b=some u) (hp:h.objs.size≤a) (new:ObjOk P w (upd H a o) h' a o):HOk P w (upd H a o) h':=fun b u e=>by
 have hn:=x.fresh hp
 by_cases hb:b=a
 ·subst hb; rw [zaag] at e; cases e; exact new
 ·rw [zabe hb] at e
  exact (x b u e).stay (fun c v _ q=>k c v q) (fun c q=>by rw [zabe (zaa0 q hn)]; exact q) fun c xs q=>by rw [zabe (zaa0 q hn)]; exact q
end
def Rd (H:Hp) (a:Addr) (u:HO):Prop:=H a=some u∨∃ o,H a=some (.frz o u)
theorem Rd.ok {P:Program}{w:World}{H:Hp}{h:Heap}{a:Addr}{u:HO} (r:Rd H a u) (x:HOk P w H h):ObjOk P w H h a u:=by
 rcases r with r | ⟨o,r⟩
 ·exact x a u r
 ·obtain ⟨_,q⟩:=x a _ r
  exact q
def Mut:Option HO→Prop
 | some (.lst _)=>True
 | some (.dK _)=>True
 | some (.dT _)=>True
 | some (.set _ _)=>True
 | some (.ins _ _ _)=>True
 | some (.ext _)=>True
 | _=>False
section
variable {P:Program}{w:World}{H:Hp}{h h':Heap}{x e:Addr}{o':HO}
theorem HOk.write (ok:HOk P w H h) (mu:Mut (H x)) (he:e=x∨H e=some (.own x)) (k:∀ b u,b≠e→h.get? b=some u→h'.get? b=some u) (heo:∃ u,h'.get? e=some u)
  (new:ObjOk P w (upd H x o') h' x o'):HOk P w (upd H x o') h':=fun b u q=>by
 have nown:∀ c y,H c=some (.own y)→c≠x:=fun c y r z=>by subst z; rw [r] at mu; exact mu
 have ntup:∀ c xs,H c=some (.tup xs)→c≠x:=fun c xs r z=>by subst z; rw [r] at mu; exact mu
 by_cases hb:b=x
 ·subst hb; rw [zaag] at q; cases q; exact new
 ·rw [zabe hb] at q
  by_cases hbe:b=e
  ·have q':H b=some (.own x):=by
    rcases he with z | z
    ·exact absurd (hbe.trans z) hb
    ·rw [hbe]; exact z
   rw [q] at q'; cases q'
   obtain ⟨v,hv⟩:=heo
   exact ⟨v,by rw [hbe]; exact hv⟩
  ·refine (ok b u q).stay (fun c v hc r=>k c v ?_ r) (fun c r=>by rw [zabe (nown c b r)]; exact r) fun c xs r=>by rw [zabe (ntup c xs r)]; exact r
   rcases hc with rfl | hc
   ·exact hbe
   ·rintro rfl
    rcases he with z | z
    ·exact nown c b hc z
    ·rw [hc] at z; cases z; exact hb rfl
end
structure Un (fs ex:List Addr) (H H':Hp) (h h':Heap):Prop where
 keep:∀ b o,h.get? b=some o→H b=none→b ∉ fs→b ∉ ex→h'.get? b=some o
 slot:∀ b o,h.get? b=some o→H b=none→b∈fs→b ∉ ex→∃ sl,h'.get? b=some { o with slots:=sl }
 free:∀ b o,h.get? b=some o→H b=none→b ∉ ex→H' b=none
 there:∀ b o,h.get? b=some o→b ∉ ex→∃ o',h'.get? b=some o'
 tups:∀ b xs,H b=some (.tup xs)→H' b=some (.tup xs)
 frzs:∀ b o u,H b=some (.frz o u)→H' b=some (.frz o u)
 tbls:∀ b ps,H b=some (.tbl ps)→∃ more,H' b=some (.tbl (ps++more))
section
variable {fs fs' ex ex':List Addr}{H H1 H2:Hp}{h h1 h2 h':Heap}{a x e:Addr}{o:HO}
theorem Un.any (u:Un fs ex H H1 h h1) {b:Addr}{ob:Obj} (q:h.get? b=some ob) (n:H b=none) (hx:b ∉ ex):∃ sl,h1.get? b=some { ob with slots:=sl }:=by
 by_cases hb:b∈fs
 ·exact u.slot b ob q n hb hx
 ·exact ⟨ob.slots,u.keep b ob q n hb hx⟩
theorem Un.kept (k:∀ b u,h.get? b=some u→h'.get? b=some u):Un fs ex H H h h' :=
 ⟨fun b ob q _ _ _=>k b ob q,fun b ob q _ _ _=>⟨ob.slots,k b ob q⟩,fun _ _ _ n _=>n,fun b ob q _=>⟨ob,k b ob q⟩,fun _ _ q=>q,fun _ _ _ q=>q,fun _ ps q=>⟨#[],by rw [q]; simp⟩⟩
theorem Un.refl:Un fs ex H H h h:=Un.kept fun _ _ q=>q
theorem Un.laid (k:∀ b u,h.get? b=some u→h'.get? b=some u) (hp:h.objs.size≤a) (hn:H a=none):Un fs ex H (upd H a o) h h' where
 keep:=fun b u q _ _ _=>k b u q
 slot:=fun b u q _ _ _=>⟨u.slots,k b u q⟩
 free:=fun b u q n _=>by rw [zabe (Nat.ne_of_lt (Nat.lt_of_lt_of_le (Heap.lt_size q) hp))]; exact n
 there:=fun b u q _=>⟨u,k b u q⟩
 tups:=fun b xs q=>by rw [zabe (zaa0 q hn)]; exact q
 frzs:=fun b u xs q=>by rw [zabe (zaa0 q hn)]; exact q
 tbls:=fun b ps q=>⟨#[],by rw [zabe (zaa0 q hn),q]; simp⟩
theorem Un.write (mu:Mut (H x)) (he:e=x∨H e=some (.own x)) (k:∀ b u,b≠e→h.get? b=some u→h'.get? b=some u) (heo:∃ u,h'.get? e=some u):Un fs ex H (upd H x o) h h':=by
 have hx:∀ b,H b=none→b≠x:=fun b n z=>by subst z; rw [n] at mu; exact mu
 have hb:∀ b,H b=none→b≠e:=fun b n z=>by
  subst z
  rcases he with r | r
  ·exact hx b n r
  ·rw [n] at r; cases r
 have hm:∀ b u,H b=some u→¬ Mut (some u)→b≠x:=fun b u q nm z=>by subst z; rw [q] at mu; exact nm mu
 refine ⟨fun b u q n _ _=>k b u (hb b n) q,fun b u q n _ _=>⟨u.slots,k b u (hb b n) q⟩,fun b u q n _=>by rw [zabe (hx b n)]; exact n,fun b u q _=>?_,
  fun b xs q=>by rw [zabe (hm b _ q fun z=>z)]; exact q,fun b u xs q=>by rw [zabe (hm b _ q fun z=>z)]; exact q,fun b ps q=>⟨#[],by rw [zabe (hm b _ q fun z=>z),q]; simp⟩⟩
 by_cases hbe:b=e
 ·subst hbe; exact heo
 ·exact ⟨u,k b u hbe q⟩
end
def trk (h:Heap) (H:Hp):List Addr:=(List.range h.objs.size).filter fun a=>(H a).isSome
def hidT (h:Heap) (H:Hp):Heap:=PySem.W.hideAll h (trk h H)
theorem zah3 (h:Heap) (H:Hp):(hidT h H).objs.size=h.objs.size:=PySem.W.hideAll_size _ _
theorem zajz {h:Heap}{H:Hp}{b:Addr}{o:Obj} (e:h.get? b=some o) (n:H b=none):(hidT h H).get? b=some o :=
 PySem.W.hideAll_get _ e fun hm=>by
  have q:(H b).isSome=true:=(List.mem_filter.mp hm).2
  rw [n] at q; simp at q
theorem zalb {h:Heap}{H:Hp}{b:Addr}{o:Obj} (e:(hidT h H).get? b=some o):h.get? b=some o∧H b=none:=by
 have e':h.get? b=some o:=PySem.W.of_hideAll (trk h H) e
 refine ⟨e',?_⟩
 cases q:H b with
 | none=>rfl
 | some x =>
  have hm:b∈trk h H:=List.mem_filter.mpr ⟨List.mem_range.mpr (Heap.lt_size e'),by simp [q]⟩
  have z:(hidT h H).get? b=none:=PySem.W.hideAll_none (trk h H) hm
  rw [z] at e; cases e
structure Mod (K:PySem.W.Frag) (mg:Str→Option Value) (base:Heap):Prop where
 kin:K.In base
 glob:base.Ns mainGlobals mg
 blt:∃ mb,base.Ns builtinsNs mb∧∀ x:Str,x ≠ "__name__" → mb x=bootBuiltins x
 nolimit:base.NoLimit
structure Cx where
 prog:Program
 w:World
 K:PySem.W.Frag
 mg:Str→Option Value
 base:Heap
 A:Around
 N:List Str
 s₀:Shared
 H₀:Hp
 env:Env
 outer:List Env
 stack:List Env
 ex:List Addr
 fn:Str→Bool
 calm:Bool
 pn:List (Addr × Obj)
 xe:Value→Shared→Prop
def frs (l:List Env):List Addr:=l.filterMap (·.frame)
abbrev Cx.fs (X:Cx):List Addr:=frs X.outer
def Vis (sc:Scope) (x:Str):Prop:=sc.names.lookup x=some .local∨sc.names.lookup x=some .cell∨sc.names.lookup x=some .free
def Loc (sc:Scope) (x:Str):Prop:=sc.names.lookup x=some .local∨sc.names.lookup x=some .cell
def Look (env:Env) (h:Heap) (m:Str→Option Value) (x:Str) (u:Value):Prop :=
 (env.kindOf x=some .local∧m x=some u)∨((env.kindOf x=some .cell∨env.kindOf x=some .free)∧∃ c,env.cells.lookup x=some c∧h.IsCell c (some u))
structure Cx.Ok (X:Cx):Prop where
 mod:Mod X.K X.mg X.base
 kind:X.env.scope.kind=.function
 glob:X.env.globals=mainGlobals
 blt:X.env.builtins=builtinsNs
 above:X.s₀.heap.objs.size≤X.env.locals
 inj:∀ x y c,X.env.cells.lookup x=some c→X.env.cells.lookup y=some c→x=y
 has:∀ x,(X.env.kindOf x=some .cell∨X.env.kindOf x=some .free)→∃ c,X.env.cells.lookup x=some c
 cab:∀ x c,X.fn x=true→X.env.cells.lookup x=some c→X.s₀.heap.objs.size≤c
 hd:X.calm=true→X.A.handled=none
 frames:X.A.frames=some X.stack
 stk:X.stack=X.outer∨(X.stack=X.env :: X.outer∧X.env.frame=some X.env.locals)
 exf:∀ b∈X.ex,b≠X.env.locals∧∀ x c,X.env.cells.lookup x=some c→c≠b
 bs:∀ b o,X.base.get? b=some o→X.s₀.heap.get? b=some o∧X.H₀ b=none
 bsz:X.base.objs.size≤X.s₀.heap.objs.size
 noex:∀ b o,X.base.get? b=some o→b ∉ X.ex
 exfs:∀ b∈X.ex,b ∉ X.fs
 funs:X.s₀.heap.FunFrames X.base X.outer
 frf:∀ b∈X.fs,X.H₀ b=none
structure Inv (X:Cx) (pins:List (Addr × Obj)) (σ:List (Option V)) (H:Hp) (s:Shared):Prop where
 ok:X.Ok
 os:s.os=X.s₀.os
 bare:AllBare s.gens
 base:Un X.fs X.ex X.H₀ H X.s₀.heap s.heap
 loc:∃ m,s.heap.Ns X.env.locals m∧∀ (i:Nat) (x:Str) (v:V),X.N[i]?=some x→σ[i]?=some (some v)→Vis X.env.scope x→∃ u,RelV v u∧Look X.env s.heap m x u
 cell:∀ x c,X.env.cells.lookup x=some c→∃ v,s.heap.IsCell c v
 free:H X.env.locals=none
 freeC:∀ x c,X.env.cells.lookup x=some c→H c=none
 pin:∀ p∈X.pn++pins,s.heap.get? p.1=some p.2∧H p.1=none∧p.1≠X.env.locals∧p.1 ∉ X.fs∧∀ v,p.2.data≠.cell v
 hok:HOk X.prog X.w H s.heap
 len:σ.length=X.N.length
section
variable {X:Cx}{pins:List (Addr × Obj)}{σ:List (Option V)}{H H':Hp}{s:Shared}{h':Heap}
theorem Cx.Ok.nofr (ok:X.Ok) {b:Addr}{o:Obj} (e:X.base.get? b=some o):b ∉ X.fs:=fun hb=>by
 have:=(ok.funs.mem hb).1
 rw [e] at this; cases this
theorem Inv.bs (I:Inv X pins σ H s):∀ b o,X.base.get? b=some o→s.heap.get? b=some o∧H b=none:=fun b o e =>
 ⟨I.base.keep b o (I.ok.bs b o e).1 (I.ok.bs b o e).2 (I.ok.nofr e) (I.ok.noex b o e),I.base.free b o (I.ok.bs b o e).1 (I.ok.bs b o e).2 (I.ok.noex b o e)⟩
theorem Inv.bk (I:Inv X pins σ H s):∀ b o,X.base.get? b=some o→s.heap.get? b=some o:=fun b o e=>(I.bs b o e).1
theorem Inv.mod (I:Inv X pins σ H s):Mod X.K X.mg X.base:=I.ok.mod
theorem Inv.kIn (I:Inv X pins σ H s):X.K.In s.heap:=I.ok.mod.kin.keeps I.bk
theorem Inv.lt (I:Inv X pins σ H s):X.env.locals < s.heap.objs.size:=let ⟨_,hn,_⟩:=I.loc; hn.lt
theorem Inv.sz (I:Inv X pins σ H s):X.s₀.heap.objs.size≤s.heap.objs.size:=Nat.le_trans I.ok.above (Nat.le_of_lt I.lt)
theorem Inv.nofs (I:Inv X pins σ H s) {a:Addr} (h:s.heap.objs.size≤a):a ∉ X.fs:=fun hb=>by
 obtain ⟨_,o,ho,_⟩:=I.ok.funs.mem hb
 exact absurd (Nat.lt_of_lt_of_le (Heap.lt_size ho) (Nat.le_trans I.sz h)) (Nat.lt_irrefl _)
theorem Inv.cne (I:Inv X pins σ H s):∀ x c,X.env.cells.lookup x=some c→c≠X.env.locals:=fun x c e z=>by
 obtain ⟨v,o,ho,hd⟩:=I.cell x c e
 obtain ⟨m,⟨o',es,ep,ho',hd',_⟩,_⟩:=I.loc
 rw [z,ho'] at ho; cases ho; rw [hd'] at hd; cases hd
theorem Inv.funs (I:Inv X pins σ H s):s.heap.FunFrames X.base X.outer:=by
 have all:∀ (l:List Env),(∀ b∈frs l,b∈X.fs)→X.s₀.heap.FunFrames X.base l→s.heap.FunFrames X.base l:=by
  intro l
  induction l with
  | nil=>intro _ _; trivial
  | cons env r ih =>
   intro hs hl
   obtain ⟨hk,⟨L,o,hf,hn,ho,hd⟩,hr⟩:=hl
   have hL:L∈X.fs:=hs L (by unfold frs; rw [List.filterMap_cons,hf]; exact List.mem_cons_self)
   obtain ⟨sl,e⟩:=I.base.slot L o ho (I.ok.frf L hL) hL fun z=>I.ok.exfs L z hL
   exact ⟨hk,⟨L,_,hf,hn,e,hd⟩,ih (fun b hb=>hs b (by unfold frs; rw [List.filterMap_cons,hf]; exact List.mem_cons_of_mem _ hb)) hr⟩
 exact all X.outer (fun _ hb=>hb) I.ok.funs
theorem Inv.stack (I:Inv X pins σ H s):s.heap.FunFrames X.base X.stack:=by
 rcases I.ok.stk with e | ⟨e,hf⟩
 ·rw [e]; exact I.funs
 ·rw [e]
  obtain ⟨m,hn,_⟩:=I.loc
  refine .cons (by rw [I.ok.kind]; decide) hf hn ?_ I.funs
  exact Heap.get?_none_of_le (Nat.le_trans I.ok.bsz I.ok.above)
theorem Inv.stkSub (I:Inv X pins σ H s):∀ b∈frs X.stack,b∈X.env.locals :: X.fs:=fun b hb=>by
 rcases I.ok.stk with e | ⟨e,hf⟩
 ·rw [e] at hb; exact List.mem_cons_of_mem _ hb
 ·rw [e] at hb
  unfold frs at hb
  rw [List.filterMap_cons,hf] at hb
  exact hb
theorem Inv.stkFree (I:Inv X pins σ H s):∀ b∈frs X.stack,H b=none:=fun b hb=>by
 rcases List.mem_cons.mp (I.stkSub b hb) with e | hb
 ·rw [e]; exact I.free
 ·obtain ⟨_,o,ho,_⟩:=I.ok.funs.mem hb
  exact I.base.free b o ho (I.ok.frf b hb) fun z=>I.ok.exfs b z hb
theorem Inv.step {g':Array GenState}{t':Nat}{d':Drawn}{ch:List Addr} (I:Inv X pins σ H s)
  (hch:∀ b∈ch,(b∈X.ex∨X.s₀.heap.objs.size≤b)∧b≠X.env.locals∧(∀ x c,X.env.cells.lookup x=some c→c≠b)∧∀ p∈X.pn++pins,p.1≠b)
  (keep:∀ b o,b≠X.env.locals→b ∉ X.fs→b ∉ ch→s.heap.get? b=some o→H b=none→h'.get? b=some o)
  (slot:∀ b o,b≠X.env.locals→b∈X.fs→b ∉ ch→s.heap.get? b=some o→H b=none→∃ sl,h'.get? b=some { o with slots:=sl }) (free:∀ b o,b ∉ ch→s.heap.get? b=some o→H b=none→H' b=none)
  (there:∀ b o,b ∉ ch→s.heap.get? b=some o→∃ o',h'.get? b=some o')
  (tups:∀ b xs,H b=some (.tup xs)→H' b=some (.tup xs)) (frzs:∀ b o u,H b=some (.frz o u)→H' b=some (.frz o u)) (tbls:∀ b ps,H b=some (.tbl ps)→∃ more,H' b=some (.tbl (ps++more)))
  (ns:∀ m,s.heap.Ns X.env.locals m→h'.Ns X.env.locals m) (hok:HOk X.prog X.w H' h') (hg:AllBare g') :
  Inv X pins σ H' { s with heap:=h',gens:=g',drawn:=d',toks:=t' }:=by
 have neL:∀ b o,X.s₀.heap.get? b=some o→b≠X.env.locals:=fun b o e=>Nat.ne_of_lt (Nat.lt_of_lt_of_le (Heap.lt_size e) I.ok.above)
 have neC:∀ b o,X.s₀.heap.get? b=some o→b ∉ X.ex→b ∉ ch:=fun b o e hx hb=>by
  rcases (hch b hb).1 with z | z
  ·exact hx z
  ·exact absurd (Nat.lt_of_lt_of_le (Heap.lt_size e) z) (Nat.lt_irrefl _)
 have cellK:∀ x c,X.env.cells.lookup x=some c→∀ v,s.heap.IsCell c v→h'.IsCell c v:=fun x c e v ⟨o,ho,hd⟩=>by
  have nch:c ∉ ch:=fun z=>(hch c z).2.2.1 x c e rfl
  by_cases hc:c∈X.fs
  ·obtain ⟨sl,q⟩:=slot c o (I.cne x c e) hc nch ho (I.freeC x c e)
   exact ⟨_,q,hd⟩
  ·exact ⟨o,keep c o (I.cne x c e) hc nch ho (I.freeC x c e),hd⟩
 refine ⟨I.ok,I.os,hg,⟨fun b o e n hb hx=>?_,fun b o e n hb hx=>?_,fun b o e n hx=>?_,fun b o e hx=>?_,fun b xs e=>tups b xs (I.base.tups b xs e),fun b o xs e=>frzs b o xs (I.base.frzs b o xs e),fun b ps e=>?_⟩,?_,fun x c e=>?_,?_,fun x c e=>?_,fun p hp=>?_,hok,I.len⟩
 ·exact keep b o (neL b o e) hb (neC b o e hx) (I.base.keep b o e n hb hx) (I.base.free b o e n hx)
 ·obtain ⟨sl,e1⟩:=I.base.slot b o e n hb hx
  obtain ⟨sl',e2⟩:=slot b _ (neL b o e) hb (neC b o e hx) e1 (I.base.free b o e n hx)
  exact ⟨sl',e2⟩
 ·obtain ⟨o',e1⟩:=I.base.there b o e hx
  exact free b o' (neC b o e hx) e1 (I.base.free b o e n hx)
 ·obtain ⟨o',e1⟩:=I.base.there b o e hx
  exact there b o' (neC b o e hx) e1
 ·obtain ⟨m1,e1⟩:=I.base.tbls b ps e
  obtain ⟨m2,e2⟩:=tbls b _ e1
  exact ⟨m1++m2,by rw [e2,Array.append_assoc]⟩
 ·obtain ⟨m,hn,hl⟩:=I.loc
  refine ⟨m,ns m hn,fun i x v e1 e2 e3=>?_⟩
  obtain ⟨u,r,l⟩:=hl i x v e1 e2 e3
  refine ⟨u,r,?_⟩
  rcases l with l | ⟨k,c,e,z⟩
  ·exact .inl l
  ·exact .inr ⟨k,c,e,cellK x c e _ z⟩
 ·obtain ⟨v,z⟩:=I.cell x c e
  exact ⟨v,cellK x c e v z⟩
 ·obtain ⟨m,⟨o,_,_,ho,_⟩,_⟩:=I.loc
  exact free _ o (fun z=>(hch _ z).2.1 rfl) ho I.free
 ·obtain ⟨v,o,ho,hd⟩:=I.cell x c e
  exact free c o (fun z=>(hch c z).2.2.1 x c e rfl) ho (I.freeC x c e)
 ·obtain ⟨e,n,ne,nf,d⟩:=I.pin p hp
  have nch:p.1 ∉ ch:=fun z=>(hch p.1 z).2.2.2 p hp rfl
  exact ⟨keep p.1 p.2 ne nf nch e n,free p.1 p.2 nch e n,ne,nf,d⟩
theorem Inv.un {t':Nat} (I:Inv X pins σ H s) (u:Un X.fs [] H H' s.heap h') (hok:HOk X.prog X.w H' h'):Inv X pins σ H' { s with heap:=h',toks:=t' }:=by
 obtain ⟨m,⟨o,es,ep,ho,r⟩,_⟩:=id I.loc
 obtain ⟨sl,hL⟩:=u.any ho I.free (by simp)
 exact I.step (g':=s.gens) (d':=s.drawn) (ch:=[]) (fun _ z=>nomatch z) (fun b o _ hb _ e n=>u.keep b o e n hb (by simp)) (fun b o _ hb _ e n=>u.slot b o e n hb (by simp)) (fun b o _ e n=>u.free b o e n (by simp)) (fun b o _ e=>u.there b o e (by simp)) u.tups u.frzs u.tbls (fun m' hm=>by
  obtain ⟨o',es',ep',ho',r'⟩:=hm
  rw [ho] at ho'; cases ho'
  exact ⟨_,es',ep',hL,r'⟩) hok I.bare
theorem Inv.call {g':Array GenState}{t':Nat}{d':Drawn}{ch:List Addr} (I:Inv X pins σ H s) (u:Un (frs X.stack) ch H H' s.heap h') (hok:HOk X.prog X.w H' h') (hg:AllBare g')
  (hch:∀ b∈ch,(b∈X.ex∨X.s₀.heap.objs.size≤b)∧b≠X.env.locals∧(∀ x c,X.env.cells.lookup x=some c→c≠b)∧∀ p∈X.pn++pins,p.1≠b) :
  Inv X pins σ H' { s with heap:=h',gens:=g',drawn:=d',toks:=t' }:=by
 obtain ⟨m,⟨o,es,ep,ho,r⟩,_⟩:=id I.loc
 obtain ⟨sl,hL⟩:=u.any ho I.free fun z=>(hch _ z).2.1 rfl
 exact I.step (ch:=ch) hch (fun b o hL hb hc e n=>u.keep b o e n (fun z=>(List.mem_cons.mp (I.stkSub b z)).elim hL hb) hc) (fun b o _ _ hc e n=>u.any e n hc) (fun b o hc e n=>u.free b o e n hc) (fun b o hc e=>u.there b o e hc) u.tups u.frzs u.tbls (fun m' hm=>by
  obtain ⟨o',es',ep',ho',r'⟩:=hm
  rw [ho] at ho'; cases ho'
  exact ⟨_,es',ep',hL,r'⟩) hok hg
theorem Inv.turned {t':Nat}{it:Addr} (I:Inv X pins σ H s) (k:∀ b o,b≠it→s.heap.get? b=some o→h'.get? b=some o) (hn:H it=none) (hL:it≠X.env.locals)
  (h1:it∈X.ex∨X.s₀.heap.objs.size≤it) (h2:∀ x c,X.env.cells.lookup x=some c→c≠it) (h3:∀ p∈X.pn++pins,p.1≠it):Inv X pins σ H { s with heap:=h',toks:=t' }:=by
 have nit:∀ b u,H b=some u→b≠it:=fun b u e z=>by rw [z,hn] at e; cases e
 refine I.step (g':=s.gens) (d':=s.drawn) (ch:=[it]) (fun b hb=>?_) (fun b o _ _ hc e _=>k b o (fun z=>hc (by simp [z])) e) (fun b o _ _ hc e _=>⟨o.slots,k b o (fun z=>hc (by simp [z])) e⟩) (fun _ _ _ _ n=>n)
  (fun b o hc e=>⟨o,k b o (fun z=>hc (by simp [z])) e⟩) (fun _ _ e=>e) (fun _ _ _ e=>e) (fun b ps e=>⟨#[],by rw [e]; simp⟩) (fun m hm=>?_) (fun b u e=>?_) I.bare
 ·have e:b=it:=by simpa using hb
  subst e
  exact ⟨h1,hL,h2,h3⟩
 ·obtain ⟨o,es,ep,ho,r⟩:=hm
  exact ⟨o,es,ep,k _ o (Ne.symm hL) ho,r⟩
 ·refine (I.hok b u e).stay (fun c v hc q=>k c v ?_ q) (fun _ q=>q) fun _ _ q=>q
  rcases hc with z | z
  ·rw [z]; exact nit b u e
  ·exact nit c _ z
theorem Inv.tok (I:Inv X pins σ H s) (t:Nat):Inv X pins σ H { s with toks:=t }:=I.un (h':=s.heap) (t':=t) Un.refl I.hok
theorem Inv.kept {t':Nat} (I:Inv X pins σ H s) (k:∀ b u,s.heap.get? b=some u→h'.get? b=some u):Inv X pins σ H { s with heap:=h',toks:=t' }:=I.un (Un.kept k) (I.hok.kept k)
theorem Inv.laid {a:Addr}{o:HO}{t':Nat} (I:Inv X pins σ H s) (k:∀ b u,s.heap.get? b=some u→h'.get? b=some u) (hp:s.heap.objs.size≤a) (new:ObjOk X.prog X.w (upd H a o) h' a o) :
  Inv X pins σ (upd H a o) { s with heap:=h',toks:=t' }:=I.un (Un.laid k hp (I.hok.fresh hp)) (I.hok.laid k hp new)
theorem Inv.write {x e:Addr}{o:HO}{t':Nat} (I:Inv X pins σ H s) (mu:Mut (H x)) (he:e=x∨H e=some (.own x)) (k:∀ b u,b≠e→s.heap.get? b=some u→h'.get? b=some u) (heo:∃ u,h'.get? e=some u)
  (new:ObjOk X.prog X.w (upd H x o) h' x o):Inv X pins σ (upd H x o) { s with heap:=h',toks:=t' }:=I.un (Un.write mu he k heo) (I.hok.write mu he k heo new)
theorem Inv.pins_of {pins':List (Addr × Obj)} (I:Inv X pins σ H s) (h:∀ p∈pins',s.heap.get? p.1=some p.2∧H p.1=none∧p.1≠X.env.locals∧p.1 ∉ X.fs∧∀ v,p.2.data≠.cell v):Inv X pins' σ H s :=
 ⟨I.ok,I.os,I.bare,I.base,I.loc,I.cell,I.free,I.freeC,fun p hp=>(List.mem_append.mp hp).elim (fun z=>I.pin p (List.mem_append_left _ z)) (h p),I.hok,I.len⟩
theorem zag4 {N:List Str} (hN:N.Nodup) {i j:Nat}{x:Str} (a:N[i]?=some x) (b:N[j]?=some x):i=j:=by
 obtain ⟨h1,e1⟩:=List.getElem?_eq_some_iff.mp a
 obtain ⟨h2,e2⟩:=List.getElem?_eq_some_iff.mp b
 exact (List.getElem_inj hN).mp (e1.trans e2.symm)
theorem zafk {M:Model}{A:Around}{E:Value→Shared→Prop}{i:Nat}{x:Str}{v:V}{u:Value}{Q:Unit→Shared→Prop} (I:Inv X pins σ H s) (hN:X.N.Nodup) (hi:X.N[i]?=some x) (hx:Loc X.env.scope x) (r:RelV v u)
  (h:∀ s',Inv X pins (σ.set i (some v)) H s'→(∃ a,Heap.SameBut a s.heap s'.heap∧(a=X.env.locals∨X.env.cells.lookup x=some a))→Q () s') (hf:X.fn x=true∨X.env.scope.names.lookup x=some .local:=by first | exact .inl rfl | exact .inr rfl | assumption):wpAny M A (storeName X.env x u) Q E s:=by
 obtain ⟨m,hn,hl⟩:=id I.loc
 have hcls:(X.env.scope.kind == .class || (X.env.scope.kind == .module && X.env.locals != X.env.globals))=false:=by rw [I.ok.kind]; rfl
 have hiσ:i < σ.length:=by rw [I.len]; exact (List.getElem?_eq_some_iff.mp hi).1
 have cne:=I.cne
 have tracked:∀ {a:Addr}{h':Heap},(∃ o,s.heap.get? a=some o∧H a=none)→Heap.SameBut a s.heap h'→HOk X.prog X.w H h':=fun {a h'} ha hs b ob e=>by
  obtain ⟨_,_,hfree⟩:=ha
  refine (I.hok b ob e).stay (fun c w' hc q=>(hs.2 c ?_).trans q) (fun _ q=>q) fun _ _ q=>q
  rintro rfl
  rcases hc with rfl | hc
  ·rw [hfree] at e; cases e
  ·rw [hfree] at hc; cases hc
 rcases hx with hk | hk
 ·refine wpAny_storeName_local hk hn (fun h' hn' hs=>?_) hcls
  obtain ⟨oL,_,_,hoL,_⟩:=id hn
  refine h _ ⟨I.ok,I.os,I.bare,⟨fun b o e n hb hx=>?_,fun b o e n hb hx=>?_,I.base.free,fun b o e hx=>?_,I.base.tups,I.base.frzs,I.base.tbls⟩,⟨_,hn',fun j y v' e1 e2 e3=>?_⟩,fun y c e=>?_,I.free,I.freeC,fun p hp=>?_,tracked ⟨oL,hoL,I.free⟩ hs,by simpa using I.len⟩ ⟨_,hs,.inl rfl⟩
  ·exact (hs.2 b (Nat.ne_of_lt (Nat.lt_of_lt_of_le (Heap.lt_size e) I.ok.above))).trans (I.base.keep b o e n hb hx)
  ·obtain ⟨sl,e1⟩:=I.base.slot b o e n hb hx
   exact ⟨sl,(hs.2 b (Nat.ne_of_lt (Nat.lt_of_lt_of_le (Heap.lt_size e) I.ok.above))).trans e1⟩
  ·obtain ⟨o',e1⟩:=I.base.there b o e hx
   exact ⟨o',(hs.2 b (Nat.ne_of_lt (Nat.lt_of_lt_of_le (Heap.lt_size e) I.ok.above))).trans e1⟩
  ·by_cases hj:j=i
   ·subst hj
    rw [hi] at e1; cases e1
    rw [List.getElem?_set_self hiσ] at e2
    cases e2
    exact ⟨u,r,.inl ⟨hk,by simp⟩⟩
   ·rw [List.getElem?_set_ne (Ne.symm hj)] at e2
    obtain ⟨u',r',q⟩:=hl j y v' e1 e2 e3
    refine ⟨u',r',?_⟩
    rcases q with ⟨k,e⟩ | ⟨k,c,e,z⟩
    ·refine .inl ⟨k,?_⟩
     have:y≠x:=fun e=>hj (zag4 hN e1 (e ▸ hi))
     simp [this,e]
    ·exact .inr ⟨k,c,e,z.sameBut hs (cne y c e)⟩
  ·obtain ⟨w',z⟩:=I.cell y c e
   exact ⟨w',z.sameBut hs (cne y c e)⟩
  ·obtain ⟨e,n,ne,nf,d⟩:=I.pin p hp
   exact ⟨(hs.2 p.1 ne).trans e,n,ne,nf,d⟩
 ·have hfn:X.fn x=true:=by
   rcases hf with z | z
   ·exact z
   ·rw [z] at hk; cases hk
  obtain ⟨c,hc⟩:=I.ok.has x (.inl hk)
  obtain ⟨w',z⟩:=I.cell x c hc
  refine wpAny_storeName_cell I.ok.kind hk hc z (fun h' hc' hs=>?_)
  obtain ⟨oc,hoc,hocd⟩:=id z
  refine h { s with heap:=h' } ⟨I.ok,I.os,I.bare,⟨fun b o e n hb hx=>?_,fun b o e n hb hx=>?_,I.base.free,fun b o e hx=>?_,I.base.tups,I.base.frzs,I.base.tbls⟩,⟨m,hn.sameBut hs (Ne.symm (cne x c hc)),fun j y v' e1 e2 e3=>?_⟩,fun y c' e=>?_,I.free,I.freeC,fun p hp=>?_,tracked ⟨oc,hoc,I.freeC x c hc⟩ hs,by simpa using I.len⟩ ⟨c,hs,.inr hc⟩
  ·exact (hs.2 b (Nat.ne_of_lt (Nat.lt_of_lt_of_le (Heap.lt_size e) (I.ok.cab x c hfn hc)))).trans (I.base.keep b o e n hb hx)
  ·obtain ⟨sl,e1⟩:=I.base.slot b o e n hb hx
   exact ⟨sl,(hs.2 b (Nat.ne_of_lt (Nat.lt_of_lt_of_le (Heap.lt_size e) (I.ok.cab x c hfn hc)))).trans e1⟩
  ·obtain ⟨o',e1⟩:=I.base.there b o e hx
   exact ⟨o',(hs.2 b (Nat.ne_of_lt (Nat.lt_of_lt_of_le (Heap.lt_size e) (I.ok.cab x c hfn hc)))).trans e1⟩
  ·by_cases hj:j=i
   ·subst hj
    rw [hi] at e1; cases e1
    rw [List.getElem?_set_self hiσ] at e2
    cases e2
    exact ⟨u,r,.inr ⟨.inl hk,c,hc,hc'⟩⟩
   ·rw [List.getElem?_set_ne (Ne.symm hj)] at e2
    obtain ⟨u',r',q⟩:=hl j y v' e1 e2 e3
    refine ⟨u',r',?_⟩
    rcases q with q | ⟨k,c',e,z'⟩
    ·exact .inl q
    ·refine .inr ⟨k,c',e,z'.sameBut hs ?_⟩
     rintro rfl
     exact hj (zag4 hN e1 (I.ok.inj _ _ _ e hc ▸ hi))
  ·by_cases hcc:c'=c
   ·subst hcc; exact ⟨_,hc'⟩
   ·obtain ⟨w2,z2⟩:=I.cell y c' e
    exact ⟨w2,z2.sameBut hs hcc⟩
  ·obtain ⟨e,n,ne,nf,d⟩:=I.pin p hp
   refine ⟨(hs.2 p.1 ?_).trans e,n,ne,nf,d⟩
   intro q
   rw [q,hoc] at e
   have q':oc=p.2:=Option.some.inj e
   exact d w' (by rw [← q']; exact hocd)
theorem zag5 {M:Model}{A:Around}{E:Value→Shared→Prop}{i:Nat}{x:Str}{v:V}{u:Value}{Q:Unit→Shared→Prop} (I:Inv X pins σ H s) (hN:X.N.Nodup) (hi:X.N[i]?=some x) (hx:Loc X.env.scope x) (r:RelV v u)
  (h:∀ s',Inv X pins (σ.set i (some v)) H s'→Q () s') (hf:X.fn x=true∨X.env.scope.names.lookup x=some .local:=by first | exact .inl rfl | exact .inr rfl | assumption):wpAny M A (storeName X.env x u) Q E s :=
 zafk I hN hi hx r (fun s' I' _=>h s' I') hf
theorem Inv.call' {s':Shared}{ch:List Addr} (I:Inv X pins σ H s) (ho:s'.os=s.os) (u:Un (frs X.stack) ch H H' s.heap s'.heap) (hok:HOk X.prog X.w H' s'.heap) (hg:AllBare s'.gens)
  (hch:∀ b∈ch,(b∈X.ex∨X.s₀.heap.objs.size≤b)∧b≠X.env.locals∧(∀ x c,X.env.cells.lookup x=some c→c≠b)∧∀ p∈X.pn++pins,p.1≠b):Inv X pins σ H' s':=by
 obtain ⟨h',g',d',t',o'⟩:=s'
 have e:o'=s.os:=ho
 subst e
 exact I.call (g':=g') (t':=t') (d':=d') u hok hg hch
end
abbrev XK:=Value→Option Addr→Hp→Prop
abbrev St:=List (Option V)
abbrev VK:=V→Hp→Prop
abbrev TE:=St→Hp→VK→Prop
abbrev TT:=St→Hp→(Bool→Hp→Prop)→Prop
abbrev TA:=St→Hp→(List V→Hp→Prop)→Prop
structure Ends where
 nx:St→Hp→Prop
 rt:VK
 bk:St→Hp→Prop:=fun _ _=>False
 ct:St→Hp→Prop:=fun _ _=>False
abbrev TS:=Ends→St→Hp→Prop
def EP (X:Cx) (pins:List (Addr × Obj)) (σ:St) (Q:VK) (u:Value) (s':Shared):Prop:=∃ v H',Inv X pins σ H' s'∧RelV v u∧Q v H'
def TP (X:Cx) (pins:List (Addr × Obj)) (σ:St) (Q:Bool→Hp→Prop) (b:Bool) (s':Shared):Prop:=∃ H',Inv X pins σ H' s'∧Q b H'
def AP (X:Cx) (pins:List (Addr × Obj)) (σ:St) (Q:List V→Hp→Prop) (us:List Value) (s':Shared):Prop:=∃ vs H',Inv X pins σ H' s'∧Vals vs us∧Q vs H'
def SP (X:Cx) (pins:List (Addr × Obj)) (D:Ends) (f:Flow) (s':Shared):Prop :=
 match f with
 | .next=>∃ σ' H',Inv X pins σ' H' s'∧D.nx σ' H'
 | .brk=>∃ σ' H',Inv X pins σ' H' s'∧D.bk σ' H'
 | .cont=>∃ σ' H',Inv X pins σ' H' s'∧D.ct σ' H'
 | .ret u=>∃ v σ' H',Inv X pins σ' H' s'∧RelV v u∧D.rt v H'
def PE (X:Cx) (e:Expr) (t:TE):Prop :=
 ∀ (pins:List (Addr × Obj)) (s:Shared) (σ:St) (H:Hp) (Q:VK),Inv X pins σ H s→t σ H Q→wpAny (model X.prog X.w) X.A (eval e X.env) (EP X pins σ Q) X.xe s
def PT (X:Cx) (e:Expr) (t:TT):Prop :=
 ∀ (pins:List (Addr × Obj)) (s:Shared) (σ:St) (H:Hp) (Q:Bool→Hp→Prop),Inv X pins σ H s→t σ H Q→wpAny (model X.prog X.w) X.A (isTrue e X.env (eval e X.env)) (TP X pins σ Q) X.xe s
def PW (X:Cx) (e:Expr) (t:TT):Prop :=
 ∀ (whole:Sem Value) (pins:List (Addr × Obj)) (s:Shared) (σ:St) (H:Hp) (Q:Bool→Hp→Prop),Inv X pins σ H s→t σ H Q→wpAny (model X.prog X.w) X.A (isTrue e X.env whole) (TP X pins σ Q) X.xe s
theorem PW.pt {X:Cx}{e:Expr}{t:TT} (h:PW X e t):PT X e t:=h _
def PA (X:Cx) (es:List Expr) (t:TA):Prop :=
 ∀ (pos:Pos) (pins:List (Addr × Obj)) (s:Shared) (σ:St) (H:Hp) (Q:List V→Hp→Prop),Inv X pins σ H s→t σ H Q→wpAny (model X.prog X.w) X.A (spliced (backTo pos (starEach es X.env))) (AP X pins σ Q) X.xe s
def PS (X:Cx) (st:Stmt) (t:TS):Prop :=
 ∀ (pins:List (Addr × Obj)) (s:Shared) (σ:St) (H:Hp) (D:Ends),Inv X pins σ H s→t D σ H→wpAny (model X.prog X.w) X.A (exec st X.env) (SP X pins D) X.xe s
def PSs (X:Cx) (st:List Stmt) (t:TS):Prop :=
 ∀ (pins:List (Addr × Obj)) (s:Shared) (σ:St) (H:Hp) (D:Ends),Inv X pins σ H s→t D σ H→wpAny (model X.prog X.w) X.A (execs st X.env) (SP X pins D) X.xe s
theorem thn {α:Type}{t:Sem α}{Q Q':α→Shared→Prop}{M:Model}{A:Around}{E:Value→Shared→Prop}{s:Shared} (h:wpAny M A t Q E s) (hQ:∀ a s,Q a s→Q' a s):wpAny M A t Q' E s:=wpAny_mono h hQ fun _ _ x=>x
section
variable {X:Cx}
def tVar (i:Nat):TE:=fun σ H Q=>∃ v,σ[i]?=some (some v)∧Q v H
def tC (v:V):TE:=fun _ H Q=>Q v H
theorem zam3 {i:Nat}{x:Str}{pos:Pos} (hN:X.N[i]?=some x) (hv:Vis X.env.scope x) (hd:(x == ("__debug__" : Str))=false:=by decide) (hcd:(x == ("__classdict__" : Str))=false:=by decide):PE X (.Name x pos) (tVar i):=by
 intro pins s σ H Q I h
 obtain ⟨v,e,h⟩:=h
 obtain ⟨m,hn,hl⟩:=I.loc
 obtain ⟨u,r,l⟩:=hl i x v hN e hv
 have fin:EP X pins σ Q u s:=⟨v,H,I,r,h⟩
 rcases l with ⟨hk,hm⟩ | ⟨hk,c,hc,hcell⟩
 ·exact wpAny_Name (wpAny_loadName_local I.ok.kind hk hn hm fin) hd
 ·rcases hk with hk | hk
  ·exact wpAny_Name (wpAny_loadName_cell I.ok.kind hk hc hcell fin) hd
  ·exact wpAny_Name (wpAny_loadName_free I.ok.kind hk hc hcell fin hcd) hd
theorem zam4 {i j pos}:PE X (.Constant (.int i) j pos) (tC (.int i)):=fun _ _ _ H _ I h=>wpAny_Constant_int ⟨.int i,H,I.tok _,⟨_,rfl⟩,h⟩
theorem zao5 {b j pos}:PE X (.Constant (.bool b) j pos) (tC (.bl b)):=fun _ _ _ H _ I h=>Constant_bool ⟨.bl b,H,I,rfl,h⟩
theorem zam5 {j pos}:PE X (.Constant .none j pos) (tC .non):=fun _ _ _ H _ I h=>Constant_none ⟨.non,H,I,rfl,h⟩
theorem zam6 {x j pos}:PE X (.Constant (.str x) j pos) (tC (.str x)):=fun _ _ _ H _ I h=>Calls.Constant_str ⟨.str x,H,I.tok _,⟨_,rfl⟩,h⟩
def Gl (X:Cx) (x:Str):Prop:=X.env.kindOf x=some .globalImplicit
theorem zagb {E:Value→Shared→Prop}{pins:List (Addr × Obj)}{s:Shared}{σ:St}{H:Hp}{x:Str}{u:Value}{pos:Pos}{Q:Value→Shared→Prop} (I:Inv X pins σ H s) (hg:Gl X x) (hm:X.mg x=some u) (h:Q u s)
  (hd:(x == ("__debug__" : Str))=false:=by decide):wpAny (model X.prog X.w) X.A (eval (.Name x pos) X.env) Q E s :=
 Calls.Name_function_global I.ok.kind hg (Calls.loadGlobal_global (by rw [I.ok.glob]; exact I.mod.glob.keeps I.bk) hm h) hd
theorem zaeq {E:Value→Shared→Prop}{pins:List (Addr × Obj)}{s:Shared}{σ:St}{H:Hp}{x:Str}{u:Value}{pos:Pos}{Q:Value→Shared→Prop} (I:Inv X pins σ H s) (hg:Gl X x) (hm:X.mg x=none) (hv:bootBuiltins x=some u) (h:Q u s)
  (hn:x ≠ "__name__" := by decide) (hd:(x == ("__debug__" : Str))=false:=by decide):wpAny (model X.prog X.w) X.A (eval (.Name x pos) X.env) Q E s:=by
 obtain ⟨mb,h1,h2⟩:=I.mod.blt
 exact Calls.Name_function_global I.ok.kind hg (Calls.loadGlobal_builtin (by rw [I.ok.glob]; exact I.mod.glob.keeps I.bk) hm (by rw [I.ok.blt]; exact h1.keeps I.bk) ((h2 x hn).trans hv) h) hd
theorem zalc {x:Str}{v:V}{u:Value}{pos:Pos} (hg:Gl X x) (hm:X.mg x=some u) (r:RelV v u) (hd:(x == ("__debug__" : Str))=false:=by decide):PE X (.Name x pos) (tC v) :=
 fun _ _ _ H _ I h=>zagb I hg hm ⟨v,H,I,r,h⟩ hd
theorem zald {x:Str}{v:V}{u:Value}{pos:Pos} (hg:Gl X x) (hm:X.mg x=none) (hv:bootBuiltins x=some u) (r:RelV v u) (hn:x ≠ "__name__" := by decide) (hd:(x == ("__debug__" : Str))=false:=by decide):PE X (.Name x pos) (tC v) :=
 fun _ _ _ H _ I h=>zaeq I hg hm hv ⟨v,H,I,r,h⟩ hn hd
variable {a b:Expr}{ta tb:TE}{pos:Pos}
def PC (X:Cx) (op:CmpOp) (a b:Expr) (t:TE):Prop :=
 ∀ (pins:List (Addr × Obj)) (s:Shared) (σ:St) (H:Hp) (Q:VK),Inv X pins σ H s→t σ H Q →
  wpAny (model X.prog X.w) X.A (eval a X.env) (fun v s₁=>wpAny (model X.prog X.w) X.A (eval b X.env) (fun u s₂=>wpAny (model X.prog X.w) X.A (compareOp op v u) (EP X pins σ Q) X.xe s₂) X.xe s₁) X.xe s
def tB (t:TE):TT:=fun σ H Q=>t σ H fun x H1=>∃ c,x=.bl c∧Q c H1
theorem zam7 {op:CmpOp}{t:TE} (h:PC X op a b t) (h1:behindInMarks op b=false:=by first | exact nobehind _ (by decide) (by decide) | rfl):PE X (.Compare a [op] [b] pos) t:=fun pins s σ H Q I hw=>wpAny_Compare1 (h pins s σ H Q I hw) h1
theorem zam8 {e:Expr}{t:TE} (h:PE X e t) (he:∀ whole,isTrue e X.env whole=(do let v ← whole; standAt e.pos; holding [v] (truthy v)):=by intro _; rfl):PT X e (tB t):=by
 intro pins s σ H Q I hw
 refine isTrue_plain (thn (h pins s σ H _ I hw) fun v s1 ⟨x,H1,I1,r1,q1⟩=>?_) (he _)
 obtain ⟨d,rfl,q⟩:=q1
 cases r1
 exact wpAny_truthy_bool ⟨H1,I1,q⟩
variable {tA tB':TT}{rest:List Expr}
def tAnd (t u:TT):TT:=fun σ H Q=>t σ H fun c H1=>if c=true then u σ H1 Q else Q false H1
def tOr (t u:TT):TT:=fun σ H Q=>t σ H fun c H1=>if c=true then Q true H1 else u σ H1 Q
def tNot (t:TT):TT:=fun σ H Q=>t σ H fun c H1=>Q (!c) H1
theorem zale (ha:PT X a tA):PW X (.BoolOp .And [a] pos) tA:=by
 intro wh pins s σ H Q I h
 refine isTrue_and (thn (ha pins s σ H Q I h) fun c s1 e=>?_)
 cases c with
 | true=>exact isTrue_and_nil e
 | false=>exact e
theorem zam9 (ha:PT X a tA):PW X (.BoolOp .Or [a] pos) tA:=by
 intro wh pins s σ H Q I h
 refine isTrue_or (thn (ha pins s σ H Q I h) fun c s1 e=>?_)
 cases c with
 | false=>exact isTrue_or_nil e
 | true=>exact e
theorem zana (ha:PT X a tA) (hb:PW X (.BoolOp .And (b :: rest) pos) tB'):PW X (.BoolOp .And (a :: b :: rest) pos) (tAnd tA tB'):=by
 intro wh pins s σ H Q I h
 refine isTrue_and (thn (ha pins s σ H _ I h) fun c s1 ⟨H1,I1,q1⟩=>?_)
 cases c with
 | true=>exact hb wh pins s1 σ H1 Q I1 q1
 | false=>exact ⟨H1,I1,q1⟩
theorem zao6 (ha:PT X a tA) (hb:PW X (.BoolOp .Or (b :: rest) pos) tB'):PW X (.BoolOp .Or (a :: b :: rest) pos) (tOr tA tB'):=by
 intro wh pins s σ H Q I h
 refine isTrue_or (thn (ha pins s σ H _ I h) fun c s1 ⟨H1,I1,q1⟩=>?_)
 cases c with
 | true=>exact ⟨H1,I1,q1⟩
 | false=>exact hb wh pins s1 σ H1 Q I1 q1
theorem zanb (ha:PT X a tA):PT X (.UnaryOp .Not a pos) (tNot tA):=by
 intro pins s σ H Q I h
 exact isTrue_not (ha pins s σ H (fun c H1=>Q (!c) H1) I h)
def tAndV (ta tb:TE):TE:=fun σ H Q=>ta σ H fun x H1=>∃ c,x=.bl c∧if c=true then tb σ H1 Q else Q (.bl false) H1
def tOrV (ta tb:TE):TE:=fun σ H Q=>ta σ H fun x H1=>∃ c,x=.bl c∧if c=true then Q (.bl true) H1 else tb σ H1 Q
def tNotV (ta:TE):TE:=fun σ H Q=>ta σ H fun x H1=>∃ c,x=.bl c∧Q (.bl (!c)) H1
theorem zanc {op}{t:TE} (h:PE X a t):PE X (.BoolOp op [a] pos) t:=fun pins s σ H Q I hw=>BoolOp_one (h pins s σ H Q I hw)
theorem zand (ha:PE X a ta) (hb:PE X (.BoolOp .And (b :: rest) pos) tb):PE X (.BoolOp .And (a :: b :: rest) pos) (tAndV ta tb):=by
 intro pins s σ H Q I h
 refine BoolOp_and (thn (ha pins s σ H _ I h) fun v s1 ⟨x,H1,I1,r1,q1⟩=>?_)
 obtain ⟨c,rfl,q1⟩:=q1
 cases r1
 refine wpAny_truthy_bool ?_
 cases c with
 | true=>exact hb pins s1 σ H1 Q I1 q1
 | false=>exact ⟨.bl false,H1,I1,rfl,q1⟩
theorem zao7 (ha:PE X a ta) (hb:PE X (.BoolOp .Or (b :: rest) pos) tb):PE X (.BoolOp .Or (a :: b :: rest) pos) (tOrV ta tb):=by
 intro pins s σ H Q I h
 refine BoolOp_or (thn (ha pins s σ H _ I h) fun v s1 ⟨x,H1,I1,r1,q1⟩=>?_)
 obtain ⟨c,rfl,q1⟩:=q1
 cases r1
 refine wpAny_truthy_bool ?_
 cases c with
 | false=>exact hb pins s1 σ H1 Q I1 q1
 | true=>exact ⟨.bl true,H1,I1,rfl,q1⟩
theorem zane (ha:PE X a ta):PE X (.UnaryOp .Not a pos) (tNotV ta):=by
 intro pins s σ H Q I h
 refine UnaryOp_ (thn (ha pins s σ H _ I h) fun v s1 ⟨x,H1,I1,r1,q1⟩=>?_)
 obtain ⟨c,rfl,q1⟩:=q1
 cases r1
 exact not_of (wpAny_truthy_bool ⟨.bl (!c),H1,I1,rfl,q1⟩)
def tIf (t:TT) (ta tb:TE):TE:=fun σ H Q=>t σ H fun c H1=>if c=true then ta σ H1 Q else tb σ H1 Q
theorem zaj0 {c:Expr} (hc:PT X c tA) (ha:PE X a ta) (hb:PE X b tb):PE X (.IfExp c a b pos) (tIf tA ta tb):=by
 intro pins s σ H Q I h
 refine wpAny_IfExp (thn (hc pins s σ H _ I h) fun d s1 ⟨H1,I1,q1⟩=>?_)
 cases d with
 | true=>exact ha pins s1 σ H1 Q I1 q1
 | false=>exact hb pins s1 σ H1 Q I1 q1
end
def SqL (K:PySem.W.Frag) (H:Hp) (a:Addr) (xs:List V):Prop :=
 Rd H a (.lst xs) ∨
  ∃ (o:Obj) (its:Array Value) (n:Nat),K.lookup a=some o∧o.cls=.type "list" ∧ o.dict=none∧o.data=.seq its n∧its.size≤sizeLine∧Vals xs its.toList
def SqT (K:PySem.W.Frag) (H:Hp) (a:Addr) (xs:List V):Prop :=
 Rd H a (.tup xs) ∨
  ∃ (o:Obj) (its:Array Value) (n:Nat),K.lookup a=some o∧o.cls=.type "tuple" ∧ o.data=.seq its n∧its.size≤sizeLine∧Vals xs its.toList
def absV:Value→Option V
 | .none=>some .non
 | .bool b=>some (.bl b)
 | .int i _=>some (.int i)
 | .str x _=>some (.str x)
 | .bytes b _=>some (.byt b)
 | .float b _=>some (.flt b)
 | .ref a=>some (.ref a)
 | .type n=>some (.ty n)
 | _=>none
theorem RelV.abs {x:V}{u:Value} (r:RelV x u):absV u=some x:=by
 cases x with
 | non=>cases r; rfl
 | bl _=>cases r; rfl
 | int _=>obtain ⟨t,rfl⟩:=r; rfl
 | str _=>obtain ⟨t,rfl⟩:=r; rfl
 | byt _=>obtain ⟨t,rfl⟩:=r; rfl
 | flt _=>obtain ⟨t,rfl⟩:=r; rfl
 | ref _=>cases r; rfl
 | ty _=>cases r; rfl
theorem RelV.inj {x y:V}{u:Value} (r:RelV x u) (q:RelV y u):x=y:=Option.some.inj (r.abs.symm.trans q.abs)
theorem Vals.inj:∀ {xs ys:List V}{us:List Value},Vals xs us→Vals ys us→xs=ys
 | _,_,_,.nil,.nil=>rfl
 | _,_,_,.cons r t,.cons r' t'=>by rw [r.inj r',Vals.inj t t']
section
variable {X:Cx}{pins:List (Addr × Obj)}{σ:St}{H:Hp}{s:Shared}{a:Addr}{xs ys:List V}
theorem SqL.of {K:PySem.W.Frag} (h:H a=some (.lst xs)):SqL K H a xs:=.inl (.inl h)
theorem SqT.of {K:PySem.W.Frag} (h:H a=some (.tup xs)):SqT K H a xs:=.inl (.inl h)
theorem Inv.list (I:Inv X pins σ H s) (h:SqL X.K H a xs):∃ its:List Value,Vals xs its∧PlainL s.heap a its.toArray∧xs.length≤sizeLine:=by
 rcases h with h | ⟨o,its,n,hk,hc,hd,hs,hz,r⟩
 ·obtain ⟨z,its,n,r,e⟩:=h.ok I.hok
  exact ⟨its,r,⟨_,n,e,rfl,rfl,rfl⟩,z⟩
 ·refine ⟨its.toList,r,⟨o,n,I.kIn a o hk,hc,hd,by simpa using hs⟩,?_⟩
  have e:=r.length
  simp only [Array.length_toList] at e
  omega
theorem Inv.tuple (I:Inv X pins σ H s) (h:SqT X.K H a xs):∃ its:List Value,Vals xs its∧IsTup s.heap a its.toArray∧xs.length≤sizeLine:=by
 rcases h with h | ⟨o,its,n,hk,hc,hs,hz,r⟩
 ·obtain ⟨z,its,r,p⟩:=h.ok I.hok
  exact ⟨its,r,p,z⟩
 ·refine ⟨its.toList,r,⟨o,I.kIn a o hk,hc,n,by simpa using hs⟩,?_⟩
  have e:=r.length
  simp only [Array.length_toList] at e
  omega
theorem Inv.list_inj (I:Inv X pins σ H s) (h:SqL X.K H a xs) (h':SqL X.K H a ys):xs=ys:=by
 obtain ⟨its,r,⟨o,n,e,_,_,d⟩,_⟩:=I.list h
 obtain ⟨its',r',⟨o',n',e',_,_,d'⟩,_⟩:=I.list h'
 rw [e] at e'; cases e'
 rw [d] at d'
 injection d' with d1 _
 have:its=its':=by simpa using congrArg Array.toList d1
 subst this
 exact r.inj r'
theorem Inv.tuple_inj (I:Inv X pins σ H s) (h:SqT X.K H a xs) (h':SqT X.K H a ys):xs=ys:=by
 obtain ⟨its,r,⟨o,e,_,n,d⟩,_⟩:=I.tuple h
 obtain ⟨its',r',⟨o',e',_,n',d'⟩,_⟩:=I.tuple h'
 rw [e] at e'; cases e'
 rw [d] at d'
 injection d' with d1 _
 have:its=its':=by simpa using congrArg Array.toList d1
 subst this
 exact r.inj r'
end
abbrev Cx.wish (X:Cx) (E:Value→Shared→Prop):Cx:={ X with xe:=E }
abbrev Cx.nox (X:Cx):Cx:=X.wish fun _ _=>False
theorem Cx.Ok.wish {X:Cx} (ok:X.Ok) (E:Value→Shared→Prop):(X.wish E).Ok :=
 ⟨ok.mod,ok.kind,ok.glob,ok.blt,ok.above,ok.inj,ok.has,ok.cab,ok.hd,ok.frames,ok.stk,ok.exf,ok.bs,ok.bsz,ok.noex,ok.exfs,ok.funs,ok.frf⟩
theorem Cx.Ok.unwish {X:Cx}{E:Value→Shared→Prop} (ok:(X.wish E).Ok):X.Ok :=
 ⟨ok.mod,ok.kind,ok.glob,ok.blt,ok.above,ok.inj,ok.has,ok.cab,ok.hd,ok.frames,ok.stk,ok.exf,ok.bs,ok.bsz,ok.noex,ok.exfs,ok.funs,ok.frf⟩
section
variable {X:Cx}{pins:List (Addr × Obj)}{σ:St}{H:Hp}{s:Shared}{E:Value→Shared→Prop}
theorem Inv.wish (I:Inv X pins σ H s) (E:Value→Shared→Prop):Inv (X.wish E) pins σ H s:=⟨I.ok.wish E,I.os,I.bare,I.base,I.loc,I.cell,I.free,I.freeC,I.pin,I.hok,I.len⟩
theorem Inv.unwish (I:Inv (X.wish E) pins σ H s):Inv X pins σ H s:=⟨I.ok.unwish,I.os,I.bare,I.base,I.loc,I.cell,I.free,I.freeC,I.pin,I.hok,I.len⟩
theorem SP.unwish {D:Ends}{f:Flow}{s':Shared} (h:SP (X.wish E) pins D f s'):SP X pins D f s':=by
 cases f with
 | next=>obtain ⟨σ',H',I,q⟩:=h; exact ⟨σ',H',I.unwish,q⟩
 | brk=>obtain ⟨σ',H',I,q⟩:=h; exact ⟨σ',H',I.unwish,q⟩
 | cont=>obtain ⟨σ',H',I,q⟩:=h; exact ⟨σ',H',I.unwish,q⟩
 | ret u=>obtain ⟨v,σ',H',I,r,q⟩:=h; exact ⟨v,σ',H',I.unwish,r,q⟩
theorem PSs.nox {st:List Stmt}{t:TS} (h:PSs X.nox st t):PSs X st t:=fun pins s σ H D I hw =>
 wpAny_mono (h pins s σ H D (I.wish _) hw) (fun _ _ q=>q.unwish) fun _ _ z=>False.elim z
end
section
variable {X:Cx}{st:Stmt}{rest:List Stmt}{t u:TS}{e:Expr}{te:TE}{pos:Pos}
def tNext:TS:=fun D σ H=>D.nx σ H
def tSeq (t u:TS):TS:=fun D σ H=>t { D with nx:=u D } σ H
theorem zalf:PSs X [] tNext:=fun _ _ σ H _ I h=>wpAny_execs_nil ⟨σ,H,I,h⟩
theorem zag6 (h1:PS X st t) (h2:PSs X rest u):PSs X (st :: rest) (tSeq t u):=by
 intro pins s σ H D I h
 refine wpAny_execs_cons (thn (h1 pins s σ H { D with nx:=u D } I h) fun f s1 q=>?_)
 cases f with
 | next =>
  obtain ⟨σ',H',I',q⟩:=q
  exact h2 pins s1 σ' H' D I' q
 | ret v=>exact q
 | brk=>exact q
 | cont=>exact q
theorem zalg (h1:PS X st t):PSs X [st] t:=by
 intro pins s σ H D I h
 refine wpAny_execs_cons (thn (h1 pins s σ H D I h) fun f s1 q=>?_)
 cases f with
 | next=>exact wpAny_execs_nil q
 | ret v=>exact q
 | brk=>exact q
 | cont=>exact q
def tCont:TS:=fun D σ H=>D.ct σ H
theorem zagc:PS X (.Continue pos) tCont:=fun _ _ σ H _ I h=>wpAny_Continue ⟨σ,H,I,h⟩
theorem Inv.quiet {pins:List (Addr × Obj)}{σ:St}{H:Hp}{s:Shared} (I:Inv X pins σ H s):interactive X.env=false:=by simp [interactive,I.ok.kind]
def tDrop (te:TE):TS:=fun D σ H=>te σ H fun _ H1=>D.nx σ H1
theorem zalh (he:PE X e te) (hs:swapsWith e none pos.line X.env=pure false:=by rfl):PS X (.Expr e pos) (tDrop te):=by
 intro pins s σ H D I h
 exact wpAny_Expr_any (thn (he pins s σ H _ I h) fun v s1 ⟨x,H1,I1,r1,q1⟩=>⟨σ,H1,I1,q1⟩) I.quiet hs
def tRet (te:TE):TS:=fun D σ H=>te σ H D.rt
theorem zanf (he:PE X e te):PS X (.Return (some e) pos) (tRet te):=by
 intro pins s σ H D I h
 exact wpAny_Return_some (thn (he pins s σ H _ I h) fun v s1 ⟨x,H1,I1,r1,q1⟩=>⟨x,σ,H1,I1,r1,q1⟩)
def tIfS (c:TT) (t u:TS):TS:=fun D σ H=>c σ H fun b H1=>if b=true then t D σ H1 else u D σ H1
theorem zao8 {c:Expr}{a b:List Stmt}{tc:TT} (hc:PT X c tc) (ha:PSs X a t) (hb:PSs X b u):PS X (.If c a b pos) (tIfS tc t u):=by
 intro pins s σ H D I h
 refine wpAny_If (thn (hc pins s σ H _ I h) fun d s1 ⟨H1,I1,q1⟩=>?_)
 cases d with
 | true=>exact ha pins s1 σ H1 D I1 q1
 | false=>exact hb pins s1 σ H1 D I1 q1
def tNever:TS:=fun _ _ _=>False
theorem zaj1:PS X st tNever:=fun _ _ _ _ _ _ h=>h.elim
end
abbrev TG:=V→St→Hp→(St→Hp→Prop)→Prop
abbrev TGs:=List V→St→Hp→(St→Hp→Prop)→Prop
def PG (X:Cx) (target:Expr) (t:TG):Prop :=
 ∀ (pins:List (Addr × Obj)) (s:Shared) (σ:St) (H:Hp) (v:V) (u:Value) (Q:St→Hp→Prop),Inv X pins σ H s→RelV v u→t v σ H Q →
  wpAny (model X.prog X.w) X.A (assign target X.env u) (fun _ s'=>∃ σ' H',Inv X pins σ' H' s'∧Q σ' H') X.xe s
def PGs (X:Cx) (ts:List Expr) (t:TGs):Prop :=
 ∀ (pins:List (Addr × Obj)) (s:Shared) (σ:St) (H:Hp) (vs:List V) (us:List Value) (Q:St→Hp→Prop),Inv X pins σ H s→Vals vs us→t vs σ H Q →
  wpAny (model X.prog X.w) X.A (assignInOrder ((assignEach ts X.env).map (·.2)) us) (fun _ s'=>∃ σ' H',Inv X pins σ' H' s'∧Q σ' H') X.xe s
abbrev TSet:=V→V→V→Hp→(Hp→Prop)→Prop
def PSet (X:Cx) (t:TSet):Prop :=
 ∀ (pins:List (Addr × Obj)) (s:Shared) (σ:St) (H:Hp) (o i v:V) (ov iv u:Value) (Q:Hp→Prop),Inv X pins σ H s→RelV o ov→RelV i iv→RelV v u→t o i v H Q →
  wpAny (model X.prog X.w) X.A (setItem ov iv u) (fun _ s'=>∃ H',Inv X pins σ H' s'∧Q H') X.xe s
section
variable {X:Cx}{pos:Pos}
def gName (i:Nat):TG:=fun v σ H Q=>Q (σ.set i (some v)) H
theorem zali {i:Nat}{x:Str} (hN:X.N.Nodup) (hi:X.N[i]?=some x) (hx:Loc X.env.scope x) (hf:X.fn x=true∨X.env.scope.names.lookup x=some .local:=by first | exact .inl rfl | exact .inr rfl | assumption):PG X (.Name x pos) (gName i):=by
 intro pins s σ H v u Q I r h
 exact wpAny_assign_Name (zag5 I hN hi hx r (fun s' I'=>⟨_,H,I',h⟩) hf)
def gNil:TGs:=fun vs σ H Q=>vs=[]∧Q σ H
def gCons (t:TG) (u:TGs):TGs:=fun vs σ H Q=>∃ v r,vs=v :: r∧t v σ H fun σ' H'=>u r σ' H' Q
theorem zalj:PGs X [] gNil:=by
 intro pins s σ H vs us Q I r h
 obtain ⟨e,h⟩:=h
 subst e
 cases r
 exact assignInOrder_nil ⟨σ,H,I,h⟩
theorem zaj2 {e:Expr}{es:List Expr}{t:TG}{u:TGs} (h1:PG X e t) (h2:PGs X es u)
  (hs:(assignEach (e :: es) X.env).map (·.2)=assign e X.env :: (assignEach es X.env).map (·.2):=by rfl):PGs X (e :: es) (gCons t u):=by
 intro pins s σ H vs us Q I r h
 obtain ⟨v,vr,e1,h⟩:=h
 subst e1
 cases r with
 | cons r rr =>
  rw [hs]
  refine assignInOrder_cons (thn (h1 pins s σ H _ _ _ I r h) fun _ s1 ⟨σ1,H1,I1,q1⟩=>?_)
  exact h2 pins s1 σ1 H1 _ _ Q I1 rr q1
def gTup (K:PySem.W.Frag) (n:Nat) (t:TGs):TG:=fun v σ H Q=>∃ a xs,v=.ref a∧SqT K H a xs∧xs.length=n∧t xs σ H Q
theorem zak0 {es:List Expr}{k:Nat}{t:TGs}{n:Nat} (hc:X.calm=true) (h:PGs X es t)
  (hn:(assignEach es X.env).length=n:=by rfl) (hst:(assignEach es X.env).findIdx? (·.1)=none:=by rfl):PG X (.Tuple es k pos) (gTup X.K n t):=by
 intro pins s σ H v u Q I r hw
 obtain ⟨a,xs,e1,hq,hl,hw⟩:=hw
 subst e1
 cases r
 obtain ⟨its,rv,ht,hz⟩:=I.tuple hq
 refine assign_Tuple_tuple (I.ok.hd hc) ht (by simp [hn,← hl,rv.length]) hst fun h' hx=>?_
 have I1:Inv X pins σ H { s with heap:=h' }:=I.kept (t':=s.toks) fun b o e=>hx b o (Nat.ne_of_lt (Heap.lt_size e)) e
 exact h pins _ σ H xs _ Q I1 (by simpa using rv) hw
def gSub (to ti:TE) (t:TSet):TG:=fun v σ H Q=>to σ H fun o H1=>ti σ H1 fun i H2=>t o i v H2 fun H3=>Q σ H3
theorem zang {o i:Expr}{to ti:TE}{t:TSet} (ho:PE X o to) (hi:PE X i ti) (hs:PSet X t)
  (ha:∀ v,assign (.Subscript o i pos) X.env v=(do
   let ov ← holding [v] (eval o X.env)
   let iv ← holding [v,ov] (eval i X.env)
   standAt pos
   holding [v,ov,iv] (setItem ov iv v)
   release [v,ov,iv] []):=by intro _; rfl):PG X (.Subscript o i pos) (gSub to ti t):=by
 intro pins s σ H v u Q I r h
 rw [ha]
 refine wpAny_bind (wpAny_holding (thn (ho pins s σ H _ I h) fun ov s1 ⟨x,H1,I1,r1,q1⟩=>?_))
 refine wpAny_bind (wpAny_holding (thn (hi pins s1 σ H1 _ I1 q1) fun iv s2 ⟨y,H2,I2,r2,q2⟩=>?_))
 refine wpAny_bind (wpAny_standAt (wpAny_bind (wpAny_holding (thn (hs pins s2 σ H2 x y v ov iv u _ I2 r1 r2 r q2) fun _ s3 ⟨H3,I3,q3⟩=>?_))))
 exact wpAny_release ⟨σ,H3,I3,q3⟩
def tAsg (te:TE) (g:TG):TS:=fun D σ H=>te σ H fun x H1=>g x σ H1 D.nx
theorem zanh {tg e:Expr}{te:TE}{g:TG} (he:PE X e te) (hg:PG X tg g) (hs:swapsWithSole [tg] e pos.line X.env=pure false:=by rfl) (hw:swappedStores [tg] e X.env=pure none:=by rfl)
  (h1:(assignEach [tg] X.env).map (·.2)=[assign tg X.env]:=by rfl):PS X (.Assign [tg] e pos) (tAsg te g):=by
 intro pins s σ H D I h
 refine wpAny_Assign_stores (thn (he pins s σ H _ I h) fun v s1 ⟨x,H1,I1,r1,q1⟩=>?_) hs hw
 rw [h1]
 exact thn (hg pins s1 σ H1 x v _ I1 r1 q1) fun _ s2 q=>q
theorem zani {i:Nat}{x:Str}{e:Expr}{te:TE}{pos':Pos} (hN:X.N.Nodup) (hi:X.N[i]?=some x) (hx:Loc X.env.scope x) (he:PE X e te) (hs:swapsWith e (some (.Name x pos')) pos.line X.env=pure false:=by rfl) (hf:X.fn x=true∨X.env.scope.names.lookup x=some .local:=by first | exact .inl rfl | exact .inr rfl | assumption) :
  PS X (.Assign [.Name x pos'] e pos) (tAsg te (gName i)):=by
 intro pins s σ H D I h
 refine wpAny_Assign_Name (thn (he pins s σ H _ I h) fun v s1 ⟨y,H1,I1,r1,q1⟩=>?_) hs
 exact zag5 I1 hN hi hx r1 (fun s2 I2=>⟨_,H1,I2,q1⟩) hf
end
structure It where
 go:Nat→Hp→Prop
 yld:Nat→Hp→V→Hp→Prop
 stop:Nat→Hp→Prop
def FpOk (X:Cx) (pins:List (Addr × Obj)) (H:Hp) (b:Addr):Prop :=
 H b=none∧b≠X.env.locals∧b ∉ X.fs∧(b∈X.ex∨X.s₀.heap.objs.size≤b)∧(∀ x c,X.env.cells.lookup x=some c→c≠b)∧∀ p∈X.pn++pins,p.1≠b
theorem Inv.fpOk {X:Cx}{pins:List (Addr × Obj)}{σ:St}{H H':Hp}{s:Shared}{b:Addr} (I:Inv X pins σ H s) (hb:s.heap.objs.size≤b) (hn:H' b=none):FpOk X pins H' b:=by
 refine ⟨hn,Nat.ne_of_gt (Nat.lt_of_lt_of_le I.lt hb),I.nofs hb,.inr (Nat.le_trans I.sz hb),fun x c e z=>?_,fun p hp z=>?_⟩
 ·obtain ⟨v,q⟩:=I.cell x c e
  exact absurd (Nat.lt_of_lt_of_le q.lt (by rw [z]; exact hb)) (Nat.lt_irrefl _)
 ·exact absurd (Nat.lt_of_lt_of_le (Heap.lt_size (I.pin p hp).1) (by rw [z]; exact hb)) (Nat.lt_irrefl _)
structure Turn (P:Program) (w:World) (K:PySem.W.Frag) (tg:Expr) (J:It) (fp:List Addr) (it:Addr) (tn:Nat→Heap→Prop):Prop where
 mem:it∈fp
 obj:∀ i h,tn i h→∀ b∈fp,∃ o,h.get? b=some o∧∀ v,o.data≠.cell v
 keep:∀ i h h',tn i h→(∀ b∈fp,∀ o,h.get? b=some o→h'.get? b=some o)→tn i h'
 item:∀ (X:Cx),X.prog=P→X.w=w→X.K=K→X.calm=true→∀ (i:Nat) (pins:List (Addr × Obj)) (s:Shared) (σ:St) (H:Hp) (E:Value→Shared→Prop),Inv X pins σ H s→(∀ b∈fp,FpOk X pins H b)→tn i s.heap→J.go i H →
  wpAny (model P w) X.A (pyNext (.ref it)) (fun r s1=>∃ u,r=some u ∧
   wpAny (model P w) X.A (letOwnedTupleGo tg (.ref it) u) (fun _ s2=>∃ x H',Inv X pins σ H' s2∧RelV x u∧J.yld i H x H'∧tn (i + 1) s2.heap∧∀ b∈fp,H' b=none) E s1) E s
 done:∀ (X:Cx),X.prog=P→X.w=w→X.K=K→X.calm=true→∀ (i:Nat) (pins:List (Addr × Obj)) (s:Shared) (σ:St) (H:Hp) (E:Value→Shared→Prop),Inv X pins σ H s→(∀ b∈fp,FpOk X pins H b)→tn i s.heap→J.stop i H →
  wpAny (model P w) X.A (pyNext (.ref it)) (fun r s1=>r=none∧Inv X pins σ H s1) E s
 self:∀ (A:Around) (i:Nat) (s:Shared) (Q:Value→Shared→Prop) (E:Value→Shared→Prop),tn i s.heap→Q (.ref it) s→wpAny (model P w) A (pyIter (.ref it)) Q E s
abbrev TI:=St→Hp→(It→Hp→Prop)→Prop
def PIE (X:Cx) (pins:List (Addr × Obj)) (σ:St) (tg:Expr) (R:It→Hp→Prop) (itv:Value) (s2:Shared):Prop :=
 ∃ (it:Addr) (fp:List Addr) (tn:Nat→Heap→Prop) (J:It) (H':Hp),itv=.ref it∧Inv X pins σ H' s2∧Turn X.prog X.w X.K tg J fp it tn∧tn 0 s2.heap∧(∀ b∈fp,FpOk X pins H' b)∧R J H'
def PI (X:Cx) (tg iter:Expr) (wi:TI):Prop :=
 ∀ (pins:List (Addr × Obj)) (s:Shared) (σ:St) (H:Hp) (R:It→Hp→Prop),Inv X pins σ H s→wi σ H R →
  wpAny (model X.prog X.w) X.A (eval iter X.env) (fun v s1=>wpAny (model X.prog X.w) X.A (pyIter v) (PIE X pins σ tg R) X.xe s1) X.xe s
theorem zalk {M:Model}{A:Around}{E:Value→Shared→Prop}{s:Shared}{tg:Expr}{it:Addr}{u:Value}{o:Obj}{n:String}{vs:Array Value}{Q:Unit→Shared→Prop} (ho:s.heap.get? it=some o) (hc:o.cls=.type n) (hd:o.data=.fields vs)
  (hn:["enumerate", "zip", "dict_itemiterator", "dict_reverseitemiterator", "odict_iterator", "itertools.zip_longest", "itertools.pairwise"].contains n=false) (hQ:Q () s):wpAny M A (letOwnedTupleGo tg (.ref it) u) Q E s:=by
 unfold letOwnedTupleGo
 cases tg <;> first
  | exact wpAny_pure hQ
  | (cases u <;> first
    | exact wpAny_pure hQ
    | (refine wpAny_bind (wpAny_load ho ?_)
       rw [hc,hd]
       show wpAny M A (if (["enumerate", "zip", "dict_itemiterator", "dict_reverseitemiterator", "odict_iterator", "itertools.zip_longest", "itertools.pairwise"].contains n && vs[0]? == some (rawInt _))=true then _ else _) Q E s
       rw [if_neg (by intro h; rw [hn,Bool.false_and] at h; cases h)]
       exact wpAny_pure hQ))
def Itl (K:PySem.W.Frag) (a:Addr):It :=
 ⟨fun i H=>∃ xs x,SqL K H a xs∧xs[i]?=some x,fun i H x H'=>H'=H∧∀ xs,SqL K H a xs→xs[i]?=some x,fun i H=>∃ xs,SqL K H a xs∧xs.length≤i⟩
def Itt (K:PySem.W.Frag) (a:Addr):It :=
 ⟨fun i H=>∃ xs x,SqT K H a xs∧xs[i]?=some x,fun i H x H'=>H'=H∧∀ xs,SqT K H a xs→xs[i]?=some x,fun i H=>∃ xs,SqT K H a xs∧xs.length≤i⟩
def Itr (lo:Int) (n:Nat):It:=⟨fun i _=>i < n,fun i H x H'=>H'=H∧x=.int (lo + i),fun i _=>n≤i⟩
theorem zah4 {P:Program}{w:World}{K:PySem.W.Frag}{tg:Expr} (a it:Addr):Turn P w K tg (Itl K a) [it] it (fun i h=>h.IsListIter it a i) where
 mem:=by simp
 obj:=fun i h st b hb=>by
  have e:b=it:=by simpa using hb
  subst e
  obtain ⟨o,e,c,d⟩:=st
  exact ⟨o,e,fun v z=>by rw [d] at z; cases z⟩
 keep:=fun i h h' st k=>st.at fun o e=>k it (by simp) o e
 item:=by
  intro X hP hw hK hc i pins s σ H E I hf st hg
  subst hP hw hK
  obtain ⟨xs,x,hq,hx⟩:=hg
  obtain ⟨its,rv,p,hz⟩:=I.list hq
  obtain ⟨u,hu,ru⟩:=rv.get hx
  obtain ⟨f0,f1,f2,f3,f4,f5⟩:=hf it (by simp)
  refine wpAny_pyNext_list_item st p.isList (x:=u) (by simpa using hu) fun h' st' sb=>?_
  have I1:Inv X pins σ H { s with heap:=h' }:=I.turned (t':=s.toks) (fun b o hb e=>(sb.2 b hb).trans e) f0 f1 f3 f4 f5
  obtain ⟨o,e,c,d⟩:=id st'
  exact ⟨u,rfl,zalk (s:={ s with heap:=h' }) e c d (by decide) ⟨x,H,I1,ru,⟨rfl,fun ys hy=>by rw [I.list_inj hy hq]; exact hx⟩,st',fun b hb=>(hf b hb).1⟩⟩
 done:=by
  intro X hP hw hK hc i pins s σ H E I hf st hg
  subst hP hw hK
  obtain ⟨xs,hq,hx⟩:=hg
  obtain ⟨its,rv,p,hz⟩:=I.list hq
  obtain ⟨f0,f1,f2,f3,f4,f5⟩:=hf it (by simp)
  have hl:=rv.length
  exact wpAny_pyNext_list_end (I.ok.hd hc) st p.isList (by simp; omega) fun h' eb=>⟨rfl,I.turned (t':=s.toks) (fun b o hb e=>eb b o hb e) f0 f1 f3 f4 f5⟩
 self:=fun _ _ _ _ _ st h=>wpAny_pyIter_listiter st h
theorem zahl {P:Program}{w:World}{K:PySem.W.Frag}{tg:Expr} (a it:Addr):Turn P w K tg (Itt K a) [it] it (fun i h=>h.IsTupleIter it a i) where
 mem:=by simp
 obj:=fun i h st b hb=>by
  have e:b=it:=by simpa using hb
  subst e
  obtain ⟨o,e,c,d⟩:=st
  exact ⟨o,e,fun v z=>by rw [d] at z; cases z⟩
 keep:=fun i h h' st k=>st.at fun o e=>k it (by simp) o e
 item:=by
  intro X hP hw hK hc i pins s σ H E I hf st hg
  subst hP hw hK
  obtain ⟨xs,x,hq,hx⟩:=hg
  obtain ⟨its,rv,p,hz⟩:=I.tuple hq
  obtain ⟨u,hu,ru⟩:=rv.get hx
  obtain ⟨f0,f1,f2,f3,f4,f5⟩:=hf it (by simp)
  refine wpAny_pyNext_tuple_item st (show s.heap.IsTuple a its.toArray from p) (x:=u) (by simpa using hu) fun h' st' sb=>?_
  have I1:Inv X pins σ H { s with heap:=h' }:=I.turned (t':=s.toks) (fun b o hb e=>(sb.2 b hb).trans e) f0 f1 f3 f4 f5
  obtain ⟨o,e,c,d⟩:=id st'
  exact ⟨u,rfl,zalk (s:={ s with heap:=h' }) e c d (by decide) ⟨x,H,I1,ru,⟨rfl,fun ys hy=>by rw [I.tuple_inj hy hq]; exact hx⟩,st',fun b hb=>(hf b hb).1⟩⟩
 done:=by
  intro X hP hw hK hc i pins s σ H E I hf st hg
  subst hP hw hK
  obtain ⟨xs,hq,hx⟩:=hg
  obtain ⟨its,rv,p,hz⟩:=I.tuple hq
  obtain ⟨f0,f1,f2,f3,f4,f5⟩:=hf it (by simp)
  have hl:=rv.length
  exact wpAny_pyNext_tuple_end (I.ok.hd hc) st (show s.heap.IsTuple a its.toArray from p) (by simp; omega) fun h' eb=>⟨rfl,I.turned (t':=s.toks) (fun b o hb e=>eb b o hb e) f0 f1 f3 f4 f5⟩
 self:=fun _ _ _ _ _ st h=>wpAny_pyIter_tupleiter st h
theorem zahm {P:Program}{w:World}{K:PySem.W.Frag}{tg:Expr} (it:Addr) (lo:Int) (n:Nat):Turn P w K tg (Itr lo n) [it] it (fun i h=>IsRangeIter h it (lo + (i:Nat) * 1) ((n:Int) - (i:Nat)) 1) where
 mem:=by simp
 obj:=fun i h st b hb=>by
  have e:b=it:=by simpa using hb
  subst e
  exact ⟨_,st,fun v z=>by
   have z':Data.fields _=Data.cell v:=z
   cases z'⟩
 keep:=fun i h h' st k=>k it (by simp) _ st
 item:=by
  intro X hP hw hK hc i pins s σ H E I hf st hg
  subst hP hw hK
  obtain ⟨f0,f1,f2,f3,f4,f5⟩:=hf it (by simp)
  have W:=Walks.range (prog:=X.prog) (w:=X.w) (I.ok.hd hc) it lo 1 n
  refine W.item i s _ _ hg st fun v h' tk hv st' kk=>?_
  obtain ⟨t,rfl⟩:=hv
  have I1:Inv X pins σ H { s with heap:=h',toks:=tk }:=I.turned (fun b o hb e=>kk b o (by simpa using hb) e) f0 f1 f3 f4 f5
  refine ⟨_,rfl,zalk (s:={ s with heap:=h',toks:=tk }) (n := "range_iterator") st' rfl rfl (by decide) ⟨.int (lo + i),H,I1,⟨t,?_⟩,⟨rfl,rfl⟩,st',fun b hb=>(hf b hb).1⟩⟩
  rw [Int.mul_one]
 done:=by
  intro X hP hw hK hc i pins s σ H E I hf st hg
  subst hP hw hK
  obtain ⟨f0,f1,f2,f3,f4,f5⟩:=hf it (by simp)
  exact wpAny_pyNext_range_end (I.ok.hd hc) st (by have:n≤i:=hg; omega) fun h' eb=>⟨rfl,I.turned (t':=s.toks) (fun b o hb e=>eb b o hb e) f0 f1 f3 f4 f5⟩
 self:=fun _ _ _ _ _ st h=>wpAny_pyIter_rangeiter st h
section
variable {X:Cx}{tg:Expr}
def iList (K:PySem.W.Frag) (tl:TE):TI:=fun σ H R=>tl σ H fun x H1=>∃ a,x=.ref a∧(∃ xs,SqL K H1 a xs)∧R (Itl K a) H1
def iTup (K:PySem.W.Frag) (tl:TE):TI:=fun σ H R=>tl σ H fun x H1=>∃ a,x=.ref a∧(∃ xs,SqT K H1 a xs)∧R (Itt K a) H1
theorem zah5 {l:Expr}{tl:TE} (hl:PE X l tl):PI X tg l (iList X.K tl):=by
 intro pins s σ H R I h
 refine thn (hl pins s σ H _ I h) fun v s1 ⟨x,H1,I1,r1,q1⟩=>?_
 obtain ⟨a,e,⟨xs,hq⟩,q⟩:=q1
 subst e
 cases r1
 obtain ⟨its,rv,p,hz⟩:=I1.list hq
 refine wpAny_pyIter_list p.isList ?_
 refine ⟨s1.heap.objs.size,[s1.heap.objs.size],_,_,H1,rfl,I1.kept (t':=s1.toks) fun b o e=>Heap.get?_push_of_some _ e,zah4 a _,⟨_,Heap.get?_push_size _ rfl,rfl,rfl⟩,fun b hb=>?_,q⟩
 have e:b=s1.heap.objs.size:=by simpa using hb
 subst e
 exact I1.fpOk (Nat.le_refl _) (I1.hok.fresh (Nat.le_refl _))
theorem zak1 {l:Expr}{tl:TE} (hl:PE X l tl):PI X tg l (iTup X.K tl):=by
 intro pins s σ H R I h
 refine thn (hl pins s σ H _ I h) fun v s1 ⟨x,H1,I1,r1,q1⟩=>?_
 obtain ⟨a,e,⟨xs,hq⟩,q⟩:=q1
 subst e
 cases r1
 obtain ⟨its,rv,p,hz⟩:=I1.tuple hq
 refine wpAny_pyIter_tuple (show s1.heap.IsTuple a its.toArray from p) ?_
 refine ⟨s1.heap.objs.size,[s1.heap.objs.size],_,_,H1,rfl,I1.kept (t':=s1.toks) fun b o e=>Heap.get?_push_of_some _ e,zahl a _,⟨_,Heap.get?_push_size _ rfl,rfl,rfl⟩,fun b hb=>?_,q⟩
 have e:b=s1.heap.objs.size:=by simpa using hb
 subst e
 exact I1.fpOk (Nat.le_refl _) (I1.hok.fresh (Nat.le_refl _))
theorem zaj3 {pins:List (Addr × Obj)}{σ:St}{H:Hp}{s:Shared}{R:It→Hp→Prop}{E:Value→Shared→Prop}{lo hi:Int}{t u v:Tok}{tk:Nat} (I:Inv X pins σ H s) (h1:-(2 ^ 62)≤lo) (h2:lo < 2 ^ 62) (h3:-(2 ^ 62)≤hi) (h4:hi < 2 ^ 62)
  (q:R (Itr lo (hi - lo).toNat) H):wpAny (model X.prog X.w) X.A (pyIter (.ref s.heap.objs.size)) (PIE X pins σ tg R) E { s with heap:=s.heap.push { cls:=.type "range",data:=.fields #[.int lo t,.int hi u,.int 1 v] },toks:=tk }:=by
 refine wpAny_pyIter_range (IsRange.new ..) (small_one h1 h2 h3 h4) ?_
 have I1:Inv X pins σ H { s with heap:=s.heap.push { cls:=.type "range",data:=.fields #[.int lo t,.int hi u,.int 1 v] },toks:=tk }:=I.kept fun b o e=>Heap.get?_push_of_some _ e
 refine ⟨(s.heap.push { cls:=.type "range",data:=.fields #[.int lo t,.int hi u,.int 1 v] }).objs.size,[(s.heap.push { cls:=.type "range",data:=.fields #[.int lo t,.int hi u,.int 1 v] }).objs.size],_,_,H,rfl,
  I1.kept (t':=tk) fun b o e=>Heap.get?_push_of_some _ e,zahm _ lo (hi - lo).toNat,?_,fun b hb=>?_,q⟩
 ·have e1:lo + ((0:Nat):Int) * 1=lo:=by simp
  have e2:(((hi - lo).toNat:Nat):Int) - ((0:Nat):Int)=Builtin.Range.rangeSize lo hi 1:=by rw [rangeSize_one]; split <;> omega
  show IsRangeIter _ _ (lo + ((0:Nat):Int) * 1) ((((hi - lo).toNat:Nat):Int) - ((0:Nat):Int)) 1
  rw [e1,e2]
  exact Heap.get?_push_size _ rfl
 ·have e:b=(s.heap.push { cls:=.type "range",data:=.fields #[.int lo t,.int hi u,.int 1 v] }).objs.size:=by simpa using hb
  subst e
  exact I1.fpOk (Nat.le_refl _) (I1.hok.fresh (Nat.le_refl _))
def iRng1 (ta:TA):TI:=fun σ H R=>ta σ H fun vs H1=>∃ j:Int,vs=[.int j]∧-(2 ^ 62)≤j∧j < 2 ^ 62∧R (Itr 0 j.toNat) H1
theorem zah6 {a:Expr}{ta:TA}{p pos:Pos} (hg:Gl X "range") (hm:X.mg "range" = none) (ha:PA X [a] ta) (hs:starEach [a] X.env=[(false,eval a X.env)]:=by rfl):PI X tg (.Call (.Name "range" p) [a] [] pos) (iRng1 ta):=by
 intro pins s σ H R I h
 refine Call_ (zaeq I hg hm boot_range (PyProof.Rows.callWith_type1 (thn (ha pos pins s σ H _ I h) fun us s1 ⟨vs,H1,I1,r1,q1⟩=>?_) hs rfl))
 obtain ⟨j,e,q1,q2,q⟩:=q1
 subst e
 cases r1 with
 | cons r rr =>
  cases rr
  obtain ⟨t,rfl⟩:=r
  exact call_range_1 (zaj3 I1 (by omega) (by omega) q1 q2 (by simpa using q))
def tFor (wi:TI) (g:TG) (tb:TS):TS:=fun D σ H=>wi σ H fun J H1=>∃ W:Nat→Nat→St→Hp→Prop,(∃ m,W 0 m σ H1)∧∀ i m σ H,W i m σ H →
 (J.stop i H∧D.nx σ H)∨(J.go i H∧∃ N:St→Hp→Prop,(∀ σ' H',N σ' H'→∃ m',m' < m∧W (i + 1) m' σ' H')∧∀ x H',J.yld i H x H'→g x σ H' fun σ2 H2=>tb { D with nx:=N,ct:=N,bk:=D.nx } σ2 H2)
def pinsAt (fp:List Addr) (h:Heap):List (Addr × Obj):=fp.filterMap fun b=>(h.get? b).map fun o=>(b,o)
theorem zac6 {fp:List Addr}{h:Heap}{b:Addr}{o:Obj} (hb:b∈fp) (e:h.get? b=some o):(b,o)∈pinsAt fp h:=List.mem_filterMap.mpr ⟨b,hb,by rw [e]; rfl⟩
theorem zafl {fp:List Addr}{h:Heap}{p:Addr × Obj} (hp:p∈pinsAt fp h):p.1∈fp∧h.get? p.1=some p.2:=by
 obtain ⟨b,hb,e⟩:=List.mem_filterMap.mp hp
 cases q:h.get? b with
 | none=>rw [q] at e; cases e
 | some o =>
  rw [q] at e
  have e':(b,o)=p:=Option.some.inj e
  subst e'
  exact ⟨hb,q⟩
theorem Inv.pinned {pins:List (Addr × Obj)}{σ:St}{H:Hp}{s:Shared}{fp:List Addr} (I:Inv X pins σ H s) (hf:∀ b∈fp,FpOk X pins H b) (ho:∀ b∈fp,∃ o,s.heap.get? b=some o∧∀ v,o.data≠.cell v):Inv X (pins++pinsAt fp s.heap) σ H s :=
 I.pins_of fun p hp=>(List.mem_append.mp hp).elim (fun z=>I.pin p (List.mem_append_right _ z)) fun z=>by
  obtain ⟨hb,e⟩:=zafl z
  obtain ⟨f0,f1,f2,_⟩:=hf p.1 hb
  obtain ⟨o,e',d⟩:=ho p.1 hb
  rw [e] at e'; cases e'
  exact ⟨e,f0,f1,f2,d⟩
theorem Inv.unpinned {pins pl:List (Addr × Obj)}{σ:St}{H:Hp}{s:Shared} (I:Inv X (pins++pl) σ H s):Inv X pins σ H s:=I.pins_of fun p hp=>I.pin p (List.mem_append_right _ (List.mem_append_left _ hp))
theorem zanj {iter:Expr}{body:List Stmt}{wi:TI}{g:TG}{tb:TS}{pos:Pos} (hp:PassesOwn (model X.prog X.w) X.A X.env X.xe) (hc:X.calm=true) (hi:PI X tg iter wi) (hg:PG X tg g) (hb:PSs X body tb)
  (hs:∀ x,foldedSetIterable iter X.env x=pure x:=by intro _; rfl):PS X (.For tg iter body [] pos) (tFor wi g tb):=by
 intro pins s σ H D I h
 refine wpAny_For (thn (hi pins s σ H _ I h) fun v s1 h1=>thn h1 fun itv s2 h2=>?_) hs
 obtain ⟨it,fp,tn,J,H2,e,I2,T,st2,f2,W,⟨m0,w0⟩,turn⟩:=h2
 subst e
 have stat:∀ {H':Hp},(∀ b∈fp,H' b=none)→∀ b∈fp,FpOk X pins H' b:=fun hn b hb=>⟨hn b hb,(f2 b hb).2⟩
 refine codeAny_forLoop_any (fun n s'=>∃ i σ' H',Inv X pins σ' H' s'∧tn i s'.heap∧(∀ b∈fp,H' b=none)∧W i n σ' H') ?_ m0 ⟨0,σ,H2,I2,st2,fun b hb=>(f2 b hb).1,w0⟩
 rintro n s3 ⟨i,σ3,H3,I3,st3,fr3,w3⟩
 rcases turn i n σ3 H3 w3 with ⟨stop,qn⟩ | ⟨go,N,hN,step⟩
 ·refine wpAny_passesOwn hp (thn (T.done X rfl rfl rfl hc i pins s3 σ3 H3 X.xe I3 (stat fr3) st3 stop) fun r s4 ⟨hr,I4⟩=>?_)
  subst hr
  exact wpAny_execs_nil ⟨σ3,H3,I4,qn⟩
 ·refine wpAny_passesOwn hp (thn (T.item X rfl rfl rfl hc i pins s3 σ3 H3 X.xe I3 (stat fr3) st3 go) fun r s4 ⟨u,hr,h4⟩=>?_)
  subst hr
  refine wpAny_passesOwn hp (thn h4 fun _ s5 ⟨x,H5,I5,r5,y5,st5,fr5⟩=>?_)
  have I5':=I5.pinned (stat fr5) (T.obj _ _ st5)
  refine wpAny_passesOwn hp (thn (hg _ s5 σ3 H5 x u _ I5' r5 (step x H5 y5)) fun _ s6 ⟨σ6,H6,I6,q6⟩=>?_)
  refine wpAny_passesOwn hp (thn (hb _ s6 σ6 H6 _ I6 q6) fun f s7 q7=>?_)
  have again:∀ {σ7:St}{H7:Hp},Inv X (pins++pinsAt fp s5.heap) σ7 H7 s7→N σ7 H7→∃ m,m < n∧∃ i σ' H',Inv X pins σ' H' s7∧tn i s7.heap∧(∀ b∈fp,H' b=none)∧W i m σ' H':=fun {σ7 H7} I7 n7=>by
   obtain ⟨m',hm,w7⟩:=hN σ7 H7 n7
   refine ⟨m',hm,i + 1,σ7,H7,I7.unpinned,T.keep _ _ _ st5 fun b hb o e=>(I7.pin (b,o) (List.mem_append_right _ (List.mem_append_right _ (zac6 hb e)))).1,fun b hb=>?_,w7⟩
   obtain ⟨o,e,d⟩:=T.obj _ _ st5 b hb
   exact (I7.pin (b,o) (List.mem_append_right _ (List.mem_append_right _ (zac6 hb e)))).2.1
  cases f with
  | next=>obtain ⟨σ7,H7,I7,n7⟩:=q7; exact again I7 n7
  | cont=>obtain ⟨σ7,H7,I7,n7⟩:=q7; exact again I7 n7
  | brk=>obtain ⟨σ7,H7,I7,q7⟩:=q7; exact ⟨σ7,H7,I7.unpinned,q7⟩
  | ret v=>obtain ⟨x7,σ7,H7,I7,r7,q7⟩:=q7; exact ⟨x7,σ7,H7,I7.unpinned,r7,q7⟩
end
theorem zaj4 {K:PySem.W.Frag}{a:Addr}{xs:List V}{g:TG}{tb:TS}{D:Ends}{σ:St}{H:Hp} (Pv:Nat→St→Hp→Prop) (h0:Pv 0 σ H) (hl:∀ i σ H,i≤xs.length→Pv i σ H→SqL K H a xs)
  (hs:∀ i x σ H,xs[i]?=some x→Pv i σ H→g x σ H fun σ2 H2=>tb { D with nx:=Pv (i + 1),ct:=Pv (i + 1),bk:=D.nx } σ2 H2) (hd:∀ σ H,Pv xs.length σ H→D.nx σ H) :
  ∃ W:Nat→Nat→St→Hp→Prop,(∃ m,W 0 m σ H)∧∀ i m σ H,W i m σ H →
   ((Itl K a).stop i H∧D.nx σ H)∨((Itl K a).go i H∧∃ N:St→Hp→Prop,(∀ σ' H',N σ' H'→∃ m',m' < m∧W (i + 1) m' σ' H')∧∀ x H',(Itl K a).yld i H x H'→g x σ H' fun σ2 H2=>tb { D with nx:=N,ct:=N,bk:=D.nx } σ2 H2):=by
 refine ⟨fun i m σ H=>m=xs.length - i∧i≤xs.length∧Pv i σ H,⟨xs.length,by simp,Nat.zero_le _,h0⟩,?_⟩
 rintro i m σ H ⟨rfl,hi,p⟩
 have q:=hl i σ H hi p
 by_cases hlt:i < xs.length
 ·refine .inr ⟨⟨xs,xs[i],q,by simp [hlt]⟩,Pv (i + 1),fun σ' H' p'=>⟨xs.length - (i + 1),by omega,rfl,hlt,p'⟩,fun x H' y=>?_⟩
  obtain ⟨e,y⟩:=y
  subst e
  exact hs i x σ _ (y xs q) p
 ·have e:i=xs.length:=by omega
  subst e
  exact .inl ⟨⟨xs,q,Nat.le_refl _⟩,hd σ H p⟩
theorem zall {K:PySem.W.Frag}{a:Addr}{xs:List V}{g:TG}{tb:TS}{D:Ends}{σ:St}{H:Hp} (Pv:Nat→St→Hp→Prop) (h0:Pv 0 σ H) (hl:∀ i σ H,i≤xs.length→Pv i σ H→SqT K H a xs)
  (hs:∀ i x σ H,xs[i]?=some x→Pv i σ H→g x σ H fun σ2 H2=>tb { D with nx:=Pv (i + 1),ct:=Pv (i + 1),bk:=D.nx } σ2 H2) (hd:∀ σ H,Pv xs.length σ H→D.nx σ H) :
  ∃ W:Nat→Nat→St→Hp→Prop,(∃ m,W 0 m σ H)∧∀ i m σ H,W i m σ H →
   ((Itt K a).stop i H∧D.nx σ H)∨((Itt K a).go i H∧∃ N:St→Hp→Prop,(∀ σ' H',N σ' H'→∃ m',m' < m∧W (i + 1) m' σ' H')∧∀ x H',(Itt K a).yld i H x H'→g x σ H' fun σ2 H2=>tb { D with nx:=N,ct:=N,bk:=D.nx } σ2 H2):=by
 refine ⟨fun i m σ H=>m=xs.length - i∧i≤xs.length∧Pv i σ H,⟨xs.length,by simp,Nat.zero_le _,h0⟩,?_⟩
 rintro i m σ H ⟨rfl,hi,p⟩
 have q:=hl i σ H hi p
 by_cases hlt:i < xs.length
 ·refine .inr ⟨⟨xs,xs[i],q,by simp [hlt]⟩,Pv (i + 1),fun σ' H' p'=>⟨xs.length - (i + 1),by omega,rfl,hlt,p'⟩,fun x H' y=>?_⟩
  obtain ⟨e,y⟩:=y
  subst e
  exact hs i x σ _ (y xs q) p
 ·have e:i=xs.length:=by omega
  subst e
  exact .inl ⟨⟨xs,q,Nat.le_refl _⟩,hd σ H p⟩
theorem zah7 {lo:Int}{n:Nat}{g:TG}{tb:TS}{D:Ends}{σ:St}{H:Hp} (Pv:Nat→St→Hp→Prop) (h0:Pv 0 σ H)
  (hs:∀ i σ H,i < n→Pv i σ H→g (.int (lo + i)) σ H fun σ2 H2=>tb { D with nx:=Pv (i + 1),ct:=Pv (i + 1),bk:=D.nx } σ2 H2) (hd:∀ σ H,Pv n σ H→D.nx σ H) :
  ∃ W:Nat→Nat→St→Hp→Prop,(∃ m,W 0 m σ H)∧∀ i m σ H,W i m σ H →
   ((Itr lo n).stop i H∧D.nx σ H)∨((Itr lo n).go i H∧∃ N:St→Hp→Prop,(∀ σ' H',N σ' H'→∃ m',m' < m∧W (i + 1) m' σ' H')∧∀ x H',(Itr lo n).yld i H x H'→g x σ H' fun σ2 H2=>tb { D with nx:=N,ct:=N,bk:=D.nx } σ2 H2):=by
 refine ⟨fun i m σ H=>m=n - i∧i≤n∧Pv i σ H,⟨n,by simp,Nat.zero_le _,h0⟩,?_⟩
 rintro i m σ H ⟨rfl,hi,p⟩
 by_cases hlt:i < n
 ·refine .inr ⟨hlt,Pv (i + 1),fun σ' H' p'=>⟨n - (i + 1),by omega,rfl,hlt,p'⟩,fun x H' y=>?_⟩
  obtain ⟨e,y⟩:=y
  subst e y
  exact hs i σ _ hlt p
 ·have e:i=n:=by omega
  subst e
  exact .inl ⟨Nat.le_refl _,hd σ H p⟩
abbrev R2:=V→V→Hp→VK→Prop
def OpR (X:Cx) (f:Value→Value→Sem Value) (r:R2):Prop :=
 ∀ (pins:List (Addr × Obj)) (s:Shared) (σ:St) (H:Hp) (x y:V) (v u:Value) (Q:VK),Inv X pins σ H s→RelV x v→RelV y u→r x y H Q →
  wpAny (model X.prog X.w) X.A (f v u) (EP X pins σ Q) X.xe s
def UnR (X:Cx) (f:Value→Sem Value) (r:V→Hp→VK→Prop):Prop :=
 ∀ (pins:List (Addr × Obj)) (s:Shared) (σ:St) (H:Hp) (x:V) (v:Value) (Q:VK),Inv X pins σ H s→RelV x v→r x H Q →
  wpAny (model X.prog X.w) X.A (f v) (EP X pins σ Q) X.xe s
def CallR (X:Cx) (f:Value) (r:List V→Hp→VK→Prop):Prop :=
 ∀ (pins:List (Addr × Obj)) (s:Shared) (σ:St) (H:Hp) (xs:List V) (us:List Value) (Q:VK),Inv X pins σ H s→Vals xs us→r xs H Q →
  wpAny (model X.prog X.w) X.A (call f us) (EP X pins σ Q) X.xe s
def tOp (r:R2) (ta tb:TE):TE:=fun σ H Q=>ta σ H fun x H1=>tb σ H1 fun y H2=>r x y H2 Q
def tUn (r:V→Hp→VK→Prop) (ta:TE):TE:=fun σ H Q=>ta σ H fun x H1=>r x H1 Q
def rI (C:Int→Int→Prop) (g:Int→Int→V):R2:=fun x y H Q=>∃ i j,x=.int i∧y=.int j∧C i j∧Q (g i j) H
def rI0 (g:Int→Int→V):R2:=fun x y H Q=>∃ i j,x=.int i∧y=.int j∧Q (g i j) H
def rU (g:Int→V):V→Hp→VK→Prop:=fun x H Q=>∃ i,x=.int i∧Q (g i) H
section
variable {X:Cx}{a b c:Expr}{ta tb tc:TE}{pos:Pos}
theorem binT (ha:PE X a ta) (hb:PE X b tb) {pins:List (Addr × Obj)}{s:Shared}{σ:St}{H:Hp}{R:V→V→Hp→Prop} (I:Inv X pins σ H s)
  (h:ta σ H fun x H1=>tb σ H1 fun y H2=>R x y H2) {Q:Value→Shared→Prop}{f:Value→Value→Sem Value}
  (hf:∀ v u s2 x y H2,Inv X pins σ H2 s2→RelV x v→RelV y u→R x y H2→wpAny (model X.prog X.w) X.A (f v u) Q X.xe s2) :
  wpAny (model X.prog X.w) X.A (eval a X.env) (fun v s₁=>wpAny (model X.prog X.w) X.A (eval b X.env) (fun u s₂=>wpAny (model X.prog X.w) X.A (f v u) Q X.xe s₂) X.xe s₁) X.xe s:=by
 refine thn (ha pins s σ H _ I h) fun v s1 ⟨x,H1,I1,r1,q1⟩=>?_
 refine thn (hb pins s1 σ H1 _ I1 q1) fun u s2 ⟨y,H2,I2,r2,q2⟩=>?_
 exact hf v u s2 x y H2 I2 r1 r2 q2
theorem zao9 {op:Operator}{r:R2} (ho:OpR X (binaryOp op) r) (ha:PE X a ta) (hb:PE X b tb):PE X (.BinOp a op b pos) (tOp r ta tb):=by
 intro pins s σ H Q I h
 exact wpAny_BinOp (binT ha hb I h fun v u s2 x y H2 I2 rx ry q=>ho pins s2 σ H2 x y v u Q I2 rx ry q)
theorem zapa {op:UnaryOp}{r:V→Hp→VK→Prop} (ho:UnR X (unaryOp op) r) (ha:PE X a ta):PE X (.UnaryOp op a pos) (tUn r ta):=by
 intro pins s σ H Q I h
 exact UnaryOp_ (thn (ha pins s σ H _ I h) fun v s1 ⟨x,H1,I1,r1,q1⟩=>ho pins s1 σ H1 x v Q I1 r1 q1)
theorem opI {f:Value→Value→Sem Value}{C:Int→Int→Prop}{g:Int→Int→Int}
  (rule:∀ (i j:Int) (t u:Tok) (s:Shared) (Q:Value→Shared→Prop) (E:Value→Shared→Prop),C i j→Q (.int (g i j) s.toks) { s with toks:=s.toks + 1 }→wpAny (model X.prog X.w) X.A (f (.int i t) (.int j u)) Q E s) :
  OpR X f (rI C fun i j=>.int (g i j)):=by
 intro pins s σ H x y v u Q I rx ry h
 obtain ⟨i,j,rfl,rfl,hc,q⟩:=h
 obtain ⟨t,rfl⟩:=rx
 obtain ⟨t',rfl⟩:=ry
 exact rule i j t t' s _ _ hc ⟨.int (g i j),H,I.tok _,⟨_,rfl⟩,q⟩
theorem opI0 {f:Value→Value→Sem Value}{g:Int→Int→Int}
  (rule:∀ (i j:Int) (t u:Tok) (s:Shared) (Q:Value→Shared→Prop) (E:Value→Shared→Prop),Q (.int (g i j) s.toks) { s with toks:=s.toks + 1 }→wpAny (model X.prog X.w) X.A (f (.int i t) (.int j u)) Q E s) :
  OpR X f (rI0 fun i j=>.int (g i j)):=by
 intro pins s σ H x y v u Q I rx ry h
 obtain ⟨i,j,rfl,rfl,q⟩:=h
 obtain ⟨t,rfl⟩:=rx
 obtain ⟨t',rfl⟩:=ry
 exact rule i j t t' s _ _ ⟨.int (g i j),H,I.tok _,⟨_,rfl⟩,q⟩
theorem opB0 {f:Value→Value→Sem Value}{g:Int→Int→Bool}
  (rule:∀ (i j:Int) (t u:Tok) (s:Shared) (Q:Value→Shared→Prop) (E:Value→Shared→Prop),Q (.bool (g i j)) s→wpAny (model X.prog X.w) X.A (f (.int i t) (.int j u)) Q E s) :
  OpR X f (rI0 fun i j=>.bl (g i j)):=by
 intro pins s σ H x y v u Q I rx ry h
 obtain ⟨i,j,rfl,rfl,q⟩:=h
 obtain ⟨t,rfl⟩:=rx
 obtain ⟨t',rfl⟩:=ry
 exact rule i j t t' s _ _ ⟨.bl (g i j),H,I,rfl,q⟩
def CMul (i j:Int):Prop:=(-(2 ^ 64) < i∧i < 2 ^ 64)∨(-(2 ^ 64) < j∧j < 2 ^ 64)
theorem CMul.ok {i j:Int} (h:CMul i j):IntMulOk i j:=by
 rcases h with ⟨h1,h2⟩ | ⟨h1,h2⟩
 ·exact .of_left (intBits_le_64 h1 h2)
 ·exact .of_right (intBits_le_64 h1 h2)
theorem zac9:OpR X (binaryOp .Add) (rI0 fun i j=>.int (i + j)):=opI0 fun _ _ _ _ _ _ _ q=>add_int q
theorem zak2:OpR X (binaryOp .Sub) (rI0 fun i j=>.int (i - j)):=opI0 fun _ _ _ _ _ _ _ q=>sub_int q
theorem zaer:OpR X (binaryOp .Mult) (rI CMul fun i j=>.int (i * j)):=opI fun _ _ _ _ _ _ _ hc q=>mul_int q hc.ok
theorem zaba:OpR X (binaryOp .Mod) (rI (fun _ j=>0 < j) fun i j=>.int (i % j)):=opI fun i j _ _ _ _ _ hc q=>by
 have h1:(0:Int) < j:=hc
 exact mod_int' (by omega) (by rw [Int.fmod_eq_emod_of_nonneg i (by omega)]; exact q)
theorem unI {f:Value→Sem Value}{g:Int→Int}
  (rule:∀ (i:Int) (t:Tok) (s:Shared) (Q:Value→Shared→Prop) (E:Value→Shared→Prop),Q (.int (g i) s.toks) { s with toks:=s.toks + 1 }→wpAny (model X.prog X.w) X.A (f (.int i t)) Q E s) :
  UnR X f (rU fun i=>.int (g i)):=by
 intro pins s σ H x v Q I rx h
 obtain ⟨i,rfl,q⟩:=h
 obtain ⟨t,rfl⟩:=rx
 exact rule i t s _ _ ⟨.int (g i),H,I.tok _,⟨_,rfl⟩,q⟩
theorem zank:UnR X (unaryOp .USub) (rU fun i=>.int (-i)):=unI fun _ _ _ _ _ q=>neg_int q
end
def scal:V→V→Bool
 | .non,.non=>true | .non,.int _=>true | .int _,.non=>true | .non,.bl _=>true | .bl _,.non=>true | .non,.str _=>true | .str _,.non=>true
 | .int _,.int _=>true | .bl _,.bl _=>true | .str _,.str _=>true | .byt _,.byt _=>true
 | .int _,.str _=>true | .str _,.int _=>true | .bl _,.str _=>true | .str _,.bl _=>true
 | _,_=>false
def rEq:R2:=fun x y H Q=>scal x y=true∧Q (.bl (decide (x=y))) H
def rNe:R2:=fun x y H Q=>scal x y=true∧Q (.bl (!decide (x=y))) H
theorem zah8 {i j:Int}:decide (V.int i=V.int j)=(i == j):=by
 rw [Bool.eq_iff_iff]
 simp
theorem zak3 {i j:Bool}:decide (V.bl i=V.bl j)=(i == j):=by
 rw [Bool.eq_iff_iff]
 simp
theorem zah9 {i j:Str}:decide (V.str i=V.str j)=(i == j):=by
 rw [Bool.eq_iff_iff]
 simp
theorem zaia {i j:Array UInt8}:decide (V.byt i=V.byt j)=(i.toList == j.toList):=by
 rw [Bool.eq_iff_iff]
 cases i
 cases j
 simp
section
variable {X:Cx}{a b c:Expr}{ta tb tc:TE}{pos:Pos}
theorem zabj {pins:List (Addr × Obj)}{σ:St}{H:Hp}{s:Shared}{Q:VK}{k k':Bool} (I:Inv X pins σ H s) (q:Q (.bl k) H) (e:k=k'):EP X pins σ Q (.bool k') s:=by
 subst e
 exact ⟨.bl k,H,I,rfl,q⟩
theorem zaa3:OpR X (compareOp .Eq) rEq:=by
 intro pins s σ H x y v u Q I rx ry h
 obtain ⟨hs,q⟩:=h
 cases x with
 | non =>
  cases rx
  cases y with
  | non=>cases ry; exact PySem.EqNone.eq_none_none (zabj I q (by simp))
  | bl j=>cases ry; exact PySem.EqNone.eq_none_bool (zabj I q (by simp))
  | int j=>obtain ⟨t',rfl⟩:=ry; exact PySem.EqNone.eq_none_int (zabj I q (by simp))
  | str j=>obtain ⟨t',rfl⟩:=ry; exact PySem.EqNone.eq_none_str (zabj I q (by simp))
  | _=>exact absurd (show false=true from hs) Bool.false_ne_true
 | bl i =>
  cases rx
  cases y with
  | non=>cases ry; exact PySem.EqNone.eq_bool_none (zabj I q (by simp))
  | bl j=>cases ry; exact eq_bool (zabj I q zak3)
  | str j=>obtain ⟨t',rfl⟩:=ry; exact PySem.EqMixed.eq_bool_str (zabj I q (by simp))
  | _=>exact absurd (show false=true from hs) Bool.false_ne_true
 | int i =>
  obtain ⟨t,rfl⟩:=rx
  cases y with
  | non=>cases ry; exact PySem.EqNone.eq_int_none (zabj I q (by simp))
  | int j=>obtain ⟨t',rfl⟩:=ry; exact eq_int (zabj I q zah8)
  | str j=>obtain ⟨t',rfl⟩:=ry; exact PySem.EqMixed.eq_int_str (zabj I q (by simp))
  | _=>exact absurd (show false=true from hs) Bool.false_ne_true
 | str i =>
  obtain ⟨t,rfl⟩:=rx
  cases y with
  | non=>cases ry; exact PySem.EqNone.eq_str_none (zabj I q (by simp))
  | bl j=>cases ry; exact PySem.EqMixed.eq_str_bool (zabj I q (by simp))
  | int j=>obtain ⟨t',rfl⟩:=ry; exact PySem.EqMixed.eq_str_int (zabj I q (by simp))
  | str j=>obtain ⟨t',rfl⟩:=ry; exact eq_str (zabj I q zah9)
  | _=>exact absurd (show false=true from hs) Bool.false_ne_true
 | byt i =>
  obtain ⟨t,rfl⟩:=rx
  cases y with
  | byt j=>obtain ⟨t',rfl⟩:=ry; exact PySem.W.eq_bytes (zabj I q zaia)
  | _=>exact absurd (show false=true from hs) Bool.false_ne_true
 | _=>cases y <;> exact absurd (show false=true from hs) Bool.false_ne_true
theorem zaib:OpR X (compareOp .NotEq) rNe:=by
 intro pins s σ H x y v u Q I rx ry h
 obtain ⟨hs,q⟩:=h
 cases x with
 | non =>
  cases rx
  cases y with
  | non=>cases ry; exact PySem.EqNone.ne_none_none (zabj I q (by simp))
  | bl j=>cases ry; exact PySem.EqNone.ne_none_bool (zabj I q (by simp))
  | int j=>obtain ⟨t',rfl⟩:=ry; exact PySem.EqNone.ne_none_int (zabj I q (by simp))
  | str j=>obtain ⟨t',rfl⟩:=ry; exact PySem.EqNone.ne_none_str (zabj I q (by simp))
  | _=>exact absurd (show false=true from hs) Bool.false_ne_true
 | bl i =>
  cases rx
  cases y with
  | non=>cases ry; exact PySem.EqNone.ne_bool_none (zabj I q (by simp))
  | bl j=>cases ry; exact ne_bool (zabj I q (congrArg not zak3))
  | str j=>obtain ⟨t',rfl⟩:=ry; exact PySem.EqMixed.ne_bool_str (zabj I q (by simp))
  | _=>exact absurd (show false=true from hs) Bool.false_ne_true
 | int i =>
  obtain ⟨t,rfl⟩:=rx
  cases y with
  | non=>cases ry; exact PySem.EqNone.ne_int_none (zabj I q (by simp))
  | int j=>obtain ⟨t',rfl⟩:=ry; exact ne_int (zabj I q (congrArg not zah8))
  | str j=>obtain ⟨t',rfl⟩:=ry; exact PySem.EqMixed.ne_int_str (zabj I q (by simp))
  | _=>exact absurd (show false=true from hs) Bool.false_ne_true
 | str i =>
  obtain ⟨t,rfl⟩:=rx
  cases y with
  | non=>cases ry; exact PySem.EqNone.ne_str_none (zabj I q (by simp))
  | bl j=>cases ry; exact PySem.EqMixed.ne_str_bool (zabj I q (by simp))
  | int j=>obtain ⟨t',rfl⟩:=ry; exact PySem.EqMixed.ne_str_int (zabj I q (by simp))
  | str j=>obtain ⟨t',rfl⟩:=ry; exact ne_str (zabj I q (congrArg not zah9))
  | _=>exact absurd (show false=true from hs) Bool.false_ne_true
 | byt i =>
  obtain ⟨t,rfl⟩:=rx
  cases y with
  | byt j=>obtain ⟨t',rfl⟩:=ry; exact PySem.W.ne_bytes (zabj I q (congrArg not zaia))
  | _=>exact absurd (show false=true from hs) Bool.false_ne_true
 | _=>cases y <;> exact absurd (show false=true from hs) Bool.false_ne_true
theorem zanl:OpR X (compareOp .Lt) (rI0 fun i j=>.bl (decide (i < j))):=opB0 fun _ _ _ _ _ _ _ q=>lt_int q
theorem zapb:OpR X (compareOp .LtE) (rI0 fun i j=>.bl (decide (i≤j))):=opB0 fun _ _ _ _ _ _ _ q=>le_int q
theorem zaj5:OpR X (compareOp .Gt) (rI0 fun i j=>.bl (decide (j < i))):=opB0 fun _ _ _ _ _ _ _ q=>gt_int q
theorem zag7:OpR X (compareOp .Is) (fun x y H Q=>y=.non∧Q (.bl (decide (x=.non))) H):=by
 intro pins s σ H x y v u Q I rx ry h
 obtain ⟨rfl,q⟩:=h
 cases ry
 refine is_none_gen (zabj I q ?_)
 cases x <;> first
  | (cases rx; rfl)
  | (obtain ⟨t,rfl⟩:=rx; rfl)
theorem zalm:OpR X (compareOp .IsNot) (fun x y H Q=>y=.non∧Q (.bl (!decide (x=.non))) H):=by
 intro pins s σ H x y v u Q I rx ry h
 obtain ⟨rfl,q⟩:=h
 cases ry
 refine isnot_none_gen (zabj I q ?_)
 cases x <;> first
  | (cases rx; rfl)
  | (obtain ⟨t,rfl⟩:=rx; rfl)
theorem nomark (b:Expr) {op:CmpOp} (h:op≠.In:=by decide) (h2:op≠.NotIn:=by decide):behindInMarks op b=false:=by
 have e1:(op == CmpOp.In)=false:=by cases op <;> first | rfl | exact absurd rfl h
 have e2:(op == CmpOp.NotIn)=false:=by cases op <;> first | rfl | exact absurd rfl h2
 cases b <;> simp [behindInMarks,e1,e2]
theorem zaln {op:CmpOp}{r:R2} (ho:OpR X (compareOp op) r) (ha:PE X a ta) (hb:PE X b tb) (hm:behindInMarks op b=false):PE X (.Compare a [op] [b] pos) (tOp r ta tb):=by
 intro pins s σ H Q I h
 exact wpAny_Compare1 (binT ha hb I h fun v u s2 x y H2 I2 rx ry q=>ho pins s2 σ H2 x y v u Q I2 rx ry q) hm
def tTest (t:TE):TT:=fun σ H Q=>t σ H fun x H'=>∃ k,x=.bl k∧Q k H'
theorem zalo {op:CmpOp}{r:R2} (ho:OpR X (compareOp op) r) (ha:PE X a ta) (hb:PE X b tb) (hm:behindInMarks op b=false):PT X (.Compare a [op] [b] pos) (tTest (tOp r ta tb)):=by
 intro pins s σ H Q I h
 refine wpAny_isTrue_Compare1 (thn (ha pins s σ H _ I h) fun v s1 ⟨x,H1,I1,r1,q1⟩=>thn (hb pins s1 σ H1 _ I1 q1) fun u s2 ⟨y,H2,I2,r2,q2⟩ =>
  thn (ho pins s2 σ H2 x y v u _ I2 r1 r2 q2) fun c s3 ⟨z,H3,I3,r3,k,e,q3⟩=>?_) hm
 subst e
 cases r3
 exact wpAny_truthy_bool ⟨H3,I3,q3⟩
def tChain (r r':R2) (ta tb tc:TE):TE:=fun σ H Q=>ta σ H fun x H1=>tb σ H1 fun y H2=>r x y H2 fun z H3=>∃ k,z=.bl k ∧
 (if k=true then tc σ H3 fun w' H4=>r' y w' H4 Q else Q (.bl false) H3)
theorem zaj6 {op op':CmpOp}{r r':R2} (ho:OpR X (compareOp op) r) (ho':OpR X (compareOp op') r') (ha:PE X a ta) (hb:PE X b tb) (hc:PE X c tc)
  (hm:lastMarks [op,op'] [b,c]=false:=by with_unfolding_all rfl):PE X (.Compare a [op,op'] [b,c] pos) (tChain r r' ta tb tc):=by
 intro pins s σ H Q I h
 refine Compare_chain (thn (ha pins s σ H _ I h) fun v s1 ⟨x,H1,I1,r1,q1⟩=>chain_link (thn (hb pins s1 σ H1 _ I1 q1) fun u s2 ⟨y,H2,I2,r2,q2⟩ =>
  thn (ho pins s2 σ H2 x y v u _ I2 r1 r2 q2) fun d s3 ⟨z,H3,I3,r3,k,e,q3⟩=>?_)) hm
 subst e
 cases r3
 refine wpAny_truthy_bool ?_
 cases k with
 | false=>exact ite_ff ⟨.bl false,H3,I3,rfl,q3⟩
 | true=>exact ite_tt (chain_last (thn (hc pins s3 σ H3 _ I3 q3) fun w' s4 ⟨z',H4,I4,r4,q4⟩=>ho' pins s4 σ H4 y z' u w' Q I4 r2 r4 q4))
theorem line63:(sizeLine:Nat) < 2 ^ 63:=by rw [sizeLine_eq]; decide
theorem vals1 {x:V}{us:List Value} (r:Vals [x] us):∃ u,us=[u]∧RelV x u:=by
 cases r with
 | cons r1 r2=>cases r2; exact ⟨_,rfl,r1⟩
theorem vals2 {x y:V}{us:List Value} (r:Vals [x,y] us):∃ u w',us=[u,w']∧RelV x u∧RelV y w':=by
 cases r with
 | cons r1 r2 =>
  cases r2 with
  | cons r3 r4=>cases r4; exact ⟨_,_,rfl,r1,r3⟩
theorem zaic (hc:X.calm=true):CallR X (.builtin "min") (fun xs H Q=>∃ i j,xs=[.int i,.int j]∧Q (.int (if j < i then j else i)) H):=by
 intro pins s σ H xs us Q I r h
 obtain ⟨i,j,rfl,q⟩:=h
 obtain ⟨u,w',rfl,⟨t,rfl⟩,⟨t',rfl⟩⟩:=vals2 r
 refine min_two_ints (I.ok.hd hc) fun h' tk k=>⟨_,H,I.kept k,?_,q⟩
 by_cases hj:j < i
 ·rw [if_pos hj,if_pos hj]; exact ⟨_,rfl⟩
 ·rw [if_neg hj,if_neg hj]; exact ⟨_,rfl⟩
end
structure ObjM (h:Heap) (x dx C:Addr) (mA:Str→Option Value):Prop where
 obj:h.get? x=some (PySem.W.instObj C dx)
 ns:h.Ns1 dx mA
 ne:dx≠x
theorem zaid {h:Heap}{dx:Addr}{mA:Str→Option Value} (n:h.Ns1 dx mA):∃ od,h.get? dx=some od∧∀ name,PySem.W.lookIn name od=some (mA name):=by
 obtain ⟨o,es,ep,ho,hd,hk,_,hm⟩:=n
 refine ⟨o,ho,fun name=>?_⟩
 have e:=hm name
 unfold nsFind findBy at e
 rw [← Array.find?_toList] at e
 unfold PySem.W.lookIn
 rw [hd]
 dsimp only
 split
 ·rename_i y q
  rw [q] at e
  exact congrArg some e
 ·rename_i q
  rw [q] at e
  have a:es.toList.any (·.refKey)=false:=by
   rw [List.any_eq_false]
   intro y hy
   obtain ⟨z,t,hkey⟩:=hk y (Array.mem_toList_iff.mp hy)
   simp [DictEntry.refKey,hkey]
  have a':¬ es.toList.any (·.refKey)=true:=by rw [a]; exact Bool.false_ne_true
  rw [if_neg a']
  exact congrArg some e
theorem ObjM.look {h:Heap}{x dx C:Addr}{mA:Str→Option Value} (I:ObjM h x dx C mA):∃ od,PySem.W.InstAt h x (PySem.W.instObj C dx) C (some od)∧∀ name,PySem.W.lookIn name od=some (mA name) :=
 let ⟨od,ho,hl⟩:=zaid I.ns
 ⟨od,⟨I.obj,rfl,rfl,ho⟩,hl⟩
section
variable {prog:Program}{w:World}{A:Around}{E:Value→Shared→Prop}{s:Shared}{K:PySem.W.Frag}{x dx C f:Addr}{mA:Str→Option Value}{name:Str}{v:Value}
theorem zalp {expr:Bool}{Q:Value→Shared→Prop} (X:K.In s.heap) (I:ObjM s.heap x dx C mA) (hg:PySem.W.plainGet K C name=true) (hh:PySem.W.hasDictIn K C=true)
  (ha:PySem.W.findIn K (.ref C) name=some none) (hv:mA name=some v) (hv':PySem.W.handedIn v=true) (h:Q v { s with toks:=s.toks + 1 }) :
  wpAny (model prog w) A (getAttr (.ref x) name expr) Q E s:=by
 obtain ⟨od,J,hl⟩:=I.look
 exact PySem.W.get_value X J (PySem.W.plainGet_of hg).1 (PySem.W.findObj_own hh ha rfl (by rw [hl,hv])) hv' h
theorem zalq {ns:List Str}{Q:Unit→Shared→Prop} (X:K.In s.heap) (I:ObjM s.heap x dx C mA)
  (hs:PySem.W.findIn K (.ref C) "__setattr__" = some (some (.builtin "object.__setattr__"))) (hp:PySem.W.plainOver K C=true) (ht:PySem.W.takerIn K C name=some none) (hh:PySem.W.hasDictIn K C=true)
  (hw:PySem.Within mA ns) (hsz:ns.length≤sizeLine)
  (h:∀ h',ObjM h' x dx C (fun y=>if y=name then some v else mA y)→Heap.SameBut dx s.heap h'→Q () { s with heap:=h',toks:=s.toks + 2 }) :
  wpAny (model prog w) A (setAttr (.ref x) name v) Q E s:=by
 obtain ⟨od,J,hl⟩:=I.look
 refine PySem.W.set_plain X J hs (PySem.W.osa_open (s:={ s with toks:=s.toks + 1 }) (r:=none) X J hp ht fun b=>?_)
 obtain ⟨cd,hc,hd'⟩:=PySem.W.any_some hh
 have hx:s.heap.get? x=some ⟨.ref C,some dx,.plain,#[]⟩:=I.obj
 refine wpAny_bind (wpAny_pure (wpAny_bind (wpAny_bind (wpAny_loadPart hx (wpAny_bind (PySem.W.Looks.here (s:={ s with toks:=s.toks + 1 }) (PySem.W.looks_clsIn X hc) ?_))))))
 rw [hd']
 refine wpAny_pure (a:=some dx) (wpAny_bind (wpAny_pure (wpAny_bind ?_)))
 refine wpAny_nsSet1 (s:={ s with toks:=s.toks + 1 }) I.ns fun h' hn2 hs2=>?_
 obtain ⟨oD,esD,epD,hoD,hdD,hcD⟩:=hn2.count (PySem.Within.cons name v hw)
 refine wpAny_bind (wpAny_lookBehind hoD (by rw [hdD]; exact pastItsLine_dict (Nat.le_trans hcD (by rw [List.length_cons]; omega))) ?_)
 exact wpAny_pure (h _ ⟨(hs2.2 _ (Ne.symm I.ne)).trans I.obj,hn2,I.ne⟩ hs2)
theorem zaj7 {R:Result→Shared→Prop}{vs:List Value}{kw:List (Str × Value)} (X:K.In s.heap) (hm:PySem.W.makesIn K C=true)
  (hi:PySem.W.findIn K (.ref C) "__init__" = some (some (.ref f))) (hf:PySem.W.typeIn K (.ref f)=some (.type "function"))
  (h:codeAny (model prog w) (A.under (.builtin "type.__call__" ⟨.ref C :: vs,kw⟩)) (.call (.ref f) ⟨.ref (s.heap.objs.size + 1) :: vs,kw⟩) (PySem.W.InitBack (s.heap.objs.size + 1) R)
   { s with heap:=(s.heap.push PySem.W.emptyDict).push (PySem.W.instObj C s.heap.objs.size) }) :
  codeAny (model prog w) A (.call (.ref C) ⟨vs,kw⟩) R s:=by
 obtain ⟨hh,g,d,t,os⟩:=s
 exact PySem.W.make_core (PySem.W.makes_of X hm) (PySem.W.looks_findIn X hi) (fun self=>PySem.W.bind_fn X self hf) (.inl rfl) h
end
def putF (f:Str) (v:V):List (Str × V)→List (Str × V)
 | []=>[(f,v)]
 | (g,x) :: r=>if g=f then (g,v) :: r else (g,x) :: putF f v r
theorem zaec (f g:Str) (v:V):∀ fs:List (Str × V),(putF f v fs).lookup g=if g=f then some v else fs.lookup g
 | []=>by
  show List.lookup g [(f,v)]=_
  by_cases h:g=f
  ·have hb:(g == f)=true:=beq_iff_eq.mpr h
   simp only [List.lookup,hb,if_pos h]
  ·have hb:(g == f)=false:=beq_eq_false_iff_ne.mpr h
   simp only [List.lookup,hb,if_neg h]
 | (k,x) :: r=>by
  have ih:=zaec f g v r
  rw [show putF f v ((k,x) :: r)=(if k=f then (k,v) :: r else (k,x) :: putF f v r) from rfl]
  by_cases hk:k=f
  ·rw [if_pos hk]
   by_cases h:g=k
   ·have hb:(g == k)=true:=beq_iff_eq.mpr h
    simp only [List.lookup,hb,if_pos (h.trans hk)]
   ·have hb:(g == k)=false:=beq_eq_false_iff_ne.mpr h
    simp only [List.lookup,hb,if_neg (fun e:g=f=>h (e.trans hk.symm))]
  ·rw [if_neg hk]
   by_cases h:g=k
   ·have hb:(g == k)=true:=beq_iff_eq.mpr h
    simp only [List.lookup,hb,if_neg (fun e:g=f=>hk (h.symm.trans e))]
   ·have hb:(g == k)=false:=beq_eq_false_iff_ne.mpr h
    simp only [List.lookup,hb]
    exact ih
theorem zaed (f:Str) (v:V):∀ fs:List (Str × V),f∈(putF f v fs).map (·.1)∧∀ g,g∈fs.map (·.1)→g∈(putF f v fs).map (·.1)
 | []=>⟨by simp [putF],fun g h=>by simp at h⟩
 | (k,x) :: r=>by
  obtain ⟨i1,i2⟩:=zaed f v r
  rw [show putF f v ((k,x) :: r)=(if k=f then (k,v) :: r else (k,x) :: putF f v r) from rfl]
  by_cases hk:k=f
  ·rw [if_pos hk]
   subst hk
   exact ⟨by simp,fun g h=>by simpa using h⟩
  ·rw [if_neg hk]
   refine ⟨?_,fun g h=>?_⟩
   ·rw [List.map_cons]
    exact List.mem_cons_of_mem _ i1
   ·rw [List.map_cons] at h ⊢
    rcases List.mem_cons.mp h with e | e
    ·exact List.mem_cons.mpr (.inl e)
    ·exact List.mem_cons_of_mem _ (i2 g e)
theorem zaee (f:Str) (v:V):∀ fs:List (Str × V),(putF f v fs).length≤fs.length + 1
 | []=>by simp [putF]
 | (k,x) :: r=>by
  have ih:=zaee f v r
  rw [show putF f v ((k,x) :: r)=(if k=f then (k,v) :: r else (k,x) :: putF f v r) from rfl]
  by_cases hk:k=f
  ·rw [if_pos hk,List.length_cons,List.length_cons]; omega
  ·rw [if_neg hk,List.length_cons,List.length_cons]; omega
theorem RelO.some_of {v:V}{o:Option Value} (r:RelO (some v) o):∃ u,o=some u∧RelV v u:=by
 cases o with
 | none=>exact (show False from r).elim
 | some u=>exact ⟨u,rfl,r⟩
theorem zaie {v:V}{u:Value} (r:RelV v u):PySem.W.handedIn u=true:=by
 cases v with
 | non=>cases (show u=Value.none from r); rfl
 | bl b=>cases (show u=Value.bool b from r); rfl
 | int i=>obtain ⟨t,e⟩:=(show ∃ t,u=Value.int i t from r); cases e; rfl
 | str x=>obtain ⟨t,e⟩:=(show ∃ t,u=Value.str x t from r); cases e; rfl
 | byt b=>obtain ⟨t,e⟩:=(show ∃ t,u=Value.bytes b t from r); cases e; rfl
 | flt b=>obtain ⟨t,e⟩:=(show ∃ t,u=Value.float b t from r); cases e; rfl
 | ref a=>cases (show u=Value.ref a from r); rfl
 | ty n=>cases (show u=Value.type n from r); rfl
section
variable {P:Program}{w:World}{H H':Hp}{h h':Heap}{a C dx:Addr}{fs fs':List (Str × V)}
theorem zae1 (hok:HOk P w H h) (e:H a=some (.ins C dx fs)):∃ mA,ObjM h a dx C mA∧(∀ f,RelO (fs.lookup f) (mA f))∧PySem.Within mA (fs.map (·.1))∧fs.length≤1000∧H dx=some (.own a):=by
 obtain ⟨d,z,ne,ob,mA,n,r,q⟩:=(show ObjOk P w H h a (.ins C dx fs) from hok a _ e)
 exact ⟨mA,⟨ob,n,ne⟩,r,q,z,d⟩
end
structure Cls (K:PySem.W.Frag) (C:Addr):Prop where
 pg:PySem.W.plainGet K C Str.empty=true
 hd:PySem.W.hasDictIn K C=true
 po:PySem.W.plainOver K C=true
 sa:PySem.W.findIn K (.ref C) "__setattr__" = some (some (.builtin "object.__setattr__"))
theorem Cls.get {K:PySem.W.Frag}{C:Addr} (c:Cls K C) (f:Str):PySem.W.plainGet K C f=true:=c.pg
def NoAttr (K:PySem.W.Frag) (C:Addr) (f:Str):Prop:=PySem.W.findIn K (.ref C) f=some none
theorem NoAttr.taker {K:PySem.W.Frag}{C:Addr}{f:Str} (n:NoAttr K C f):PySem.W.takerIn K C f=some none:=by
 unfold PySem.W.takerIn
 rw [show PySem.W.findIn K (.ref C) f=some none from n]
 rfl
section
variable {X:Cx}{pins:List (Addr × Obj)}{σ:St}{H:Hp}{s:Shared}{a C dx:Addr}{fs:List (Str × V)}{f:Str}{v:V}{A:Around}{E:Value→Shared→Prop}
theorem zahn {b:Bool}{Q:Value→Shared→Prop} (I:Inv X pins σ H s) (e:H a=some (.ins C dx fs)) (c:Cls X.K C) (n:NoAttr X.K C f) (l:fs.lookup f=some v)
  (h:∀ u s',Inv X pins σ H s'→RelV v u→Q u s'):wpAny (model X.prog X.w) A (getAttr (.ref a) f b) Q E s:=by
 obtain ⟨mA,O,r,_,_,_⟩:=zae1 I.hok e
 obtain ⟨u,hu,ru⟩:=RelO.some_of (v:=v) (o:=mA f) (by rw [← l]; exact r f)
 exact zalp I.kIn O (c.get f) c.hd n hu (zaie ru) (h u _ (I.tok _) ru)
theorem zaho {y:V}{u:Value}{Q:Unit→Shared→Prop} (I:Inv X pins σ H s) (e:H a=some (.ins C dx fs)) (c:Cls X.K C) (n:NoAttr X.K C f) (hl:fs.length < 1000) (ry:RelV y u)
  (h:∀ s',Inv X pins σ (upd H a (.ins C dx (putF f y fs))) s'→Q () s'):wpAny (model X.prog X.w) A (setAttr (.ref a) f u) Q E s:=by
 obtain ⟨mA,O,r,wi,_,ho⟩:=zae1 I.hok e
 have hz:(fs.map (·.1)).length≤sizeLine:=by rw [List.length_map,sizeLine_eq]; omega
 refine zalq I.kIn O c.sa c.po n.taker c.hd wi hz fun h' O' sb=>h _ ?_
 have hd:∃ o,h'.get? dx=some o:=let ⟨o,_,_,e',_⟩:=O'.ns; ⟨o,e'⟩
 refine I.write (x:=a) (e:=dx) (by rw [e]; exact True.intro) (.inr ho) (fun b q hb z=>(sb.2 b hb).trans z) hd ?_
 refine ⟨by rw [zabe O.ne]; exact ho,?_,O.ne,O'.obj,_,O'.ns,fun g=>?_,fun g hg=>?_⟩
 ·have:=zaee f y fs; omega
 ·show RelO ((putF f y fs).lookup g) (if g=f then some u else mA g)
  rw [zaec]
  by_cases q:g=f
  ·rw [if_pos q,if_pos q]; exact ry
  ·rw [if_neg q,if_neg q]; exact r g
 ·by_cases q:g=f
  ·rw [q]; exact (zaed f y fs).1
  ·refine (zaed f y fs).2 g (wi g fun z=>hg ?_)
   show (if g=f then some u else mA g)=none
   rw [if_neg q]; exact z
theorem Inv.made (I:Inv X pins σ H s):Inv X pins σ (upd (upd H s.heap.objs.size (.own (s.heap.objs.size + 1))) (s.heap.objs.size + 1) (.ins C s.heap.objs.size []))
  { s with heap:=(s.heap.push PySem.W.emptyDict).push (PySem.W.instObj C s.heap.objs.size) }:=by
 have e1:(s.heap.push PySem.W.emptyDict).get? s.heap.objs.size=some PySem.W.emptyDict:=Heap.get?_push_size s.heap rfl
 have e2:((s.heap.push PySem.W.emptyDict).push (PySem.W.instObj C s.heap.objs.size)).get? (s.heap.objs.size + 1)=some (PySem.W.instObj C s.heap.objs.size):=by
  have:=Heap.get?_push_size (s.heap.push PySem.W.emptyDict) (o:=PySem.W.instObj C s.heap.objs.size) rfl
  rwa [Heap.size_push] at this
 have e3:(s.heap.push PySem.W.emptyDict).Ns s.heap.objs.size (fun _=>none):=⟨PySem.W.emptyDict,#[],_,e1,rfl,(fun e he=>absurd he (by simp)),fun _=>rfl⟩
 have I1:=I.laid (a:=s.heap.objs.size) (o:=.own (s.heap.objs.size + 1)) (h':=s.heap.push PySem.W.emptyDict) (t':=s.toks) (fun b u q=>Heap.get?_push_of_some _ q) (Nat.le_refl _) ⟨_,e1⟩
 refine I1.laid (a:=s.heap.objs.size + 1) (o:=.ins C s.heap.objs.size []) (t':=s.toks) (fun b u q=>Heap.get?_push_of_some _ q) (Nat.le_of_eq (Heap.size_push _ _)) ?_
 have ne:s.heap.objs.size≠s.heap.objs.size + 1:=Nat.ne_of_lt (Nat.lt_succ_self _)
 refine ⟨by rw [zabe ne,zaag],Nat.zero_le _,ne,e2,fun _=>none,(Heap.Ns1.of_empty e3).at fun o q=>Heap.get?_push_of_some _ q,fun _=>True.intro,fun y hy=>absurd rfl hy⟩
theorem zalr {prog:Program}{w:World}{env:Env}{e:Expr}{f:Str}{pos:Pos}{s:Shared}{Q:Value→Shared→Prop} (hb:attributeBase e f env (eval e env)=eval e env)
  (h:wpAny (model prog w) A (eval e env) (fun o s₁=>wpAny (model prog w) A (getAttr o f true) Q E s₁) E s):wpAny (model prog w) A (eval (.Attribute e f pos) env) Q E s :=
 Attribute_any_ h (by rw [arm_eval_Attribute,hb])
end
def tFld (K:PySem.W.Frag) (ta:TE) (f:Str):TE:=fun σ H Q=>ta σ H fun x H1=>∃ a C dx fs v,x=.ref a∧H1 a=some (.ins C dx fs)∧Cls K C∧NoAttr K C f∧fs.lookup f=some v∧Q v H1
def sFld (K:PySem.W.Frag) (ta tv:TE) (f:Str):TS:=fun D σ H=>tv σ H fun y H1=>ta σ H1 fun x H2=>∃ a C dx fs,x=.ref a∧H2 a=some (.ins C dx fs)∧Cls K C∧NoAttr K C f∧fs.length < 1000 ∧
 D.nx σ (upd H2 a (.ins C dx (putF f y fs)))
section
variable {X:Cx}{o e value:Expr}{f:Str}{pos pos' tpos:Pos}{ta tv:TE}
theorem zanm (he:PE X e ta) (hb:attributeBase e f X.env (eval e X.env)=eval e X.env):PE X (.Attribute e f pos) (tFld X.K ta f):=by
 intro pins s σ H Q I h
 refine zalr hb (thn (he pins s σ H _ I h) fun u s1 ⟨x,H1,I1,rx,a,C,dx,fs,v,ex,ea,c,n,l,q⟩=>?_)
 subst ex
 obtain rfl:u=Value.ref a:=rx
 exact zahn I1 ea c n l fun u' s2 I2 ru=>⟨v,H1,I2,ru,q⟩
theorem zann (ha:PE X o ta) (hv:PE X value tv) (hs:swapsWith value (some (.Attribute o f pos')) pos.line X.env=pure false):PS X (.Assign [.Attribute o f pos'] value pos) (sFld X.K ta tv f):=by
 intro pins s σ H D I h
 refine plainObj_wpAny_Assign_Attribute (thn (hv pins s σ H _ I h) fun u s1 ⟨y,H1,I1,ry,q⟩=>thn (ha pins s1 σ H1 _ I1 q) fun ov s2 ⟨x,H2,I2,rx,a,C,dx,fs,ex,ea,c,n,l,q2⟩=>?_) hs
 subst ex
 obtain rfl:ov=Value.ref a:=rx
 exact zaho I2 ea c n l ry fun s3 I3=>⟨σ,_,I3,q2⟩
end
section
variable {X:Cx}{pins:List (Addr × Obj)}{σ:St}{H:Hp}{s:Shared}{A:Around}{E:Value→Shared→Prop}{Q:Value→Shared→Prop}{c:Value}{b:Bool}
inductive TyOf (K:PySem.W.Frag) (H:Hp):V→Value→Prop where
 | non:TyOf K H .non (.type "NoneType")
 | bl (x:Bool):TyOf K H (.bl x) (.type "bool")
 | int (i:Int):TyOf K H (.int i) (.type "int")
 | str (x:Str):TyOf K H (.str x) (.type "str")
 | flt (x:UInt64):TyOf K H (.flt x) (.type "float")
 | lst {a:Addr}{xs:List V} (e:H a=some (.lst xs)):TyOf K H (.ref a) (.type "list")
 | frz {a:Addr}{o:Obj}{xs:List V} (e:H a=some (.frz o (.lst xs))):TyOf K H (.ref a) (.type "list")
 | tup {a:Addr}{xs:List V} (e:H a=some (.tup xs)):TyOf K H (.ref a) (.type "tuple")
 | dK {a:Addr}{kvs:List (Key × V)} (e:H a=some (.dK kvs)):TyOf K H (.ref a) (.type "dict")
 | dT {a:Addr}{kvs:List (List Key × V)} (e:H a=some (.dT kvs)):TyOf K H (.ref a) (.type "dict")
 | ins {a C dx:Addr}{fs:List (Str × V)} (e:H a=some (.ins C dx fs)) (cl:Cls K C) (ha:PySem.W.findIn K (.ref C) "__class__" = some (some (.builtin "object.__class__")))
   (hn:PySem.W.specialIn K (.builtin "object.__class__") "__get__" = some (some (.builtin "getset_descriptor.__get__"))) (htk:PySem.W.takesIn K (.builtin "object.__class__")=some true)
   (hm:PySem.W.mroIn K C (.type "object")=some true):TyOf K H (.ref a) (.ref C)
theorem zaif {x:V}{u t:Value} (I:Inv X pins σ H s) (rx:RelV x u) (ty:TyOf X.K H x t) (e:PySem.W.kitOne X.K t c=some b) (h:∀ tk,Q (.bool b) { s with toks:=tk }) :
  wpAny (model X.prog X.w) A (call (.builtin "isinstance") [u,c]) Q E s:=by
 cases ty with
 | non=>cases (show u=Value.none from rx); exact PySem.W.kia_one PySem.W.kitx_none I.kIn True.intro e (fun z=>nomatch z) h
 | bl y=>cases (show u=Value.bool y from rx); exact PySem.W.kia_one PySem.W.kitx_bool I.kIn True.intro e (fun z=>nomatch z) h
 | int i=>obtain ⟨t,q⟩:=(show ∃ t,u=Value.int i t from rx); cases q; exact PySem.W.kia_one PySem.W.kitx_int I.kIn True.intro e (fun z=>nomatch z) h
 | str y=>obtain ⟨t,q⟩:=(show ∃ t,u=Value.str y t from rx); cases q; exact PySem.W.kia_one PySem.W.kitx_str I.kIn True.intro e (fun z=>nomatch z) h
 | flt y=>obtain ⟨t,q⟩:=(show ∃ t,u=Value.float y t from rx); cases q; exact PySem.W.kia_one PySem.W.kitx_float I.kIn True.intro e (fun z=>nomatch z) h
 | @lst a xs ea =>
  cases (show u=Value.ref a from rx)
  obtain ⟨_,_,n,_,h1⟩:=(show ObjOk X.prog X.w H s.heap a (.lst xs) from I.hok a _ ea)
  exact PySem.W.kia_one PySem.W.kitx_list I.kIn ⟨_,h1,rfl⟩ e (fun z=>nomatch z) h
 | @frz a ob xs ea =>
  cases (show u=Value.ref a from rx)
  obtain ⟨_,_,_,n,_,h1⟩:=(show ObjOk X.prog X.w H s.heap a (.frz ob (.lst xs)) from I.hok a _ ea)
  exact PySem.W.kia_one PySem.W.kitx_list I.kIn ⟨_,h1,rfl⟩ e (fun z=>nomatch z) h
 | @tup a xs ea =>
  cases (show u=Value.ref a from rx)
  obtain ⟨_,_,_,p⟩:=(show ObjOk X.prog X.w H s.heap a (.tup xs) from I.hok a _ ea)
  obtain ⟨o,h1,h2,_⟩:=p
  exact PySem.W.kia_one PySem.W.kitx_tuple I.kIn ⟨o,h1,h2⟩ e (fun z=>nomatch z) h
 | @dK a kvs ea =>
  cases (show u=Value.ref a from rx)
  obtain ⟨_,_,vs,_,p⟩:=(show ObjOk X.prog X.w H s.heap a (.dK kvs) from I.hok a _ ea)
  obtain ⟨o,es,ep,h1,h2,_⟩:=p
  exact PySem.W.kia_one PySem.W.kitx_dict I.kIn ⟨o,h1,h2.1⟩ e (fun z=>nomatch z) h
 | @dT a kvs ea =>
  cases (show u=Value.ref a from rx)
  obtain ⟨_,_,xs,_,o,es,ep,h1,h2,_⟩:=(show ObjOk X.prog X.w H s.heap a (.dT kvs) from I.hok a _ ea)
  exact PySem.W.kia_one PySem.W.kitx_dict I.kIn ⟨o,h1,h2.1⟩ e (fun z=>nomatch z) h
 | @ins a C dx fs ea cl ha hn htk hm =>
  cases (show u=Value.ref a from rx)
  obtain ⟨mA,O,_⟩:=zae1 I.hok ea
  obtain ⟨od,J,_⟩:=O.look
  exact PySem.W.kia_one (PySem.W.kitx_own (cl.get _) cl.hd ha hn htk hm) I.kIn J e (fun z=>nomatch z) h
end
structure Room (k:Nat) (A:Around):Prop where
 hd:A.handled=none
 dp:A.depth + 3 * k + 5 < recursionLimit
 un:A.units + 16 * k + 200 < cLine
theorem Room.mono {j k:Nat}{A:Around} (r:Room k A) (h:j≤k):Room j A:=⟨r.hd,by have:=r.dp; omega,by have:=r.un; omega⟩
theorem Room.deeper {k:Nat}{A:Around} (r:Room (k + 1) A) (env:Env):Room k (A.deeper env) :=
 ⟨r.hd,by have:=r.dp; show A.depth + 1 + 3 * k + 5 < _; omega,by have:=r.un; show A.units + 3 + 16 * k + 200 < _; omega⟩
theorem zahp {A:Around}{C:Addr}{us:List Value}{kw:List (Str × Value)}:(A.under (.builtin "type.__call__" ⟨.ref C :: us,kw⟩)).depth=A.depth + 1:=by
 first | rfl | simp [Around.under,Code.weight,Code.isCreation,Code.isGuard,Code.isCaller,Code.frames,Code.isFrame,guardIds]
theorem zahq {A:Around}{C:Addr}{us:List Value}{kw:List (Str × Value)}:(A.under (.builtin "type.__call__" ⟨.ref C :: us,kw⟩)).units=A.units + 1:=by
 first | rfl | simp [Around.under,Code.cUnits,Code.frames,Code.isFrame]
theorem Room.make {k:Nat}{A:Around} (r:Room (k + 1) A) (C:Addr) (us:List Value) (kw:List (Str × Value)):Room k (A.under (.builtin "type.__call__" ⟨.ref C :: us,kw⟩)) :=
 ⟨r.hd,by have:=r.dp; rw [zahp]; omega,by have:=r.un; rw [zahq]; omega⟩
theorem Room.depth {k:Nat}{A:Around} (r:Room k A):A.depth < recursionLimit:=by have:=r.dp; omega
theorem Room.units {k:Nat}{A:Around} (r:Room k A):A.units + 64 < cLine:=by have:=r.un; omega
def tNil:TA:=fun _ H Q=>Q [] H
def tCons (ta:TE) (tr:TA):TA:=fun σ H Q=>ta σ H fun x H1=>tr σ H1 fun xs H2=>Q (x :: xs) H2
section
variable {X:Cx}{e:Expr}{es:List Expr}{te:TE}{t:TA}{pos:Pos}
theorem zano:PA X [] tNil:=fun _ _ _ _ H Q I h=>Calls.spliced_nil ⟨[],H,I,.nil,h⟩
theorem zals (ha:PE X e te) (hr:PA X es t) (hs:starEach (e :: es) X.env=(false,eval e X.env) :: starEach es X.env:=by rfl):PA X (e :: es) (tCons te t):=by
 intro pos pins s σ H Q I h
 rw [hs]
 show wpAny _ _ (spliced ((false,eval e X.env) :: backTo pos (starEach es X.env))) _ _ s
 refine Calls.spliced_cons (thn (ha pins s σ H _ I h) fun u s1 ⟨x,H1,I1,r1,q1⟩=>?_)
 exact thn (hr pos pins s1 σ H1 _ I1 q1) fun us s2 ⟨xs,H2,I2,r2,q2⟩=>⟨x :: xs,H2,I2,.cons r1 r2,q2⟩
def tTup (t:TA):TE:=fun σ H Q=>t σ H fun xs H1=>xs.length≤sizeLine∧∀ p,H1 p=none→Q (.ref p) (upd H1 p (.tup xs))
def tLst (t:TA):TE:=fun σ H Q=>t σ H fun xs H1=>xs.length≤sizeLine∧∀ p,H1 p=none→Q (.ref p) (upd H1 p (.lst xs))
theorem zanp {x1} (h:PA X es t):PE X (.Tuple es x1 pos) (tTup t):=by
 intro pins s σ H Q I hq
 refine wpAny_Tuple_spliced (thn (h pos pins s σ H _ I hq) fun us s1 ⟨xs,H1,I1,r,z,q⟩=>⟨by rw [← r.length]; exact z,?_⟩)
 have hf:H1 s1.heap.objs.size=none:=I1.hok.fresh (Nat.le_refl _)
 refine ⟨.ref s1.heap.objs.size,upd H1 s1.heap.objs.size (.tup xs),I1.laid (t':=s1.toks) (fun b u e=>Heap.get?_push_of_some _ e) (Nat.le_refl _) ?_,rfl,q _ hf⟩
 exact ⟨z,us,r,⟨_,Heap.get?_push_size _ rfl,rfl,_,rfl⟩⟩
theorem zanq (h:PA X es t):PE X (.List es pos) (tLst t):=by
 intro pins s σ H Q I hq
 refine wpAny_List_spliced (thn (h pos pins s σ H _ I hq) fun us s1 ⟨xs,H1,I1,r,z,q⟩=>⟨by rw [← r.length]; exact z,?_⟩)
 have hf:H1 s1.heap.objs.size=none:=I1.hok.fresh (Nat.le_refl _)
 refine ⟨.ref s1.heap.objs.size,upd H1 s1.heap.objs.size (.lst xs),I1.laid (t':=s1.toks) (fun b u e=>Heap.get?_push_of_some _ e) (Nat.le_refl _) ?_,rfl,q _ hf⟩
 exact ⟨z,us,0,r,Heap.get?_push_size _ rfl⟩
end
abbrev Sp:=List V→Hp→VK→XK→Prop
abbrev CXT:=List Env→Hp→Shared→XK→Value→Shared→Prop
structure Env0 (P:Program) (w:World) (K:PySem.W.Frag) (mg:Str→Option Value) (base:Heap) (A:Around) (outer:List Env) (s:Shared) (H:Hp):Prop where
 frames:A.frames=some outer
 mod:Mod K mg base
 bs:∀ b o,base.get? b=some o→s.heap.get? b=some o∧H b=none
 bsz:base.objs.size≤s.heap.objs.size
 funs:s.heap.FunFrames base outer
 frf:∀ b∈frs outer,H b=none
 hok:HOk P w H s.heap
 bare:AllBare s.gens
def CE (outer:List Env) (P:Program) (w:World) (H:Hp) (s:Shared) (Q:VK) (u:Value) (s':Shared):Prop :=
 ∃ v H',s'.os=s.os∧AllBare s'.gens∧Un (frs outer) [] H H' s.heap s'.heap∧HOk P w H' s'.heap∧RelV v u∧Q v H'
def CR (CX:CXT) (outer:List Env) (P:Program) (w:World) (H:Hp) (s:Shared) (Q:VK) (E:XK) (r:Result) (s':Shared):Prop :=
 match r with
 | .ok (.ret u)=>CE outer P w H s Q u s'
 | .ok _=>False
 | .error e=>CX outer H s E e s'
structure FnOk (P:Program) (w:World) (K:PySem.W.Frag) (mg:Str→Option Value) (base:Heap) (CX:CXT) (k:Nat) (f:Addr) (fd:FuncData) (ps:List Str) (sp:Sp):Prop where
 len:∀ vs H Q E,sp vs H Q E→vs.length=ps.length
 run:∀ (A:Around) (outer:List Env) (s:Shared) (H:Hp) (args:Args) (us:List Value) (vs:List V) (Q:VK) (E:XK),Room k A→Env0 P w K mg base A outer s H→BindsTo s fd args (ps.zip us)→Vals vs us→sp vs H Q E →
  codeAny (model P w) A (.call (.ref f) args) (CR CX outer P w H s Q E) s
theorem FnOk.mono {P:Program}{w:World}{K:PySem.W.Frag}{mg:Str→Option Value}{base:Heap}{CX:CXT}{j k:Nat}{f:Addr}{fd:FuncData}{ps:List Str}{sp:Sp} (F:FnOk P w K mg base CX j f fd ps sp) (h:j≤k) :
  FnOk P w K mg base CX k f fd ps sp:=⟨F.len,fun A outer s H args us vs Q E hr=>F.run A outer s H args us vs Q E (hr.mono h)⟩
theorem FnOk.imp {P:Program}{w:World}{K:PySem.W.Frag}{mg:Str→Option Value}{base:Heap}{CX:CXT}{k:Nat}{f:Addr}{fd:FuncData}{ps:List Str}{sp sp':Sp} (F:FnOk P w K mg base CX k f fd ps sp)
  (h:∀ vs H Q E,sp' vs H Q E→sp vs H Q E):FnOk P w K mg base CX k f fd ps sp' :=
 ⟨fun vs H Q E q=>F.len vs H Q E (h _ _ _ _ q),fun A outer s H args us vs Q E hr he hb hv hs=>F.run A outer s H args us vs Q E hr he hb hv (h _ _ _ _ hs)⟩
theorem Env0.make {P:Program}{w:World}{K:PySem.W.Frag}{mg:Str→Option Value}{base:Heap}{A:Around}{outer:List Env}{s:Shared}{H:Hp} (e:Env0 P w K mg base A outer s H) (C:Addr) (us:List Value) (kw:List (Str × Value)) :
  Env0 P w K mg base (A.under (.builtin "type.__call__" ⟨.ref C :: us,kw⟩)) outer s H:=⟨by first | exact e.frames | (simpa [Around.under,Code.envs,Code.isFrame,pushEnvs] using e.frames),e.mod,e.bs,e.bsz,e.funs,e.frf,e.hok,e.bare⟩
section
variable {X:Cx}{pins:List (Addr × Obj)}{σ:St}{H:Hp}{s s':Shared}
theorem Inv.env0 (I:Inv X pins σ H s):Env0 X.prog X.w X.K X.mg X.base X.A X.stack s H :=
 ⟨I.ok.frames,I.ok.mod,I.bs,Nat.le_trans I.ok.bsz I.sz,I.stack,I.stkFree,I.hok,I.bare⟩
theorem Inv.after {Q:VK}{u:Value} (I:Inv X pins σ H s) (h:CE X.stack X.prog X.w H s Q u s'):EP X pins σ Q u s':=by
 obtain ⟨v,H',os,bare,un,hok,r,q⟩:=h
 obtain ⟨hh,g,d,t,os'⟩:=s'
 obtain rfl:os'=s.os:=os
 exact ⟨v,H',I.call (h':=hh) (g':=g) (d':=d) (t':=t) (ch:=[]) un hok bare (fun b z=>absurd z (by simp)),r,q⟩
end
def tCall (sp:Sp) (dvs:List V) (E:XK) (t:TA):TE:=fun σ H Q=>t σ H fun vs H1=>sp (vs++dvs) H1 Q E
def tMake (C:Addr) (sp:Sp) (dvs:List V) (E:XK) (t:TA):TE:=fun σ H Q=>t σ H fun vs H1=>∀ x dx,H1 x=none→H1 dx=none→dx≠x →
 sp (.ref x :: (vs++dvs)) (upd (upd H1 dx (.own x)) x (.ins C dx [])) (fun v H2=>v=.non∧Q (.ref x) H2) E
def Binds (K:PySem.W.Frag) (fd:FuncData) (ps:List Str) (ds:List Value):Prop :=
 ∀ (s:Shared) (us:List Value),K.In s.heap→(us++ds).length=ps.length→BindsTo s fd ⟨us,[]⟩ (ps.zip (us++ds))
theorem Binds.all {K:PySem.W.Frag}{fd:FuncData}{ps:List Str} (h:∀ us:List Value,us.length=ps.length→bindArgs fd ⟨us,[]⟩=pure (ps.zip us)):Binds K fd ps []:=fun s us _ hl=>by
 rw [List.append_nil] at hl ⊢
 exact .of_eq (h us hl)
def Passes (CX:CXT) (X:Cx) (E:XK):Prop:=∀ (pins:List (Addr × Obj)) (σ:St) (H:Hp) (s:Shared) (e:Value) (s':Shared),Inv X pins σ H s→CX X.stack H s E e s'→X.xe e s'
section
variable {X:Cx}{CX:CXT}{k:Nat}{f C:Addr}{fd:FuncData}{ps:List Str}{sp:Sp}{dvs:List V}{ds:List Value}{E:XK}{x m:Str}{p pos apos:Pos}{e o:Expr}{es:List Expr}{ta:TE}{t:TA}
theorem zak4 {pins:List (Addr × Obj)}{σ:St}{H:Hp}{s:Shared}{Q:VK}{us:List Value}{vs:List V} (F:FnOk X.prog X.w X.K X.mg X.base CX k f fd ps sp) (hr:Room k X.A) (hb:Binds X.K fd ps ds) (hd:Vals dvs ds) (hx:Passes CX X E)
  (I:Inv X pins σ H s) (r:Vals vs us) (h:sp (vs++dvs) H Q E):wpAny (model X.prog X.w) X.A (call (.ref f) us) (EP X pins σ Q) X.xe s:=by
 have r2:Vals (vs++dvs) (us++ds):=r.append hd
 have hl:(us++ds).length=ps.length:=by rw [← r2.length]; exact F.len _ _ _ _ h
 refine wpAny_call (codeAny_mono (F.run X.A X.stack s H ⟨us,[]⟩ (us++ds) (vs++dvs) Q E hr I.env0 (hb s us I.kIn hl) r2 h) fun r s' hq=>?_)
 cases r with
 | error e=>exact hx pins σ H s e s' I hq
 | ok fl =>
  cases fl with
  | ret u=>exact I.after hq
  | next=>exact False.elim hq
  | brk=>exact False.elim hq
  | cont=>exact False.elim hq
theorem zalt (F:FnOk X.prog X.w X.K X.mg X.base CX k f fd ps sp) (hr:Room k X.A) (hg:Gl X x) (hm:X.mg x=some (.ref f)) (hk:PySem.W.keepIn X.K (.ref f)=true) (hb:Binds X.K fd ps ds) (hd:Vals dvs ds) (hx:Passes CX X E)
  (ha:PA X (e :: es) t) (hdb:(x == ("__debug__" : Str))=false:=by decide) (he:starEach (e :: es) X.env=(false,eval e X.env) :: starEach es X.env:=by rfl) (hpl:(backTo pos (starEach es X.env)).any (·.1)=false:=by rfl) :
  PE X (.Call (.Name x p) (e :: es) [] pos) (tCall sp dvs E t):=by
 intro pins s σ H Q I h
 refine wpAny_Call_Name_kw (zagb I hg hm ?_ hdb)
 refine PySem.W.callWith_K (h₀:=X.base) I.ok.mod.kin hk (thn (ha pos pins s σ H _ I h) fun us s1 ⟨vs,H1,I1,r,q⟩=>⟨I1.kIn,?_⟩) he hpl
 exact zak4 F hr hb hd hx I1 r q
structure Mk (K:PySem.W.Frag) (C f:Addr):Prop where
 makes:PySem.W.makesIn K C=true
 init:PySem.W.findIn K (.ref C) "__init__" = some (some (.ref f))
 fn:PySem.W.isFn K (.ref f)=true
 kp:PySem.W.keepIn K (.ref C)=true
theorem zaj8 {pins:List (Addr × Obj)}{σ:St}{H:Hp}{s:Shared}{Q:VK}{us:List Value}{vs:List V} (M:Mk X.K C f) (F:FnOk X.prog X.w X.K X.mg X.base CX k f fd ps sp) (hr:Room (k + 1) X.A) (hb:Binds X.K fd ps ds) (hd:Vals dvs ds)
  (hx:Passes CX X E) (I:Inv X pins σ H s) (r:Vals vs us)
  (h:∀ x dx,H x=none→H dx=none→dx≠x→sp (.ref x :: (vs++dvs)) (upd (upd H dx (.own x)) x (.ins C dx [])) (fun v H2=>v=.non∧Q (.ref x) H2) E) :
  wpAny (model X.prog X.w) X.A (call (.ref C) us) (EP X pins σ Q) X.xe s:=by
 have hq:=h (s.heap.objs.size + 1) s.heap.objs.size (I.hok.fresh (Nat.le_succ _)) (I.hok.fresh (Nat.le_refl _)) (Nat.ne_of_lt (Nat.lt_succ_self _))
 have I2:=Inv.made (C:=C) I
 have r2:Vals (V.ref (s.heap.objs.size + 1) :: (vs++dvs)) (Value.ref (s.heap.objs.size + 1) :: (us++ds)):=.cons rfl (r.append hd)
 have hl:(Value.ref (s.heap.objs.size + 1) :: us++ds).length=ps.length:=by
  have e:=r2.length
  rw [F.len _ _ _ _ hq] at e
  exact e.symm
 refine wpAny_call (zaj7 (f:=f) I.kIn M.makes M.init (beq_iff_eq.mp M.fn) (codeAny_mono (F.run _ X.stack _ _ ⟨Value.ref (s.heap.objs.size + 1) :: us,[]⟩ (Value.ref (s.heap.objs.size + 1) :: (us++ds)) _ _ E (hr.make C us [])
  (I2.env0.make C us []) (hb _ (Value.ref (s.heap.objs.size + 1) :: us) I2.kIn hl) r2 hq) fun r s' hq'=>?_))
 cases r with
 | error e=>exact hx pins σ _ _ e s' I2 hq'
 | ok fl =>
  cases fl with
  | ret u =>
   obtain ⟨v,H',I3,rv,ev,q3⟩:=I2.after hq'
   subst ev
   exact ⟨rv,⟨V.ref (s.heap.objs.size + 1),H',I3,rfl,q3⟩⟩
  | next=>exact False.elim hq'
  | brk=>exact False.elim hq'
  | cont=>exact False.elim hq'
theorem zalu (M:Mk X.K C f) (F:FnOk X.prog X.w X.K X.mg X.base CX k f fd ps sp) (hr:Room (k + 1) X.A) (hg:Gl X x) (hm:X.mg x=some (.ref C)) (hb:Binds X.K fd ps ds) (hd:Vals dvs ds) (hx:Passes CX X E)
  (ha:PA X (e :: es) t) (hdb:(x == ("__debug__" : Str))=false:=by decide) (he:starEach (e :: es) X.env=(false,eval e X.env) :: starEach es X.env:=by rfl) (hpl:(backTo pos (starEach es X.env)).any (·.1)=false:=by rfl) :
  PE X (.Call (.Name x p) (e :: es) [] pos) (tMake C sp dvs E t):=by
 intro pins s σ H Q I h
 refine wpAny_Call_Name_kw (zagb I hg hm ?_ hdb)
 refine PySem.W.callWith_K (h₀:=X.base) I.ok.mod.kin M.kp (thn (ha pos pins s σ H _ I h) fun us s1 ⟨vs,H1,I1,r,q⟩=>⟨I1.kIn,?_⟩) he hpl
 exact zaj8 M F hr hb hd hx I1 r q
end
structure FnScope (N P:List Str) (sc:Scope):Prop where
 kind:sc.kind=.function
 co:sc.isCoroutine=false
 gen:sc.isGenerator=false
 nd:N.Nodup
 pre:N.take P.length=P
 par:∀ x∈P,sc.names.lookup x=some .local∨sc.names.lookup x=some .cell
 nofree:∀ y∈sc.names,y.2≠.free
theorem zafm {kindOf:Str→Option NameKind}{x:Str}:∀ {binds:List (Str × Value)}{m:Str→Option Value},(∀ v,(x,v) ∉ binds)→bindL kindOf binds m x=m x
 | [],_,_=>rfl
 | (n,v) :: r,m,h=>by
  unfold bindL
  rw [zafm fun w hw=>h w (List.mem_cons_of_mem _ hw)]
  split
  ·have:x≠n:=by rintro rfl; exact h v List.mem_cons_self
   simp [this]
  ·rfl
theorem zafn {kindOf:Str→Option NameKind}{x:Str}:∀ {binds:List (Str × Value)}{m:Str→Option Value},(∀ v,(x,v) ∉ binds)→bindC kindOf binds m x=m x
 | [],_,_=>rfl
 | (n,v) :: r,m,h=>by
  unfold bindC
  rw [zafn fun w hw=>h w (List.mem_cons_of_mem _ hw)]
  split
  ·rfl
  ·have:x≠n:=by rintro rfl; exact h v List.mem_cons_self
   simp [this]
theorem zafo {kindOf:Str→Option NameKind}{x:Str}{v:Value}:∀ {P:List Str}{vs:List Value}{i:Nat}{m:Str→Option Value},P.Nodup→P[i]?=some x→vs[i]?=some v→kindOf x=some .local →
  bindL kindOf (P.zip vs) m x=some v
 | [],_,_,_,_,h,_,_=>by simp at h
 | _ :: _,[],_,_,_,_,h,_=>by simp at h
 | p :: P,w :: vs,0,m,nd,h1,h2,hk=>by
  simp at h1 h2; subst h1; subst h2
  show bindL kindOf ((p,w) :: P.zip vs) m p=_
  unfold bindL
  rw [zafm fun v hv=>(List.nodup_cons.mp nd).1 (List.of_mem_zip hv).1,if_pos hk]
  simp
 | p :: P,w :: vs,i + 1,m,nd,h1,h2,hk=>by
  show bindL kindOf ((p,w) :: P.zip vs) m x=_
  unfold bindL
  exact zafo (i:=i) (List.nodup_cons.mp nd).2 (by simpa using h1) (by simpa using h2) hk
theorem zafp {kindOf:Str→Option NameKind}{x:Str}{v:Value}:∀ {P:List Str}{vs:List Value}{i:Nat}{m:Str→Option Value},P.Nodup→P[i]?=some x→vs[i]?=some v→kindOf x≠some .local →
  bindC kindOf (P.zip vs) m x=some v
 | [],_,_,_,_,h,_,_=>by simp at h
 | _ :: _,[],_,_,_,_,h,_=>by simp at h
 | p :: P,w :: vs,0,m,nd,h1,h2,hk=>by
  simp at h1 h2; subst h1; subst h2
  show bindC kindOf ((p,w) :: P.zip vs) m p=_
  unfold bindC
  rw [zafn fun v hv=>(List.nodup_cons.mp nd).1 (List.of_mem_zip hv).1,if_neg hk]
  simp
 | p :: P,w :: vs,i + 1,m,nd,h1,h2,hk=>by
  show bindC kindOf ((p,w) :: P.zip vs) m x=_
  unfold bindC
  exact zafp (i:=i) (List.nodup_cons.mp nd).2 (by simpa using h1) (by simpa using h2) hk
def start (N:List Str) (vs:List V):St:=vs.map some++List.replicate (N.length - vs.length) none
def cxOf (CX:CXT) (P:Program) (w:World) (K:PySem.W.Frag) (mg:Str→Option Value) (base:Heap) (N:List Str) (qual:Str) (scope:Scope) (f:Addr) (cd:Value) (A:Around) (outer:List Env) (s:Shared) (H:Hp) (E:XK):Cx where
 prog:=P
 w:=w
 K:=K
 mg:=mg
 base:=base
 A:=A.deeper (envOfC qual scope s.heap.objs.size f cd)
 N:=N
 s₀:=s
 H₀:=H
 env:=envOfC qual scope s.heap.objs.size f cd
 outer:=outer
 stack:=envOfC qual scope s.heap.objs.size f cd :: outer
 ex:=[]
 calm:=true
 fn:=fun _=>true
 pn:=[]
 xe:=fun e s'=>wpAny (model P w) (A.deeper (envOfC qual scope s.heap.objs.size f cd)) (leaving (envOfC qual scope s.heap.objs.size f cd) e) (fun _ s''=>CX outer H s E e s'') (fun e' s''=>CX outer H s E e' s'') s'
theorem zag8 {sc:Scope}{n:Nat}{x:Str} (h:sc.names.lookup x=some .cell):∃ c,(cellsFrom n sc.names []).lookup x=some c:=by
 have q:=PySem.W.cellsFrom_some sc.names n [] (.inl h)
 exact Option.isSome_iff_exists.mp q
theorem zaig {CX:CXT}{P:Program}{w:World}{K:PySem.W.Frag}{mg:Str→Option Value}{base:Heap}{N ps:List Str}{qual:Str}{scope:Scope}{f:Addr}{cd:Value}{A:Around}{outer:List Env}{s s1:Shared}{H:Hp}{E:XK}{us:List Value}{vs:List V}
  (S:FnScope N ps scope) (hd:A.handled=none) (e0:Env0 P w K mg base A outer s H) (hl:vs.length=ps.length) (r:Vals vs us)
  (x:InCallC s s.heap.objs.size (bindL (envOfC qual scope s.heap.objs.size f cd).kindOf (ps.zip us) fun _=>none) (cellsFrom (s.heap.objs.size + 1) scope.names []) (bindC (envOfC qual scope s.heap.objs.size f cd).kindOf (ps.zip us) fun _=>none) s1) :
  Inv (cxOf CX P w K mg base N qual scope f cd A outer s H E) [] (start N vs) H s1:=by
 have hpl:ps.length≤N.length:=by have:=congrArg List.length S.pre; rw [List.length_take] at this; omega
 obtain ⟨h1,tk,rfl,hk⟩:=x.done
 have noA:∀ b:Addr,b ∉ (cxOf CX P w K mg base N qual scope f cd A outer s H E).ex:=fun b z=>absurd (show b∈([]:List Addr) from z) (by simp)
 refine ⟨⟨e0.mod,S.kind,rfl,rfl,Nat.le_refl _,fun y z c h1 h2=>?_,fun y hy=>?_,fun y c _ h=>?_,fun _=>hd,Around.frames_deeper e0.frames,.inr ⟨rfl,rfl⟩,fun b z=>absurd z (noA b),e0.bs,e0.bsz,fun b _ _=>noA b,fun b z=>absurd z (noA b),e0.funs,e0.frf⟩,
  rfl,e0.bare,Un.kept hk,⟨_,x.toInCall.ns,fun i y v h1 h2 h3=>?_⟩,fun y c h=>⟨_,x.cell y c h⟩,e0.hok.fresh (Nat.le_refl _),fun y c h=>?_,fun p hp=>absurd (show p∈([]:List (Addr × Obj)) from hp) (by simp),e0.hok.kept hk,?_⟩
 ·exact name_of_addr x.apart (PySem.mem_of_lookup h1) (PySem.mem_of_lookup h2)
 ·have hy:scope.names.lookup y=some .cell∨scope.names.lookup y=some .free:=hy
  rcases hy with hy | hy
  ·exact zag8 hy
  ·exact absurd rfl (S.nofree _ (PySem.mem_of_lookup hy))
 ·exact Nat.le_of_lt (x.above y c (PySem.mem_of_lookup h))
 ·have hi:i < vs.length:=by
   unfold start at h2
   by_cases hi:i < vs.length
   ·exact hi
   ·rw [List.getElem?_append_right (by simpa using hi)] at h2
    rw [List.getElem?_replicate] at h2
    split at h2 <;> cases h2
  have ha:vs[i]?=some v:=by
   unfold start at h2
   rw [List.getElem?_append_left (by simpa using hi),List.getElem?_map] at h2
   cases e:vs[i]? with
   | none=>rw [e] at h2; cases h2
   | some a=>rw [e] at h2; cases h2; rfl
  obtain ⟨u,hu,rv⟩:=r.get ha
  have hp:ps[i]?=some y:=by
   rw [← S.pre,List.getElem?_take_of_lt (by omega)]; exact h1
  have ndP:ps.Nodup:=by rw [← S.pre]; exact S.nd.sublist (List.take_sublist _ _)
  refine ⟨u,rv,?_⟩
  rcases S.par y (List.mem_of_getElem? hp) with k | k
  ·exact .inl ⟨k,zafo ndP hp hu k⟩
  ·obtain ⟨c,e⟩:=zag8 (n:=s.heap.objs.size + 1) k
   refine .inr ⟨.inl k,c,e,?_⟩
   have q:=x.cell y c e
   rw [zafp ndP hp hu (by show scope.names.lookup y≠_; rw [k]; decide)] at q
   exact q
 ·exact e0.hok.fresh (Nat.le_of_lt (x.above y c (PySem.mem_of_lookup h)))
 ·unfold start
  show _=N.length
  rw [List.length_append,List.length_map,List.length_replicate]
  omega
theorem zapc {CX:CXT}{P:Program}{w:World}{K:PySem.W.Frag}{mg:Str→Option Value}{base:Heap}{k:Nat}{f:Addr}{name qual:Str}{params:Arguments}{body:List Stmt}{scope:Scope}{dV kV doc pm cdv ct oc:Value}{an od:Option Addr}
  {osl:Array (Option Value)}{N ps:List Str}{sp:Sp} (lk:K.lookup f=some ⟨oc,od,.func (PySem.W.fnOf name qual params body scope dV kV doc pm an cdv ct),osl⟩) (hcd:PySem.W.codeIn K cdv qual=true) (S:FnScope N ps scope)
  (len:∀ vs H Q E,sp vs H Q E→vs.length=ps.length)
  (hbody:∀ (A:Around) (outer:List Env) (s:Shared) (H:Hp) (vs:List V) (Q:VK) (E:XK),Room k (A.deeper (envOfC qual scope s.heap.objs.size f cdv))→sp vs H Q E →
   ∃ t,PSs (cxOf CX P w K mg base N qual scope f cdv A outer s H E) body t∧t { nx:=fun _ H'=>Q .non H',rt:=Q } (start N vs) H) :
  FnOk P w K mg base CX (k + 1) f (PySem.W.fnOf name qual params body scope dV kV doc pm an cdv ct) ps sp:=by
 refine ⟨len,fun A outer s H args us vs Q E hr e0 hb r hsp=>?_⟩
 have hl:=len _ _ _ _ hsp
 have KX:K.In s.heap:=e0.mod.kin.keeps fun b o e=>(e0.bs b o e).1
 have lim:s.heap.NoLimit:=e0.mod.nolimit.keeps fun b o e=>(e0.bs b o e).1
 have hkind:∀ y∈ps.zip us,scope.names.lookup y.1=some .local∨(scope.names.lookup y.1=some .cell∧((cellsFrom (s.heap.objs.size + 1) scope.names []).lookup y.1).isSome=true):=fun ⟨n,v⟩ hy=>by
  rcases S.par n (List.of_mem_zip hy).1 with q | q
  ·exact .inl q
  ·exact .inr ⟨q,PySem.W.cellsFrom_some _ _ _ (.inl q)⟩
 refine codeAny_call_function hr.depth (KX _ _ lk) rfl S.co S.gen rfl (PySem.W.codeRec_of KX hcd) (hb _ _ _ _ ?_)
 refine wpAny_newFunctionEnv_cells S.kind hkind fun env he s1 x=>?_
 subst he
 refine ⟨lim.keeps x.toInCall.keep,codeAny_func ?_⟩
 obtain ⟨t,ht,hq⟩:=hbody A outer s H vs Q E (hr.deeper _) hsp
 have I:Inv (cxOf CX P w K mg base N qual scope f cdv A outer s H E) [] (start N vs) H s1:=zaig S hr.hd e0 hl r x
 refine wpAny_mono (ht [] s1 (start N vs) H _ I hq) (fun fl s' hs=>?_) fun e s' hs=>hs
 have fin:∀ {σ':St}{H':Hp}{v:V}{u:Value},Inv (cxOf CX P w K mg base N qual scope f cdv A outer s H E) [] σ' H' s'→RelV v u→Q v H'→CE outer P w H s Q u s' :=
  fun {σ' H' v u} J rv q=>⟨v,H',J.os,J.bare,J.base,J.hok,rv,q⟩
 cases fl with
 | ret u =>
  obtain ⟨v,σ',H',J,rv,q⟩:=hs
  exact fin J rv q
 | next =>
  obtain ⟨σ',H',J,q⟩:=hs
  exact fin (v:=V.non) (u:=Value.none) J rfl q
 | brk =>
  obtain ⟨_,_,_,q⟩:=hs
  exact False.elim q
 | cont =>
  obtain ⟨_,_,_,q⟩:=hs
  exact False.elim q
section
variable {X:Cx}{x:Str}{p pos:Pos}{e:Expr}{es:List Expr}{t:TA}{id T:String}{r:List V→Hp→VK→Prop}
def tCB (r:List V→Hp→VK→Prop) (t:TA):TE:=fun σ H Q=>t σ H fun vs H1=>r vs H1 Q
theorem zaj9 (hc:CallR X (.builtin id) r) (hg:Gl X x) (hm:X.mg x=none) (hv:bootBuiltins x=some (.builtin id)) (ha:PA X (e :: es) t) (hn:x ≠ "__name__" := by decide) (hdb:(x == ("__debug__" : Str))=false:=by decide)
  (he:starEach (e :: es) X.env=(false,eval e X.env) :: starEach es X.env:=by rfl) (hpl:(backTo pos (starEach es X.env)).any (·.1)=false:=by rfl):PE X (.Call (.Name x p) (e :: es) [] pos) (tCB r t):=by
 intro pins s σ H Q I h
 refine wpAny_Call_Name_kw (zaeq I hg hm hv ?_ hn hdb)
 exact PyProof.Rows.callWith_builtin1 (thn (ha pos pins s σ H _ I h) fun us s1 ⟨vs,H1,I1,r1,q1⟩=>hc pins s1 σ H1 vs us Q I1 r1 q1) he hpl
theorem zaih (hc:CallR X (.type T) r) (hg:Gl X x) (hm:X.mg x=none) (hv:bootBuiltins x=some (.type T)) (ha:PA X (e :: es) t) (hn:x ≠ "__name__" := by decide) (hdb:(x == ("__debug__" : Str))=false:=by decide)
  (he:starEach (e :: es) X.env=(false,eval e X.env) :: starEach es X.env:=by rfl) (hpl:(backTo pos (starEach es X.env)).any (·.1)=false:=by rfl):PE X (.Call (.Name x p) (e :: es) [] pos) (tCB r t):=by
 intro pins s σ H Q I h
 refine wpAny_Call_Name_kw (zaeq I hg hm hv ?_ hn hdb)
 exact PyProof.Rows.callWith_type1 (thn (ha pos pins s σ H _ I h) fun us s1 ⟨vs,H1,I1,r1,q1⟩=>hc pins s1 σ H1 vs us Q I1 r1 q1) he hpl
end
end L2
namespace HT
open PySem PyProof.Rows
section
variable {prog:Program}{w:World}{A:Around}{E:Value→Shared→Prop}{s:Shared}
def sIx (n d:Nat):Option Int→Nat
 | none=>d
 | some v=>if v < 0 then (v + (n:Int)).toNat else min v.toNat n
theorem sIx_none (n d:Nat):sIx n d none=d:=rfl
theorem sIx_nat (n d k:Nat):sIx n d (some (k:Int))=min k n:=by
 show (if (k:Int) < 0 then ((k:Int) + (n:Int)).toNat else min (k:Int).toNat n)=min k n
 rw [if_neg (by omega),Int.toNat_natCast]
theorem zanr (n d:Nat) (hd:d≤n) (o:Option Int):sIx n d o≤n:=by
 cases o with
 | none=>exact hd
 | some v =>
  show (if v < 0 then (v + (n:Int)).toNat else min v.toNat n)≤n
  by_cases hv:v < 0
  ·rw [if_pos hv]; omega
  ·rw [if_neg hv]; exact Nat.min_le_right _ _
theorem zaii (v:Int) (n d:Nat):(if v < 0 then max (v + (n:Int)) 0 else min v (n:Int))=((sIx n d (some v):Nat):Int):=by
 show (if v < 0 then max (v + (n:Int)) 0 else min v (n:Int))=(((if v < 0 then (v + (n:Int)).toNat else min v.toNat n):Nat):Int)
 by_cases hv:v < 0
 ·simp only [if_pos hv]; omega
 ·simp only [if_neg hv]; omega
theorem zahr (lo hi:Option Int) (n:Nat):Builtin.Slice.sliceAdjust lo hi 1 (n:Int)=(((sIx n 0 lo:Nat):Int),((sIx n n hi:Nat):Int)):=by
 have h1:¬ ((1:Int) < 0):=by omega
 unfold Builtin.Slice.sliceAdjust
 simp only [h1,if_false]
 refine Prod.ext ?_ ?_
 ·cases lo with
  | none=>rfl
  | some v=>exact zaii v n 0
 ·cases hi with
  | none=>rfl
  | some v=>exact zaii v n n
theorem zahs (i j:Nat):Builtin.Slice.slicePlaces (i:Int) (j:Int) 1=j - i:=by
 unfold Builtin.Slice.slicePlaces
 have h1:(1:Int) > 0:=by omega
 simp only [h1,if_true,Int.ediv_one]
 split <;> omega
theorem zaes {v:Value}{o:Option Int}{Q:Option Int→Shared→Prop} (p:IsPart v o) (h:Q o s):wpAny (model prog w) A (Builtin.Slice.slicePartIndex v) Q E s:=by
 cases p with
 | none=>exact slicePart_none h
 | int i t=>exact slicePart_int h
theorem zadw {sl:Addr}{vl vu:Value}{lo hi:Option Int}{n:Nat}{Q:Int × Int × Nat→Shared→Prop} (hs:s.heap.IsSliceOf sl vl vu .none) (pl:IsPart vl lo) (pu:IsPart vu hi)
  (h:Q (((sIx n 0 lo:Nat):Int),1,sIx n n hi - sIx n 0 lo) s):wpAny (model prog w) A (Builtin.Slice.sliceApplied (.ref sl) (pure (n:Int))) Q E s:=by
 obtain ⟨os,hos,hcs,hds⟩:=id hs
 unfold Builtin.Slice.sliceApplied Builtin.Slice.sliceFields
 refine wpAny_bind (wpAny_bind (wpAny_field hos hds (x:=vl) rfl (wpAny_bind (wpAny_field hos hds (x:=vu) rfl (wpAny_bind (wpAny_field hos hds (x:=.none) rfl (wpAny_pure ?_)))))))
 refine wpAny_bind (slicePart_none ?_)
 show wpAny _ _ (if ((1:Int) == 0)=true then _ else _) _ _ s
 rw [if_neg (by decide)]
 refine wpAny_bind (zaes pl (wpAny_bind (zaes pu (wpAny_bind (wpAny_pure ?_)))))
 show wpAny _ _ (match Builtin.Slice.sliceAdjust lo hi 1 (n:Int) with | (lo,hi)=>pure (lo,(1:Int),Builtin.Slice.slicePlaces lo hi 1)) _ _ s
 rw [zahr lo hi n]
 show wpAny _ _ (pure (((sIx n 0 lo:Nat):Int),(1:Int),Builtin.Slice.slicePlaces ((sIx n 0 lo:Nat):Int) ((sIx n n hi:Nat):Int) 1)) _ _ s
 rw [zahs]
 exact wpAny_pure h
theorem zaka (xs:Array Value) (i k:Nat):((List.range k).filterMap fun (m:Nat)=>xs[((i:Int) + (m:Int) * 1).toNat]?).toArray=((xs.toList.drop i).take k).toArray:=by
 have e:(fun (m:Nat)=>xs[((i:Int) + (m:Int) * 1).toNat]?)=fun m=>xs[i + m]?:=by
  funext m
  have:((i:Int) + (m:Int) * 1).toNat=i + m:=by omega
  rw [this]
 rw [e]
 have:=pick_run xs i k
 rw [List.filterMap_map] at this
 have e2:((fun x=>xs[x]?) ∘ fun x=>i + x)=fun m=>xs[i + m]?:=rfl
 rw [e2] at this
 rw [this]
theorem getItem_tuple_cut {t sl:Addr}{items:Array Value}{vl vu:Value}{lo hi:Option Int}{Q:Value→Shared→Prop} (ht:IsTup s.heap t items) (hs:s.heap.IsSliceOf sl vl vu .none) (pl:IsPart vl lo) (pu:IsPart vu hi)
  (hw:¬ (sIx items.size 0 lo=0∧sIx items.size items.size hi=items.size))
  (h:Q (.ref s.heap.objs.size) { s with heap:=s.heap.push { cls:=.type "tuple",data:=.seq ((items.toList.drop (sIx items.size 0 lo)).take (sIx items.size items.size hi - sIx items.size 0 lo)).toArray } })
  (hsz:items.size≤sizeLine):wpAny (model prog w) A (getItem (.ref t) (.ref sl)) Q E s:=by
 have htake:sizeOk (.seq ((items.toList.drop (sIx items.size 0 lo)).take (sIx items.size items.size hi - sIx items.size 0 lo)).toArray):=by
  show ((items.toList.drop (sIx items.size 0 lo)).take (sIx items.size items.size hi - sIx items.size 0 lo)).toArray.size≤sizeLine
  rw [List.size_toArray,List.length_take,List.length_drop,Array.length_toList]
  omega
 have hj:sIx items.size items.size hi≤items.size:=zanr _ _ (Nat.le_refl _) hi
 obtain ⟨os,hos,hcs,hds⟩:=id hs
 have hTs:s.TypeIs (.ref sl) "slice" := ⟨os,hos,hcs⟩
 unfold getItem
 try with_reducible refine wpAny_holding ?_
 first | refine wpAny_bind (wpAny_pure ?_) | skip
 refine wpAny_bind (wpAny_sequenceKey ht.typeIs (by decide) ?_)
 refine wpAny_bind (wpAny_callSpecial?_slot (name:=Str.ofString "__getitem__") ht.typeIs PyProof.Rows.slot_tuple_getitem
  (wpAny_call_entry PyProof.Rows.slot_tuple_getitem ht.typeIs entry_tuple_getitem ?_ (args_tuple_getitem _ _)))
 show wpAny _ _ (Builtin.Tuple.tupleItemsOf (.ref t) >>= _) _ _ s
 refine wpAny_bind (tupleItemsOf_ ht ?_)
 refine wpAny_bind (wpAny_typeOf hTs ?_)
 rw [if_pos (by decide)]
 refine wpAny_bind (zadw hs pl pu ?_)
 have hno:¬ ((((sIx items.size 0 lo:Nat):Int) == 0 && (1:Int) == 1 && (sIx items.size items.size hi - sIx items.size 0 lo) == items.size)=true):=by
  intro q
  rw [Bool.and_eq_true,Bool.and_eq_true] at q
  have q1:((sIx items.size 0 lo:Nat):Int)=0:=eq_of_beq q.1.1
  have q2:sIx items.size items.size hi - sIx items.size 0 lo=items.size:=eq_of_beq q.2
  exact hw ⟨by omega,by omega⟩
 show wpAny _ _ (if (((sIx items.size 0 lo:Nat):Int) == 0 && (1:Int) == 1 && (sIx items.size items.size hi - sIx items.size 0 lo) == items.size)=true then _ else _) _ _ s
 rw [if_neg hno,zaka]
 first
  | exact wpAny_bind (m:=Builtin.Tuple.tupleExact _) (wpAny_newObj_type (wpAny_pure ⟨_,rfl,wpAny_pure h⟩) htake)
  | exact wpAny_bind (m:=Builtin.Tuple.tupleExact _) (wpAny_newObj_type (wpAny_bind (wpAny_pure (wpAny_pure ⟨_,rfl,wpAny_pure h⟩))) htake)
  | exact wpAny_bind (wpAny_bind (m:=Builtin.Tuple.tupleExact _) (wpAny_newObj_type (wpAny_pure (wpAny_pure ⟨_,rfl,wpAny_pure h⟩)) htake))
  | exact wpAny_bind (wpAny_bind (m:=Builtin.Tuple.tupleExact _) (wpAny_newObj_type (wpAny_pure ⟨_,rfl,wpAny_pure h⟩) htake))
end
end HT
namespace L2
open PySem PySem.Spec PyProof.Rows
abbrev TO:=St→Hp→(Option Int→Hp→Prop)→Prop
def PO (X:Cx) (e:Option Expr) (t:TO):Prop :=
 ∀ (pins:List (Addr × Obj)) (s:Shared) (σ:St) (H:Hp) (Q:Option Int→Hp→Prop),Inv X pins σ H s→t σ H Q →
  wpAny (model X.prog X.w) X.A (evalPart e X.env) (fun u s'=>∃ o H',Inv X pins σ H' s'∧IsPart u o∧Q o H') X.xe s
def tNoPart:TO:=fun _ H Q=>Q none H
def tPart (t:TE):TO:=fun σ H Q=>t σ H fun x H1=>∃ i,x=.int i∧Q (some i) H1
section
variable {X:Cx}{e:Expr}{te:TE}{lo hi:Option Expr}{tl th:TO}{pos p2:Pos}
theorem zalv:PO X none tNoPart:=by
 intro pins s σ H Q I h
 rw [evalPart_none]
 exact wpAny_pure ⟨none,H,I,.none,h⟩
theorem zalw (h:PE X e te):PO X (some e) (tPart te):=by
 intro pins s σ H Q I hw
 rw [evalPart_some]
 refine thn (h pins s σ H _ I hw) fun u s1 ⟨x,H1,I1,r1,q1⟩=>?_
 obtain ⟨i,rfl,q⟩:=q1
 obtain ⟨t,rfl⟩:=r1
 exact ⟨some i,H1,I1,.int i t,q⟩
def SlR (X:Cx) (r:V→Option Int→Option Int→Hp→VK→Prop):Prop :=
 ∀ (pins:List (Addr × Obj)) (s:Shared) (σ:St) (H:Hp) (x:V) (v vl vu:Value) (lo hi:Option Int) (sl:Addr) (Q:VK),Inv X pins σ H s→RelV x v→s.heap.IsSliceOf sl vl vu .none→IsPart vl lo→IsPart vu hi→r x lo hi H Q →
  ∃ T id,typeLookup (.type T) "__getitem__" = pure (some (.builtin id))∧s.TypeIs v T∧wpAny (model X.prog X.w) X.A (getItem v (.ref sl)) (EP X pins σ Q) X.xe s
def tSl (r:V→Option Int→Option Int→Hp→VK→Prop) (te:TE) (tl th:TO):TE:=fun σ H Q=>te σ H fun x H1=>tl σ H1 fun l H2=>th σ H2 fun u H3=>r x l u H3 Q
theorem zakb {r:V→Option Int→Option Int→Hp→VK→Prop} (hr:SlR X r) (he:PE X e te) (hl:PO X lo tl) (hu:PO X hi th):PE X (.Subscript e (.Slice lo hi none p2) pos) (tSl r te tl th):=by
 intro pins s σ H Q I h
 refine Subscript_ (thn (he pins s σ H _ I h) fun v s1 ⟨x,H1,I1,r1,q1⟩=>?_)
 refine wpAny_Slice (thn (hl pins s1 σ H1 _ I1 q1) fun vl s2 ⟨l,H2,I2,pl,q2⟩=>thn (hu pins s2 σ H2 _ I2 q2) fun vu s3 ⟨u,H3,I3,pu,q3⟩=>?_)
 rw [evalPart_none]
 refine wpAny_pure ?_
 have I4:Inv X pins σ H3 { s3 with heap:=s3.heap.push { cls:=.type "slice",data:=.fields #[vl,vu,.none] } }:=I3.kept (t':=s3.toks) fun b ob q=>Heap.get?_push_of_some _ q
 obtain ⟨T,id,hT,ht,hg⟩:=hr pins { s3 with heap:=s3.heap.push { cls:=.type "slice",data:=.fields #[vl,vu,.none] } } σ H3 x v vl vu l u s3.heap.objs.size Q I4 r1 (Heap.IsSliceOf.new ..) pl pu q3
 show wpAny (model X.prog X.w) X.A (subscriptTail e (.Slice lo hi none p2) v (.ref s3.heap.objs.size)) (EP X pins σ Q) X.xe { s3 with heap:=s3.heap.push { cls:=.type "slice",data:=.fields #[vl,vu,.none] } }
 exact tail_any (ops:=[.ref s3.heap.objs.size,v]) ht hT hg (by with_unfolding_all rfl)
def cutV (xs:List V) (lo hi:Option Int):List V:=(xs.drop (HT.sIx xs.length 0 lo)).take (HT.sIx xs.length xs.length hi - HT.sIx xs.length 0 lo)
theorem zaef (xs:List V) (lo hi:Option Int):(cutV xs lo hi).length≤xs.length:=by
 unfold cutV
 rw [List.length_take,List.length_drop]
 omega
def rSlT (K:PySem.W.Frag):V→Option Int→Option Int→Hp→VK→Prop:=fun x lo hi H Q=>∃ a xs,x=.ref a∧SqT K H a xs ∧
 ¬ (HT.sIx xs.length 0 lo=0∧HT.sIx xs.length xs.length hi=xs.length)∧∀ p,H p=none→Q (.ref p) (upd H p (.tup (cutV xs lo hi)))
theorem zak5:SlR X (rSlT X.K):=by
 intro pins s σ H x v vl vu lo hi sl Q I rx hs pl pu h
 obtain ⟨a,xs,rfl,hx,hw,q⟩:=h
 cases rx
 obtain ⟨its,r,ht,hz⟩:=I.tuple hx
 have hlen:its.toArray.size=xs.length:=by rw [List.size_toArray]; exact r.length.symm
 refine ⟨"tuple",_,PyProof.Rows.slot_tuple_getitem.lookup,ht.typeIs,?_⟩
 refine HT.getItem_tuple_cut ht hs pl pu (by rw [hlen]; exact hw) ?_ (by rw [hlen]; exact hz)
 rw [hlen]
 refine ⟨.ref s.heap.objs.size,_,I.laid (t':=s.toks) (o:=.tup (cutV xs lo hi)) (fun b ob q=>Heap.get?_push_of_some _ q) (Nat.le_refl _) ?_,rfl,q _ (I.hok.fresh (Nat.le_refl _))⟩
 exact ⟨Nat.le_trans (zaef xs lo hi) hz,_,(r.drop (HT.sIx xs.length 0 lo)).take (HT.sIx xs.length xs.length hi - HT.sIx xs.length 0 lo),IsTup.new _ _⟩
end
def ixN (n:Nat) (i:Int):Option Nat:=if 0≤i then (if i < n then some i.toNat else none) else if -(n:Int)≤i then some (i + n).toNat else none
def atI {α:Type} (xs:List α) (i:Int):Option α:=(ixN xs.length i).bind fun j=>xs[j]?
theorem zaij {n:Nat}{i:Int}{j:Nat} (h:ixN n i=some j):seqIndex? i n=some j∧j < n∧-(n:Int)≤i∧i < n:=by
 unfold ixN at h
 by_cases h0:0≤i
 ·rw [if_pos h0] at h
  by_cases h1:i < n
  ·rw [if_pos h1] at h
   have e:i.toNat=j:=Option.some.inj h
   exact ⟨by rw [seqIndex_of h0 h1,e],by omega,by omega,h1⟩
  ·rw [if_neg h1] at h; cases h
 ·rw [if_neg h0] at h
  by_cases h1:-(n:Int)≤i
  ·rw [if_pos h1] at h
   have e:(i + n).toNat=j:=Option.some.inj h
   exact ⟨by rw [seqIndex_neg (by omega) h1,e],by omega,h1,by omega⟩
  ·rw [if_neg h1] at h; cases h
theorem zaik {α:Type}{xs:List α}{i:Int}{v:α} (h:atI xs i=some v):∃ j,seqIndex? i xs.length=some j∧xs[j]?=some v∧j < xs.length∧-(xs.length:Int)≤i∧i < xs.length:=by
 unfold atI at h
 cases e:ixN xs.length i with
 | none=>rw [e] at h; cases h
 | some j =>
  rw [e] at h
  obtain ⟨h1,h2,h3,h4⟩:=zaij e
  exact ⟨j,h1,h,h2,h3,h4⟩
theorem zach {α:Type}{xs:List α}{j:Nat}{v:α} (h:xs[j]?=some v):atI xs (j:Int)=some v:=by
 have hj:j < xs.length:=(List.getElem?_eq_some_iff.mp h).1
 have e:ixN xs.length (j:Int)=some j:=by
  unfold ixN
  rw [if_pos (by omega),if_pos (by omega)]; simp
 unfold atI; rw [e]; exact h
def PlainIx (b:Expr):Prop:=∀ o i,subscripted b false o i=operate [o,i] (getItem o i)
def IxR (X:Cx) (r:R2):Prop :=
 ∀ (value slice:Expr) (pins:List (Addr × Obj)) (s:Shared) (σ:St) (H:Hp) (x y:V) (v u:Value) (Q:VK),Inv X pins σ H s→RelV x v→RelV y u→r x y H Q →
  subscripted slice false v u=operate [v,u] (getItem v u)→wpAny (model X.prog X.w) X.A (subscriptTail value slice v u) (EP X pins σ Q) X.xe s
def MtR (X:Cx) (id:String) (r:V→List V→Hp→VK→Prop):Prop :=
 ∀ (pins:List (Addr × Obj)) (s:Shared) (σ:St) (H:Hp) (x:V) (xs:List V) (v:Value) (us:List Value) (Q:VK),Inv X pins σ H s→RelV x v→Vals xs us→r x xs H Q →
  wpAny (model X.prog X.w) X.A (call (.builtin id) (v :: us)) (EP X pins σ Q) X.xe s
section
variable {X:Cx}{a b:Expr}{ta tb:TE}{pos:Pos}
theorem zapd {r:R2} (hr:IxR X r) (ha:PE X a ta) (hb:PE X b tb) (hs:PlainIx b):PE X (.Subscript a b pos) (tOp r ta tb):=by
 intro pins s σ H Q I h
 exact Subscript_ (binT ha hb I h fun v u s2 x y H2 I2 rx ry q=>hr a b pins s2 σ H2 x y v u Q I2 rx ry q (hs _ _))
def rIxL (K:PySem.W.Frag):R2:=fun x y H Q=>∃ p xs i v,x=.ref p∧y=.int i∧SqL K H p xs∧atI xs i=some v∧Q v H
def rIxT (K:PySem.W.Frag):R2:=fun x y H Q=>∃ p xs i v,x=.ref p∧y=.int i∧SqT K H p xs∧atI xs i=some v∧Q v H
theorem zalx:IxR X (rIxL X.K):=by
 intro value slice pins s σ H x y v u Q I rx ry h hs
 obtain ⟨p,xs,i,z,rfl,rfl,hq,he,q⟩:=h
 cases rx
 obtain ⟨t,rfl⟩:=ry
 obtain ⟨its,r,pl,hz⟩:=I.list hq
 obtain ⟨j,h1,h2,h3,h4,h5⟩:=zaik he
 obtain ⟨w,ew,rw'⟩:=r.get h2
 have hl:=r.length
 have hn:=line63
 have fin:EP X pins σ Q w s:=⟨z,H,I,rw',q⟩
 by_cases h0:0≤i
 ·have hj:i.toNat=j:=by
   rw [seqIndex_of h0 h5] at h1
   exact Option.some.inj h1
  exact item_listR pl.isList h0 (by omega) (by rw [hj]; simpa using ew) fin hs
 ·have hj:(i + (its.toArray.size:Int)).toNat=j:=by
   rw [seqIndex_neg (by omega) h4] at h1
   rw [List.size_toArray,← hl]
   exact Option.some.inj h1
  exact subscriptTail_builtinR (x:=w) pl.isList.typeIs slot_list_getitem.lookup
   (wpAny_getItem_list_neg (Q:=fun r s'=>r=w∧EP X pins σ Q r s') pl.isList (by omega) (by rw [List.size_toArray] <;> omega) (by omega) (by rw [hj]; simpa using ew) ⟨rfl,fin⟩) hs
theorem zans:IxR X (rIxT X.K):=by
 intro value slice pins s σ H x y v u Q I rx ry h hs
 obtain ⟨p,xs,i,z,rfl,rfl,hq,he,q⟩:=h
 cases rx
 obtain ⟨t,rfl⟩:=ry
 obtain ⟨its,r,pl,hz⟩:=I.tuple hq
 obtain ⟨j,h1,h2,h3,h4,h5⟩:=zaik he
 obtain ⟨w,ew,rw'⟩:=r.get h2
 have hl:=r.length
 have hn:=line63
 have fin:EP X pins σ Q w s:=⟨z,H,I,rw',q⟩
 exact subscriptTail_builtinR (x:=w) pl.typeIs slot_tuple_getitem.lookup
  (getItem_tuple (j:=j) (Q:=fun r s'=>r=w∧EP X pins σ Q r s') pl (by omega) (by omega) (by rw [List.size_toArray,← hl]; exact h1) (by simpa using ew) ⟨rfl,fin⟩) hs
theorem zaht (its:List Value) (n j:Nat) (u:Value):Obj.mapSeq (·.setIfInBounds j u) { cls:=.type "list",data:=.seq its.toArray n }={ cls:=.type "list",data:=.seq (its.set j u).toArray n }:=by
 simp [Obj.mapSeq]
theorem Inv.lst {pins:List (Addr × Obj)}{σ:St}{H:Hp}{s:Shared}{p:Addr}{xs:List V} (I:Inv X pins σ H s) (h:H p=some (.lst xs)) :
  ∃ (its:List Value) (n:Nat),Vals xs its∧s.heap.get? p=some { cls:=.type "list",data:=.seq its.toArray n }∧xs.length≤sizeLine:=by
 obtain ⟨z,its,n,r,e⟩:=I.hok p _ h
 exact ⟨its,n,r,e,z⟩
theorem Inv.lstUpd {pins:List (Addr × Obj)}{σ:St}{H:Hp}{s:Shared}{p:Addr}{xs ys:List V}{its its':List Value}{n n':Nat}{f:Obj→Obj} (I:Inv X pins σ H s) (h:H p=some (.lst xs))
  (ho:s.heap.get? p=some { cls:=.type "list",data:=.seq its.toArray n }) (hf:f { cls:=.type "list",data:=.seq its.toArray n }={ cls:=.type "list",data:=.seq its'.toArray n' }) (r:Vals ys its') (hz:ys.length≤sizeLine) (t:Nat) :
  Inv X pins σ (upd H p (.lst ys)) { s with heap:=s.heap.update p f,toks:=t }:=by
 have e:(s.heap.update p f).get? p=some { cls:=.type "list",data:=.seq its'.toArray n' }:=by
  rw [Heap.get?_update_self f ho (by rw [hf] <;> rfl),hf]
 refine I.write (x:=p) (e:=p) (by rw [h]; trivial) (.inl rfl) (fun b u hb q=>(Heap.get?_update_other _ _ (Ne.symm hb)).trans q) ⟨_,e⟩ ?_
 exact ⟨hz,its',n',r,e⟩
def rSetL:V→V→V→Hp→(Hp→Prop)→Prop:=fun o i v H Q=>∃ p xs k j,o=.ref p∧i=.int k∧H p=some (.lst xs)∧ixN xs.length k=some j∧Q (upd H p (.lst (xs.set j v)))
theorem zae2:PSet X rSetL:=by
 intro pins s σ H o i v ov iv u Q I ro ri rv h
 obtain ⟨p,xs,k,j,rfl,rfl,hp,hj,q⟩:=h
 cases ro
 obtain ⟨t,rfl⟩:=ri
 obtain ⟨its,n,r,ho,hz⟩:=I.lst hp
 obtain ⟨h1,h2,h3,h4⟩:=zaij hj
 have hl:=r.length
 have hn:=line63
 have I':Inv X pins σ (upd H p (.lst (xs.set j v))) { s with heap:=s.heap.update p (Obj.mapSeq (·.setIfInBounds j u)) } :=
  I.lstUpd hp ho (zaht its n j u) (r.set rv j) (by rw [List.length_set]; exact hz) s.toks
 by_cases h0:0≤k
 ·have hk:k.toNat=j:=by
   rw [seqIndex_of h0 h4] at h1
   exact Option.some.inj h1
  exact PySem.W.ki_setAt ho h0 (by omega) (by rw [List.size_toArray,← hl]; exact h4) (by rw [hk]; exact ⟨_,I',q⟩)
 ·have hk:(k + (its.toArray.size:Int)).toNat=j:=by
   rw [seqIndex_neg (by omega) h3] at h1
   rw [List.size_toArray,← hl]
   exact Option.some.inj h1
  exact PySem.W.ki_setBack ho (by omega) (by rw [List.size_toArray,← hl]; exact h3) (by omega) (by rw [hk]; exact ⟨_,I',q⟩)
theorem zafq (lo hi:Option Int) (n:Nat):(sliceBounds lo hi none n).1=((HT.sIx n 0 lo:Nat):Int)∧(sliceBounds lo hi none n).2.1=((HT.sIx n n hi:Nat):Int)∧(sliceBounds lo hi none n).2.2=1:=by
 refine ⟨?_,?_,rfl⟩
 ·cases lo with
  | none=>simp [sliceBounds,HT.sIx]
  | some i =>
   simp only [sliceBounds,HT.sIx,Option.getD_none,show (1:Int) > 0 by decide,if_true]
   by_cases h:i < 0
   ·simp only [h,if_true] <;> omega
   ·simp only [h,if_false] <;> omega
 ·cases hi with
  | none=>simp [sliceBounds,HT.sIx]
  | some i =>
   simp only [sliceBounds,HT.sIx,Option.getD_none,show (1:Int) > 0 by decide,if_true]
   by_cases h:i < 0
   ·simp only [h,if_true] <;> omega
   ·simp only [h,if_false] <;> omega
theorem zae3 (its:List Value) (lo hi:Option Int):slicePick its.toArray lo hi none=((its.drop (HT.sIx its.length 0 lo)).take (HT.sIx its.length its.length hi - HT.sIx its.length 0 lo)).toArray:=by
 obtain ⟨h1,h2,h3⟩:=zafq lo hi its.toArray.size
 unfold slicePick
 rw [h1,h2,h3]
 simp only [sliceRange_one,pick_run,List.size_toArray] <;> rfl
def rSlL (K:PySem.W.Frag):V→Option Int→Option Int→Hp→VK→Prop:=fun x lo hi H Q=>∃ a xs,x=.ref a∧SqL K H a xs∧∀ p,H p=none→Q (.ref p) (upd H p (.lst (cutV xs lo hi)))
theorem zail:SlR X (rSlL X.K):=by
 intro pins s σ H x v vl vu lo hi sl Q I rx hs pl pu h
 obtain ⟨a,xs,rfl,hx,q⟩:=h
 cases rx
 obtain ⟨its,r,ht,hz⟩:=I.list hx
 have hlen:=r.length
 refine ⟨"list",_,slot_list_getitem.lookup,ht.isList.typeIs,?_⟩
 refine wpAny_getItem_list_slice ht.isList hs pl pu .none (by simp) ?_ (by rw [List.size_toArray] <;> omega)
 rw [zae3,← hlen]
 refine ⟨.ref s.heap.objs.size,_,I.laid (t':=s.toks) (o:=.lst (cutV xs lo hi)) (fun b ob q=>Heap.get?_push_of_some _ q) (Nat.le_refl _) ?_,rfl,q _ (I.hok.fresh (Nat.le_refl _))⟩
 exact ⟨Nat.le_trans (zaef xs lo hi) hz,_,0,(r.drop (HT.sIx xs.length 0 lo)).take (HT.sIx xs.length xs.length hi - HT.sIx xs.length 0 lo),Heap.get?_push_size _ rfl⟩
def flatV:V→Bool
 | .non=>true
 | .bl _=>true
 | .int _=>true
 | .str _=>true
 | _=>false
def eqV:V→V→Bool
 | .non,.non=>true
 | .bl a,.bl b=>a == b
 | .bl a,.int b=>(if a then 1 else 0) == b
 | .int a,.bl b=>a == (if b then 1 else 0)
 | .int a,.int b=>a == b
 | .str a,.str b=>a == b
 | _,_=>false
theorem zant {A:Around}{s:Shared}{y x:V}{u v:Value} (ry:RelV y u) (rx:RelV x v) (fy:flatV y=true) (fx:flatV x=true):SeqAt.EqAt A s u v (eqV y x):=by
 cases y with
 | non =>
  cases ry
  cases x with
  | non=>cases rx; exact SeqAt.EqAt.same _
  | bl b=>cases rx; exact SeqAt.EqAt.none_bool b
  | int b=>obtain ⟨t,rfl⟩:=rx; exact SeqAt.EqAt.none_int b t
  | str b=>obtain ⟨t,rfl⟩:=rx; exact SeqAt.EqAt.none_str b t
  | _=>exact absurd (show false=true from fx) Bool.false_ne_true
 | bl a =>
  cases ry
  cases x with
  | non=>cases rx; exact SeqAt.EqAt.bool_none a
  | bl b=>cases rx; exact SeqAt.EqAt.bool_bool a b
  | int b=>obtain ⟨t,rfl⟩:=rx; exact SeqAt.EqAt.bool_int a b t
  | str b=>obtain ⟨t,rfl⟩:=rx; exact SeqAt.EqAt.bool_str a b t
  | _=>exact absurd (show false=true from fx) Bool.false_ne_true
 | int a =>
  obtain ⟨t',rfl⟩:=ry
  cases x with
  | non=>cases rx; exact SeqAt.EqAt.int_none a t'
  | bl b=>cases rx; exact SeqAt.EqAt.int_bool a t' b
  | int b=>obtain ⟨t,rfl⟩:=rx; exact SeqAt.EqAt.int_int a t' b t
  | str b=>obtain ⟨t,rfl⟩:=rx; exact SeqAt.EqAt.int_str a t' b t
  | _=>exact absurd (show false=true from fx) Bool.false_ne_true
 | str a =>
  obtain ⟨t',rfl⟩:=ry
  cases x with
  | non=>cases rx; exact SeqAt.EqAt.str_none a t'
  | bl b=>cases rx; exact SeqAt.EqAt.str_bool a t' b
  | int b=>obtain ⟨t,rfl⟩:=rx; exact SeqAt.EqAt.str_int a t' b t
  | str b=>obtain ⟨t,rfl⟩:=rx; exact SeqAt.EqAt.str_str a t' b t
  | _=>exact absurd (show false=true from fx) Bool.false_ne_true
 | _=>exact absurd (show false=true from fy) Bool.false_ne_true
def eqU (x:V) (u:Value):Bool:=match u with
 | .none=>eqV .non x
 | .bool b=>eqV (.bl b) x
 | .int i _=>eqV (.int i) x
 | .str z _=>eqV (.str z) x
 | _=>false
theorem zak6 {x y:V}{u:Value} (r:RelV y u) (f:flatV y=true):eqU x u=eqV y x:=by
 cases y with
 | non=>cases r; rfl
 | bl b=>cases r; rfl
 | int i=>obtain ⟨t,rfl⟩:=r; rfl
 | str z=>obtain ⟨t,rfl⟩:=r; rfl
 | _=>exact absurd (show false=true from f) Bool.false_ne_true
theorem zaeg {x:V}:∀ {xs:List V}{us:List Value},Vals xs us→xs.all flatV=true→us.any (eqU x)=xs.any fun y=>eqV y x
 | _,_,.nil,_=>rfl
 | y :: xs,u :: us,.cons r t,f=>by
  rw [List.all_cons,Bool.and_eq_true] at f
  rw [List.any_cons,List.any_cons,zak6 r f.1,zaeg t f.2]
theorem zade {A:Around}{s:Shared}{x:V}{v:Value} (rx:RelV x v) (fx:flatV x=true):∀ {xs:List V}{us:List Value},Vals xs us→xs.all flatV=true→∀ u∈us,SeqAt.EqAt A s u v (eqU x u)
 | _,_,.nil,_=>fun u hu=>by cases hu
 | y :: xs,u :: us,.cons r t,f=>fun u' hu=>by
  rw [List.all_cons,Bool.and_eq_true] at f
  rcases List.mem_cons.mp hu with rfl | hu
  ·rw [zak6 r f.1]; exact zant r rx f.1 fx
  ·exact zade rx fx t f.2 u' hu
def inV (x:V) (xs:List V):Bool:=xs.any fun y=>eqV y x
def rIn (K:PySem.W.Frag) (neg:Bool):R2:=fun x y H Q=>∃ p xs,y=.ref p∧(SqL K H p xs∨SqT K H p xs)∧flatV x=true∧xs.all flatV=true∧Q (.bl (if neg then !inV x xs else inV x xs)) H
theorem zafr:OpR X (compareOp .In) (rIn X.K false):=by
 intro pins s σ H x y v u Q I rx ry h
 obtain ⟨p,xs,rfl,hq,fx,fs,q⟩:=h
 cases ry
 rcases hq with hq | hq
 ·obtain ⟨its,r,pl,hz⟩:=I.list hq
  refine SeqAt.in_listAt (eqU x) pl.isList (fun w hw=>zade rx fx r fs w (by simpa using hw)) ⟨.bl _,H,I,rfl,?_⟩
  rw [show its.toArray.any (eqU x)=its.any (eqU x) by simp,zaeg r fs]
  exact q
 ·obtain ⟨its,r,pl,hz⟩:=I.tuple hq
  refine SeqAt.in_tupleAt (eqU x) pl (fun w hw=>zade rx fx r fs w (by simpa using hw)) ⟨.bl _,H,I,rfl,?_⟩
  rw [show its.toArray.any (eqU x)=its.any (eqU x) by simp,zaeg r fs]
  exact q
theorem zadt:OpR X (compareOp .NotIn) (rIn X.K true):=by
 intro pins s σ H x y v u Q I rx ry h
 obtain ⟨p,xs,rfl,hq,fx,fs,q⟩:=h
 cases ry
 rcases hq with hq | hq
 ·obtain ⟨its,r,pl,hz⟩:=I.list hq
  refine SeqAt.notIn_listAt (eqU x) pl.isList (fun w hw=>zade rx fx r fs w (by simpa using hw)) ⟨.bl _,H,I,rfl,?_⟩
  rw [show its.toArray.any (eqU x)=its.any (eqU x) by simp,zaeg r fs]
  exact q
 ·obtain ⟨its,r,pl,hz⟩:=I.tuple hq
  refine SeqAt.notIn_tupleAt (eqU x) pl (fun w hw=>zade rx fx r fs w (by simpa using hw)) ⟨.bl _,H,I,rfl,?_⟩
  rw [show its.toArray.any (eqU x)=its.any (eqU x) by simp,zaeg r fs]
  exact q
theorem zaau:CallR X (.builtin "len") (fun xs H Q=>∃ p ys,xs=[.ref p]∧(SqL X.K H p ys∨SqT X.K H p ys)∧Q (.int ys.length) H):=by
 intro pins s σ H xs us Q I r h
 obtain ⟨p,ys,rfl,hq,q⟩:=h
 obtain ⟨u,rfl,rx⟩:=vals1 r
 cases rx
 have hn:=line63
 rcases hq with hq | hq
 ·obtain ⟨its,r',pl,hz⟩:=I.list hq
  have hlen:=r'.length
  exact Calls.call_len_list pl.isList (by simp only [List.size_toArray] <;> omega) ⟨.int ys.length,H,I.tok _,⟨s.toks + 1,by rw [List.size_toArray,hlen]⟩,q⟩
 ·obtain ⟨its,r',pl,hz⟩:=I.tuple hq
  have hlen:=r'.length
  exact len_tuple pl (by simp only [List.size_toArray] <;> omega) ⟨.int ys.length,H,I.tok _,⟨s.toks + 1,by rw [List.size_toArray,hlen]⟩,q⟩
theorem zacn:CallR X (.type "list") (fun xs H Q=>∃ p ys,xs=[.ref p]∧(SqL X.K H p ys∨SqT X.K H p ys)∧∀ l,H l=none→Q (.ref l) (upd H l (.lst ys))):=by
 intro pins s σ H xs us Q I r h
 obtain ⟨p,ys,rfl,hq,q⟩:=h
 obtain ⟨u,rfl,rx⟩:=vals1 r
 cases rx
 have fin:∀ (its:List Value),Vals ys its→ys.length≤sizeLine→∀ (h':Heap) (c':Nat),(∀ b o',s.heap.get? b=some o'→h'.get? b=some o') →
   h'.get? s.heap.objs.size=some { cls:=.type "list",dict:=none,data:=.seq its.toArray c',slots:=#[] }→EP X pins σ Q (.ref s.heap.objs.size) { s with heap:=h' }:=fun its r' hz h' c' kp e =>
  ⟨.ref s.heap.objs.size,_,I.laid (t':=s.toks) kp (Nat.le_refl _) (show ObjOk X.prog X.w _ h' _ (.lst ys) from ⟨hz,its,c',r',e⟩),rfl,q _ (I.hok.fresh (Nat.le_refl _))⟩
 rcases hq with hq | hq
 ·obtain ⟨its,r',pl,hz⟩:=I.list hq
  have hlen:=r'.length
  obtain ⟨o,ho,hc,n,hd⟩:=pl.isList
  exact call_list_seq p (.inl rfl) ho hc hd (fun h' c' kp e=>fin its r' hz h' c' kp e) (by simp only [List.size_toArray] <;> omega)
 ·obtain ⟨its,r',pl,hz⟩:=I.tuple hq
  have hlen:=r'.length
  obtain ⟨o,ho,hc,n,hd⟩:=pl
  exact call_list_seq p (.inr rfl) ho hc hd (fun h' c' kp e=>fin its r' hz h' c' kp e) (by simp only [List.size_toArray] <;> omega)
theorem zabf:CallR X (.type "tuple") (fun xs H Q=>∃ p ys,xs=[.ref p]∧((SqL X.K H p ys∧∀ l,H l=none→Q (.ref l) (upd H l (.tup ys)))∨(SqT X.K H p ys∧Q (.ref p) H))):=by
 intro pins s σ H xs us Q I r h
 obtain ⟨p,ys,rfl,h⟩:=h
 obtain ⟨u,rfl,rx⟩:=vals1 r
 cases rx
 rcases h with ⟨hq,q⟩ | ⟨hq,q⟩
 ·obtain ⟨its,r',pl,hz⟩:=I.list hq
  have hlen:=r'.length
  refine call_tuple_list pl.isList (fun h' kp=>?_) (by simp only [List.size_toArray] <;> omega)
  have I1:Inv X pins σ H { s with heap:=h' }:=I.kept (t':=s.toks) kp
  have I2:Inv X pins σ (upd H h'.objs.size (.tup ys)) { s with heap:=h'.push { cls:=.type "tuple",data:=.seq its.toArray } } :=
   I1.laid (t':=s.toks) (fun b o e=>Heap.get?_push_of_some _ e) (Nat.le_refl _) (show ObjOk X.prog X.w _ _ _ (.tup ys) from ⟨hz,its,r',IsTup.new _ _⟩)
  exact ⟨.ref h'.objs.size,_,I2,rfl,q _ (I1.hok.fresh (Nat.le_refl _))⟩
 ·obtain ⟨its,r',pl,hz⟩:=I.tuple hq
  exact call_tuple_same pl ⟨.ref p,H,I,rfl,q⟩
def tyV (K:PySem.W.Frag) (T:String) (x:V) (H:Hp):Prop:=match x with
 | .str _=>T = "str"
 | .int _=>T = "int"
 | .ref p=>(T = "list" ∧ ∃ xs,SqL K H p xs)∨(T = "tuple" ∧ ∃ o,K.lookup p=some o∧o.cls=.type "tuple" ∧ o.dict=none) ∨
   (T = "dict" ∧ ((∃ kvs,H p=some (.dK kvs))∨∃ kvs,H p=some (.dT kvs)))∨(T = "set" ∧ ∃ S n,H p=some (.set S n))
 | _=>False
theorem zanu {pins:List (Addr × Obj)}{σ:St}{H:Hp}{s:Shared}{T:String}{x:V}{v:Value} (I:Inv X pins σ H s) (r:RelV x v) (ty:tyV X.K T x H) :
  s.TypeIs v T∧∀ a,v=.ref a→∃ ob,s.heap.get? a=some ob∧ob.dict=none:=by
 cases x with
 | str z =>
  obtain ⟨t,rfl⟩:=r
  cases (show T = "str" from ty)
  exact ⟨typeIs_str s z t,fun _ e=>nomatch e⟩
 | int i =>
  obtain ⟨t,rfl⟩:=r
  cases (show T = "int" from ty)
  exact ⟨typeIs_int s i t,fun _ e=>nomatch e⟩
 | ref p =>
  cases r
  rcases ty with ⟨rfl,xs,hq⟩ | ⟨rfl,o,hk,hc,hd⟩ | ⟨rfl,hk⟩ | ⟨rfl,S,n,hk⟩
  ·obtain ⟨its,_,pl,_⟩:=I.list hq
   refine ⟨pl.isList.typeIs,fun a e=>?_⟩
   cases e
   obtain ⟨o,n,e,c,hd,_⟩:=pl
   exact ⟨o,e,hd⟩
  ·refine ⟨⟨o,I.kIn p o hk,hc⟩,fun a e=>?_⟩
   cases e
   exact ⟨o,I.kIn _ o hk,hd⟩
  ·have z:∃ o,s.heap.get? p=some o∧o.ExactDict:=by
    rcases hk with ⟨kvs,hk⟩ | ⟨kvs,hk⟩
    ·obtain ⟨_,_,_,_,o,_,_,e,ex,_⟩:=I.hok p _ hk
     exact ⟨o,e,ex⟩
    ·obtain ⟨_,_,_,_,o,_,_,e,ex,_⟩:=I.hok p _ hk
     exact ⟨o,e,ex⟩
   obtain ⟨o,e,ex⟩:=z
   refine ⟨⟨o,e,ex.1⟩,fun a e2=>?_⟩
   cases e2
   exact ⟨o,e,ex.2.1⟩
  ·obtain ⟨o,_,_,_,e,ex,_⟩:=I.hok p _ hk
   refine ⟨⟨o,e,ex.1⟩,fun a e2=>?_⟩
   cases e2
   exact ⟨o,e,ex.2.1⟩
 | _=>exact False.elim ty
def tBM (K:PySem.W.Frag) (T:String) (r:V→List V→Hp→VK→Prop) (to:TE) (t:TA):TE:=fun σ H Q=>to σ H fun x H1=>tyV K T x H1∧t σ H1 fun xs H2=>r x xs H2 Q
variable {o e:Expr}{es:List Expr}{to:TE}{t:TA}{name:Str}{apos cpos:Pos}{T id:String}{r:V→List V→Hp→VK→Prop}
theorem zape (pa:PlainAttrs T) (slot:Slot T name id) (hty:typeOf (.builtin id)=pure (.type "method_descriptor")) (hm:MtR X id r) (ho:PE X o to) (ha:PA X (e :: es) t)
  (hbase:attributeBase o name X.env (eval o X.env)=eval o X.env:=by rfl)
  (hfew:((backTo cpos (starEach (e :: es) X.env)).all (fun x=>!x.1) && (backToKw cpos (keywordEach [] X.env)).all (fun x=>x.1.isSome)
   && decide ((e :: es).length + ([]:List Keyword).length + (if ([]:List Keyword).isEmpty then 0 else 1) < 30))=true:=by rfl)
  (hline:(apos.endLine == cpos.line)=true:=by rfl) (hs:starEach (e :: es) X.env=(false,eval e X.env) :: starEach es X.env:=by rfl) (hplain:(backTo cpos (starEach es X.env)).any (·.1)=false:=by rfl) :
  PE X (.Call (.Attribute o name apos) (e :: es) [] cpos) (tBM X.K T r to t):=by
 intro pins s σ H Q I h
 refine wpAny_Call_method_late hbase hfew hline rfl (thn (ho pins s σ H _ I h) fun v s1 ⟨x,H1,I1,r1,ty,q1⟩=>?_)
 obtain ⟨h1,h2⟩:=zanu I1 r1 ty
 refine ⟨T,id,pa,slot,hty,h1,h2,?_⟩
 have hA:=ha cpos pins s1 σ H1 _ I1 q1
 rw [hs] at hA ⊢
 refine Calls.callWith_builtin (by show (false || (backTo cpos (starEach es X.env)).any (·.1))=false; rw [hplain] <;> rfl) (Calls.evalArgs_plain ?_)
 exact thn hA fun us s2 ⟨vs,H2,I2,r2,q2⟩=>hm pins s2 σ H2 x vs v us Q I2 r1 r2 q2
end
def MtM (X:Cx) (id:String) (r:V→List V→Hp→VK→Prop):Prop :=
 ∀ (pins:List (Addr × Obj)) (s:Shared) (σ:St) (H:Hp) (x:V) (xs:List V) (v:Value) (us:List Value) (Q:VK),Inv X pins σ H s→RelV x v→Vals xs us→r x xs H Q →
  wpAny (model X.prog X.w) X.A (call (.builtin id) (v :: us)) (EP X pins σ Q) X.xe s
theorem Vals.one:∀ {x:V}{us:List Value},Vals [x] us→∃ u,us=[u]∧RelV x u
 | _,_,.cons r .nil=>⟨_,rfl,r⟩
section
variable {X:Cx}{pins:List (Addr × Obj)}{σ:St}{H:Hp}{s:Shared}{l b:Addr}{xs ys zs:List V}
theorem Inv.lset {its its':List Value}{n:Nat}{f:Array Value→Array Value}{t':Nat} (I:Inv X pins σ H s) (hH:H l=some (.lst xs))
  (e:s.heap.get? l=some { cls:=.type "list",data:=.seq its.toArray n }) (hf:f its.toArray=its'.toArray) (hv:Vals ys its') (hz:ys.length≤sizeLine) :
  Inv X pins σ (upd H l (.lst ys)) { s with heap:=s.heap.update l (Obj.mapSeq f),toks:=t' }:=by
 have q:=PySem.IsL.update e f
 rw [hf] at q
 refine I.write (x:=l) (e:=l) (by rw [hH]; exact trivial) (.inl rfl) (fun b' u hb hu=>(Heap.get?_update_other s.heap (Obj.mapSeq f) (Ne.symm hb)).trans hu) ⟨_,q⟩ ?_
 exact ⟨hz,its',_,hv,q⟩
theorem Inv.lnew {its:List Value}{t':Nat} (I:Inv X pins σ H s) (hv:Vals ys its) (hz:ys.length≤sizeLine) :
  Inv X pins σ (upd H s.heap.objs.size (.lst ys)) { s with heap:=s.heap.push { cls:=.type "list",data:=.seq its.toArray },toks:=t' } :=
 I.laid (fun _ _ q=>Heap.get?_push_of_some _ q) (Nat.le_refl _) ⟨hz,its,0,hv,Heap.get?_push_size _ rfl⟩
theorem Inv.fresh (I:Inv X pins σ H s):H s.heap.objs.size=none:=I.hok.fresh (Nat.le_refl _)
theorem Inv.lstM (I:Inv X pins σ H s) (hH:H l=some (.lst xs)):xs.length≤sizeLine∧∃ (its:List Value) (n:Nat),Vals xs its∧xs.length=its.length∧s.heap.get? l=some { cls:=.type "list",data:=.seq its.toArray n }:=by
 obtain ⟨z,its,n,r,e⟩:=I.hok l _ hH
 exact ⟨z,its,n,r,r.length,e⟩
end
section
variable {X:Cx}
def rAppend:V→List V→Hp→VK→Prop:=fun x vs H Q=>∃ l xs y,x=.ref l∧vs=[y]∧H l=some (.lst xs)∧xs.length < sizeLine∧Q .non (upd H l (.lst (xs++[y])))
theorem zadf:MtM X "list.append" rAppend:=by
 intro pins s σ H x vs v us Q I rx rv h
 obtain ⟨l,xs,y,rfl,rfl,hH,hz,q⟩:=h
 cases rx
 obtain ⟨u,rfl,ru⟩:=rv.one
 obtain ⟨z,its,n,r,hl,e⟩:=I.lstM hH
 refine call_meets F.slot_list_append ⟨_,e,rfl⟩ F.entry_list_append (F.args_list_append_2 _ _) (PySem.list_append l its.toArray n u (by rw [List.size_toArray]; omega)) ⟨e,?_⟩
 refine ⟨.non,_,I.lset (its':=its++[u]) hH e (by simp) (r.append (.cons ru .nil)) ?_,rfl,q⟩
 rw [List.length_append,List.length_singleton]
 omega
def rCat:R2:=fun x y H Q=>∃ l b xs zs,x=.ref l∧y=.ref b∧H l=some (.lst xs)∧H b=some (.lst zs)∧xs.length + zs.length≤sizeLine∧∀ p,H p=none→Q (.ref p) (upd H p (.lst (xs++zs)))
theorem zac1:OpR X (binaryOp .Add) rCat:=by
 intro pins s σ H x y v u Q I rx ry h
 obtain ⟨l,b,xs,zs,rfl,rfl,hH,hB,hz,q⟩:=h
 cases rx
 cases ry
 obtain ⟨z,its,n,r,hl,e⟩:=I.lstM hH
 obtain ⟨z2,its2,n2,r2,hl2,e2⟩:=I.lstM hB
 refine PySem.P.add_list e e2 ?_ (by rw [List.size_toArray,List.size_toArray]; omega)
 have ea:its.toArray++its2.toArray=(its++its2).toArray:=by simp
 rw [ea]
 exact ⟨.ref _,_,I.lnew (t':=s.toks) (r.append r2) (by rw [List.length_append]; omega),rfl,q _ I.fresh⟩
end
end L2
namespace Att
open PySem PySem.W PySem.Calls PyProof.Rows
theorem zaeh {P:Params}{h:Heap}:∀ (ns:List Int) (vs:List Value),WellAll P h vs (ns.map WData.int)→IntsAre vs ns:=by
 intro ns
 induction ns with
 | nil =>
  intro vs w
  rw [List.map_nil] at w
  cases w
  exact .nil
 | cons n ns ih =>
  intro vs w
  rw [List.map_cons] at w
  cases w with
  | cons a b =>
   cases a
   exact .cons _ _ (ih _ b)
theorem zaim {l:OpenLaw}{n:Nat} (hn:l.most=some n) {P:Params}{h:Heap}{args:List WData}{vals:List Value}
  (hpre:l.row.toRowW.claim.pre args=true) (hwl:WellAll P h vals args) :
  ∃ a vs ns,vals=[Value.ref a]∧args=[WData.list (ns.map WData.int)]∧h.get? a=some { cls:=.type "list",data:=.seq vs.toArray }∧IntsAre vs ns∧ns.length≤n:=by
 have hsh:WShape.hasAll [] args [.list .int]=true:=(pre_splitW hpre).1
 have hc:l.pre.holds [] { args:=args }=true:=(pre_splitW hpre).2
 obtain ⟨d,r,rfl,h1,h2⟩:=hasAllW_cons hsh
 obtain rfl:=hasAllW_nil h2
 obtain ⟨xs,rfl,h3⟩:=hasW_list h1
 obtain ⟨ns,rfl⟩:=items_int h3
 have hlen:ns.length≤n:=by
  unfold OpenLaw.pre at hc
  have h4:(WTm.not (.lt (.lit (.int (n:Int))) (.len (.arg 0)))).holds [] { args:=[.list (ns.map .int)] }=true:=by
   have h4:=(holds_andW hc).1
   rw [hn] at h4
   exact h4
  have h5:=condW_of h4 (w_not (w_lt w_lit (w_len_list (w_arg rfl))))
  rw [List.length_map] at h5
  refine Nat.le_of_not_lt fun q=>?_
  have q':(n:Int) < ((ns.length:Nat):Int):=by omega
  first
   | (rw [decide_eq_true q'] at h5; exact absurd h5 (by decide))
   | (simp at h5; omega)
 cases hwl with
 | cons w1 w2 =>
  cases w2
  cases w1 with
  | list ho hall=>exact ⟨_,_,ns,rfl,rfl,ho,zaeh ns _ hall,hlen⟩
theorem zain (l:OpenLaw) (args:List WData):l.row.toRowW.claim.post args (.bool true) args=true :=
 postW_of (r:=l.row.toRowW) (X:=(true == true))
  (show WShape.has [] (.bool true) .bool=true by first | rfl | decide | simp [WShape.has,WShape.arms,WShape.armsAll])
  (show (WTm.eq .res (.lit (.bool true))).value [] { args:=args,res:=some (.bool true),after:=args }=some (.bool (true == true)) from w_eq_bool (w_res rfl) w_lit) rfl
theorem attach_call {l:OpenLaw}{n:Nat}{q:Program}{loose:List Str}{XP:(Str→Option Value)→Heap→Prop}{YP:World→Heap→Prop}{d:DefRec}
  (hn:l.most=some n) (hdf:d.params.defaults=[])
  (call:∀ (w:World) (s₀ s₁:Shared) (mg mb:Str→Option Value) (fa:Addr) (o:Obj) (pm cd doc:Value) (a:Addr) (vs:List Value) (ns:List Int),
   Ground q loose [] XP w s₀ mg mb s₁.heap→YP w s₁.heap →
   s₁.heap.get? fa=some o→o.data=.func (docDef d.name d.params d.body d.scope pm cd doc)→s₁.heap.CodeRec cd d.name→mg d.name=some (.ref fa) →
   s₁.heap.get? a=some { cls:=.type "list",data:=.seq vs.toArray }→IntsAre vs ns→ns.length≤n→s₁.gens=#[] →
   codeAny (model l.prog w) callerA (.call (.ref fa) ⟨[.ref a],[]⟩) (fun r s'=>r=.ok (.ret (.bool true))∧OldK s₁.heap s'.heap∧s'.os=s₁.os∧AllBare s'.gens) s₁) :
  WalkO q loose XP YP l.row.toRowW d [] (fun f vs=>PySem.call f vs):=by
 intro w s₀ s₁ mg mb G Y fa o pm cd doc dV kV ho hd hcd hD hmg hg args vals as hpre hlay hrd hwl hlo
 obtain rfl:dV=.none:=Dflts.none hD hdf
 obtain rfl:kV=.none:=Dflts.noKw hD
 obtain ⟨a,vs,ns,rfl,rfl,hobj,hints,hlen⟩:=zaim hn hpre hwl
 refine enter_call (codeAny_mono (call w s₀ s₁ mg mb fa o pm cd doc a vs ns G Y ho (fd_plain hd) hcd hmg hobj hints hlen hg) fun r s' hq=>?_)
 obtain ⟨rfl,h2,h3,h4⟩:=hq
 exact ⟨.inl ⟨.bool true,.bool true,[],rfl,fun _=>rfl,.bool true,zain l _,fun _=>⟨List.Pairwise.nil,fun _ hm=>(nomatch hm)⟩⟩,h2,h3,h4⟩
end Att
namespace L2
open PySem PySem.Spec PyProof.Rows
theorem zafs:∀ {vs:List Value}{ns:List Int},IntsAre vs ns→Vals (ns.map V.int) vs
 | _,_,.nil=>.nil
 | _,_,.cons n t h=>.cons ⟨t,rfl⟩ (zafs h)
def Only (H:Hp):Prop:=∀ b,H b=none∨∃ o xs,H b=some (.frz o (.lst xs))
theorem zakc {P:Program}{w:World}{K:PySem.W.Frag}{mg mb:Str→Option Value}{CX:CXT}{k:Nat}{fa a:Addr}{fd:FuncData}{x:Str}{sp:Sp}{s₁:Shared}{vs:List Value}{ns:List Int}
  (KX:K.In s₁.heap) (hns:s₁.heap.Ns mainGlobals mg) (hb:s₁.heap.Ns builtinsNs mb) (hbb:∀ x:Str,x ≠ "__name__" → mb x=bootBuiltins x) (hlim:s₁.heap.NoLimit) (hg:s₁.gens=#[])
  (ha:s₁.heap.get? a=some { cls:=.type "list",data:=.seq vs.toArray }) (hi:IntsAre vs ns) (hl:ns.length≤sizeLine) (hr:Room k callerA)
  (F:∀ base:Heap,K.In base→base.Ns mainGlobals mg→FnOk P w K mg base CX k fa fd [x] sp) (hbind:∀ (s:Shared) (u:Value),BindsTo s fd ⟨[u],[]⟩ [(x,u)])
  (hsp:∀ H:Hp,Only H→SqL K H a (ns.map V.int)→sp [.ref a] H (fun v _=>v=.bl true) fun _ _ _=>False)
  (hCX:∀ H e s',CX [] H s₁ (fun _ _ _=>False) e s'→False) :
  codeAny (model P w) callerA (.call (.ref fa) ⟨[.ref a],[]⟩) (fun r s'=>r=.ok (.ret (.bool true))∧OldK s₁.heap s'.heap∧s'.os=s₁.os∧AllBare s'.gens) s₁:=by
 have rv:=zafs hi
 have lenV:=hi.length
 have core:∀ H:Hp,Only H→SqL K H a (ns.map V.int)→HOk P w H s₁.heap→(∀ b,H b≠none→b=a)→(H a≠none→K.lookup a=none) →
   codeAny (model P w) callerA (.call (.ref fa) ⟨[.ref a],[]⟩) (fun r s'=>r=.ok (.ret (.bool true))∧OldK s₁.heap s'.heap∧s'.os=s₁.os∧AllBare s'.gens) s₁:=by
  intro H hO hS hok hA hK
  have base_of:∀ {b:Addr}{o:Obj},s₁.heap.get? b=some o→H b=none→(hidT s₁.heap H).get? b=some o:=fun e n=>zajz e n
  have noA:∀ {b:Addr}{o:Obj}{es:Array DictEntry}{ep:Nat},s₁.heap.get? b=some o→o.data=.dict es ep→H b=none:=fun {b o es ep} e d=>by
   cases q:H b with
   | none=>rfl
   | some u =>
    have e':b=a:=hA b (by rw [q]; simp)
    subst e'
    rw [ha] at e; cases e
    have d':Data.seq vs.toArray _=Data.dict es ep:=d
    cases d'
  have nsK:∀ {b:Addr}{m:Str→Option Value},s₁.heap.Ns b m→(hidT s₁.heap H).Ns b m:=fun {b m} ⟨o,es,ep,e,d,r⟩=>⟨o,es,ep,base_of e (noA e d),d,r⟩
  have hKb:K.In (hidT s₁.heap H):=fun b o e=>base_of (KX b o e) (by
   cases q:H b with
   | none=>rfl
   | some u =>
    have e':b=a:=hA b (by rw [q]; simp)
    subst e'
    rw [hK (by rw [q]; simp)] at e; cases e)
  have hM:Mod K mg (hidT s₁.heap H):=⟨hKb,nsK hns,⟨mb,nsK hb,hbb⟩,let ⟨mc,h1,h2⟩:=hlim; ⟨mc,nsK h1,h2⟩⟩
  have e0:Env0 P w K mg (hidT s₁.heap H) callerA [] s₁ H:=⟨rfl,hM,fun b o e=>zalb e,Nat.le_of_eq (zah3 _ _),trivial,fun b hb=>absurd (show b∈([]:List Addr) from hb) (by simp),hok,.of_eq hg⟩
  refine codeAny_mono ((F _ hKb (nsK hns)).run callerA [] s₁ H ⟨[.ref a],[]⟩ [.ref a] [.ref a] _ _ hr e0 (hbind s₁ (.ref a)) (.cons rfl .nil) (hsp H hO hS)) fun r s' h=>?_
  cases r with
  | error e=>exact (hCX H e s' h).elim
  | ok fl =>
   cases fl with
   | next=>exact False.elim h
   | brk=>exact False.elim h
   | cont=>exact False.elim h
   | ret u =>
    obtain ⟨v,H',os,bare,un,hok',r',q⟩:=h
    have q':v=.bl true:=q
    subst q'
    obtain rfl:u=Value.bool true:=r'
    refine ⟨rfl,OldK.of_keep fun b o e=>?_,os,bare⟩
    cases q:H b with
    | none=>exact un.keep b o e q (by intro z; exact absurd (show b∈([]:List Addr) from z) (by simp)) (by simp)
    | some u =>
     rcases hO b with z | ⟨ob,xs,z⟩
     ·rw [q] at z; cases z
     ·have z2:=un.frzs b ob _ z
      obtain ⟨e1,_⟩:=hok b _ z
      obtain ⟨e2,_⟩:=hok' b _ z2
      rw [e] at e1; cases e1
      exact e2
 cases hk:K.lookup a with
 | some o =>
  have e:=KX a o hk
  rw [ha] at e
  cases e
  refine core (fun _=>none) (fun _=>.inl rfl) (.inr ⟨_,vs.toArray,_,hk,rfl,rfl,rfl,by rw [List.size_toArray,lenV]; exact hl,by simpa using rv⟩) (fun b u z=>by have z':(none:Option HO)=some u:=z; cases z') (fun b z=>absurd rfl z) fun z=>absurd rfl z
 | none =>
  refine core (fun b=>if b=a then some (.frz { cls:=.type "list",data:=.seq vs.toArray } (.lst (ns.map V.int))) else none) (fun b=>?_) (.inl (.inr ⟨{ cls:=.type "list",data:=.seq vs.toArray },if_pos rfl⟩)) (fun b u z=>?_) (fun b z=>?_) fun _=>hk
  ·by_cases hb:b=a
   ·exact .inr ⟨_,_,if_pos hb⟩
   ·exact .inl (if_neg hb)
  ·by_cases hb:b=a
   ·have z':=(if_pos hb).symm.trans z
    cases z'
    subst hb
    exact ⟨ha,by rw [List.length_map]; exact hl,vs,_,rv,ha⟩
   ·have z':=(if_neg hb).symm.trans z
    cases z'
  ·by_cases hb:b=a
   ·exact hb
   ·exact absurd (if_neg hb) z
theorem zaly {l:PySem.W.OpenLaw}{n k:Nat}{q:Program}{loose:List Str}{XP:(Str→Option Value)→Heap→Prop}{YP:World→Heap→Prop}{d:DefRec}{K:Params→PySem.W.Frag}{CX:World→CXT}{sp:World→Sp}{x:Str}
  (hn:l.most=some n) (hn2:n≤sizeLine) (hdf:d.params.defaults=[]) (hr:Room k callerA)
  (hY:∀ (w:World) (h:Heap),YP w h→(K w.params).In h)
  (F:∀ (w:World) (mg:Str→Option Value) (fa:Addr) (h:Heap),(K w.params).In h→h.Ns mainGlobals mg→mg d.name=some (.ref fa) →
   ∃ fd:FuncData,(∀ (s:Shared) (u:Value),BindsTo s fd ⟨[u],[]⟩ [(x,u)]) ∧
    ∀ base:Heap,(K w.params).In base→base.Ns mainGlobals mg→FnOk l.prog w (K w.params) mg base (CX w) k fa fd [x] (sp w))
  (hsp:∀ (w:World) (H:Hp) (a:Addr) (ns:List Int),ns.length≤n→Only H→SqL (K w.params) H a (ns.map V.int)→sp w [.ref a] H (fun v _=>v=.bl true) fun _ _ _=>False)
  (hCX:∀ (w:World) (H:Hp) (s:Shared) (e:Value) (s':Shared),CX w [] H s (fun _ _ _=>False) e s'→False) :
  PySem.W.WalkO q loose XP YP l.row.toRowW d [] (fun f vs=>PySem.call f vs):=by
 refine Att.attach_call hn hdf fun w s₀ s₁ mg mb fa o pm cd doc a vs ns G Y ho hd hcd hmg hobj hints hlen hg=>?_
 have KX:=hY w _ Y
 obtain ⟨fd,hb,hF⟩:=F w mg fa _ KX G.T.g hmg
 exact zakc KX G.T.g G.T.b G.T.builtins G.T.nolimit hg hobj hints (Nat.le_trans hlen hn2) hr hF hb (fun H hO hS=>hsp w H a ns hlen hO hS) fun H e s'=>hCX w H s₁ e s'
theorem zakd {l:PySem.W.OpenLaw}{n k:Nat}{q:Program}{loose:List Str}{XP:(Str→Option Value)→Heap→Prop}{YP:World→Heap→Prop}{d:DefRec}{K:Params→PySem.W.Frag}{CX:CXT}{sp:PySem.W.Frag→Sp}{x:Str}
  (hn:l.most=some n) (hn2:n≤sizeLine) (hdf:d.params.defaults=[]) (hr:Room k callerA)
  (hY:∀ (w:World) (h:Heap),YP w h→(K w.params).In h)
  (F:∀ (w:World) (mg:Str→Option Value) (fa:Addr) (h:Heap),(K w.params).In h→h.Ns mainGlobals mg→mg d.name=some (.ref fa) →
   ∃ fd:FuncData,(∀ (s:Shared) (u:Value),BindsTo s fd ⟨[u],[]⟩ [(x,u)]) ∧
    ∀ base:Heap,(K w.params).In base→base.Ns mainGlobals mg→FnOk l.prog w (K w.params) mg base CX k fa fd [x] (sp (K w.params)))
  (hsp:∀ (K:PySem.W.Frag) (H:Hp) (a:Addr) (ns:List Int),ns.length≤n→Only H→SqL K H a (ns.map V.int)→sp K [.ref a] H (fun v _=>v=.bl true) fun _ _ _=>False)
  (hCX:∀ (H:Hp) (s:Shared) (e:Value) (s':Shared),CX [] H s (fun _ _ _=>False) e s'→False) :
  PySem.W.WalkO q loose XP YP l.row.toRowW d [] (fun f vs=>PySem.call f vs) :=
 zaly (K:=K) (CX:=fun _=>CX) (sp:=fun w=>sp (K w.params)) hn hn2 hdf hr hY F (fun w H a ns h1 h2 h3=>hsp (K w.params) H a ns h1 h2 h3) fun _ H s e s'=>hCX H s e s'
def inClass (s:Stmt) (j:Nat):Stmt:=match s with
 | .ClassDef _ _ _ body _ _ _ _ _ _ _=>body.getD j (.Pass ⟨0,0,0,0⟩)
 | _=>.Pass ⟨0,0,0,0⟩
def defArgs (s:Stmt):Arguments:=match s with
 | .FunctionDef _ a _ _ _ _ _ _ _ _=>a
 | _=>{ posonlyargs:=[],args:=[],vararg:=none,kwonlyargs:=[],kw_defaults:=[],kwarg:=none,defaults:=[] }
def defBody (s:Stmt):List Stmt:=match s with
 | .FunctionDef _ _ b _ _ _ _ _ _ _=>b
 | _=>[]
def defScope (s:Stmt):Scope:=match s with
 | .FunctionDef _ _ _ _ _ _ sc _ _ _=>sc
 | _=>{ kind:=.function,names:=[],isGenerator:=false,isCoroutine:=false }
abbrev CX0:CXT:=fun _ _ _ _ _ _=>False
abbrev E0:XK:=fun _ _ _=>False
theorem pass0 {X:Cx}:Passes CX0 X E0:=fun _ _ _ _ _ _ _ h=>h.elim
structure Fun (K:PySem.W.Frag) (x qual:Str) (st:Stmt) (f:Addr) (fd:FuncData):Prop where
 ex:∃ (oc:Value) (od:Option Addr) (kV doc pm:Value) (an:Option Addr) (cdv ct:Value) (osl:Array (Option Value)),
  fd=PySem.W.fnOf x qual (defArgs st) (defBody st) (defScope st) .none kV doc pm an cdv ct∧K.lookup f=some ⟨oc,od,.func fd,osl⟩∧PySem.W.codeIn K cdv qual=true
 kp:PySem.W.keepIn K (.ref f)=true
section
variable {P:Program}{w:World}{K:PySem.W.Frag}{mg:Str→Option Value}{base:Heap}
theorem Fun.ok {x qual:Str}{st:Stmt}{f:Addr}{fd:FuncData}{N ps:List Str}{k:Nat}{sp:Sp} (F:Fun K x qual st f fd) (S:FnScope N ps (defScope st)) (len:∀ vs H Q E,sp vs H Q E→vs.length=ps.length)
  (hbody:∀ (cdv:Value) (A:Around) (outer:List Env) (s:Shared) (H:Hp) (vs:List V) (Q:VK) (E:XK),Room k (A.deeper (envOfC qual (defScope st) s.heap.objs.size f cdv))→sp vs H Q E →
   ∃ t,PSs (cxOf CX0 P w K mg base N qual (defScope st) f cdv A outer s H E).nox (defBody st) t∧t { nx:=fun _ H'=>Q .non H',rt:=Q } (start N vs) H):FnOk P w K mg base CX0 (k + 1) f fd ps sp:=by
 obtain ⟨oc,od,kV,doc,pm,an,cdv,ct,osl,rfl,lk,hcd⟩:=F.ex
 refine zapc lk hcd S len fun A outer s H vs Q E hr hsp=>?_
 obtain ⟨t,h,q⟩:=hbody cdv A outer s H vs Q E hr hsp
 exact ⟨t,h.nox,q⟩
theorem Fun.binds {x qual:Str}{st:Stmt}{f:Addr}{fd:FuncData}{ps:List Str} (F:Fun K x qual st f fd)
  (h:∀ (kV doc pm:Value) (an:Option Addr) (cdv ct:Value) (us:List Value),us.length=ps.length→bindArgs (PySem.W.fnOf x qual (defArgs st) (defBody st) (defScope st) .none kV doc pm an cdv ct) ⟨us,[]⟩=pure (ps.zip us)):Binds K fd ps []:=by
 obtain ⟨oc,od,kV,doc,pm,an,cdv,ct,osl,rfl,lk,hcd⟩:=F.ex
 exact .all (h kV doc pm an cdv ct)
theorem zabg {x qual:Str}{st:Stmt}{f:Addr}{oc:Value}{od an:Option Addr}{osl:Array (Option Value)}{kV doc pm cdv ct:Value} (l:K.lookup f=some ⟨oc,od,.func (PySem.W.fnOf x qual (defArgs st) (defBody st) (defScope st) .none kV doc pm an cdv ct),osl⟩)
  (c:PySem.W.codeIn K cdv qual=true) (k:PySem.W.keepIn K (.ref f)=true):Fun K x qual st f (PySem.W.fnOf x qual (defArgs st) (defBody st) (defScope st) .none kV doc pm an cdv ct):=⟨⟨oc,od,kV,doc,pm,an,cdv,ct,osl,rfl,l,c⟩,k⟩
end
theorem zanv {A:Around}{k:Nat} (hr:Room k A):A.units + 1 < cLine:=Nat.lt_of_le_of_lt (Nat.add_le_add_left (by decide:1≤64) _) hr.units
theorem iteF {A B:Prop} (h:B):if false=true then A else B:=by
 rw [if_neg Bool.false_ne_true]
 exact h
theorem iteT {A B:Prop} (h:A):if true=true then A else B:=by
 rw [if_pos rfl]
 exact h
theorem ite2 {c A B:Prop} [Decidable c] (h1:c→A) (h2:¬ c→B):if c then A else B:=by
 by_cases h:c
 ·rw [if_pos h]
  exact h1 h
 ·rw [if_neg h]
  exact h2 h
end L2

namespace L2
open PySem PySem.Spec PyProof.Rows
section
variable {κ:Type} [DecidableEq κ]
def valV (kvs:List (κ × V)) (k:κ):Option V:=(kvs.find? fun kv=>decide (kv.1=k)).map (·.2)
def putK (kvs:List (κ × V)) (k:κ) (v:V):List (κ × V) :=
 if (kvs.any fun kv=>decide (kv.1=k))=true then kvs.map (fun kv=>if kv.1=k then (kv.1,v) else kv) else kvs++[(k,v)]
theorem zab6 {p:κ × V}{r:List (κ × V)}{k:κ} (e:p.1=k):valV (p :: r) k=some p.2:=by simp [valV,List.find?_cons,e]
theorem zab7 {p:κ × V}{r:List (κ × V)}{k:κ} (e:¬ p.1=k):valV (p :: r) k=valV r k:=by simp [valV,List.find?_cons,e]
theorem zad0 (k:κ):∀ kvs:List (κ × V),(kvs.any fun kv=>decide (kv.1=k))=(valV kvs k).isSome
 | []=>rfl
 | p :: r=>by
  rw [List.any_cons]
  by_cases e:p.1=k
  ·simp only [zab6 e,decide_eq_true e,Bool.true_or,Option.isSome_some]
  ·rw [zab7 e,decide_eq_false e,Bool.false_or]; exact zad0 k r
theorem zag9 (k j:κ) (y:V):∀ kvs:List (κ × V),valV (kvs.map fun kv=>if kv.1=k then (kv.1,y) else kv) j=(valV kvs j).map fun x=>if j=k then y else x
 | []=>rfl
 | p :: r=>by
  have ih:=zag9 k j y r
  rw [List.map_cons]
  by_cases h:p.1=k
  ·rw [if_pos h]
   by_cases e:p.1=j
   ·rw [zab6 (p:=(p.1,y)) e,zab6 e,Option.map_some,if_pos (e.symm.trans h)]
   ·rw [zab7 (p:=(p.1,y)) e,zab7 e,ih]
  ·rw [if_neg h]
   by_cases e:p.1=j
   ·rw [zab6 (p:=p) e,zab6 e,Option.map_some,if_neg (fun z=>h (e.trans z))]
   ·rw [zab7 (p:=p) e,zab7 e,ih]
theorem zaft (k j:κ) (y:V):∀ kvs:List (κ × V),valV kvs k=none→valV (kvs++[(k,y)]) j=if j=k then some y else valV kvs j
 | [],_=>by
  by_cases e:k=j
  ·rw [if_pos e.symm]; exact zab6 (p:=(k,y)) e
  ·rw [if_neg (fun z=>e z.symm)]; exact zab7 (p:=(k,y)) e
 | p :: r,hn=>by
  rw [List.cons_append]
  have hk:¬ p.1=k:=fun z=>by rw [zab6 z] at hn; cases hn
  rw [zab7 hk] at hn
  have ih:=zaft k j y r hn
  by_cases e:p.1=j
  ·rw [zab6 e,zab6 e,if_neg (fun z=>hk (e.trans z))]
  ·rw [zab7 e,zab7 e,ih]
theorem zad1 (kvs:List (κ × V)) (k j:κ) (y:V):valV (putK kvs k y) j=if j=k then some y else valV kvs j:=by
 unfold putK
 by_cases a:(kvs.any fun kv=>decide (kv.1=k))=true
 ·rw [if_pos a,zag9]
  rw [zad0] at a
  by_cases e:j=k
  ·obtain ⟨x,hx⟩:=Option.isSome_iff_exists.mp a
   rw [if_pos e,e,hx,Option.map_some,if_pos rfl]
  ·rw [if_neg e]
   cases valV kvs j with
   | none=>rfl
   | some x=>rw [Option.map_some,if_neg e]
 ·rw [if_neg a]
  refine zaft k j y kvs ?_
  rw [zad0] at a
  cases q:valV kvs k with
  | none=>rfl
  | some x=>rw [q] at a; exact (a rfl).elim
theorem zacj (kvs:List (κ × V)) (k:κ) (v:V):(putK kvs k v).length≤kvs.length + 1:=by
 unfold putK
 split
 ·rw [List.length_map]; omega
 ·rw [List.length_append,List.length_cons,List.length_nil]; omega
theorem RelO.isSome_eq {o:Option V}{u:Option Value} (r:RelO o u):o.isSome=u.isSome:=by
 cases o with
 | none=>cases u with
  | none=>rfl
  | some _=>exact (show False from r).elim
 | some _=>cases u with
  | none=>exact (show False from r).elim
  | some _=>rfl
theorem RelO.getD {o:Option V}{u:Option Value}{d:V}{d':Value} (r:RelO o u) (rd:RelV d d'):RelV (o.getD d) (u.getD d'):=by
 cases o with
 | none=>cases u with
  | none=>exact rd
  | some _=>exact (show False from r).elim
 | some _=>cases u with
  | none=>exact (show False from r).elim
  | some _=>exact r
theorem KV.val {kvs:List (κ × V)}{vs:List (κ × Value)} (r:KV kvs vs) (k:κ):RelO (valV kvs k) (valueAt vs k):=by
 unfold KV at r
 induction r with
 | nil=>exact True.intro
 | @cons p q ps qs h t ih =>
  obtain ⟨h1,h2⟩:=h
  by_cases e:p.1=k
  ·have e':q.1=k:=h1.symm.trans e
   have b:valueAt (q :: qs) k=some q.2:=by simp [valueAt,List.find?_cons,e']
   rw [zab6 e,b]; exact h2
  ·have e':¬ q.1=k:=fun z=>e (h1.trans z)
   have b:valueAt (q :: qs) k=valueAt qs k:=by simp [valueAt,List.find?_cons,e']
   rw [zab7 e,b]; exact ih
theorem KV.any {kvs:List (κ × V)}{vs:List (κ × Value)} (r:KV kvs vs) (k:κ):(kvs.any fun kv=>decide (kv.1=k))=vs.any fun kv=>decide (kv.1=k):=by
 unfold KV at r
 induction r with
 | nil=>rfl
 | cons h t ih=>rw [List.any_cons,List.any_cons,ih,h.1]
theorem KV.repl {kvs:List (κ × V)}{vs:List (κ × Value)} (r:KV kvs vs) (k:κ) {y:V}{u:Value} (ry:RelV y u) :
  KV (kvs.map fun kv=>if kv.1=k then (kv.1,y) else kv) (vs.map fun kv=>if kv.1=k then (kv.1,u) else kv):=by
 unfold KV at r ⊢
 induction r with
 | nil=>exact .nil
 | @cons p q ps qs h t ih =>
  rw [List.map_cons,List.map_cons]
  refine .cons ?_ ih
  obtain ⟨h1,h2⟩:=h
  by_cases e:p.1=k
  ·rw [if_pos e,if_pos (h1.symm.trans e)]; exact ⟨h1,ry⟩
  ·rw [if_neg e,if_neg (fun z=>e (h1.trans z))]; exact ⟨h1,h2⟩
theorem KV.put {kvs:List (κ × V)}{vs:List (κ × Value)} (r:KV kvs vs) (k:κ) {y:V}{u:Value} (ry:RelV y u):KV (putK kvs k y) (stored vs k u):=by
 unfold putK stored
 rw [r.any k]
 by_cases e:(vs.any fun kv=>decide (kv.1=k))=true
 ·rw [if_pos e,if_pos e]; exact r.repl k ry
 ·rw [if_neg e,if_neg e]; exact Paired.snoc r ⟨rfl,ry⟩
theorem KV.length {kvs:List (κ × V)}{vs:List (κ × Value)} (r:KV kvs vs):kvs.length=vs.length:=Paired.length r
end
theorem zae4 {P:Program}{w:World}{k:Key}{u:Value} (r:RelV (kV k) u):(mixKind P w).is k u=true:=by
 cases k with
 | inl i=>obtain ⟨t,e⟩:=(show ∃ t,u=Value.int i t from r); subst e; exact zaf9 P w i t
 | inr x=>obtain ⟨t,e⟩:=(show ∃ t,u=Value.str x t from r); subst e; exact zaga P w x t
theorem zafu {P:Program}{w:World}:∀ {ks:List Key}{us:List Value},Vals (ks.map kV) us→ItemsAre (mixKind P w) ks us
 | [],_,r=>by rw [List.map_nil] at r; cases r; exact .nil
 | k :: ks,_,r=>by
  rw [List.map_cons] at r
  cases r with
  | cons h t=>exact .cons (zae4 h) (zafu t)
abbrev KT (H:Hp):List (List Key × V)→List (List Key × Addr × Value)→Prop:=Paired fun p q=>p.1=q.1∧H q.2.1=some (.tup (p.1.map kV))∧RelV p.2 q.2.2
theorem KT.val {H:Hp}{kvs:List (List Key × V)}{xs:List (List Key × Addr × Value)} (r:KT H kvs xs) (k:List Key):RelO (valV kvs k) ((atKey xs k).map (·.2)):=by
 induction r with
 | nil=>exact True.intro
 | @cons p q ps qs h t ih =>
  obtain ⟨h1,_,h2⟩:=h
  by_cases e:p.1=k
  ·have e':q.1=k:=h1.symm.trans e
   have b:atKey (q :: qs) k=some q.2:=by simp [atKey,List.find?_cons,e']
   rw [zab6 e,b]; exact h2
  ·have e':¬ q.1=k:=fun z=>e (h1.trans z)
   have b:atKey (q :: qs) k=atKey qs k:=by simp [atKey,List.find?_cons,e']
   rw [zab7 e,b]; exact ih
theorem KT.repl {H:Hp}{kvs:List (List Key × V)}{xs:List (List Key × Addr × Value)} (r:KT H kvs xs) (k:List Key) {y:V}{u:Value} (ry:RelV y u) :
  KT H (kvs.map fun kv=>if kv.1=k then (kv.1,y) else kv) (xs.map (putAt k u)):=by
 induction r with
 | nil=>exact .nil
 | @cons p q ps qs h t ih =>
  rw [List.map_cons,List.map_cons]
  refine .cons ?_ ih
  obtain ⟨h1,h2,h3⟩:=h
  unfold putAt
  by_cases e:p.1=k
  ·rw [if_pos e,if_pos (h1.symm.trans e)]; exact ⟨h1,h2,ry⟩
  ·rw [if_neg e,if_neg (fun z=>e (h1.trans z))]; exact ⟨h1,h2,h3⟩
theorem KT.put {H:Hp}{kvs:List (List Key × V)}{xs:List (List Key × Addr × Value)} (r:KT H kvs xs) (k:List Key) {b:Addr}{y:V}{u:Value} (hb:H b=some (.tup (k.map kV))) (ry:RelV y u) :
  KT H (putK kvs k y) (storedH xs k b u):=by
 have e:(kvs.any fun kv=>decide (kv.1=k))=(atKey xs k).isSome:=by
  rw [zad0,(r.val k).isSome_eq,Option.isSome_map]
 unfold putK storedH
 rw [e]
 by_cases q:(atKey xs k).isSome=true
 ·rw [if_pos q,if_pos q]; exact r.repl k ry
 ·rw [if_neg q,if_neg q]; exact Paired.snoc r ⟨rfl,hb,ry⟩
theorem KT.keeps {H H':Hp}{kvs:List (List Key × V)}{xs:List (List Key × Addr × Value)} (r:KT H kvs xs) (ht:∀ b ys,H b=some (.tup ys)→H' b=some (.tup ys)):KT H' kvs xs :=
 Paired.mapP r fun _ _ z=>⟨z.1,ht _ _ z.2.1,z.2.2⟩
section
variable {P:Program}{w:World}{H:Hp}{h:Heap}{a:Addr}
theorem zanw {u:HO} (ok:HOk P w H h) (e:Rd H a u):ObjOk P w H h a u:=e.ok ok
theorem zagd {kvs:List (Key × V)} (ok:HOk P w H h) (e:Rd H a (.dK kvs)):kvs.length≤sizeLine∧(a == sysModules)=false∧∃ vs,KV kvs vs∧h.DictOf (mixKind P w) a vs :=
 show ObjOk P w H h a (.dK kvs) from zanw ok e
theorem zanx {kvs:List (Key × V)} (ok:HOk P w H h) (e:H a=some (.dK kvs)):kvs.length≤sizeLine∧(a == sysModules)=false∧∃ vs,KV kvs vs∧h.DictOf (mixKind P w) a vs:=zagd ok (.inl e)
theorem zafv {ks:List Key} (ok:HOk P w H h) (e:H a=some (.tup (ks.map kV))):(tupleKind (mixKind P w)).is h ks a:=by
 obtain ⟨_,its,r,o,h1,h2,n,h3⟩:=(show ObjOk P w H h a (.tup (ks.map kV)) from ok a _ e)
 exact ⟨o,its.toArray,n,h1,h2,h3,by simpa using zafu r⟩
theorem zahu {kvs:List (List Key × V)} (ok:HOk P w H h) (e:Rd H a (.dT kvs)):kvs.length≤sizeLine∧(a == sysModules)=false ∧
  ∃ xs,KT H kvs xs∧h.DictOfH (tupleKind (mixKind P w)) a xs:=by
 obtain ⟨z,y,xs,r,o,es,ep,h1,h2,h3,h4,h5⟩:=(show ObjOk P w H h a (.dT kvs) from zanw ok e)
 refine ⟨z,y,xs,r,o,es,ep,h1,h2,h3,h4,fun x hx=>?_,h5⟩
 have all:∀ {l:List (List Key × V)}{m:List (List Key × Addr × Value)},KT H l m→∀ x∈m,(tupleKind (mixKind P w)).is h x.1 x.2.1:=by
  intro l m q
  induction q with
  | nil=>intro x hx; exact nomatch hx
  | @cons p q ps qs hq t ih =>
   intro x hx
   rcases List.mem_cons.mp hx with e | hx
   ·subst e
    exact zafv ok (by rw [← hq.1]; exact hq.2.1)
   ·exact ih x hx
 exact all r x hx
theorem zapf {kvs:List (List Key × V)} (ok:HOk P w H h) (e:H a=some (.dT kvs)):kvs.length≤sizeLine∧(a == sysModules)=false ∧
  ∃ xs,KT H kvs xs∧h.DictOfH (tupleKind (mixKind P w)) a xs:=zahu ok (.inl e)
end
def DGet (H:Hp) (a:Addr) (y:V) (r:Option V):Prop :=
 (∃ kvs k,Rd H a (.dK kvs)∧y=kV k∧r=valV kvs k)∨∃ kvs k b,Rd H a (.dT kvs)∧y=.ref b∧H b=some (.tup (k.map kV))∧r=valV kvs k
def DPut (H:Hp) (a:Addr) (y v:V) (H':Hp):Prop :=
 (∃ kvs k,H a=some (.dK kvs)∧y=kV k∧kvs.length < sizeLine∧H'=upd H a (.dK (putK kvs k v))) ∨
 ∃ kvs k b,H a=some (.dT kvs)∧y=.ref b∧H b=some (.tup (k.map kV))∧kvs.length < sizeLine∧H'=upd H a (.dT (putK kvs k v))
theorem DGet.k {H:Hp}{a:Addr}{kvs:List (Key × V)}{k:Key} (e:H a=some (.dK kvs)):DGet H a (kV k) (valV kvs k):=.inl ⟨kvs,k,.inl e,rfl,rfl⟩
theorem DPut.k {H:Hp}{a:Addr}{kvs:List (Key × V)}{k:Key}{v:V} (e:H a=some (.dK kvs)) (hl:kvs.length < sizeLine):DPut H a (kV k) v (upd H a (.dK (putK kvs k v))):=.inl ⟨kvs,k,e,rfl,hl,rfl⟩
section
variable {X:Cx}{pins:List (Addr × Obj)}{σ:St}{H:Hp}{s:Shared}{a:Addr}{y v:V}{u r:Value}{o:Option V}{A:Around}{E:Value→Shared→Prop}
theorem Inv.big (I:Inv X pins σ H s):sysModules < s.heap.objs.size:=by
 have h:mainGlobals < s.heap.objs.size:=(I.mod.glob.keeps I.bk).lt
 exact Nat.lt_trans (by decide) h
theorem zaio {Q:Value→Shared→Prop} (hu:A.units + 1 < cLine) (I:Inv X pins σ H s) (g:DGet H a y (some v)) (ry:RelV y u) (h:∀ w' s',Inv X pins σ H s'→RelV v w'→Q w' s') :
  wpAny (model X.prog X.w) A (getItem (.ref a) u) Q E s:=by
 rcases g with ⟨kvs,k,e,ey,l⟩ | ⟨kvs,k,b,e,ey,eb,l⟩
 ·subst ey
  obtain ⟨z,hd,vs,rel,dd⟩:=zagd I.hok e
  obtain ⟨w',hw,rw'⟩:=RelO.some_of (v:=v) (o:=valueAt vs k) (by rw [l]; exact rel.val k)
  exact wpAny_getItem_of (zae4 ry) dd.mapOf hw (h w' _ (I.tok _) rw')
 ·subst ey
  cases (show u=Value.ref b from ry)
  obtain ⟨z,hd,xs,rel,dd⟩:=zahu I.hok e
  obtain ⟨w',hw,rw'⟩:=RelO.some_of (v:=v) (o:=(atKey xs k).map (·.2)) (by rw [l]; exact rel.val k)
  obtain ⟨p,hp,hp2⟩:=Option.map_eq_some_iff.mp hw
  refine wpAny_getItem_heap (tupleKind_room_in1 hu) (zafv I.hok eb) dd hp ?_
  rw [hp2]
  exact h w' _ (I.tok _) rw'
theorem d_in {Q:Value→Shared→Prop} (hu:A.units + 1 < cLine) (I:Inv X pins σ H s) (g:DGet H a y o) (ry:RelV y u) (h:∀ s',Inv X pins σ H s'→Q (.bool o.isSome) s') :
  wpAny (model X.prog X.w) A (compareOp .In u (.ref a)) Q E s:=by
 rcases g with ⟨kvs,k,e,ey,l⟩ | ⟨kvs,k,b,e,ey,eb,l⟩
 ·subst ey
  obtain ⟨z,hd,vs,rel,dd⟩:=zagd I.hok e
  refine wpAny_in_of (zae4 ry) hd dd.mapOf ?_
  rw [← (rel.val k).isSome_eq,← l]
  exact h _ (I.tok _)
 ·subst ey
  cases (show u=Value.ref b from ry)
  obtain ⟨z,hd,xs,rel,dd⟩:=zahu I.hok e
  refine wpAny_in_heap (tupleKind_room_in1 hu) (zafv I.hok eb) hd dd ?_
  have q:=(rel.val k).isSome_eq
  rw [Option.isSome_map] at q
  rw [← q,← l]
  exact h _ (I.tok _)
theorem zage {h':Heap}{t':Nat}{ob:HO} (I:Inv X pins σ H s) (mu:Mut (H a)) (hs:Heap.SameBut a s.heap h') (he:∃ q,h'.get? a=some q) (new:ObjOk X.prog X.w (upd H a ob) h' a ob) :
  Inv X pins σ (upd H a ob) { s with heap:=h',toks:=t' } :=
 I.write (x:=a) (e:=a) mu (.inl rfl) (fun b q hb z=>(hs.2 b hb).trans z) he new
theorem zak7 {P:Program}{w:World}{H':Hp}{h':Heap}{kvs:List (Key × V)}{vs:List (Key × Value)} (z:kvs.length≤sizeLine) (hd:(a == sysModules)=false) (rel:KV kvs vs) (dd:h'.DictOf (mixKind P w) a vs) :
  ObjOk P w H' h' a (.dK kvs):=⟨z,hd,vs,rel,dd⟩
theorem zaip {H':Hp}{Q:Unit→Shared→Prop} (hu:A.units + 1 < cLine) (I:Inv X pins σ H s) (g:DPut H a y v H') (ry:RelV y u) (rv:RelV v r) (h:∀ s',Inv X pins σ H' s'→Q () s') :
  wpAny (model X.prog X.w) A (setItem (.ref a) u r) Q E s:=by
 rcases g with ⟨kvs,k,e,ey,l,eH⟩ | ⟨kvs,k,b,e,ey,eb,l,eH⟩
 ·subst ey eH
  obtain ⟨z,hd,vs,rel,dd⟩:=zanx I.hok e
  have hz:vs.length≤sizeLine:=by rw [← rel.length]; exact z
  have hl:(putK kvs k v).length≤sizeLine:=by have:=zacj kvs k v; omega
  refine wpAny_setItem_pairs (hsz:=hz) (zae4 ry) dd fun h' dd' hs=>h _ ?_
  have he:∃ q,h'.get? a=some q:=let ⟨q,_,_,hq,_⟩:=dd'; ⟨q,hq⟩
  exact zage I (by rw [e]; exact True.intro) hs he (zak7 hl hd (rel.put k rv) dd')
 ·subst ey eH
  cases (show u=Value.ref b from ry)
  obtain ⟨z,hd,xs,rel,dd⟩:=zapf I.hok e
  have hz:xs.length≤sizeLine:=by rw [← Paired.length rel]; exact z
  have hl:(putK kvs k v).length≤sizeLine:=by have:=zacj kvs k v; omega
  refine wpAny_setItem_heap (hsz:=hz) (tupleKind_room_in1 hu) (zafv I.hok eb) dd fun h' dd' hs=>h _ ?_
  obtain ⟨q,es,ep,hq,h2,h3,h4,_,h5⟩:=dd'
  refine zage I (by rw [e]; exact True.intro) hs ⟨q,hq⟩ ⟨hl,hd,_,(rel.put k eb rv).keeps fun c ys ec=>?_,q,es,ep,hq,h2,h3,h4,h5⟩
  rw [zabe (zahk ec e (fun z=>nomatch z))]
  exact ec
end
def NoSl (i:Expr):Prop:=∀ ov iv,subscripted i false ov iv=operate [ov,iv] (getItem ov iv)
theorem zaiq {prog:Program}{w:World}{A:Around}{E:Value→Shared→Prop}{s:Shared}{env:Env}{value slice:Expr}{pos:Pos}{T id:String}{Q:Value→Shared→Prop}
  (hl:typeLookup (.type T) "__getitem__" = pure (some (.builtin id))) (hs:NoSl slice)
  (h:wpAny (model prog w) A (eval value env) (fun o s₁=>wpAny (model prog w) A (eval slice env) (fun i s₂=>s₂.TypeIs o T∧wpAny (model prog w) A (getItem o i) Q E s₂) E s₁) E s) :
  wpAny (model prog w) A (eval (.Subscript value slice pos) env) Q E s:=by
 refine Subscript_ (wpAny_mono h (fun o s₁ h₁=>wpAny_mono h₁ (fun i s₂ h₂=>?_) fun _ _ x=>x) fun _ _ x=>x)
 obtain ⟨hT,h₂⟩:=h₂
 unfold subscriptTail
 refine wpAny_bind ?_
 rw [getitemInPython_of_ne hT.not_modules]
 refine wpAny_bind (wpAny_specialOf hT hl ?_)
 have fin:wpAny (model prog w) A (subscripted slice false o i) (fun r s₃=>wpAny (model prog w) A (letTemporaryGo value o r >>= fun _=>pure r) Q E s₃) E s₂:=by
  rw [hs o i]
  exact wpAny_operating (wpAny_mono h₂ (fun r s₃ h₃=>wpAny_bind (wpAny_letTemporaryGo (wpAny_pure h₃))) fun _ _ x=>x)
 first
  | exact wpAny_pure (wpAny_bind fin)
  | exact wpAny_bind (wpAny_pure (wpAny_bind fin))
  | exact wpAny_bind fin
theorem zagf {X:Cx}{pins:List (Addr × Obj)}{σ:St}{H:Hp}{s:Shared}{a:Addr}{y:V}{o:Option V} (I:Inv X pins σ H s) (g:DGet H a y o):s.TypeIs (.ref a) "dict" := by
 rcases g with ⟨kvs,k,e,_,_⟩ | ⟨kvs,k,b,e,_,_,_⟩
 ·obtain ⟨_,_,vs,_,dd⟩:=zagd I.hok e
  exact dd.typeIs
 ·obtain ⟨_,_,xs,_,dd⟩:=zahu I.hok e
  exact dd.typeIs
def tDGet (td ty:TE):TE:=fun σ H Q=>td σ H fun x H1=>ty σ H1 fun y H2=>∃ a v,x=.ref a∧DGet H2 a y (some v)∧Q v H2
def tDIn (ty td:TE):TE:=fun σ H Q=>ty σ H fun y H1=>td σ H1 fun x H2=>∃ a o,x=.ref a∧DGet H2 a y o∧Q (.bl o.isSome) H2
def sDPut (td ty tv:TE):TS:=fun D σ H=>tv σ H fun v H1=>td σ H1 fun x H2=>ty σ H2 fun y H3=>∃ a H4,x=.ref a∧DPut H3 a y v H4∧D.nx σ H4
section
variable {X:Cx}{o i e value:Expr}{pos pos' tpos:Pos}{td ty tv:TE}
theorem zalz (hu:X.A.units + 1 < cLine) (ho:PE X o td) (hi:PE X i ty) (hs:NoSl i):PE X (.Subscript o i pos) (tDGet td ty):=by
 intro pins s σ H Q I h
 refine zaiq PySem.F.slot_dict_getitem.lookup hs (thn (ho pins s σ H _ I h) fun u s1 ⟨x,H1,I1,rx,q1⟩=>thn (hi pins s1 σ H1 _ I1 q1) fun iv s2 ⟨y,H2,I2,ry,a,v,ex,g,q2⟩=>?_)
 subst ex
 obtain rfl:u=Value.ref a:=rx
 exact ⟨zagf I2 g,zaio hu I2 g ry fun w' s3 I3 rw'=>⟨v,H2,I3,rw',q2⟩⟩
theorem zany (hu:X.A.units + 1 < cLine) (hi:PE X i ty) (ho:PE X o td):PC X .In i o (tDIn ty td):=by
 intro pins s σ H Q I h
 refine thn (hi pins s σ H _ I h) fun iv s1 ⟨y,H1,I1,ry,q1⟩=>thn (ho pins s1 σ H1 _ I1 q1) fun u s2 ⟨x,H2,I2,rx,a,ov,ex,g,q2⟩=>?_
 subst ex
 obtain rfl:u=Value.ref a:=rx
 exact d_in hu I2 g ry fun s3 I3=>⟨.bl ov.isSome,H2,I3,rfl,q2⟩
theorem zal0 (hu:X.A.units + 1 < cLine) (ho:PE X o td) (hi:PE X i ty) (hv:PE X value tv) (hs:swapsWith value (some (.Subscript o i pos')) pos.line X.env=pure false) :
  PS X (.Assign [.Subscript o i pos'] value pos) (sDPut td ty tv):=by
 intro pins s σ H D I h
 refine wpAny_Assign_Subscript (thn (hv pins s σ H _ I h) fun r s1 ⟨v,H1,I1,rv,q1⟩=>thn (ho pins s1 σ H1 _ I1 q1) fun u s2 ⟨x,H2,I2,rx,q2⟩=>thn (hi pins s2 σ H2 _ I2 q2) fun iv s3 ⟨y,H3,I3,ry,a,H4,ex,g,q3⟩=>?_) hs
 subst ex
 obtain rfl:u=Value.ref a:=rx
 exact zaip hu I3 g ry rv fun s4 I4=>⟨σ,H4,I4,q3⟩
end
theorem zake {P:Program}{w:World}{H:Hp} (h:Heap) (hb:sysModules < h.objs.size):ObjOk P w H (h.push { cls:=.type "dict",data:=.dict #[] }) h.objs.size (.dK []) :=
 ⟨Nat.zero_le _,beq_eq_false_iff_ne.mpr (Ne.symm (Nat.ne_of_lt hb)),[],.nil,Heap.DictOf.new h⟩
def tPairs:List (TE × TE)→St→Hp→(List (V × V)→Hp→Prop)→Prop
 | [],_,H,Q=>Q [] H
 | (tk,tv) :: r,σ,H,Q=>tk σ H fun x H1=>tv σ H1 fun y H2=>tPairs r σ H2 fun ps H3=>Q ((x,y) :: ps) H3
abbrev VV:List (V × V)→List (Value × Value)→Prop:=Paired fun p q=>RelV p.1 q.1∧RelV p.2 q.2
def PPs (X:Cx) (pos:Pos) (keys:List (Option Expr)) (values:List Expr) (trs:List (TE × TE)):Prop :=
 ∀ (pins:List (Addr × Obj)) (s:Shared) (σ:St) (H:Hp) (Q:List (V × V)→Hp→Prop),Inv X pins σ H s→tPairs trs σ H Q →
  wpAny (model X.prog X.w) X.A (evalPairs (pairTrees keys values X.env pos)) (fun vs s'=>∃ ps H',Inv X pins σ H' s'∧VV ps vs∧Q ps H') X.xe s
theorem zal1 {X:Cx}{pos:Pos}:PPs X pos [] [] []:=fun pins s σ H Q I h=>pairTrees_nil_walk ⟨[],H,I,.nil,h⟩
theorem zakf {X:Cx}{pos:Pos}{k v:Expr}{ks:List (Option Expr)}{vs:List Expr}{tk tv:TE}{trs:List (TE × TE)} (hk:PE X k tk) (hv:PE X v tv) (hr:PPs X pos ks vs trs) :
  PPs X pos (some k :: ks) (v :: vs) ((tk,tv) :: trs):=fun pins s σ H Q I h =>
 pairTrees_cons_walk (thn (hk pins s σ H _ I h) fun u s1 ⟨x,H1,I1,rx,q1⟩=>thn (hv pins s1 σ H1 _ I1 q1) fun w2 s2 ⟨y,H2,I2,ry,q2⟩ =>
  thn (hr pins s2 σ H2 _ I2 q2) fun ws s3 ⟨ps,H3,I3,rel,q3⟩=>⟨(x,y) :: ps,H3,I3,.cons ⟨rx,ry⟩ rel,q3⟩)
def mergeK (kvs more:List (Key × V)):List (Key × V):=more.foldl (fun acc kv=>putK acc kv.1 kv.2) kvs
theorem KV.merge:∀ {more:List (Key × V)}{rs:List (Key × Value)}{kvs:List (Key × V)}{vs:List (Key × Value)},KV more rs→KV kvs vs→KV (mergeK kvs more) (merged vs rs):=by
 intro more rs kvs vs r
 unfold KV at r
 induction r generalizing kvs vs with
 | nil=>intro q; exact q
 | @cons p q ps qs h t ih =>
  intro r0
  have e:KV (putK kvs p.1 p.2) (stored vs q.1 q.2):=by
   have:=r0.put p.1 h.2
   rw [← h.1]; exact this
  exact ih e
theorem zadg:∀ (more kvs:List (Key × V)),(mergeK kvs more).length≤kvs.length + more.length
 | [],kvs=>by show kvs.length≤kvs.length + 0; omega
 | p :: r,kvs=>by
  have h1:=zadg r (putK kvs p.1 p.2)
  have h2:=zacj kvs p.1 p.2
  show (mergeK (putK kvs p.1 p.2) r).length≤_
  rw [List.length_cons]; omega
theorem zaet {P:Program}{w:World}:∀ {kvs:List (Key × V)}{ws:List (Value × Value)},VV (kvs.map fun kv=>(kV kv.1,kv.2)) ws→∃ rs,Carries (mixKind P w) ws rs∧KV kvs rs
 | [],_,r=>by rw [List.map_nil] at r; cases r; exact ⟨[],True.intro,.nil⟩
 | p :: kvs,_,r=>by
  rw [List.map_cons] at r
  cases r with
  | @cons a b as bs h t =>
   obtain ⟨rs,c,q⟩:=zaet (P:=P) (w:=w) t
   obtain ⟨b1,b2⟩:=b
   exact ⟨(p.1,b2) :: rs,⟨zae4 h.1,rfl,c⟩,.cons ⟨rfl,h.2⟩ q⟩
def tDisp (trs:List (TE × TE)):TE:=fun σ H Q=>∀ p,H p=none→tPairs trs σ (upd H p (.dK [])) fun ps H2=>H2 p=some (.dK [])∧∃ kvs:List (Key × V),ps=kvs.map (fun kv=>(kV kv.1,kv.2))∧kvs.length≤15∧Q (.ref p) (upd H2 p (.dK (mergeK [] kvs)))
theorem zal2 {X:Cx}{pos:Pos}{keys:List (Option Expr)}{values:List Expr}{trs:List (TE × TE)} (h:PPs X pos keys values trs) (hall:keys.all (·.isSome)=true) (hl:keys.length=values.length) (h0:keys≠[])
  (h15:keys.length≤15):PE X (.Dict keys values pos) (tDisp trs):=by
 intro pins s σ H Q I q
 have hn:=I.hok.fresh (Nat.le_refl s.heap.objs.size)
 have I1:=I.laid (a:=s.heap.objs.size) (o:=.dK []) (h':=s.heap.push { cls:=.type "dict",data:=.dict #[] }) (t':=s.toks) (fun _ _ q=>Heap.get?_push_of_some _ q) (Nat.le_refl _) (zake s.heap I.big)
 refine wpAny_Dict_walk (knd:=mixKind X.prog X.w) hall hl h0 h15 (thn (h pins _ σ _ _ I1 (q _ hn)) fun ws s2 ⟨ps,H2,I2,rel,e,kvs,ep,lk,q2⟩=>?_)
 subst ep
 obtain ⟨rs,c,rk⟩:=zaet (P:=X.prog) (w:=X.w) rel
 obtain ⟨z,hd,vs0,r0,dd⟩:=zanx I2.hok e
 cases r0
 refine ⟨rs,c,dd,fun h' dd' hs=>⟨.ref s.heap.objs.size,_,?_,rfl,q2⟩⟩
 have hz:(mergeK [] kvs).length≤sizeLine:=by
  have h1:=zadg kvs []
  rw [List.length_nil] at h1
  rw [sizeLine_eq]; omega
 have he:∃ q,h'.get? s.heap.objs.size=some q:=let ⟨q,_,_,hq,_⟩:=dd'; ⟨q,hq⟩
 exact zage I2 (by rw [e]; exact True.intro) hs he (zak7 hz hd (rk.merge .nil) dd')
structure M2 (X:Cx) (o:Expr) (m:Str) (apos:Pos) (e f:Expr) (cpos:Pos):Prop where
 base:attributeBase o m X.env (eval o X.env)=eval o X.env
 few:((backTo cpos (starEach [e,f] X.env)).all (fun x=>!x.1) && (backToKw cpos (keywordEach [] X.env)).all (fun x=>x.1.isSome)
  && decide (([e,f]:List Expr).length + ([]:List Keyword).length + (if ([]:List Keyword).isEmpty then 0 else 1) < 30))=true
 line:(apos.endLine == cpos.line)=true
 trees:backTo cpos (starEach [e,f] X.env)=[(false,eval e X.env),(false,eval f X.env)]
def IsD (H:Hp) (a:Addr):Prop:=(∃ kvs,Rd H a (.dK kvs))∨∃ kvs,Rd H a (.dT kvs)
theorem zanz {X:Cx}{pins:List (Addr × Obj)}{σ:St}{H:Hp}{s:Shared}{a:Addr} (I:Inv X pins σ H s) (d:IsD H a) :
  s.TypeIs (.ref a) "dict" ∧ (∀ b,Value.ref a=.ref b→∃ ob,s.heap.get? b=some ob∧ob.dict=none)∧(a == sysModules)=false:=by
 rcases d with ⟨kvs,e⟩ | ⟨kvs,e⟩
 ·obtain ⟨_,hd,vs,_,dd⟩:=zagd I.hok e
  refine ⟨dd.typeIs,fun b q=>?_,hd⟩
  cases q
  obtain ⟨ob,_,_,h1,h2,_⟩:=dd
  exact ⟨ob,h1,h2.2.1⟩
 ·obtain ⟨_,hd,xs,_,dd⟩:=zahu I.hok e
  refine ⟨dd.typeIs,fun b q=>?_,hd⟩
  cases q
  obtain ⟨ob,_,_,h1,h2,_⟩:=dd
  exact ⟨ob,h1,h2.2.1⟩
section
variable {X:Cx}{pins:List (Addr × Obj)}{σ:St}{H:Hp}{s:Shared}{a:Addr}{y d:V}{u r:Value}{o:Option V}{A:Around}{E:Value→Shared→Prop}
theorem zan0 {Q:Value→Shared→Prop} (hu:A.units + 1 < cLine) (I:Inv X pins σ H s) (g:DGet H a y o) (ry:RelV y u) (rd:RelV d r) (h:∀ w' s',Inv X pins σ H s'→RelV (o.getD d) w'→Q w' s') :
  wpAny (model X.prog X.w) A (call (.builtin "dict.get") [.ref a,u,r]) Q E s:=by
 rcases g with ⟨kvs,k,e,ey,l⟩ | ⟨kvs,k,b,e,ey,eb,l⟩
 ·subst ey
  obtain ⟨z,hd,vs,rel,dd⟩:=zagd I.hok e
  refine call_meetsIn PySem.F.slot_dict_get dd.typeIs PySem.F.entry_dict_get (PySem.F.args_dict_get_3 _ _ _) (meets_dict_get_default (mixKind X.prog X.w) a (zae4 ry) hd r) ⟨_,dd.mapOf,h _ _ (I.tok _) ?_⟩
  rw [l]
  exact (rel.val k).getD rd
 ·subst ey
  cases (show u=Value.ref b from ry)
  obtain ⟨z,hd,xs,rel,dd⟩:=zahu I.hok e
  refine call_meetsIn PySem.F.slot_dict_get dd.typeIs PySem.F.entry_dict_get (PySem.F.args_dict_get_3 _ _ _) (meetsH_dict_get_default (tupleKind (mixKind X.prog X.w)) a b hd r) ⟨tupleKind_room_in1 hu,k,xs,zafv I.hok eb,dd,h _ _ (I.tok _) ?_⟩
  rw [l]
  exact (rel.val k).getD rd
end
def tDGet2 (td ty tx:TE):TE:=fun σ H Q=>td σ H fun x H1=>∃ a,x=.ref a∧IsD H1 a∧ty σ H1 fun y H2=>tx σ H2 fun z H3=>∃ o,DGet H3 a y o∧Q (o.getD z) H3
section
variable {X:Cx}{o e f:Expr}{apos cpos:Pos}{td ty tx:TE}
theorem zakg (hu:X.A.units + 1 < cLine) (ho:PE X o td) (he:PE X e ty) (hf:PE X f tx) (m:M2 X o "get" apos e f cpos):PE X (.Call (.Attribute o "get" apos) [e,f] [] cpos) (tDGet2 td ty tx):=by
 intro pins s σ H Q I h
 refine wpAny_Call_method m.base m.few m.line PySem.F.plainAttrs_dict PySem.F.slot_dict_get PySem.F.type_dict_get (thn (ho pins s σ H _ I h) fun u s1 ⟨x,H1,I1,rx,a,ex,d,q1⟩=>?_)
 subst ex
 obtain rfl:u=Value.ref a:=rx
 obtain ⟨t1,t2,_⟩:=zanz I1 d
 refine ⟨t1,t2,?_⟩
 rw [m.trees]
 refine Calls.callWith_builtin rfl (Calls.evalArgs_plain (Calls.spliced_cons (thn (he pins s1 σ H1 _ I1 q1) fun iv s2 ⟨y,H2,I2,ry,q2⟩ =>
  Calls.spliced_cons (thn (hf pins s2 σ H2 _ I2 q2) fun fv s3 ⟨z,H3,I3,rz,ov,g,q3⟩=>Calls.spliced_nil ?_))))
 exact zan0 hu I3 g ry rz fun w' s4 I4 rw'=>⟨_,H3,I4,rw',q3⟩
end
end L2

namespace L2
open PySem PySem.Spec PyProof.Rows
structure DefOk (P:Program) (w:World) (K:PySem.W.Frag) (mg:Str→Option Value) (base:Heap) (CX:CXT) (k:Nat) (x:Str) (ps:List Str) (sp:Sp):Prop where
 ex:∃ (f:Addr) (fd:FuncData),FnOk P w K mg base CX k f fd ps sp∧Binds K fd ps []∧PySem.W.keepIn K (.ref f)=true∧mg x=some (.ref f)
theorem DefOk.mono {P:Program}{w:World}{K:PySem.W.Frag}{mg:Str→Option Value}{base:Heap}{CX:CXT}{j k:Nat}{x:Str}{ps:List Str}{sp:Sp} (D:DefOk P w K mg base CX j x ps sp) (h:j≤k):DefOk P w K mg base CX k x ps sp:=by
 obtain ⟨f,fd,F,b⟩:=D.ex
 exact ⟨f,fd,F.mono h,b⟩
section
variable {X:Cx}{CX:CXT}{k:Nat}{ps:List Str}{sp:Sp}{E:XK}{x:Str}{p pos:Pos}{e:Expr}{es:List Expr}{t:TA}
theorem zakh (D:DefOk X.prog X.w X.K X.mg X.base CX k x ps sp) (hr:Room k X.A) (hg:Gl X x) (hx:Passes CX X E) (ha:PA X (e :: es) t) (hdb:(x == ("__debug__" : Str))=false:=by decide)
  (he:starEach (e :: es) X.env=(false,eval e X.env) :: starEach es X.env:=by rfl) (hpl:(backTo pos (starEach es X.env)).any (·.1)=false:=by rfl) :
  PE X (.Call (.Name x p) (e :: es) [] pos) (tCall sp [] E t):=by
 obtain ⟨f,fd,F,b,kp,m⟩:=D.ex
 exact zalt F hr hg m kp b .nil hx ha hdb he hpl
end
def CDivW (_ j:Int):Prop:=0 < j∧j < 2 ^ 64
theorem zabc {X:Cx}:OpR X (binaryOp .FloorDiv) (rI CDivW fun i j=>.int (i / j)):=opI fun i j _ _ _ _ _ hc q=>by
 have h1:(0:Int) < j:=hc.1
 have h2:j < 2 ^ 64:=hc.2
 have h3:j.natAbs.log2 < 64:=(Nat.log2_lt (by omega)).mpr (by omega)
 exact floordiv_int (by omega) (by rw [Int.fdiv_eq_ediv_of_nonneg i (by omega)]; exact q) (.inl (PyProof.noPylong_of_log2 (by omega)))
def Ch (W:List Addr) (H H':Hp):Prop:=∀ b o,H b=some o→b ∉ W→H' b=some o
theorem Ch.refl (W:List Addr) (H:Hp):Ch W H H:=fun _ _ h _=>h
theorem Ch.trans {W:List Addr}{H H1 H2:Hp} (a:Ch W H H1) (b:Ch W H1 H2):Ch W H H2:=fun c o h n=>b c o (a c o h n) n
theorem Ch.get {W:List Addr}{H H':Hp}{b:Addr}{o:HO} (c:Ch W H H') (h:H b=some o) (n:b ∉ W):H' b=some o:=c b o h n
theorem Ch.mono {W W':List Addr}{H H':Hp} (c:Ch W H H') (h:∀ b∈W,b∈W'):Ch W' H H':=fun b o q n=>c b o q fun z=>n (h b z)
theorem Ch.wk {W:List Addr}{H H':Hp} (c:Ch [] H H'):Ch W H H':=c.mono fun b h=>nomatch h
theorem Ch.new {W:List Addr}{H:Hp}{p:Addr} (h:H p=none) (o:HO):Ch W H (upd H p o):=fun b u q _=>by rw [zabe (zaa0 q h)]; exact q
theorem Ch.put {H:Hp}{p:Addr}{o:HO}:Ch [p] H (upd H p o):=fun b u q n=>by rw [zabe (fun z=>n (by simp [z]))]; exact q
def Scr (K:PySem.W.Frag) (H:Hp) (a:Addr) (ns:List Int):Prop :=
 ns.length≤63∧((∃ o,H a=some (.frz o (.lst (ns.map V.int)))) ∨
  ∃ (o:Obj) (its:Array Value) (n:Nat),K.lookup a=some o∧o.cls=.type "list" ∧ o.dict=none∧o.data=.seq its n∧its.size≤sizeLine∧Vals (ns.map V.int) its.toList)
theorem Scr.sq {K:PySem.W.Frag}{H:Hp}{a:Addr}{ns:List Int} (S:Scr K H a ns):SqL K H a (ns.map V.int):=by
 rcases S.2 with ⟨o,h⟩ | h
 ·exact .inl (.inr ⟨o,h⟩)
 ·exact .inr h
theorem Scr.ch {K:PySem.W.Frag}{H H':Hp}{a b:Addr}{ns:List Int}{xs:List V} (S:Scr K H a ns) (hb:H b=some (.lst xs)) (c:Ch [b] H H'):Scr K H' a ns:=by
 refine ⟨S.1,?_⟩
 rcases S.2 with ⟨o,h⟩ | h
 ·exact .inl ⟨o,c.get h (by
   intro z
   have e:a=b:=by simpa using z
   subst e
   rw [h] at hb
   cases hb)⟩
 ·exact .inr h
theorem Scr.same {K:PySem.W.Frag}{H H':Hp}{a:Addr}{ns:List Int} (S:Scr K H a ns) (c:Ch [] H H'):Scr K H' a ns:=by
 refine ⟨S.1,?_⟩
 rcases S.2 with ⟨o,h⟩ | h
 ·exact .inl ⟨o,c.get h (by simp)⟩
 ·exact .inr h
theorem Scr.of {K:PySem.W.Frag}{H:Hp}{a:Addr}{ns:List Int} (h:SqL K H a (ns.map V.int)) (hl:ns.length≤63) (hO:Only H):Scr K H a ns:=by
 refine ⟨hl,?_⟩
 rcases h with (h | ⟨o,h⟩) | h
 ·rcases hO a with z | ⟨o,xs,z⟩
  ·rw [h] at z; cases z
  ·rw [h] at z; cases z
 ·exact .inl ⟨o,h⟩
 ·exact .inr h
theorem zaas {H:Hp}{p q:Addr}{o u:HO} (hq:H q=none) (h:H p=some o):upd H q u p=some o:=by rw [zabe (zaa0 h hq)]; exact h
theorem zagg {H:Hp}{p q:Addr}{o u:HO} (n:p≠q) (h:H p=some o):upd H q u p=some o:=by rw [zabe n]; exact h
structure Loop (J:It) (g:TG) (tb:TS) (D:Ends) (σ:St) (H:Hp):Prop where
 ex:∃ W:Nat→Nat→St→Hp→Prop,(∃ m,W 0 m σ H)∧∀ i m σ H,W i m σ H →
  (J.stop i H∧D.nx σ H)∨(J.go i H∧∃ N:St→Hp→Prop,(∀ σ' H',N σ' H'→∃ m',m' < m∧W (i + 1) m' σ' H')∧∀ x H',J.yld i H x H'→g x σ H' fun σ2 H2=>tb { D with nx:=N,ct:=N,bk:=D.nx } σ2 H2)
def tLoop (wi:TI) (g:TG) (tb:TS):TS:=fun D σ H=>wi σ H fun J H1=>Loop J g tb D σ H1
theorem zal3 {X:Cx}{tg iter:Expr}{body:List Stmt}{wi:TI}{g:TG}{tb:TS}{pos:Pos} (hp:PassesOwn (model X.prog X.w) X.A X.env X.xe) (hc:X.calm=true) (hi:PI X tg iter wi) (hg:PG X tg g) (hb:PSs X body tb)
  (hs:∀ x,foldedSetIterable iter X.env x=pure x:=by intro _; rfl):PS X (.For tg iter body [] pos) (tLoop wi g tb):=by
 have hi':PI X tg iter (fun σ H R=>∃ R0:It→Hp→Prop,wi σ H R0∧∀ J H1,R0 J H1→R J H1):=by
  intro pins s σ H R I ⟨R0,h,m⟩
  refine thn (hi pins s σ H _ I h) fun v s1 h1=>thn h1 fun itv s2 h2=>?_
  obtain ⟨it,fp,tn,J,H2,e,I2,T,st2,f2,r⟩:=h2
  exact ⟨it,fp,tn,J,H2,e,I2,T,st2,f2,m _ _ r⟩
 intro pins s σ H D I h
 exact zanj hp hc hi' hg hb hs pins s σ H D I ⟨_,h,fun J H1 l=>l.ex⟩
theorem zafw {K:PySem.W.Frag}{a:Addr}{xs:List V}{g:TG}{tb:TS}{D:Ends}{σ:St}{H:Hp} (Pv:Nat→St→Hp→Prop) (h0:Pv 0 σ H) (hl:∀ i σ H,i≤xs.length→Pv i σ H→SqL K H a xs)
  (hs:∀ i x σ H,xs[i]?=some x→Pv i σ H→g x σ H fun σ2 H2=>tb { D with nx:=Pv (i + 1),ct:=Pv (i + 1),bk:=D.nx } σ2 H2) (hd:∀ σ H,Pv xs.length σ H→D.nx σ H):Loop (Itl K a) g tb D σ H:=⟨zaj4 Pv h0 hl hs hd⟩
theorem zaki {K:PySem.W.Frag}{a:Addr}{xs:List V}{g:TG}{tb:TS}{D:Ends}{σ:St}{H:Hp} (Pv:Nat→St→Hp→Prop) (h0:Pv 0 σ H) (hl:∀ i σ H,i≤xs.length→Pv i σ H→SqT K H a xs)
  (hs:∀ i x σ H,xs[i]?=some x→Pv i σ H→g x σ H fun σ2 H2=>tb { D with nx:=Pv (i + 1),ct:=Pv (i + 1),bk:=D.nx } σ2 H2) (hd:∀ σ H,Pv xs.length σ H→D.nx σ H):Loop (Itt K a) g tb D σ H:=⟨zall Pv h0 hl hs hd⟩
theorem zadl {lo:Int}{n:Nat}{g:TG}{tb:TS}{D:Ends}{σ:St}{H:Hp} (Pv:Nat→St→Hp→Prop) (h0:Pv 0 σ H)
  (hs:∀ i σ H,i < n→Pv i σ H→g (.int (lo + i)) σ H fun σ2 H2=>tb { D with nx:=Pv (i + 1),ct:=Pv (i + 1),bk:=D.nx } σ2 H2) (hd:∀ σ H,Pv n σ H→D.nx σ H):Loop (Itr lo n) g tb D σ H:=⟨zah7 Pv h0 hs hd⟩
structure Cut (t u:TS) (D:Ends) (σ:St) (H:Hp):Prop where
 ex:∃ P:St→Hp→Prop,t { D with nx:=P } σ H∧∀ σ' H',P σ' H'→u D σ' H'
def tCut (t u:TS):TS:=fun D σ H=>Cut t u D σ H
theorem zal4 {X:Cx}{st:Stmt}{rest:List Stmt}{t u:TS} (h1:PS X st t) (h2:PSs X rest u):PSs X (st :: rest) (tCut t u):=by
 intro pins s σ H D I h
 obtain ⟨P,a,b⟩:=h.ex
 have h1':PS X st (fun D' σ' H'=>∃ P:St→Hp→Prop,t { D' with nx:=P } σ' H'∧∀ σ2 H2,P σ2 H2→D'.nx σ2 H2):=by
  intro pins s σ H D I ⟨P,a,b⟩
  refine thn (h1 pins s σ H _ I a) fun f s' q=>?_
  cases f with
  | next=>obtain ⟨σ7,H7,I7,n7⟩:=q; exact ⟨σ7,H7,I7,b _ _ n7⟩
  | cont=>exact q
  | brk=>exact q
  | ret v=>exact q
 exact zag6 h1' h2 pins s σ H D I ⟨P,a,b⟩
theorem zaa5 {t u:TS}{D:Ends}{σ:St}{H:Hp} (P:St→Hp→Prop) (h1:t { D with nx:=P } σ H) (h2:∀ σ' H',P σ' H'→u D σ' H'):Cut t u D σ H:=⟨P,h1,h2⟩
theorem zaha {ns:List Int}{i:Int} (h0:0≤i) (h1:i < (ns.length:Int)):∃ n:Int,atI (ns.map V.int) i=some (.int n):=by
 have hk:i.toNat < ns.length:=by omega
 have ek:i=((i.toNat:Nat):Int):=by omega
 have q:atI (ns.map V.int) ((i.toNat:Nat):Int)=some (.int ns[i.toNat]):=zach (by rw [List.getElem?_map,List.getElem?_eq_getElem hk]; rfl)
 rw [← ek] at q
 exact ⟨_,q⟩
end L2

namespace L2
open PySem PySem.Spec PyProof.Rows
structure Atx {α:Type} (xs:List α) (i:Int) (R:α→Prop):Prop where
 ex:∃ v,atI xs i=some v∧R v
theorem Atx.of {α:Type}{xs:List α}{i:Int}{v:α}{R:α→Prop} (h:atI xs i=some v) (r:R v):Atx xs i R:=⟨v,h,r⟩
section
variable {X:Cx}
theorem IxR.imp {r r':R2} (h:IxR X r) (f:∀ x y H Q,r' x y H Q→r x y H Q):IxR X r':=fun value slice pins s σ H x y v u Q I rx ry q hs=>h value slice pins s σ H x y v u Q I rx ry (f _ _ _ _ q) hs
def aIxL (K:PySem.W.Frag):R2:=fun x y H Q=>∃ p xs i,x=.ref p∧y=.int i∧SqL K H p xs∧Atx xs i fun v=>Q v H
def aIxT (K:PySem.W.Frag):R2:=fun x y H Q=>∃ p xs i,x=.ref p∧y=.int i∧SqT K H p xs∧Atx xs i fun v=>Q v H
theorem zaal:IxR X (aIxL X.K):=zalx.imp fun x y H Q ⟨p,xs,i,e1,e2,h,a⟩=>let ⟨v,hv,q⟩:=a.ex; ⟨p,xs,i,v,e1,e2,h,hv,q⟩
theorem zabx:IxR X (aIxT X.K):=zans.imp fun x y H Q ⟨p,xs,i,e1,e2,h,a⟩=>let ⟨v,hv,q⟩:=a.ex; ⟨p,xs,i,v,e1,e2,h,hv,q⟩
end
end L2
namespace L2
open PySem
section
variable {es:List Expr}{env:Env}
theorem zaad {x pos}:starEach (.Name x pos :: es) env=(false,eval (.Name x pos) env) :: starEach es env:=rfl
theorem zaab {c k pos}:starEach (.Constant c k pos :: es) env=(false,eval (.Constant c k pos) env) :: starEach es env:=rfl
theorem zaa9 {a o b pos}:starEach (.BinOp a o b pos :: es) env=(false,eval (.BinOp a o b pos) env) :: starEach es env:=rfl
theorem zahv {a o pos}:starEach (.UnaryOp o a pos :: es) env=(false,eval (.UnaryOp o a pos) env) :: starEach es env:=rfl
theorem zab8 {a o b pos}:starEach (.Call a o b pos :: es) env=(false,eval (.Call a o b pos) env) :: starEach es env:=rfl
theorem zaa4 {a k pos}:starEach (.Tuple a k pos :: es) env=(false,eval (.Tuple a k pos) env) :: starEach es env:=rfl
theorem zack {a pos}:starEach (.List a pos :: es) env=(false,eval (.List a pos) env) :: starEach es env:=rfl
theorem zaaz {a b pos}:starEach (.Subscript a b pos :: es) env=(false,eval (.Subscript a b pos) env) :: starEach es env:=rfl
theorem zabo {a b pos}:starEach (.Attribute a b pos :: es) env=(false,eval (.Attribute a b pos) env) :: starEach es env:=rfl
theorem zadc {a b c pos}:starEach (.ListComp a b c pos :: es) env=(false,eval (.ListComp a b c pos) env) :: starEach es env:=rfl
end
end L2
namespace L2
open PySem
theorem Ch.own {W:List Addr}{H H':Hp}{p:Addr}{o:HO} (n:H p=none) (c:Ch W H H'):Ch W H (upd H' p o):=fun b u h k=>by
 rw [zabe (zaa0 h n)]
 exact c b u h k
theorem cut1 (x:V) (ys:List V):cutV (x :: ys) (some 1) none=ys:=by
 unfold cutV
 have e:HT.sIx (x :: ys).length 0 (some 1)=1:=by
  have z:=HT.sIx_nat (x :: ys).length 0 1
  rw [List.length_cons] at z ⊢
  refine z.trans ?_
  omega
 rw [e,HT.sIx_none,List.drop_succ_cons,List.drop_zero,List.take_of_length_le]
 simp
theorem zakj (x:V) (ys:List V):¬ (HT.sIx (x :: ys).length 0 (some 1)=0∧HT.sIx (x :: ys).length (x :: ys).length none=(x :: ys).length):=by
 intro h
 have e:HT.sIx (x :: ys).length 0 (some 1)=1:=by
  have z:=HT.sIx_nat (x :: ys).length 0 1
  rw [List.length_cons] at z ⊢
  refine z.trans ?_
  omega
 rw [e] at h
 exact absurd h.1 (by decide)
end L2
namespace L2
open PySem
theorem Atx.head {α:Type}{x:α}{xs:List α}{R:α→Prop} (r:R x):Atx (x :: xs) 0 R:=⟨x,zach (j:=0) rfl,r⟩
end L2

namespace L2
open PySem PySem.Spec PyProof.Rows
inductive SK where
 | list | tuple
def SIt (k:SK) (h:Heap) (it l:Addr) (i:Nat):Prop:=match k with
 | .list=>h.IsListIter it l i
 | .tuple=>h.IsTupleIter it l i
def SIs (k:SK) (h:Heap) (l:Addr) (items:Array Value):Prop:=match k with
 | .list=>h.IsList l items
 | .tuple=>h.IsTuple l items
def Sq (k:SK) (K:PySem.W.Frag) (H:Hp) (a:Addr) (xs:List V):Prop:=match k with
 | .list=>SqL K H a xs
 | .tuple=>SqT K H a xs
theorem SIt.at {k:SK}{h h':Heap}{a l i} (x:SIt k h a l i) (e:∀ o,h.get? a=some o→h'.get? a=some o):SIt k h' a l i:=by
 cases k with
 | list=>exact Heap.IsListIter.at x e
 | tuple=>exact Heap.IsTupleIter.at x e
theorem SIt.obj {k:SK}{h:Heap}{a l i} (x:SIt k h a l i):∃ o,h.get? a=some o∧∀ v,o.data≠.cell v:=by
 cases k with
 | list=>obtain ⟨o,e,c,d⟩:=(show h.IsListIter a l i from x); exact ⟨o,e,fun v z=>by rw [d] at z; cases z⟩
 | tuple=>obtain ⟨o,e,c,d⟩:=(show h.IsTupleIter a l i from x); exact ⟨o,e,fun v z=>by rw [d] at z; cases z⟩
theorem SIs.at {k:SK}{h h':Heap}{a items} (x:SIs k h a items) (e:∀ o,h.get? a=some o→h'.get? a=some o):SIs k h' a items:=by
 cases k with
 | list=>exact Heap.IsList.at x e
 | tuple=>obtain ⟨o,ho,r⟩:=(show h.IsTuple a items from x); exact ⟨o,e _ ho,r⟩
theorem SIs.lt {k:SK}{h:Heap}{a items} (x:SIs k h a items):a < h.objs.size:=by
 cases k with
 | list=>obtain ⟨_,e,_⟩:=(show h.IsList a items from x); exact Heap.lt_size e
 | tuple=>obtain ⟨_,e,_⟩:=(show h.IsTuple a items from x); exact Heap.lt_size e
section
variable {prog:Program}{w:World}{A:Around}{E:Value→Shared→Prop}{s:Shared}
theorem zadm {it l:Addr}{i:Nat}{items}{x:Value}{Q:Value→Shared→Prop} (hit:s.heap.IsTupleIter it l i)
  (hl:s.heap.IsTuple l items) (hx:items[i]?=some x)
  (hQ:∀ h',h'.IsTupleIter it l (i + 1)→Heap.SameBut it s.heap h'→Q x { s with heap:=h' }) :
  wpAny (model prog w) A (Builtin.SmallTypes.nextOf (.ref it)) Q E s:=by
 obtain ⟨o,ho,hc,hd⟩:=id hit
 obtain ⟨ol,hol,_,nl,hdl⟩:=hl
 unfold Builtin.SmallTypes.nextOf
 refine wpAny_bind (wpAny_callSpecial?_slot (name:=Str.ofString "__next__") hit.typeIs F.slot_tuple_iterator_next
  (wpAny_call_entry F.slot_tuple_iterator_next hit.typeIs F.entry_tuple_iterator_next ?_ (F.args_tuple_iterator_next_1 _)))
 show wpAny _ _ (field (.ref it) 0 >>= _) _ _ s
 refine wpAny_bind (wpAny_field ho hd (x:=.ref l) rfl ?_)
 show wpAny _ _ (if (Value.ref l == Value.none)=true then _ else _) _ _ s
 rw [if_neg (show ¬ ((Value.ref l == Value.none)=true) from Bool.false_ne_true)]
 show wpAny _ _ (field (.ref it) 1 >>= _) _ _ s
 refine wpAny_bind (wpAny_field ho hd (x:=.int i 0) rfl ?_)
 show wpAny _ _ (seqItems? (.ref l) >>= _) _ _ s
 refine wpAny_bind (wpAny_seqItems hol hdl ?_)
 simp only [Int.toNat_natCast,hx]
 refine wpAny_bind (wpAny_setField ho hd (by simp) (wpAny_pure ⟨x,rfl,wpAny_pure (hQ _ ?_ (Heap.SameBut.update ..))⟩))
 exact ⟨_,Heap.get?_update_self _ ho (Obj.isFreed_of_fields (Obj.data_mapFields hd _)),(Obj.cls_mapFields ..).trans hc,by
  rw [Obj.data_mapFields hd]; simp [rawInt]⟩
theorem zadx {it l:Addr}{i:Nat}{items}{Q:Value→Shared→Prop} (hh:A.handled=none)
  (hit:s.heap.IsTupleIter it l i) (hl:s.heap.IsTuple l items) (hx:items[i]?=none)
  (hE:∀ h' e,Heap.ExtBut it s.heap h'→(∃ o,h'.get? e=some o∧o.cls=.type "StopIteration")→E (.ref e) { s with heap:=h' }) :
  wpAny (model prog w) A (Builtin.SmallTypes.nextOf (.ref it)) Q E s:=by
 obtain ⟨o,ho,hc,hd⟩:=id hit
 obtain ⟨ol,hol,_,nl,hdl⟩:=hl
 unfold Builtin.SmallTypes.nextOf
 refine wpAny_bind (wpAny_callSpecial?_slot (name:=Str.ofString "__next__") hit.typeIs F.slot_tuple_iterator_next
  (wpAny_call_entry F.slot_tuple_iterator_next hit.typeIs F.entry_tuple_iterator_next ?_ (F.args_tuple_iterator_next_1 _)))
 show wpAny _ _ (field (.ref it) 0 >>= _) _ _ s
 refine wpAny_bind (wpAny_field ho hd (x:=.ref l) rfl ?_)
 show wpAny _ _ (if (Value.ref l == Value.none)=true then _ else _) _ _ s
 rw [if_neg (show ¬ ((Value.ref l == Value.none)=true) from Bool.false_ne_true)]
 show wpAny _ _ (field (.ref it) 1 >>= _) _ _ s
 refine wpAny_bind (wpAny_field ho hd (x:=.int i 0) rfl ?_)
 show wpAny _ _ (seqItems? (.ref l) >>= _) _ _ s
 refine wpAny_bind (wpAny_seqItems hol hdl ?_)
 simp only [Int.toNat_natCast,hx]
 refine wpAny_bind (wpAny_rule (wpAny_bind (wpAny_setField ho hd (by simp) ?_)))
 show wpAny _ _ (newExc (.type "StopIteration") [] >>= _) _ _ _
 refine wpAny_bind ?_
 simp only [newExc,newTuple]
 refine wpAny_bind (wpAny_newObj_type ?_ (by size_fits))
 refine wpAny_bind (m:=firstArgMember _ _) (wpAny_of_eq (a:=Value.none) (by first | rfl | (simp only [firstArgMember]; rfl)) ?_)
 refine wpAny_newObj_type ?_ (by size_fits)
 simp only [raiseNew]
 refine wpAny_bind (wpAny_handled ?_)
 first | rw [show A.in1.handled=none from hh] | rw [hh]
 refine wpAny_bind (wpAny_pure (wpAny_throw ?_))
 exact hE _ _ (((Heap.SameBut.update ..).extBut.push _).push _) ⟨_,Heap.get?_push_size _ rfl,rfl⟩
theorem zacx {k:SK}{it l:Addr}{i:Nat}{items}{x:Value}{Q:Value→Shared→Prop} (hit:SIt k s.heap it l i) (hl:SIs k s.heap l items) (hx:items[i]?=some x)
  (hQ:∀ h',SIt k h' it l (i + 1)→Heap.SameBut it s.heap h'→Q x { s with heap:=h' }):wpAny (model prog w) A (Builtin.SmallTypes.nextOf (.ref it)) Q E s:=by
 cases k with
 | list=>exact wpAny_nextOf_list_item hit hl hx hQ
 | tuple=>exact zadm hit hl hx hQ
theorem zadn {k:SK}{it l:Addr}{i:Nat}{items}{Q:Value→Shared→Prop} (hh:A.handled=none) (hit:SIt k s.heap it l i) (hl:SIs k s.heap l items) (hx:items[i]?=none)
  (hE:∀ h' e,Heap.ExtBut it s.heap h'→(∃ o,h'.get? e=some o∧o.cls=.type "StopIteration")→E (.ref e) { s with heap:=h' }) :
  wpAny (model prog w) A (Builtin.SmallTypes.nextOf (.ref it)) Q E s:=by
 cases k with
 | list=>exact wpAny_nextOf_list_end hh hit hl hx hE
 | tuple=>exact zadx hh hit hl hx hE
theorem SIt.ext {k:SK}{h h':Heap}{a b l i} (x:SIt k h a l i) (hs:Heap.ExtBut b h h') (hab:a≠b):SIt k h' a l i:=x.at fun o e=>hs _ _ hab e
theorem SIs.ext {k:SK}{h h':Heap}{a b items} (x:SIs k h a items) (hs:Heap.ExtBut b h h') (hab:a≠b):SIs k h' a items:=x.at fun o e=>hs _ _ hab e
theorem zair {k1 k2:SK}{z TI TO i1 i2 l1 l2:Addr}{n1 n2:Nat}{xs ys:Array Value}{x y a b:Value}{Q:Value→Shared→Prop} (D:ZipApart z TI TO i1 i2 l1 l2)
  (hz:IsZip s.heap z TI TO .none) (hTI:IsPair s.heap TI (.ref i1) (.ref i2)) (hTO:IsPair s.heap TO a b)
  (h1:SIt k1 s.heap i1 l1 n1) (h2:SIt k2 s.heap i2 l2 n2) (hl1:SIs k1 s.heap l1 xs) (hl2:SIs k2 s.heap l2 ys) (hx:xs[n1]?=some x) (hy:ys[n2]?=some y)
  (hQ:∀ h',IsZip h' z TI TO (rawInt s.heap.objs.size)→IsPair h' TO x y→SIt k1 h' i1 l1 (n1 + 1)→SIt k2 h' i2 l2 (n2 + 1)→IsPair h' s.heap.objs.size x y→h'.objs.size=s.heap.objs.size + 1 →
   (∀ c o,c≠z→c≠TO→c≠i1→c≠i2→s.heap.get? c=some o→h'.get? c=some o)→Q (.ref s.heap.objs.size) { s with heap:=h' }) :
  wpAny (model prog w) A (Builtin.«zip.__next__» ⟨[.ref z],[]⟩) (fun fin s'=>∃ v,fin=.done (.ret v)∧Q v s') E s:=by
 show wpAny _ _ (field (.ref z) 2 >>= _) _ _ _
 refine wpAny_bind (wpAny_field hz rfl (x:=.bool false) rfl ?_)
 show wpAny _ _ (field (.ref z) 3 >>= _) _ _ _
 refine wpAny_bind (wpAny_field hz rfl (x:=.ref TI) rfl ?_)
 refine wpAny_bind (wpAny_seqItems hTI rfl ?_)
 show wpAny _ _ (Builtin.SmallTypes.ownedTupleIsFree (.ref z) >>= _) _ _ _
 refine wpAny_bind ?_
 unfold Builtin.SmallTypes.ownedTupleIsFree
 refine wpAny_bind (wpAny_field hz rfl (x:=.none) rfl (wpAny_pure ?_))
 simp only [if_true]
 refine wpAny_bind (wpAny_rule ?_)
 refine wpAny_bind (wpAny_field hz rfl (x:=.ref TO) rfl ?_)
 refine wpAny_bind (wpAny_setField_rec hz (by simp) fun h₁ hz₁ hs₁=>?_)
 replace hz₁:IsZip h₁ z TI TO .ellipsis:=hz₁
 refine wpAny_bind ?_
 simp only [List.zipIdx_cons,List.zipIdx_nil,List.forIn_cons,List.forIn_nil]
 refine wpAny_bind (wpAny_bind (wpAny_onRaise ?_))
 show wpAny _ _ (Builtin.SmallTypes.nextOf (.ref i1) >>= _) _ _ _
 refine wpAny_bind (zacx (h1.ext hs₁.extBut D.i1z) (hl1.ext hs₁.extBut D.l1z) hx fun h₂ h1₂ hs₂=>wpAny_pure ?_)
 have hTO₂:IsPair h₂ TO a b:=hs₂.extBut _ _ D.TOi1 (hs₁.extBut _ _ D.TOz hTO)
 refine wpAny_bind (wpAny_seqItems hTO₂ rfl ?_)
 refine wpAny_bind (wpAny_updateSeq_pair hTO₂ fun h₃ hTO₃ hs₃=>?_)
 replace hTO₃:IsPair h₃ TO x b:=hTO₃
 refine wpAny_bind (wpAny_letGo (wpAny_pure ?_))
 refine wpAny_bind (wpAny_bind (wpAny_onRaise ?_))
 show wpAny _ _ (Builtin.SmallTypes.nextOf (.ref i2) >>= _) _ _ _
 refine wpAny_bind (zacx (((h2.ext hs₁.extBut D.i2z).ext hs₂.extBut D.i12.symm).ext hs₃.extBut D.TOi2.symm)
  (((hl2.ext hs₁.extBut D.l2z).ext hs₂.extBut D.l2i1).ext hs₃.extBut D.l2TO) hy fun h₄ h2₄ hs₄=>wpAny_pure ?_)
 have hTO₄:IsPair h₄ TO x b:=hs₄.extBut _ _ D.TOi2 hTO₃
 refine wpAny_bind (wpAny_seqItems hTO₄ rfl ?_)
 refine wpAny_bind (wpAny_updateSeq_pair hTO₄ fun h₅ hTO₅ hs₅=>?_)
 replace hTO₅:IsPair h₅ TO x y:=hTO₅
 refine wpAny_bind (wpAny_letGo (wpAny_pure (wpAny_pure ?_)))
 refine wpAny_bind (wpAny_seqItems hTO₅ rfl ?_)
 refine wpAny_bind (wpAny_newTuple ?_)
 have hsz:h₅.objs.size=s.heap.objs.size:=by rw [hs₅.1,hs₄.1,hs₃.1,hs₂.1,hs₁.1]
 have hz₅:IsZip h₅ z TI TO .ellipsis:=hs₅.extBut _ _ D.TOz.symm (hs₄.extBut _ _ D.i2z.symm (hs₃.extBut _ _ D.TOz.symm (hs₂.extBut _ _ D.i1z.symm hz₁)))
 have hk₅:∀ c o,c≠z→c≠TO→c≠i1→c≠i2→s.heap.get? c=some o→h₅.get? c=some o:=fun c o c1 c2 c3 c4 e =>
  hs₅.extBut _ _ c2 (hs₄.extBut _ _ c4 (hs₃.extBut _ _ c2 (hs₂.extBut _ _ c3 (hs₁.extBut _ _ c1 e))))
 have h1₅:SIt k1 h₅ i1 l1 (n1 + 1):=((h1₂.ext hs₃.extBut D.TOi1.symm).ext hs₄.extBut D.i12).ext hs₅.extBut D.TOi1.symm
 have h2₅:SIt k2 h₅ i2 l2 (n2 + 1):=h2₄.ext hs₅.extBut D.TOi2.symm
 have hzlt:z < h₅.objs.size:=Heap.lt_size hz₅
 show wpAny _ _ (Builtin.SmallTypes.ownedTupleHandOut (.ref z) (.ref h₅.objs.size) >>= _) _ _ _
 refine wpAny_bind ?_
 unfold Builtin.SmallTypes.ownedTupleHandOut
 have hz₆:IsZip (h₅.push { cls:=.type "tuple",data:=.seq #[x,y] }) z TI TO .ellipsis:=Heap.get?_push_of_some _ hz₅
 refine wpAny_bind (wpAny_setField_rec hz₆ (by simp) fun h₇ hz₇ hs₇=>?_)
 replace hz₇:IsZip h₇ z TI TO (rawInt h₅.objs.size):=hz₇
 refine wpAny_setField_rec hz₇ (by simp) fun h₈ hz₈ hs₈=>?_
 replace hz₈:IsZip h₈ z TI TO (rawInt h₅.objs.size):=hz₈
 have up:∀ c o,c≠z→h₅.get? c=some o→h₈.get? c=some o:=fun c o c1 e=>hs₈.extBut _ _ c1 (hs₇.extBut _ _ c1 (Heap.get?_push_of_some _ e))
 have hT₈:IsPair h₈ h₅.objs.size x y:=hs₈.extBut _ _ (Nat.ne_of_gt hzlt) (hs₇.extBut _ _ (Nat.ne_of_gt hzlt) (Heap.get?_push_size _ rfl))
 have hz8:h₈.objs.size=h₅.objs.size + 1:=by rw [hs₈.1,hs₇.1,Heap.size_push]
 rw [hsz] at hz₈ hT₈ hz8
 refine wpAny_pure ⟨_,rfl,?_⟩
 show Q (.ref h₅.objs.size) _
 rw [hsz]
 exact hQ h₈ hz₈ (up _ _ D.TOz hTO₅) (h1₅.at fun o e=>up _ o D.i1z e) (h2₅.at fun o e=>up _ o D.i2z e) hT₈ hz8 fun c o c1 c2 c3 c4 e=>up c o c1 (hk₅ c o c1 c2 c3 c4 e)
theorem zakk {k1 k2:SK}{z TI TO i1 i2 l1 l2:Addr}{n1 n2:Nat}{xs ys:Array Value}{a b:Value}{Q:Fin→Shared→Prop} (hh:A.handled=none) (D:ZipApart z TI TO i1 i2 l1 l2)
  (hz:IsZip s.heap z TI TO .none) (hTI:IsPair s.heap TI (.ref i1) (.ref i2)) (hTO:IsPair s.heap TO a b)
  (h1:SIt k1 s.heap i1 l1 n1) (h2:SIt k2 s.heap i2 l2 n2) (hl1:SIs k1 s.heap l1 xs) (hl2:SIs k2 s.heap l2 ys) (hend:xs[n1]?=none∨ys[n2]?=none)
  (hE:∀ h' e,(∀ c o,c≠z→c≠TO→c≠i1→c≠i2→s.heap.get? c=some o→h'.get? c=some o)→(∃ o,h'.get? e=some o∧o.cls=.type "StopIteration")→E (.ref e) { s with heap:=h' }) :
  wpAny (model prog w) A (Builtin.«zip.__next__» ⟨[.ref z],[]⟩) Q E s:=by
 show wpAny _ _ (field (.ref z) 2 >>= _) _ _ _
 refine wpAny_bind (wpAny_field hz rfl (x:=.bool false) rfl ?_)
 show wpAny _ _ (field (.ref z) 3 >>= _) _ _ _
 refine wpAny_bind (wpAny_field hz rfl (x:=.ref TI) rfl ?_)
 refine wpAny_bind (wpAny_seqItems hTI rfl ?_)
 show wpAny _ _ (Builtin.SmallTypes.ownedTupleIsFree (.ref z) >>= _) _ _ _
 refine wpAny_bind ?_
 unfold Builtin.SmallTypes.ownedTupleIsFree
 refine wpAny_bind (wpAny_field hz rfl (x:=.none) rfl (wpAny_pure ?_))
 simp only [if_true]
 refine wpAny_bind (wpAny_rule ?_)
 refine wpAny_bind (wpAny_field hz rfl (x:=.ref TO) rfl ?_)
 refine wpAny_bind (wpAny_setField_rec hz (by simp) fun h₁ hz₁ hs₁=>?_)
 replace hz₁:IsZip h₁ z TI TO .ellipsis:=hz₁
 refine wpAny_bind ?_
 simp only [List.zipIdx_cons,List.zipIdx_nil,List.forIn_cons,List.forIn_nil]
 refine wpAny_bind (wpAny_bind (wpAny_onRaise ?_))
 show wpAny _ _ (Builtin.SmallTypes.nextOf (.ref i1) >>= _) _ _ _
 cases hx:xs[n1]? with
 | none =>
  refine wpAny_bind (zadn hh (h1.ext hs₁.extBut D.i1z) (hl1.ext hs₁.extBut D.l1z) hx fun h₂ e hs₂ he=>?_)
  obtain ⟨oe,hoe,hce⟩:=he
  have hz₂:IsZip h₂ z TI TO .ellipsis:=hs₂ _ _ D.i1z.symm hz₁
  have hez:e≠z:=fun x=>by subst x; rw [hz₂] at hoe; cases hoe; simp at hce
  refine wpAny_setField_rec hz₂ (by simp) fun h₃ _ hs₃=>hE h₃ e (fun c o c1 _ c3 _ x=>hs₃.extBut _ _ c1 (hs₂ _ _ c3 (hs₁.extBut _ _ c1 x))) ⟨oe,hs₃.extBut _ _ hez hoe,hce⟩
 | some x =>
  have hy:ys[n2]?=none:=by rcases hend with h | h; rw [hx] at h; cases h; exact h
  refine wpAny_bind (zacx (h1.ext hs₁.extBut D.i1z) (hl1.ext hs₁.extBut D.l1z) hx fun h₂ h1₂ hs₂=>wpAny_pure ?_)
  have hTO₂:IsPair h₂ TO a b:=hs₂.extBut _ _ D.TOi1 (hs₁.extBut _ _ D.TOz hTO)
  refine wpAny_bind (wpAny_seqItems hTO₂ rfl ?_)
  refine wpAny_bind (wpAny_updateSeq_pair hTO₂ fun h₃ hTO₃ hs₃=>?_)
  refine wpAny_bind (wpAny_letGo (wpAny_pure ?_))
  refine wpAny_bind (wpAny_bind (wpAny_onRaise ?_))
  show wpAny _ _ (Builtin.SmallTypes.nextOf (.ref i2) >>= _) _ _ _
  refine wpAny_bind (zadn hh (((h2.ext hs₁.extBut D.i2z).ext hs₂.extBut D.i12.symm).ext hs₃.extBut D.TOi2.symm)
   (((hl2.ext hs₁.extBut D.l2z).ext hs₂.extBut D.l2i1).ext hs₃.extBut D.l2TO) hy fun h₄ e hs₄ he=>?_)
  obtain ⟨oe,hoe,hce⟩:=he
  have hz₄:IsZip h₄ z TI TO .ellipsis:=hs₄ _ _ D.i2z.symm (hs₃.extBut _ _ D.TOz.symm (hs₂.extBut _ _ D.i1z.symm hz₁))
  have hez:e≠z:=fun x=>by subst x; rw [hz₄] at hoe; cases hoe; simp at hce
  refine wpAny_setField_rec hz₄ (by simp) fun h₅ _ hs₅=>hE h₅ e (fun c o c1 c2 c3 c4 x=>hs₅.extBut _ _ c1 (hs₄ _ _ c4 (hs₃.extBut _ _ c2 (hs₂.extBut _ _ c3 (hs₁.extBut _ _ c1 x))))) ⟨oe,hs₅.extBut _ _ hez hoe,hce⟩
end
section
variable {X:Cx}{pins:List (Addr × Obj)}{σ:List (Option V)}{H H':Hp}{s:Shared}{h':Heap}
theorem Inv.turnedL {t':Nat}{its:List Addr} (I:Inv X pins σ H s) (k:∀ b o,b ∉ its→s.heap.get? b=some o→h'.get? b=some o) (hf:∀ b∈its,FpOk X pins H b):Inv X pins σ H { s with heap:=h',toks:=t' }:=by
 have nit:∀ b u,H b=some u→b ∉ its:=fun b u e z=>by rw [(hf b z).1] at e; cases e
 refine I.step (g':=s.gens) (d':=s.drawn) (ch:=its) (fun b hb=>?_) (fun b o _ _ hc e _=>k b o hc e) (fun b o _ _ hc e _=>⟨o.slots,k b o hc e⟩) (fun _ _ _ _ n=>n)
  (fun b o hc e=>⟨o,k b o hc e⟩) (fun _ _ e=>e) (fun _ _ _ e=>e) (fun b ps e=>⟨#[],by rw [e]; simp⟩) (fun m hm=>?_) (fun b u e=>?_) I.bare
 ·obtain ⟨f0,f1,f2,f3,f4,f5⟩:=hf b hb
  exact ⟨f3,f1,f4,f5⟩
 ·obtain ⟨o,es,ep,ho,r⟩:=hm
  exact ⟨o,es,ep,k _ o (fun z=>(hf _ z).2.1 rfl) ho,r⟩
 ·refine (I.hok b u e).stay (fun c v hc q=>k c v ?_ q) (fun _ q=>q) fun _ _ q=>q
  rcases hc with z | z
  ·rw [z]; exact nit b u e
  ·exact nit c _ z
theorem Inv.turnedNew {t':Nat}{its:List Addr}{T:Addr}{o:HO} (I:Inv X pins σ H s) (k:∀ b ob,b ∉ its→s.heap.get? b=some ob→h'.get? b=some ob) (hf:∀ b∈its,FpOk X pins H b)
  (hT:s.heap.objs.size≤T) (new:ObjOk X.prog X.w (upd H T o) h' T o):Inv X pins σ (upd H T o) { s with heap:=h',toks:=t' }:=by
 have nit:∀ b u,H b=some u→b ∉ its:=fun b u e z=>by rw [(hf b z).1] at e; cases e
 have hn:H T=none:=I.hok.fresh hT
 have neT:∀ b ob,s.heap.get? b=some ob→b≠T:=fun b ob e=>Nat.ne_of_lt (Nat.lt_of_lt_of_le (Heap.lt_size e) hT)
 have up:∀ b u,H b=some u→upd H T o b=some u:=fun b u e=>by rw [zabe (zaa0 e hn)]; exact e
 refine I.step (g':=s.gens) (d':=s.drawn) (ch:=its) (fun b hb=>?_) (fun b ob _ _ hc e _=>k b ob hc e) (fun b ob _ _ hc e _=>⟨ob.slots,k b ob hc e⟩) (fun b ob _ e n=>by rw [zabe (neT b ob e)]; exact n)
  (fun b ob hc e=>⟨ob,k b ob hc e⟩) (fun b _ e=>up b _ e) (fun b _ _ e=>up b _ e) (fun b ps e=>⟨#[],by rw [up b _ e]; simp⟩) (fun m hm=>?_) (fun b u e=>?_) I.bare
 ·obtain ⟨f0,f1,f2,f3,f4,f5⟩:=hf b hb
  exact ⟨f3,f1,f4,f5⟩
 ·obtain ⟨ob,es,ep,ho,r⟩:=hm
  exact ⟨ob,es,ep,k _ ob (fun z=>(hf _ z).2.1 rfl) ho,r⟩
 ·by_cases hb:b=T
  ·subst hb; rw [zaag] at e; cases e; exact new
  ·rw [zabe hb] at e
   refine (I.hok b u e).stay (fun c v hc q=>k c v ?_ q) (fun c q=>up c _ q) fun c xs q=>up c _ q
   rcases hc with z | z
   ·rw [z]; exact nit b u e
   ·exact nit c _ z
end
theorem Inv.sis {X:Cx}{pins:List (Addr × Obj)}{σ:St}{H:Hp}{s:Shared}{k:SK}{a:Addr}{xs:List V} (I:Inv X pins σ H s) (h:Sq k X.K H a xs):∃ its:List Value,Vals xs its∧SIs k s.heap a its.toArray:=by
 cases k with
 | list=>obtain ⟨its,r,p,_⟩:=I.list h; exact ⟨its,r,p.isList⟩
 | tuple=>obtain ⟨its,r,p,_⟩:=I.tuple h; exact ⟨its,r,(show s.heap.IsTuple a its.toArray from p)⟩
theorem Inv.sq_inj {X:Cx}{pins:List (Addr × Obj)}{σ:St}{H:Hp}{s:Shared}{k:SK}{a:Addr}{xs ys:List V} (I:Inv X pins σ H s) (h:Sq k X.K H a xs) (h':Sq k X.K H a ys):xs=ys:=by
 cases k with
 | list=>exact I.list_inj h h'
 | tuple=>exact I.tuple_inj h h'
def Itz (K:PySem.W.Frag) (k1 k2:SK) (a b:Addr):It :=
 ⟨fun i H=>∃ xs ys x y,Sq k1 K H a xs∧Sq k2 K H b ys∧xs[i]?=some x∧ys[i]?=some y,
  fun i H v H'=>∃ T,H T=none∧v=.ref T∧∀ xs ys,Sq k1 K H a xs→Sq k2 K H b ys→∃ x y,xs[i]?=some x∧ys[i]?=some y∧H'=upd H T (.tup [x,y]),
  fun i H=>∃ xs ys,Sq k1 K H a xs∧Sq k2 K H b ys∧(xs.length≤i∨ys.length≤i)⟩
theorem zakl {P:Program}{w:World}{K:PySem.W.Frag}{elts:List Expr}{kk:Nat}{tpos:Pos}{k1 k2:SK}{z TI TO i1 i2 a b:Addr} (D:ZipApart z TI TO i1 i2 a b) :
  Turn P w K (.Tuple elts kk tpos) (Itz K k1 k2 a b) [z,TI,TO,i1,i2] z (fun i h=>IsZip h z TI TO .none∧IsPair h TI (.ref i1) (.ref i2)∧(∃ c d,IsPair h TO c d)∧SIt k1 h i1 a i∧SIt k2 h i2 b i) where
 mem:=by simp
 obj:=fun i h st b hb=>by
  obtain ⟨hz,hTI,⟨c,d,hTO⟩,h1,h2⟩:=st
  simp only [List.mem_cons,List.not_mem_nil,or_false] at hb
  rcases hb with rfl | rfl | rfl | rfl | rfl
  ·exact ⟨_,hz,fun v q=>nomatch q⟩
  ·exact ⟨_,hTI,fun v q=>nomatch q⟩
  ·exact ⟨_,hTO,fun v q=>nomatch q⟩
  ·exact h1.obj
  ·exact h2.obj
 keep:=fun i h h' st k=>by
  obtain ⟨hz,hTI,⟨c,d,hTO⟩,h1,h2⟩:=st
  exact ⟨k _ (by simp) _ hz,k _ (by simp) _ hTI,⟨c,d,k _ (by simp) _ hTO⟩,h1.at fun o e=>k _ (by simp) o e,h2.at fun o e=>k _ (by simp) o e⟩
 item:=by
  intro X hP hw hK hc i pins s σ H E I hf st hg
  subst hP hw hK
  obtain ⟨hz,hTI,⟨c,d,hTO⟩,h1,h2⟩:=st
  obtain ⟨xs,ys,x,y,q1,q2,hx,hy⟩:=hg
  obtain ⟨ix,rx,px⟩:=I.sis q1
  obtain ⟨iy,ry,py⟩:=I.sis q2
  obtain ⟨u,hu,ru⟩:=rx.get hx
  obtain ⟨v,hv,rv⟩:=ry.get hy
  have hT:s.TypeIs (.ref z) "zip" := ⟨_,hz,rfl⟩
  unfold pyNext
  refine wpAny_bind (wpAny_attempt (wpAny_callSpecial?_slot (name:=Str.ofString "__next__") hT F.slot_zip_next
   (wpAny_call_entry F.slot_zip_next hT F.entry_zip_next
    (zair D hz hTI hTO h1 h2 px py (x:=u) (y:=v) (by simpa using hu) (by simpa using hv) fun h' a1 a2 a3 a4 a5 a6 a7=>wpAny_pure ?_) (F.args_zip_next_1 _))))
  refine ⟨_,rfl,wpAny_letOwnedTupleGo_zip (s:={ s with heap:=h' }) a1 fun h'' b1 b2=>?_⟩
  have zlt:z < s.heap.objs.size:=Heap.lt_size hz
  have k2:∀ c o,c ∉ [z,TI,TO,i1,i2]→s.heap.get? c=some o→h''.get? c=some o:=fun c o hc e=>by
   simp only [List.mem_cons,List.not_mem_nil,or_false,not_or] at hc
   exact b2.extBut _ _ hc.1 (a7 c o hc.1 hc.2.2.1 hc.2.2.2.1 hc.2.2.2.2 e)
  have hT2:IsPair h'' s.heap.objs.size u v:=b2.extBut _ _ (Nat.ne_of_gt zlt) a5
  refine ⟨.ref s.heap.objs.size,upd H s.heap.objs.size (.tup [x,y]),I.turnedNew (t':=s.toks) (o:=.tup [x,y]) k2 hf (Nat.le_refl _) ⟨by show 2≤sizeLine; decide,[u,v],.cons ru (.cons rv .nil),⟨_,hT2,rfl,_,rfl⟩⟩,rfl,
   ⟨_,I.hok.fresh (Nat.le_refl _),rfl,fun xs' ys' e1 e2=>?_⟩,⟨b1,?_,⟨_,_,b2.extBut _ _ D.TOz a2⟩,a3.at fun o e=>b2.extBut _ _ D.i1z e,a4.at fun o e=>b2.extBut _ _ D.i2z e⟩,fun b hb=>?_⟩
  ·rw [I.sq_inj e1 q1,I.sq_inj e2 q2]
   exact ⟨x,y,hx,hy,rfl⟩
  ·exact b2.extBut _ _ D.TIz (a7 _ _ D.TIz D.TITO D.TIi1 D.TIi2 hTI)
  ·have blt:b < s.heap.objs.size:=by
    simp only [List.mem_cons,List.not_mem_nil,or_false] at hb
    rcases hb with rfl | rfl | rfl | rfl | rfl
    ·exact zlt
    ·exact Heap.lt_size hTI
    ·exact Heap.lt_size hTO
    ·obtain ⟨o,e,_⟩:=h1.obj; exact Heap.lt_size e
    ·obtain ⟨o,e,_⟩:=h2.obj; exact Heap.lt_size e
   rw [zabe (Nat.ne_of_lt blt)]
   exact (hf b hb).1
 done:=by
  intro X hP hw hK hc i pins s σ H E I hf st hg
  subst hP hw hK
  obtain ⟨hz,hTI,⟨c,d,hTO⟩,h1,h2⟩:=st
  obtain ⟨xs,ys,q1,q2,hl⟩:=hg
  obtain ⟨ix,rx,px⟩:=I.sis q1
  obtain ⟨iy,ry,py⟩:=I.sis q2
  have l1:=rx.length
  have l2:=ry.length
  have hend:ix.toArray[i]?=none∨iy.toArray[i]?=none:=by
   rcases hl with h | h
   ·exact .inl (by simp; omega)
   ·exact .inr (by simp; omega)
  have hT:s.TypeIs (.ref z) "zip" := ⟨_,hz,rfl⟩
  unfold pyNext
  refine wpAny_bind (wpAny_attempt (wpAny_callSpecial?_slot (name:=Str.ofString "__next__") hT F.slot_zip_next
   (wpAny_call_entry F.slot_zip_next hT F.entry_zip_next (zakk (I.ok.hd hc) D hz hTI hTO h1 h2 px py hend fun h' e hk he=>?_) (F.args_zip_next_1 _))))
  obtain ⟨o,ho,hc'⟩:=he
  refine wpAny_bind (wpAny_isInstance (T := "StopIteration") (b:=true) ⟨o,ho,hc'⟩ isSubtype_stop ?_)
  refine wpAny_pure ⟨rfl,I.turnedL (t':=s.toks) (its:=[z,TI,TO,i1,i2]) (fun b o hb e=>?_) hf⟩
  simp only [List.mem_cons,List.not_mem_nil,or_false,not_or] at hb
  exact hk b o hb.1 hb.2.2.1 hb.2.2.2.1 hb.2.2.2.2 e
 self:=fun _ _ _ _ _ st h=>wpAny_pyIter_zip st.1 h
def itObj (k:SK) (l:Addr):Obj:=match k with
 | .list=>{ cls:=.type "list_iterator",data:=.fields #[.ref l,.int 0 0] }
 | .tuple=>{ cls:=.type "tuple_iterator",data:=.fields #[.ref l,.int 0 0] }
theorem zae5 {k:SK}{l it:Addr}{h:Heap} (e:h.get? it=some (itObj k l)):SIt k h it l 0:=by
 cases k with
 | list=>exact ⟨_,e,rfl,rfl⟩
 | tuple=>exact ⟨_,e,rfl,rfl⟩
abbrev zS1 (h:Heap) (k1:SK) (l1:Addr):Heap:=h.push (itObj k1 l1)
abbrev zS2 (h:Heap) (k1 k2:SK) (l1 l2:Addr):Heap:=(zS1 h k1 l1).push (itObj k2 l2)
abbrev zS3 (h:Heap) (k1 k2:SK) (l1 l2:Addr):Heap:=(zS2 h k1 k2 l1 l2).push { cls:=.type "tuple",data:=.seq #[.ref h.objs.size,.ref (zS1 h k1 l1).objs.size] }
abbrev zS4 (h:Heap) (k1 k2:SK) (l1 l2:Addr):Heap:=(zS3 h k1 k2 l1 l2).push { cls:=.type "tuple",data:=.seq #[.none,.none] }
abbrev zS5 (h:Heap) (k1 k2:SK) (l1 l2:Addr):Heap:=(zS4 h k1 k2 l1 l2).push { cls:=.type "zip",data:=.fields #[.none,.bool false,.bool false,.ref (zS2 h k1 k2 l1 l2).objs.size,.ref (zS3 h k1 k2 l1 l2).objs.size] }
set_option maxHeartbeats 4000000 in
theorem zaen (k1 k2:SK) (l1 l2:Addr) (xs ys:Array Value) :
  Meets (Builtin.«zip.__new__» ⟨[.type "zip",.ref l1,.ref l2],[]⟩) (fun _ R s=>SIs k1 s.heap l1 xs∧SIs k2 s.heap l2 ys ∧
   R (.ok (.ret (.ref (zS4 s.heap k1 k2 l1 l2).objs.size))) { s with heap:=zS5 s.heap k1 k2 l1 l2 }):=by
 cases k1 with
 | list =>
  cases k2 with
  | list =>
   exact .of_wp fun prog w A R s h=>by
    obtain ⟨hp,g,d,tk,os⟩:=s; obtain ⟨hl1,hl2,h⟩:=h
    have hsub:=sub_zip
    have hL1:Heap.IsList (Shared.heap ⟨hp,g,d,tk,os⟩) l1 xs:=hl1
    have hL2:Heap.IsList (Shared.heap ⟨hp.push { cls:=.type "list_iterator",data:=.fields #[.ref l1,.int 0 0] },g,d,tk,os⟩) l2 ys:=Heap.IsList.push hl2 _
    wp_walk using wpAny_pyIter_list hL1,wpAny_pyIter_list hL2
    exact ⟨_,rfl,h⟩
  | tuple =>
   exact .of_wp fun prog w A R s h=>by
    obtain ⟨hp,g,d,tk,os⟩:=s; obtain ⟨hl1,hl2,h⟩:=h
    have hsub:=sub_zip
    have hL1:Heap.IsList (Shared.heap ⟨hp,g,d,tk,os⟩) l1 xs:=hl1
    have hL2:Heap.IsTuple (Shared.heap ⟨hp.push { cls:=.type "list_iterator",data:=.fields #[.ref l1,.int 0 0] },g,d,tk,os⟩) l2 ys:=SIs.at (k:=.tuple) hl2 fun o e=>Heap.get?_push_of_some _ e
    wp_walk using wpAny_pyIter_list hL1,wpAny_pyIter_tuple hL2
    exact ⟨_,rfl,h⟩
 | tuple =>
  cases k2 with
  | list =>
   exact .of_wp fun prog w A R s h=>by
    obtain ⟨hp,g,d,tk,os⟩:=s; obtain ⟨hl1,hl2,h⟩:=h
    have hsub:=sub_zip
    have hL1:Heap.IsTuple (Shared.heap ⟨hp,g,d,tk,os⟩) l1 xs:=hl1
    have hL2:Heap.IsList (Shared.heap ⟨hp.push { cls:=.type "tuple_iterator",data:=.fields #[.ref l1,.int 0 0] },g,d,tk,os⟩) l2 ys:=SIs.at (k:=.list) hl2 fun o e=>Heap.get?_push_of_some _ e
    wp_walk using wpAny_pyIter_tuple hL1,wpAny_pyIter_list hL2
    exact ⟨_,rfl,h⟩
  | tuple =>
   exact .of_wp fun prog w A R s h=>by
    obtain ⟨hp,g,d,tk,os⟩:=s; obtain ⟨hl1,hl2,h⟩:=h
    have hsub:=sub_zip
    have hL1:Heap.IsTuple (Shared.heap ⟨hp,g,d,tk,os⟩) l1 xs:=hl1
    have hL2:Heap.IsTuple (Shared.heap ⟨hp.push { cls:=.type "tuple_iterator",data:=.fields #[.ref l1,.int 0 0] },g,d,tk,os⟩) l2 ys:=SIs.at (k:=.tuple) hl2 fun o e=>Heap.get?_push_of_some _ e
    wp_walk using wpAny_pyIter_tuple hL1,wpAny_pyIter_tuple hL2
    exact ⟨_,rfl,h⟩
section
variable {prog:Program}{w:World}{A:Around}{E:Value→Shared→Prop}{s:Shared}
theorem zais {k1 k2:SK}{l1 l2:Addr}{xs ys:Array Value}{Q:Value→Shared→Prop} (hl1:SIs k1 s.heap l1 xs) (hl2:SIs k2 s.heap l2 ys)
  (h:∀ h',IsZip h' (s.heap.objs.size + 4) (s.heap.objs.size + 2) (s.heap.objs.size + 3) .none→IsPair h' (s.heap.objs.size + 2) (.ref s.heap.objs.size) (.ref (s.heap.objs.size + 1)) →
   IsPair h' (s.heap.objs.size + 3) .none .none→SIt k1 h' s.heap.objs.size l1 0→SIt k2 h' (s.heap.objs.size + 1) l2 0 →
   (∀ c o,s.heap.get? c=some o→h'.get? c=some o)→Q (.ref (s.heap.objs.size + 4)) { s with heap:=h' }) :
  wpAny (model prog w) A (call (.type "zip") [.ref l1,.ref l2]) Q E s:=by
 refine callType_new F.called_zip (by decide) (F.typeCall_zip_2 _ _) (F.newCall_zip_2 _ _) (fun obj=>F.args_object_init_3 obj _ _) F.entry_zip_new
  (zaen k1 k2 l1 l2 xs ys) ⟨hl1,hl2,?_⟩
 have z1:(zS1 s.heap k1 l1).objs.size=s.heap.objs.size + 1:=Heap.size_push ..
 have z2:(zS2 s.heap k1 k2 l1 l2).objs.size=s.heap.objs.size + 2:=by rw [Heap.size_push,z1]
 have z3:(zS3 s.heap k1 k2 l1 l2).objs.size=s.heap.objs.size + 3:=by rw [Heap.size_push,z2]
 have z4:(zS4 s.heap k1 k2 l1 l2).objs.size=s.heap.objs.size + 4:=by rw [Heap.size_push,z3]
 have r1:(itObj k1 l1).isFreed=false:=by cases k1 <;> rfl
 have r2:(itObj k2 l2).isFreed=false:=by cases k2 <;> rfl
 have g5:(zS5 s.heap k1 k2 l1 l2).get? (zS4 s.heap k1 k2 l1 l2).objs.size=some _:=Heap.get?_push_size _ rfl
 have g4:(zS5 s.heap k1 k2 l1 l2).get? (zS3 s.heap k1 k2 l1 l2).objs.size=some _:=Heap.get?_push_of_some _ (Heap.get?_push_size _ rfl)
 have g3:(zS5 s.heap k1 k2 l1 l2).get? (zS2 s.heap k1 k2 l1 l2).objs.size=some _:=Heap.get?_push_of_some _ (Heap.get?_push_of_some _ (Heap.get?_push_size _ rfl))
 have g2:(zS5 s.heap k1 k2 l1 l2).get? (zS1 s.heap k1 l1).objs.size=some _:=Heap.get?_push_of_some _ (Heap.get?_push_of_some _ (Heap.get?_push_of_some _ (Heap.get?_push_size _ r2)))
 have g1:(zS5 s.heap k1 k2 l1 l2).get? s.heap.objs.size=some _:=Heap.get?_push_of_some _ (Heap.get?_push_of_some _ (Heap.get?_push_of_some _ (Heap.get?_push_of_some _ (Heap.get?_push_size _ r1))))
 show _∧_
 rw [z2,z3,z4] at g5
 rw [z1,z2] at g3
 rw [z3] at g4
 rw [z1] at g2
 rw [z4]
 exact ⟨⟨_,g5,rfl⟩,h _ g5 g3 g4 (zae5 g1) (zae5 g2) fun c o x =>
  Heap.get?_push_of_some _ (Heap.get?_push_of_some _ (Heap.get?_push_of_some _ (Heap.get?_push_of_some _ (Heap.get?_push_of_some _ x))))⟩
end
section
variable {X:Cx}{elts:List Expr}{kk:Nat}{tpos:Pos}
def iZip (K:PySem.W.Frag) (k1 k2:SK) (ta:TA):TI:=fun σ H R=>ta σ H fun vs H1=>∃ a b,vs=[.ref a,.ref b]∧(∃ xs,Sq k1 K H1 a xs)∧(∃ ys,Sq k2 K H1 b ys)∧R (Itz K k1 k2 a b) H1
theorem zan1 (k1 k2:SK) {a b:Expr}{ta:TA}{p pos:Pos} (hg:Gl X "zip") (hm:X.mg "zip" = none) (ha:PA X [a,b] ta) (hs:starEach [a,b] X.env=[(false,eval a X.env),(false,eval b X.env)]:=by rfl) (hs2:starEach [b] X.env=[(false,eval b X.env)]:=by rfl) :
  PI X (.Tuple elts kk tpos) (.Call (.Name "zip" p) [a,b] [] pos) (iZip X.K k1 k2 ta):=by
 intro pins s σ H R I h
 refine Call_ (zaeq I hg hm boot_zip (PyProof.Rows.callWith_type1 (thn (ha pos pins s σ H _ I h) fun us s1 ⟨vs,H1,I1,r1,q1⟩=>?_) (by rw [hs,hs2]) (by rw [hs2]; rfl)))
 obtain ⟨a',b',e,⟨xs,qx⟩,⟨ys,qy⟩,q⟩:=q1
 subst e
 obtain ⟨u,v,rfl,ru,rv⟩:=vals2 r1
 cases ru
 cases rv
 obtain ⟨ix,rx,px⟩:=I1.sis qx
 obtain ⟨iy,ry,py⟩:=I1.sis qy
 refine zais px py fun h' b1 b2 b3 b4 b5 b6=>wpAny_pyIter_zip (s:={ s1 with heap:=h' }) b1 ?_
 have nn:∀ b,s1.heap.objs.size≤b→FpOk X pins H1 b:=fun b hb=>I1.fpOk hb (I1.hok.fresh hb)
 refine ⟨_,[s1.heap.objs.size + 4,s1.heap.objs.size + 2,s1.heap.objs.size + 3,s1.heap.objs.size,s1.heap.objs.size + 1],_,_,H1,rfl,I1.kept (t':=s1.toks) b6,zakl (k1:=k1) (k2:=k2) (zipApart_new px.lt py.lt),⟨b1,b2,⟨_,_,b3⟩,b4,b5⟩,fun b hb=>?_,q⟩
 simp only [List.mem_cons,List.not_mem_nil,or_false] at hb
 rcases hb with rfl | rfl | rfl | rfl | rfl
 ·exact nn _ (Nat.le_add_right _ _)
 ·exact nn _ (Nat.le_add_right _ _)
 ·exact nn _ (Nat.le_add_right _ _)
 ·exact nn _ (Nat.le_refl _)
 ·exact nn _ (Nat.le_add_right _ _)
theorem zae6 {K:PySem.W.Frag}{k1 k2:SK}{a b:Addr}{xs ys:List V}{g:TG}{tb:TS}{D:Ends}{σ:St}{H:Hp} (Pv:Nat→St→Hp→Prop) (h0:Pv 0 σ H)
  (hl:∀ i σ H,i≤min xs.length ys.length→Pv i σ H→Sq k1 K H a xs∧Sq k2 K H b ys)
  (hs:∀ i x y σ H T,xs[i]?=some x→ys[i]?=some y→Pv i σ H→H T=none→g (.ref T) σ (upd H T (.tup [x,y])) fun σ2 H2=>tb { D with nx:=Pv (i + 1),ct:=Pv (i + 1),bk:=D.nx } σ2 H2)
  (hd:∀ σ H,Pv (min xs.length ys.length) σ H→D.nx σ H):Loop (Itz K k1 k2 a b) g tb D σ H:=by
 refine ⟨fun i m σ H=>m=min xs.length ys.length - i∧i≤min xs.length ys.length∧Pv i σ H,⟨min xs.length ys.length,by simp,Nat.zero_le _,h0⟩,?_⟩
 rintro i m σ H ⟨rfl,hi,p⟩
 obtain ⟨q1,q2⟩:=hl i σ H hi p
 by_cases hlt:i < min xs.length ys.length
 ·have l1:i < xs.length:=by omega
  have l2:i < ys.length:=by omega
  refine .inr ⟨⟨xs,ys,xs[i],ys[i],q1,q2,by simp [l1],by simp [l2]⟩,Pv (i + 1),fun σ' H' p'=>⟨min xs.length ys.length - (i + 1),by omega,rfl,hlt,p'⟩,fun x H' y=>?_⟩
  obtain ⟨T,hT,rfl,y⟩:=y
  obtain ⟨u,v,e1,e2,rfl⟩:=y xs ys q1 q2
  exact hs i u v σ H T e1 e2 p hT
 ·have e:i=min xs.length ys.length:=by omega
  refine .inl ⟨⟨xs,ys,q1,q2,by omega⟩,?_⟩
  subst e
  exact hd σ H p
end
end L2

namespace L2
open PySem PySem.Spec PyProof.Rows PySem.Builtin PySem.Builtin.Str
section
variable {X:Cx}
def rIsT (K:PySem.W.Frag):List V→Hp→VK→Prop:=fun xs H Q=>∃ x T t b,xs=[x,.ty T]∧TyOf K H x t∧PySem.W.kitOne K t (.type T)=some b∧Q (.bl b) H
theorem zac7:CallR X (.builtin "isinstance") (rIsT X.K):=by
 intro pins s σ H xs us Q I r h
 obtain ⟨x,T,t,b,rfl,ty,e,q⟩:=h
 obtain ⟨u,v,rfl,ru,rv⟩:=vals2 r
 cases rv
 exact zaif I ru ty e fun tk=>⟨.bl b,H,I.tok _,rfl,q⟩
example (K:PySem.W.Frag):PySem.W.kitOne K (.type "int") (.type "int")=some true:=rfl
example (K:PySem.W.Frag):PySem.W.kitOne K (.type "str") (.type "int")=some false:=rfl
example (K:PySem.W.Frag):PySem.W.kitOne K (.type "tuple") (.type "int")=some false:=rfl
example (K:PySem.W.Frag):PySem.W.kitOne K (.type "bool") (.type "int")=some true:=rfl
end
def ent (w:World) (x:Str × Tok × Value):DictEntry:=⟨hashStr w x.1,.str x.1 x.2.1,x.2.2⟩
structure KD (P:Program) (w:World) (K:PySem.W.Frag) (a:Addr) (kvs:List (Key × V)):Prop where
 ex:∃ (o:Obj) (es:Array DictEntry) (ep:Nat) (vs:List (Key × Value)),K.lookup a=some o∧o.ExactDict∧o.data=.dict es ep∧KeysOf (mixKind P w) es∧Pairs (mixKind P w) es.toList vs∧(vs.map (·.1)).Nodup∧KV kvs vs
 ns:(a == sysModules)=false
def DK (P:Program) (w:World) (K:PySem.W.Frag) (H:Hp) (a:Addr) (kvs:List (Key × V)):Prop:=Rd H a (.dK kvs)∨KD P w K a kvs
theorem Inv.dict {X:Cx}{pins:List (Addr × Obj)}{σ:St}{H:Hp}{s:Shared}{a:Addr}{kvs:List (Key × V)} (I:Inv X pins σ H s) (h:DK X.prog X.w X.K H a kvs) :
  (a == sysModules)=false∧∃ vs,KV kvs vs∧s.heap.DictOf (mixKind X.prog X.w) a vs:=by
 rcases h with h | h
 ·obtain ⟨_,b,c⟩:=zagd I.hok h
  exact ⟨b,c⟩
 ·obtain ⟨o,es,ep,vs,h1,h2,h3,h4,h5,h6,h7⟩:=h.ex
  exact ⟨h.ns,vs,h7,o,es,ep,I.kIn a o h1,h2,h3,h4,h5,h6⟩
theorem zagh {P:Program}{w:World}{s:Shared}{a:Addr}{vs:List (Key × Value)} (d:s.heap.DictOf (mixKind P w) a vs):s.TypeIs (.ref a) "dict" := by
 obtain ⟨o,es,ep,h1,h2,_⟩:=d
 exact ⟨o,h1,h2.1⟩
section
variable {X:Cx}
def rIxD (X:Cx):R2:=fun x y H Q=>∃ a kvs k v,x=.ref a∧y=kV k∧DK X.prog X.w X.K H a kvs∧valV kvs k=some v∧Q v H
theorem zan2 {o i:Expr}{td ty:TE}{pos:Pos} (ho:PE X o td) (hi:PE X i ty) (hs:NoSl i):PE X (.Subscript o i pos) (tOp (rIxD X) td ty):=by
 intro pins s σ H Q I h
 refine zaiq PySem.F.slot_dict_getitem.lookup hs (thn (ho pins s σ H _ I h) fun u s1 ⟨x,H1,I1,rx,q1⟩=>thn (hi pins s1 σ H1 _ I1 q1) fun iv s2 ⟨y,H2,I2,ry,q2⟩=>?_)
 obtain ⟨a,kvs,k,v,rfl,rfl,dk,hv,q⟩:=q2
 obtain rfl:u=Value.ref a:=rx
 obtain ⟨_,vs,rel,dd⟩:=I2.dict dk
 obtain ⟨w',hw,rw'⟩:=RelO.some_of (v:=v) (o:=valueAt vs k) (by rw [← hv]; exact rel.val k)
 exact ⟨zagh dd,wpAny_getItem_of (zae4 ry) dd.mapOf hw ⟨v,H2,I2.tok _,rw',q⟩⟩
def rInD (X:Cx) (neg:Bool):R2:=fun x y H Q=>∃ a kvs k,y=.ref a∧x=kV k∧DK X.prog X.w X.K H a kvs∧Q (.bl (if neg then !(valV kvs k).isSome else (valV kvs k).isSome)) H
theorem zahw:OpR X (compareOp .In) (rInD X false):=by
 intro pins s σ H x y v u Q I rx ry h
 obtain ⟨a,kvs,k,rfl,rfl,dk,q⟩:=h
 obtain rfl:u=Value.ref a:=ry
 obtain ⟨hd,vs,rel,dd⟩:=I.dict dk
 refine wpAny_in_of (zae4 rx) hd dd.mapOf ?_
 rw [← (rel.val k).isSome_eq]
 exact ⟨.bl (valV kvs k).isSome,H,I.tok _,rfl,q⟩
theorem zae7:OpR X (compareOp .NotIn) (rInD X true):=by
 intro pins s σ H x y v u Q I rx ry h
 obtain ⟨a,kvs,k,rfl,rfl,dk,q⟩:=h
 obtain rfl:u=Value.ref a:=ry
 obtain ⟨hd,vs,rel,dd⟩:=I.dict dk
 refine wpAny_notIn_of (zae4 rx) hd dd.mapOf ?_
 rw [← (rel.val k).isSome_eq]
 exact ⟨.bl (!(valV kvs k).isSome),H,I.tok _,rfl,q⟩
end
theorem zan3 {P:Program}{w:World}{K:PySem.W.Frag}{a:Addr}{od:Option Addr}{ep:Nat}{sl:Array (Option Value)}{es:Array DictEntry} (xs:List (Str × Tok × Value)) (vs:List V)
  (l:K.lookup a=some ⟨.type "dict",od,.dict es ep,sl⟩) (he:es.toList=xs.map (ent w)) (hx:(⟨.type "dict",od,.dict es ep,sl⟩:Obj).ExactDict) (ns:(a == sysModules)=false)
  (nd:(xs.map (·.1)).Nodup) (hv:Vals vs (xs.map (·.2.2))):KD P w K a ((xs.map fun x=>(Sum.inr x.1:Key)).zip vs):=by
 refine ⟨⟨_,es,ep,xs.map fun x=>(Sum.inr x.1,x.2.2),l,hx,rfl,?_,?_,?_,?_⟩,ns⟩
 ·intro e h
  rw [← Array.mem_toList_iff,he] at h
  obtain ⟨x,hx,rfl⟩:=List.mem_map.mp h
  exact ⟨Sum.inr x.1,zaeb x.1 x.2.1,rfl⟩
 ·rw [he]
  clear he nd hv l hx
  induction xs with
  | nil=>exact .nil
  | cons x xs ih=>exact .cons (zaeb x.1 x.2.1) rfl ih
 ·rw [List.map_map]
  have e:(xs.map (fun x=>(Sum.inr x.1:Key)))=(xs.map (·.1)).map Sum.inr:=by rw [List.map_map]; rfl
  show (xs.map (fun x=>(Sum.inr x.1:Key))).Nodup
  rw [e]
  exact List.Pairwise.map _ (fun a b h z=>h (Sum.inr.inj z)) nd
 ·clear he nd l hx
  induction xs generalizing vs with
  | nil=>cases hv; exact .nil
  | cons x xs ih =>
   cases hv with
   | cons r rr=>exact .cons ⟨rfl,r⟩ (ih _ rr)
end L2

namespace L2
open PySem PySem.Spec PyProof.Rows
structure Pr (p:Prop):Prop where
 h:p
section
variable {X:Cx}
theorem zait {i:Nat}{x:Str}{pos:Pos} (hN:X.N[i]?=some x) (hv:Vis X.env.scope x) (hd:(x == ("__debug__" : Str))=false:=by decide) (hcd:(x == ("__classdict__" : Str))=false:=by decide):Pr (PE X (.Name x pos) (tVar i)):=⟨zam3 hN hv hd hcd⟩
theorem zaae {i j pos}:Pr (PE X (.Constant (.int i) j pos) (tC (.int i))):=⟨zam4⟩
theorem zabw {b j pos}:Pr (PE X (.Constant (.bool b) j pos) (tC (.bl b))):=⟨zao5⟩
theorem zacy {j pos}:Pr (PE X (.Constant .none j pos) (tC .non)):=⟨zam5⟩
theorem zaaf {x j pos}:Pr (PE X (.Constant (.str x) j pos) (tC (.str x))):=⟨zam6⟩
theorem zad2 {x:Str}{v:V}{u:Value}{pos:Pos} (hg:Gl X x) (hm:X.mg x=some u) (r:RelV v u) (hd:(x == ("__debug__" : Str))=false:=by decide):Pr (PE X (.Name x pos) (tC v)):=⟨zalc hg hm r hd⟩
theorem zaco {x:Str}{v:V}{u:Value}{pos:Pos} (hg:Gl X x) (hm:X.mg x=none) (hv:bootBuiltins x=some u) (r:RelV v u) (hn:x ≠ "__name__" := by decide) (hd:(x == ("__debug__" : Str))=false:=by decide):Pr (PE X (.Name x pos) (tC v)):=⟨zald hg hm hv r hn hd⟩
end
section
variable {X:Cx}{a b c:Expr}{ta tb tc:TE}{pos:Pos}
theorem zaaq {op:Operator}{r:R2} (ho:OpR X (binaryOp op) r) (ha:Pr (PE X a ta)) (hb:Pr (PE X b tb)):Pr (PE X (.BinOp a op b pos) (tOp r ta tb)):=⟨zao9 ho ha.h hb.h⟩
theorem zan4 {op:UnaryOp}{r:V→Hp→VK→Prop} (ho:UnR X (unaryOp op) r) (ha:Pr (PE X a ta)):Pr (PE X (.UnaryOp op a pos) (tUn r ta)):=⟨zapa ho ha.h⟩
theorem zaan {op:CmpOp}{r:R2} (ho:OpR X (compareOp op) r) (ha:Pr (PE X a ta)) (hb:Pr (PE X b tb)) (hm:behindInMarks op b=false):Pr (PE X (.Compare a [op] [b] pos) (tOp r ta tb)):=⟨zaln ho ha.h hb.h hm⟩
theorem zaiu {op op':CmpOp}{r r':R2} (ho:OpR X (compareOp op) r) (ho':OpR X (compareOp op') r') (ha:Pr (PE X a ta)) (hb:Pr (PE X b tb)) (hc:Pr (PE X c tc)) (hm:lastMarks [op,op'] [b,c]=false:=by with_unfolding_all rfl):Pr (PE X (.Compare a [op,op'] [b,c] pos) (tChain r r' ta tb tc)):=⟨zaj6 ho ho' ha.h hb.h hc.h hm⟩
end
section
variable {X:Cx}
variable {a b:Expr}{ta tb:TE}{pos:Pos}
variable {tA tB':TT}{rest:List Expr}
theorem zaay (ha:Pr (PE X a ta)) (hb:Pr (PE X (.BoolOp .And (b :: rest) pos) tb)):Pr (PE X (.BoolOp .And (a :: b :: rest) pos) (tAndV ta tb)):=⟨zand ha.h hb.h⟩
end
section
variable {X:Cx}
variable {a b:Expr}{ta tb:TE}{pos:Pos}
variable {tA tB':TT}{rest:List Expr}
theorem zacu (ha:Pr (PE X a ta)) (hb:Pr (PE X (.BoolOp .Or (b :: rest) pos) tb)):Pr (PE X (.BoolOp .Or (a :: b :: rest) pos) (tOrV ta tb)):=⟨zao7 ha.h hb.h⟩
end
section
variable {X:Cx}
variable {a b:Expr}{ta tb:TE}{pos:Pos}
variable {tA tB':TT}{rest:List Expr}
theorem zaav {op}{t:TE} (h:Pr (PE X a t)):Pr (PE X (.BoolOp op [a] pos) t):=⟨zanc h.h⟩
end
section
variable {X:Cx}
variable {a b:Expr}{ta tb:TE}{pos:Pos}
variable {tA tB':TT}{rest:List Expr}
theorem zal5 (ha:Pr (PE X a ta)):Pr (PE X (.UnaryOp .Not a pos) (tNotV ta)):=⟨zane ha.h⟩
end
section
variable {X:Cx}
variable {a b:Expr}{ta tb:TE}{pos:Pos}
variable {tA tB':TT}{rest:List Expr}
theorem zaiv {c:Expr} (hc:Pr (PT X c tA)) (ha:Pr (PE X a ta)) (hb:Pr (PE X b tb)):Pr (PE X (.IfExp c a b pos) (tIf tA ta tb)):=⟨zaj0 hc.h ha.h hb.h⟩
end
section
variable {X:Cx}{e:Expr}{es:List Expr}{te:TE}{t:TA}{pos:Pos}
theorem zaaw {x1} (h:Pr (PA X es t)):Pr (PE X (.Tuple es x1 pos) (tTup t)):=⟨zanp h.h⟩
theorem zaa2 (h:Pr (PA X es t)):Pr (PE X (.List es pos) (tLst t)):=⟨zanq h.h⟩
end
section
variable {X:Cx}{e:Expr}{te:TE}{lo hi:Option Expr}{tl th:TO}{pos p2:Pos}
theorem zadh {r:V→Option Int→Option Int→Hp→VK→Prop} (hr:SlR X r) (he:Pr (PE X e te)) (hl:Pr (PO X lo tl)) (hu:Pr (PO X hi th)):Pr (PE X (.Subscript e (.Slice lo hi none p2) pos) (tSl r te tl th)):=⟨zakb hr he.h hl.h hu.h⟩
end
section
variable {X:Cx}{a b:Expr}{ta tb:TE}{pos:Pos}
theorem zaar {r:R2} (hr:IxR X r) (ha:Pr (PE X a ta)) (hb:Pr (PE X b tb)) (hs:PlainIx b):Pr (PE X (.Subscript a b pos) (tOp r ta tb)):=⟨zapd hr ha.h hb.h hs⟩
end
section
variable {X:Cx}
theorem zaiw {o i:Expr}{td ty:TE}{pos:Pos} (ho:Pr (PE X o td)) (hi:Pr (PE X i ty)) (hs:NoSl i):Pr (PE X (.Subscript o i pos) (tOp (rIxD X) td ty)):=⟨zan2 ho.h hi.h hs⟩
end
section
variable {X:Cx}{o e value:Expr}{f:Str}{pos pos' tpos:Pos}{ta tv:TE}
theorem zac2 (he:Pr (PE X e ta)) (hb:attributeBase e f X.env (eval e X.env)=eval e X.env):Pr (PE X (.Attribute e f pos) (tFld X.K ta f)):=⟨zanm he.h hb⟩
end
section
variable {X:Cx}{CX:CXT}{k:Nat}{ps:List Str}{sp:Sp}{E:XK}{x:Str}{p pos:Pos}{e:Expr}{es:List Expr}{t:TA}
theorem zaai (D:DefOk X.prog X.w X.K X.mg X.base CX k x ps sp) (hr:Room k X.A) (hg:Gl X x) (hx:Passes CX X E) (ha:Pr (PA X (e :: es) t)) (hdb:(x == ("__debug__" : Str))=false:=by decide) (he:starEach (e :: es) X.env=(false,eval e X.env) :: starEach es X.env:=by rfl) (hpl:(backTo pos (starEach es X.env)).any (·.1)=false:=by rfl):Pr (PE X (.Call (.Name x p) (e :: es) [] pos) (tCall sp [] E t)):=⟨zakh D hr hg hx ha.h hdb he hpl⟩
end
section
variable {X:Cx}{x:Str}{p pos:Pos}{e:Expr}{es:List Expr}{t:TA}{id T:String}{r:List V→Hp→VK→Prop}
theorem zaax (hc:CallR X (.builtin id) r) (hg:Gl X x) (hm:X.mg x=none) (hv:bootBuiltins x=some (.builtin id)) (ha:Pr (PA X (e :: es) t)) (hn:x ≠ "__name__" := by decide) (hdb:(x == ("__debug__" : Str))=false:=by decide) (he:starEach (e :: es) X.env=(false,eval e X.env) :: starEach es X.env:=by rfl) (hpl:(backTo pos (starEach es X.env)).any (·.1)=false:=by rfl):Pr (PE X (.Call (.Name x p) (e :: es) [] pos) (tCB r t)):=⟨zaj9 hc hg hm hv ha.h hn hdb he hpl⟩
theorem zabh (hc:CallR X (.type T) r) (hg:Gl X x) (hm:X.mg x=none) (hv:bootBuiltins x=some (.type T)) (ha:Pr (PA X (e :: es) t)) (hn:x ≠ "__name__" := by decide) (hdb:(x == ("__debug__" : Str))=false:=by decide) (he:starEach (e :: es) X.env=(false,eval e X.env) :: starEach es X.env:=by rfl) (hpl:(backTo pos (starEach es X.env)).any (·.1)=false:=by rfl):Pr (PE X (.Call (.Name x p) (e :: es) [] pos) (tCB r t)):=⟨zaih hc hg hm hv ha.h hn hdb he hpl⟩
end
section
variable {X:Cx}{a b:Expr}{ta tb:TE}{pos:Pos}
variable {o e:Expr}{es:List Expr}{to:TE}{t:TA}{name:Str}{apos cpos:Pos}{T id:String}{r:V→List V→Hp→VK→Prop}
theorem zahb (pa:PlainAttrs T) (slot:Slot T name id) (hty:typeOf (.builtin id)=pure (.type "method_descriptor")) (hm:MtR X id r) (ho:Pr (PE X o to)) (ha:Pr (PA X (e :: es) t)) (hbase:attributeBase o name X.env (eval o X.env)=eval o X.env:=by rfl) (hfew:((backTo cpos (starEach (e :: es) X.env)).all (fun x=>!x.1) && (backToKw cpos (keywordEach [] X.env)).all (fun x=>x.1.isSome)
   && decide ((e :: es).length + ([]:List Keyword).length + (if ([]:List Keyword).isEmpty then 0 else 1) < 30))=true:=by rfl) (hline:(apos.endLine == cpos.line)=true:=by rfl) (hs:starEach (e :: es) X.env=(false,eval e X.env) :: starEach es X.env:=by rfl) (hplain:(backTo cpos (starEach es X.env)).any (·.1)=false:=by rfl):Pr (PE X (.Call (.Attribute o name apos) (e :: es) [] cpos) (tBM X.K T r to t)):=⟨zape pa slot hty hm ho.h ha.h hbase hfew hline hs hplain⟩
end
section
variable {X:Cx}{a b c:Expr}{ta tb tc:TE}{pos:Pos}
theorem zaak {op:CmpOp}{r:R2} (ho:OpR X (compareOp op) r) (ha:Pr (PE X a ta)) (hb:Pr (PE X b tb)) (hm:behindInMarks op b=false):Pr (PT X (.Compare a [op] [b] pos) (tTest (tOp r ta tb))):=⟨zalo ho ha.h hb.h hm⟩
end
section
variable {X:Cx}
variable {a b:Expr}{ta tb:TE}{pos:Pos}
variable {tA tB':TT}{rest:List Expr}
theorem zab9 (ha:Pr (PT X a tA)):Pr (PT X (.UnaryOp .Not a pos) (tNot tA)):=⟨zanb ha.h⟩
end
section
variable {X:Cx}
variable {a b:Expr}{ta tb:TE}{pos:Pos}
theorem zabu {e:Expr}{t:TE} (h:Pr (PE X e t)) (he:∀ whole,isTrue e X.env whole=(do let v ← whole; standAt e.pos; holding [v] (truthy v)):=by intro _; rfl):Pr (PT X e (tB t)):=⟨zam8 h.h he⟩
end
section
theorem zab3 {X:Cx}{e:Expr}{t:TT} (h:Pr (PW X e t)):Pr (PT X e t):=⟨PW.pt h.h⟩
end
section
variable {X:Cx}
variable {a b:Expr}{ta tb:TE}{pos:Pos}
variable {tA tB':TT}{rest:List Expr}
theorem zacl (ha:Pr (PT X a tA)) (hb:Pr (PW X (.BoolOp .And (b :: rest) pos) tB')):Pr (PW X (.BoolOp .And (a :: b :: rest) pos) (tAnd tA tB')):=⟨zana ha.h hb.h⟩
end
section
variable {X:Cx}
variable {a b:Expr}{ta tb:TE}{pos:Pos}
variable {tA tB':TT}{rest:List Expr}
theorem zacd (ha:Pr (PT X a tA)):Pr (PW X (.BoolOp .And [a] pos) tA):=⟨zale ha.h⟩
end
section
variable {X:Cx}
variable {a b:Expr}{ta tb:TE}{pos:Pos}
variable {tA tB':TT}{rest:List Expr}
theorem zac3 (ha:Pr (PT X a tA)) (hb:Pr (PW X (.BoolOp .Or (b :: rest) pos) tB')):Pr (PW X (.BoolOp .Or (a :: b :: rest) pos) (tOr tA tB')):=⟨zao6 ha.h hb.h⟩
end
section
variable {X:Cx}
variable {a b:Expr}{ta tb:TE}{pos:Pos}
variable {tA tB':TT}{rest:List Expr}
theorem zact (ha:Pr (PT X a tA)):Pr (PW X (.BoolOp .Or [a] pos) tA):=⟨zam9 ha.h⟩
end
section
variable {X:Cx}{e:Expr}{es:List Expr}{te:TE}{t:TA}{pos:Pos}
theorem zaac  : Pr (PA X [] tNil):=⟨zano⟩
theorem zaaa (ha:Pr (PE X e te)) (hr:Pr (PA X es t)) (hs:starEach (e :: es) X.env=(false,eval e X.env) :: starEach es X.env:=by rfl):Pr (PA X (e :: es) (tCons te t)):=⟨zals ha.h hr.h hs⟩
end
section
variable {X:Cx}{e:Expr}{te:TE}{lo hi:Option Expr}{tl th:TO}{pos p2:Pos}
theorem zad3  : Pr (PO X none tNoPart):=⟨zalv⟩
theorem zad4 (h:Pr (PE X e te)):Pr (PO X (some e) (tPart te)):=⟨zalw h.h⟩
end
section
variable {X:Cx}{tg:Expr}
theorem zadi {l:Expr}{tl:TE} (hl:Pr (PE X l tl)):Pr (PI X tg l (iList X.K tl)):=⟨zah5 hl.h⟩
theorem zal6 {l:Expr}{tl:TE} (hl:Pr (PE X l tl)):Pr (PI X tg l (iTup X.K tl)):=⟨zak1 hl.h⟩
theorem zado {a:Expr}{ta:TA}{p pos:Pos} (hg:Gl X "range") (hm:X.mg "range" = none) (ha:Pr (PA X [a] ta)) (hs:starEach [a] X.env=[(false,eval a X.env)]:=by rfl):Pr (PI X tg (.Call (.Name "range" p) [a] [] pos) (iRng1 ta)):=⟨zah6 hg hm ha.h hs⟩
end
section
variable {X:Cx}{elts:List Expr}{kk:Nat}{tpos:Pos}
theorem zagi (k1 k2:SK) {a b:Expr}{ta:TA}{p pos:Pos} (hg:Gl X "zip") (hm:X.mg "zip" = none) (ha:Pr (PA X [a,b] ta)) (hs:starEach [a,b] X.env=[(false,eval a X.env),(false,eval b X.env)]:=by rfl) (hs2:starEach [b] X.env=[(false,eval b X.env)]:=by rfl):Pr (PI X (.Tuple elts kk tpos) (.Call (.Name "zip" p) [a,b] [] pos) (iZip X.K k1 k2 ta)):=⟨zan1 k1 k2 hg hm ha.h hs hs2⟩
end
section
variable {X:Cx}{pos:Pos}
theorem zaa6 {i:Nat}{x:Str} (hN:X.N.Nodup) (hi:X.N[i]?=some x) (hx:Loc X.env.scope x) (hf:X.fn x=true∨X.env.scope.names.lookup x=some .local:=by first | exact .inl rfl | exact .inr rfl | assumption):Pr (PG X (.Name x pos) (gName i)):=⟨zali hN hi hx hf⟩
theorem zace  : Pr (PGs X [] gNil):=⟨zalj⟩
theorem zabb {e:Expr}{es:List Expr}{t:TG}{u:TGs} (h1:Pr (PG X e t)) (h2:Pr (PGs X es u)) (hs:(assignEach (e :: es) X.env).map (·.2)=assign e X.env :: (assignEach es X.env).map (·.2):=by rfl):Pr (PGs X (e :: es) (gCons t u)):=⟨zaj2 h1.h h2.h hs⟩
theorem zadp {es:List Expr}{k:Nat}{t:TGs}{n:Nat} (hc:X.calm=true) (h:Pr (PGs X es t)) (hn:(assignEach es X.env).length=n:=by rfl) (hst:(assignEach es X.env).findIdx? (·.1)=none:=by rfl):Pr (PG X (.Tuple es k pos) (gTup X.K n t)):=⟨zak0 hc h.h hn hst⟩
theorem zagj {o i:Expr}{to ti:TE}{t:TSet} (ho:Pr (PE X o to)) (hi:Pr (PE X i ti)) (hs:PSet X t) (ha:∀ v,assign (.Subscript o i pos) X.env v=(do
   let ov ← holding [v] (eval o X.env)
   let iv ← holding [v,ov] (eval i X.env)
   standAt pos
   holding [v,ov,iv] (setItem ov iv v)
   release [v,ov,iv] []):=by intro _; rfl):Pr (PG X (.Subscript o i pos) (gSub to ti t)):=⟨zang ho.h hi.h hs ha⟩
end
section
variable {X:Cx}{st:Stmt}{rest:List Stmt}{t u:TS}{e:Expr}{te:TE}{pos:Pos}
theorem zaam (he:Pr (PE X e te)):Pr (PS X (.Return (some e) pos) (tRet te)):=⟨zanf he.h⟩
end
section
variable {X:Cx}{pos:Pos}
theorem zaap {i:Nat}{x:Str}{e:Expr}{te:TE}{pos':Pos} (hN:X.N.Nodup) (hi:X.N[i]?=some x) (hx:Loc X.env.scope x) (he:Pr (PE X e te)) (hs:swapsWith e (some (.Name x pos')) pos.line X.env=pure false:=by rfl) (hf:X.fn x=true∨X.env.scope.names.lookup x=some .local:=by first | exact .inl rfl | exact .inr rfl | assumption):Pr (PS X (.Assign [.Name x pos'] e pos) (tAsg te (gName i))):=⟨zani hN hi hx he.h hs hf⟩
theorem zadd {tg e:Expr}{te:TE}{g:TG} (he:Pr (PE X e te)) (hg:Pr (PG X tg g)) (hs:swapsWithSole [tg] e pos.line X.env=pure false:=by rfl) (hw:swappedStores [tg] e X.env=pure none:=by rfl) (h1:(assignEach [tg] X.env).map (·.2)=[assign tg X.env]:=by rfl):Pr (PS X (.Assign [tg] e pos) (tAsg te g)):=⟨zanh he.h hg.h hs hw h1⟩
end
section
variable {X:Cx}{st:Stmt}{rest:List Stmt}{t u:TS}{e:Expr}{te:TE}{pos:Pos}
theorem zaa1 {c:Expr}{a b:List Stmt}{tc:TT} (hc:Pr (PT X c tc)) (ha:Pr (PSs X a t)) (hb:Pr (PSs X b u)):Pr (PS X (.If c a b pos) (tIfS tc t u)):=⟨zao8 hc.h ha.h hb.h⟩
end
section
theorem zacf {X:Cx}{tg iter:Expr}{body:List Stmt}{wi:TI}{g:TG}{tb:TS}{pos:Pos} (hp:PassesOwn (model X.prog X.w) X.A X.env X.xe) (hc:X.calm=true) (hi:Pr (PI X tg iter wi)) (hg:Pr (PG X tg g)) (hb:Pr (PSs X body tb)) (hs:∀ x,foldedSetIterable iter X.env x=pure x:=by intro _; rfl):Pr (PS X (.For tg iter body [] pos) (tLoop wi g tb)):=⟨zal3 hp hc hi.h hg.h hb.h hs⟩
end
section
variable {X:Cx}{st:Stmt}{rest:List Stmt}{t u:TS}{e:Expr}{te:TE}{pos:Pos}
theorem zad5 (he:Pr (PE X e te)) (hs:swapsWith e none pos.line X.env=pure false:=by rfl):Pr (PS X (.Expr e pos) (tDrop te)):=⟨zalh he.h hs⟩
theorem zafx  : Pr (PS X (.Continue pos) tCont):=⟨zagc⟩
theorem zaao  : Pr (PSs X [] tNext):=⟨zalf⟩
theorem zaaj (h1:Pr (PS X st t)):Pr (PSs X [st] t):=⟨zalg h1.h⟩
theorem zaah (h1:Pr (PS X st t)) (h2:Pr (PSs X rest u)):Pr (PSs X (st :: rest) (tSeq t u)):=⟨zag6 h1.h h2.h⟩
end
section
theorem zaat {X:Cx}{st:Stmt}{rest:List Stmt}{t u:TS} (h1:Pr (PS X st t)) (h2:Pr (PSs X rest u)):Pr (PSs X (st :: rest) (tCut t u)):=⟨zal4 h1.h h2.h⟩
end
section
variable {X:Cx}{o e value:Expr}{f:Str}{pos pos' tpos:Pos}{ta tv:TE}
theorem zaix (ha:Pr (PE X o ta)) (hv:Pr (PE X value tv)) (hs:swapsWith value (some (.Attribute o f pos')) pos.line X.env=pure false):Pr (PS X (.Assign [.Attribute o f pos'] value pos) (sFld X.K ta tv f)):=⟨zann ha.h hv.h hs⟩
end
end L2

namespace L2
open PySem PySem.Spec PyProof.Rows
def relab (sc outer:Scope):Scope :=
 { sc with names:=sc.names.map fun (n,k)=>if (k == .free && outer.kind == .function && outer.names.lookup n == some .cell) then (n,.cell) else (n,k) }
structure CompOk (sc outer:Scope) (own:List Str) (N:List Str) (fr:List Nat) (N':List Str):Prop where
 kind:sc.kind=.function
 nocell:∀ y∈sc.names,y.2≠.cell
 loc:∀ y∈sc.names,y.2=.local→sc.names.lookup y.1=some .local
 fre:∀ y∈sc.names,y.2=.free→outer.names.lookup y.1=some .cell∨outer.names.lookup y.1=some .free
 nd:N'.Nodup
 all:N'.map some=own.map some++fr.map fun j=>N[j]?
 frk:∀ j∈fr,∀ x,N[j]?=some x→sc.names.lookup x=some .free∧(outer.names.lookup x=some .cell∨outer.names.lookup x=some .free)
def cst (n:Nat) (fr:List Nat) (σ:St):St:=List.replicate n none++fr.map fun j=>(σ[j]?).join
theorem zaei {env:Env}{sc:Scope} (h:∀ y∈sc.names,y.2=.free→∃ c,env.cells.lookup y.1=some c) :
  ∃ cl,closureFor sc env=pure cl∧(∀ x c,cl.lookup x=some c→env.cells.lookup x=some c)∧∀ y∈sc.names,y.2=.free→∃ c,cl.lookup y.1=some c:=by
 have key:∀ (l:List (Str × NameKind)) (cs:List (Str × Addr)),(∀ y∈l,y.2=.free→∃ c,env.cells.lookup y.1=some c)→(∀ x c,cs.lookup x=some c→env.cells.lookup x=some c) →
   ∃ cl,(forIn l cs fun x r=>if (x.2 == NameKind.free)=true then do let a ← cellOf env x.1; pure (ForInStep.yield ((x.1,a) :: r)) else pure (ForInStep.yield r))=(pure cl:Sem _)∧(∀ x c,cl.lookup x=some c→env.cells.lookup x=some c) ∧
    (∀ x,(∃ c,cs.lookup x=some c)→∃ c,cl.lookup x=some c)∧∀ y∈l,y.2=.free→∃ c,cl.lookup y.1=some c:=by
  intro l
  induction l with
  | nil=>intro cs _ h2; exact ⟨cs,rfl,h2,fun _ z=>z,fun y hy=>nomatch hy⟩
  | cons y l ih =>
   intro cs h1 h2
   obtain ⟨n,k⟩:=y
   by_cases hk:k=.free
   ·subst hk
    obtain ⟨c,hc⟩:=h1 (n,.free) List.mem_cons_self rfl
    obtain ⟨cl,e,a,b,d⟩:=ih ((n,c) :: cs) (fun y hy=>h1 y (List.mem_cons_of_mem _ hy)) (fun x c' hx=>by
     rw [List.lookup_cons] at hx
     split at hx
     ·rename_i q
      have:x=n:=by simpa using q
      cases hx; subst this; exact hc
     ·exact h2 x c' hx)
    refine ⟨cl,?_,a,fun x ⟨c',hx⟩=>b x ?_,fun y hy hf=>?_⟩
    ·rw [List.forIn_cons]
     have e1:cellOf env n=pure c:=by unfold cellOf; rw [hc]
     simp only [beq_self_eq_true,if_true,e1,pure_bind]
     exact e
    ·rw [List.lookup_cons]
     split
     ·exact ⟨_,rfl⟩
     ·exact ⟨c',hx⟩
    ·rcases List.mem_cons.mp hy with rfl | hy
     ·exact b n ⟨c,by simp [List.lookup_cons]⟩
     ·exact d y hy hf
   ·obtain ⟨cl,e,a,b,d⟩:=ih cs (fun y hy=>h1 y (List.mem_cons_of_mem _ hy)) h2
    refine ⟨cl,?_,a,b,fun y hy hf=>?_⟩
    ·rw [List.forIn_cons]
     have hb:(k == NameKind.free)=false:=by simpa using hk
     simp only [hb,Bool.false_eq_true,if_false,pure_bind]
     exact e
    ·rcases List.mem_cons.mp hy with rfl | hy
     ·exact absurd hf hk
     ·exact d y hy hf
 obtain ⟨cl,e,a,_,d⟩:=key sc.names [] h (fun x c hx=>by simp at hx)
 refine ⟨cl,?_,a,d⟩
 unfold closureFor
 simp only [e,pure_bind]
def cxC (X:Cx) (sc:Scope) (cl:List (Str × Addr)) (N':List Str) (C:Addr) (s:Shared) (H:Hp) (fp:List Addr):Cx :=
 { X with N:=N',s₀:=s,H₀:=H,env:=compEnvC sc cl C X.env,outer:=X.stack,stack:=X.stack,ex:=fp,fn:=fun _=>false,pn:=[],xe:=fun _ _=>False }
theorem zacp {outer:Scope}:∀ {names:List (Str × NameKind)}{x:Str}{k:NameKind},
  (names.map fun (n,k)=>if (k == NameKind.free && outer.kind == .function && outer.names.lookup n == some .cell) then (n,NameKind.cell) else (n,k)).lookup x=some k →
   names.lookup x=some k∨(names.lookup x=some .free∧k=.cell)
 | [],x,k,h=>by simp at h
 | (n,k') :: r,x,k,h=>by
  rw [List.map_cons] at h
  by_cases hc:(k' == NameKind.free && outer.kind == .function && outer.names.lookup n == some .cell)=true
  ·simp only [hc,if_true] at h
   rw [List.lookup_cons] at h ⊢
   cases hx:x == n with
   | true =>
    rw [hx] at h
    simp only [Option.some.injEq] at h
    have hf:k'=.free:=by
     have:=(Bool.and_eq_true_iff.mp (Bool.and_eq_true_iff.mp hc).1).1
     simpa using this
    exact .inr ⟨by simp [hf],h.symm⟩
   | false=>rw [hx] at h; exact zacp h
  ·simp only [hc,Bool.false_eq_true,if_false] at h
   rw [List.lookup_cons] at h ⊢
   cases hx:x == n with
   | true=>rw [hx] at h; exact .inl (by simpa using h)
   | false=>rw [hx] at h; exact zacp h
theorem zadq {outer:Scope}:∀ {names:List (Str × NameKind)}{x:Str},names.lookup x=some .free →
  (names.map fun (n,k)=>if (k == NameKind.free && outer.kind == .function && outer.names.lookup n == some .cell) then (n,NameKind.cell) else (n,k)).lookup x=some .cell ∨
  (names.map fun (n,k)=>if (k == NameKind.free && outer.kind == .function && outer.names.lookup n == some .cell) then (n,NameKind.cell) else (n,k)).lookup x=some .free
 | [],x,h=>by simp at h
 | (n,k') :: r,x,h=>by
  rw [List.lookup_cons] at h
  rw [List.map_cons]
  by_cases hc:(k' == NameKind.free && outer.kind == .function && outer.names.lookup n == some .cell)=true
  ·simp only [hc,if_true]
   rw [List.lookup_cons]
   cases hx:x == n with
   | true=>exact .inl rfl
   | false=>rw [hx] at h; exact zadq h
  ·simp only [hc,Bool.false_eq_true,if_false]
   rw [List.lookup_cons]
   cases hx:x == n with
   | true=>rw [hx] at h; exact .inr h
   | false=>rw [hx] at h; exact zadq h
theorem zacz {α:Type}:∀ {l:List (Str × α)}{x:Str}{k:α},l.lookup x=some k→(x,k)∈l
 | [],_,_,h=>by simp at h
 | (n,k') :: r,x,k,h=>by
  rw [List.lookup_cons] at h
  cases hx:x == n with
  | true =>
   rw [hx] at h
   have e:x=n:=by simpa using hx
   have e2:k'=k:=by simpa using h
   rw [e,e2]; exact List.mem_cons_self
  | false=>rw [hx] at h; exact List.mem_cons_of_mem _ (zacz h)
section
variable {X:Cx}{pins:List (Addr × Obj)}{σ:St}{H:Hp}{s:Shared}{sc:Scope}{own:List Str}{fr:List Nat}{N':List Str}{cl:List (Str × Addr)}
theorem zagk (I:Inv X pins σ H s) (cs:CompOk sc X.env.scope own X.N fr N') (h1:∀ x c,cl.lookup x=some c→X.env.cells.lookup x=some c) (h2:∀ y∈sc.names,y.2=.free→∃ c,cl.lookup y.1=some c)
  {fp:List Addr} (hf:∀ b∈fp,FpOk X pins H b∧∃ o,s.heap.get? b=some o) {h':Heap}{t':Nat}{C D:Addr}{o:Obj} (hC:s.heap.objs.size≤C) (hD:s.heap.objs.size≤D) (hDC:D≠C)
  (k:∀ b u,s.heap.get? b=some u→h'.get? b=some u) (hn:h'.Ns C fun _=>none) (hDo:h'.get? D=some o) (hd:∀ v,o.data≠.cell v) :
  Inv (cxC X sc cl N' C s H fp) [(D,o)] (cst own.length fr σ) H { s with heap:=h',toks:=t' }:=by
 have lt:∀ b u,s.heap.get? b=some u→b < s.heap.objs.size:=fun b u e=>Heap.lt_size e
 have fpC:∀ b∈fp,b≠C:=fun b hb z=>by
  obtain ⟨_,o,e⟩:=hf b hb
  have:=lt b o e
  rw [z] at this
  exact absurd (Nat.lt_of_lt_of_le this hC) (Nat.lt_irrefl _)
 have lenN:N'.length=own.length + fr.length:=by
  have:=congrArg List.length cs.all
  simpa using this
 refine ⟨⟨I.ok.mod,cs.kind,I.ok.glob,I.ok.blt,hC,fun x y c e1 e2=>I.ok.inj x y c (h1 x c e1) (h1 y c e2),fun x hx=>?_,fun x c z=>absurd z Bool.false_ne_true,I.ok.hd,I.ok.frames,.inl rfl,fun b hb=>⟨fpC b hb,fun x c e=>(hf b hb).1.2.2.2.2.1 x c (h1 x c e)⟩,
   I.bs,Nat.le_trans I.ok.bsz I.sz,fun b o' e hb=>?_,fun b hb z=>?_,I.stack,I.stkFree⟩,
  rfl,I.bare,Un.kept k,⟨_,hn,fun i x v e1 e2 e3=>?_⟩,fun x c e=>?_,I.hok.fresh hC,fun x c e=>I.freeC x c (h1 x c e),fun p hp=>?_,I.hok.kept k,?_⟩
 ·have hx':(relab sc X.env.scope).names.lookup x=some .cell∨(relab sc X.env.scope).names.lookup x=some .free:=hx
  have hfree:sc.names.lookup x=some .free:=by
   rcases hx' with z | z
   ·rcases zacp z with q | q
    ·exact absurd rfl (cs.nocell _ (zacz q))
    ·exact q.1
   ·rcases zacp z with q | q
    ·exact q
    ·exact q.1
  exact h2 (x,.free) (zacz hfree) rfl
 ·have q:=(hf b hb).1.2.2.2.1
  rcases q with q | q
  ·exact I.ok.noex b o' e q
  ·exact absurd (Nat.lt_of_lt_of_le (Heap.lt_size (I.ok.bs b o' e).1) q) (Nat.lt_irrefl _)
 ·have z':b∈frs X.stack:=z
  rcases List.mem_cons.mp (I.stkSub b z') with q | q
  ·exact (hf b hb).1.2.1 q
  ·exact (hf b hb).1.2.2.1 q
 ·-- a name of the block at its entry is one of the def's
  have hi:own.length≤i:=by
   by_cases hi:i < own.length
   ·have e2':(cst own.length fr σ)[i]?=some none:=by
     unfold cst
     rw [List.getElem?_append_left (by simpa using hi),List.getElem?_replicate,if_pos hi]
    rw [e2'] at e2; cases e2
   ·omega
  have e2':(fr.map fun j=>(σ[j]?).join)[i - own.length]?=some (some v):=by
   unfold cst at e2
   rwa [List.getElem?_append_right (by simpa using hi),List.length_replicate] at e2
  rw [List.getElem?_map] at e2'
  have e1a:(N'.map some)[i]?=some (some x):=by
   have e1:N'[i]?=some x:=e1
   rw [List.getElem?_map,e1]; rfl
  rw [cs.all,List.getElem?_append_right (by simpa using hi),List.length_map,List.getElem?_map] at e1a
  cases ej:fr[i - own.length]? with
  | none=>rw [ej] at e2'; cases e2'
  | some j =>
   rw [ej] at e2' e1a
   have hj:j∈fr:=List.mem_of_getElem? ej
   have nj:X.N[j]?=some x:=by simpa using e1a
   have sj:σ[j]?=some (some v):=by
    have:(σ[j]?).join=some v:=by simpa using e2'
    cases q:σ[j]? with
    | none=>rw [q] at this; cases this
    | some y=>rw [q] at this; simp at this; rw [this]
   obtain ⟨kf,ko⟩:=cs.frk j hj x nj
   obtain ⟨m,hm,hl⟩:=I.loc
   obtain ⟨u,r,l⟩:=hl j x v nj sj (.inr ko)
   refine ⟨u,r,.inr ?_⟩
   have lk:X.env.kindOf x=some .cell∨X.env.kindOf x=some .free:=ko
   rcases l with ⟨z,_⟩ | ⟨_,c,ec,ic⟩
   ·rcases lk with q | q <;> rw [z] at q <;> cases q
   ·obtain ⟨c',hc'⟩:=h2 (x,.free) (zacz kf) rfl
    have:c'=c:=by
     have:=h1 x c' hc'
     rw [ec] at this; exact (Option.some.inj this).symm
    subst this
    refine ⟨zadq kf,c',hc',?_⟩
    obtain ⟨oc,hoc,hcd⟩:=ic
    exact ⟨oc,k c' oc hoc,hcd⟩
 ·obtain ⟨v,oc,hoc,hcd⟩:=I.cell x c (h1 x c e)
  exact ⟨v,oc,k c oc hoc,hcd⟩
 ·have hp':p∈[(D,o)]:=hp
  have e:p=(D,o):=by simpa using hp'
  subst e
  refine ⟨hDo,I.hok.fresh hD,hDC,fun z=>?_,hd⟩
  have z':D∈frs X.stack:=z
  obtain ⟨_,o2,ho2,_⟩:=I.stack.mem z'
  exact absurd (Nat.lt_of_lt_of_le (Heap.lt_size ho2) hD) (Nat.lt_irrefl _)
 ·show (cst own.length fr σ).length=N'.length
  unfold cst
  rw [List.length_append,List.length_replicate,List.length_map,lenN]
theorem zaiy (I:Inv X pins σ H s) {fp:List Addr} (hf:∀ b∈fp,FpOk X pins H b∧∃ o,s.heap.get? b=some o) {C D:Addr}{its:List Value}{ys:List V}{n:Nat}{σ':St}{H':Hp}{s':Shared}
  (hD:s.heap.objs.size≤D) (J:Inv (cxC X sc cl N' C s H fp) [(D,{ cls:=.type "list",data:=.seq its.toArray n })] σ' H' s') (r:Vals ys its) (hz:ys.length≤sizeLine):Inv X pins σ (upd H' D (.lst ys)) s':=by
 obtain ⟨hDo,hDn,hDC,hDf,hDc⟩:=J.pin (D,{ cls:=.type "list",data:=.seq its.toArray n }) (List.mem_append_right _ List.mem_cons_self)
 have u:Un (frs X.stack) fp H H' s.heap s'.heap:=J.base
 have os:s'.os=s.os:=J.os
 have lt:∀ b ob,s.heap.get? b=some ob→b≠D:=fun b ob e z=>by
  have:=Heap.lt_size e
  rw [z] at this
  exact absurd (Nat.lt_of_lt_of_le this hD) (Nat.lt_irrefl _)
 refine I.call' (ch:=fp) os ⟨u.keep,u.slot,fun b ob e n hx=>?_,u.there,fun b xs e=>?_,fun b ob x e=>?_,fun b ps e=>?_⟩ ?_ J.bare (fun b hb=>?_)
 ·rw [zabe (lt b ob e)]; exact u.free b ob e n hx
 ·have:=u.tups b xs e
  rw [zabe (zaa0 this hDn)]; exact this
 ·have:=u.frzs b ob x e
  rw [zabe (zaa0 this hDn)]; exact this
 ·obtain ⟨m,q⟩:=u.tbls b ps e
  exact ⟨m,by rw [zabe (zaa0 q hDn)]; exact q⟩
 ·intro b ob e
  by_cases hb:b=D
  ·subst hb
   rw [zaag] at e; cases e
   exact ⟨hz,its,n,r,hDo⟩
  ·rw [zabe hb] at e
   exact (J.hok b ob e).stay (fun c v _ q=>q) (fun c q=>by rw [zabe (zaa0 q hDn)]; exact q) fun c xs q=>by rw [zabe (zaa0 q hDn)]; exact q
 ·obtain ⟨_,f1,_,f3,f4,f5⟩:=(hf b hb).1
  exact ⟨f3,f1,f4,f5⟩
end
def PIf (X:Cx) (ifs:List Expr) (t:TT):Prop :=
 ∀ (pins:List (Addr × Obj)) (s:Shared) (σ:St) (H:Hp) (Q:Bool→Hp→Prop),Inv X pins σ H s→t σ H Q →
  wpAny (model X.prog X.w) X.A (forIn ifs true fun c r=>if r=true then do let ok ← isTrue c X.env (eval c X.env); pure (ForInStep.yield ok) else pure (ForInStep.yield r)) (TP X pins σ Q) X.xe s
def tYes:TT:=fun _ H Q=>Q true H
theorem zal7 {X:Cx}:PIf X [] tYes:=fun _ _ _ H _ I h=>wpAny_tests_nil ⟨H,I,h⟩
theorem zal8 {X:Cx}{c:Expr}{t:TT} (h:PT X c t):PIf X [c] t:=fun pins s σ H Q I q=>wpAny_tests_one (h pins s σ H Q I q)
structure Comp (J:It) (g:TG) (tt:TT) (te:TE) (Q:List V→Hp→Prop) (σ:St) (H:Hp):Prop where
 ex:∃ W:Nat→Nat→List V→St→Hp→Prop,(∃ m,W 0 m [] σ H)∧∀ i m ys σ H,W i m ys σ H→ys.length < sizeLine ∧
  ((J.stop i H∧Q ys H)∨(J.go i H∧∃ N:List V→St→Hp→Prop,(∀ ys' σ' H',N ys' σ' H'→∃ m',m' < m∧W (i + 1) m' ys' σ' H') ∧
    ∀ x H',J.yld i H x H'→g x σ H' fun σ2 H2=>tt σ2 H2 fun b H3=>if b=true then te σ2 H3 fun y H4=>N (ys++[y]) σ2 H4 else N ys σ2 H3))
section
variable {prog:Program}{w:World}{A:Around}{R:Result→Shared→Prop}{s:Shared}
theorem zafy {elt target iter:Expr}{ifs:List Expr}{scope:Scope}{pos:Pos}{it acc:Value}{env:Env} (I:Nat→Shared→Prop)
  (turn:∀ n s,I n s→wpAny (model prog w) A (pyNext it) (fun r s₁=>match r with
   | none=>R (.ok .next) s₁
   | some v=>wpAny (model prog w) A (letOwnedTupleGo target it v) (fun _ s₁=>wpAny (model prog w) A (assign target env v) (fun _ s₂ =>
     wpAny (model prog w) A (forIn ifs true fun c r=>if r=true then do let ok ← isTrue c env (eval c env); pure (ForInStep.yield ok) else pure (ForInStep.yield r)) (fun ok s₃ =>
      if ok=true then wpAny (model prog w) A (eval elt env) (fun x s₄ =>
       wpAny (model prog w) A (call (.builtin "list.append") [acc,x]) (fun _ s₅=>∃ m,m < n∧I m s₅) (fun _ _=>False) s₄) (fun _ _=>False) s₃
      else ∃ m,m < n∧I m s₃) (fun _ _=>False) s₂) (fun _ _=>False) s₁) (fun _ _=>False) s₁) (fun _ _=>False) s)
  (n:Nat) (h:I n s):codeAny (model prog w) A (.compLoop (.ListComp elt [⟨target,iter,ifs,0⟩] scope pos) 0 it acc env) R s:=by
 refine codeAny_loop rfl I (fun n s hI=>?_) n h
 show wpAny _ A ((compTurn (.ListComp elt [⟨target,iter,ifs,0⟩] scope pos) 0 it acc env).onRaise (fun x=>do noteFrame x env; theTreesLotGoes x)) _ _ s
 refine wpAny_noted (wpAny_noRaise ?_)
 rw [compTurn_list]
 refine wpAny_bind (wpAny_standAt (wpAny_bind (wpAny_mono (turn n s hI) (fun r s₁ h₁=>?_) fun _ _ h'=>h')))
 cases r with
 | none=>exact wpAny_pure h₁
 | some v =>
  refine wpAny_bind (wpAny_mono h₁ (fun _ s₁ h₁=>?_) fun _ _ h'=>h')
  refine wpAny_bind (wpAny_mono h₁ (fun _ s₂ h₂=>wpAny_bind (wpAny_mono h₂ (fun ok s₃ h₃=>?_) fun _ _ h'=>h')) fun _ _ h'=>h')
  cases ok with
  | false=>exact wpAny_pure ⟨rfl,h₃⟩
  | true =>
   exact wpAny_bind (wpAny_bind (wpAny_mono h₃ (fun x s₄ h₄=>wpAny_bind (wpAny_mono h₄ (fun _ s₅ h₅=>wpAny_pure (wpAny_pure ⟨rfl,h₅⟩)) fun _ _ h'=>h')) fun _ _ h'=>h'))
end
end L2

namespace L2
open PySem PySem.Spec PyProof.Rows
structure TurnX (G:Cx→Prop) (P:Program) (w:World) (K:PySem.W.Frag) (tg:Expr) (J:It) (fp:List Addr) (it:Addr) (tn:Nat→Heap→Prop):Prop where
 obj:∀ i h,tn i h→∀ b∈fp,∃ o,h.get? b=some o∧∀ v,o.data≠.cell v
 keep:∀ i h h',tn i h→(∀ b∈fp,∀ o,h.get? b=some o→h'.get? b=some o)→tn i h'
 item:∀ (X:Cx),X.prog=P→X.w=w→X.K=K→G X→∀ (i:Nat) (pins:List (Addr × Obj)) (s:Shared) (σ:St) (H:Hp) (E:Value→Shared→Prop),Inv X pins σ H s→(∀ b∈fp,FpOk X pins H b)→tn i s.heap→J.go i H →
  wpAny (model P w) X.A (pyNext (.ref it)) (fun r s1=>∃ u,r=some u ∧
   wpAny (model P w) X.A (letOwnedTupleGo tg (.ref it) u) (fun _ s2=>∃ x H',Inv X pins σ H' s2∧RelV x u∧J.yld i H x H'∧tn (i + 1) s2.heap∧∀ b∈fp,H' b=none) E s1) E s
 done:∀ (X:Cx),X.prog=P→X.w=w→X.K=K→G X→∀ (i:Nat) (pins:List (Addr × Obj)) (s:Shared) (σ:St) (H:Hp) (E:Value→Shared→Prop),Inv X pins σ H s→(∀ b∈fp,FpOk X pins H b)→tn i s.heap→J.stop i H →
  wpAny (model P w) X.A (pyNext (.ref it)) (fun r s1=>r=none∧Inv X pins σ H s1) E s
 self:∀ (A:Around) (i:Nat) (s:Shared) (Q:Value→Shared→Prop) (E:Value→Shared→Prop),tn i s.heap→Q (.ref it) s→wpAny (model P w) A (pyIter (.ref it)) Q E s
theorem Turn.x {P:Program}{w:World}{K:PySem.W.Frag}{tg:Expr}{J:It}{fp:List Addr}{it:Addr}{tn:Nat→Heap→Prop} (T:Turn P w K tg J fp it tn):TurnX (fun X=>X.calm=true) P w K tg J fp it tn:=⟨T.obj,T.keep,T.item,T.done,T.self⟩
section
variable {X:Cx}{sc:Scope}{own:List Str}{fr:List Nat}{N':List Str}{tg elt iter:Expr}{ifs:List Expr}{g:TG}{tt:TT}{te:TE}{wi:TI}{pos:Pos}
theorem zaeu {G:Cx→Prop}{pins:List (Addr × Obj)}{σ:St}{H:Hp}{s2:Shared}{it:Addr}{fp:List Addr}{tn:Nat→Heap→Prop}{J:It}{QQ:List V→Hp→Prop}{cl:List (Str × Addr)}{RR:Value→Addr→Result→Shared→Prop}{E:Value→Shared→Prop}
  (I2:Inv X pins σ H s2) (hc:∀ cl C s H fp,G (cxC X sc cl N' C s H fp)) (T:TurnX G X.prog X.w X.K tg J fp it tn) (st:tn 0 s2.heap) (f2:∀ b∈fp,FpOk X pins H b) (cs:CompOk sc X.env.scope own X.N fr N')
  (h1:∀ x c,cl.lookup x=some c→X.env.cells.lookup x=some c) (h2:∀ y∈sc.names,y.2=.free→∃ c,cl.lookup y.1=some c)
  (hg:∀ cl C s H fp,PG (cxC X sc cl N' C s H fp) tg g) (hif:∀ cl C s H fp,PIf (cxC X sc cl N' C s H fp) ifs tt) (he:∀ cl C s H fp,PE (cxC X sc cl N' C s H fp) elt te)
  (KK:Comp J g tt te QQ (cst own.length fr σ) H)
  (hRR:∀ D C m H' ys s',s2.heap.objs.size≤C→s'.heap.Ns C m→H' D=none→(upd H' D (.lst ys)) C=none→QQ ys H'→Inv X pins σ (upd H' D (.lst ys)) s'→RR (.ref D) C (.ok .next) s') :
  wpAny (model X.prog X.w) X.A (newList []) (fun acc s₃=>wpAny (model X.prog X.w) X.A (newFunctionEnv sc X.env.globals cl [] X.env.qual none .none (some X.env)) (fun cenv s₄ =>
   codeAny (model X.prog X.w) X.A (.compStart (.ListComp elt [⟨tg,iter,ifs,0⟩] sc pos) 0 (.ref it) acc { cenv with scope:=relabel sc X.env }) (RR acc cenv.locals) s₄) E s₃) E s2:=by
 refine wpAny_newObj_type (wpAny_newFunctionEnv cs.nocell (by intro y hy; simp at hy) (fun h₁ hns₁ hsb₁=>?_) cs.kind)
 dsimp only at hns₁ hsb₁ ⊢
 generalize hH2:s2.heap.push { cls:=.type "list",dict:=none,data:=.seq ([]:List Value).toArray }=H2 at hns₁ hsb₁ ⊢
 have hC:H2.objs.size=s2.heap.objs.size + 1:=by rw [← hH2,Heap.size_push]
 have hDC:s2.heap.objs.size≠H2.objs.size:=by rw [hC]; exact Nat.ne_of_lt (Nat.lt_succ_self _)
 have hCle:s2.heap.objs.size≤H2.objs.size:=by rw [hC]; exact Nat.le_succ _
 have below:∀ b,b < s2.heap.objs.size→b≠H2.objs.size∧b≠s2.heap.objs.size:=fun b hb=>⟨by rw [hC]; exact Nat.ne_of_lt (Nat.lt_succ_of_lt hb),Nat.ne_of_lt hb⟩
 have old:∀ b o,s2.heap.get? b=some o→h₁.get? b=some o:=fun b o e=>hsb₁.extBut b o (below b (Heap.lt_size e)).1 (Heap.get?_push_of_some _ (hH2 ▸ Heap.get?_push_of_some _ e))
 have hacc:h₁.get? s2.heap.objs.size=some { cls:=.type "list",data:=.seq ([]:List Value).toArray 0 }:=hsb₁.extBut _ _ hDC (Heap.get?_push_of_some _ (hH2 ▸ Heap.get?_push_size _ rfl))
 have fpo:∀ b∈fp,FpOk X pins H b∧∃ o,s2.heap.get? b=some o:=fun b hb=>⟨f2 b hb,let ⟨o,e,_⟩:=T.obj 0 _ st b hb; ⟨o,e⟩⟩
 have st1:tn 0 h₁:=T.keep _ _ _ st fun b hb o e=>old b o e
 have hns:h₁.Ns H2.objs.size fun _=>none:=by simpa using hns₁
 obtain ⟨W,⟨m0,w0⟩,turn⟩:=KK.ex
 have loop:∀ s₃:Shared,s₃={ s2 with heap:=h₁,toks:=s2.toks + ([]:List (Str × Value)).length } →
   codeAny (model X.prog X.w) X.A (.compLoop (.ListComp elt [⟨tg,iter,ifs,0⟩] sc pos) 0 (.ref it) (.ref s2.heap.objs.size) (compEnvC sc cl H2.objs.size X.env)) (RR (.ref s2.heap.objs.size) H2.objs.size) s₃:=by
  rintro s₃ rfl
  have J0:Inv (cxC X sc cl N' H2.objs.size s2 H fp) [(s2.heap.objs.size,{ cls:=.type "list",data:=.seq ([]:List Value).toArray 0 })] (cst own.length fr σ) H { s2 with heap:=h₁,toks:=s2.toks + ([]:List (Str × Value)).length } :=
   zagk I2 cs h1 h2 fpo hCle (Nat.le_refl _) hDC old hns hacc (fun v z=>by cases z)
  have stat:∀ {pl:List (Addr × Obj)}{H':Hp},(∀ p∈pl,p.1=s2.heap.objs.size)→(∀ b∈fp,H' b=none)→∀ b∈fp,FpOk (cxC X sc cl N' H2.objs.size s2 H fp) pl H' b:=fun {pl H'} hpl hn b hb=>by
   obtain ⟨f,ob,e⟩:=fpo b hb
   refine ⟨hn b hb,(below b (Heap.lt_size e)).1,fun z=>?_,.inl hb,fun x c ec=>f.2.2.2.2.1 x c (h1 x c ec),fun p hp=>?_⟩
   ·have z':b∈frs X.stack:=z
    rcases List.mem_cons.mp (I2.stkSub b z') with q | q
    ·exact f.2.1 q
    ·exact f.2.2.1 q
   ·have hp':p∈pl:=hp
    rw [hpl p hp']
    exact Ne.symm (below b (Heap.lt_size e)).2
  have one:∀ (o:Obj),∀ p∈[(s2.heap.objs.size,o)],p.1=s2.heap.objs.size:=fun o p hp=>by
   have:p=(s2.heap.objs.size,o):=by simpa using hp
   rw [this]
  refine zafy (env:=compEnvC sc cl H2.objs.size X.env) (fun n s'=>∃ i ys its k σ' H',Inv (cxC X sc cl N' H2.objs.size s2 H fp) [(s2.heap.objs.size,{ cls:=.type "list",data:=.seq (its:List Value).toArray k })] σ' H' s'∧tn i s'.heap∧(∀ b∈fp,H' b=none)∧Vals ys its∧W i n ys σ' H')
   ?_ m0 ⟨0,[],[],0,_,H,J0,st1,fun b hb=>(f2 b hb).1,.nil,w0⟩
  rintro n s3 ⟨i,ys,its,k,σ3,H3,I3,st3,fr3,rv,w3⟩
  obtain ⟨hlen,alt⟩:=turn i n ys σ3 H3 w3
  rcases alt with ⟨stop,qn⟩ | ⟨go,N,hN,step⟩
  ·refine wpAny_mono (T.done (cxC X sc cl N' H2.objs.size s2 H fp) rfl rfl rfl (hc _ _ _ _ _) i _ s3 σ3 H3 (fun _ _=>False) I3 (stat (one _) fr3) st3 stop) (fun r s4 ⟨hr,I4⟩=>?_) fun _ _ z=>z
   subst hr
   obtain ⟨m,hm,_⟩:=I4.loc
   have hDn:H3 s2.heap.objs.size=none:=(I4.pin (s2.heap.objs.size,{ cls:=.type "list",data:=.seq its.toArray k }) (List.mem_append_right _ List.mem_cons_self)).2.1
   exact hRR _ _ m H3 ys s4 hCle hm hDn (by rw [zabe (Ne.symm hDC)]; exact I4.free) qn (zaiy I2 fpo (Nat.le_refl _) I4 rv (Nat.le_of_lt hlen))
  ·refine wpAny_mono (T.item (cxC X sc cl N' H2.objs.size s2 H fp) rfl rfl rfl (hc _ _ _ _ _) i _ s3 σ3 H3 (fun _ _=>False) I3 (stat (one _) fr3) st3 go) (fun r s4 ⟨u,hr,h4⟩=>?_) fun _ _ z=>z
   subst hr
   refine wpAny_mono h4 (fun _ s5 ⟨x,H5,I5,r5,y5,st5,fr5⟩=>?_) fun _ _ z=>z
   have I5':=I5.pinned (stat (one _) fr5) (T.obj _ _ st5)
   refine wpAny_mono (hg cl H2.objs.size s2 H fp _ s5 σ3 H5 x u _ I5' r5 (step x H5 y5)) (fun _ s6 ⟨σ6,H6,I6,q6⟩=>?_) fun _ _ z=>z
   refine wpAny_mono (hif cl H2.objs.size s2 H fp _ s6 σ6 H6 _ I6 q6) (fun b s7 ⟨H7,I7,q7⟩=>?_) fun _ _ z=>z
   have fps:∀ {σ8:St}{H8:Hp}{s8:Shared},Inv (cxC X sc cl N' H2.objs.size s2 H fp) ([(s2.heap.objs.size,{ cls:=.type "list",data:=.seq its.toArray k })]++pinsAt fp s5.heap) σ8 H8 s8 →
     tn (i + 1) s8.heap∧∀ b∈fp,H8 b=none:=fun {σ8 H8 s8} I8=>by
    refine ⟨T.keep _ _ _ st5 fun b hb o e=>(I8.pin (b,o) (List.mem_append_right _ (List.mem_append_right _ (zac6 hb e)))).1,fun b hb=>?_⟩
    obtain ⟨o,e,d⟩:=T.obj _ _ st5 b hb
    exact (I8.pin (b,o) (List.mem_append_right _ (List.mem_append_right _ (zac6 hb e)))).2.1
   cases b with
   | false =>
    obtain ⟨m',hm,w7⟩:=hN ys σ6 H7 q7
    exact ⟨m',hm,i + 1,ys,its,k,σ6,H7,I7.unpinned,(fps I7).1,(fps I7).2,rv,w7⟩
   | true =>
    have q7':te σ6 H7 fun y H4=>N (ys++[y]) σ6 H4:=q7
    refine wpAny_mono (he cl H2.objs.size s2 H fp _ s7 σ6 H7 _ I7 q7') (fun uy s8 ⟨y,H8,I8,r8,n8⟩=>?_) fun _ _ z=>z
    obtain ⟨m',hm,w8⟩:=hN _ _ _ n8
    obtain ⟨hDo,hDn,hDL,hDf,_⟩:=I8.pin (s2.heap.objs.size,{ cls:=.type "list",data:=.seq its.toArray k }) (List.mem_append_right _ (List.mem_append_left _ List.mem_cons_self))
    have hys:its.toArray.size≤sizeLine:=by rw [List.size_toArray,← rv.length]; exact Nat.le_of_lt hlen
    refine wpAny_list_append_plain (hsz:=hys) (⟨k,hDo⟩:s8.heap.PlainList s2.heap.objs.size its.toArray) fun h9 ⟨k',hl9⟩ hs9=>?_
    have hDp:∀ p∈(cxC X sc cl N' H2.objs.size s2 H fp).pn++pinsAt fp s5.heap,p.1≠s2.heap.objs.size:=fun p hp=>by
     have hp':p∈pinsAt fp s5.heap:=by
      have hp2:p∈([]:List (Addr × Obj))++pinsAt fp s5.heap:=hp
      simpa using hp2
     obtain ⟨hb,_⟩:=zafl hp'
     obtain ⟨_,ob,e⟩:=fpo p.1 hb
     exact (below p.1 (Heap.lt_size e)).2
    have I8':Inv (cxC X sc cl N' H2.objs.size s2 H fp) (pinsAt fp s5.heap) σ6 H8 s8:=I8.pins_of fun p hp=>I8.pin p (List.mem_append_right _ (List.mem_append_right _ hp))
    have I9:Inv (cxC X sc cl N' H2.objs.size s2 H fp) (pinsAt fp s5.heap) σ6 H8 { s8 with heap:=h9 }:=I8'.turned (t':=s8.toks) (it:=s2.heap.objs.size) (fun b o hb e=>(hs9.2 b hb).trans e) hDn hDL (.inr (Nat.le_refl _))
     (fun x c e z=>by
      obtain ⟨v,q⟩:=I2.cell x c (h1 x c e)
      have:=q.lt
      rw [z] at this
      exact absurd this (Nat.lt_irrefl _)) hDp
    have key:=fps I8
    refine ⟨m',hm,i + 1,ys++[y],its++[uy],k',σ6,H8,I9.pins_of fun p hp=>?_,T.keep _ _ _ key.1 fun b hb o e=>?_,key.2,rv.append (.cons r8 .nil),w8⟩
    ·have e:p=(s2.heap.objs.size,{ cls:=.type "list",data:=.seq (its++[uy]).toArray k' }):=by simpa using hp
     subst e
     refine ⟨?_,hDn,hDL,hDf,fun v z=>by cases z⟩
     have:(its++[uy]).toArray=its.toArray.push uy:=by simp
     rw [this]; exact hl9
    ·obtain ⟨_,ob,e2⟩:=fpo b hb
     exact (hs9.2 b (below b (Heap.lt_size e2)).2).trans e
 exact codeAny_compStart_list (loop _ rfl) (wpAny_mono (T.self X.A 0 _ (fun it' s'=>it'=.ref it∧s'={ s2 with heap:=h₁,toks:=s2.toks + ([]:List (Str × Value)).length }) _ st1 ⟨rfl,rfl⟩) (fun it' s' ⟨e1,e2⟩=>by subst e1 e2; exact loop _ rfl) fun _ _ z=>z)
def tComp (n:Nat) (fr:List Nat) (wi:TI) (g:TG) (tt:TT) (te:TE):TE:=fun σ H Q=>wi σ H fun J H1=>Comp J g tt te (fun ys H2=>∀ D,H2 D=none→Q (.ref D) (upd H2 D (.lst ys))) (cst n fr σ) H1
theorem zal9 (hc:X.calm=true) (cs:CompOk sc X.env.scope own X.N fr N') (hi:PI X tg iter wi) (hg:∀ cl C s H fp,PG (cxC X sc cl N' C s H fp) tg g) (hif:∀ cl C s H fp,PIf (cxC X sc cl N' C s H fp) ifs tt)
  (he:∀ cl C s H fp,PE (cxC X sc cl N' C s H fp) elt te) (hs:∀ x,foldedSetIterable iter X.env x=pure x:=by intro _; rfl):PE X (.ListComp elt [⟨tg,iter,ifs,0⟩] sc pos) (tComp own.length fr wi g tt te):=by
 intro pins s σ H Q I h
 obtain ⟨cl,ecl,h1,h2⟩:=zaei (env:=X.env) (sc:=sc) fun y hy hf=>I.ok.has y.1 (cs.fre y hy hf)
 rw [eval_ListComp]
 refine wpAny_comprehension_free (use:=none) rfl hs ecl cs.kind cs.loc (thn (hi pins s σ H _ I h) fun v s1 q1=>thn q1 fun itv s2 q2=>?_)
 obtain ⟨it,fp,tn,J,H2,rfl,I2,T,st,f2,KK⟩:=q2
 refine zaeu (RR:=fun acc C=>compPost (model X.prog X.w) X.A X.xe none (EP X pins σ Q) acc C) I2 (fun _ _ _ _ _=>hc) T.x st f2 cs h1 h2 hg hif he KK fun D C m H' ys s' hC hn hD hCn hq I'=>?_
 refine ⟨m,hn,fun h' hs'=>⟨.ref D,upd H' D (.lst ys),?_,rfl,hq D hD⟩⟩
 obtain ⟨f0,f1,f2,f3,f4,f5⟩:=I2.fpOk hC hCn
 exact I'.turned (t':=s'.toks) (it:=C) (fun b o hb e=>(hs'.2 b hb).trans e) f0 (Ne.symm (Ne.symm f1)) f3 f4 f5
def tSetC (i n:Nat) (fr:List Nat) (wi:TI) (g:TG) (tt:TT) (te:TE):TS:=fun D σ H=>wi σ H fun J H1=>Comp J g tt te (fun ys H2=>∀ p,H2 p=none→D.nx (σ.set i (some (.ref p))) (upd H2 p (.lst ys))) (cst n fr σ) H1
theorem zama {i:Nat}{y:Str}{py spos:Pos} (hN:X.N.Nodup) (hy:X.N[i]?=some y) (hx:Loc X.env.scope y) (hc:X.calm=true) (cs:CompOk sc X.env.scope own X.N fr N') (hi:PI X tg iter wi)
  (hg:∀ cl C s H fp,PG (cxC X sc cl N' C s H fp) tg g) (hif:∀ cl C s H fp,PIf (cxC X sc cl N' C s H fp) ifs tt) (he:∀ cl C s H fp,PE (cxC X sc cl N' C s H fp) elt te)
  (hsw:swapsWith (.ListComp elt [⟨tg,iter,ifs,0⟩] sc pos) (some (.Name y py)) spos.line X.env=pure true) (hfn:X.fn y=true∨X.env.scope.names.lookup y=some .local:=by first | exact .inl rfl | exact .inr rfl | assumption) (hs:∀ x,foldedSetIterable iter X.env x=pure x:=by intro _; rfl) :
  PS X (.Assign [.Name y py] (.ListComp elt [⟨tg,iter,ifs,0⟩] sc pos) spos) (tSetC i own.length fr wi g tt te):=by
 intro pins s σ H D I h
 obtain ⟨cl,ecl,h1,h2⟩:=zaei (env:=X.env) (sc:=sc) fun y hy hf=>I.ok.has y.1 (cs.fre y hy hf)
 rw [exec_Assign_Name_used _ _ _ _ hsw]
 refine wpAny_bind (wpAny_standAt (wpAny_bind ?_))
 show wpAny _ X.A (do let _ ← comprehension (.ListComp elt [⟨tg,iter,ifs,0⟩] sc pos) sc X.env _ (newList []) false (eval iter X.env) (some (assign (.Name y py) X.env))) _ _ s
 refine wpAny_bind (wpAny_mono (wpAny_comprehension_free (use:=some (assign (.Name y py) X.env)) (Q:=fun _ s'=>∃ σ' H',Inv X pins σ' H' s'∧D.nx σ' H') rfl hs ecl cs.kind cs.loc (thn (hi pins s σ H _ I h) fun v s1 q1=>thn q1 fun itv s2 q2=>?_))
  (fun _ s' hq=>wpAny_pure (wpAny_pure hq)) fun _ _ e=>e)
 obtain ⟨it,fp,tn,J,H2,rfl,I2,T,st,f2,KK⟩:=q2
 refine zaeu (RR:=fun acc C=>compPost (model X.prog X.w) X.A X.xe (some (assign (.Name y py) X.env)) (fun _ s'=>∃ σ' H',Inv X pins σ' H' s'∧D.nx σ' H') acc C) I2 (fun _ _ _ _ _=>hc) T.x st f2 cs h1 h2 hg hif he KK fun p C m H' ys s' hC hn hD hCn hq I'=>?_
 obtain ⟨f0,f1,f2,f3,f4,f5⟩:=I2.fpOk hC hCn
 show wpAny _ X.A (assign (.Name y py) X.env (.ref p)) _ _ _
 refine wpAny_assign_Name (zafk (v:=.ref p) I' hN hy hx rfl (fun s'' I'' ⟨a,hsa,ha⟩=>?_) hfn)
 have hCa:C≠a:=by
  rcases ha with z | z
  ·rw [z]; exact f1
  ·exact Ne.symm (f4 y a z)
 refine ⟨m,hn.sameBut hsa hCa,fun h' hs'=>⟨_,_,?_,hq p hD⟩⟩
 exact I''.turned (t':=s''.toks) (it:=C) (fun b o hb e=>(hs'.2 b hb).trans e) f0 f1 f3 f4 f5
end
theorem zagl {J:It}{g:TG}{tt:TT}{te:TE}{Q:List V→Hp→Prop}{σ:St}{H:Hp} (n:Nat) (Pv:Nat→List V→St→Hp→Prop) (h0:Pv 0 [] σ H) (hl:∀ i ys σ H,i≤n→Pv i ys σ H→ys.length < sizeLine)
  (go:∀ i ys σ H,i < n→Pv i ys σ H→J.go i H) (stop:∀ ys σ H,Pv n ys σ H→J.stop n H)
  (turn:∀ i ys σ H,i < n→Pv i ys σ H→∀ x H',J.yld i H x H'→g x σ H' fun σ2 H2=>tt σ2 H2 fun b H3=>if b=true then te σ2 H3 fun y H4=>Pv (i + 1) (ys++[y]) σ2 H4 else Pv (i + 1) ys σ2 H3)
  (after:∀ ys σ H,Pv n ys σ H→Q ys H):Comp J g tt te Q σ H:=by
 refine ⟨fun i m ys σ H=>i≤n∧m=n - i∧Pv i ys σ H,⟨n,Nat.zero_le _,rfl,h0⟩,fun i m ys σ H ⟨hi,hm,p⟩=>⟨hl i ys σ H hi p,?_⟩⟩
 rcases Nat.lt_or_ge i n with h | h
 ·exact .inr ⟨go i ys σ H h p,Pv (i + 1),fun ys' σ' H' q=>⟨n - (i + 1),by omega,h,rfl,q⟩,turn i ys σ H h p⟩
 ·have e:i=n:=Nat.le_antisymm hi h
  subst e
  exact .inl ⟨stop ys σ H p,after ys σ H p⟩
theorem zadj {K:PySem.W.Frag}{a:Addr} (xs:List V) {g:TG}{tt:TT}{te:TE}{Q:List V→Hp→Prop}{σ:St}{H:Hp} (Pv:Nat→List V→St→Hp→Prop) (hn:xs.length < sizeLine) (h0:Pv 0 [] σ H) (hl:∀ i ys σ H,i≤xs.length→Pv i ys σ H→ys.length≤i∧SqL K H a xs)
  (turn:∀ i ys σ H x,xs[i]?=some x→Pv i ys σ H→g x σ H fun σ2 H2=>tt σ2 H2 fun b H3=>if b=true then te σ2 H3 fun y H4=>Pv (i + 1) (ys++[y]) σ2 H4 else Pv (i + 1) ys σ2 H3)
  (after:∀ ys σ H,Pv xs.length ys σ H→Q ys H):Comp (Itl K a) g tt te Q σ H :=
 zagl xs.length Pv h0 (fun i ys σ H hi p=>Nat.lt_of_le_of_lt (Nat.le_trans (hl i ys σ H hi p).1 hi) hn) (fun i ys σ H hi p=>⟨xs,xs[i],(hl i ys σ H (Nat.le_of_lt hi) p).2,List.getElem?_eq_getElem hi⟩)
  (fun ys σ H p=>⟨xs,(hl _ ys σ H (Nat.le_refl _) p).2,Nat.le_refl _⟩) (fun i ys σ H hi p x H' y=>by obtain ⟨rfl,y⟩:=y; exact turn i ys σ _ x (y xs (hl i ys σ _ (Nat.le_of_lt hi) p).2) p) after
theorem zakm {K:PySem.W.Frag}{a:Addr} (xs:List V) {g:TG}{tt:TT}{te:TE}{Q:List V→Hp→Prop}{σ:St}{H:Hp} (Pv:Nat→List V→St→Hp→Prop) (hn:xs.length < sizeLine) (h0:Pv 0 [] σ H) (hl:∀ i ys σ H,i≤xs.length→Pv i ys σ H→ys.length≤i∧SqT K H a xs)
  (turn:∀ i ys σ H x,xs[i]?=some x→Pv i ys σ H→g x σ H fun σ2 H2=>tt σ2 H2 fun b H3=>if b=true then te σ2 H3 fun y H4=>Pv (i + 1) (ys++[y]) σ2 H4 else Pv (i + 1) ys σ2 H3)
  (after:∀ ys σ H,Pv xs.length ys σ H→Q ys H):Comp (Itt K a) g tt te Q σ H :=
 zagl xs.length Pv h0 (fun i ys σ H hi p=>Nat.lt_of_le_of_lt (Nat.le_trans (hl i ys σ H hi p).1 hi) hn) (fun i ys σ H hi p=>⟨xs,xs[i],(hl i ys σ H (Nat.le_of_lt hi) p).2,List.getElem?_eq_getElem hi⟩)
  (fun ys σ H p=>⟨xs,(hl _ ys σ H (Nat.le_refl _) p).2,Nat.le_refl _⟩) (fun i ys σ H hi p x H' y=>by obtain ⟨rfl,y⟩:=y; exact turn i ys σ _ x (y xs (hl i ys σ _ (Nat.le_of_lt hi) p).2) p) after
end L2

namespace L2
open PySem PySem.Spec PyProof.Rows
open AutoSeq1 (wpAny_loadPart') in
set_option maxHeartbeats 4000000 in
theorem zaej (k:SK) (l:Addr) (xs:Array Value) :
  Meets (Builtin.«enumerate.__new__» ⟨[.type "enumerate",.ref l],[]⟩) (fun _ R s=>SIs k s.heap l xs ∧
   R (.ok (.ret (.ref (s.heap.push (itObj k l)).objs.size))) { s with heap:=(s.heap.push (itObj k l)).push { cls:=.type "enumerate",data:=.fields #[.none,.bool false,.ref s.heap.objs.size,rawInt 0,.none,.none] } }):=by
 cases k with
 | list =>
  exact .of_wp fun prog w A R s h=>by
   obtain ⟨hp,g,d,tk,os⟩:=s; obtain ⟨hL,h⟩:=h
   have hsub:=sub_enumerate
   have hL:Heap.IsList (Shared.heap ⟨hp,g,d,tk,os⟩) l xs:=hL
   obtain ⟨ol,hl,hlc,nl,hld⟩:=id hL
   wp_walk using wpAny_loadPart' hl
   refine wpAny_stack_any fun st=>wpAny_pure ?_
   split
   ·rename_i c _ _ _ _ _
    cases (c == Value.type "enumerate")
    ·wp_walk using wpAny_loadPart' hl,wpAny_pyIter_list hL
     exact ⟨_,rfl,h⟩
    ·wp_walk using wpAny_loadPart' hl,wpAny_pyIter_list hL
     exact ⟨_,rfl,h⟩
   ·wp_walk using wpAny_loadPart' hl,wpAny_pyIter_list hL
    exact ⟨_,rfl,h⟩
 | tuple =>
  exact .of_wp fun prog w A R s h=>by
   obtain ⟨hp,g,d,tk,os⟩:=s; obtain ⟨hL,h⟩:=h
   have hsub:=sub_enumerate
   have hL:Heap.IsTuple (Shared.heap ⟨hp,g,d,tk,os⟩) l xs:=hL
   obtain ⟨ol,hl,hlc,nl,hld⟩:=id hL
   wp_walk using wpAny_loadPart' hl
   refine wpAny_stack_any fun st=>wpAny_pure ?_
   split
   ·rename_i c _ _ _ _ _
    cases (c == Value.type "enumerate")
    ·wp_walk using wpAny_loadPart' hl,wpAny_pyIter_tuple hL
     exact ⟨_,rfl,h⟩
    ·wp_walk using wpAny_loadPart' hl,wpAny_pyIter_tuple hL
     exact ⟨_,rfl,h⟩
   ·wp_walk using wpAny_loadPart' hl,wpAny_pyIter_tuple hL
    exact ⟨_,rfl,h⟩
section
variable {prog:Program}{w:World}{A:Around}{E:Value→Shared→Prop}{s:Shared}
theorem zahx {k:SK}{l:Addr}{xs:Array Value}{Q:Value→Shared→Prop} (hL:SIs k s.heap l xs)
  (h:∀ h',IsEnum h' (s.heap.objs.size + 1) s.heap.objs.size 0 .none→SIt k h' s.heap.objs.size l 0→(∀ b o,s.heap.get? b=some o→h'.get? b=some o)→Q (.ref (s.heap.objs.size + 1)) { s with heap:=h' }) :
  wpAny (model prog w) A (call (.type "enumerate") [.ref l]) Q E s:=by
 refine callType_new F.called_enumerate (by decide) (F.typeCall_enumerate_1 _) (F.newCall_enumerate_1 _) (fun obj=>F.args_object_init_2 obj _) F.entry_enumerate_new (zaej k l xs) ⟨hL,?_⟩
 have hz:(s.heap.push (itObj k l)).objs.size=s.heap.objs.size + 1:=Heap.size_push ..
 have r1:(itObj k l).isFreed=false:=by cases k <;> rfl
 have he:=Heap.get?_push_size (s.heap.push (itObj k l)) (o:={ cls:=.type "enumerate",data:=.fields #[.none,.bool false,.ref s.heap.objs.size,rawInt 0,.none,.none] }) rfl
 rw [hz] at he
 show _∧_
 rw [hz]
 exact ⟨⟨_,he,rfl⟩,h _ he (zae5 (Heap.get?_push_of_some _ (Heap.get?_push_size _ r1))) fun b o x=>Heap.get?_push_of_some _ (Heap.get?_push_of_some _ x)⟩
theorem zahy {k:SK}{e it l:Addr}{i:Nat}{items:Array Value}{x old:Value}{Q:Value→Shared→Prop}
  (he:IsEnum s.heap e it i old) (hit:SIt k s.heap it l i) (hl:SIs k s.heap l items) (hx:items[i]?=some x) (hne:e≠it)
  (hQ:∀ h',IsEnumOut h' e it ((i:Int) + 1) x s.heap.objs.size→SIt k h' it l (i + 1) →
   h'.get? s.heap.objs.size=some { cls:=.type "tuple",data:=.seq #[.int i s.toks,x] }→h'.objs.size=s.heap.objs.size + 1 →
   (∀ b o,b≠e→b≠it→s.heap.get? b=some o→h'.get? b=some o)→Q (.ref s.heap.objs.size) { s with heap:=h',toks:=s.toks + 1 }) :
  wpAny (model prog w) A (Builtin.«enumerate.__next__» ⟨[.ref e],[]⟩) (fun fin s'=>∃ v,fin=.done (.ret v)∧Q v s') E s:=by
 obtain ⟨hp,g,d,tk,os⟩:=s
 show wpAny _ _ (field (.ref e) 2 >>= _) _ _ _
 refine wpAny_bind (wpAny_field he rfl (x:=.ref it) rfl ?_)
 refine wpAny_bind (zacx hit hl hx fun h₁ hit₁ hs₁=>?_)
 replace hs₁:Heap.SameBut it hp h₁:=hs₁
 have he₁:IsEnum h₁ e it i old:=(hs₁.2 e hne).trans he
 show wpAny _ _ (field (.ref e) 3 >>= _) _ _ ⟨h₁,g,d,tk,os⟩
 refine wpAny_bind (wpAny_field he₁ rfl (x:=rawInt i) rfl ?_)
 show wpAny _ _ (field (.ref e) 4 >>= _) _ _ ⟨h₁,g,d,tk,os⟩
 refine wpAny_bind (wpAny_field he₁ rfl (x:=.none) rfl ?_)
 show wpAny _ _ (mkInt i >>= _) _ _ ⟨h₁,g,d,tk,os⟩
 refine wpAny_bind (wpAny_mkInt ?_)
 show wpAny _ _ (setField (.ref e) 3 (rawInt ((i:Int) + 1)) >>= _) _ _ ⟨h₁,g,d,tk + 1,os⟩
 refine wpAny_bind (wpAny_setField_rec he₁ (by simp) fun h₂ he₂ hs₂=>?_)
 replace hs₂:Heap.SameBut e h₁ h₂:=hs₂
 replace he₂:IsEnum h₂ e it ((i:Int) + 1) old:=he₂
 show wpAny _ _ (setField (.ref e) 4 .none >>= _) _ _ ⟨h₂,g,d,tk + 1,os⟩
 refine wpAny_bind (wpAny_setField_rec he₂ (by simp) fun h₃ he₃ hs₃=>?_)
 replace hs₃:Heap.SameBut e h₂ h₃:=hs₃
 replace he₃:IsEnum h₃ e it ((i:Int) + 1) old:=he₃
 show wpAny _ _ (newTuple [.int i tk,x] >>= _) _ _ ⟨h₃,g,d,tk + 1,os⟩
 refine wpAny_bind (wpAny_newTuple ?_)
 have he₄:IsEnum (h₃.push { cls:=.type "tuple",data:=.seq #[.int i tk,x] }) e it ((i:Int) + 1) old:=Heap.get?_push_of_some _ he₃
 generalize hh₄:h₃.push { cls:=.type "tuple",data:=.seq #[.int i tk,x] }=h₄ at he₄
 have hsz:h₃.objs.size=hp.objs.size:=by rw [hs₃.1,hs₂.1,hs₁.1]
 have hel:e < hp.objs.size:=Heap.lt_size he
 have ht₄:h₄.get? hp.objs.size=some { cls:=.type "tuple",data:=.seq #[.int i tk,x] }:=by rw [← hh₄,← hsz]; exact Heap.get?_push_size _ rfl
 have hz₄:h₄.objs.size=hp.objs.size + 1:=by rw [← hh₄,Heap.size_push,hsz]
 have hk₄:∀ b o,b≠e→b≠it→hp.get? b=some o→h₄.get? b=some o:=fun b o hbe hbi hb=>by
  rw [← hh₄]; exact Heap.get?_push_of_some _ (hs₃.extBut b o hbe (hs₂.extBut b o hbe (hs₁.extBut b o hbi hb)))
 have hit₄:SIt k h₄ it l (i + 1):=by
  rw [← hh₄]; exact ((hit₁.ext hs₂.extBut (Ne.symm hne)).ext hs₃.extBut (Ne.symm hne)).at fun o ho=>Heap.get?_push_of_some _ ho
 show wpAny _ _ (Builtin.SmallTypes.ownedTupleIsFree (.ref e) >>= _) _ _ ⟨h₄,g,d,tk + 1,os⟩
 rw [hsz]
 clear hh₄ he₃ hs₃ he₂ hs₂ he₁ hs₁ hit₁ hsz h₃ h₂ h₁
 refine wpAny_bind ?_
 ·unfold Builtin.SmallTypes.ownedTupleIsFree
  refine wpAny_bind (wpAny_field he₄ rfl (x:=.none) rfl (wpAny_pure ?_))
  simp only [if_true]
  refine wpAny_bind (wpAny_rule ?_)
  refine wpAny_bind (wpAny_field he₄ rfl (x:=old) rfl ?_)
  refine wpAny_bind (wpAny_setField_rec he₄ (by simp) fun h₅ he₅ hs₅=>?_)
  replace hs₅:Heap.SameBut e h₄ h₅:=hs₅
  replace he₅:IsEnum h₅ e it ((i:Int) + 1) x:=he₅
  show wpAny _ _ (Builtin.SmallTypes.ownedTupleHandOut (.ref e) (.ref hp.objs.size) >>= _) _ _ ⟨h₅,g,d,tk + 1,os⟩
  refine wpAny_bind ?_
  ·unfold Builtin.SmallTypes.ownedTupleHandOut
   refine wpAny_bind (wpAny_setField_rec he₅ (by simp) fun h₆ he₆ hs₆=>?_)
   replace hs₆:Heap.SameBut e h₅ h₆:=hs₆
   replace he₆:IsEnumOut h₆ e it ((i:Int) + 1) x hp.objs.size:=he₆
   refine wpAny_setField_rec he₆ (by simp) fun h₇ he₇ hs₇=>?_
   replace hs₇:Heap.SameBut e h₆ h₇:=hs₇
   replace he₇:IsEnumOut h₇ e it ((i:Int) + 1) x hp.objs.size:=he₇
   refine wpAny_bind (wpAny_letGo (wpAny_pure ⟨_,rfl,hQ h₇ he₇ ?_ ?_ ?_ ?_⟩))
   ·exact ((hit₄.ext hs₅.extBut (Ne.symm hne)).ext hs₆.extBut (Ne.symm hne)).ext hs₇.extBut (Ne.symm hne)
   ·exact hs₇.extBut _ _ (Nat.ne_of_gt hel) (hs₆.extBut _ _ (Nat.ne_of_gt hel) (hs₅.extBut _ _ (Nat.ne_of_gt hel) ht₄))
   ·rw [hs₇.1,hs₆.1,hs₅.1,hz₄]
   ·exact fun b o hbe hbi hb=>hs₇.extBut b o hbe (hs₆.extBut b o hbe (hs₅.extBut b o hbe (hk₄ b o hbe hbi hb)))
theorem zadr {k:SK}{e it l:Addr}{i:Nat}{items:Array Value}{x old:Value}{Q:Option Value→Shared→Prop}
  (he:IsEnum s.heap e it i old) (hit:SIt k s.heap it l i) (hl:SIs k s.heap l items) (hx:items[i]?=some x) (hne:e≠it)
  (hQ:∀ h',IsEnumOut h' e it ((i:Int) + 1) x s.heap.objs.size→SIt k h' it l (i + 1) →
   h'.get? s.heap.objs.size=some { cls:=.type "tuple",data:=.seq #[.int i s.toks,x] }→h'.objs.size=s.heap.objs.size + 1 →
   (∀ b o,b≠e→b≠it→s.heap.get? b=some o→h'.get? b=some o)→Q (some (.ref s.heap.objs.size)) { s with heap:=h',toks:=s.toks + 1 }) :
  wpAny (model prog w) A (pyNext (.ref e)) Q E s:=by
 have hT:s.TypeIs (.ref e) "enumerate" := ⟨_,he,rfl⟩
 unfold pyNext
 exact wpAny_bind (wpAny_attempt (wpAny_callSpecial?_slot (name:=Str.ofString "__next__") hT F.slot_enumerate_next
  (wpAny_call_entry F.slot_enumerate_next hT F.entry_enumerate_next
   (zahy he hit hl hx hne fun h' a b c d k=>wpAny_pure (hQ h' a b c d k)) (F.args_enumerate_next_1 _))))
theorem zady {k:SK}{e it l:Addr}{i:Nat}{items:Array Value}{old:Value}{Q:Option Value→Shared→Prop} (hh:A.handled=none)
  (he:IsEnum s.heap e it i old) (hit:SIt k s.heap it l i) (hl:SIs k s.heap l items) (hx:items[i]?=none)
  (hQ:∀ h',Heap.ExtBut it s.heap h'→Q none { s with heap:=h' }):wpAny (model prog w) A (pyNext (.ref e)) Q E s:=by
 have hT:s.TypeIs (.ref e) "enumerate" := ⟨_,he,rfl⟩
 unfold pyNext
 refine wpAny_bind (wpAny_attempt (wpAny_callSpecial?_slot (name:=Str.ofString "__next__") hT F.slot_enumerate_next
  (wpAny_call_entry F.slot_enumerate_next hT F.entry_enumerate_next ?_ (F.args_enumerate_next_1 _))))
 show wpAny _ _ (field (.ref e) 2 >>= _) _ _ _
 refine wpAny_bind (wpAny_field he rfl (x:=.ref it) rfl ?_)
 refine wpAny_bind (zadn hh hit hl hx fun h' x he' hx'=>?_)
 obtain ⟨o,ho,hc⟩:=hx'
 refine wpAny_bind (wpAny_isInstance (T := "StopIteration") (b:=true) ⟨o,ho,hc⟩ isSubtype_stop ?_)
 exact wpAny_pure (hQ _ he')
end
def Itn (K:PySem.W.Frag) (k:SK) (a:Addr):It :=
 ⟨fun i H=>∃ xs x,Sq k K H a xs∧xs[i]?=some x,
  fun i H v H'=>∃ T,H T=none∧v=.ref T∧∀ xs,Sq k K H a xs→∃ x,xs[i]?=some x∧H'=upd H T (.tup [.int i,x]),
  fun i H=>∃ xs,Sq k K H a xs∧xs.length≤i⟩
theorem zaiz {P:Program}{w:World}{K:PySem.W.Frag}{elts:List Expr}{kk:Nat}{tpos:Pos}{k:SK}{e it a:Addr} (hne:e≠it) :
  Turn P w K (.Tuple elts kk tpos) (Itn K k a) [e,it] e (fun i h=>(∃ old,IsEnum h e it i old)∧SIt k h it a i) where
 mem:=by simp
 obj:=fun i h st b hb=>by
  obtain ⟨⟨old,he⟩,h1⟩:=st
  simp only [List.mem_cons,List.not_mem_nil,or_false] at hb
  rcases hb with rfl | rfl
  ·exact ⟨_,he,fun v q=>nomatch q⟩
  ·exact h1.obj
 keep:=fun i h h' st k=>by
  obtain ⟨⟨old,he⟩,h1⟩:=st
  exact ⟨⟨old,k _ (by simp) _ he⟩,h1.at fun o e=>k _ (by simp) o e⟩
 item:=by
  intro X hP hw hK hc i pins s σ H E I hf st hg
  subst hP hw hK
  obtain ⟨⟨old,he⟩,h1⟩:=st
  obtain ⟨xs,x,q1,hx⟩:=hg
  obtain ⟨ix,rx,px⟩:=I.sis q1
  obtain ⟨u,hu,ru⟩:=rx.get hx
  refine zadr he h1 px (x:=u) (by simpa using hu) hne fun h' a1 a2 a3 a4 a5=>?_
  refine ⟨_,rfl,wpAny_letOwnedTupleGo_enum (s:={ s with heap:=h',toks:=s.toks + 1 }) a1 fun h'' b1 b2=>?_⟩
  have elt:e < s.heap.objs.size:=Heap.lt_size he
  have ilt:it < s.heap.objs.size:=by obtain ⟨o,ho,_⟩:=h1.obj; exact Heap.lt_size ho
  have k2:∀ c o,c ∉ [e,it]→s.heap.get? c=some o→h''.get? c=some o:=fun c o hc ec=>by
   simp only [List.mem_cons,List.not_mem_nil,or_false,not_or] at hc
   exact b2.extBut _ _ hc.1 (a5 c o hc.1 hc.2 ec)
  have hT2:h''.get? s.heap.objs.size=some { cls:=.type "tuple",data:=.seq #[.int i s.toks,u] }:=b2.extBut _ _ (Nat.ne_of_gt elt) a3
  refine ⟨.ref s.heap.objs.size,upd H s.heap.objs.size (.tup [.int i,x]),I.turnedNew (t':=s.toks + 1) (o:=.tup [.int i,x]) k2 hf (Nat.le_refl _)
   ⟨by show 2≤sizeLine; decide,[.int i s.toks,u],.cons ⟨_,rfl⟩ (.cons ru .nil),⟨_,hT2,rfl,_,rfl⟩⟩,rfl,
   ⟨_,I.hok.fresh (Nat.le_refl _),rfl,fun xs' e1=>?_⟩,⟨⟨u,by simpa using b1⟩,a2.at fun o eo=>b2.extBut _ _ (Ne.symm hne) eo⟩,fun b hb=>?_⟩
  ·rw [I.sq_inj e1 q1]
   exact ⟨x,hx,rfl⟩
  ·have blt:b < s.heap.objs.size:=by
    simp only [List.mem_cons,List.not_mem_nil,or_false] at hb
    rcases hb with rfl | rfl
    ·exact elt
    ·exact ilt
   rw [zabe (Nat.ne_of_lt blt)]
   exact (hf b hb).1
 done:=by
  intro X hP hw hK hc i pins s σ H E I hf st hg
  subst hP hw hK
  obtain ⟨⟨old,he⟩,h1⟩:=st
  obtain ⟨xs,q1,hl⟩:=hg
  obtain ⟨ix,rx,px⟩:=I.sis q1
  have l1:=rx.length
  refine zady (I.ok.hd hc) he h1 px (by simp; omega) fun h' hk=>⟨rfl,I.turnedL (t':=s.toks) (its:=[e,it]) (fun b o hb eb=>?_) hf⟩
  simp only [List.mem_cons,List.not_mem_nil,or_false,not_or] at hb
  exact hk b o hb.2 eb
 self:=fun _ _ _ _ _ st h=>by
  obtain ⟨⟨old,he⟩,_⟩:=st
  exact wpAny_pyIter_enum he h
section
variable {X:Cx}{elts:List Expr}{kk:Nat}{tpos:Pos}
def iEnum (K:PySem.W.Frag) (k:SK) (ta:TA):TI:=fun σ H R=>ta σ H fun vs H1=>∃ a,vs=[.ref a]∧(∃ xs,Sq k K H1 a xs)∧R (Itn K k a) H1
theorem zamb (k:SK) {a:Expr}{ta:TA}{p pos:Pos} (hg:Gl X "enumerate") (hm:X.mg "enumerate" = none) (ha:PA X [a] ta) (hs:starEach [a] X.env=[(false,eval a X.env)]:=by rfl) :
  PI X (.Tuple elts kk tpos) (.Call (.Name "enumerate" p) [a] [] pos) (iEnum X.K k ta):=by
 intro pins s σ H R I h
 refine Call_ (zaeq I hg hm PyProof.Rows.Boot.«enumerate» (PyProof.Rows.callWith_type1 (thn (ha pos pins s σ H _ I h) fun us s1 ⟨vs,H1,I1,r1,q1⟩=>?_) hs rfl))
 obtain ⟨a',e,⟨xs,qx⟩,q⟩:=q1
 subst e
 cases r1 with
 | cons r rr =>
  cases rr
  cases r
  obtain ⟨ix,rx,px⟩:=I1.sis qx
  refine zahx px fun h' b1 b2 b3=>wpAny_pyIter_enum (s:={ s1 with heap:=h' }) b1 ?_
  have nn:∀ b,s1.heap.objs.size≤b→FpOk X pins H1 b:=fun b hb=>I1.fpOk hb (I1.hok.fresh hb)
  refine ⟨_,[s1.heap.objs.size + 1,s1.heap.objs.size],_,_,H1,rfl,I1.kept (t':=s1.toks) b3,zaiz (k:=k) (Nat.ne_of_gt (Nat.lt_succ_self _)),⟨⟨_,b1⟩,b2⟩,fun b hb=>?_,q⟩
  simp only [List.mem_cons,List.not_mem_nil,or_false] at hb
  rcases hb with rfl | rfl
  ·exact nn _ (Nat.le_succ _)
  ·exact nn _ (Nat.le_refl _)
end
theorem zai0 {K:PySem.W.Frag}{k:SK}{a:Addr}{xs:List V}{g:TG}{tb:TS}{D:Ends}{σ:St}{H:Hp} (Pv:Nat→St→Hp→Prop) (h0:Pv 0 σ H)
  (hl:∀ i σ H,i≤xs.length→Pv i σ H→Sq k K H a xs)
  (hs:∀ i x σ H T,xs[i]?=some x→Pv i σ H→H T=none→g (.ref T) σ (upd H T (.tup [.int i,x])) fun σ2 H2=>tb { D with nx:=Pv (i + 1),ct:=Pv (i + 1),bk:=D.nx } σ2 H2)
  (hd:∀ σ H,Pv xs.length σ H→D.nx σ H):Loop (Itn K k a) g tb D σ H:=by
 refine ⟨fun i m σ H=>m=xs.length - i∧i≤xs.length∧Pv i σ H,⟨xs.length,by simp,Nat.zero_le _,h0⟩,?_⟩
 rintro i m σ H ⟨rfl,hi,p⟩
 have q1:=hl i σ H hi p
 by_cases hlt:i < xs.length
 ·refine .inr ⟨⟨xs,xs[i],q1,by simp [hlt]⟩,Pv (i + 1),fun σ' H' p'=>⟨xs.length - (i + 1),by omega,rfl,hlt,p'⟩,fun x H' y=>?_⟩
  obtain ⟨T,hT,rfl,y⟩:=y
  obtain ⟨u,e1,rfl⟩:=y xs q1
  exact hs i u σ H T e1 p hT
 ·have e:i=xs.length:=by omega
  refine .inl ⟨⟨xs,q1,by omega⟩,?_⟩
  subst e
  exact hd σ H p
theorem zafz {K:PySem.W.Frag}{k:SK}{a:Addr} (xs:List V) {g:TG}{tt:TT}{te:TE}{Q:List V→Hp→Prop}{σ:St}{H:Hp} (Pv:Nat→List V→St→Hp→Prop) (hn:xs.length < sizeLine) (h0:Pv 0 [] σ H) (hl:∀ i ys σ H,i≤xs.length→Pv i ys σ H→ys.length≤i∧Sq k K H a xs)
  (turn:∀ i ys σ H x T,xs[i]?=some x→Pv i ys σ H→H T=none→g (.ref T) σ (upd H T (.tup [.int i,x])) fun σ2 H2=>tt σ2 H2 fun b H3=>if b=true then te σ2 H3 fun y H4=>Pv (i + 1) (ys++[y]) σ2 H4 else Pv (i + 1) ys σ2 H3)
  (after:∀ ys σ H,Pv xs.length ys σ H→Q ys H):Comp (Itn K k a) g tt te Q σ H :=
 zagl xs.length Pv h0 (fun i ys σ H hi p=>Nat.lt_of_le_of_lt (Nat.le_trans (hl i ys σ H hi p).1 hi) hn) (fun i ys σ H hi p=>⟨xs,xs[i],(hl i ys σ H (Nat.le_of_lt hi) p).2,List.getElem?_eq_getElem hi⟩)
  (fun ys σ H p=>⟨xs,(hl _ ys σ H (Nat.le_refl _) p).2,Nat.le_refl _⟩) (fun i ys σ H hi p x H' y=>by
   obtain ⟨T,hT,rfl,y⟩:=y
   obtain ⟨u,e1,rfl⟩:=y xs (hl i ys σ _ (Nat.le_of_lt hi) p).2
   exact turn i ys σ _ u T e1 p hT) after
end L2

namespace L2
open PySem PySem.Spec PyProof.Rows
section
variable {X:Cx}
theorem zagm {prog:Program}{w:World}{A:Around}{bs:List Bool}:TruthOf prog w A (fun i v=>(bs.map fun b=>Value.bool b).toArray[i]?=some v) (fun i=>bs.getD i false):=by
 intro i v s Q E hP hQ
 have hP':(bs.map fun b=>Value.bool b)[i]?=some v:=by simpa using hP
 rw [List.getElem?_map] at hP'
 cases e:bs[i]? with
 | none=>rw [e] at hP'; cases hP'
 | some b =>
  rw [e] at hP'
  cases hP'
  have:bs.getD i false=b:=by rw [List.getD_eq_getElem?_getD,e]; rfl
  have hQ:Q (bs.getD i false) s:=hQ
  rw [this] at hQ
  exact wpAny_pure hQ
theorem zai1 (bs:List Bool):((List.range bs.length).all fun i=>bs.getD i false)=bs.all id:=by
 rw [Bool.eq_iff_iff,List.all_eq_true,List.all_eq_true]
 constructor
 ·intro h b hb
  obtain ⟨i,hi,rfl⟩:=List.mem_iff_getElem.mp hb
  have:=h i (List.mem_range.mpr hi)
  rw [List.getD_eq_getElem?_getD,List.getElem?_eq_getElem hi] at this
  exact this
 ·intro h i hi
  have hi:=List.mem_range.mp hi
  rw [List.getD_eq_getElem?_getD,List.getElem?_eq_getElem hi]
  exact h _ (List.getElem_mem hi)
theorem zaev:∀ {bs:List Bool}{its:List Value},Vals (bs.map V.bl) its→its=bs.map fun b=>Value.bool b
 | [],_,.nil=>rfl
 | b :: bs,_,.cons r t=>by rw [List.map_cons,zaev t]; cases r; rfl
theorem zakn (hc:X.calm=true):CallR X (.builtin "all") (fun xs H Q=>∃ (p:Addr) (bs:List Bool),xs=[.ref p]∧H p=some (.lst (bs.map V.bl))∧Q (.bl (bs.all id)) H):=by
 intro pins s σ H xs us Q I r h
 obtain ⟨p,bs,rfl,hp,q⟩:=h
 obtain ⟨u,rfl,ru⟩:=vals1 r
 cases ru
 obtain ⟨z,its,n,rv,e⟩:=I.hok p _ hp
 have ei:=zaev rv
 subst ei
 have hl:s.heap.IsList p (bs.map fun b=>Value.bool b).toArray:=⟨_,e,rfl,n,rfl⟩
 refine call_all_walk (wpAny_pyIter_list hl ?_)
 have hne:p≠s.heap.objs.size:=Nat.ne_of_lt (Heap.lt_size e)
 refine ⟨s.heap.objs.size,_,_,_,_,_,_,rfl,Walks.list (by first | exact I.ok.hd hc | (show X.A.in1.handled=none; exact I.ok.hd hc)) s.heap.objs.size p hne (bs.map fun b=>Value.bool b).toArray,
  ⟨⟨_,Heap.get?_push_size _ rfl,rfl,rfl⟩,⟨_,Heap.get?_push_of_some _ e,rfl,n,rfl⟩⟩,zagm,fun h' tk hk=>?_⟩
 have sz:(bs.map fun b=>Value.bool b).toArray.size=bs.length:=by simp
 rw [sz,zai1]
 exact ⟨.bl (bs.all id),H,I.kept (t':=tk) fun b o eb=>hk b o (by simp; exact Nat.ne_of_lt (Heap.lt_size eb)) (Heap.get?_push_of_some _ eb),rfl,q⟩
end
end L2

namespace L2
open PySem PySem.Spec PyProof.Rows
section
variable {X:Cx}{pins:List (Addr × Obj)}{σ:St}{H:Hp}{s:Shared}{A:Around}{E:Value→Shared→Prop}{Q:Value→Shared→Prop}{b:Bool}
theorem zahz {x:V}{u t:Value}{tp:Addr}{its:List Value}{o:Obj}{n:Nat} (I:Inv X pins σ H s) (rx:RelV x u) (ty:TyOf X.K H x t) (ho:s.heap.get? tp=some o) (hoc:o.cls=.type "tuple") (hod:o.data=.seq its.toArray n)
  (e:PySem.W.kitAny X.K t its=some b) (h:∀ tk,Q (.bool b) { s with toks:=tk }) :
  wpAny (model X.prog X.w) A (call (.builtin "isinstance") [u,.ref tp]) Q E s:=by
 obtain ⟨c0,d0,t0,l0⟩:=o
 replace hoc:c0=.type "tuple" := hoc
 replace hod:t0=.seq its.toArray n:=hod
 subst hoc hod
 cases ty with
 | non=>cases (show u=Value.none from rx); exact PySem.W.kia_tup PySem.W.kitx_none I.kIn True.intro ho e (fun z=>nomatch z) h
 | bl y=>cases (show u=Value.bool y from rx); exact PySem.W.kia_tup PySem.W.kitx_bool I.kIn True.intro ho e (fun z=>nomatch z) h
 | int i=>obtain ⟨t,q⟩:=(show ∃ t,u=Value.int i t from rx); cases q; exact PySem.W.kia_tup PySem.W.kitx_int I.kIn True.intro ho e (fun z=>nomatch z) h
 | str y=>obtain ⟨t,q⟩:=(show ∃ t,u=Value.str y t from rx); cases q; exact PySem.W.kia_tup PySem.W.kitx_str I.kIn True.intro ho e (fun z=>nomatch z) h
 | flt y=>obtain ⟨t,q⟩:=(show ∃ t,u=Value.float y t from rx); cases q; exact PySem.W.kia_tup PySem.W.kitx_float I.kIn True.intro ho e (fun z=>nomatch z) h
 | @lst a xs ea =>
  cases (show u=Value.ref a from rx)
  obtain ⟨_,_,n,_,h1⟩:=(show ObjOk X.prog X.w H s.heap a (.lst xs) from I.hok a _ ea)
  exact PySem.W.kia_tup PySem.W.kitx_list I.kIn ⟨_,h1,rfl⟩ ho e (fun z=>nomatch z) h
 | @frz a ob xs ea =>
  cases (show u=Value.ref a from rx)
  obtain ⟨_,_,_,n,_,h1⟩:=(show ObjOk X.prog X.w H s.heap a (.frz ob (.lst xs)) from I.hok a _ ea)
  exact PySem.W.kia_tup PySem.W.kitx_list I.kIn ⟨_,h1,rfl⟩ ho e (fun z=>nomatch z) h
 | @tup a xs ea =>
  cases (show u=Value.ref a from rx)
  obtain ⟨_,_,_,p⟩:=(show ObjOk X.prog X.w H s.heap a (.tup xs) from I.hok a _ ea)
  obtain ⟨o,h1,h2,_⟩:=p
  exact PySem.W.kia_tup PySem.W.kitx_tuple I.kIn ⟨o,h1,h2⟩ ho e (fun z=>nomatch z) h
 | @dK a kvs ea =>
  cases (show u=Value.ref a from rx)
  obtain ⟨_,_,vs,_,p⟩:=(show ObjOk X.prog X.w H s.heap a (.dK kvs) from I.hok a _ ea)
  obtain ⟨o,es,ep,h1,h2,_⟩:=p
  exact PySem.W.kia_tup PySem.W.kitx_dict I.kIn ⟨o,h1,h2.1⟩ ho e (fun z=>nomatch z) h
 | @dT a kvs ea =>
  cases (show u=Value.ref a from rx)
  obtain ⟨_,_,xs,_,o,es,ep,h1,h2,_⟩:=(show ObjOk X.prog X.w H s.heap a (.dT kvs) from I.hok a _ ea)
  exact PySem.W.kia_tup PySem.W.kitx_dict I.kIn ⟨o,h1,h2.1⟩ ho e (fun z=>nomatch z) h
 | @ins a C dx fs ea cl ha hn htk hm =>
  cases (show u=Value.ref a from rx)
  obtain ⟨mA,O,_⟩:=zae1 I.hok ea
  obtain ⟨od,J,_⟩:=O.look
  exact PySem.W.kia_tup (PySem.W.kitx_own (cl.get _) cl.hd ha hn htk hm) I.kIn J ho e (fun z=>nomatch z) h
end
def rIsTs (K:PySem.W.Frag):List V→Hp→VK→Prop:=fun xs H Q=>∃ (x:V) (p:Addr) (Ts:List String) (t:Value) (b:Bool),xs=[x,.ref p]∧H p=some (.tup (Ts.map V.ty))∧TyOf K H x t∧PySem.W.kitAny K t (Ts.map Value.type)=some b∧Q (.bl b) H
theorem zahc:∀ {Ts:List String}{us:List Value},Vals (Ts.map V.ty) us→us=Ts.map Value.type
 | [],_,.nil=>rfl
 | T :: Ts,_,.cons r t=>by rw [List.map_cons,zahc t]; cases r; rfl
theorem zai2 {X:Cx}:CallR X (.builtin "isinstance") (rIsTs X.K):=by
 intro pins s σ H xs us Q I r h
 obtain ⟨x,p,Ts,t,b,rfl,hp,ty,e,q⟩:=h
 obtain ⟨u,v,rfl,ru,rv⟩:=vals2 r
 cases rv
 obtain ⟨_,its,rt,o,ho,hoc,n,hod⟩:=I.hok p _ hp
 have:=zahc rt
 subst this
 exact zahz I ru ty ho hoc hod e fun tk=>⟨.bl b,H,I.tok _,rfl,q⟩
example (K:PySem.W.Frag):PySem.W.kitAny K (.type "list") [.type "list",.type "tuple"]=some true:=rfl
example (K:PySem.W.Frag):PySem.W.kitAny K (.type "tuple") [.type "list",.type "tuple"]=some true:=rfl
example (K:PySem.W.Frag):PySem.W.kitAny K (.type "int") [.type "list",.type "tuple"]=some false:=rfl
end L2

namespace L2
open PySem PySem.Spec PyProof.Rows
structure MakeOk (P:Program) (w:World) (K:PySem.W.Frag) (mg:Str→Option Value) (base:Heap) (CX:CXT) (k:Nat) (C:Addr) (x:Str) (ps:List Str) (sp:Sp):Prop where
 ex:∃ (f:Addr) (fd:FuncData),FnOk P w K mg base CX k f fd ps sp∧Binds K fd ps []∧Mk K C f∧mg x=some (.ref C)
section
variable {X:Cx}{CX:CXT}{k:Nat}{C:Addr}{ps:List Str}{sp:Sp}{E:XK}{x m:Str}{p pos apos:Pos}{e o:Expr}{es:List Expr}{ta:TE}{t:TA}
theorem zacv (D:MakeOk X.prog X.w X.K X.mg X.base CX k C x ps sp) (hr:Room (k + 1) X.A) (hg:Gl X x) (hx:Passes CX X E)
  (ha:Pr (PA X (e :: es) t)) (hdb:(x == ("__debug__" : Str))=false:=by decide) (he:starEach (e :: es) X.env=(false,eval e X.env) :: starEach es X.env:=by rfl) (hpl:(backTo pos (starEach es X.env)).any (·.1)=false:=by rfl) :
  Pr (PE X (.Call (.Name x p) (e :: es) [] pos) (tMake C sp [] E t)):=by
 obtain ⟨f,fd,F,b,M,hm⟩:=D.ex
 exact ⟨zalu M F hr hg hm b .nil hx ha.h hdb he hpl⟩
end
section
variable {X:Cx}{sc:Scope}{own:List Str}{fr:List Nat}{N':List Str}{tg elt iter:Expr}{ifs:List Expr}{g:TG}{tt:TT}{te:TE}{wi:TI}{pos:Pos}
theorem zac8:Pr (PIf X [] tYes):=⟨zal7⟩
theorem zako {c:Expr}{t:TT} (h:Pr (PT X c t)):Pr (PIf X [c] t):=⟨zal8 h.h⟩
theorem zad6 (hc:X.calm=true) (cs:CompOk sc X.env.scope own X.N fr N') (hi:Pr (PI X tg iter wi)) (hg:∀ cl C s H fp,Pr (PG (cxC X sc cl N' C s H fp) tg g)) (hif:∀ cl C s H fp,Pr (PIf (cxC X sc cl N' C s H fp) ifs tt))
  (he:∀ cl C s H fp,Pr (PE (cxC X sc cl N' C s H fp) elt te)) (hs:∀ x,foldedSetIterable iter X.env x=pure x:=by intro _; rfl):Pr (PE X (.ListComp elt [⟨tg,iter,ifs,0⟩] sc pos) (tComp own.length fr wi g tt te)) :=
 ⟨zal9 hc cs hi.h (fun a b c d e=>(hg a b c d e).h) (fun a b c d e=>(hif a b c d e).h) (fun a b c d e=>(he a b c d e).h) hs⟩
theorem zae8 {i:Nat}{y:Str}{py spos:Pos} (hN:X.N.Nodup) (hy:X.N[i]?=some y) (hx:Loc X.env.scope y) (hc:X.calm=true) (cs:CompOk sc X.env.scope own X.N fr N') (hi:Pr (PI X tg iter wi))
  (hg:∀ cl C s H fp,Pr (PG (cxC X sc cl N' C s H fp) tg g)) (hif:∀ cl C s H fp,Pr (PIf (cxC X sc cl N' C s H fp) ifs tt)) (he:∀ cl C s H fp,Pr (PE (cxC X sc cl N' C s H fp) elt te))
  (hsw:swapsWith (.ListComp elt [⟨tg,iter,ifs,0⟩] sc pos) (some (.Name y py)) spos.line X.env=pure true) (hfn:X.fn y=true∨X.env.scope.names.lookup y=some .local:=by first | exact .inl rfl | exact .inr rfl | assumption) (hs:∀ x,foldedSetIterable iter X.env x=pure x:=by intro _; rfl) :
  Pr (PS X (.Assign [.Name y py] (.ListComp elt [⟨tg,iter,ifs,0⟩] sc pos) spos) (tSetC i own.length fr wi g tt te)) :=
 ⟨zama hN hy hx hc cs hi.h (fun a b c d e=>(hg a b c d e).h) (fun a b c d e=>(hif a b c d e).h) (fun a b c d e=>(he a b c d e).h) hsw hfn hs⟩
theorem zae9 (k:SK) {elts:List Expr}{kk:Nat}{tpos:Pos}{a:Expr}{ta:TA}{p pos:Pos} (hg:Gl X "enumerate") (hm:X.mg "enumerate" = none) (ha:Pr (PA X [a] ta)) (hs:starEach [a] X.env=[(false,eval a X.env)]:=by rfl) :
  Pr (PI X (.Tuple elts kk tpos) (.Call (.Name "enumerate" p) [a] [] pos) (iEnum X.K k ta)):=⟨zamb k hg hm ha.h hs⟩
theorem zad7:Pr (PPs X pos [] [] []):=⟨zal1⟩
theorem zaca {k v:Expr}{ks:List (Option Expr)}{vs:List Expr}{tk tv:TE}{trs:List (TE × TE)} (hk:Pr (PE X k tk)) (hv:Pr (PE X v tv)) (hr:Pr (PPs X pos ks vs trs)):Pr (PPs X pos (some k :: ks) (v :: vs) ((tk,tv) :: trs)):=⟨zakf hk.h hv.h hr.h⟩
theorem zad8 {keys:List (Option Expr)}{values:List Expr}{trs:List (TE × TE)} (h:Pr (PPs X pos keys values trs)) (hall:keys.all (·.isSome)=true) (hl:keys.length=values.length) (h0:keys≠[])
  (h15:keys.length≤15):Pr (PE X (.Dict keys values pos) (tDisp trs)):=⟨zal2 h.h hall hl h0 h15⟩
theorem zai3 {o e f:Expr}{td ty tx:TE}{apos cpos:Pos} (hu:X.A.units + 1 < cLine) (ho:Pr (PE X o td)) (he:Pr (PE X e ty)) (hf:Pr (PE X f tx)) (m:M2 X o "get" apos e f cpos):Pr (PE X (.Call (.Attribute o "get" apos) [e,f] [] cpos) (tDGet2 td ty tx)):=⟨zakg hu ho.h he.h hf.h m⟩
theorem zaf0 {st:Stmt}:Pr (PS X st tNever):=⟨zaj1⟩
theorem compOk {sc outer:Scope}{own N:List Str}{fr:List Nat}{N':List Str} (h1:sc.kind=.function) (h2:∀ y∈sc.names,y.2≠.cell) (h3:∀ y∈sc.names,y.2=.local→sc.names.lookup y.1=some .local)
  (h4:∀ y∈sc.names,y.2=.free→outer.names.lookup y.1=some .cell∨outer.names.lookup y.1=some .free) (h5:N'.Nodup) (h6:N'.map some=own.map some++fr.map fun j=>N[j]?)
  (h7:∀ x∈fr.filterMap (fun j=>N[j]?),sc.names.lookup x=some .free∧(outer.names.lookup x=some .cell∨outer.names.lookup x=some .free)):CompOk sc outer own N fr N' :=
 ⟨h1,h2,h3,h4,h5,h6,fun j hj x hx=>h7 x (List.mem_filterMap.mpr ⟨j,hj,hx⟩)⟩
end
def rIsT2 (K:PySem.W.Frag):List V→Hp→VK→Prop:=fun xs H Q=>∃ (x:V) (p:Addr) (T1 T2:String) (t:Value) (b:Bool),xs=[x,.ref p]∧H p=some (.tup [.ty T1,.ty T2])∧TyOf K H x t∧PySem.W.kitAny K t [.type T1,.type T2]=some b∧Q (.bl b) H
theorem zai4 {X:Cx}:CallR X (.builtin "isinstance") (rIsT2 X.K):=fun pins s σ H xs us Q I r h=>by
 obtain ⟨x,p,T1,T2,t,b,e,hp,ty,k,q⟩:=h
 exact zai2 pins s σ H xs us Q I r ⟨x,p,[T1,T2],t,b,e,hp,ty,k,q⟩
theorem iteD {c:Prop} [Decidable c] {A B:Prop} (hc:c) (h:A):if decide c=true then A else B:=by rw [if_pos (decide_eq_true hc)]; exact h
theorem iteNn {c:Prop} [Decidable c] {A B:Prop} (hc:c) (h:B):if (!decide c)=true then A else B:=by rw [if_neg (by simp [hc])]; exact h
def Tu (H H':Hp):Prop:=∀ b xs,H b=some (.tup xs)→H' b=some (.tup xs)
theorem Tu.same {H H':Hp} (c:Ch [] H H'):Tu H H':=fun b xs h=>c b _ h (by simp)
theorem Tu.ch {H H':Hp}{b:Addr}{o:HO} (c:Ch [b] H H') (hb:H b=some o) (ho:∀ xs,o≠.tup xs):Tu H H':=fun d xs h=>c d _ h (by
 intro z
 have e:d=b:=by simpa using z
 subst e
 rw [hb] at h
 exact ho xs (Option.some.inj h))
theorem Tu.lst {H H':Hp}{b:Addr}{ys:List V} (c:Ch [b] H H') (hb:H b=some (.lst ys)):Tu H H':=Tu.ch c hb (fun xs z=>by cases z)
end L2

namespace L2
open PySem PySem.Spec PyProof.Rows
section
variable {X:Cx}{a b o e value:Expr}{es:List Expr}{f:Str}{ta tb te:TE}{pos:Pos}{tg l:Expr}
theorem zai5 (K:PySem.W.Frag) (hK:X.K=K):IxR X (aIxL K):=hK ▸ zaal
theorem zahd (K:PySem.W.Frag) (hK:X.K=K):IxR X (aIxT K):=hK ▸ zabx
theorem zai6 (K:PySem.W.Frag) (hK:X.K=K) {tl:TE} (hl:Pr (PE X l tl)):Pr (PI X tg l (iList K tl)):=hK ▸ ⟨zah5 hl.h⟩
theorem zakp (K:PySem.W.Frag) (hK:X.K=K) {tl:TE} (hl:Pr (PE X l tl)):Pr (PI X tg l (iTup K tl)):=hK ▸ ⟨zak1 hl.h⟩
theorem zahe (K:PySem.W.Frag) (n:Nat) (hK:X.K=K) {k:Nat}{t:TGs} (hc:X.calm=true) (h:Pr (PGs X es t)) (hn:(assignEach es X.env).length=n:=by rfl) (hst:(assignEach es X.env).findIdx? (·.1)=none:=by rfl) :
  Pr (PG X (.Tuple es k pos) (gTup K n t)):=hK ▸ ⟨zak0 hc h.h hn hst⟩
end
end L2

namespace L2
open PySem PySem.Spec PyProof.Rows PySem.SeqAt
def Sca (x:V):Prop:=(∃ i,x=.int i)∨∃ t,x=.str t
structure ScaL (xs:List V):Prop where
 h:∀ z∈xs,Sca z
theorem zai7 {α:Type} [BEq α] [LawfulBEq α] [DecidableEq α] (a b:α):(a == b)=decide (a=b):=by
 by_cases h:a=b
 ·subst h; simp
 ·rw [decide_eq_false h]; exact beq_eq_false_iff_ne.mpr h
theorem zan5 {A:Around}{s:Shared}{x y:V}{u v:Value} (hx:Sca x) (hy:Sca y) (ru:RelV x u) (rv:RelV y v):EqAt A s u v (decide (x=y)):=by
 rcases hx with ⟨i,rfl⟩ | ⟨i,rfl⟩ <;> rcases hy with ⟨j,rfl⟩ | ⟨j,rfl⟩ <;> obtain ⟨t,rfl⟩:=ru <;> obtain ⟨t',rfl⟩:=rv
 ·have:=EqAt.int_int (A:=A) (s:=s) i t j t'
  rw [zai7] at this
  rwa [show decide (V.int i=V.int j)=decide (i=j) from by by_cases h:i=j <;> simp [h]]
 ·rw [show decide (V.int i=V.str j)=false from by simp]
  exact EqAt.int_str i t j t'
 ·rw [show decide (V.str i=V.int j)=false from by simp]
  exact EqAt.str_int i t j t'
 ·have:=EqAt.str_str (A:=A) (s:=s) i t j t'
  rw [show decide (V.str i=V.str j)=(i == j) from by
   by_cases h:i=j
   ·subst h; simp
   ·rw [decide_eq_false (fun z=>h (V.str.inj z))]; exact (beq_eq_false_iff_ne.mpr h).symm]
  exact this
theorem zahf {xs ys:List V}:((List.range (min xs.length ys.length)).all (fun j=>decide (xs[j]?=ys[j]?)) && xs.length == ys.length)=decide (xs=ys):=by
 by_cases h:xs=ys
 ·subst h
  simp
 ·rw [decide_eq_false h]
  by_cases hl:xs.length=ys.length
  ·rw [Bool.and_eq_false_iff]
   refine .inl ?_
   rw [List.all_eq_false]
   refine Classical.byContradiction fun z=>h (List.ext_getElem? fun j=>?_)
   by_cases hj:j < xs.length
   ·refine Classical.byContradiction fun y=>z ⟨j,List.mem_range.mpr (by omega),by simpa using y⟩
   ·rw [List.getElem?_eq_none (by omega),List.getElem?_eq_none (by omega)]
  ·rw [Bool.and_eq_false_iff]
   exact .inr (beq_eq_false_iff_ne.mpr hl)
theorem zad9 {A:Around}{s:Shared}{xs ys:List V}{us vs:List Value} (hx:ScaL xs) (hy:ScaL ys) (ru:Vals xs us) (rv:Vals ys vs) (j:Nat) (h1:j < us.toArray.size) (h2:j < vs.toArray.size) :
  EqAt A s us.toArray[j] vs.toArray[j] (decide (xs[j]?=ys[j]?)):=by
 have l1:=ru.length
 have l2:=rv.length
 have h1':j < us.length:=by simpa using h1
 have h2':j < vs.length:=by simpa using h2
 have gx:xs[j]?=some (xs[j]'(by omega)):=List.getElem?_eq_getElem (by omega)
 have gy:ys[j]?=some (ys[j]'(by omega)):=List.getElem?_eq_getElem (by omega)
 obtain ⟨w1,hw1,r1⟩:=ru.get gx
 obtain ⟨w2,hw2,r2⟩:=rv.get gy
 have k1:us.toArray[j]=w1:=by
  have:=List.getElem?_eq_getElem h1'
  rw [hw1] at this
  simpa using (Option.some.inj this).symm
 have k2:vs.toArray[j]=w2:=by
  have:=List.getElem?_eq_getElem h2'
  rw [hw2] at this
  simpa using (Option.some.inj this).symm
 rw [k1,k2,gx,gy]
 have e:decide (some (xs[j]'(by omega))=some (ys[j]'(by omega)))=decide (xs[j]'(by omega)=ys[j]'(by omega)):=by
  by_cases h:(xs[j]'(by omega))=(ys[j]'(by omega)) <;> simp [h]
 rw [e]
 exact zan5 (hx.h _ (List.getElem_mem _)) (hy.h _ (List.getElem_mem _)) r1 r2
section
variable {X:Cx}
def rEqT:R2:=fun x y H Q=>∃ (a b:Addr) (xs ys:List V),x=.ref a∧y=.ref b∧H a=some (.tup xs)∧H b=some (.tup ys)∧ScaL xs∧ScaL ys∧Q (.bl (decide (xs=ys))) H
def rNeT:R2:=fun x y H Q=>∃ (a b:Addr) (xs ys:List V),x=.ref a∧y=.ref b∧H a=some (.tup xs)∧H b=some (.tup ys)∧ScaL xs∧ScaL ys∧Q (.bl (!decide (xs=ys))) H
theorem zacq (hu:X.A.units + 64 < cLine):OpR X (compareOp .Eq) rEqT:=by
 intro pins s σ H x y v u Q I rx ry h
 obtain ⟨a,b,xs,ys,rfl,rfl,ha,hb,hx,hy,q⟩:=h
 cases rx
 cases ry
 obtain ⟨z,its,rv,t1⟩:=I.hok a _ ha
 obtain ⟨z2,its2,rv2,t2⟩:=I.hok b _ hb
 have key:=RcAt.tuples (A:=X.A) (s:=s) t1 t2 (by omega) (zad9 hx hy rv rv2)
 have e:((List.range (min its.toArray.size its2.toArray.size)).all (fun j=>decide (xs[j]?=ys[j]?)) && its.toArray.size == its2.toArray.size)=decide (xs=ys):=by
  rw [← zahf,List.size_toArray,List.size_toArray,← rv.length,← rv2.length]
 rw [e] at key
 exact key X.prog X.w X.xe _ ⟨.bl _,H,I,rfl,q⟩
theorem zan6 (hu:X.A.units + 64 < cLine):OpR X (compareOp .NotEq) rNeT:=by
 intro pins s σ H x y v u Q I rx ry h
 obtain ⟨a,b,xs,ys,rfl,rfl,ha,hb,hx,hy,q⟩:=h
 cases rx
 cases ry
 obtain ⟨z,its,rv,t1⟩:=I.hok a _ ha
 obtain ⟨z2,its2,rv2,t2⟩:=I.hok b _ hb
 have key:=RcNeAt.tuples (A:=X.A) (s:=s) t1 t2 (by omega) (zad9 hx hy rv rv2)
 have e:((List.range (min its.toArray.size its2.toArray.size)).all (fun j=>decide (xs[j]?=ys[j]?)) && its.toArray.size == its2.toArray.size)=decide (xs=ys):=by
  rw [← zahf,List.size_toArray,List.size_toArray,← rv.length,← rv2.length]
 rw [e] at key
 exact key X.prog X.w X.xe _ ⟨.bl _,H,I,rfl,q⟩
def rEqS:R2:=fun x y H Q=>∃ (a b:Addr) (xs ys:List V),x=.ref a∧y=.ref b∧H a=some (.lst xs)∧H b=some (.lst ys)∧ScaL xs∧ScaL ys∧Q (.bl (decide (xs=ys))) H
def rNeS:R2:=fun x y H Q=>∃ (a b:Addr) (xs ys:List V),x=.ref a∧y=.ref b∧H a=some (.lst xs)∧H b=some (.lst ys)∧ScaL xs∧ScaL ys∧Q (.bl (!decide (xs=ys))) H
theorem zahg (hu:X.A.units + 64 < cLine):OpR X (compareOp .Eq) rEqS:=by
 intro pins s σ H x y v u Q I rx ry h
 obtain ⟨a,b,xs,ys,rfl,rfl,ha,hb,hx,hy,q⟩:=h
 cases rx
 cases ry
 obtain ⟨z,its,n,rv,e⟩:=I.hok a _ ha
 obtain ⟨z2,its2,n2,rv2,e2⟩:=I.hok b _ hb
 have i1:s.heap.IsList a its.toArray:=⟨_,e,rfl,n,rfl⟩
 have i2:s.heap.IsList b its2.toArray:=⟨_,e2,rfl,n2,rfl⟩
 by_cases hl:xs.length=ys.length
 ·have key:=RcAt.lists (A:=X.A) (s:=s) i1 i2 (by simp [← rv.length,← rv2.length,hl]) (by omega) (zad9 hx hy rv rv2)
  have ea:((List.range its.toArray.size).all (fun j=>decide (xs[j]?=ys[j]?)))=decide (xs=ys):=by
   rw [← zahf,List.size_toArray,← rv.length,← hl,Nat.min_self]; simp
  rw [ea] at key
  exact key X.prog X.w X.xe _ ⟨.bl _,H,I,rfl,q⟩
 ·have key:=RcAt.lists_lengths (A:=X.A) (s:=s) i1 i2 (by simp [← rv.length,← rv2.length,hl]) (by omega)
  have ea:decide (xs=ys)=false:=decide_eq_false fun z=>hl (by rw [z])
  rw [ea] at q
  exact key X.prog X.w X.xe _ ⟨.bl _,H,I,rfl,q⟩
theorem zak8 (hu:X.A.units + 64 < cLine):OpR X (compareOp .NotEq) rNeS:=by
 intro pins s σ H x y v u Q I rx ry h
 obtain ⟨a,b,xs,ys,rfl,rfl,ha,hb,hx,hy,q⟩:=h
 cases rx
 cases ry
 obtain ⟨z,its,n,rv,e⟩:=I.hok a _ ha
 obtain ⟨z2,its2,n2,rv2,e2⟩:=I.hok b _ hb
 have i1:s.heap.IsList a its.toArray:=⟨_,e,rfl,n,rfl⟩
 have i2:s.heap.IsList b its2.toArray:=⟨_,e2,rfl,n2,rfl⟩
 by_cases hl:xs.length=ys.length
 ·have key:=RcNeAt.lists (A:=X.A) (s:=s) i1 i2 (by simp [← rv.length,← rv2.length,hl]) (by omega) (zad9 hx hy rv rv2)
  have ea:((List.range its.toArray.size).all (fun j=>decide (xs[j]?=ys[j]?)))=decide (xs=ys):=by
   rw [← zahf,List.size_toArray,← rv.length,← hl,Nat.min_self]; simp
  rw [ea] at key
  exact key X.prog X.w X.xe _ ⟨.bl _,H,I,rfl,q⟩
 ·have key:=RcNeAt.lists_lengths (A:=X.A) (s:=s) i1 i2 (by simp [← rv.length,← rv2.length,hl]) (by omega)
  have ea:decide (xs=ys)=false:=decide_eq_false fun z=>hl (by rw [z])
  rw [ea] at q
  exact key X.prog X.w X.xe _ ⟨.bl _,H,I,rfl,q⟩
def rInN:R2:=fun x y H Q=>∃ (b:Addr) (ys:List V),x=.non∧y=.ref b∧H b=some (.lst ys)∧(∀ z∈ys,∃ p,z=.ref p∧((∃ zs,H p=some (.lst zs))∨∃ zs,H p=some (.tup zs)))∧Q (.bl false) H
theorem zan7 (hu:X.A.units + 64 < cLine):OpR X (compareOp .In) rInN:=by
 intro pins s σ H x y v u Q I rx ry h
 obtain ⟨b,ys,rfl,rfl,hb,hz,q⟩:=h
 cases rx
 cases ry
 obtain ⟨z,its,n,rv,e⟩:=I.hok b _ hb
 have i1:s.heap.IsList b its.toArray:=⟨_,e,rfl,n,rfl⟩
 refine in_listAt (fun _=>false) i1 (fun y hy=>?_) ⟨.bl false,H,I,by simp [RelV],q⟩
 obtain ⟨j,hj⟩:=List.getElem?_of_mem (by simpa using hy:y∈its)
 have hjl:=(List.getElem?_eq_some_iff.mp hj).1
 have gx:ys[j]?=some (ys[j]'(by have:=rv.length; omega)):=List.getElem?_eq_getElem (by have:=rv.length; omega)
 obtain ⟨w1,hw1,r1⟩:=rv.get gx
 rw [hj] at hw1
 cases hw1
 obtain ⟨p,ep,hp⟩:=hz _ (List.getElem_mem _)
 rw [ep] at r1
 cases r1
 rcases hp with ⟨zs,hp⟩ | ⟨zs,hp⟩
 ·obtain ⟨_,as,m,ra,ea⟩:=I.hok p _ hp
  exact EqAt.list_none ⟨_,ea,rfl,m,rfl⟩ (by show X.A.units + 1 < cLine; omega)
 ·obtain ⟨_,as,ra,ta⟩:=I.hok p _ hp
  exact EqAt.tuple_none ta (by show X.A.units + 1 < cLine; omega)
end
end L2


namespace L2
open PySem PySem.W PyProof.Rows PySem.SeqAt
theorem zan8 (k:Key):Sca (kV k):=by
 cases k with
 | inl i=>exact .inl ⟨i,rfl⟩
 | inr x=>exact .inr ⟨x,rfl⟩
end L2

namespace L2
open PySem PySem.W PyProof.Rows
section
variable {X:Cx}{o e f:Expr}{apos cpos:Pos}{td ty tx:TE}
theorem zac4 {i:Expr}{pos:Pos} (hu:X.A.units + 1 < cLine) (ho:Pr (PE X o td)) (hi:Pr (PE X i ty)) (hs:NoSl i):Pr (PE X (.Subscript o i pos) (tDGet td ty)):=⟨zalz hu ho.h hi.h hs⟩
theorem zaby {i value:Expr}{tv:TE}{pos pos':Pos} (hu:X.A.units + 1 < cLine) (ho:Pr (PE X o td)) (hi:Pr (PE X i ty)) (hv:Pr (PE X value tv)) (hs:swapsWith value (some (.Subscript o i pos')) pos.line X.env=pure false) :
  Pr (PS X (.Assign [.Subscript o i pos'] value pos) (sDPut td ty tv)):=⟨zal0 hu ho.h hi.h hv.h hs⟩
end
end L2

namespace L2
open PySem PySem.W PyProof.Rows
def sqO (k:SK) (xs:List V):HO:=match k with
 | .list=>.lst xs
 | .tuple=>.tup xs
def ItK (K:PySem.W.Frag) (k:SK) (a:Addr):It:=match k with
 | .list=>Itl K a
 | .tuple=>Itt K a
def iSq (K:PySem.W.Frag) (k:SK) (tl:TE):TI:=fun σ H R=>tl σ H fun x H1=>∃ a,x=.ref a∧(∃ xs,Sq k K H1 a xs)∧R (ItK K k a) H1
section
variable {X:Cx}{tg l:Expr}
theorem zai8 (K:PySem.W.Frag) (hK:X.K=K) (k:SK) {tl:TE} (hl:Pr (PE X l tl)):Pr (PI X tg l (iSq K k tl)):=by
 cases k with
 | list=>exact zai6 K hK hl
 | tuple=>exact zakp K hK hl
end
end L2

namespace L2
open PySem PySem.Spec PyProof.Rows PySem.SeqAt
section
variable {X:Cx}
theorem zafa {i o:Expr}{ty td:TE}{pos:Pos} (hu:X.A.units + 1 < cLine) (hi:Pr (PE X i ty)) (ho:Pr (PE X o td)) (h1:behindInMarks .In o=false:=by rfl):Pr (PE X (.Compare i [.In] [o] pos) (tDIn ty td)):=⟨zam7 (zany hu hi.h ho.h) h1⟩
end
theorem zah0 {H:Hp}{a:Addr}{kvs:List (Key × V)}{x:Str}{v:V} (e:H a=some (.dK kvs)) (h:valV kvs (.inr x)=some v):DGet H a (.str x) (some v):=h ▸ DGet.k (k:=.inr x) e
end L2

namespace L2
open PySem
structure AF (sc:Scope) (N:List Str):Prop where
 h:∀ x∈N,(sc.names.lookup x=some .local∨sc.names.lookup x=some .cell)∧(x == ("__debug__" : Str))=false∧(x == ("__classdict__" : Str))=false
structure AV (sc:Scope) (N:List Str):Prop where
 h:∀ x∈N,(sc.names.lookup x=some .local∨sc.names.lookup x=some .cell∨sc.names.lookup x=some .free)∧(x == ("__debug__" : Str))=false∧(x == ("__classdict__" : Str))=false
structure AK (sc:Scope) (N:List Str):Prop where
 h:∀ x∈N,sc.names.lookup x=some .local
structure AG (sc:Scope) (N:List Str):Prop where
 h:∀ x∈N,sc.names.lookup x=some .globalImplicit
theorem AF.l {sc:Scope}{N:List Str} (A:AF sc N) (i:Nat) {x:Str} (e:N[i]?=some x):sc.names.lookup x=some .local∨sc.names.lookup x=some .cell:=(A.h x (List.mem_of_getElem? e)).1
theorem AK.k {sc:Scope}{N:List Str} (A:AK sc N) (i:Nat) {x:Str} (e:N[i]?=some x):sc.names.lookup x=some .local:=A.h x (List.mem_of_getElem? e)
theorem AG.g {sc:Scope}{N:List Str} (A:AG sc N) (i:Nat) {x:Str} (e:N[i]?=some x):sc.names.lookup x=some .globalImplicit:=A.h x (List.mem_of_getElem? e)
theorem qv {X:Cx}{x:Str}{pos:Pos} (A:AF X.env.scope X.N) (i:Nat) (e:X.N[i]?=some x):Pr (PE X (.Name x pos) (tVar i)) :=
 have a:=A.h x (List.mem_of_getElem? e)
 zait e (a.1.elim .inl fun h=>.inr (.inl h)) a.2.1 a.2.2
theorem qw {X:Cx}{x:Str}{pos:Pos} (A:AV X.env.scope X.N) (i:Nat) (e:X.N[i]?=some x):Pr (PE X (.Name x pos) (tVar i)) :=
 have a:=A.h x (List.mem_of_getElem? e)
 zait e a.1 a.2.1 a.2.2
end L2

namespace L2
open PySem PySem.W PyProof.Rows PySem.Calls
structure TabOk (P:Program) (w:World) (K:PySem.W.Frag) (mg:Str→Option Value) (base:Heap) (CX:CXT) (k:Nat) (ps:List Str) (sp:Addr→Sp) (A:Addr→Prop):Prop where
 at_:∀ f,A f→∃ fd:FuncData,FnOk P w K mg base CX k f fd ps (sp f)∧Binds K fd ps []∧PySem.W.keepIn K (.ref f)=true
def tCallV (sp:Addr→Sp) (A:Addr→Prop) (E:XK) (tf:TE) (t:TA):TE:=fun σ H Q=>tf σ H fun x H1=>∃ f,x=.ref f∧A f∧t σ H1 fun vs H2=>sp f vs H2 Q E
section
variable {X:Cx}
theorem zai9 {CX:CXT}{k:Nat}{ps:List Str}{sp:Addr→Sp}{A:Addr→Prop}{E:XK}{o i e:Expr}{es:List Expr}{p pos:Pos}{tf:TE}{t:TA} (T:TabOk X.prog X.w X.K X.mg X.base CX k ps sp A) (hr:Room k X.A) (hx:Passes CX X E) (hf:Pr (PE X (.Subscript o i p) tf)) (ha:Pr (PA X (e :: es) t))
  (ht:eval (.Call (.Subscript o i p) (e :: es) [] pos) X.env=(eval (.Subscript o i p) X.env >>= fun f=>callWith pos f [] (backTo pos (starEach (e :: es) X.env)) (backToKw pos (keywordEach [] X.env))):=by rfl)
  (he:starEach (e :: es) X.env=(false,eval e X.env) :: starEach es X.env:=by rfl) (hpl:(backTo pos (starEach es X.env)).any (·.1)=false:=by rfl) :
  Pr (PE X (.Call (.Subscript o i p) (e :: es) [] pos) (tCallV sp A E tf t)):=by
 refine ⟨fun pins s σ H Q I h=>?_⟩
 rw [ht]
 refine wpAny_bind (thn (hf.h pins s σ H _ I h) fun u s1 ⟨x,H1,I1,rx,f,ex,af,q⟩=>?_)
 subst ex
 obtain rfl:u=Value.ref f:=rx
 obtain ⟨fd,F,b,kp⟩:=T.at_ f af
 refine PySem.W.callWith_K (h₀:=X.base) I.ok.mod.kin kp (thn (ha.h pos pins s1 σ H1 _ I1 q) fun us s2 ⟨vs,H2,I2,r,q2⟩=>⟨I2.kIn,?_⟩) he hpl
 exact zak4 F hr b .nil hx I2 r (by rw [List.append_nil]; exact q2)
theorem dputS {H:Hp}{a:Addr}{kvs:List (Key × V)}{x:Str}{v:V} (e:H a=some (.dK kvs)) (hl:kvs.length < sizeLine):DPut H a (.str x) v (upd H a (.dK (putK kvs (.inr x) v))):=DPut.k (k:=.inr x) e hl
end
end L2

namespace L2
open PySem PySem.Spec PyProof.Rows
def aIxQ (K:PySem.W.Frag):R2:=fun x y H Q=>∃ p xs i,x=.ref p∧y=.int i∧(SqL K H p xs∨SqT K H p xs)∧Atx xs i fun v=>Q v H
theorem zacb {X:Cx} (K:PySem.W.Frag) (hK:X.K=K):IxR X (aIxQ K):=by
 subst hK
 intro value slice pins s σ H x y u w Q I rx ry h
 obtain ⟨p,xs,i,e1,e2,hs,a⟩:=h
 rcases hs with hs | hs
 ·exact zaal value slice pins s σ H x y u w Q I rx ry ⟨p,xs,i,e1,e2,hs,a⟩
 ·exact zabx value slice pins s σ H x y u w Q I rx ry ⟨p,xs,i,e1,e2,hs,a⟩
end L2

namespace L2
open PySem PySem.W PyProof.Rows
section
variable {pg:Program}{wo:World}{Ar:Around}{Ex:Value→Shared→Prop}
theorem zaf1 {j l:Addr}{vs:Array Value} (ne:l≠j):∀ (m k:Nat) (s:Shared) (Z:List Value→Shared→Prop),s.heap.IsListIter j l k→s.heap.IsList l vs→k + m≤vs.size →
  (∀ g,g.IsListIter j l (k + m)→Heap.SameBut j s.heap g→Z ((vs.toList.drop k).take m) { s with heap:=g })→wpAny (model pg wo) Ar (draw (.ref j) m) Z Ex s
 | 0,k,s,Z,ij,_,_,z=>wpAny_pure (by simpa using z s.heap ij (Heap.SameBut.refl ..))
 | m + 1,k,s,Z,ij,il,le,z=>by
  have lt:k < vs.size:=by omega
  refine wpAny_bind (wpAny_pyNext_list_item ij il (x:=vs[k]) (by simp [lt]) fun g1 i1 s1=>?_)
  refine wpAny_bind (wpAny_holding (zaf1 ne m (k + 1) _ _ i1 (il.extBut s1.extBut ne) (by omega) fun g2 i2 s2=>wpAny_pure ?_))
  have e:vs.toList.drop k=vs[k] :: vs.toList.drop (k + 1):=by simp [List.drop_eq_getElem_cons,lt]
  have r:=z g2 (by rw [← Nat.add_assoc,Nat.add_right_comm] ; exact i2) (s1.trans s2)
  rw [e] at r
  exact r
theorem zagn {s:Shared}{l:Addr}{vs:Array Value}{Z:List Value→Shared→Prop} (nh:Ar.handled=none) (il:s.heap.IsList l vs) (z:∀ g,Heap.ExtBut s.heap.objs.size s.heap g→Z vs.toList { s with heap:=g }) :
  wpAny (model pg wo) Ar (unpackItems (.ref l) vs.size none) Z Ex s:=by
 have ne:l≠s.heap.objs.size:=let ⟨o,ho,_⟩:=il; Nat.ne_of_lt (Heap.lt_size ho)
 unfold unpackItems
 refine wpAny_bind ?_
 unfold notIterableAtAll
 refine wpAny_bind (wpAny_specialOf il.typeIs slot_list_iter.lookup (wpAny_pure ?_))
 rw [if_neg Bool.false_ne_true]
 refine wpAny_bind (wpAny_holding (wpAny_pyIter_list il ?_))
 refine wpAny_bind (wpAny_holding (zaf1 ne vs.size 0 _ _ ⟨_,Heap.get?_push_size _ rfl,rfl,rfl⟩ (il.push _) (by omega) fun g1 i1 s1=>?_))
 have al:(vs.toList.drop 0).take vs.size=vs.toList:=List.take_of_length_le (by simp)
 rw [al,if_neg (by simp)]
 refine wpAny_bind (wpAny_holding (wpAny_pyNext_list_end nh i1 ((il.push _).extBut s1.extBut ne) (by simp) fun g2 e2=>?_))
 exact wpAny_pure (z g2 fun b o nb e=>e2 b o nb (s1.extBut b o nb (Heap.get?_push_of_some _ e)))
end
section
variable {X:Cx}
def gLst (K:PySem.W.Frag) (n:Nat) (t:TGs):TG:=fun v σ H Q=>∃ a xs,v=.ref a∧SqL K H a xs∧xs.length=n∧t xs σ H Q
theorem zaja {es:List Expr}{k n:Nat}{pos:Pos}{t:TGs} (hc:X.calm=true) (h:Pr (PGs X es t)) (hn:(assignEach es X.env).length=n:=by rfl) (hst:(assignEach es X.env).findIdx? (·.1)=none:=by rfl):Pr (PG X (.Tuple es k pos) (gLst X.K n t)):=⟨by
 intro pins s σ H v u Q I r hw
 obtain ⟨a,xs,rfl,hq,hl,hw⟩:=hw
 cases r
 obtain ⟨its,rv,⟨o,m,eo,ec,_,ed⟩,hz⟩:=I.list hq
 have lt:(assignEach es X.env).length=its.toArray.size:=by rw [hn,← hl,rv.length]; simp
 rw [arm_assign_Tuple]
 refine wpAny_bind (wpAny_standAt ?_)
 unfold unpack
 rw [lt,hst]
 refine wpAny_bind (wpAny_holding (zagn (I.ok.hd hc) ⟨o,eo,ec,m,ed⟩ fun g x=>?_))
 have I1:Inv X pins σ H { s with heap:=g }:=I.kept (t':=s.toks) fun b o e=>x b o (Nat.ne_of_lt (Heap.lt_size e)) e
 exact h.h pins _ σ H xs _ Q I1 (by simpa using rv) hw⟩
end
end L2

set_option maxHeartbeats 4000000
namespace B17
open PySem L2
abbrev Vs (sc:Scope) (x:Str):Prop:=sc.names.lookup x=some NameKind.local∨sc.names.lookup x=some NameKind.cell∨sc.names.lookup x=some NameKind.free
abbrev Lc (sc:Scope) (x:Str):Prop:=sc.names.lookup x=some NameKind.local∨sc.names.lookup x=some NameKind.cell
abbrev Gi (sc:Scope) (x:Str):Prop:=sc.names.lookup x=some NameKind.globalImplicit
abbrev Nd (x:Str):Prop:=(x == ("__debug__" : Str))=false
abbrev Nc (x:Str):Prop:=(x == ("__classdict__" : Str))=false
local macro_rules | `(tactic| walk_at "few")=>`(tactic| (with_reducible show (List.length (α:=Str × V) _) < 1000); first | exact (by decide:0 < 1000) | exact (by decide:1 < 1000) | exact (by decide:2 < 1000) | exact (by decide:3 < 1000) | exact (by decide:4 < 1000) | exact (by decide:5 < 1000) | exact (by decide:6 < 1000))
local macro_rules | `(tactic| walk_at "get")=>`(tactic| first
 | with_reducible assumption
 | exact zaag
 | (apply zaas; (focus with_reducible assumption); (focus walk_at "get"))
 | (apply zagg; (focus walk_at "ne"); (focus walk_at "get"))
 | (apply Ch.get; (focus with_reducible assumption); (focus walk_at "get"); (focus walk_at "notin")))
local macro_rules | `(tactic| walk_at "ne")=>`(tactic| first | with_reducible assumption | (apply Ne.symm; with_reducible assumption) | (apply zahk; (focus with_reducible assumption); (focus with_reducible assumption); (focus (intro z; cases z))))
local macro_rules | `(tactic| walk_at "notin")=>`(tactic| first | exact List.not_mem_nil | (simp only [List.mem_cons,List.not_mem_nil,or_false,not_or,not_false_eq_true]; first | walk_at "ne" | trivial))
local macro_rules | `(tactic| walk_at "scr")=>`(tactic| first
 | with_reducible assumption
 | (apply Scr.ch; (focus with_reducible assumption); (focus with_reducible assumption); (focus walk_at "ch"))
 | (apply Scr.same; (focus with_reducible assumption); (focus walk_at "ch")))
local macro_rules | `(tactic| walk_at "ch")=>`(tactic| first
 | with_reducible assumption
 | exact Ch.refl _ _
 | exact Ch.put
 | (apply Ch.new; with_reducible assumption)
 | (apply Ch.wk; with_reducible assumption)
 | (apply Ch.own; (focus with_reducible assumption); (focus walk_at "ch"))
 | (apply Ch.trans; (rotate_left; focus with_reducible assumption); (focus walk_at "ch"))
 | (apply Ch.trans; (rotate_left; focus (apply Ch.wk; with_reducible assumption)); (focus walk_at "ch"))
 | (apply Ch.trans; (rotate_left; focus exact Ch.put); (focus walk_at "ch"))
 | (apply Ch.trans; (rotate_left; focus (apply Ch.new; with_reducible assumption)); (focus walk_at "ch")))
local macro_rules | `(tactic| walk_at "sq")=>`(tactic| first
 | (apply Scr.sq; walk_at "scr")
 | (apply Exists.intro; walk_at "sq")
 | (refine (‹∀ H:Hp,SqT _ H _ _›) _)
 | (apply SqL.of; walk_at "get")
 | (apply SqT.of; walk_at "get")
 | (apply Or.inl; apply Scr.sq; walk_at "scr")
 | (apply Or.inl; apply SqL.of; walk_at "get")
 | (apply Or.inr; apply SqT.of; walk_at "get"))
local macro_rules | `(tactic| walk_at "arith")=>`(tactic| first
 | omega
 | (simp only [List.length_map,List.length_cons,List.length_nil,List.length_append,List.length_singleton,List.length_replicate]; done)
 | ((try dsimp only); (try simp only [List.length_map,List.length_cons,List.length_nil,List.length_append,List.length_singleton,List.length_replicate,sizeLine_eq]); omega)
 | ((try dsimp only); (try simp only [List.length_map,List.length_cons,List.length_nil,List.length_append,List.length_singleton,List.length_replicate,sizeLine_eq] at *); omega))
local macro_rules | `(tactic| walk_at "cond")=>`(tactic| first
 | (refine Or.inl (And.intro ?_ ?_) <;> walk_at "arith")
 | (refine Or.inr (And.intro ?_ ?_) <;> walk_at "arith")
 | (refine And.intro ?_ (And.intro ?_ ?_) <;> walk_at "arith")
 | (refine And.intro ?_ ?_ <;> walk_at "arith"))
local macro_rules | `(tactic| walk_at "len")=>`(tactic| first
 | with_reducible assumption
 | exact len_one
 | (apply len_slice; walk_at "len")
 | (apply len_app; (focus walk_at "len"); (focus walk_at "len"))
 | exact Nat.le_refl _)
local macro_rules | `(tactic| walk_at "lens")=>`(tactic| first
 | (apply len_sum; (focus walk_at "len"); (focus walk_at "len"); (focus first | decide +kernel | walk_at "arith"))
 | (apply len_top; (focus walk_at "len"); (focus first | decide +kernel | walk_at "arith")))
local macro_rules | `(tactic| walk_at "side")=>`(tactic| first
 | with_reducible rfl | with_reducible assumption | walk_at "sq" | walk_at "get" | walk_at "scr" | walk_at "ch" | walk_at "ty" | exact TyOf.int _ | exact TyOf.str _ | (apply TyOf.tup; walk_at "get") | (apply TyOf.lst; walk_at "get") | exact TyOf.bl _ | exact TyOf.non | walk_at "few" | decide | omega | walk_at "arith" | walk_at "cond" | ((try simp only [List.length_map]); with_reducible assumption) | walk_at "lens" | (apply Or.inr; with_reducible assumption) | walk_at "user" | exact rfl | assumption)
local macro_rules | `(tactic| walk_at "ty")=>`(tactic| (refine Or.inl (And.intro rfl ?_); apply Exists.intro; walk_at "sq"))
local macro_rules | `(tactic| walk_at "user")=>`(tactic| fail)
local macro_rules | `(tactic| walk_at "rd1")=>`(tactic| first
 | apply Exists.intro
 | (refine And.intro rfl ?_)
 | (refine And.intro (show V.str _=L2.kV (Sum.inr _) from rfl) ?_)
 | (refine And.intro (show V.int _=L2.kV (Sum.inl _) from rfl) ?_)
 | (refine And.intro (L2.zakj _ _) ?_)
 | (apply And.intro; (focus (walk_at "side"; done)))
 | apply Atx.head
 | (apply Atx.of; (focus first | exact rfl | with_reducible assumption | ((try simp only [List.length_map]); with_reducible assumption)))
 | (apply Or.inl; apply Exists.intro; (refine And.intro rfl ?_))
 | (apply Or.inr; apply Exists.intro; (refine And.intro rfl ?_))
 | (apply Or.inl; apply And.intro; (focus walk_at "sq"))
 | (apply Or.inr; apply And.intro; (focus walk_at "sq"))
 | (intro _)
 | walk_at "fin")
local macro_rules | `(tactic| walk_at "fin")=>`(tactic| first | exact rfl | (walk_at "get"; done))
local macro_rules | `(tactic| walk_at "rd")=>`(tactic| repeat walk_at "rd1")
section
def top (i:Nat):Stmt:=PySem.Challenge.pw_bitfloor_k22_each_rule.main.body.getD i (.Pass ⟨0,0,0,0⟩)
def SqX (k:SK) (H:Hp) (a:Addr) (xs:List V):Prop:=match k with
 | .list=>H a=some (.lst xs)
 | .tuple=>H a=some (.tup xs)
section
variable {P:Program}{w:World}{K:PySem.W.Frag}{mg:Str→Option Value}{base:Heap}{f:Addr}{fd:FuncData}{k:Nat}
theorem zabq:bootBuiltins "isinstance" = some (.builtin "isinstance"):=by decide +kernel
theorem zago:bootBuiltins "bool" = some (.type "bool"):=by decide +kernel
theorem zagp:("bool" : Str) ≠ "__name__" := by decide +kernel
theorem zagq:Nd "bool" := by decide +kernel
theorem zabr:("isinstance" : Str) ≠ "__name__" := by decide +kernel
theorem zabs:Nd "isinstance" := by decide +kernel
theorem zan9:bootBuiltins "int" = some (.type "int"):=by decide +kernel
theorem zaoa:("int" : Str) ≠ "__name__" := by decide +kernel
theorem zaob:Nd "int" := by decide +kernel
theorem zagr:Nd "is_whole" := by decide +kernel
theorem zabz:bootBuiltins "tuple" = some (.type "tuple"):=by decide +kernel
theorem zab0:("tuple" : Str) ≠ "__name__" := by decide +kernel
theorem zab1:Nd "tuple" := by decide +kernel
theorem zaek:bootBuiltins "list" = some (.type "list"):=by decide +kernel
theorem zael:("list" : Str) ≠ "__name__" := by decide +kernel
theorem zaem:Nd "list" := by decide +kernel
theorem zaoc:bootBuiltins "str" = some (.type "str"):=by decide +kernel
theorem zaod:("str" : Str) ≠ "__name__" := by decide +kernel
theorem zaoe:Nd "str" := by decide +kernel
theorem zabl:("len" : Str) ≠ "__name__" := by decide +kernel
theorem zabm:Nd "len" := by decide +kernel
theorem zacm:Nd "is_below" := by decide +kernel
theorem zada:Nd "FEED_COUNTS" := by decide +kernel
theorem zaof:bootBuiltins "all" = some (.builtin "all"):=by decide +kernel
theorem zaog:("all" : Str) ≠ "__name__" := by decide +kernel
theorem zaoh:Nd "all" := by decide +kernel
theorem zaew:Nd "is_gate" := by decide +kernel
theorem gl4:AG (defScope (top 4)) ["isinstance", "bool", "int"]:=⟨by decide +kernel⟩
theorem av4:AF (defScope (top 4)) ["thing"]:=⟨by decide +kernel⟩
def spWhole:Sp:=fun vs H Q _=>∃ i:Int,vs=[.int i]∧Q (.bl true) H
theorem scWhole:FnScope ["thing"] ["thing"] (defScope (top 4)):=⟨rfl,rfl,rfl,by decide +kernel,rfl,by decide +kernel,by decide +kernel⟩
theorem zakq (F:Fun K "is_whole" "is_whole" (top 4) f fd) (z_isinstance:mg "isinstance" = none) (z_int:mg "int" = none) (z_bool:mg "bool" = none):FnOk P w K mg base CX0 (k + 1) f fd ["thing"] spWhole:=by
 have nd:=scWhole.nd
 refine F.ok scWhole (fun vs H Q E h=>by obtain ⟨i,rfl,_⟩:=h; rfl) (fun cdv A outer s H vs Q E hr h=>?_)
 obtain ⟨i,rfl,q⟩:=h
 refine ⟨_,(Pr.h (zaaj (zaam (zaay (zaax zac7 (gl4.g 0 rfl) z_isinstance zabq (zaaa (qv av4 0 rfl) (zaaa (zaco (v:=.ty "int") (gl4.g 2 rfl) z_int zan9 rfl zaoa zaob) zaac)) zabr zabs) (zaav (zal5 (zaax zac7 (gl4.g 0 rfl) z_isinstance zabq (zaaa (qv av4 0 rfl) (zaaa (zaco (v:=.ty "bool") (gl4.g 1 rfl) z_bool zago rfl zagp zagq) zaac)) zabr zabs))))))),?_⟩
 (try dsimp only [cxOf])
 walk_at "rd"
 exact q
theorem av5:AF (defScope (top 5)) ["thing", "bound"]:=⟨by decide +kernel⟩
theorem gl5:AG (defScope (top 5)) ["is_whole"]:=⟨by decide +kernel⟩
def spBelow:Sp:=fun vs H Q _=>∃ i b:Int,vs=[.int i,.int b]∧0≤i∧i < b∧Q (.bl true) H
theorem scBelow:FnScope ["thing", "bound"] ["thing", "bound"] (defScope (top 5)):=⟨rfl,rfl,rfl,by decide +kernel,rfl,by decide +kernel,by decide +kernel⟩
theorem zakr (F:Fun K "is_below" "is_below" (top 5) f fd) (Dis_whole:DefOk P w K mg base CX0 k "is_whole" ["thing"] spWhole):FnOk P w K mg base CX0 (k + 1) f fd ["thing", "bound"] spBelow:=by
 have nd:=scBelow.nd
 refine F.ok scBelow (fun vs H Q E h=>by obtain ⟨i,b,rfl,_⟩:=h; rfl) (fun cdv A outer s H vs Q E hr h=>?_)
 obtain ⟨i,b,rfl,h0,h1,q⟩:=h
 refine ⟨_,(Pr.h (zaaj (zaam (zaay (zaai Dis_whole hr (gl5.g 0 rfl) pass0 (zaaa (qv av5 0 rfl) zaac zaad) zagr) (zaav (zaiu zapb zanl zaae (qv av5 0 rfl) (qv av5 1 rfl))))))),?_⟩
 (try dsimp only [cxOf])
 walk_at "rd"
 refine iteD h0 ?_
 walk_at "rd"
 show Q (.bl (decide (i < b))) H
 rw [decide_eq_true h1]
 exact q
theorem gl6:AG (defScope (top 6)) ["tuple", "list", "isinstance"]:=⟨by decide +kernel⟩
theorem av6:AF (defScope (top 6)) ["thing"]:=⟨by decide +kernel⟩
def spListed:Sp:=fun vs H Q _=>∃ (kd:SK) (a:Addr) (xs:List V),vs=[.ref a]∧SqX kd H a xs∧∀ H',Ch [] H H'→Q (.bl true) H'
theorem scListed:FnScope ["thing"] ["thing"] (defScope (top 6)):=⟨rfl,rfl,rfl,by decide +kernel,rfl,by decide +kernel,by decide +kernel⟩
theorem zajb (F:Fun K "is_listed" "is_listed" (top 6) f fd) (z_isinstance:mg "isinstance" = none) (z_list:mg "list" = none) (z_tuple:mg "tuple" = none):FnOk P w K mg base CX0 (k + 1) f fd ["thing"] spListed:=by
 have nd:=scListed.nd
 refine F.ok scListed (fun vs H Q E h=>by obtain ⟨kd,a,xs,rfl,_⟩:=h; rfl) (fun cdv A outer s H vs Q E hr h=>?_)
 obtain ⟨kd,a,xs,rfl,hx,q⟩:=h
 refine ⟨_,(Pr.h (zaaj (zaam (zaax zai4 (gl6.g 2 rfl) z_isinstance zabq (zaaa (qv av6 0 rfl) (zaaa (zaaw (zaaa (zaco (v:=.ty "list") (gl6.g 1 rfl) z_list zaek rfl zael zaem) (zaaa (zaco (v:=.ty "tuple") (gl6.g 0 rfl) z_tuple zabz rfl zab0 zab1) zaac zaad) zaad)) zaac)) zabr zabs)))),?_⟩
 (try dsimp only [cxOf])
 cases kd with
 | list =>
  have hx:H a=some (.lst xs):=hx
  walk_at "rd"
  exact q _ (Ch.new (by assumption) _)
 | tuple =>
  have hx:H a=some (.tup xs):=hx
  walk_at "rd"
  exact q _ (Ch.new (by assumption) _)
end
inductive Gt where
 | inp | zero | one
 | keep (f:Int) (a:Nat)
 | not (a:Nat)
 | and (a b:Nat)
 | or (a b:Nat)
 | xor (a b:Nat)
 | pick (a b c:Nat)
deriving DecidableEq
def Gt.vs:Gt→List V
 | .inp=>[.str "in"]
 | .zero=>[.str "zero"]
 | .one=>[.str "one"]
 | .keep f a=>[.str "keep",.int f,.int a]
 | .not a=>[.str "not",.int a]
 | .and a b=>[.str "and",.int a,.int b]
 | .or a b=>[.str "or",.int a,.int b]
 | .xor a b=>[.str "xor",.int a,.int b]
 | .pick a b c=>[.str "pick",.int a,.int b,.int c]
def Gt.ok (i n:Nat):Gt→Prop
 | .inp=>True
 | .zero=>True
 | .one=>True
 | .keep f a=>0≤f∧f < 2∧a < n
 | .not a=>a < i
 | .and a b=>a < i∧b < i
 | .or a b=>a < i∧b < i
 | .xor a b=>a < i∧b < i
 | .pick a b c=>a < i∧b < i∧c < i
structure Gs (H:Hp) (gs:List Gt) (xs:List V):Prop where
 len:xs.length=gs.length
 at_:∀ (i:Nat) (g:Gt),gs[i]?=some g→∃ p,xs[i]?=some (.ref p)∧H p=some (.tup g.vs)
theorem Gs.tu {H H':Hp}{gs:List Gt}{xs:List V} (h:Gs H gs xs) (t:Tu H H'):Gs H' gs xs:=⟨h.len,fun i g e=>let ⟨p,a,b⟩:=h.at_ i g e; ⟨p,a,t p _ b⟩⟩
def Oks (gs:List Gt):Prop:=∀ (i:Nat) (g:Gt),gs[i]?=some g→g.ok i gs.length
def FC:List (Str × Int):=[("in",0),("zero",0),("one",0),("not",1),("and",2),("or",2),("xor",2),("pick",3)]
theorem zab4 {K:PySem.W.Frag}{pt:Addr}{zs:List Int}{i:Int}{H:Hp}{Q':List V→Hp→Prop} (hz:∀ z∈zs,0≤z∧z < i) (hp:H pt=some (.tup (zs.map V.int))) (hl:zs.length < 100)
  (h:∀ ys H',Ch [] H H'→ys=List.replicate zs.length (V.bl true)→Q' ys H'):Comp (Itt K pt) (gName 0) tYes (tCall spBelow [] E0 (tCons (tVar 0) (tCons (tVar 1) tNil))) Q' [none,some (.int i)] H:=by
 refine zakm (zs.map V.int) (fun j ys σ H'=>H'=H∧ys=List.replicate j (V.bl true)∧∃ u,σ=[u,some (.int i)]) (by rw [List.length_map,sizeLine_eq]; omega) ⟨rfl,rfl,_,rfl⟩ ?_ ?_ ?_
 ·rintro j ys σ H' hj ⟨rfl,rfl,u,rfl⟩
  exact ⟨by simp,SqT.of hp⟩
 ·rintro j ys σ H' x hx ⟨rfl,rfl,u,rfl⟩
  obtain ⟨z,hz',rfl⟩:∃ z∈zs,x=.int z:=by
   rw [List.getElem?_map] at hx
   obtain ⟨z,h1,h2⟩:=Option.map_eq_some_iff.mp hx
   exact ⟨z,List.mem_of_getElem? h1,h2.symm⟩
  obtain ⟨h0,h1⟩:=hz z hz'
  exact ⟨_,rfl,_,rfl,z,i,rfl,h0,h1,rfl,by rw [← List.replicate_succ'],_,rfl⟩
 ·rintro ys σ H' ⟨rfl,rfl,_⟩
  exact h _ _ (Ch.refl _ _) (by rw [List.length_map])
section
variable {P:Program}{w:World}{K:PySem.W.Frag}{mg:Str→Option Value}{base:Heap}{f:Addr}{fd:FuncData}{k:Nat}
theorem gl10:AG (defScope (top 10)) ["isinstance", "str", "len", "tuple", "is_below", "FEED_COUNTS", "all"]:=⟨by decide +kernel⟩
theorem av10:AF (defScope (top 10)) ["thing", "ahead", "total"]:=⟨by decide +kernel⟩
def zafb:Scope:={ kind:=PySem.ScopeKind.function,names:=[ (PySem.Str.ofString ".0",PySem.NameKind.local),(PySem.Str.ofString "feed",PySem.NameKind.local),(PySem.Str.ofString "is_below",PySem.NameKind.globalImplicit),(PySem.Str.ofString "ahead",PySem.NameKind.free)],isGenerator:=false,isCoroutine:=false,more:=[]:PySem.Scope }
theorem zajc:CompOk zafb (defScope (top 10)) (["feed"]:List Str) (["thing", "ahead", "total"]:List Str) [1] (["feed", "ahead"]:List Str):=compOk rfl (by decide +kernel) (by decide +kernel) (by decide +kernel) (by decide +kernel) rfl (by decide +kernel)
theorem zajd:AK (relab zafb (defScope (top 10))) ["feed"]:=⟨by decide +kernel⟩
theorem zamc:AG (relab zafb (defScope (top 10))) ["is_below"]:=⟨by decide +kernel⟩
theorem zaje:AV (relab zafb (defScope (top 10))) ["feed", "ahead"]:=⟨by decide +kernel⟩
def spGate:Sp:=fun vs H Q _=>∃ (p:Addr) (g:Gt) (i n:Nat) (i' n':Int),vs=[.ref p,.int i',.int n']∧H p=some (.tup g.vs)∧i'=(i:Int)∧n'=(n:Int)∧g.ok i n∧∀ H',Ch [] H H'→Q (.bl true) H'
theorem scGate:FnScope ["thing", "ahead", "total"] ["thing", "ahead", "total"] (defScope (top 10)):=⟨rfl,rfl,rfl,by decide +kernel,rfl,by decide +kernel,by decide +kernel⟩
theorem zamd {fa:Addr}{kvs:List (Key × V)} (F:Fun K "is_gate" "is_gate" (top 10) f fd) (Dis_below:DefOk P w K mg base CX0 k "is_below" ["thing", "bound"] spBelow)
  (m_FEED_COUNTS:mg "FEED_COUNTS" = some (.ref fa)) (hKD:KD P w K fa kvs) (hF:∀ w n,(w,n)∈FC→valV kvs (Sum.inr w)=some (.int n))
  (z_isinstance:mg "isinstance" = none) (z_tuple:mg "tuple" = none) (z_str:mg "str" = none) (z_len:mg "len" = none) (z_all:mg "all" = none):FnOk P w K mg base CX0 (k + 1) f fd ["thing", "ahead", "total"] spGate:=by
 have nd:=scGate.nd
 refine F.ok scGate (fun vs H Q E h=>by obtain ⟨p,g,i,n,i',n',rfl,_⟩:=h; rfl) (fun cdv A outer s H vs Q E hr h=>?_)
 obtain ⟨p,g,i,n,i',n',rfl,hp,rfl,rfl,hok,q⟩:=h
 refine ⟨_,(Pr.h (zaah (zaa1 (zab3 (zac3 (zab9 (zabu (zaax zac7 (gl10.g 0 rfl) z_isinstance zabq (zaaa (qv av10 0 rfl) (zaaa (zaco (v:=.ty "tuple") (gl10.g 3 rfl) z_tuple zabz rfl zab0 zab1) zaac)) zabr zabs))) (zac3 (zaak zaa3 (zaax zaau (gl10.g 2 rfl) z_len PySem.boot_len (zaaa (qv av10 0 rfl) zaac zaad) zabl zabm) zaae (nomark _)) (zact (zab9 (zabu (zaax zac7 (gl10.g 0 rfl) z_isinstance zabq (zaaa (zaar zabx (qv av10 0 rfl) zaae (fun _ _=>rfl)) (zaaa (zaco (v:=.ty "str") (gl10.g 1 rfl) z_str zaoc rfl zaod zaoe) zaac)) zabr zabs))))))) (zaaj (zaam zabw)) zaao) (zaah (zaa1 (zaak zaa3 (zaar zabx (qv av10 0 rfl) zaae (fun _ _=>rfl)) zaaf (nomark _)) (zaaj (zaam (zaay (zaan zaa3 (zaax zaau (gl10.g 2 rfl) z_len PySem.boot_len (zaaa (qv av10 0 rfl) zaac zaad) zabl zabm) zaae (nomark _)) (zaay (zaai Dis_below hr (gl10.g 4 rfl) pass0 (zaaa (zaar zabx (qv av10 0 rfl) zaae (fun _ _=>rfl)) (zaaa zaae zaac zaab) zaaz) zacm) (zaav (zaai Dis_below hr (gl10.g 4 rfl) pass0 (zaaa (zaar zabx (qv av10 0 rfl) zaae (fun _ _=>rfl)) (zaaa (qv av10 2 rfl) zaac zaad) zaaz) zacm)))))) zaao) (zaah (zaa1 (zab3 (zac3 (zaak zae7 (zaar zabx (qv av10 0 rfl) zaae (fun _ _=>rfl)) (zad2 (v:=.ref _) (gl10.g 5 rfl) m_FEED_COUNTS rfl zada) rfl) (zact (zaak zaib (zaax zaau (gl10.g 2 rfl) z_len PySem.boot_len (zaaa (qv av10 0 rfl) zaac zaad) zabl zabm) (zaaq zac9 zaae (zaiw (zad2 (v:=.ref _) (gl10.g 5 rfl) m_FEED_COUNTS rfl zada) (zaar zabx (qv av10 0 rfl) zaae (fun _ _=>rfl)) (fun _ _=>rfl))) (nomark _))))) (zaaj (zaam zabw)) zaao) (zaaj (zaam (zaax (zakn rfl) (gl10.g 6 rfl) z_all zaof (zaaa (zad6 rfl zajc (zal6 (zadh zak5 (qv av10 0 rfl) (zad4 zaae) zad3)) (fun _ _ _ _ _=>(zaa6 (i:=0) zajc.nd rfl (Or.inl (zajd.k 0 rfl)) (Or.inr (zajd.k 0 rfl)))) (fun _ _ _ _ _=>zac8) (fun _ _ _ _ _=>(zaai Dis_below hr (zamc.g 0 rfl) pass0 (zaaa (qw zaje 0 rfl) (zaaa (qw zaje 1 rfl) zaac zaad) zaad) zacm))) zaac zadc) zaog zaoh))))))),?_⟩
 (try dsimp only [cxOf])
 cases g with
 | inp =>
  have hv:=hF "in" 0 (by decide +kernel)
  have hp:H p=some (.tup [.str "in"]):=hp
  walk_at "rd"
  rw [hv]
  refine iteF ?_
  walk_at "rd"
  rename_i pt hpt
  refine zab4 (zs:=[]) (by simp <;> omega) (by rw [zaag,cut1]; rfl) (by simp) fun ys H' c e=>?_
  subst e
  intro D hD
  exact ⟨D,[],rfl,zaag,q _ (((Ch.new hpt _).trans c).trans (Ch.new hD _))⟩
 | zero =>
  have hv:=hF "zero" 0 (by decide +kernel)
  have hp:H p=some (.tup [.str "zero"]):=hp
  walk_at "rd"
  rw [hv]
  refine iteF ?_
  walk_at "rd"
  rename_i pt hpt
  refine zab4 (zs:=[]) (by simp <;> omega) (by rw [zaag,cut1]; rfl) (by simp) fun ys H' c e=>?_
  subst e
  intro D hD
  exact ⟨D,[],rfl,zaag,q _ (((Ch.new hpt _).trans c).trans (Ch.new hD _))⟩
 | one =>
  have hv:=hF "one" 0 (by decide +kernel)
  have hp:H p=some (.tup [.str "one"]):=hp
  walk_at "rd"
  rw [hv]
  refine iteF ?_
  walk_at "rd"
  rename_i pt hpt
  refine zab4 (zs:=[]) (by simp <;> omega) (by rw [zaag,cut1]; rfl) (by simp) fun ys H' c e=>?_
  subst e
  intro D hD
  exact ⟨D,[],rfl,zaag,q _ (((Ch.new hpt _).trans c).trans (Ch.new hD _))⟩
 | not a =>
  have hv:=hF "not" 1 (by decide +kernel)
  have hp:H p=some (.tup [.str "not",.int a]):=hp
  have ha:a < i:=hok
  walk_at "rd"
  rw [hv]
  refine iteF ?_
  walk_at "rd"
  rename_i pt hpt
  refine zab4 (zs:=[(a:Int)]) (by simp <;> omega) (by rw [zaag,cut1]; rfl) (by simp) fun ys H' c e=>?_
  subst e
  intro D hD
  exact ⟨D,[true],rfl,zaag,q _ (((Ch.new hpt _).trans c).trans (Ch.new hD _))⟩
 | and a b =>
  have hv:=hF "and" 2 (by decide +kernel)
  have hp:H p=some (.tup [.str "and",.int a,.int b]):=hp
  obtain ⟨ha,hb⟩:a < i∧b < i:=hok
  walk_at "rd"
  rw [hv]
  refine iteF ?_
  walk_at "rd"
  rename_i pt hpt
  refine zab4 (zs:=[(a:Int),(b:Int)]) (by simp <;> omega) (by rw [zaag,cut1]; rfl) (by simp) fun ys H' c e=>?_
  subst e
  intro D hD
  exact ⟨D,[true,true],rfl,zaag,q _ (((Ch.new hpt _).trans c).trans (Ch.new hD _))⟩
 | or a b =>
  have hv:=hF "or" 2 (by decide +kernel)
  have hp:H p=some (.tup [.str "or",.int a,.int b]):=hp
  obtain ⟨ha,hb⟩:a < i∧b < i:=hok
  walk_at "rd"
  rw [hv]
  refine iteF ?_
  walk_at "rd"
  rename_i pt hpt
  refine zab4 (zs:=[(a:Int),(b:Int)]) (by simp <;> omega) (by rw [zaag,cut1]; rfl) (by simp) fun ys H' c e=>?_
  subst e
  intro D hD
  exact ⟨D,[true,true],rfl,zaag,q _ (((Ch.new hpt _).trans c).trans (Ch.new hD _))⟩
 | xor a b =>
  have hv:=hF "xor" 2 (by decide +kernel)
  have hp:H p=some (.tup [.str "xor",.int a,.int b]):=hp
  obtain ⟨ha,hb⟩:a < i∧b < i:=hok
  walk_at "rd"
  rw [hv]
  refine iteF ?_
  walk_at "rd"
  rename_i pt hpt
  refine zab4 (zs:=[(a:Int),(b:Int)]) (by simp <;> omega) (by rw [zaag,cut1]; rfl) (by simp) fun ys H' c e=>?_
  subst e
  intro D hD
  exact ⟨D,[true,true],rfl,zaag,q _ (((Ch.new hpt _).trans c).trans (Ch.new hD _))⟩
 | pick a b c =>
  have hv:=hF "pick" 3 (by decide +kernel)
  have hp:H p=some (.tup [.str "pick",.int a,.int b,.int c]):=hp
  obtain ⟨ha,hb,hc⟩:a < i∧b < i∧c < i:=hok
  walk_at "rd"
  rw [hv]
  refine iteF ?_
  walk_at "rd"
  rename_i pt hpt
  refine zab4 (zs:=[(a:Int),(b:Int),(c:Int)]) (by simp <;> omega) (by rw [zaag,cut1]; rfl) (by simp) fun ys H' c e=>?_
  subst e
  intro D hD
  exact ⟨D,[true,true,true],rfl,zaag,q _ (((Ch.new hpt _).trans c).trans (Ch.new hD _))⟩
 | keep ff a =>
  have hp:H p=some (.tup [.str "keep",.int ff,.int a]):=hp
  obtain ⟨h1,h2,h3⟩:0≤ff∧ff < 2∧a < n:=hok
  walk_at "rd"
  exact q _ (Ch.refl _ _)
theorem av13:AF (defScope (top 13)) ["gate"]:=⟨by decide +kernel⟩
theorem gl13:AG (defScope (top 13)) ["list"]:=⟨by decide +kernel⟩
def Gt.feeds:Gt→List Nat
 | .inp=>[]
 | .zero=>[]
 | .one=>[]
 | .keep f a=>[a]
 | .not a=>[a]
 | .and a b=>[a,b]
 | .or a b=>[a,b]
 | .xor a b=>[a,b]
 | .pick a b c=>[a,b,c]
theorem freeN {H:Hp}{p r:Addr}{o:HO} (hp:H p=none) (hr:upd H p o r=none):H r=none:=by
 by_cases e:r=p
 ·rw [e]; exact hp
 ·rw [zabe e] at hr; exact hr
def nV (a:Nat):V:=.int (a:Int)
def spFeeds:Sp:=fun vs H Q _=>∃ (p:Addr) (g:Gt),vs=[.ref p]∧H p=some (.tup g.vs)∧∀ r H',Ch [] H H'→H r=none→H' r=some (.lst (g.feeds.map nV))→Q (.ref r) H'
theorem scFeeds:FnScope ["gate"] ["gate"] (defScope (top 13)):=⟨rfl,rfl,rfl,by decide +kernel,rfl,by decide +kernel,by decide +kernel⟩
theorem zaks (F:Fun K "feeds_of" "feeds_of" (top 13) f fd) (z_list:mg "list" = none):FnOk P w K mg base CX0 (k + 1) f fd ["gate"] spFeeds:=by
 have nd:=scFeeds.nd
 refine F.ok scFeeds (fun vs H Q E h=>by obtain ⟨p,g,rfl,_⟩:=h; rfl) (fun cdv A outer s H vs Q E hr h=>?_)
 obtain ⟨p,g,rfl,hp,q⟩:=h
 refine ⟨_,(Pr.h (zaah (zaa1 (zaak zaa3 (zaar zabx (qv av13 0 rfl) zaae (fun _ _=>rfl)) zaaf (nomark _)) (zaaj (zaam (zaa2 (zaaa (zaar zabx (qv av13 0 rfl) zaae (fun _ _=>rfl)) zaac zaaz)))) zaao) (zaaj (zaam (zabh zacn (gl13.g 0 rfl) z_list zaek (zaaa (zadh zak5 (qv av13 0 rfl) (zad4 zaae) zad3) zaac zaaz) zael zaem))))),?_⟩
 (try dsimp only [cxOf])
 cases g with
 | keep ff a =>
  have hp:H p=some (.tup [.str "keep",.int ff,.int a]):=hp
  walk_at "rd"
  exact q _ _ (Ch.new (by assumption) _) (by assumption) zaag
 | inp =>
  have hp:H p=some (.tup [.str "in"]):=hp
  walk_at "rd"
  rename_i pt hpt r hr1
  exact q _ _ ((Ch.new hpt _).trans (Ch.new hr1 _)) (freeN hpt hr1) (by rw [zaag,cut1]; rfl)
 | zero =>
  have hp:H p=some (.tup [.str "zero"]):=hp
  walk_at "rd"
  rename_i pt hpt r hr1
  exact q _ _ ((Ch.new hpt _).trans (Ch.new hr1 _)) (freeN hpt hr1) (by rw [zaag,cut1]; rfl)
 | one =>
  have hp:H p=some (.tup [.str "one"]):=hp
  walk_at "rd"
  rename_i pt hpt r hr1
  exact q _ _ ((Ch.new hpt _).trans (Ch.new hr1 _)) (freeN hpt hr1) (by rw [zaag,cut1]; rfl)
 | not a =>
  have hp:H p=some (.tup [.str "not",.int a]):=hp
  walk_at "rd"
  rename_i pt hpt r hr1
  exact q _ _ ((Ch.new hpt _).trans (Ch.new hr1 _)) (freeN hpt hr1) (by rw [zaag,cut1]; rfl)
 | and a b =>
  have hp:H p=some (.tup [.str "and",.int a,.int b]):=hp
  walk_at "rd"
  rename_i pt hpt r hr1
  exact q _ _ ((Ch.new hpt _).trans (Ch.new hr1 _)) (freeN hpt hr1) (by rw [zaag,cut1]; rfl)
 | or a b =>
  have hp:H p=some (.tup [.str "or",.int a,.int b]):=hp
  walk_at "rd"
  rename_i pt hpt r hr1
  exact q _ _ ((Ch.new hpt _).trans (Ch.new hr1 _)) (freeN hpt hr1) (by rw [zaag,cut1]; rfl)
 | xor a b =>
  have hp:H p=some (.tup [.str "xor",.int a,.int b]):=hp
  walk_at "rd"
  rename_i pt hpt r hr1
  exact q _ _ ((Ch.new hpt _).trans (Ch.new hr1 _)) (freeN hpt hr1) (by rw [zaag,cut1]; rfl)
 | pick a b c =>
  have hp:H p=some (.tup [.str "pick",.int a,.int b,.int c]):=hp
  walk_at "rd"
  rename_i pt hpt r hr1
  exact q _ _ ((Ch.new hpt _).trans (Ch.new hr1 _)) (freeN hpt hr1) (by rw [zaag,cut1]; rfl)
def numsOf (t:Gt→Bool):List Gt→Nat→List Nat
 | [],_=>[]
 | g :: gs,i=>if t g then i :: numsOf t gs (i + 1) else numsOf t gs (i + 1)
def Gt.isIn:Gt→Bool
 | .inp=>true
 | _=>false
def Gt.isKeep:Gt→Bool
 | .keep _ _=>true
 | _=>false
theorem zadk (t:Gt→Bool):∀ (a b:List Gt) (i:Nat),numsOf t (a++b) i=numsOf t a i++numsOf t b (i + a.length)
 | [],b,i=>by simp [numsOf]
 | g :: a,b,i=>by
  have:=zadk t a b (i + 1)
  simp only [List.cons_append,numsOf,List.length_cons]
  rw [this,show i + 1 + a.length=i + (a.length + 1) by omega]
  split <;> simp
theorem zags (t:Gt→Bool) {gs:List Gt}{i:Nat}{g:Gt} (h:gs[i]?=some g):numsOf t (gs.take (i + 1)) 0=numsOf t (gs.take i) 0++if t g then [i] else []:=by
 have hi:i < gs.length:=(List.getElem?_eq_some_iff.mp h).1
 rw [List.take_add_one,h,zadk]
 simp only [Option.toList_some,numsOf,Nat.zero_add,List.length_take,Nat.min_eq_left (Nat.le_of_lt hi)]
theorem zaex (t:Gt→Bool):∀ (gs:List Gt) (i:Nat),(numsOf t gs i).length≤gs.length
 | [],_=>by simp [numsOf]
 | g :: gs,i=>by
  have:=zaex t gs (i + 1)
  simp only [numsOf,List.length_cons]
  split <;> simp <;> omega
end
theorem chFree {H H':Hp} (c:Ch [] H H') {r:Addr} (h:H' r=none):H r=none:=by
 cases e:H r with
 | none=>rfl
 | some o=>rw [c r o e (by simp)] at h; cases h
def fldsNet (gp op:Addr):List (Str × V):=[("gates",.ref gp),("outs",.ref op)]
theorem zac0 (gp op:Addr):List.lookup (Str.ofString "gates") (fldsNet gp op)=some (.ref gp):=rfl
theorem zadu (gp op:Addr):List.lookup (Str.ofString "outs") (fldsNet gp op)=some (.ref op):=rfl
structure NetAt (C:Addr) (H:Hp) (nt gp op:Addr) (gs:List Gt) (xs:List V) (os:List Nat):Prop where
 ob:∃ dx,H nt=some (.ins C dx (fldsNet gp op))
 gt:H gp=some (.tup xs)
 gg:Gs H gs xs
 ot:H op=some (.tup (os.map nV))
section
variable {P:Program}{w:World}{K:PySem.W.Frag}{mg:Str→Option Value}{base:Heap}{f:Addr}{fd:FuncData}{k:Nat}
theorem zagt:∀ g:Gt,∃ (wd:Str) (rs:List V),g.vs=.str wd :: rs∧decide (V.str wd=V.str "in")=g.isIn
 | .inp=>⟨_,_,rfl,rfl⟩
 | .zero=>⟨_,_,rfl,rfl⟩
 | .one=>⟨_,_,rfl,rfl⟩
 | .keep _ _=>⟨_,_,rfl,rfl⟩
 | .not _=>⟨_,_,rfl,rfl⟩
 | .and _ _=>⟨_,_,rfl,rfl⟩
 | .or _ _=>⟨_,_,rfl,rfl⟩
 | .xor _ _=>⟨_,_,rfl,rfl⟩
 | .pick _ _ _=>⟨_,_,rfl,rfl⟩
theorem gl12:AG (defScope (top 12)) ["enumerate"]:=⟨by decide +kernel⟩
theorem av12:AF (defScope (top 12)) ["net"]:=⟨by decide +kernel⟩
def zagu:Scope:={ kind:=PySem.ScopeKind.function,names:=[ (PySem.Str.ofString ".0",PySem.NameKind.local),(PySem.Str.ofString "number",PySem.NameKind.local),(PySem.Str.ofString "gate",PySem.NameKind.local)],isGenerator:=false,isCoroutine:=false,more:=[]:PySem.Scope }
theorem zagv:CompOk zagu (defScope (top 12)) (["number", "gate"]:List Str) (["net"]:List Str) [] (["number", "gate"]:List Str):=compOk rfl (by decide +kernel) (by decide +kernel) (by decide +kernel) (by decide +kernel) rfl (by decide +kernel)
theorem zafc:AK (relab zagu (defScope (top 12))) ["number", "gate"]:=⟨by decide +kernel⟩
theorem zajf:AV (relab zagu (defScope (top 12))) ["number", "gate"]:=⟨by decide +kernel⟩
def spIns (C:Addr):Sp:=fun vs H Q _=>∃ (nt gp op:Addr) (gs:List Gt) (xs:List V) (os:List Nat),vs=[.ref nt]∧NetAt C H nt gp op gs xs os∧gs.length≤1000∧∀ r H',Ch [] H H'→H r=none→H' r=some (.lst ((numsOf Gt.isIn gs 0).map nV))→Q (.ref r) H'
theorem scIns:FnScope ["net"] ["net"] (defScope (top 12)):=⟨rfl,rfl,rfl,by decide +kernel,rfl,by decide +kernel,by decide +kernel⟩
theorem zajg {C:Addr} (F:Fun K "ins_of" "ins_of" (top 12) f fd) (cl:Cls K C) (nG:NoAttr K C "gates") (z_enumerate:mg "enumerate" = none):FnOk P w K mg base CX0 (k + 1) f fd ["net"] (spIns C):=by
 have nd:=scIns.nd
 refine F.ok scIns (fun vs H Q E h=>by obtain ⟨nt,gp,op,gs,xs,os,rfl,_⟩:=h; rfl) (fun cdv A outer s H vs Q E hr h=>?_)
 obtain ⟨nt,gp,op,gs,xs,os,rfl,⟨⟨dx,hn⟩,hg,hgs,ho⟩,hlen,q⟩:=h
 refine ⟨_,(Pr.h (zaaj (zaam (zad6 rfl zagv (zae9 .tuple (gl12.g 0 rfl) z_enumerate (zaaa (zac2 (qv av12 0 rfl) rfl) zaac zabo)) (fun _ _ _ _ _=>(zahe K 2 rfl rfl (zabb (zaa6 (i:=0) zagv.nd rfl (Or.inl (zafc.k 0 rfl)) (Or.inr (zafc.k 0 rfl))) (zabb (zaa6 (i:=1) zagv.nd rfl (Or.inl (zafc.k 1 rfl)) (Or.inr (zafc.k 1 rfl))) zace)))) (fun _ _ _ _ _=>(zako (zaak zaa3 (zaar (zahd K rfl) (qw zajf 1 rfl) zaae (fun _ _=>rfl)) zaaf (nomark _)))) (fun _ _ _ _ _=>(qw zajf 0 rfl)))))),?_⟩
 (try dsimp only [cxOf])
 have fg:=zac0 gp op
 have hx:=hgs.len
 walk_at "rd"
 refine zafz xs (fun i ys σ H'=>Ch [] H H'∧ys=(numsOf Gt.isIn (gs.take i) 0).map nV∧∃ u v,σ=[u,v]) (by rw [sizeLine_eq]; omega) ⟨Ch.refl _ _,rfl,_,_,rfl⟩ ?_ ?_ ?_
 ·rintro i ys σ H' hi ⟨c,rfl,_⟩
  refine ⟨?_,SqT.of (c.get hg (by simp))⟩
  have:=zaex Gt.isIn (gs.take i) 0
  rw [List.length_take] at this
  rw [List.length_map]; omega
 ·rintro i ys σ H' x T hx' ⟨c,rfl,u,v,rfl⟩ hT
  have hi:i < gs.length:=by rw [← hx]; exact (List.getElem?_eq_some_iff.mp hx').1
  obtain ⟨g,hgi⟩:∃ g,gs[i]?=some g:=⟨_,List.getElem?_eq_getElem hi⟩
  obtain ⟨p,ep,hp⟩:=hgs.at_ i g hgi
  rw [hx'] at ep
  cases ep
  have hp1:H' p=some (.tup g.vs):=c.get hp (by simp)
  have nt:=zags Gt.isIn hgi
  obtain ⟨wd,rs,ev,hd⟩:=zagt g
  rw [ev] at hp1
  walk_at "rd"
  rw [hd]
  cases ht:Gt.isIn g with
  | true =>
   refine iteT ?_
   walk_at "rd"
   refine ⟨?_,_,_,rfl⟩
   rw [nt,ht]; simp [nV]
  | false =>
   refine iteF ?_
   refine ⟨c.trans (Ch.new hT _),?_,_,_,rfl⟩
   rw [nt,ht]; simp
 ·rintro ys σ H' ⟨c,rfl,_⟩
  intro D hD
  refine q _ _ (c.trans (Ch.new hD _)) (chFree c hD) ?_
  rw [zaag,hx,List.take_length]
theorem gl11m0:AG (defScope (inClass (top 11) 0)) ["enumerate", "is_gate", "len", "is_below", "tuple"]:=⟨by decide +kernel⟩
theorem av11m0:AF (defScope (inClass (top 11) 0)) ["self", "gates", "outs", "number", "gate", "out"]:=⟨by decide +kernel⟩
def spNet (C:Addr):Sp:=fun vs H Q _=>∃ (nt dx gl ol:Addr) (gs:List Gt) (xs:List V) (os:List Nat),vs=[.ref nt,.ref gl,.ref ol]∧H nt=some (.ins C dx [])∧H gl=some (.lst xs)∧Gs H gs xs∧Oks gs∧gs.length≤1000 ∧
 H ol=some (.lst (os.map nV))∧(∀ o∈os,o < gs.length)∧os.length≤1000∧∀ gp op H',Ch [nt] H H'→NetAt C H' nt gp op gs xs os→Q .non H'
theorem scNet:FnScope ["self", "gates", "outs", "number", "gate", "out"] ["self", "gates", "outs"] (defScope (inClass (top 11) 0)):=⟨rfl,rfl,rfl,by decide +kernel,rfl,by decide +kernel,by decide +kernel⟩
theorem zaoi {C:Addr} (F:Fun K "__init__" "Net.__init__" (inClass (top 11) 0) f fd) (cl:Cls K C) (nG:NoAttr K C "gates") (nO:NoAttr K C "outs") (Dis_gate:DefOk P w K mg base CX0 k "is_gate" ["thing", "ahead", "total"] spGate)
  (Dis_below:DefOk P w K mg base CX0 k "is_below" ["thing", "bound"] spBelow) (z_enumerate:mg "enumerate" = none) (z_len:mg "len" = none) (z_tuple:mg "tuple" = none):FnOk P w K mg base CX0 (k + 1) f fd ["self", "gates", "outs"] (spNet C):=by
 have nd:=scNet.nd
 refine F.ok scNet (fun vs H Q E h=>by obtain ⟨nt,dx,gl,ol,gs,xs,os,rfl,_⟩:=h; rfl) (fun cdv A outer s H vs Q E hr h=>?_)
 obtain ⟨nt,dx,gl,ol,gs,xs,os,rfl,hn,hg,hgs,hok,hlen,ho,hos,hol,q⟩:=h
 refine ⟨_,(Pr.h (zaah (zacf PassesOwn.never rfl (zae9 .list (gl11m0.g 0 rfl) z_enumerate (zaaa (qv av11m0 1 rfl) zaac zaad)) (zadp rfl (zabb (zaa6 (i:=3) nd rfl (av11m0.l 3 rfl)) (zabb (zaa6 (i:=4) nd rfl (av11m0.l 4 rfl)) zace))) (zaaj (zaa1 (zab9 (zabu (zaai Dis_gate hr (gl11m0.g 1 rfl) pass0 (zaaa (qv av11m0 4 rfl) (zaaa (qv av11m0 3 rfl) (zaaa (zaax zaau (gl11m0.g 2 rfl) z_len PySem.boot_len (zaaa (qv av11m0 1 rfl) zaac zaad) zabl zabm) zaac zab8) zaad) zaad) zaew))) (zaaj zaf0) zaao))) (zaah (zacf PassesOwn.never rfl (zadi (qv av11m0 2 rfl)) (zaa6 (i:=5) nd rfl (av11m0.l 5 rfl)) (zaaj (zaa1 (zab9 (zabu (zaai Dis_below hr (gl11m0.g 3 rfl) pass0 (zaaa (qv av11m0 5 rfl) (zaaa (zaax zaau (gl11m0.g 2 rfl) z_len PySem.boot_len (zaaa (qv av11m0 1 rfl) zaac zaad) zabl zabm) zaac zab8) zaad) zacm))) (zaaj zaf0) zaao))) (zaah (zaix (qv av11m0 0 rfl) (zabh zabf (gl11m0.g 4 rfl) z_tuple zabz (zaaa (qv av11m0 1 rfl) zaac zaad) zab0 zab1) rfl) (zaaj (zaix (qv av11m0 0 rfl) (zabh zabf (gl11m0.g 4 rfl) z_tuple zabz (zaaa (qv av11m0 2 rfl) zaac zaad) zab0 zab1) rfl)))))),?_⟩
 (try dsimp only [cxOf])
 have hx:=hgs.len
 walk_at "rd"
 refine zai0 (xs:=xs) (fun i σ H'=>Ch [] H H'∧∃ u v r,σ=[some (.ref nt),some (.ref gl),some (.ref ol),u,v,r]) ⟨Ch.refl _ _,_,_,_,rfl⟩ ?_ ?_ ?_
 ·rintro i σ H' hi ⟨c,_⟩
  exact SqL.of (c.get hg (by simp))
 ·rintro i x σ H' T hx' ⟨c,u,v,r,rfl⟩ hT
  have hi:i < gs.length:=by rw [← hx]; exact (List.getElem?_eq_some_iff.mp hx').1
  obtain ⟨g,hgi⟩:∃ g,gs[i]?=some g:=⟨_,List.getElem?_eq_getElem hi⟩
  obtain ⟨p,ep,hp⟩:=hgs.at_ i g hgi
  rw [hx'] at ep
  cases ep
  have hp1:H' p=some (.tup g.vs):=c.get hp (by simp)
  have hg1:H' gl=some (.lst xs):=c.get hg (by simp)
  have hok1:g.ok i xs.length:=by rw [hx]; exact hok i g hgi
  walk_at "rd"
 ·rintro σ H1 ⟨c1,u,v,r,rfl⟩
  have ho1:H1 ol=some (.lst (os.map nV)):=c1.get ho (by simp)
  have hg1:H1 gl=some (.lst xs):=c1.get hg (by simp)
  walk_at "rd"
  refine zafw (xs:=os.map nV) (fun i σ H'=>Ch [] H H'∧∃ u v r,σ=[some (.ref nt),some (.ref gl),some (.ref ol),u,v,r]) ⟨c1,_,_,_,rfl⟩ ?_ ?_ ?_
  ·rintro i σ H' hi ⟨c,_⟩
   exact SqL.of (c.get ho (by simp))
  ·rintro i x σ H' hx' ⟨c,u,v,r,rfl⟩
   obtain ⟨o,ho',rfl⟩:∃ o∈os,x=nV o:=by
    rw [List.getElem?_map] at hx'
    obtain ⟨z,h1,h2⟩:=Option.map_eq_some_iff.mp hx'
    exact ⟨z,List.mem_of_getElem? h1,h2.symm⟩
   have:=hos o ho'
   have hg2:H' gl=some (.lst xs):=c.get hg (by simp)
   unfold nV
   walk_at "rd"
  ·rintro σ H2 ⟨c2,u,v,r,rfl⟩
   have ho2:H2 ol=some (.lst (os.map nV)):=c2.get ho (by simp)
   have hg2:H2 gl=some (.lst xs):=c2.get hg (by simp)
   have hn2:H2 nt=some (.ins C dx []):=c2.get hn (by simp)
   walk_at "rd"
   rename_i l1 hl1 l2 hl2
   (try refine ⟨by show 1 < 1000; decide,?_⟩)
   have n1:l1≠nt:=(zaa0 hn2 hl1).symm
   have n2:l2≠nt:=by
    intro z
    rw [z,zaag] at hl2
    cases hl2
   have cF:Ch [nt] H (upd (upd (upd (upd H2 l1 (.tup xs)) nt (.ins C dx (putF "gates" (.ref l1) []))) l2 (.tup (os.map nV))) nt (.ins C dx (putF "outs" (.ref l2) (putF "gates" (.ref l1) [])))) :=
    ((((Ch.wk c2).trans (Ch.new hl1 _)).trans Ch.put).trans (Ch.new hl2 _)).trans Ch.put
   refine q l1 l2 _ cF ⟨⟨dx,zaag⟩,?_,hgs.tu (Tu.ch cF hn (fun xs z=>by cases z)),?_⟩
   ·exact zagg n1 (zaas hl2 (zagg n1 zaag))
   ·exact zagg n2 zaag
end
end

section
def spNext (K:PySem.W.Frag):Sp:=fun vs H Q _=>∃ (a b:Addr) (ns:List Int) (c:Int),vs=[.ref a,.ref b]∧Scr K H a ns∧H b=some (.lst [.int c])∧0≤c∧c < 2 ^ 60 ∧
 ∀ (n:Int) (H':Hp),0≤n→n < 2147483629→Ch [b] H H'→H' b=some (.lst [.int (c + 1)])→Q (.int n) H'
section
variable {P:Program}{w:World}{K:PySem.W.Frag}{mg:Str→Option Value}{base:Heap}{f:Addr}{fd:FuncData}{k:Nat}
theorem av32:AF (defScope (top 32)) ["_law_script", "_law_at", "_law_cell", "_law_figures", "_law_k", "_law_m"]:=⟨by decide +kernel⟩
theorem gl32:AG (defScope (top 32)) ["len", "range"]:=⟨by decide +kernel⟩
theorem scNext:FnScope ["_law_script", "_law_at", "_law_cell", "_law_figures", "_law_k", "_law_m"] ["_law_script", "_law_at"] (defScope (top 32)):=⟨rfl,rfl,rfl,by decide +kernel,rfl,by decide +kernel,by decide +kernel⟩
theorem zame (F:Fun K "_law_next" "_law_next" (top 32) f fd) (z_len:mg "len" = none) (z_range:mg "range" = none) :
  FnOk P w K mg base CX0 (k + 1) f fd ["_law_script", "_law_at"] (spNext K):=by
 have nd:=scNext.nd
 refine F.ok scNext (fun vs H Q E h=>?_) (fun cdv A outer s H vs Q E hr h=>?_)
 ·obtain ⟨a,b,ns,c,rfl,_⟩:=h
  rfl
 obtain ⟨a,b,ns,c,rfl,hS,hb,h0,h1,q⟩:=h
 refine ⟨_,(Pr.h (zaah (zadd (zaaq zac9 (zaar zaal (qv av32 1 rfl) zaae (fun _ _=>rfl)) zaae) (zagj (qv av32 1 rfl) zaae zae2)) (zaah (zaap (i:=2) nd rfl (av32.l 2 rfl) zaae) (zaat (zaa1 (zaak zaj5 (zaax zaau (gl32.g 0 rfl) z_len PySem.boot_len (zaaa (qv av32 0 rfl) zaac zaad) zabl zabm) zaae (nomark _)) (zaaj (zaap (i:=2) nd rfl (av32.l 2 rfl) (zaar zaal (qv av32 0 rfl) (zaaq zaba (zaar zaal (qv av32 1 rfl) zaae (fun _ _=>rfl)) (zaax zaau (gl32.g 0 rfl) z_len PySem.boot_len (zaaa (qv av32 0 rfl) zaac zaad) zabl zabm)) (fun _ _=>rfl)))) zaao) (zaat (zaa1 (zab3 (zacl (zaak zaj5 (zaax zaau (gl32.g 0 rfl) z_len PySem.boot_len (zaaa (qv av32 0 rfl) zaac zaad) zabl zabm) zaae (nomark _)) (zacd (zaak zaa3 (zaaq zaba (zaar zaal (qv av32 0 rfl) zaae (fun _ _=>rfl)) zaae) zaae (nomark _))))) (zaah (zaap (i:=3) nd rfl (av32.l 3 rfl) (qv av32 2 rfl)) (zaah (zacf PassesOwn.never rfl (zado (gl32.g 1 rfl) z_range (zaaa (zaaq zaba (zaaq zabc (zaar zaal (qv av32 1 rfl) zaae (fun _ _=>rfl)) (zaax zaau (gl32.g 0 rfl) z_len PySem.boot_len (zaaa (qv av32 0 rfl) zaac zaad) zabl zabm)) zaae) zaac zaa9)) (zaa6 (i:=4) nd rfl (av32.l 4 rfl)) (zaaj (zaap (i:=3) nd rfl (av32.l 3 rfl) (zaaq zabc (qv av32 3 rfl) zaae)))) (zaaj (zaa1 (zab3 (zac3 (zaak zadt (qv av32 3 rfl) (zaaw (zaaa zaae (zaaa (zan4 zank zaae) zaac zahv) zaab)) rfl) (zact (zaak zanl (zaar zaal (qv av32 1 rfl) zaae (fun _ _=>rfl)) (zaax zaau (gl32.g 0 rfl) z_len PySem.boot_len (zaaa (qv av32 0 rfl) zaac zaad) zabl zabm) (nomark _))))) (zaaj (zaam (zaaq zaba (qv av32 3 rfl) zaae))) zaao)))) zaao) (zaah (zaap (i:=5) nd rfl (av32.l 5 rfl) (zaaq zaba (zaaq zaer (zaaq zac9 (zaaq zac9 (zaaq zaba (qv av32 2 rfl) zaae) (zaaq zaer (zaaq zaer (zaar zaal (qv av32 1 rfl) zaae (fun _ _=>rfl)) (zaar zaal (qv av32 1 rfl) zaae (fun _ _=>rfl))) zaae)) zaae) zaae) zaae)) (zaah (zaap (i:=5) nd rfl (av32.l 5 rfl) (zaaq zaba (zaaq zaer (qv av32 5 rfl) (qv av32 5 rfl)) zaae)) (zaaj (zaam (zaaq zaba (zaaq zaer (zaaq zac9 (qv av32 5 rfl) (zaaq zaer (zaar zaal (qv av32 1 rfl) zaae (fun _ _=>rfl)) zaae)) zaae) zaae)))))))))),?_⟩
 have h63:ns.length≤63:=hS.1
 (try dsimp only [cxOf])
 walk_at "rd"
 refine zaa5 (fun σ H'=>∃ n:Int,σ=[some (.ref a),some (.ref b),some (.int n),none,none,none]∧Ch [b] H H'∧H' b=some (.lst [.int (c + 1)])) ?_ ?_
 ·walk_at "rd"
  refine ite2 (fun hc=>?_) (fun hc=>?_)
  ·have hc':0 < (ns.length:Int):=by simpa using hc
   have e1:0≤(c + 1) % (ns.length:Int):=Int.emod_nonneg _ (by omega)
   have e2:(c + 1) % (ns.length:Int) < (ns.length:Int):=Int.emod_lt_of_pos _ hc'
   obtain ⟨n,hn⟩:=zaha e1 e2
   walk_at "rd"
  ·walk_at "rd"
 ·rintro σ H1 ⟨n,rfl,c1,b1⟩
  have hS1:Scr K H1 a ns:=hS.ch hb c1
  refine zaa5 (fun σ H'=>∃ u v w,σ=[some (.ref a),some (.ref b),some (.int n),u,v,w]∧Ch [b] H H'∧H' b=some (.lst [.int (c + 1)])) ?_ ?_
  ·walk_at "rd"
   refine ite2 (fun hc=>?_) (fun hc=>iteF ?_)
   ·have hc':0 < (ns.length:Int):=by simpa using hc
    obtain ⟨n0,hn0⟩:=zaha (ns:=ns) (i:=0) (by omega) hc'
    walk_at "rd"
    refine ite2 (fun hd=>?_) (fun hd=>?_)
    ·walk_at "rd"
     refine zadl (fun i σ H'=>H'=H1∧∃ g kk,σ=[some (.ref a),some (.ref b),some (.int n),some (.int g),kk,none]) ⟨rfl,_,_,rfl⟩ ?_ ?_
     ·rintro i σ H' hi ⟨rfl,g,kk,rfl⟩
      walk_at "rd"
     ·rintro σ H' ⟨rfl,g,kk,rfl⟩
      walk_at "rd"
      refine ite2 (fun hd=>iteT ?_) (fun hd=>?_)
      ·walk_at "rd"
       exact q _ _ (Int.emod_nonneg _ (by decide)) (Int.lt_of_lt_of_le (Int.emod_lt_of_pos _ (by decide)) (by decide)) (c1.trans (Ch.new (by assumption) _)) (by walk_at "get")
      ·walk_at "rd"
       refine ite2 (fun he=>?_) (fun he=>?_)
       ·walk_at "rd"
        exact q _ _ (Int.emod_nonneg _ (by decide)) (Int.lt_of_lt_of_le (Int.emod_lt_of_pos _ (by decide)) (by decide)) (c1.trans (Ch.new (by assumption) _)) (by walk_at "get")
       ·walk_at "rd"
    ·walk_at "rd"
   ·walk_at "rd"
  ·rintro σ H2 ⟨u,v,w,rfl,c2,b2⟩
   walk_at "rd"
   exact q _ _ (Int.emod_nonneg _ (by decide)) (Int.emod_lt_of_pos _ (by decide)) c2 b2
end
def WS:List Str:=["and", "or", "xor", "pick", "not", "and", "xor", "or", "zero", "one"]
def arW (x:Str):Nat:=if x = "zero" then 0 else if x = "one" then 0 else if x = "not" then 1 else if x = "pick" then 3 else 2
theorem mkG {x:Str} (hx:x∈WS) {fs:List Nat} (hl:fs.length=arW x) {i:Nat} (hf:∀ a∈fs,a < i):∃ g:Gt,g.vs=.str x :: fs.map nV∧g.ok i (i + 1)∧g.isIn=false∧g.isKeep=false:=by
 have two:∀ {fs:List Nat},fs.length=2→∃ a b,fs=[a,b]:=fun {fs} h=>by
  match fs,h with
  | [a,b],_=>exact ⟨a,b,rfl⟩
 have d2:∀ {y:Str},arW y=2→fs.length=arW y→∃ a b,fs=[a,b]:=fun h1 h2=>two (h2.trans h1)
 simp only [WS,List.mem_cons,List.not_mem_nil,or_false] at hx
 rcases hx with rfl | rfl | rfl | rfl | rfl | rfl | rfl | rfl | rfl | rfl
 ·obtain ⟨a,b,rfl⟩:=d2 (by decide +kernel) hl
  exact ⟨.and a b,rfl,⟨hf a (by simp),hf b (by simp)⟩,rfl,rfl⟩
 ·obtain ⟨a,b,rfl⟩:=d2 (by decide +kernel) hl
  exact ⟨.or a b,rfl,⟨hf a (by simp),hf b (by simp)⟩,rfl,rfl⟩
 ·obtain ⟨a,b,rfl⟩:=d2 (by decide +kernel) hl
  exact ⟨.xor a b,rfl,⟨hf a (by simp),hf b (by simp)⟩,rfl,rfl⟩
 ·have hl:fs.length=3:=hl.trans (by decide +kernel)
  match fs,hl with
  | [a,b,c],_=>exact ⟨.pick a b c,rfl,⟨hf a (by simp),hf b (by simp),hf c (by simp)⟩,rfl,rfl⟩
 ·have hl:fs.length=1:=hl.trans (by decide +kernel)
  match fs,hl with
  | [a],_=>exact ⟨.not a,rfl,hf a (by simp),rfl,rfl⟩
 ·obtain ⟨a,b,rfl⟩:=d2 (by decide +kernel) hl
  exact ⟨.and a b,rfl,⟨hf a (by simp),hf b (by simp)⟩,rfl,rfl⟩
 ·obtain ⟨a,b,rfl⟩:=d2 (by decide +kernel) hl
  exact ⟨.xor a b,rfl,⟨hf a (by simp),hf b (by simp)⟩,rfl,rfl⟩
 ·obtain ⟨a,b,rfl⟩:=d2 (by decide +kernel) hl
  exact ⟨.or a b,rfl,⟨hf a (by simp),hf b (by simp)⟩,rfl,rfl⟩
 ·have hl:fs.length=0:=hl.trans (by decide +kernel)
  match fs,hl with
  | [],_=>exact ⟨.zero,rfl,trivial,rfl,rfl⟩
 ·have hl:fs.length=0:=hl.trans (by decide +kernel)
  match fs,hl with
  | [],_=>exact ⟨.one,rfl,trivial,rfl,rfl⟩
end

section
def Gt.src:Gt→Bool
 | .inp=>true
 | .keep _ _=>true
 | _=>false
def Gt.wd:Gt→Str
 | .inp => "in"
 | .zero => "zero"
 | .one => "one"
 | .keep _ _ => "keep"
 | .not _ => "not"
 | .and _ _ => "and"
 | .or _ _ => "or"
 | .xor _ _ => "xor"
 | .pick _ _ _ => "pick"
def Gt.ks:Gt→List Key
 | .inp=>[.inr "in"]
 | .zero=>[.inr "zero"]
 | .one=>[.inr "one"]
 | .keep f a=>[.inr "keep",.inl f,.inl a]
 | .not a=>[.inr "not",.inl a]
 | .and a b=>[.inr "and",.inl a,.inl b]
 | .or a b=>[.inr "or",.inl a,.inl b]
 | .xor a b=>[.inr "xor",.inl a,.inl b]
 | .pick a b c=>[.inr "pick",.inl a,.inl b,.inl c]
theorem Gt.vs_ks (g:Gt):g.vs=g.ks.map kV:=by cases g <;> rfl
theorem Gt.ks_wd (g:Gt):g.ks.head?=some (.inr g.wd):=by cases g <;> rfl
theorem Gt.wd_inj {g h:Gt} (e:g.wd=h.wd):g.ctorIdx=h.ctorIdx:=by
 cases g <;> cases h <;> first | rfl | (exfalso; revert e; simp only [Gt.wd]; decide +kernel)
theorem Gt.ks_inj {g h:Gt} (e:g.ks=h.ks):g=h:=by
 have e1:g.wd=h.wd:=by
  have:=congrArg List.head? e
  rw [Gt.ks_wd,Gt.ks_wd] at this
  exact Sum.inr.inj (Option.some.inj this)
 have e2:=Gt.wd_inj e1
 cases g <;> cases h <;> first | rfl | (exfalso; revert e2; simp [Gt.ctorIdx]; done) | (simp only [Gt.ks,List.cons.injEq,Sum.inl.injEq,Int.natCast_inj,and_true,true_and] at e; simp [e])
theorem Gt.vs_inj {g h:Gt} (e:g.vs=h.vs):g=h:=by
 refine Gt.ks_inj ?_
 rw [Gt.vs_ks,Gt.vs_ks] at e
 refine List.map_inj_right (f:=kV) (fun a b z=>?_) |>.mp e
 cases a <;> cases b <;> simp [kV] at z <;> simp [z]
theorem Gt.vs_sca (g:Gt):ScaL g.vs:=by
 refine ⟨fun z hz=>?_⟩
 rw [Gt.vs_ks] at hz
 obtain ⟨k,_,rfl⟩:=List.mem_map.mp hz
 exact zan8 k
def isZ (gs:List Gt) (n:Nat):Bool:=decide (gs[n]?=some .zero)
def isO (gs:List Gt) (n:Nat):Bool:=decide (gs[n]?=some .one)
def opsd (gs:List Gt) (a b:Nat):Bool:=decide (gs[a]?=some (.not b)) || decide (gs[b]?=some (.not a))
end

section
structure GA (H:Hp) (gl:Addr) (al:List Gt):Prop where
 ex:∃ xs,H gl=some (.lst xs)∧Gs H al xs
theorem GA.ch {H H':Hp}{gl:Addr}{al:List Gt} (g:GA H gl al) (c:Ch [] H H'):GA H' gl al:=let ⟨xs,a,b⟩:=g.ex; ⟨xs,c.get a (by simp),b.tu (Tu.same c)⟩
theorem GA.at {H:Hp}{gl:Addr}{al:List Gt} (r:GA H gl al) {n:Nat}{g:Gt} (h:al[n]?=some g):∃ xs p,H gl=some (.lst xs)∧atI xs (n:Int)=some (.ref p)∧H p=some (.tup g.vs)∧n < xs.length:=by
 obtain ⟨xs,hg,gg⟩:=r.ex
 obtain ⟨p,ep,hp⟩:=gg.at_ n g h
 exact ⟨xs,p,hg,zach ep,hp,(List.getElem?_eq_some_iff.mp ep).1⟩
theorem zapg (g h:Gt):decide (g.vs=h.vs)=decide (g=h):=by
 by_cases e:g=h
 ·subst e; simp
 ·rw [decide_eq_false e,decide_eq_false fun z=>e (Gt.vs_inj z)]
theorem zabd {gs:List Gt}{n:Nat}{g h:Gt} (e:gs[n]?=some g):decide (gs[n]?=some h)=decide (g.vs=h.vs):=by
 rw [e,zapg]
 by_cases z:g=h <;> simp [z]
theorem zads (a b:Nat):decide (V.int (a:Int)=V.int (b:Int))=decide (a=b):=by
 by_cases e:a=b
 ·subst e; simp
 ·rw [decide_eq_false e,decide_eq_false fun z=>e (by injection z with z; omega)]
theorem zabi {a b:Str} (h:decide (V.str a=V.str b)=true):a=b:=V.str.inj (of_decide_eq_true h)
theorem zaa8 {a b:Str} (h:¬ decide (V.str a=V.str b)=true):¬ a=b:=fun z=>h (decide_eq_true (by rw [z]))
local macro_rules | `(tactic| walk_at "user")=>`(tactic| first
 | (apply GA.ch; (focus with_reducible assumption); (focus walk_at "ch"))
 | exact Gt.vs_sca _)
section
variable {P:Program}{w:World}{K:PySem.W.Frag}{mg:Str→Option Value}{base:Heap}{f:Addr}{fd:FuncData}{k:Nat}
theorem zabn:Nd "is_one" := by decide +kernel
theorem zabk:Nd "is_zero" := by decide +kernel
theorem zabt:Nd "are_opposed" := by decide +kernel
theorem av15:AF (defScope (top 15)) ["gates", "number"]:=⟨by decide +kernel⟩
theorem zaey:FnScope ["gates", "number"] ["gates", "number"] (defScope (top 15)):=⟨rfl,rfl,rfl,by decide +kernel,rfl,by decide +kernel,by decide +kernel⟩
def spIsG (t:List Gt→Nat→Bool):Sp:=fun vs H Q _=>∃ (gl:Addr) (al:List Gt) (n:Nat),vs=[.ref gl,.int (n:Int)]∧GA H gl al∧n < al.length∧∀ H',Ch [] H H'→Q (.bl (t al n)) H'
theorem zah1 (F:Fun K "is_zero" "is_zero" (top 15) f fd):FnOk P w K mg base CX0 (k + 1) f fd ["gates", "number"] (spIsG isZ):=by
 have nd:=zaey.nd
 refine F.ok zaey (fun vs H Q E h=>by obtain ⟨gl,al,n,rfl,_⟩:=h; rfl) (fun cdv A outer s0 H vs Q E hr h=>?_)
 obtain ⟨gl,al,n,rfl,r,hn,q⟩:=h
 refine ⟨_,(Pr.h (zaaj (zaam (zaan (zacq hr.units) (zaar zaal (qv av15 0 rfl) (qv av15 1 rfl) (fun _ _=>rfl)) (zaaw (zaaa zaaf zaac zaab)) (nomark _))))),?_⟩
 (try dsimp only [cxOf])
 obtain ⟨g,eg⟩:∃ g,al[n]?=some g:=⟨_,List.getElem?_eq_getElem hn⟩
 obtain ⟨xs,p,hg,at1,hp,lx⟩:=r.at eg
 have sc:=Gt.vs_sca g
 have sc2:=Gt.vs_sca .zero
 have q:∀ H',Ch [] H H'→Q (.bl (decide (al[n]?=some .zero))) H':=q
 rw [zabd eg] at q
 walk_at "rd"
 rename_i T hT
 exact q _ (Ch.new hT _)
theorem av16:AF (defScope (top 16)) ["gates", "number"]:=⟨by decide +kernel⟩
theorem zaf2:FnScope ["gates", "number"] ["gates", "number"] (defScope (top 16)):=⟨rfl,rfl,rfl,by decide +kernel,rfl,by decide +kernel,by decide +kernel⟩
theorem zajh (F:Fun K "is_one" "is_one" (top 16) f fd):FnOk P w K mg base CX0 (k + 1) f fd ["gates", "number"] (spIsG isO):=by
 have nd:=zaf2.nd
 refine F.ok zaf2 (fun vs H Q E h=>by obtain ⟨gl,al,n,rfl,_⟩:=h; rfl) (fun cdv A outer s0 H vs Q E hr h=>?_)
 obtain ⟨gl,al,n,rfl,r,hn,q⟩:=h
 refine ⟨_,(Pr.h (zaaj (zaam (zaan (zacq hr.units) (zaar zaal (qv av16 0 rfl) (qv av16 1 rfl) (fun _ _=>rfl)) (zaaw (zaaa zaaf zaac zaab)) (nomark _))))),?_⟩
 (try dsimp only [cxOf])
 obtain ⟨g,eg⟩:∃ g,al[n]?=some g:=⟨_,List.getElem?_eq_getElem hn⟩
 obtain ⟨xs,p,hg,at1,hp,lx⟩:=r.at eg
 have sc:=Gt.vs_sca g
 have sc2:=Gt.vs_sca .one
 have q:∀ H',Ch [] H H'→Q (.bl (decide (al[n]?=some .one))) H':=q
 rw [zabd eg] at q
 walk_at "rd"
 rename_i T hT
 exact q _ (Ch.new hT _)
theorem av17:AF (defScope (top 17)) ["gates", "number", "other"]:=⟨by decide +kernel⟩
def spOpG:Sp:=fun vs H Q _=>∃ (gl:Addr) (al:List Gt) (a b:Nat),vs=[.ref gl,.int (a:Int),.int (b:Int)]∧GA H gl al∧a < al.length∧b < al.length∧∀ H',Ch [] H H'→Q (.bl (opsd al a b)) H'
theorem zak9:FnScope ["gates", "number", "other"] ["gates", "number", "other"] (defScope (top 17)):=⟨rfl,rfl,rfl,by decide +kernel,rfl,by decide +kernel,by decide +kernel⟩
theorem zaoj (F:Fun K "are_opposed" "are_opposed" (top 17) f fd):FnOk P w K mg base CX0 (k + 1) f fd ["gates", "number", "other"] spOpG:=by
 have nd:=zak9.nd
 refine F.ok zak9 (fun vs H Q E h=>by obtain ⟨gl,al,a,b,rfl,_⟩:=h; rfl) (fun cdv A outer s0 H vs Q E hr h=>?_)
 obtain ⟨gl,al,a,b,rfl,r,ha,hb,q⟩:=h
 refine ⟨_,(Pr.h (zaaj (zaam (zacu (zaan (zacq hr.units) (zaar zaal (qv av17 0 rfl) (qv av17 1 rfl) (fun _ _=>rfl)) (zaaw (zaaa zaaf (zaaa (qv av17 2 rfl) zaac zaad) zaab)) (nomark _)) (zaav (zaan (zacq hr.units) (zaar zaal (qv av17 0 rfl) (qv av17 2 rfl) (fun _ _=>rfl)) (zaaw (zaaa zaaf (zaaa (qv av17 1 rfl) zaac zaad) zaab)) (nomark _))))))),?_⟩
 (try dsimp only [cxOf])
 obtain ⟨g,eg⟩:∃ g,al[a]?=some g:=⟨_,List.getElem?_eq_getElem ha⟩
 obtain ⟨xs,p,hg,at1,hp,lx⟩:=r.at eg
 obtain ⟨g2,eg2⟩:∃ g2,al[b]?=some g2:=⟨_,List.getElem?_eq_getElem hb⟩
 obtain ⟨xs2,p2,hg2,at2,hp2,lx2⟩:=r.at eg2
 rw [hg] at hg2
 cases hg2
 have sc:=Gt.vs_sca g
 have sc1:=Gt.vs_sca g2
 have sc2:=Gt.vs_sca (.not b)
 have sc3:=Gt.vs_sca (.not a)
 have q:∀ H',Ch [] H H'→Q (.bl (decide (al[a]?=some (.not b)) || decide (al[b]?=some (.not a)))) H':=q
 rw [zabd eg,zabd eg2] at q
 cases e1:decide (g.vs=(Gt.not b).vs) with
 | true =>
  have e2:decide (g.vs=[V.str "not",V.int b])=true:=e1
  rw [e1,Bool.true_or] at q
  walk_at "rd"
  rename_i T hT
  rw [e2]
  exact q _ (Ch.new hT _)
 | false =>
  have e2:decide (g.vs=[V.str "not",V.int b])=false:=e1
  rw [e1,Bool.false_or] at q
  walk_at "rd"
  rename_i T hT
  rw [e2]
  refine iteF ?_
  walk_at "rd"
  rename_i T2 hT2
  exact q _ ((Ch.new hT _).trans (Ch.new hT2 _))
theorem av18:AF (defScope (top 18)) ["gates", "why", "it", "feeds", "x"]:=⟨by decide +kernel⟩
theorem gl18:AG (defScope (top 18)) ["is_one", "is_zero"]:=⟨by decide +kernel⟩
def notB (al:List Gt) (why:Str) (it x:Nat):Bool:=if why = "inner" then decide (al[x]?=some (.not it)) else if why = "one" then isZ al x && isO al it else if why = "zero" then isO al x && isZ al it else false
def spNotB:Sp:=fun vs H Q _=>∃ (gl fl:Addr) (al:List Gt) (why:Str) (it x:Nat),vs=[.ref gl,.str why,.int (it:Int),.ref fl]∧GA H gl al∧H fl=some (.lst [.int (x:Int)])∧it < al.length∧x < al.length∧∀ H',Ch [] H H'→Q (.bl (notB al why it x)) H'
theorem scNotB:FnScope ["gates", "why", "it", "feeds", "x"] ["gates", "why", "it", "feeds"] (defScope (top 18)):=⟨rfl,rfl,rfl,by decide +kernel,rfl,by decide +kernel,by decide +kernel⟩
theorem zamf (F:Fun K "not_holds" "not_holds" (top 18) f fd) (Dis_zero:DefOk P w K mg base CX0 k "is_zero" ["gates", "number"] (spIsG isZ)) (Dis_one:DefOk P w K mg base CX0 k "is_one" ["gates", "number"] (spIsG isO)) (Dare_opposed:DefOk P w K mg base CX0 k "are_opposed" ["gates", "number", "other"] spOpG):FnOk P w K mg base CX0 (k + 1) f fd ["gates", "why", "it", "feeds"] spNotB:=by
 have nd:=scNotB.nd
 refine F.ok scNotB (fun vs H Q E h=>by obtain ⟨gl,fl,al,why,it,x,rfl,_⟩:=h; rfl) (fun cdv A outer s0 H vs Q E hr h=>?_)
 obtain ⟨gl,fl,al,why,it,x,rfl,r,hf,li,lx,q⟩:=h
 refine ⟨_,(Pr.h (zaah (zaap (i:=4) nd rfl (av18.l 4 rfl) (zaar zaal (qv av18 3 rfl) zaae (fun _ _=>rfl))) (zaah (zaa1 (zaak zaa3 (qv av18 1 rfl) zaaf (nomark _)) (zaaj (zaam (zaan (zacq hr.units) (zaar zaal (qv av18 0 rfl) (qv av18 4 rfl) (fun _ _=>rfl)) (zaaw (zaaa zaaf (zaaa (qv av18 2 rfl) zaac zaad) zaab)) (nomark _)))) zaao) (zaah (zaa1 (zaak zaa3 (qv av18 1 rfl) zaaf (nomark _)) (zaaj (zaam (zaay (zaai Dis_zero hr (gl18.g 1 rfl) pass0 (zaaa (qv av18 0 rfl) (zaaa (qv av18 4 rfl) zaac zaad) zaad) zabk) (zaav (zaai Dis_one hr (gl18.g 0 rfl) pass0 (zaaa (qv av18 0 rfl) (zaaa (qv av18 2 rfl) zaac zaad) zaad) zabn))))) zaao) (zaah (zaa1 (zaak zaa3 (qv av18 1 rfl) zaaf (nomark _)) (zaaj (zaam (zaay (zaai Dis_one hr (gl18.g 0 rfl) pass0 (zaaa (qv av18 0 rfl) (zaaa (qv av18 4 rfl) zaac zaad) zaad) zabn) (zaav (zaai Dis_zero hr (gl18.g 1 rfl) pass0 (zaaa (qv av18 0 rfl) (zaaa (qv av18 2 rfl) zaac zaad) zaad) zabk))))) zaao) (zaaj (zaam zabw))))))),?_⟩
 (try dsimp only [cxOf])
 have c0:=Ch.refl [] H
 obtain ⟨g,eg⟩:∃ g,al[x]?=some g:=⟨_,List.getElem?_eq_getElem lx⟩
 obtain ⟨xs,p,hg,at1,hp,lp⟩:=r.at eg
 have sc:=Gt.vs_sca g
 have sc2:=Gt.vs_sca (.not it)
 walk_at "rd"
 refine ite2 (fun ez=>?_) (fun ez=>?_)
 ·have hw:=zabi ez
  subst hw
  clear ez
  have e0:=zabd (h:=.not it) eg
  rw [show notB al _ it x=decide (al[x]?=some (.not it)) from by simp [notB],e0] at q
  walk_at "rd"
  rename_i T hT
  exact q _ (Ch.new hT _)
 have w0:=zaa8 ez
 clear ez
 walk_at "rd"
 refine ite2 (fun ez=>?_) (fun ez=>?_)
 ·have hw:=zabi ez
  subst hw
  clear ez
  have s0:¬ (Str.ofString "one" = Str.ofString "inner"):=by decide +kernel
  walk_at "rd"
  rename_i H1 d1
  have c1:=c0.trans d1
  (try dsimp only)
  refine ite2 (fun h1=>?_) (fun h1=>?_)
  ·walk_at "rd"
   rename_i H2 d2
   have c2:=c1.trans d2
   rw [show notB al (Str.ofString "one") it x=isO al it from by simp [notB,s0,h1]] at q
   exact q _ c2
  ·rw [show notB al (Str.ofString "one") it x=false from by simp [notB,s0,h1]] at q
   exact q _ c1
 have w1:=zaa8 ez
 clear ez
 walk_at "rd"
 refine ite2 (fun ez=>?_) (fun ez=>?_)
 ·have hw:=zabi ez
  subst hw
  clear ez
  have s0:¬ (Str.ofString "zero" = Str.ofString "inner"):=by decide +kernel
  have s1:¬ (Str.ofString "zero" = Str.ofString "one"):=by decide +kernel
  walk_at "rd"
  rename_i H1 d1
  have c1:=c0.trans d1
  (try dsimp only)
  refine ite2 (fun h2=>?_) (fun h2=>?_)
  ·walk_at "rd"
   rename_i H2 d2
   have c2:=c1.trans d2
   rw [show notB al (Str.ofString "zero") it x=isZ al it from by simp [notB,s0,s1,h2]] at q
   exact q _ c2
  ·rw [show notB al (Str.ofString "zero") it x=false from by simp [notB,s0,s1,h2]] at q
   exact q _ c1
 have w2:=zaa8 ez
 clear ez
 walk_at "rd"
 rw [show notB al why it x=false from by simp [notB,w0,w1,w2]] at q
 exact q _ c0
theorem av19:AF (defScope (top 19)) ["gates", "why", "it", "feeds", "x", "y"]:=⟨by decide +kernel⟩
theorem gl19:AG (defScope (top 19)) ["is_one", "are_opposed", "is_zero"]:=⟨by decide +kernel⟩
def andB (al:List Gt) (why:Str) (it x y:Nat):Bool:=if why = "first" then decide (it=x) && (isO al y || decide (y=x)) else if why = "second" then decide (it=y) && isO al x else if why = "zero" then isZ al it && (isZ al x || (isZ al y || opsd al x y)) else false
def spAndB:Sp:=fun vs H Q _=>∃ (gl fl:Addr) (al:List Gt) (why:Str) (it x y:Nat),vs=[.ref gl,.str why,.int (it:Int),.ref fl]∧GA H gl al∧H fl=some (.lst [.int (x:Int),.int (y:Int)])∧it < al.length∧x < al.length∧y < al.length∧∀ H',Ch [] H H'→Q (.bl (andB al why it x y)) H'
theorem scAndB:FnScope ["gates", "why", "it", "feeds", "x", "y"] ["gates", "why", "it", "feeds"] (defScope (top 19)):=⟨rfl,rfl,rfl,by decide +kernel,rfl,by decide +kernel,by decide +kernel⟩
theorem zamg (F:Fun K "and_holds" "and_holds" (top 19) f fd) (Dis_zero:DefOk P w K mg base CX0 k "is_zero" ["gates", "number"] (spIsG isZ)) (Dis_one:DefOk P w K mg base CX0 k "is_one" ["gates", "number"] (spIsG isO)) (Dare_opposed:DefOk P w K mg base CX0 k "are_opposed" ["gates", "number", "other"] spOpG):FnOk P w K mg base CX0 (k + 1) f fd ["gates", "why", "it", "feeds"] spAndB:=by
 have nd:=scAndB.nd
 refine F.ok scAndB (fun vs H Q E h=>by obtain ⟨gl,fl,al,why,it,x,y,rfl,_⟩:=h; rfl) (fun cdv A outer s0 H vs Q E hr h=>?_)
 obtain ⟨gl,fl,al,why,it,x,y,rfl,r,hf,li,lx,ly,q⟩:=h
 refine ⟨_,(Pr.h (zaah (zaap (i:=4) nd rfl (av19.l 4 rfl) (zaar zaal (qv av19 3 rfl) zaae (fun _ _=>rfl))) (zaah (zaap (i:=5) nd rfl (av19.l 5 rfl) (zaar zaal (qv av19 3 rfl) zaae (fun _ _=>rfl))) (zaah (zaa1 (zaak zaa3 (qv av19 1 rfl) zaaf (nomark _)) (zaaj (zaam (zaay (zaan zaa3 (qv av19 2 rfl) (qv av19 4 rfl) (nomark _)) (zaav (zacu (zaai Dis_one hr (gl19.g 0 rfl) pass0 (zaaa (qv av19 0 rfl) (zaaa (qv av19 5 rfl) zaac zaad) zaad) zabn) (zaav (zaan zaa3 (qv av19 5 rfl) (qv av19 4 rfl) (nomark _)))))))) zaao) (zaah (zaa1 (zaak zaa3 (qv av19 1 rfl) zaaf (nomark _)) (zaaj (zaam (zaay (zaan zaa3 (qv av19 2 rfl) (qv av19 5 rfl) (nomark _)) (zaav (zaai Dis_one hr (gl19.g 0 rfl) pass0 (zaaa (qv av19 0 rfl) (zaaa (qv av19 4 rfl) zaac zaad) zaad) zabn))))) zaao) (zaah (zaa1 (zaak zaa3 (qv av19 1 rfl) zaaf (nomark _)) (zaaj (zaam (zaay (zaai Dis_zero hr (gl19.g 2 rfl) pass0 (zaaa (qv av19 0 rfl) (zaaa (qv av19 2 rfl) zaac zaad) zaad) zabk) (zaav (zacu (zaai Dis_zero hr (gl19.g 2 rfl) pass0 (zaaa (qv av19 0 rfl) (zaaa (qv av19 4 rfl) zaac zaad) zaad) zabk) (zacu (zaai Dis_zero hr (gl19.g 2 rfl) pass0 (zaaa (qv av19 0 rfl) (zaaa (qv av19 5 rfl) zaac zaad) zaad) zabk) (zaav (zaai Dare_opposed hr (gl19.g 1 rfl) pass0 (zaaa (qv av19 0 rfl) (zaaa (qv av19 4 rfl) (zaaa (qv av19 5 rfl) zaac zaad) zaad) zaad) zabt)))))))) zaao) (zaaj (zaam zabw)))))))),?_⟩
 (try dsimp only [cxOf])
 have c0:=Ch.refl [] H
 walk_at "rd"
 refine ite2 (fun ez=>?_) (fun ez=>?_)
 ·have hw:=zabi ez
  subst hw
  clear ez
  walk_at "rd"
  (try dsimp only)
  refine ite2 (fun ez=>?_) (fun ez=>?_)
  ·have h3:it=x:=by simp at ez; omega
   clear ez
   walk_at "rd"
   rename_i H1 d1
   have c1:=c0.trans d1
   (try dsimp only)
   refine ite2 (fun h4=>?_) (fun h4=>?_)
   ·rw [show andB al (Str.ofString "first") it x y=true from by simp [andB,h3,h4]] at q
    exact q _ c1
   ·walk_at "rd"
    rw [zads]
    rw [show andB al (Str.ofString "first") it x y=decide (y=x) from by simp [andB,h3,h4]] at q
    exact q _ c1
  ·have h3:¬ it=x:=by simp at ez; omega
   clear ez
   rw [show andB al (Str.ofString "first") it x y=false from by simp [andB,h3]] at q
   exact q _ c0
 have w0:=zaa8 ez
 clear ez
 walk_at "rd"
 refine ite2 (fun ez=>?_) (fun ez=>?_)
 ·have hw:=zabi ez
  subst hw
  clear ez
  have s0:¬ (Str.ofString "second" = Str.ofString "first"):=by decide +kernel
  walk_at "rd"
  (try dsimp only)
  refine ite2 (fun ez=>?_) (fun ez=>?_)
  ·have h5:it=y:=by simp at ez; omega
   clear ez
   walk_at "rd"
   rename_i H1 d1
   have c1:=c0.trans d1
   rw [show andB al (Str.ofString "second") it x y=isO al x from by simp [andB,s0,h5]] at q
   exact q _ c1
  ·have h5:¬ it=y:=by simp at ez; omega
   clear ez
   rw [show andB al (Str.ofString "second") it x y=false from by simp [andB,s0,h5]] at q
   exact q _ c0
 have w1:=zaa8 ez
 clear ez
 walk_at "rd"
 refine ite2 (fun ez=>?_) (fun ez=>?_)
 ·have hw:=zabi ez
  subst hw
  clear ez
  have s0:¬ (Str.ofString "zero" = Str.ofString "first"):=by decide +kernel
  have s1:¬ (Str.ofString "zero" = Str.ofString "second"):=by decide +kernel
  walk_at "rd"
  rename_i H1 d1
  have c1:=c0.trans d1
  (try dsimp only)
  refine ite2 (fun h6=>?_) (fun h6=>?_)
  ·walk_at "rd"
   rename_i H2 d2
   have c2:=c1.trans d2
   (try dsimp only)
   refine ite2 (fun h7=>?_) (fun h7=>?_)
   ·rw [show andB al (Str.ofString "zero") it x y=true from by simp [andB,s0,s1,h6,h7]] at q
    exact q _ c2
   ·walk_at "rd"
    rename_i H3 d3
    have c3:=c2.trans d3
    (try dsimp only)
    refine ite2 (fun h8=>?_) (fun h8=>?_)
    ·rw [show andB al (Str.ofString "zero") it x y=true from by simp [andB,s0,s1,h6,h7,h8]] at q
     exact q _ c3
    ·walk_at "rd"
     rename_i H4 d4
     have c4:=c3.trans d4
     rw [show andB al (Str.ofString "zero") it x y=opsd al x y from by simp [andB,s0,s1,h6,h7,h8]] at q
     exact q _ c4
  ·rw [show andB al (Str.ofString "zero") it x y=false from by simp [andB,s0,s1,h6]] at q
   exact q _ c1
 have w2:=zaa8 ez
 clear ez
 walk_at "rd"
 rw [show andB al why it x y=false from by simp [andB,w0,w1,w2]] at q
 exact q _ c0
theorem av20:AF (defScope (top 20)) ["gates", "why", "it", "feeds", "x", "y"]:=⟨by decide +kernel⟩
theorem gl20:AG (defScope (top 20)) ["is_zero", "are_opposed", "is_one"]:=⟨by decide +kernel⟩
def orB (al:List Gt) (why:Str) (it x y:Nat):Bool:=if why = "first" then decide (it=x) && (isZ al y || decide (y=x)) else if why = "second" then decide (it=y) && isZ al x else if why = "one" then isO al it && (isO al x || (isO al y || opsd al x y)) else false
def spOrB:Sp:=fun vs H Q _=>∃ (gl fl:Addr) (al:List Gt) (why:Str) (it x y:Nat),vs=[.ref gl,.str why,.int (it:Int),.ref fl]∧GA H gl al∧H fl=some (.lst [.int (x:Int),.int (y:Int)])∧it < al.length∧x < al.length∧y < al.length∧∀ H',Ch [] H H'→Q (.bl (orB al why it x y)) H'
theorem scOrB:FnScope ["gates", "why", "it", "feeds", "x", "y"] ["gates", "why", "it", "feeds"] (defScope (top 20)):=⟨rfl,rfl,rfl,by decide +kernel,rfl,by decide +kernel,by decide +kernel⟩
theorem zaok (F:Fun K "or_holds" "or_holds" (top 20) f fd) (Dis_zero:DefOk P w K mg base CX0 k "is_zero" ["gates", "number"] (spIsG isZ)) (Dis_one:DefOk P w K mg base CX0 k "is_one" ["gates", "number"] (spIsG isO)) (Dare_opposed:DefOk P w K mg base CX0 k "are_opposed" ["gates", "number", "other"] spOpG):FnOk P w K mg base CX0 (k + 1) f fd ["gates", "why", "it", "feeds"] spOrB:=by
 have nd:=scOrB.nd
 refine F.ok scOrB (fun vs H Q E h=>by obtain ⟨gl,fl,al,why,it,x,y,rfl,_⟩:=h; rfl) (fun cdv A outer s0 H vs Q E hr h=>?_)
 obtain ⟨gl,fl,al,why,it,x,y,rfl,r,hf,li,lx,ly,q⟩:=h
 refine ⟨_,(Pr.h (zaah (zaap (i:=4) nd rfl (av20.l 4 rfl) (zaar zaal (qv av20 3 rfl) zaae (fun _ _=>rfl))) (zaah (zaap (i:=5) nd rfl (av20.l 5 rfl) (zaar zaal (qv av20 3 rfl) zaae (fun _ _=>rfl))) (zaah (zaa1 (zaak zaa3 (qv av20 1 rfl) zaaf (nomark _)) (zaaj (zaam (zaay (zaan zaa3 (qv av20 2 rfl) (qv av20 4 rfl) (nomark _)) (zaav (zacu (zaai Dis_zero hr (gl20.g 0 rfl) pass0 (zaaa (qv av20 0 rfl) (zaaa (qv av20 5 rfl) zaac zaad) zaad) zabk) (zaav (zaan zaa3 (qv av20 5 rfl) (qv av20 4 rfl) (nomark _)))))))) zaao) (zaah (zaa1 (zaak zaa3 (qv av20 1 rfl) zaaf (nomark _)) (zaaj (zaam (zaay (zaan zaa3 (qv av20 2 rfl) (qv av20 5 rfl) (nomark _)) (zaav (zaai Dis_zero hr (gl20.g 0 rfl) pass0 (zaaa (qv av20 0 rfl) (zaaa (qv av20 4 rfl) zaac zaad) zaad) zabk))))) zaao) (zaah (zaa1 (zaak zaa3 (qv av20 1 rfl) zaaf (nomark _)) (zaaj (zaam (zaay (zaai Dis_one hr (gl20.g 2 rfl) pass0 (zaaa (qv av20 0 rfl) (zaaa (qv av20 2 rfl) zaac zaad) zaad) zabn) (zaav (zacu (zaai Dis_one hr (gl20.g 2 rfl) pass0 (zaaa (qv av20 0 rfl) (zaaa (qv av20 4 rfl) zaac zaad) zaad) zabn) (zacu (zaai Dis_one hr (gl20.g 2 rfl) pass0 (zaaa (qv av20 0 rfl) (zaaa (qv av20 5 rfl) zaac zaad) zaad) zabn) (zaav (zaai Dare_opposed hr (gl20.g 1 rfl) pass0 (zaaa (qv av20 0 rfl) (zaaa (qv av20 4 rfl) (zaaa (qv av20 5 rfl) zaac zaad) zaad) zaad) zabt)))))))) zaao) (zaaj (zaam zabw)))))))),?_⟩
 (try dsimp only [cxOf])
 have c0:=Ch.refl [] H
 walk_at "rd"
 refine ite2 (fun ez=>?_) (fun ez=>?_)
 ·have hw:=zabi ez
  subst hw
  clear ez
  walk_at "rd"
  (try dsimp only)
  refine ite2 (fun ez=>?_) (fun ez=>?_)
  ·have h9:it=x:=by simp at ez; omega
   clear ez
   walk_at "rd"
   rename_i H1 d1
   have c1:=c0.trans d1
   (try dsimp only)
   refine ite2 (fun h10=>?_) (fun h10=>?_)
   ·rw [show orB al (Str.ofString "first") it x y=true from by simp [orB,h9,h10]] at q
    exact q _ c1
   ·walk_at "rd"
    rw [zads]
    rw [show orB al (Str.ofString "first") it x y=decide (y=x) from by simp [orB,h9,h10]] at q
    exact q _ c1
  ·have h9:¬ it=x:=by simp at ez; omega
   clear ez
   rw [show orB al (Str.ofString "first") it x y=false from by simp [orB,h9]] at q
   exact q _ c0
 have w0:=zaa8 ez
 clear ez
 walk_at "rd"
 refine ite2 (fun ez=>?_) (fun ez=>?_)
 ·have hw:=zabi ez
  subst hw
  clear ez
  have s0:¬ (Str.ofString "second" = Str.ofString "first"):=by decide +kernel
  walk_at "rd"
  (try dsimp only)
  refine ite2 (fun ez=>?_) (fun ez=>?_)
  ·have h11:it=y:=by simp at ez; omega
   clear ez
   walk_at "rd"
   rename_i H1 d1
   have c1:=c0.trans d1
   rw [show orB al (Str.ofString "second") it x y=isZ al x from by simp [orB,s0,h11]] at q
   exact q _ c1
  ·have h11:¬ it=y:=by simp at ez; omega
   clear ez
   rw [show orB al (Str.ofString "second") it x y=false from by simp [orB,s0,h11]] at q
   exact q _ c0
 have w1:=zaa8 ez
 clear ez
 walk_at "rd"
 refine ite2 (fun ez=>?_) (fun ez=>?_)
 ·have hw:=zabi ez
  subst hw
  clear ez
  have s0:¬ (Str.ofString "one" = Str.ofString "first"):=by decide +kernel
  have s1:¬ (Str.ofString "one" = Str.ofString "second"):=by decide +kernel
  walk_at "rd"
  rename_i H1 d1
  have c1:=c0.trans d1
  (try dsimp only)
  refine ite2 (fun h12=>?_) (fun h12=>?_)
  ·walk_at "rd"
   rename_i H2 d2
   have c2:=c1.trans d2
   (try dsimp only)
   refine ite2 (fun h13=>?_) (fun h13=>?_)
   ·rw [show orB al (Str.ofString "one") it x y=true from by simp [orB,s0,s1,h12,h13]] at q
    exact q _ c2
   ·walk_at "rd"
    rename_i H3 d3
    have c3:=c2.trans d3
    (try dsimp only)
    refine ite2 (fun h14=>?_) (fun h14=>?_)
    ·rw [show orB al (Str.ofString "one") it x y=true from by simp [orB,s0,s1,h12,h13,h14]] at q
     exact q _ c3
    ·walk_at "rd"
     rename_i H4 d4
     have c4:=c3.trans d4
     rw [show orB al (Str.ofString "one") it x y=opsd al x y from by simp [orB,s0,s1,h12,h13,h14]] at q
     exact q _ c4
  ·rw [show orB al (Str.ofString "one") it x y=false from by simp [orB,s0,s1,h12]] at q
   exact q _ c1
 have w2:=zaa8 ez
 clear ez
 walk_at "rd"
 rw [show orB al why it x y=false from by simp [orB,w0,w1,w2]] at q
 exact q _ c0
theorem av21:AF (defScope (top 21)) ["gates", "why", "it", "feeds", "x", "y"]:=⟨by decide +kernel⟩
theorem gl21:AG (defScope (top 21)) ["is_zero", "are_opposed", "is_one"]:=⟨by decide +kernel⟩
def xorB (al:List Gt) (why:Str) (it x y:Nat):Bool:=if why = "first" then decide (it=x) && isZ al y else if why = "second" then decide (it=y) && isZ al x else if why = "zero" then isZ al it && decide (x=y) else if why = "one" then isO al it && opsd al x y else if why = "not" then (isO al y && opsd al it x) || (isO al x && opsd al it y) else false
def spXorB:Sp:=fun vs H Q _=>∃ (gl fl:Addr) (al:List Gt) (why:Str) (it x y:Nat),vs=[.ref gl,.str why,.int (it:Int),.ref fl]∧GA H gl al∧H fl=some (.lst [.int (x:Int),.int (y:Int)])∧it < al.length∧x < al.length∧y < al.length∧∀ H',Ch [] H H'→Q (.bl (xorB al why it x y)) H'
theorem scXorB:FnScope ["gates", "why", "it", "feeds", "x", "y"] ["gates", "why", "it", "feeds"] (defScope (top 21)):=⟨rfl,rfl,rfl,by decide +kernel,rfl,by decide +kernel,by decide +kernel⟩
theorem zamh (F:Fun K "xor_holds" "xor_holds" (top 21) f fd) (Dis_zero:DefOk P w K mg base CX0 k "is_zero" ["gates", "number"] (spIsG isZ)) (Dis_one:DefOk P w K mg base CX0 k "is_one" ["gates", "number"] (spIsG isO)) (Dare_opposed:DefOk P w K mg base CX0 k "are_opposed" ["gates", "number", "other"] spOpG):FnOk P w K mg base CX0 (k + 1) f fd ["gates", "why", "it", "feeds"] spXorB:=by
 have nd:=scXorB.nd
 refine F.ok scXorB (fun vs H Q E h=>by obtain ⟨gl,fl,al,why,it,x,y,rfl,_⟩:=h; rfl) (fun cdv A outer s0 H vs Q E hr h=>?_)
 obtain ⟨gl,fl,al,why,it,x,y,rfl,r,hf,li,lx,ly,q⟩:=h
 refine ⟨_,(Pr.h (zaah (zaap (i:=4) nd rfl (av21.l 4 rfl) (zaar zaal (qv av21 3 rfl) zaae (fun _ _=>rfl))) (zaah (zaap (i:=5) nd rfl (av21.l 5 rfl) (zaar zaal (qv av21 3 rfl) zaae (fun _ _=>rfl))) (zaah (zaa1 (zaak zaa3 (qv av21 1 rfl) zaaf (nomark _)) (zaaj (zaam (zaay (zaan zaa3 (qv av21 2 rfl) (qv av21 4 rfl) (nomark _)) (zaav (zaai Dis_zero hr (gl21.g 0 rfl) pass0 (zaaa (qv av21 0 rfl) (zaaa (qv av21 5 rfl) zaac zaad) zaad) zabk))))) zaao) (zaah (zaa1 (zaak zaa3 (qv av21 1 rfl) zaaf (nomark _)) (zaaj (zaam (zaay (zaan zaa3 (qv av21 2 rfl) (qv av21 5 rfl) (nomark _)) (zaav (zaai Dis_zero hr (gl21.g 0 rfl) pass0 (zaaa (qv av21 0 rfl) (zaaa (qv av21 4 rfl) zaac zaad) zaad) zabk))))) zaao) (zaah (zaa1 (zaak zaa3 (qv av21 1 rfl) zaaf (nomark _)) (zaaj (zaam (zaay (zaai Dis_zero hr (gl21.g 0 rfl) pass0 (zaaa (qv av21 0 rfl) (zaaa (qv av21 2 rfl) zaac zaad) zaad) zabk) (zaav (zaan zaa3 (qv av21 4 rfl) (qv av21 5 rfl) (nomark _)))))) zaao) (zaah (zaa1 (zaak zaa3 (qv av21 1 rfl) zaaf (nomark _)) (zaaj (zaam (zaay (zaai Dis_one hr (gl21.g 2 rfl) pass0 (zaaa (qv av21 0 rfl) (zaaa (qv av21 2 rfl) zaac zaad) zaad) zabn) (zaav (zaai Dare_opposed hr (gl21.g 1 rfl) pass0 (zaaa (qv av21 0 rfl) (zaaa (qv av21 4 rfl) (zaaa (qv av21 5 rfl) zaac zaad) zaad) zaad) zabt))))) zaao) (zaah (zaa1 (zab3 (zacl (zaak zaa3 (qv av21 1 rfl) zaaf (nomark _)) (zacl (zabu (zaai Dis_one hr (gl21.g 2 rfl) pass0 (zaaa (qv av21 0 rfl) (zaaa (qv av21 5 rfl) zaac zaad) zaad) zabn)) (zacd (zabu (zaai Dare_opposed hr (gl21.g 1 rfl) pass0 (zaaa (qv av21 0 rfl) (zaaa (qv av21 2 rfl) (zaaa (qv av21 4 rfl) zaac zaad) zaad) zaad) zabt)))))) (zaaj (zaam zabw)) zaao) (zaaj (zaam (zaay (zaan zaa3 (qv av21 1 rfl) zaaf (nomark _)) (zaay (zaai Dis_one hr (gl21.g 2 rfl) pass0 (zaaa (qv av21 0 rfl) (zaaa (qv av21 4 rfl) zaac zaad) zaad) zabn) (zaav (zaai Dare_opposed hr (gl21.g 1 rfl) pass0 (zaaa (qv av21 0 rfl) (zaaa (qv av21 2 rfl) (zaaa (qv av21 5 rfl) zaac zaad) zaad) zaad) zabt)))))))))))))),?_⟩
 (try dsimp only [cxOf])
 have c0:=Ch.refl [] H
 walk_at "rd"
 refine ite2 (fun ez=>?_) (fun ez=>?_)
 ·have hw:=zabi ez
  subst hw
  clear ez
  walk_at "rd"
  (try dsimp only)
  refine ite2 (fun ez=>?_) (fun ez=>?_)
  ·have h15:it=x:=by simp at ez; omega
   clear ez
   walk_at "rd"
   rename_i H1 d1
   have c1:=c0.trans d1
   rw [show xorB al (Str.ofString "first") it x y=isZ al y from by simp [xorB,h15]] at q
   exact q _ c1
  ·have h15:¬ it=x:=by simp at ez; omega
   clear ez
   rw [show xorB al (Str.ofString "first") it x y=false from by simp [xorB,h15]] at q
   exact q _ c0
 have w0:=zaa8 ez
 clear ez
 walk_at "rd"
 refine ite2 (fun ez=>?_) (fun ez=>?_)
 ·have hw:=zabi ez
  subst hw
  clear ez
  have s0:¬ (Str.ofString "second" = Str.ofString "first"):=by decide +kernel
  walk_at "rd"
  (try dsimp only)
  refine ite2 (fun ez=>?_) (fun ez=>?_)
  ·have h16:it=y:=by simp at ez; omega
   clear ez
   walk_at "rd"
   rename_i H1 d1
   have c1:=c0.trans d1
   rw [show xorB al (Str.ofString "second") it x y=isZ al x from by simp [xorB,s0,h16]] at q
   exact q _ c1
  ·have h16:¬ it=y:=by simp at ez; omega
   clear ez
   rw [show xorB al (Str.ofString "second") it x y=false from by simp [xorB,s0,h16]] at q
   exact q _ c0
 have w1:=zaa8 ez
 clear ez
 walk_at "rd"
 refine ite2 (fun ez=>?_) (fun ez=>?_)
 ·have hw:=zabi ez
  subst hw
  clear ez
  have s0:¬ (Str.ofString "zero" = Str.ofString "first"):=by decide +kernel
  have s1:¬ (Str.ofString "zero" = Str.ofString "second"):=by decide +kernel
  walk_at "rd"
  rename_i H1 d1
  have c1:=c0.trans d1
  (try dsimp only)
  refine ite2 (fun h17=>?_) (fun h17=>?_)
  ·walk_at "rd"
   rw [zads]
   rw [show xorB al (Str.ofString "zero") it x y=decide (x=y) from by simp [xorB,s0,s1,h17]] at q
   exact q _ c1
  ·rw [show xorB al (Str.ofString "zero") it x y=false from by simp [xorB,s0,s1,h17]] at q
   exact q _ c1
 have w2:=zaa8 ez
 clear ez
 walk_at "rd"
 refine ite2 (fun ez=>?_) (fun ez=>?_)
 ·have hw:=zabi ez
  subst hw
  clear ez
  have s0:¬ (Str.ofString "one" = Str.ofString "first"):=by decide +kernel
  have s1:¬ (Str.ofString "one" = Str.ofString "second"):=by decide +kernel
  have s2:¬ (Str.ofString "one" = Str.ofString "zero"):=by decide +kernel
  walk_at "rd"
  rename_i H1 d1
  have c1:=c0.trans d1
  (try dsimp only)
  refine ite2 (fun h18=>?_) (fun h18=>?_)
  ·walk_at "rd"
   rename_i H2 d2
   have c2:=c1.trans d2
   rw [show xorB al (Str.ofString "one") it x y=opsd al x y from by simp [xorB,s0,s1,s2,h18]] at q
   exact q _ c2
  ·rw [show xorB al (Str.ofString "one") it x y=false from by simp [xorB,s0,s1,s2,h18]] at q
   exact q _ c1
 have w3:=zaa8 ez
 clear ez
 by_cases hn:why=Str.ofString "not"
 ·subst hn
  rw [show xorB al (Str.ofString "not") it x y=((isO al y && opsd al it x) || (isO al x && opsd al it y)) from by simp [xorB,w0,w1,w2,w3]] at q
  walk_at "rd"
  rename_i H1 d1
  have c1:=c0.trans d1
  (try dsimp only)
  refine ite2 (fun h1=>?_) (fun h1=>?_)
  ·walk_at "rd"
   rename_i H2 d2
   have c2:=c1.trans d2
   (try dsimp only)
   refine ite2 (fun h2=>?_) (fun h2=>?_)
   ·walk_at "rd"
    rw [show ((isO al y && opsd al it x) || (isO al x && opsd al it y))=true from by simp [h1,h2]] at q
    exact q _ c2
   ·walk_at "rd"
    rename_i H3 d3
    have c3:=c2.trans d3
    (try dsimp only)
    refine ite2 (fun t=>?_) (fun t=>?_)
    ·walk_at "rd"
     rename_i H4 d4
     have c4:=c3.trans d4
     (try dsimp only)
     rw [show ((isO al y && opsd al it x) || (isO al x && opsd al it y))=opsd al it y from by simp [h1,h2,t]] at q
     exact q _ c4
    ·rw [show ((isO al y && opsd al it x) || (isO al x && opsd al it y))=false from by simp [h1,h2,t]] at q
     exact q _ c3
  ·refine iteF ?_
   walk_at "rd"
   rename_i H2 d2
   have c2:=c1.trans d2
   (try dsimp only)
   refine ite2 (fun t=>?_) (fun t=>?_)
   ·walk_at "rd"
    rename_i H3 d3
    have c3:=c2.trans d3
    (try dsimp only)
    rw [show ((isO al y && opsd al it x) || (isO al x && opsd al it y))=opsd al it y from by simp [h1,t]] at q
    exact q _ c3
   ·rw [show ((isO al y && opsd al it x) || (isO al x && opsd al it y))=false from by simp [h1,t]] at q
    exact q _ c2
 have wn:decide (V.str why=V.str "not")=false:=decide_eq_false fun z=>hn (V.str.inj z)
 walk_at "rd"
 rw [wn]
 refine iteF ?_
 refine iteF ?_
 walk_at "rd"
 rw [wn]
 refine iteF ?_
 rw [show xorB al why it x y=false from by simp [xorB,hn,w0,w1,w2,w3]] at q
 exact q _ c0
theorem av22:AF (defScope (top 22)) ["gates", "why", "it", "feeds", "x", "y", "z"]:=⟨by decide +kernel⟩
theorem gl22:AG (defScope (top 22)) ["is_one", "is_zero", "are_opposed"]:=⟨by decide +kernel⟩
def pickB (al:List Gt) (why:Str) (it x y z:Nat):Bool:=if why = "second" then decide (it=y) && (isO al x || decide (y=z)) else if why = "third" then decide (it=z) && isZ al x else if why = "first" then decide (it=x) && (isO al y && isZ al z) else if why = "not" then opsd al it x && (isZ al y && isO al z) else false
def spPickB:Sp:=fun vs H Q _=>∃ (gl fl:Addr) (al:List Gt) (why:Str) (it x y z:Nat),vs=[.ref gl,.str why,.int (it:Int),.ref fl]∧GA H gl al∧H fl=some (.lst [.int (x:Int),.int (y:Int),.int (z:Int)])∧it < al.length∧x < al.length∧y < al.length∧z < al.length∧∀ H',Ch [] H H'→Q (.bl (pickB al why it x y z)) H'
theorem scPickB:FnScope ["gates", "why", "it", "feeds", "x", "y", "z"] ["gates", "why", "it", "feeds"] (defScope (top 22)):=⟨rfl,rfl,rfl,by decide +kernel,rfl,by decide +kernel,by decide +kernel⟩
theorem zakt (F:Fun K "pick_holds" "pick_holds" (top 22) f fd) (Dis_zero:DefOk P w K mg base CX0 k "is_zero" ["gates", "number"] (spIsG isZ)) (Dis_one:DefOk P w K mg base CX0 k "is_one" ["gates", "number"] (spIsG isO)) (Dare_opposed:DefOk P w K mg base CX0 k "are_opposed" ["gates", "number", "other"] spOpG):FnOk P w K mg base CX0 (k + 1) f fd ["gates", "why", "it", "feeds"] spPickB:=by
 have nd:=scPickB.nd
 refine F.ok scPickB (fun vs H Q E h=>by obtain ⟨gl,fl,al,why,it,x,y,z,rfl,_⟩:=h; rfl) (fun cdv A outer s0 H vs Q E hr h=>?_)
 obtain ⟨gl,fl,al,why,it,x,y,z,rfl,r,hf,li,lx,ly,lz,q⟩:=h
 refine ⟨_,(Pr.h (zaah (zaap (i:=4) nd rfl (av22.l 4 rfl) (zaar zaal (qv av22 3 rfl) zaae (fun _ _=>rfl))) (zaah (zaap (i:=5) nd rfl (av22.l 5 rfl) (zaar zaal (qv av22 3 rfl) zaae (fun _ _=>rfl))) (zaah (zaap (i:=6) nd rfl (av22.l 6 rfl) (zaar zaal (qv av22 3 rfl) zaae (fun _ _=>rfl))) (zaah (zaa1 (zaak zaa3 (qv av22 1 rfl) zaaf (nomark _)) (zaaj (zaam (zaay (zaan zaa3 (qv av22 2 rfl) (qv av22 5 rfl) (nomark _)) (zaav (zacu (zaai Dis_one hr (gl22.g 0 rfl) pass0 (zaaa (qv av22 0 rfl) (zaaa (qv av22 4 rfl) zaac zaad) zaad) zabn) (zaav (zaan zaa3 (qv av22 5 rfl) (qv av22 6 rfl) (nomark _)))))))) zaao) (zaah (zaa1 (zaak zaa3 (qv av22 1 rfl) zaaf (nomark _)) (zaaj (zaam (zaay (zaan zaa3 (qv av22 2 rfl) (qv av22 6 rfl) (nomark _)) (zaav (zaai Dis_zero hr (gl22.g 1 rfl) pass0 (zaaa (qv av22 0 rfl) (zaaa (qv av22 4 rfl) zaac zaad) zaad) zabk))))) zaao) (zaah (zaa1 (zaak zaa3 (qv av22 1 rfl) zaaf (nomark _)) (zaaj (zaam (zaay (zaan zaa3 (qv av22 2 rfl) (qv av22 4 rfl) (nomark _)) (zaay (zaai Dis_one hr (gl22.g 0 rfl) pass0 (zaaa (qv av22 0 rfl) (zaaa (qv av22 5 rfl) zaac zaad) zaad) zabn) (zaav (zaai Dis_zero hr (gl22.g 1 rfl) pass0 (zaaa (qv av22 0 rfl) (zaaa (qv av22 6 rfl) zaac zaad) zaad) zabk)))))) zaao) (zaah (zaa1 (zaak zaa3 (qv av22 1 rfl) zaaf (nomark _)) (zaaj (zaam (zaay (zaai Dare_opposed hr (gl22.g 2 rfl) pass0 (zaaa (qv av22 0 rfl) (zaaa (qv av22 2 rfl) (zaaa (qv av22 4 rfl) zaac zaad) zaad) zaad) zabt) (zaay (zaai Dis_zero hr (gl22.g 1 rfl) pass0 (zaaa (qv av22 0 rfl) (zaaa (qv av22 5 rfl) zaac zaad) zaad) zabk) (zaav (zaai Dis_one hr (gl22.g 0 rfl) pass0 (zaaa (qv av22 0 rfl) (zaaa (qv av22 6 rfl) zaac zaad) zaad) zabn)))))) zaao) (zaaj (zaam zabw)))))))))),?_⟩
 (try dsimp only [cxOf])
 have c0:=Ch.refl [] H
 walk_at "rd"
 refine ite2 (fun ez=>?_) (fun ez=>?_)
 ·have hw:=zabi ez
  subst hw
  clear ez
  walk_at "rd"
  (try dsimp only)
  refine ite2 (fun ez=>?_) (fun ez=>?_)
  ·have h19:it=y:=by simp at ez; omega
   clear ez
   walk_at "rd"
   rename_i H1 d1
   have c1:=c0.trans d1
   (try dsimp only)
   refine ite2 (fun h20=>?_) (fun h20=>?_)
   ·rw [show pickB al (Str.ofString "second") it x y z=true from by simp [pickB,h19,h20]] at q
    exact q _ c1
   ·walk_at "rd"
    rw [zads]
    rw [show pickB al (Str.ofString "second") it x y z=decide (y=z) from by simp [pickB,h19,h20]] at q
    exact q _ c1
  ·have h19:¬ it=y:=by simp at ez; omega
   clear ez
   rw [show pickB al (Str.ofString "second") it x y z=false from by simp [pickB,h19]] at q
   exact q _ c0
 have w0:=zaa8 ez
 clear ez
 walk_at "rd"
 refine ite2 (fun ez=>?_) (fun ez=>?_)
 ·have hw:=zabi ez
  subst hw
  clear ez
  have s0:¬ (Str.ofString "third" = Str.ofString "second"):=by decide +kernel
  walk_at "rd"
  (try dsimp only)
  refine ite2 (fun ez=>?_) (fun ez=>?_)
  ·have h21:it=z:=by simp at ez; omega
   clear ez
   walk_at "rd"
   rename_i H1 d1
   have c1:=c0.trans d1
   rw [show pickB al (Str.ofString "third") it x y z=isZ al x from by simp [pickB,s0,h21]] at q
   exact q _ c1
  ·have h21:¬ it=z:=by simp at ez; omega
   clear ez
   rw [show pickB al (Str.ofString "third") it x y z=false from by simp [pickB,s0,h21]] at q
   exact q _ c0
 have w1:=zaa8 ez
 clear ez
 walk_at "rd"
 refine ite2 (fun ez=>?_) (fun ez=>?_)
 ·have hw:=zabi ez
  subst hw
  clear ez
  have s0:¬ (Str.ofString "first" = Str.ofString "second"):=by decide +kernel
  have s1:¬ (Str.ofString "first" = Str.ofString "third"):=by decide +kernel
  walk_at "rd"
  (try dsimp only)
  refine ite2 (fun ez=>?_) (fun ez=>?_)
  ·have h22:it=x:=by simp at ez; omega
   clear ez
   walk_at "rd"
   rename_i H1 d1
   have c1:=c0.trans d1
   (try dsimp only)
   refine ite2 (fun h23=>?_) (fun h23=>?_)
   ·walk_at "rd"
    rename_i H2 d2
    have c2:=c1.trans d2
    rw [show pickB al (Str.ofString "first") it x y z=isZ al z from by simp [pickB,s0,s1,h22,h23]] at q
    exact q _ c2
   ·rw [show pickB al (Str.ofString "first") it x y z=false from by simp [pickB,s0,s1,h22,h23]] at q
    exact q _ c1
  ·have h22:¬ it=x:=by simp at ez; omega
   clear ez
   rw [show pickB al (Str.ofString "first") it x y z=false from by simp [pickB,s0,s1,h22]] at q
   exact q _ c0
 have w2:=zaa8 ez
 clear ez
 walk_at "rd"
 refine ite2 (fun ez=>?_) (fun ez=>?_)
 ·have hw:=zabi ez
  subst hw
  clear ez
  have s0:¬ (Str.ofString "not" = Str.ofString "second"):=by decide +kernel
  have s1:¬ (Str.ofString "not" = Str.ofString "third"):=by decide +kernel
  have s2:¬ (Str.ofString "not" = Str.ofString "first"):=by decide +kernel
  walk_at "rd"
  rename_i H1 d1
  have c1:=c0.trans d1
  (try dsimp only)
  refine ite2 (fun h24=>?_) (fun h24=>?_)
  ·walk_at "rd"
   rename_i H2 d2
   have c2:=c1.trans d2
   (try dsimp only)
   refine ite2 (fun h25=>?_) (fun h25=>?_)
   ·walk_at "rd"
    rename_i H3 d3
    have c3:=c2.trans d3
    rw [show pickB al (Str.ofString "not") it x y z=isO al z from by simp [pickB,s0,s1,s2,h24,h25]] at q
    exact q _ c3
   ·rw [show pickB al (Str.ofString "not") it x y z=false from by simp [pickB,s0,s1,s2,h24,h25]] at q
    exact q _ c2
  ·rw [show pickB al (Str.ofString "not") it x y z=false from by simp [pickB,s0,s1,s2,h24]] at q
   exact q _ c1
 have w3:=zaa8 ez
 clear ez
 walk_at "rd"
 rw [show pickB al why it x y z=false from by simp [pickB,w0,w1,w2,w3]] at q
 exact q _ c0
end
end

section
theorem Ch.forget {W:List Addr}{H H':Hp} (c:Ch W H H') (h:∀ w∈W,H w=none):Ch [] H H':=fun a o e _=>c a o e fun z=>by rw [h a z] at e; cases e
theorem Ch.inst {H:Hp}{x dx C:Addr} (hx:H x=none) (hd:H dx=none) (n:dx≠x):Ch [] H (upd (upd H dx (.own x)) x (.ins C dx [])):=(Ch.new hd _).trans (Ch.new (by rw [zabe n.symm]; exact hx) _)
def rho (prs:List (Nat × Str)) (a:Nat):Nat:=(prs.getD a (0,Str.empty)).1
theorem zaea {α:Type}{l:List α}{x y:α}{i:Nat} (e:(l++[x])[i]?=some y):(i < l.length∧l[i]?=some y)∨(i=l.length∧y=x):=by
 by_cases hi:i < l.length
 ·rw [List.getElem?_append_left hi] at e; exact .inl ⟨hi,e⟩
 ·rw [List.getElem?_append_right (by omega)] at e
  have hi0:i - l.length=0:=by
   rcases Nat.eq_zero_or_pos (i - l.length) with z | z
   ·exact z
   ·rw [List.getElem?_eq_none (by simp; omega)] at e; cases e
  rw [hi0] at e
  exact .inr ⟨by omega,by simpa using e.symm⟩
theorem Gs.snoc {H:Hp}{gs:List Gt}{xs:List V}{p:Addr}{g:Gt} (h:Gs H gs xs) (hp:H p=some (.tup g.vs)):Gs H (gs++[g]) (xs++[.ref p]):=by
 refine ⟨by simp [h.len],fun i g' e=>?_⟩
 rcases zaea e with ⟨hi,e⟩ | ⟨rfl,rfl⟩
 ·obtain ⟨p',h1,h2⟩:=h.at_ i g' e
  exact ⟨p',by rw [List.getElem?_append_left (by rw [h.len]; exact hi)]; exact h1,h2⟩
 ·exact ⟨p,by rw [← h.len]; simp,hp⟩
theorem Gs.nil (H:Hp):Gs H [] []:=⟨rfl,fun i g e=>by simp at e⟩
theorem NetAt.ch {C:Addr}{H H':Hp}{nt gp op:Addr}{gs:List Gt}{xs:List V}{os:List Nat} (n:NetAt C H nt gp op gs xs os) (c:Ch [] H H'):NetAt C H' nt gp op gs xs os :=
 ⟨n.ob.imp fun _ h=>c.get h (by simp),c.get n.gt (by simp),n.gg.tu (Tu.same c),c.get n.ot (by simp)⟩
def Gt.ren (ρ:Nat→Nat):Gt→Gt
 | .inp=>.inp
 | .zero=>.zero
 | .one=>.one
 | .keep f a=>.keep f (ρ a)
 | .not a=>.not (ρ a)
 | .and a b=>.and (ρ a) (ρ b)
 | .or a b=>.or (ρ a) (ρ b)
 | .xor a b=>.xor (ρ a) (ρ b)
 | .pick a b c=>.pick (ρ a) (ρ b) (ρ c)
end

section
local macro_rules | `(tactic| walk_at "user")=>`(tactic| first
 | (apply GA.ch; (focus with_reducible assumption); (focus walk_at "ch"))
 | exact Gt.vs_sca _)
def Gt.two:Gt→Bool
 | .and _ _=>true
 | .or _ _=>true
 | .xor _ _=>true
 | _=>false
def Gt.trn (ρ:Nat→Nat):Gt→Gt
 | .and a b=>.and (ρ b) (ρ a)
 | .or a b=>.or (ρ b) (ρ a)
 | .xor a b=>.xor (ρ b) (ρ a)
 | g=>g
def ruB (al:List Gt) (ρ:Nat→Nat) (it:Nat) (why:Str):Gt→Bool
 | .not a=>notB al why it (ρ a)
 | .and a b=>andB al why it (ρ a) (ρ b)
 | .or a b=>orB al why it (ρ a) (ρ b)
 | .xor a b=>xorB al why it (ρ a) (ρ b)
 | .pick a b c=>pickB al why it (ρ a) (ρ b) (ρ c)
 | _=>false
def phB (al:List Gt) (ρ:Nat→Nat) (it:Nat) (why:Str):Gt→Bool
 | .keep f a=>decide (why = "keep") && decide (al[it]?=some (.keep f (ρ a)))
 | g=>if why = "same" then decide (al[it]?=some (g.ren ρ)) else if why = "turned" ∧ g.two=true then decide (al[it]?=some (g.trn ρ)) else ruB al ρ it why g
theorem zacc {al:List Gt}{ρ:Nat→Nat}{it:Nat}{g:Gt} (hk:g.isKeep=false):phB al ρ it "same" g=decide (al[it]?=some (g.ren ρ)):=by
 cases g <;> first | (cases hk; done) | simp [phB]
theorem zafd {al:List Gt}{ρ:Nat→Nat}{it:Nat}{g:Gt} (h2:g.two=true):phB al ρ it "turned" g=decide (al[it]?=some (g.trn ρ)):=by
 have s:¬ (Str.ofString "turned" = Str.ofString "same"):=by decide +kernel
 cases g <;> first | (cases h2; done) | simp [phB,s,Gt.two]
theorem zabv {al:List Gt}{ρ:Nat→Nat}{it:Nat}{why:Str}{g:Gt} (hk:g.isKeep=false) (h0:¬ why = "same") (h1:¬ (why = "turned" ∧ g.two=true)):phB al ρ it why g=ruB al ρ it why g:=by
 cases g <;> first | (cases hk; done) | (simp only [phB]; rw [if_neg h0,if_neg h1])
def RU:List Str:=["not", "and", "or", "xor", "pick"]
def spRu (wo:Str):Sp:=fun vs H Q E=>(wo = "not" ∧ spNotB vs H Q E)∨(wo = "and" ∧ spAndB vs H Q E)∨(wo = "or" ∧ spOrB vs H Q E)∨(wo = "xor" ∧ spXorB vs H Q E)∨(wo = "pick" ∧ spPickB vs H Q E)
section
variable {P:Program}{w:World}{K:PySem.W.Frag}{mg:Str→Option Value}{base:Heap}{f:Addr}{fd:FuncData}{k:Nat}
theorem zahh:Nd "RULES" := by decide +kernel
theorem av24:AF (defScope (top 24)) ["gates", "gate", "it", "why", "feeds", "word"]:=⟨by decide +kernel⟩
theorem gl24:AG (defScope (top 24)) ["tuple", "RULES"]:=⟨by decide +kernel⟩
def spPH:Sp:=fun vs H Q _=>∃ (gl p fl:Addr) (al:List Gt) (g:Gt) (it:Nat) (why:Str) (ρ:Nat→Nat),vs=[.ref gl,.ref p,.int (it:Int),.str why,.ref fl]∧GA H gl al∧H p=some (.tup g.vs)∧g≠.inp∧H fl=some (.lst (g.feeds.map fun a=>V.int ((ρ a:Nat):Int)))∧it < al.length∧(∀ a∈g.feeds,ρ a < al.length)∧∀ H',Ch [] H H'→Q (.bl (phB al ρ it why g)) H'
theorem scPH:FnScope ["gates", "gate", "it", "why", "feeds", "word"] ["gates", "gate", "it", "why", "feeds"] (defScope (top 24)):=⟨rfl,rfl,rfl,by decide +kernel,rfl,by decide +kernel,by decide +kernel⟩
theorem zaph {ra:Addr}{rkv:List (Key × V)}{spt:Addr→Sp}{At:Addr→Prop} (F:Fun K "pair_holds" "pair_holds" (top 24) f fd) (T_RULES:TabOk P w K mg base CX0 k ["gates", "why", "it", "feeds"] spt At) (m_RULES:mg "RULES" = some (.ref ra)) (hKD:KD P w K ra rkv)
  (hT:∀ wo∈RU,∃ f,valV rkv (.inr wo)=some (.ref f)∧At f∧spt f=spRu wo) (hN:∀ wo,wo ∉ RU→valV rkv (.inr wo)=none) (z_tuple:mg "tuple" = none):FnOk P w K mg base CX0 (k + 1) f fd ["gates", "gate", "it", "why", "feeds"] spPH:=by
 have nd:=scPH.nd
 refine F.ok scPH (fun vs H Q E h=>by obtain ⟨gl,p,fl,al,g,it,why,ρ,rfl,_⟩:=h; rfl) (fun cdv A outer s0 H vs Q E hr h=>?_)
 obtain ⟨gl,p,fl,al,g,it,why,ρ,rfl,r,hp,ni,hf,li,lf,q⟩:=h
 refine ⟨_,(Pr.h (zaah (zaap (i:=5) nd rfl (av24.l 5 rfl) (zaar zabx (qv av24 1 rfl) zaae (fun _ _=>rfl))) (zaah (zaa1 (zaak zaa3 (qv av24 5 rfl) zaaf (nomark _)) (zaaj (zaam (zaay (zaan zaa3 (qv av24 3 rfl) zaaf (nomark _)) (zaav (zaan (zacq hr.units) (zaar zaal (qv av24 0 rfl) (qv av24 2 rfl) (fun _ _=>rfl)) (zaaw (zaaa zaaf (zaaa (zaar zabx (qv av24 1 rfl) zaae (fun _ _=>rfl)) (zaaa (zaar zaal (qv av24 4 rfl) zaae (fun _ _=>rfl)) zaac zaaz) zaaz) zaab)) (nomark _)))))) zaao) (zaah (zaa1 (zaak zaa3 (qv av24 3 rfl) zaaf (nomark _)) (zaaj (zaam (zaan (zacq hr.units) (zaar zaal (qv av24 0 rfl) (qv av24 2 rfl) (fun _ _=>rfl)) (zabh zabf (gl24.g 0 rfl) z_tuple zabz (zaaa (zaaq zac1 (zaa2 (zaaa (qv av24 5 rfl) zaac zaad)) (qv av24 4 rfl)) zaac zaa9) zab0 zab1) (nomark _)))) zaao) (zaah (zaa1 (zab3 (zacl (zaak zaa3 (qv av24 3 rfl) zaaf (nomark _)) (zacd (zaak zafr (qv av24 5 rfl) (zaaw (zaaa zaaf (zaaa zaaf (zaaa zaaf zaac zaab) zaab) zaab)) rfl)))) (zaaj (zaam (zaan (zacq hr.units) (zaar zaal (qv av24 0 rfl) (qv av24 2 rfl) (fun _ _=>rfl)) (zaaw (zaaa (qv av24 5 rfl) (zaaa (zaar zaal (qv av24 4 rfl) zaae (fun _ _=>rfl)) (zaaa (zaar zaal (qv av24 4 rfl) zaae (fun _ _=>rfl)) zaac zaaz) zaaz) zaad)) (nomark _)))) zaao) (zaaj (zaam (zaay (zaan zahw (qv av24 5 rfl) (zad2 (v:=.ref _) (gl24.g 1 rfl) m_RULES rfl zahh) rfl) (zaav (zai9 T_RULES hr pass0 (zaiw (zad2 (v:=.ref _) (gl24.g 1 rfl) m_RULES rfl zahh) (qv av24 5 rfl) (fun _ _=>rfl)) (zaaa (qv av24 0 rfl) (zaaa (qv av24 3 rfl) (zaaa (qv av24 2 rfl) (zaaa (qv av24 4 rfl) zaac zaad) zaad) zaad) zaad))))))))))),?_⟩
 (try dsimp only [cxOf])
 obtain ⟨t,et⟩:∃ t,al[it]?=some t:=⟨_,List.getElem?_eq_getElem li⟩
 obtain ⟨xs,pt,hg,at1,hpt,lx⟩:=r.at et
 have sct:=Gt.vs_sca t
 cases g with
 | inp=>exact absurd rfl ni
 | keep ff a =>
  have hp:H p=some (.tup [.str "keep",.int ff,.int a]):=hp
  have hf:H fl=some (.lst [.int ((ρ a:Nat):Int)]):=hf
  have q:∀ H',Ch [] H H'→Q (.bl (decide (why = "keep") && decide (al[it]?=some (.keep ff (ρ a))))) H':=q
  have sc2:=Gt.vs_sca (.keep ff (ρ a))
  rw [zabd et] at q
  walk_at "rd"
  refine ite2 (fun ez=>?_) (fun ez=>?_)
  ·have hw:=zabi ez
   subst hw
   rw [decide_eq_true rfl,Bool.true_and] at q
   walk_at "rd"
   rename_i T hT
   exact q _ (Ch.new hT _)
  ·have hw:=zaa8 ez
   rw [decide_eq_false hw,Bool.false_and] at q
   walk_at "rd"
   exact q _ (Ch.refl _ _)
 | zero =>
  have hp:H p=some (.tup [.str "zero"]):=hp
  have hf:H fl=some (.lst []):=hf
  have ev:=hN "zero" (by decide +kernel)
  have e3:inV (V.str "zero") [.str "and",.str "or",.str "xor"]=false:=by decide +kernel
  walk_at "rd"
  refine ite2 (fun ez=>?_) (fun ez=>?_)
  ·have hw:=zabi ez
   subst hw
   rw [zacc rfl,zabd et] at q
   have sc2:=Gt.vs_sca (Gt.zero)
   walk_at "rd"
   rename_i e1 h1 e2 h2 e4 h4
   exact q _ (((Ch.new h1 _).trans (Ch.new h2 _)).trans (Ch.new h4 _))
  have w0:=zaa8 ez
  clear ez
  walk_at "rd"
  refine ite2 (fun ez=>?_) (fun ez=>?_)
  ·have hw:=zabi ez
   subst hw
   rw [zabv rfl w0 (fun z=>by cases z.2)] at q
   walk_at "rd"
   rename_i e1 h1
   rw [ev]
   refine iteF ?_
   exact q _ (Ch.new h1 _)
  ·have w1:=zaa8 ez
   clear ez
   refine iteF ?_
   rw [zabv rfl w0 (fun z=>w1 z.1)] at q
   walk_at "rd"
   rw [ev]
   refine iteF ?_
   exact q _ (Ch.refl _ _)
 | one =>
  have hp:H p=some (.tup [.str "one"]):=hp
  have hf:H fl=some (.lst []):=hf
  have ev:=hN "one" (by decide +kernel)
  have e3:inV (V.str "one") [.str "and",.str "or",.str "xor"]=false:=by decide +kernel
  walk_at "rd"
  refine ite2 (fun ez=>?_) (fun ez=>?_)
  ·have hw:=zabi ez
   subst hw
   rw [zacc rfl,zabd et] at q
   have sc2:=Gt.vs_sca (Gt.one)
   walk_at "rd"
   rename_i e1 h1 e2 h2 e4 h4
   exact q _ (((Ch.new h1 _).trans (Ch.new h2 _)).trans (Ch.new h4 _))
  have w0:=zaa8 ez
  clear ez
  walk_at "rd"
  refine ite2 (fun ez=>?_) (fun ez=>?_)
  ·have hw:=zabi ez
   subst hw
   rw [zabv rfl w0 (fun z=>by cases z.2)] at q
   walk_at "rd"
   rename_i e1 h1
   rw [ev]
   refine iteF ?_
   exact q _ (Ch.new h1 _)
  ·have w1:=zaa8 ez
   clear ez
   refine iteF ?_
   rw [zabv rfl w0 (fun z=>w1 z.1)] at q
   walk_at "rd"
   rw [ev]
   refine iteF ?_
   exact q _ (Ch.refl _ _)
 | not a =>
  have hp:H p=some (.tup [.str "not",.int a]):=hp
  have hf:H fl=some (.lst [.int ((ρ a:Nat):Int)]):=hf
  obtain ⟨tf,ev,at_,esp⟩:=hT "not" (by decide +kernel)
  have la:=lf a (by simp [Gt.feeds])
  have e3:inV (V.str "not") [.str "and",.str "or",.str "xor"]=false:=by decide +kernel
  walk_at "rd"
  refine ite2 (fun ez=>?_) (fun ez=>?_)
  ·have hw:=zabi ez
   subst hw
   rw [zacc rfl,zabd et] at q
   have sc2:=Gt.vs_sca (Gt.not (ρ a))
   walk_at "rd"
   rename_i e1 h1 e2 h2 e4 h4
   exact q _ (((Ch.new h1 _).trans (Ch.new h2 _)).trans (Ch.new h4 _))
  have w0:=zaa8 ez
  clear ez
  walk_at "rd"
  refine ite2 (fun ez=>?_) (fun ez=>?_)
  ·have hw:=zabi ez
   subst hw
   rw [zabv rfl w0 (fun z=>by cases z.2)] at q
   walk_at "rd"
   rename_i e1 h1
   rw [ev]
   refine iteT ?_
   walk_at "rd"
   rw [esp]
   exact .inl ⟨rfl,gl,fl,al,_,it,ρ a,rfl,GA.ch r (Ch.new h1 _),Ch.get (W:=[]) (Ch.new h1 _) hf List.not_mem_nil,li,la,fun H' c=>q _ ((Ch.new h1 _).trans c)⟩
  ·have w1:=zaa8 ez
   clear ez
   refine iteF ?_
   rw [zabv rfl w0 (fun z=>w1 z.1)] at q
   walk_at "rd"
   rw [ev]
   refine iteT ?_
   walk_at "rd"
   rw [esp]
   exact .inl ⟨rfl,gl,fl,al,_,it,ρ a,rfl,r,hf,li,la,q⟩
 | and a b =>
  have hp:H p=some (.tup [.str "and",.int a,.int b]):=hp
  have hf:H fl=some (.lst [.int ((ρ a:Nat):Int),.int ((ρ b:Nat):Int)]):=hf
  obtain ⟨tf,ev,at_,esp⟩:=hT "and" (by decide +kernel)
  have la:=lf a (by simp [Gt.feeds])
  have lb:=lf b (by simp [Gt.feeds])
  have e3:inV (V.str "and") [.str "and",.str "or",.str "xor"]=true:=by decide +kernel
  walk_at "rd"
  refine ite2 (fun ez=>?_) (fun ez=>?_)
  ·have hw:=zabi ez
   subst hw
   rw [zacc rfl,zabd et] at q
   have sc2:=Gt.vs_sca (Gt.and (ρ a) (ρ b))
   walk_at "rd"
   rename_i e1 h1 e2 h2 e4 h4
   exact q _ (((Ch.new h1 _).trans (Ch.new h2 _)).trans (Ch.new h4 _))
  have w0:=zaa8 ez
  clear ez
  walk_at "rd"
  refine ite2 (fun ez=>?_) (fun ez=>?_)
  ·have hw:=zabi ez
   subst hw
   rw [zafd rfl,zabd et] at q
   have sc3:ScaL [V.str "and",V.int ((ρ b:Nat):Int),V.int ((ρ a:Nat):Int)]:=Gt.vs_sca (.and (ρ b) (ρ a))
   walk_at "rd"
   rename_i e1 h1 e2 h2
   exact q _ ((Ch.new h1 _).trans (Ch.new h2 _))
  ·have w1:=zaa8 ez
   clear ez
   refine iteF ?_
   rw [zabv rfl w0 (fun z=>w1 z.1)] at q
   walk_at "rd"
   rw [ev]
   refine iteT ?_
   walk_at "rd"
   rw [esp]
   exact .inr (.inl ⟨rfl,gl,fl,al,_,it,ρ a,ρ b,rfl,r,hf,li,la,lb,q⟩)
 | or a b =>
  have hp:H p=some (.tup [.str "or",.int a,.int b]):=hp
  have hf:H fl=some (.lst [.int ((ρ a:Nat):Int),.int ((ρ b:Nat):Int)]):=hf
  obtain ⟨tf,ev,at_,esp⟩:=hT "or" (by decide +kernel)
  have la:=lf a (by simp [Gt.feeds])
  have lb:=lf b (by simp [Gt.feeds])
  have e3:inV (V.str "or") [.str "and",.str "or",.str "xor"]=true:=by decide +kernel
  walk_at "rd"
  refine ite2 (fun ez=>?_) (fun ez=>?_)
  ·have hw:=zabi ez
   subst hw
   rw [zacc rfl,zabd et] at q
   have sc2:=Gt.vs_sca (Gt.or (ρ a) (ρ b))
   walk_at "rd"
   rename_i e1 h1 e2 h2 e4 h4
   exact q _ (((Ch.new h1 _).trans (Ch.new h2 _)).trans (Ch.new h4 _))
  have w0:=zaa8 ez
  clear ez
  walk_at "rd"
  refine ite2 (fun ez=>?_) (fun ez=>?_)
  ·have hw:=zabi ez
   subst hw
   rw [zafd rfl,zabd et] at q
   have sc3:ScaL [V.str "or",V.int ((ρ b:Nat):Int),V.int ((ρ a:Nat):Int)]:=Gt.vs_sca (.or (ρ b) (ρ a))
   walk_at "rd"
   rename_i e1 h1 e2 h2
   exact q _ ((Ch.new h1 _).trans (Ch.new h2 _))
  ·have w1:=zaa8 ez
   clear ez
   refine iteF ?_
   rw [zabv rfl w0 (fun z=>w1 z.1)] at q
   walk_at "rd"
   rw [ev]
   refine iteT ?_
   walk_at "rd"
   rw [esp]
   exact .inr (.inr (.inl ⟨rfl,gl,fl,al,_,it,ρ a,ρ b,rfl,r,hf,li,la,lb,q⟩))
 | xor a b =>
  have hp:H p=some (.tup [.str "xor",.int a,.int b]):=hp
  have hf:H fl=some (.lst [.int ((ρ a:Nat):Int),.int ((ρ b:Nat):Int)]):=hf
  obtain ⟨tf,ev,at_,esp⟩:=hT "xor" (by decide +kernel)
  have la:=lf a (by simp [Gt.feeds])
  have lb:=lf b (by simp [Gt.feeds])
  have e3:inV (V.str "xor") [.str "and",.str "or",.str "xor"]=true:=by decide +kernel
  walk_at "rd"
  refine ite2 (fun ez=>?_) (fun ez=>?_)
  ·have hw:=zabi ez
   subst hw
   rw [zacc rfl,zabd et] at q
   have sc2:=Gt.vs_sca (Gt.xor (ρ a) (ρ b))
   walk_at "rd"
   rename_i e1 h1 e2 h2 e4 h4
   exact q _ (((Ch.new h1 _).trans (Ch.new h2 _)).trans (Ch.new h4 _))
  have w0:=zaa8 ez
  clear ez
  walk_at "rd"
  refine ite2 (fun ez=>?_) (fun ez=>?_)
  ·have hw:=zabi ez
   subst hw
   rw [zafd rfl,zabd et] at q
   have sc3:ScaL [V.str "xor",V.int ((ρ b:Nat):Int),V.int ((ρ a:Nat):Int)]:=Gt.vs_sca (.xor (ρ b) (ρ a))
   walk_at "rd"
   rename_i e1 h1 e2 h2
   exact q _ ((Ch.new h1 _).trans (Ch.new h2 _))
  ·have w1:=zaa8 ez
   clear ez
   refine iteF ?_
   rw [zabv rfl w0 (fun z=>w1 z.1)] at q
   walk_at "rd"
   rw [ev]
   refine iteT ?_
   walk_at "rd"
   rw [esp]
   exact .inr (.inr (.inr (.inl ⟨rfl,gl,fl,al,_,it,ρ a,ρ b,rfl,r,hf,li,la,lb,q⟩)))
 | pick a b c =>
  have hp:H p=some (.tup [.str "pick",.int a,.int b,.int c]):=hp
  have hf:H fl=some (.lst [.int ((ρ a:Nat):Int),.int ((ρ b:Nat):Int),.int ((ρ c:Nat):Int)]):=hf
  obtain ⟨tf,ev,at_,esp⟩:=hT "pick" (by decide +kernel)
  have la:=lf a (by simp [Gt.feeds])
  have lb:=lf b (by simp [Gt.feeds])
  have lc:=lf c (by simp [Gt.feeds])
  have e3:inV (V.str "pick") [.str "and",.str "or",.str "xor"]=false:=by decide +kernel
  walk_at "rd"
  refine ite2 (fun ez=>?_) (fun ez=>?_)
  ·have hw:=zabi ez
   subst hw
   rw [zacc rfl,zabd et] at q
   have sc2:=Gt.vs_sca (Gt.pick (ρ a) (ρ b) (ρ c))
   walk_at "rd"
   rename_i e1 h1 e2 h2 e4 h4
   exact q _ (((Ch.new h1 _).trans (Ch.new h2 _)).trans (Ch.new h4 _))
  have w0:=zaa8 ez
  clear ez
  walk_at "rd"
  refine ite2 (fun ez=>?_) (fun ez=>?_)
  ·have hw:=zabi ez
   subst hw
   rw [zabv rfl w0 (fun z=>by cases z.2)] at q
   walk_at "rd"
   rename_i e1 h1
   rw [ev]
   refine iteT ?_
   walk_at "rd"
   rw [esp]
   exact .inr (.inr (.inr (.inr (⟨rfl,gl,fl,al,_,it,ρ a,ρ b,ρ c,rfl,GA.ch r (Ch.new h1 _),Ch.get (W:=[]) (Ch.new h1 _) hf List.not_mem_nil,li,la,lb,lc,fun H' c=>q _ ((Ch.new h1 _).trans c)⟩))))
  ·have w1:=zaa8 ez
   clear ez
   refine iteF ?_
   rw [zabv rfl w0 (fun z=>w1 z.1)] at q
   walk_at "rd"
   rw [ev]
   refine iteT ?_
   walk_at "rd"
   rw [esp]
   exact .inr (.inr (.inr (.inr (⟨rfl,gl,fl,al,_,it,ρ a,ρ b,ρ c,rfl,r,hf,li,la,lb,lc,q⟩))))
end
end

section
theorem SqX.ch {kd:SK}{H H':Hp}{a:Addr}{xs:List V} (h:SqX kd H a xs) (c:Ch [] H H'):SqX kd H' a xs:=by
 cases kd <;> exact c.get h (by simp)
theorem SqX.sq {kd:SK}{K:PySem.W.Frag}{H:Hp}{a:Addr}{xs:List V} (h:SqX kd H a xs):Sq kd K H a xs:=by
 cases kd with
 | list=>exact SqL.of h
 | tuple=>exact SqT.of h
theorem SqX.or {kd:SK}{K:PySem.W.Frag}{H:Hp}{a:Addr}{xs:List V} (h:SqX kd H a xs):SqL K H a xs∨SqT K H a xs:=by
 cases kd with
 | list=>exact .inl (SqL.of h)
 | tuple=>exact .inr (SqT.of h)
theorem zaji {K:PySem.W.Frag}{kd:SK}{a:Addr}{xs:List V}{g:TG}{tb:TS}{D:Ends}{σ:St}{H:Hp} (Pv:Nat→St→Hp→Prop) (h0:Pv 0 σ H) (hl:∀ i σ H,i≤xs.length→Pv i σ H→Sq kd K H a xs)
  (hs:∀ i x σ H,xs[i]?=some x→Pv i σ H→g x σ H fun σ2 H2=>tb { D with nx:=Pv (i + 1),ct:=Pv (i + 1),bk:=D.nx } σ2 H2) (hd:∀ σ H,Pv xs.length σ H→D.nx σ H):Loop (ItK K kd a) g tb D σ H:=by
 cases kd with
 | list=>exact zafw Pv h0 hl hs hd
 | tuple=>exact zaki Pv h0 hl hs hd
structure GsK (H:Hp) (gs:List Gt) (xs:List V):Prop where
 len:xs.length=gs.length
 at_:∀ (i:Nat) (g:Gt),gs[i]?=some g→∃ (p:Addr) (kd:SK),xs[i]?=some (.ref p)∧SqX kd H p g.vs
theorem GsK.ch {H H':Hp}{gs:List Gt}{xs:List V} (h:GsK H gs xs) (c:Ch [] H H'):GsK H' gs xs:=⟨h.len,fun i g e=>let ⟨p,kd,a,b⟩:=h.at_ i g e; ⟨p,kd,a,b.ch c⟩⟩
structure PrK (H:Hp) (prs:List (Nat × Str)) (ps:List V):Prop where
 len:ps.length=prs.length
 at_:∀ (i:Nat) (p:Nat × Str),prs[i]?=some p→∃ (a:Addr) (kd:SK),ps[i]?=some (.ref a)∧SqX kd H a [nV p.1,.str p.2]
theorem PrK.ch {H H':Hp}{prs:List (Nat × Str)}{ps:List V} (h:PrK H prs ps) (c:Ch [] H H'):PrK H' prs ps:=⟨h.len,fun i p e=>let ⟨a,kd,b,d⟩:=h.at_ i p e; ⟨a,kd,b,d.ch c⟩⟩
theorem PrK.push {H:Hp}{prs:List (Nat × Str)}{ps:List V}{a:Addr}{p:Nat × Str}{kd:SK} (h:PrK H prs ps) (ha:SqX kd H a [nV p.1,.str p.2]):PrK H (prs++[p]) (ps++[.ref a]):=by
 refine ⟨by simp [h.len],fun i x e=>?_⟩
 rcases zaea e with ⟨hi,e⟩ | ⟨rfl,rfl⟩
 ·obtain ⟨a',kd',h1,h2⟩:=h.at_ i x e
  exact ⟨a',kd',by rw [List.getElem?_append_left (by rw [h.len]; exact hi)]; exact h1,h2⟩
 ·exact ⟨a,kd,by rw [← h.len]; simp,ha⟩
structure WI (H0 H:Hp) (l:Addr) (al:List Gt):Prop where
 ch:Ch [] H0 H
 fr:H0 l=none
 ga:GA H l al
theorem WI.go {H0 H H1:Hp}{l:Addr}{al:List Gt} (h:WI H0 H l al) (c:Ch [] H H1):WI H0 H1 l al:=⟨h.ch.trans c,h.fr,h.ga.ch c⟩
theorem WI.push {H0 H:Hp}{l p:Addr}{al:List Gt}{xs:List V}{g:Gt} (h:WI H0 H l al) (hl:H l=some (.lst xs)) (hp:H p=some (.tup g.vs)):WI H0 (upd H l (.lst (xs++[.ref p]))) l (al++[g]):=by
 obtain ⟨ys,hy,gy⟩:=h.ga.ex
 rw [hl] at hy
 cases hy
 have c:Ch [l] H (upd H l (.lst (xs++[.ref p]))):=Ch.put
 refine ⟨Ch.forget ((Ch.wk h.ch).trans c) (fun w hw=>by simp at hw; rw [hw]; exact h.fr),h.fr,_,zaag,?_⟩
 have t:Tu H (upd H l (.lst (xs++[.ref p]))):=Tu.ch c hl (fun xs z=>by cases z)
 exact (gy.tu t).snoc (t p _ hp)
local macro_rules | `(tactic| walk_at "sqx")=>`(tactic| first
 | with_reducible assumption
 | (apply SqX.ch; (focus with_reducible assumption); (focus walk_at "ch")))
local macro_rules | `(tactic| walk_at "user")=>`(tactic| first
 | (apply GA.ch; (focus with_reducible assumption); (focus walk_at "ch"))
 | (apply SqX.or; (focus walk_at "sqx"))
 | (focus walk_at "sqx")
 | exact Gt.vs_sca _)
section
variable {P:Program}{w:World}{K:PySem.W.Frag}{mg:Str→Option Value}{base:Heap}{f:Addr}{fd:FuncData}{k:Nat}
theorem zacr:Nd "is_listed" := by decide +kernel
theorem zaez:Nd "is_pair" := by decide +kernel
theorem gl7:AG (defScope (top 7)) ["len", "is_listed"]:=⟨by decide +kernel⟩
theorem av7:AF (defScope (top 7)) ["thing"]:=⟨by decide +kernel⟩
def spPair:Sp:=fun vs H Q _=>∃ (kd:SK) (a:Addr) (x y:V),vs=[.ref a]∧SqX kd H a [x,y]∧∀ H',Ch [] H H'→Q (.bl true) H'
theorem scPair:FnScope ["thing"] ["thing"] (defScope (top 7)):=⟨rfl,rfl,rfl,by decide +kernel,rfl,by decide +kernel,by decide +kernel⟩
theorem zami (F:Fun K "is_pair" "is_pair" (top 7) f fd) (Dis_listed:DefOk P w K mg base CX0 k "is_listed" ["thing"] spListed) (z_len:mg "len" = none):FnOk P w K mg base CX0 (k + 1) f fd ["thing"] spPair:=by
 have nd:=scPair.nd
 refine F.ok scPair (fun vs H Q E h=>by obtain ⟨kd,a,x,y,rfl,_⟩:=h; rfl) (fun cdv A outer s0 H vs Q E hr h=>?_)
 obtain ⟨kd,a,x,y,rfl,hx,q⟩:=h
 refine ⟨_,(Pr.h (zaaj (zaam (zaay (zaai Dis_listed hr (gl7.g 1 rfl) pass0 (zaaa (qv av7 0 rfl) zaac zaad) zacr) (zaav (zaan zaa3 (zaax zaau (gl7.g 0 rfl) z_len PySem.boot_len (zaaa (qv av7 0 rfl) zaac zaad) zabl zabm) zaae (nomark _))))))),?_⟩
 (try dsimp only [cxOf])
 walk_at "rd"
 rename_i H1 c1
 exact q _ c1
theorem gl25:AG (defScope (top 25)) ["is_listed", "list", "len", "tuple", "is_gate"]:=⟨by decide +kernel⟩
theorem av25:AF (defScope (top 25)) ["small", "lost", "gates", "total", "thing", "gate"]:=⟨by decide +kernel⟩
def spWL (CN:Addr):Sp:=fun vs H Q _=>∃ (nt gp op ll:Addr) (sg:List Gt) (xs:List V) (so:List Nat) (kd:SK) (lo:List Gt) (zs:List V),vs=[.ref nt,.ref ll]∧NetAt CN H nt gp op sg xs so∧SqX kd H ll zs∧GsK H lo zs∧sg.length≤1000∧lo.length≤1000∧(∀ (j:Nat) (g:Gt),lo[j]?=some g→g≠.inp∧g.ok (sg.length + j) (sg.length + lo.length)) ∧
 ∀ (r:Addr) (H':Hp),Ch [] H H'→GA H' r (sg++lo)→Q (.ref r) H'
theorem scWL:FnScope ["small", "lost", "gates", "total", "thing", "gate"] ["small", "lost"] (defScope (top 25)):=⟨rfl,rfl,rfl,by decide +kernel,rfl,by decide +kernel,by decide +kernel⟩
theorem zapi {CN:Addr} (F:Fun K "with_lost" "with_lost" (top 25) f fd) (cl:Cls K CN) (nG:NoAttr K CN "gates") (Dis_listed:DefOk P w K mg base CX0 k "is_listed" ["thing"] spListed) (Dis_gate:DefOk P w K mg base CX0 k "is_gate" ["thing", "ahead", "total"] spGate) (z_len:mg "len" = none) (z_list:mg "list" = none) (z_tuple:mg "tuple" = none):FnOk P w K mg base CX0 (k + 1) f fd ["small", "lost"] (spWL CN):=by
 have nd:=scWL.nd
 refine F.ok scWL (fun vs H Q E h=>by obtain ⟨nt,gp,op,ll,sg,xs,so,kd,lo,zs,rfl,_⟩:=h; rfl) (fun cdv A outer s0 H vs Q E hr h=>?_)
 obtain ⟨nt,gp,op,ll,sg,xs,so,kd,lo,zs,rfl,na,hll,gz,ls,l2,lok,q⟩:=h
 refine ⟨_,(Pr.h (zaah (zaa1 (zab9 (zabu (zaai Dis_listed hr (gl25.g 0 rfl) pass0 (zaaa (qv av25 1 rfl) zaac zaad) zacr))) (zaaj (zaam zacy)) zaao) (zaah (zaap (i:=2) nd rfl (av25.l 2 rfl) (zabh zacn (gl25.g 1 rfl) z_list zaek (zaaa (zac2 (qv av25 0 rfl) rfl) zaac zabo) zael zaem)) (zaah (zaap (i:=3) nd rfl (av25.l 3 rfl) (zaaq zac9 (zaax zaau (gl25.g 2 rfl) z_len PySem.boot_len (zaaa (qv av25 2 rfl) zaac zaad) zabl zabm) (zaax zaau (gl25.g 2 rfl) z_len PySem.boot_len (zaaa (qv av25 1 rfl) zaac zaad) zabl zabm))) (zaah (zacf PassesOwn.never rfl (zai8 K rfl kd (qv av25 1 rfl)) (zaa6 (i:=4) nd rfl (av25.l 4 rfl)) (zaat (zaap (i:=5) nd rfl (av25.l 5 rfl) (zaiv (zabu (zaai Dis_listed hr (gl25.g 0 rfl) pass0 (zaaa (qv av25 4 rfl) zaac zaad) zacr)) (zabh zabf (gl25.g 3 rfl) z_tuple zabz (zaaa (qv av25 4 rfl) zaac zaad) zab0 zab1) zacy)) (zaah (zaa1 (zab3 (zac3 (zab9 (zabu (zaai Dis_gate hr (gl25.g 4 rfl) pass0 (zaaa (qv av25 5 rfl) (zaaa (zaax zaau (gl25.g 2 rfl) z_len PySem.boot_len (zaaa (qv av25 2 rfl) zaac zaad) zabl zabm) (zaaa (qv av25 3 rfl) zaac zaad) zab8) zaad) zaew))) (zact (zaak zaa3 (zaar zabx (qv av25 5 rfl) zaae (fun _ _=>rfl)) zaaf (nomark _))))) (zaaj (zaam zacy)) zaao) (zaaj (zad5 (zahb PySem.F.plainAttrs_list PySem.F.slot_list_append PySem.F.type_list_append zadf (qv av25 2 rfl) (zaaa (qv av25 5 rfl) zaac zaad))))))) (zaaj (zaam (qv av25 2 rfl)))))))),?_⟩
 (try dsimp only [cxOf])
 obtain ⟨dx,ob⟩:=na.ob
 have gt:=na.gt
 have lx:xs.length=sg.length:=na.gg.len
 have lz:zs.length=lo.length:=gz.len
 walk_at "rd"
 rename_i H1 c1 l hl
 have gg1:=na.gg.tu (Tu.same c1)
 refine ⟨⟨_,((hll.ch c1).ch (Ch.new hl _)).sq⟩,?_⟩
 refine zaji (xs:=zs) (fun i σ H'=>WI H H' l (sg++lo.take i)∧∃ u v,σ=[some (.ref nt),some (.ref ll),some (.ref l),some (.int ((xs.length:Int) + (zs.length:Int))),u,v]) ⟨?_,_,_,rfl⟩ ?_ ?_ ?_
 ·refine ⟨c1.trans (Ch.new hl _),chFree c1 hl,⟨xs,zaag,?_⟩⟩
  rw [List.take_zero,List.append_nil]
  exact gg1.tu (Tu.same (Ch.new hl _))
 ·rintro i σ H' hi ⟨wi,_⟩
  exact (hll.ch wi.ch).sq
 ·rintro i x σ H' hx ⟨wi,u,v,rfl⟩
  have li:i < lo.length:=by rw [← lz]; exact (List.getElem?_eq_some_iff.mp hx).1
  obtain ⟨g,eg⟩:∃ g,lo[i]?=some g:=⟨_,List.getElem?_eq_getElem li⟩
  obtain ⟨p,kp,e1,e2⟩:=gz.at_ i g eg
  rw [hx] at e1
  cases e1
  have hp1:=e2.ch wi.ch
  obtain ⟨ni,ok⟩:=lok i g eg
  walk_at "rd"
  refine zaa5 (fun σ H2=>∃ p2,WI H H2 l (sg++lo.take i)∧H2 p2=some (.tup g.vs)∧σ=[some (.ref nt),some (.ref ll),some (.ref l),some (.int ((xs.length:Int) + (zs.length:Int))),some (.ref p),some (.ref p2)]) ?_ ?_
  ·cases kp with
   | list =>
    have hp0:H' p=some (.lst g.vs):=hp1
    walk_at "rd"
    rename_i H2 c2 l2 hl2
    exact ⟨wi.go (c2.trans (Ch.new hl2 _)),zaag,rfl⟩
   | tuple =>
    have hp0:H' p=some (.tup g.vs):=hp1
    walk_at "rd"
    rename_i H2 c2
    exact ⟨wi.go c2,c2.get hp0 (by simp),rfl⟩
  ·rintro σ H2 ⟨p2,wi2,hp2,rfl⟩
   obtain ⟨ys,hy,gy⟩:=wi2.ga.ex
   have ly:ys.length=sg.length + i:=by rw [gy.len,List.length_append,List.length_take]; omega
   obtain ⟨wd,rs,ev,hd⟩:=zagt g
   have ei:g.isIn=false:=by cases g <;> first | rfl | exact absurd rfl ni
   rw [ei] at hd
   walk_at "rd"
   refine ⟨by rw [ly,lx,lz]; exact ok,fun H3 c3=>?_⟩
   have hp3:=c3.get hp2 (by simp)
   have hp4:=hp3
   rw [ev] at hp4
   have hy3:=c3.get hy (by simp)
   have wi3:=wi2.go c3
   walk_at "rd"
   rw [hd]
   refine iteF ?_
   walk_at "rd"
   refine ⟨?_,_,_,rfl⟩
   rw [List.take_add_one,eg]
   show WI _ _ _ (sg++(lo.take i++[g]))
   rw [← List.append_assoc]
   exact wi3.push hy3 hp3
 ·rintro σ H' ⟨wi,u,v,rfl⟩
  walk_at "rd"
  have e:sg++lo.take zs.length=sg++lo:=by rw [lz,List.take_length]
  rw [e] at wi
  exact q _ _ wi.ch wi.ga
theorem gl26:AG (defScope (top 26)) ["len", "is_listed", "is_below", "is_pair"]:=⟨by decide +kernel⟩
theorem av26:AF (defScope (top 26)) ["pairs", "count", "total", "pair"]:=⟨by decide +kernel⟩
def spAP:Sp:=fun vs H Q _=>∃ (kd:SK) (ql:Addr) (prs:List (Nat × Str)) (qs:List V) (n t:Nat),vs=[.ref ql,.int (n:Int),.int (t:Int)]∧SqX kd H ql qs∧PrK H prs qs∧prs.length=n∧(∀ p∈prs,p.1 < t)∧∀ (H':Hp),Ch [] H H'→Q (.bl true) H'
theorem scAP:FnScope ["pairs", "count", "total", "pair"] ["pairs", "count", "total"] (defScope (top 26)):=⟨rfl,rfl,rfl,by decide +kernel,rfl,by decide +kernel,by decide +kernel⟩
theorem zapj (F:Fun K "are_pairs" "are_pairs" (top 26) f fd) (Dis_listed:DefOk P w K mg base CX0 k "is_listed" ["thing"] spListed) (Dis_pair:DefOk P w K mg base CX0 k "is_pair" ["thing"] spPair) (Dis_below:DefOk P w K mg base CX0 k "is_below" ["thing", "bound"] spBelow) (z_len:mg "len" = none):FnOk P w K mg base CX0 (k + 1) f fd ["pairs", "count", "total"] spAP:=by
 have nd:=scAP.nd
 refine F.ok scAP (fun vs H Q E h=>by obtain ⟨kd,ql,prs,qs,n,t,rfl,_⟩:=h; rfl) (fun cdv A outer s0 H vs Q E hr h=>?_)
 obtain ⟨kd,ql,prs,qs,n,t,rfl,hql,pp,ln,lt,q⟩:=h
 refine ⟨_,(Pr.h (zaah (zaa1 (zab3 (zac3 (zab9 (zabu (zaai Dis_listed hr (gl26.g 1 rfl) pass0 (zaaa (qv av26 0 rfl) zaac zaad) zacr))) (zact (zaak zaib (zaax zaau (gl26.g 0 rfl) z_len PySem.boot_len (zaaa (qv av26 0 rfl) zaac zaad) zabl zabm) (qv av26 1 rfl) (nomark _))))) (zaaj (zaam zabw)) zaao) (zaah (zacf PassesOwn.never rfl (zai8 K rfl kd (qv av26 0 rfl)) (zaa6 (i:=3) nd rfl (av26.l 3 rfl)) (zaaj (zaa1 (zab3 (zacl (zaak zalm (qv av26 3 rfl) zacy (nomark _)) (zacd (zab9 (zab3 (zacl (zabu (zaai Dis_pair hr (gl26.g 3 rfl) pass0 (zaaa (qv av26 3 rfl) zaac zaad) zaez)) (zacd (zabu (zaai Dis_below hr (gl26.g 2 rfl) pass0 (zaaa (zaar (zacb K rfl) (qv av26 3 rfl) zaae (fun _ _=>rfl)) (zaaa (qv av26 2 rfl) zaac zaad) zaaz) zacm))))))))) (zaaj (zaam zabw)) zaao))) (zaaj (zaam zabw))))),?_⟩
 (try dsimp only [cxOf])
 have lq:qs.length=n:=by rw [pp.len]; exact ln
 walk_at "rd"
 rename_i H1 c1
 refine iteNn (by rw [lq]) ?_
 walk_at "rd"
 refine ⟨⟨_,(hql.ch c1).sq⟩,?_⟩
 refine zaji (xs:=qs) (fun i σ H'=>Ch [] H H'∧∃ u,σ=[some (.ref ql),some (.int (n:Int)),some (.int (t:Int)),u]) ⟨c1,_,rfl⟩ ?_ ?_ ?_
 ·rintro i σ H' hi ⟨c,_⟩
  exact (hql.ch c).sq
 ·rintro i x σ H' hx ⟨c,u,rfl⟩
  have li:i < prs.length:=by rw [← pp.len]; exact (List.getElem?_eq_some_iff.mp hx).1
  obtain ⟨p,ep⟩:∃ p,prs[i]?=some p:=⟨_,List.getElem?_eq_getElem li⟩
  obtain ⟨a,kp,e1,e2⟩:=pp.at_ i p ep
  rw [hx] at e1
  cases e1
  have ha:=e2.ch c
  have lp:=lt p (List.mem_of_getElem? ep)
  walk_at "rd"
 ·rintro σ H' ⟨c,u,rfl⟩
  walk_at "rd"
  exact q _ c
end
end

section
local macro_rules | `(tactic| walk_at "sqx")=>`(tactic| first
 | with_reducible assumption
 | (apply SqX.ch; (focus with_reducible assumption); (focus walk_at "ch")))
local macro_rules | `(tactic| walk_at "user")=>`(tactic| first
 | (apply GA.ch; (focus with_reducible assumption); (focus walk_at "ch"))
 | (apply NetAt.ch; (focus with_reducible assumption); (focus walk_at "ch"))
 | (apply SqX.or; (focus walk_at "sqx"))
 | (focus walk_at "sqx")
 | exact Gt.vs_sca _)
theorem zab5 (g:Gt):g.feeds.length≤3:=by cases g <;> simp [Gt.feeds]
def prF (prs:List (Nat × Str)) (fs:List Nat):List (Nat × Str):=fs.map fun a=>prs.getD a (0,Str.empty)
theorem zamj (prs:List (Nat × Str)) (fs:List Nat):((prF prs fs).map fun p=>nV p.1)=fs.map fun a=>nV (rho prs a):=by
 unfold prF rho
 rw [List.map_map]; rfl
theorem zaku {prs:List (Nat × Str)}{fs:List Nat}{j a:Nat}{p:Nat × Str} (h:fs[j]?=some a) (e:prs[a]?=some p):prF prs (fs.take (j + 1))=prF prs (fs.take j)++[p]:=by
 unfold prF
 rw [List.take_add_one,h]
 simp [List.getD_eq_getElem?_getD,e]
section
variable {P:Program}{w:World}{K:PySem.W.Frag}{mg:Str→Option Value}{base:Heap}{f:Addr}{fd:FuncData}{k:Nat}
theorem zaf3:Nd "ins_of" := by decide +kernel
theorem zagw:Nd "feeds_of" := by decide +kernel
theorem zafe:Nd "pair_holds" := by decide +kernel
theorem av27:AF (defScope (top 27)) ["net", "small", "pairs", "ins", "small_ins", "number", "small_number"]:=⟨by decide +kernel⟩
theorem gl27:AG (defScope (top 27)) ["ins_of", "len", "zip", "tuple"]:=⟨by decide +kernel⟩
def spIH (CN:Addr):Sp:=fun vs H Q _=>∃ (nt gp op st gp2 op2 ql:Addr) (net sg:List Gt) (xs xs2:List V) (os so:List Nat) (prs:List (Nat × Str)) (qs:List V) (kd:SK),vs=[.ref nt,.ref st,.ref ql]∧NetAt CN H nt gp op net xs os∧NetAt CN H st gp2 op2 sg xs2 so∧net.length≤1000∧sg.length≤1000∧SqX kd H ql qs∧PrK H prs qs ∧
 (numsOf Gt.isIn net 0).length=(numsOf Gt.isIn sg 0).length∧(∀ (j n m:Nat),(numsOf Gt.isIn net 0)[j]?=some n→(numsOf Gt.isIn sg 0)[j]?=some m→prs[n]?=some (m,Str.ofString "in"))∧∀ (H':Hp),Ch [] H H'→Q (.bl true) H'
theorem scIH:FnScope ["net", "small", "pairs", "ins", "small_ins", "number", "small_number"] ["net", "small", "pairs"] (defScope (top 27)):=⟨rfl,rfl,rfl,by decide +kernel,rfl,by decide +kernel,by decide +kernel⟩
theorem zapk {CN:Addr} (F:Fun K "ins_hold" "ins_hold" (top 27) f fd) (Dins_of:DefOk P w K mg base CX0 k "ins_of" ["net"] (spIns CN)) (z_len:mg "len" = none) (z_zip:mg "zip" = none) (z_tuple:mg "tuple" = none):FnOk P w K mg base CX0 (k + 1) f fd ["net", "small", "pairs"] (spIH CN):=by
 have nd:=scIH.nd
 refine F.ok scIH (fun vs H Q E h=>by obtain ⟨nt,gp,op,st,gp2,op2,ql,net,sg,xs,xs2,os,so,prs,qs,kd,rfl,_⟩:=h; rfl) (fun cdv A outer s0 H vs Q E hr h=>?_)
 obtain ⟨nt,gp,op,st,gp2,op2,ql,net,sg,xs,xs2,os,so,prs,qs,kd,rfl,na,na2,l1,l2,hql,pp,le,hin,q⟩:=h
 refine ⟨_,(Pr.h (zaah (zaap (i:=3) nd rfl (av27.l 3 rfl) (zaai Dins_of hr (gl27.g 0 rfl) pass0 (zaaa (qv av27 0 rfl) zaac zaad) zaf3)) (zaah (zaap (i:=4) nd rfl (av27.l 4 rfl) (zaai Dins_of hr (gl27.g 0 rfl) pass0 (zaaa (qv av27 1 rfl) zaac zaad) zaf3)) (zaah (zaa1 (zaak zaib (zaax zaau (gl27.g 1 rfl) z_len PySem.boot_len (zaaa (qv av27 3 rfl) zaac zaad) zabl zabm) (zaax zaau (gl27.g 1 rfl) z_len PySem.boot_len (zaaa (qv av27 4 rfl) zaac zaad) zabl zabm) (nomark _)) (zaaj (zaam zabw)) zaao) (zaah (zacf PassesOwn.never rfl (zagi .list .list (gl27.g 2 rfl) z_zip (zaaa (qv av27 3 rfl) (zaaa (qv av27 4 rfl) zaac zaad) zaad)) (zadp rfl (zabb (zaa6 (i:=5) nd rfl (av27.l 5 rfl)) (zabb (zaa6 (i:=6) nd rfl (av27.l 6 rfl)) zace))) (zaaj (zaa1 (zab3 (zac3 (zaak zag7 (zaar (zacb K rfl) (qv av27 2 rfl) (qv av27 5 rfl) (fun _ _=>rfl)) zacy (nomark _)) (zact (zaak (zan6 hr.units) (zabh zabf (gl27.g 3 rfl) z_tuple zabz (zaaa (zaar (zacb K rfl) (qv av27 2 rfl) (qv av27 5 rfl) (fun _ _=>rfl)) zaac zaaz) zab0 zab1) (zaaw (zaaa (qv av27 6 rfl) (zaaa zaaf zaac zaab) zaad)) (nomark _))))) (zaaj (zaam zabw)) zaao))) (zaaj (zaam zabw))))))),?_⟩
 (try dsimp only [cxOf])
 walk_at "rd"
 rename_i r1 H1 c1 f1 e1 r2 H2 c2 f2 e2
 refine iteNn (by rw [List.length_map,List.length_map,le]) ?_
 walk_at "rd"
 have c12:=c1.trans c2
 have e12:=c2.get e1 (by simp)
 refine zae6 (xs:=(numsOf Gt.isIn net 0).map nV) (ys:=(numsOf Gt.isIn sg 0).map nV) (fun i σ H'=>Ch [] H H'∧Ch [] H2 H'∧∃ u v,σ=[some (.ref nt),some (.ref st),some (.ref ql),some (.ref r1),some (.ref r2),u,v]) ⟨c12,Ch.refl _ _,_,_,rfl⟩ ?_ ?_ ?_
 ·rintro i σ H' hi ⟨c,d,_⟩
  exact ⟨SqL.of (d.get e12 (by simp)),SqL.of (d.get e2 (by simp))⟩
 ·rintro i x y σ H' T hx hy ⟨c,d,u,v,rfl⟩ hT
  rw [List.getElem?_map] at hx hy
  obtain ⟨n,en,rfl⟩:=Option.map_eq_some_iff.mp hx
  obtain ⟨m,em,rfl⟩:=Option.map_eq_some_iff.mp hy
  have ep:=hin i n m en em
  obtain ⟨a,kp,ea,ha⟩:=pp.at_ n _ ep
  have at1:=zach ea
  have cT:=Ch.new (W:=[]) hT (.tup [nV n,nV m])
  have hT1:upd H' T (.tup [nV n,nV m]) T=_:=zaag
  have cc:=c.trans cT
  have dd:=d.trans cT
  have ha1:=ha.ch cc
  have hql1:=hql.ch cc
  have sc1:ScaL [V.int (m:Int),V.str (Str.ofString "in")]:=by
   refine ⟨fun z hz=>?_⟩
   simp at hz
   rcases hz with rfl | rfl
   ·exact .inl ⟨_,rfl⟩
   ·exact .inr ⟨_,rfl⟩
  unfold nV at *
  obtain ⟨HT,eHT⟩:∃ HT,HT=upd H' T (.tup [V.int (n:Int),V.int (m:Int)]):=⟨_,rfl⟩
  rw [← eHT] at ha1 hql1 hT1 cc dd ⊢
  clear ha
  cases kp with
  | list =>
   have ha2:HT a=some (.lst _):=ha1
   walk_at "rd"
   rename_i T1 hT1 T2 hT2
   refine iteNn rfl ?_
   exact ⟨(cc.trans (Ch.new hT1 _)).trans (Ch.new hT2 _),(dd.trans (Ch.new hT1 _)).trans (Ch.new hT2 _),_,_,rfl⟩
  | tuple =>
   have ha2:HT a=some (.tup _):=ha1
   walk_at "rd"
   rename_i T2 hT2
   refine iteNn rfl ?_
   exact ⟨cc.trans (Ch.new hT2 _),dd.trans (Ch.new hT2 _),_,_,rfl⟩
 ·rintro σ H' ⟨c,d,u,v,rfl⟩
  walk_at "rd"
  exact q _ c
theorem gl28:AG (defScope (top 28)) ["len", "zip"]:=⟨by decide +kernel⟩
theorem av28:AF (defScope (top 28)) ["net", "small", "pairs", "out", "small_out"]:=⟨by decide +kernel⟩
def spOH (CN:Addr):Sp:=fun vs H Q _=>∃ (nt gp op st gp2 op2 ql:Addr) (net sg:List Gt) (xs xs2:List V) (os so:List Nat) (prs:List (Nat × Str)) (qs:List V) (kd:SK),vs=[.ref nt,.ref st,.ref ql]∧NetAt CN H nt gp op net xs os∧NetAt CN H st gp2 op2 sg xs2 so∧SqX kd H ql qs∧PrK H prs qs ∧
 os.length=so.length∧(∀ (j o m:Nat),os[j]?=some o→so[j]?=some m→∃ y,prs[o]?=some (m,y))∧∀ (H':Hp),Ch [] H H'→Q (.bl true) H'
theorem scOH:FnScope ["net", "small", "pairs", "out", "small_out"] ["net", "small", "pairs"] (defScope (top 28)):=⟨rfl,rfl,rfl,by decide +kernel,rfl,by decide +kernel,by decide +kernel⟩
theorem zapl {CN:Addr} (F:Fun K "outs_hold" "outs_hold" (top 28) f fd) (cl:Cls K CN) (nO:NoAttr K CN "outs") (z_len:mg "len" = none) (z_zip:mg "zip" = none):FnOk P w K mg base CX0 (k + 1) f fd ["net", "small", "pairs"] (spOH CN):=by
 have nd:=scOH.nd
 refine F.ok scOH (fun vs H Q E h=>by obtain ⟨nt,gp,op,st,gp2,op2,ql,net,sg,xs,xs2,os,so,prs,qs,kd,rfl,_⟩:=h; rfl) (fun cdv A outer s0 H vs Q E hr h=>?_)
 obtain ⟨nt,gp,op,st,gp2,op2,ql,net,sg,xs,xs2,os,so,prs,qs,kd,rfl,na,na2,hql,pp,le,hin,q⟩:=h
 refine ⟨_,(Pr.h (zaah (zaa1 (zaak zaib (zaax zaau (gl28.g 0 rfl) z_len PySem.boot_len (zaaa (zac2 (qv av28 0 rfl) rfl) zaac zabo) zabl zabm) (zaax zaau (gl28.g 0 rfl) z_len PySem.boot_len (zaaa (zac2 (qv av28 1 rfl) rfl) zaac zabo) zabl zabm) (nomark _)) (zaaj (zaam zabw)) zaao) (zaah (zacf PassesOwn.never rfl (zagi .tuple .tuple (gl28.g 1 rfl) z_zip (zaaa (zac2 (qv av28 0 rfl) rfl) (zaaa (zac2 (qv av28 1 rfl) rfl) zaac zabo) zabo)) (zadp rfl (zabb (zaa6 (i:=3) nd rfl (av28.l 3 rfl)) (zabb (zaa6 (i:=4) nd rfl (av28.l 4 rfl)) zace))) (zaaj (zaa1 (zab3 (zac3 (zaak zag7 (zaar (zacb K rfl) (qv av28 2 rfl) (qv av28 3 rfl) (fun _ _=>rfl)) zacy (nomark _)) (zact (zaak zaib (zaar (zacb K rfl) (zaar (zacb K rfl) (qv av28 2 rfl) (qv av28 3 rfl) (fun _ _=>rfl)) zaae (fun _ _=>rfl)) (qv av28 4 rfl) (nomark _))))) (zaaj (zaam zabw)) zaao))) (zaaj (zaam zabw))))),?_⟩
 (try dsimp only [cxOf])
 obtain ⟨⟨d1,ob1⟩,_,_,ot1⟩:=id na
 obtain ⟨⟨d2,ob2⟩,_,_,ot2⟩:=id na2
 have fo1:=zadu gp op
 have fo2:=zadu gp2 op2
 walk_at "rd"
 refine iteNn (by rw [List.length_map,List.length_map,le]) ?_
 walk_at "rd"
 refine zae6 (xs:=os.map nV) (ys:=so.map nV) (fun i σ H'=>Ch [] H H'∧∃ u v,σ=[some (.ref nt),some (.ref st),some (.ref ql),u,v]) ⟨Ch.refl _ _,_,_,rfl⟩ ?_ ?_ ?_
 ·rintro i σ H' hi ⟨c,_⟩
  exact ⟨SqT.of (c.get ot1 (by simp)),SqT.of (c.get ot2 (by simp))⟩
 ·rintro i x y σ H' T hx hy ⟨c,u,v,rfl⟩ hT
  rw [List.getElem?_map] at hx hy
  obtain ⟨n,en,rfl⟩:=Option.map_eq_some_iff.mp hx
  obtain ⟨m,em,rfl⟩:=Option.map_eq_some_iff.mp hy
  obtain ⟨ww,ep⟩:=hin i n m en em
  obtain ⟨a,kp,ea,ha⟩:=pp.at_ n _ ep
  have at1:=zach ea
  have cT:=Ch.new (W:=[]) hT (.tup [nV n,nV m])
  have hT1:upd H' T (.tup [nV n,nV m]) T=_:=zaag
  have cc:=c.trans cT
  have ha1:=ha.ch cc
  have hql1:=hql.ch cc
  unfold nV at *
  obtain ⟨HT,eHT⟩:∃ HT,HT=upd H' T (.tup [V.int (n:Int),V.int (m:Int)]):=⟨_,rfl⟩
  rw [← eHT] at ha1 hql1 hT1 cc ⊢
  walk_at "rd"
  refine iteNn rfl ?_
  exact ⟨cc,_,_,rfl⟩
 ·rintro σ H' ⟨c,u,v,rfl⟩
  walk_at "rd"
  exact q _ c
theorem gl29:AG (defScope (top 29)) ["zip", "feeds_of", "pair_holds"]:=⟨by decide +kernel⟩
theorem av29:AF (defScope (top 29)) ["net", "gates", "pairs", "gate", "pair", "feed_pairs"]:=⟨by decide +kernel⟩
def zagx:Scope:={ kind:=PySem.ScopeKind.function,names:=[ (PySem.Str.ofString ".0",PySem.NameKind.local),(PySem.Str.ofString "feed",PySem.NameKind.local),(PySem.Str.ofString "pairs",PySem.NameKind.free)],isGenerator:=false,isCoroutine:=false,more:=[]:PySem.Scope }
theorem zajj:CompOk zagx (defScope (top 29)) (["feed"]:List Str) (["net", "gates", "pairs", "gate", "pair", "feed_pairs"]:List Str) [2] (["feed", "pairs"]:List Str):=compOk rfl (by decide +kernel) (by decide +kernel) (by decide +kernel) (by decide +kernel) rfl (by decide +kernel)
theorem zajk:AK (relab zagx (defScope (top 29))) ["feed"]:=⟨by decide +kernel⟩
theorem zajl:AV (relab zagx (defScope (top 29))) ["feed", "pairs"]:=⟨by decide +kernel⟩
def zagy:Scope:={ kind:=PySem.ScopeKind.function,names:=[(PySem.Str.ofString ".0",PySem.NameKind.local),(PySem.Str.ofString "feed_pair",PySem.NameKind.local)],isGenerator:=false,isCoroutine:=false,more:=[]:PySem.Scope }
theorem zajm:CompOk zagy (defScope (top 29)) (["feed_pair"]:List Str) (["net", "gates", "pairs", "gate", "pair", "feed_pairs"]:List Str) [] (["feed_pair"]:List Str):=compOk rfl (by decide +kernel) (by decide +kernel) (by decide +kernel) (by decide +kernel) rfl (by decide +kernel)
theorem zajn:AK (relab zagy (defScope (top 29))) ["feed_pair"]:=⟨by decide +kernel⟩
theorem zamk:AV (relab zagy (defScope (top 29))) ["feed_pair"]:=⟨by decide +kernel⟩
def spGH (CN:Addr):Sp:=fun vs H Q _=>∃ (nt gp op gl ql:Addr) (net al:List Gt) (xs:List V) (os:List Nat) (prs:List (Nat × Str)) (qs:List V) (kd:SK) (b:Bool),vs=[.ref nt,.ref gl,.ref ql]∧NetAt CN H nt gp op net xs os∧Oks net∧GA H gl al∧SqX kd H ql qs∧PrK H prs qs ∧
 prs.length=net.length∧(∀ p∈prs,p.1 < al.length)∧(∀ (i:Nat) (g:Gt) (p:Nat × Str),net[i]?=some g→g≠.inp→prs[i]?=some p→phB al (rho prs) p.1 p.2 g=(b || decide (i + 1 < net.length)))∧(∀ g:Gt,net[net.length - 1]?=some g→g≠.inp)∧0 < net.length∧∀ (H':Hp),Ch [] H H'→Q (.bl b) H'
theorem scGH:FnScope ["net", "gates", "pairs", "gate", "pair", "feed_pairs"] ["net", "gates", "pairs"] (defScope (top 29)):=⟨rfl,rfl,rfl,by decide +kernel,rfl,by decide +kernel,by decide +kernel⟩
theorem zapm {CN:Addr} (F:Fun K "gates_hold" "gates_hold" (top 29) f fd) (cl:Cls K CN) (nG:NoAttr K CN "gates") (Dfeeds_of:DefOk P w K mg base CX0 k "feeds_of" ["gate"] spFeeds) (Dpair_holds:DefOk P w K mg base CX0 k "pair_holds" ["gates", "gate", "it", "why", "feeds"] spPH) (z_zip:mg "zip" = none):FnOk P w K mg base CX0 (k + 1) f fd ["net", "gates", "pairs"] (spGH CN):=by
 have nd:=scGH.nd
 refine F.ok scGH (fun vs H Q E h=>by obtain ⟨nt,gp,op,gl,ql,net,al,xs,os,prs,qs,kd,b,rfl,_⟩:=h; rfl) (fun cdv A outer s0 H vs Q E hr h=>?_)
 obtain ⟨nt,gp,op,gl,ql,net,al,xs,os,prs,qs,kd,b,rfl,na,ok,ga,hql,pp,lp,lt,hh,hla,h0,q⟩:=h
 refine ⟨_,(Pr.h (zaah (zacf PassesOwn.never rfl (zagi .tuple kd (gl29.g 0 rfl) z_zip (zaaa (zac2 (qv av29 0 rfl) rfl) (zaaa (qv av29 2 rfl) zaac zaad) zabo)) (zadp rfl (zabb (zaa6 (i:=3) nd rfl (av29.l 3 rfl)) (zabb (zaa6 (i:=4) nd rfl (av29.l 4 rfl)) zace))) (zaah (zaa1 (zab3 (zac3 (zaak zaa3 (zaar zabx (qv av29 3 rfl) zaae (fun _ _=>rfl)) zaaf (nomark _)) (zact (zaak zag7 (qv av29 4 rfl) zacy (nomark _))))) (zaaj zafx) zaao) (zaat (zae8 (i:=5) nd rfl (av29.l 5 rfl) rfl zajj (zadi (zaai Dfeeds_of hr (gl29.g 1 rfl) pass0 (zaaa (qv av29 3 rfl) zaac zaad) zagw)) (fun _ _ _ _ _=>(zaa6 (i:=0) zajj.nd rfl (Or.inl (zajk.k 0 rfl)) (Or.inr (zajk.k 0 rfl)))) (fun _ _ _ _ _=>zac8) (fun _ _ _ _ _=>(zaar (zacb K rfl) (qw zajl 1 rfl) (qw zajl 0 rfl) (fun _ _=>rfl))) rfl) (zaah (zaa1 (zaak (zan7 hr.units) zacy (qv av29 5 rfl) rfl) (zaaj (zaam zabw)) zaao) (zaaj (zaa1 (zab9 (zabu (zaai Dpair_holds hr (gl29.g 2 rfl) pass0 (zaaa (qv av29 1 rfl) (zaaa (qv av29 3 rfl) (zaaa (zaar (zacb K rfl) (qv av29 4 rfl) zaae (fun _ _=>rfl)) (zaaa (zaar (zacb K rfl) (qv av29 4 rfl) zaae (fun _ _=>rfl)) (zaaa (zad6 rfl zajm (zadi (qv av29 5 rfl)) (fun _ _ _ _ _=>(zaa6 (i:=0) zajm.nd rfl (Or.inl (zajn.k 0 rfl)) (Or.inr (zajn.k 0 rfl)))) (fun _ _ _ _ _=>zac8) (fun _ _ _ _ _=>(zaar (zacb K rfl) (qw zamk 0 rfl) zaae (fun _ _=>rfl)))) zaac zadc) zaaz) zaaz) zaad) zaad) zafe))) (zaaj (zaam zabw)) zaao)))))) (zaaj (zaam zabw)))),?_⟩
 (try dsimp only [cxOf])
 obtain ⟨⟨d1,ob1⟩,gt1,gg1,_⟩:=id na
 have fo1:=zac0 gp op
 have lx:xs.length=net.length:=gg1.len
 walk_at "rd"
 refine ⟨⟨_,hql.sq⟩,?_⟩
 refine zae6 (xs:=xs) (ys:=qs) (fun i σ H'=>Ch [] H H'∧(i=net.length→b=true)∧∃ u v z,σ=[some (.ref nt),some (.ref gl),some (.ref ql),u,v,z]) ⟨Ch.refl _ _,fun z=>by omega,_,_,_,rfl⟩ ?_ ?_ ?_
 ·rintro i σ H' hi ⟨c,_⟩
  exact ⟨SqT.of (c.get gt1 (by simp)),(hql.ch c).sq⟩
 ·rintro i x y σ H' T hx hy ⟨c,_,u,v,z,rfl⟩ hT
  have hi:i < net.length:=by rw [← lx]; exact (List.getElem?_eq_some_iff.mp hx).1
  obtain ⟨g,hgi⟩:∃ g,net[i]?=some g:=⟨_,List.getElem?_eq_getElem hi⟩
  obtain ⟨pr,hpi⟩:∃ pr,prs[i]?=some pr:=⟨_,List.getElem?_eq_getElem (by omega)⟩
  obtain ⟨p,ep,hp⟩:=gg1.at_ i g hgi
  obtain ⟨pa,kp,ea,ha⟩:=pp.at_ i pr hpi
  rw [hx] at ep
  cases ep
  rw [hy] at ea
  cases ea
  have cT:=Ch.new (W:=[]) hT (.tup [.ref p,.ref pa])
  have hT1:upd H' T (.tup [.ref p,.ref pa]) T=_:=zaag
  have cc:=c.trans cT
  obtain ⟨HT,eHT⟩:∃ HT,HT=upd H' T (.tup [.ref p,.ref pa]):=⟨_,rfl⟩
  rw [← eHT] at cc hT1 ⊢
  have hp1:=cc.get hp (by simp)
  have ha1:=ha.ch cc
  obtain ⟨wd,rs,ev,hd⟩:=zagt g
  have hp2:=hp1
  rw [ev] at hp2
  walk_at "rd"
  rw [hd]
  cases ei:g.isIn with
  | true =>
   refine iteT ?_
   have nl:¬ i + 1=net.length:=fun e=>hla g (by rw [show net.length - 1=i by omega]; exact hgi) (by cases g <;> first | rfl | (cases ei))
   walk_at "rd"
  | false =>
  have ni:g≠.inp:=fun z=>by rw [z] at ei; cases ei
  have gh:=hh i g pr hgi ni hpi
  have lf:∀ a∈g.feeds,a < net.length:=fun a ha=>by
   have:=ok i g hgi
   cases g <;> simp [Gt.feeds,Gt.ok] at ha this <;> omega
  have lr:∀ a∈g.feeds,rho prs a < al.length:=fun a ha=>by
   have la:=lf a ha
   have e:=List.getElem?_eq_getElem (l:=prs) (i:=a) (by omega)
   have:=lt _ (List.mem_of_getElem? e)
   unfold rho
   rw [List.getD_eq_getElem?_getD,e]
   exact this
  refine iteF ?_
  walk_at "rd"
  refine zaa5 (fun σ H2=>∃ fl zs,Ch [] H H2∧H2 fl=some (.lst zs)∧PrK H2 (prF prs g.feeds) zs∧σ=[some (.ref nt),some (.ref gl),some (.ref ql),some (.ref p),some (.ref pa),some (.ref fl)]) ?_ ?_
  ·walk_at "rd"
   rename_i r H3 c3 fr hr3
   have c13:=cc.trans c3
   have hq3:=hql.ch c13
   have pp3:=pp.ch c13
   refine zadj (g.feeds.map nV) (fun j zs σ H'=>H'=H3∧PrK H3 (prF prs (g.feeds.take j)) zs∧∃ u,σ=[u,some (.ref ql)]) (by rw [List.length_map,sizeLine_eq]; have:=zab5 g; omega) ⟨rfl,⟨rfl,fun i p e=>by simp [prF] at e⟩,_,rfl⟩ ?_ ?_ ?_
   ·rintro j zs σ H' hj ⟨rfl,pz,_⟩
    refine ⟨?_,SqL.of hr3⟩
    rw [pz.len]
    simp [prF,List.length_take]
    rw [List.length_map] at hj
    omega
   ·rintro j zs σ H' x hx' ⟨rfl,pz,u,rfl⟩
    rw [List.getElem?_map] at hx'
    obtain ⟨n,en,rfl⟩:=Option.map_eq_some_iff.mp hx'
    have ln:=lf n (List.mem_of_getElem? en)
    obtain ⟨pn,epn⟩:∃ pn,prs[n]?=some pn:=⟨_,List.getElem?_eq_getElem (by omega)⟩
    obtain ⟨an,kn,ean,han⟩:=pp3.at_ n pn epn
    have at1:=zach ean
    have pz2:=pz.push han
    rw [← zaku en epn] at pz2
    unfold nV at *
    walk_at "rd"
   ·rintro zs σ H' ⟨rfl,pz,_⟩
    rw [List.length_map,List.take_length] at pz
    walk_at "rd"
    rename_i fl hfl
    exact ⟨pz.ch (Ch.new hfl _),rfl⟩
  ·rintro σ H2 ⟨fl,zs,c2,hfl,pz,rfl⟩
   have hz:∀ z∈zs,∃ p,z=.ref p∧((∃ zs,H2 p=some (.lst zs))∨∃ zs,H2 p=some (.tup zs)):=fun z hz=>by
    obtain ⟨j,hj⟩:=List.getElem?_of_mem hz
    have lj:j < (prF prs g.feeds).length:=by rw [← pz.len]; exact (List.getElem?_eq_some_iff.mp hj).1
    obtain ⟨a,kj,e1,e2⟩:=pz.at_ j _ (List.getElem?_eq_getElem lj)
    rw [hj] at e1
    cases e1
    cases kj with
    | list=>exact ⟨a,rfl,.inl ⟨_,e2⟩⟩
    | tuple=>exact ⟨a,rfl,.inr ⟨_,e2⟩⟩
   have hp3:=c2.get hp (by simp)
   have ha3:=ha.ch c2
   have ga3:=ga.ch c2
   walk_at "rd"
   refine zadj zs (fun j ys σ H'=>H'=H2∧ys=((prF prs g.feeds).take j).map (fun p=>nV p.1)∧∃ u,σ=[u]) (by rw [pz.len,sizeLine_eq]; have:=zab5 g; simp only [prF,List.length_map]; omega) ⟨rfl,rfl,_,rfl⟩ ?_ ?_ ?_
   ·rintro j ys σ H' hj ⟨rfl,rfl,_⟩
    refine ⟨?_,SqL.of hfl⟩
    rw [pz.len] at hj
    simp [List.length_take]
    omega
   ·rintro j ys σ H' x hx' ⟨rfl,rfl,u,rfl⟩
    have lj:j < (prF prs g.feeds).length:=by rw [← pz.len]; exact (List.getElem?_eq_some_iff.mp hx').1
    obtain ⟨pj,epj⟩:∃ pj,(prF prs g.feeds)[j]?=some pj:=⟨_,List.getElem?_eq_getElem lj⟩
    obtain ⟨a,kj,e1,e2⟩:=pz.at_ j _ epj
    rw [hx'] at e1
    cases e1
    walk_at "rd"
    refine ⟨?_,_,rfl⟩
    rw [List.take_add_one,epj]
    simp
   ·rintro ys σ H' ⟨rfl,rfl,_⟩
    rw [pz.len,List.take_length,zamj]
    walk_at "rd"
    rename_i D hD
    refine ⟨lt _ (List.mem_of_getElem? hpi),lr,fun H4 c4=>?_⟩
    rw [gh]
    have cF:=(c2.trans (Ch.new hD (.lst (g.feeds.map fun a=>nV (rho prs a))))).trans c4
    cases b with
    | true =>
     rw [Bool.true_or]
     walk_at "rd"
     exact ⟨fun _=>rfl,_,_,_,rfl⟩
    | false =>
     by_cases hl:i + 1 < net.length
     ·rw [decide_eq_true hl,Bool.false_or]
      walk_at "rd"
     ·rw [decide_eq_false hl,Bool.false_or]
      walk_at "rd"
      exact q _ cF
 ·rintro σ H' ⟨c,hb,u,v,z,rfl⟩
  walk_at "rd"
  rw [hb (by have:=pp.len; omega)] at q
  exact q _ c
end
end

section
local macro_rules | `(tactic| walk_at "sqx")=>`(tactic| first
 | with_reducible assumption
 | (apply SqX.ch; (focus with_reducible assumption); (focus walk_at "ch")))
local macro_rules | `(tactic| walk_at "user")=>`(tactic| first
 | (apply GA.ch; (focus with_reducible assumption); (focus walk_at "ch"))
 | (apply NetAt.ch; (focus with_reducible assumption); (focus walk_at "ch"))
 | (apply SqX.or; (focus walk_at "sqx"))
 | (focus walk_at "sqx"))
structure Sho (net:List Gt) (os:List Nat) (sg:List Gt) (so:List Nat) (lo:List Gt) (prs:List (Nat × Str)) (b:Bool):Prop where
 ok:Oks net
 len:prs.length=net.length
 lt:∀ p∈prs,p.1 < (sg++lo).length
 lk:∀ (j:Nat) (g:Gt),lo[j]?=some g→g≠.inp∧g.ok (sg.length + j) (sg.length + lo.length)
 il:(numsOf Gt.isIn net 0).length=(numsOf Gt.isIn sg 0).length
 ins:∀ (j n m:Nat),(numsOf Gt.isIn net 0)[j]?=some n→(numsOf Gt.isIn sg 0)[j]?=some m→prs[n]?=some (m,Str.ofString "in")
 ol:os.length=so.length
 outs:∀ (j o m:Nat),os[j]?=some o→so[j]?=some m→∃ y,prs[o]?=some (m,y)
 gts:∀ (i:Nat) (g:Gt) (p:Nat × Str),net[i]?=some g→g≠.inp→prs[i]?=some p→phB (sg++lo) (rho prs) p.1 p.2 g=(b || decide (i + 1 < net.length))
 la:∀ g:Gt,net[net.length - 1]?=some g→g≠.inp
 n0:0 < net.length
section
variable {P:Program}{w:World}{K:PySem.W.Frag}{mg:Str→Option Value}{base:Heap}{f:Addr}{fd:FuncData}{k:Nat}
theorem zaf4:Nd "with_lost" := by decide +kernel
theorem zaf5:Nd "are_pairs" := by decide +kernel
theorem zaff:Nd "gates_hold" := by decide +kernel
theorem zaf6:Nd "outs_hold" := by decide +kernel
theorem zagz:Nd "ins_hold" := by decide +kernel
theorem gl30:AG (defScope (top 30)) ["is_pair", "with_lost", "are_pairs", "len", "gates_hold", "outs_hold", "ins_hold"]:=⟨by decide +kernel⟩
theorem av30:AF (defScope (top 30)) ["net", "small", "paper", "gates", "pairs"]:=⟨by decide +kernel⟩
def spSH (CN:Addr):Sp:=fun vs H Q _=>∃ (nt gp op st gp2 op2 pp ll ql:Addr) (k1 k2 k3:SK) (net sg lo:List Gt) (xs xs2 zs qs:List V) (os so:List Nat) (prs:List (Nat × Str)) (b:Bool),vs=[.ref nt,.ref st,.ref pp]∧NetAt CN H nt gp op net xs os∧NetAt CN H st gp2 op2 sg xs2 so∧SqX k1 H pp [.ref ll,.ref ql]∧SqX k2 H ll zs∧GsK H lo zs∧SqX k3 H ql qs∧PrK H prs qs ∧
 net.length≤1000∧sg.length≤1000∧lo.length≤1000∧Sho net os sg so lo prs b∧∀ (H':Hp),Ch [] H H'→Q (.bl b) H'
theorem scSH:FnScope ["net", "small", "paper", "gates", "pairs"] ["net", "small", "paper"] (defScope (top 30)):=⟨rfl,rfl,rfl,by decide +kernel,rfl,by decide +kernel,by decide +kernel⟩
theorem zapn {CN:Addr} (F:Fun K "small_holds" "small_holds" (top 30) f fd) (cl:Cls K CN) (nG:NoAttr K CN "gates") (Dis_pair:DefOk P w K mg base CX0 k "is_pair" ["thing"] spPair) (Dwith_lost:DefOk P w K mg base CX0 k "with_lost" ["small", "lost"] (spWL CN)) (Dare_pairs:DefOk P w K mg base CX0 k "are_pairs" ["pairs", "count", "total"] spAP)
  (Dins_hold:DefOk P w K mg base CX0 k "ins_hold" ["net", "small", "pairs"] (spIH CN)) (Douts_hold:DefOk P w K mg base CX0 k "outs_hold" ["net", "small", "pairs"] (spOH CN)) (Dgates_hold:DefOk P w K mg base CX0 k "gates_hold" ["net", "gates", "pairs"] (spGH CN)) (z_len:mg "len" = none):FnOk P w K mg base CX0 (k + 1) f fd ["net", "small", "paper"] (spSH CN):=by
 have nd:=scSH.nd
 refine F.ok scSH (fun vs H Q E h=>by obtain ⟨nt,gp,op,st,gp2,op2,pp,ll,ql,k1,k2,k3,net,sg,lo,xs,xs2,zs,qs,os,so,prs,b,rfl,_⟩:=h; rfl) (fun cdv A outer s0 H vs Q E hr h=>?_)
 obtain ⟨nt,gp,op,st,gp2,op2,pp,ll,ql,k1,k2,k3,net,sg,lo,xs,xs2,zs,qs,os,so,prs,b,rfl,na,na2,hpp,hll,gz,hql,pq,l1,l2,l3,sh,q⟩:=h
 refine ⟨_,(Pr.h (zaah (zaa1 (zab9 (zabu (zaai Dis_pair hr (gl30.g 0 rfl) pass0 (zaaa (qv av30 2 rfl) zaac zaad) zaez))) (zaaj (zaam zabw)) zaao) (zaat (zaap (i:=3) nd rfl (av30.l 3 rfl) (zaai Dwith_lost hr (gl30.g 1 rfl) pass0 (zaaa (qv av30 1 rfl) (zaaa (zaar (zacb K rfl) (qv av30 2 rfl) zaae (fun _ _=>rfl)) zaac zaaz) zaad) zaf4)) (zaah (zaa1 (zab3 (zac3 (zaak zag7 (qv av30 3 rfl) zacy (nomark _)) (zact (zab9 (zabu (zaai Dare_pairs hr (gl30.g 2 rfl) pass0 (zaaa (zaar (zacb K rfl) (qv av30 2 rfl) zaae (fun _ _=>rfl)) (zaaa (zaax zaau (gl30.g 3 rfl) z_len PySem.boot_len (zaaa (zac2 (qv av30 0 rfl) rfl) zaac zabo) zabl zabm) (zaaa (zaax zaau (gl30.g 3 rfl) z_len PySem.boot_len (zaaa (qv av30 3 rfl) zaac zaad) zabl zabm) zaac zab8) zab8) zaaz) zaf5)))))) (zaaj (zaam zabw)) zaao) (zaat (zaap (i:=4) nd rfl (av30.l 4 rfl) (zaar (zacb K rfl) (qv av30 2 rfl) zaae (fun _ _=>rfl))) (zaaj (zaam (zaay (zaai Dins_hold hr (gl30.g 6 rfl) pass0 (zaaa (qv av30 0 rfl) (zaaa (qv av30 1 rfl) (zaaa (qv av30 4 rfl) zaac zaad) zaad) zaad) zagz) (zaay (zaai Douts_hold hr (gl30.g 5 rfl) pass0 (zaaa (qv av30 0 rfl) (zaaa (qv av30 1 rfl) (zaaa (qv av30 4 rfl) zaac zaad) zaad) zaad) zaf6) (zaav (zaai Dgates_hold hr (gl30.g 4 rfl) pass0 (zaaa (qv av30 0 rfl) (zaaa (qv av30 3 rfl) (zaaa (qv av30 4 rfl) zaac zaad) zaad) zaad) zaff))))))))))),?_⟩
 (try dsimp only [cxOf])
 obtain ⟨⟨d1,ob1⟩,gt1,gg1,_⟩:=id na
 have fo1:=zac0 gp op
 have lx:xs.length=net.length:=gg1.len
 walk_at "rd"
 rename_i H1 c1
 have na1:=na2.ch c1
 have hpp1:=hpp.ch c1
 have hll1:=hll.ch c1
 have gz1:=gz.ch c1
 have lk:=sh.lk
 clear hpp hll gz
 walk_at "rd"
 refine zaa5 (fun σ H2=>∃ r,Ch [] H H2∧GA H2 r (sg++lo)∧Ch [] H1 H2∧σ=[some (.ref nt),some (.ref st),some (.ref pp),some (.ref r),none]) ?_ ?_
 ·walk_at "rd"
 rintro σ H2 ⟨r,c2,ga,c12,rfl⟩
 obtain ⟨ys,hys,gy⟩:=ga.ex
 have hpp2:=hpp1.ch c12
 have hql2:=hql.ch c2
 have pq2:=pq.ch c2
 have ob2:=c2.get ob1 (by simp)
 have gt2:=c2.get gt1 (by simp)
 have lq:prs.length=xs.length:=by rw [lx]; exact sh.len
 have lt:∀ p∈prs,p.1 < ys.length:=by rw [gy.len]; exact sh.lt
 clear hpp1 hll1
 walk_at "rd"
 rename_i H3 c3
 refine iteF ?_
 have hpp3:=hpp2.ch c3
 clear hpp2
 walk_at "rd"
 refine zaa5 (fun σ H4=>Ch [] H H4∧GA H4 r (sg++lo)∧σ=[some (.ref nt),some (.ref st),some (.ref pp),some (.ref r),some (.ref ql)]) ?_ ?_
 ·walk_at "rd"
 rintro σ H4 ⟨c4,ga4,rfl⟩
 clear hql2 pq2 ob2 gt2 lt hpp3 hys gy ga c3 c2 gz1 na1 c1 lq c12
 have na4:=na.ch c4
 have nb4:=na2.ch c4
 have hq4:=hql.ch c4
 have pq4:=pq.ch c4
 have il:=sh.il
 have ins:=sh.ins
 clear hql pq
 walk_at "rd"
 rename_i H5 c5
 refine ⟨pq4.ch c5,sh.ol,sh.outs,fun H6 c6=>?_⟩
 have c46:=c5.trans c6
 have na6:=na4.ch c46
 have ga6:=ga4.ch c46
 have hq6:=hq4.ch c46
 have pq6:=pq4.ch c46
 have ok:=sh.ok
 have len:=sh.len
 have lt:=sh.lt
 have gts:=sh.gts
 have la:=sh.la
 have n0:=sh.n0
 clear hq4
 walk_at "rd"
 rename_i H7 c7
 exact q _ ((c4.trans c46).trans c7)
end
end

section
def hdw (al:List Gt) (a:Nat):Str:=(al.getD a .inp).wd
theorem zajo {al:List Gt}{a:Nat}{g:Gt} (e:al[a]?=some g):hdw al a=g.wd:=by unfold hdw; rw [List.getD_eq_getElem?_getD,e]; rfl
theorem zaml (g:Gt):decide (V.str g.wd=V.str "zero")=decide (g=.zero):=by
 cases g <;> simp only [Gt.wd] <;> first | rfl | (rw [decide_eq_false (by decide +kernel),decide_eq_false (by intro z; cases z)])
theorem zaol (g:Gt):decide (V.str g.wd=V.str "one")=decide (g=.one):=by
 cases g <;> simp only [Gt.wd] <;> first | rfl | (rw [decide_eq_false (by decide +kernel),decide_eq_false (by intro z; cases z)])
theorem zacs {al:List Gt}{a:Nat} (h:a < al.length):decide (V.str (hdw al a)=V.str "zero")=isZ al a:=by
 have e:=List.getElem?_eq_getElem h
 unfold isZ
 rw [zajo e,zaml,e]
 by_cases z:al[a]=.zero <;> simp [z]
theorem zac5 {al:List Gt}{a:Nat} (h:a < al.length):decide (V.str (hdw al a)=V.str "one")=isO al a:=by
 have e:=List.getElem?_eq_getElem h
 unfold isO
 rw [zajo e,zaol,e]
 by_cases z:al[a]=.one <;> simp [z]
theorem zapo (g:Gt):∃ rs,g.vs=.str g.wd :: rs:=by cases g <;> exact ⟨_,rfl⟩
theorem GA.hd {H:Hp}{gl:Addr}{al:List Gt} (r:GA H gl al) {n:Nat} (h:n < al.length):∃ xs p rs,H gl=some (.lst xs)∧atI xs (n:Int)=some (.ref p)∧H p=some (.tup (.str (hdw al n) :: rs))∧n < xs.length:=by
 have e:=List.getElem?_eq_getElem h
 obtain ⟨xs,p,a,b,c,d⟩:=r.at e
 obtain ⟨rs,er⟩:=zapo al[n]
 rw [er,← zajo e] at c
 exact ⟨xs,p,rs,a,b,c,d⟩
def Val (t:TE) (σ:St) (H:Hp) (b:Bool):Prop:=∀ R:VK,(∀ H',Ch [] H H'→R (.bl b) H')→t σ H R
theorem Val.and {ta tb:TE}{σ:St}{H:Hp}{a b:Bool} (h1:Val ta σ H a) (h2:∀ H1,Ch [] H H1→Val tb σ H1 b):Val (tAndV ta tb) σ H (a && b):=fun R q=>h1 _ fun H1 c=>⟨a,rfl,by
 cases a with
 | true=>rw [if_pos rfl]; exact h2 H1 c R fun H' c'=>q H' (c.trans c')
 | false=>rw [if_neg (by simp)]; exact q H1 c⟩
theorem Val.or {ta tb:TE}{σ:St}{H:Hp}{a b:Bool} (h1:Val ta σ H a) (h2:∀ H1,Ch [] H H1→Val tb σ H1 b):Val (tOrV ta tb) σ H (a || b):=fun R q=>h1 _ fun H1 c=>⟨a,rfl,by
 cases a with
 | true=>rw [if_pos rfl]; exact q H1 c
 | false=>rw [if_neg (by simp)]; exact h2 H1 c R fun H' c'=>q H' (c.trans c')⟩
theorem zab2 {td ty tv:TE}{D:Ends}{σ:St}{H:Hp} (b:Bool) (hv:Val tv σ H b) (h:∀ H',Ch [] H H'→td σ H' fun x H2=>ty σ H2 fun y H3=>∃ a H4,x=.ref a∧DPut H3 a y (.bl b) H4∧D.nx σ H4):sDPut td ty tv D σ H:=hv _ h
theorem Ch.own1 {H H1:Hp}{p:Addr}{o:HO} (c:Ch [] H H1) (hp:H p=none):Ch [] H (upd H1 p o):=fun a u h _=>by rw [zabe (zaa0 h hp)]; exact c a u h (by simp)
theorem zafg {v1:TE}{k1:Str}{g:TG}{D:Ends}{σ:St}{H:Hp} (b1:Bool) (h1:∀ p,H p=none→Val v1 σ (upd H p (.dK [])) b1) (q:∀ p H',H p=none→Ch [] H H'→H' p=some (.dK [(.inr k1,.bl b1)])→g (.ref p) σ H' D.nx):tAsg (tDisp [(tC (.str k1),v1)]) g D σ H:=fun p hp=>h1 p hp _ fun H' c =>
 ⟨c.get zaag (by simp),[(.inr k1,.bl b1)],rfl,by simp,q p _ hp (Ch.own1 ((Ch.new hp _).trans c) hp) zaag⟩
theorem zahi {v1 v2:TE}{k1 k2:Str}{g:TG}{D:Ends}{σ:St}{H:Hp} (b1 b2:Bool) (h1:∀ p,H p=none→Val v1 σ (upd H p (.dK [])) b1) (h2:∀ H1,Ch [] H H1→Val v2 σ H1 b2) (q:∀ p H',H p=none→Ch [] H H'→H' p=some (.dK (putK [(.inr k1,.bl b1)] (.inr k2) (.bl b2)))→g (.ref p) σ H' D.nx) :
  tAsg (tDisp [(tC (.str k1),v1),(tC (.str k2),v2)]) g D σ H:=fun p hp=>h1 p hp _ fun H' c=>h2 H' ((Ch.new hp _).trans c) _ fun H2 c2 =>
 ⟨(c.trans c2).get zaag (by simp),[(.inr k1,.bl b1),(.inr k2,.bl b2)],rfl,by simp,q p _ hp (Ch.own1 (((Ch.new hp _).trans c).trans c2) hp) zaag⟩
theorem zakv {H:Hp}{a:Addr}{kvs:List (Key × V)}{x:Str} (e:H a=some (.dK kvs)):DGet H a (.str x) (valV kvs (.inr x)):=DGet.k (k:=.inr x) e
structure LR (H H':Hp) (wl ra:Addr) (ws:List V) (n:Nat) (r:Str→Option Bool):Prop where
 ch:Ch [] H H'
 fr:H ra=none
 hw:H' wl=some (.lst ws)
 nw:wl≠ra
 ex:∃ kvs,H' ra=some (.dK kvs)∧kvs.length≤n∧∀ y,valV kvs (.inr y)=(r y).map V.bl
theorem LR.put {H H' H2:Hp}{wl ra:Addr}{ws:List V}{n:Nat}{r:Str→Option Bool} (l:LR H H' wl ra ws n r) (c:Ch [] H' H2) (hn:n≤8):∃ kvs,H2 ra=some (.dK kvs)∧kvs.length < sizeLine∧∀ key b,LR H (upd H2 ra (.dK (putK kvs (.inr key) (.bl b)))) wl ra ws (n + 1) (fun y=>if y=key then some b else r y):=by
 obtain ⟨kvs,e,ln,hv⟩:=l.ex
 refine ⟨kvs,c.get e (by simp),by rw [sizeLine_eq]; omega,fun key b=>⟨Ch.own1 (l.ch.trans c) l.fr,l.fr,by rw [zabe l.nw]; exact c.get l.hw (by simp),l.nw,_,zaag,Nat.le_trans (zacj _ _ _) (by omega),fun y=>?_⟩⟩
 rw [zad1]
 by_cases z:y=key
 ·rw [if_pos (by rw [z]),if_pos z]; rfl
 ·rw [if_neg (fun w=>z (Sum.inr.inj w)),if_neg z]; exact hv y
theorem LR.one {H H1 H':Hp}{wl ra:Addr}{ws:List V}{k1:Str}{b1:Bool} (c0:Ch [] H H1) (hw:H1 wl=some (.lst ws)) (fr:H1 ra=none) (c:Ch [] H1 H') (e:H' ra=some (.dK [(.inr k1,.bl b1)])):LR H H' wl ra ws 1 (fun y=>if y=k1 then some b1 else none):=by
 refine ⟨c0.trans c,chFree c0 fr,c.get hw (by simp),zaa0 hw fr,_,e,by simp,fun y=>?_⟩
 have:=zad1 ([]:List (Key × V)) (.inr k1) (.inr y) (.bl b1)
 rw [show ([(.inr k1,.bl b1)]:List (Key × V))=putK [] (.inr k1) (.bl b1) from rfl,this]
 by_cases z:y=k1
 ·rw [if_pos (by rw [z]),if_pos z]; rfl
 ·rw [if_neg (fun w=>z (Sum.inr.inj w)),if_neg z]; rfl
theorem LR.two {H H1 H':Hp}{wl ra:Addr}{ws:List V}{k1 k2:Str}{b1 b2:Bool} (c0:Ch [] H H1) (hw:H1 wl=some (.lst ws)) (fr:H1 ra=none) (c:Ch [] H1 H') (e:H' ra=some (.dK (putK [(.inr k1,.bl b1)] (.inr k2) (.bl b2)))):LR H H' wl ra ws 2 (fun y=>if y=k2 then some b2 else if y=k1 then some b1 else none):=by
 refine ⟨c0.trans c,chFree c0 fr,c.get hw (by simp),zaa0 hw fr,_,e,zacj _ _ _,fun y=>?_⟩
 rw [show ([(.inr k1,.bl b1)]:List (Key × V))=putK [] (.inr k1) (.bl b1) from rfl,zad1,zad1]
 by_cases z:y=k2
 ·rw [if_pos (by rw [z]),if_pos z]; rfl
 rw [if_neg (fun w=>z (Sum.inr.inj w)),if_neg z]
 by_cases z:y=k1
 ·rw [if_pos (by rw [z]),if_pos z]; rfl
 ·rw [if_neg (fun w=>z (Sum.inr.inj w)),if_neg z]; rfl
theorem LR.ret {H H':Hp}{wl ra:Addr}{ws:List V}{n:Nat}{r:Str→Option Bool}{why:Str}{σ:St}{Q:VK} (l:LR H H' wl ra ws n r) (h4:σ[4]?=some (some (.str why))) (h7:σ[7]?=some (some (.ref ra))) (q:Q (.bl ((r why).getD false)) H'):tAndV (tDIn (tVar 4) (tVar 7)) (tDGet (tVar 7) (tVar 4)) σ H' Q:=by
 obtain ⟨kvs,e,_,hv⟩:=l.ex
 have hw:=hv why
 have dg:=zakv (x:=why) e
 refine ⟨_,h4,_,h7,ra,_,rfl,dg,_,rfl,?_⟩
 rw [hw]
 cases hr:r why with
 | none=>rw [hr] at q; exact q
 | some b =>
  rw [hr] at q hw
  rw [hw] at dg
  rw [show (Option.map V.bl (some b)).isSome=true from rfl,if_pos rfl]
  exact ⟨_,h7,_,h4,ra,_,rfl,dg,q⟩
theorem sca1 (a:Str):ScaL [V.str a]:=⟨fun z hz=>by simp at hz; rw [hz]; exact .inr ⟨_,rfl⟩⟩
theorem sca2 (a b:Str):ScaL [V.str a,V.str b]:=⟨fun z hz=>by simp at hz; rcases hz with rfl | rfl <;> exact .inr ⟨_,rfl⟩⟩
theorem dec1 (a b:V):decide ([a]=[b])=decide (a=b):=by simp
theorem dec2 (a b c d:V):decide ([a,b]=[c,d])=(decide (a=c) && decide (b=d)):=by
 by_cases h:a=c <;> by_cases h':b=d <;> simp [h,h']
theorem ifs3 {α:Type}{w a b c:Str}{A B C D:α} (h1:a≠b) (h2:a≠c) (h3:b≠c):(if w=c then C else if w=b then B else if w=a then A else D)=if w=a then A else if w=b then B else if w=c then C else D:=by
 by_cases e1:w=a
 ·subst e1; simp [h1,h2]
 by_cases e2:w=b
 ·subst e2; simp [e1,h3]
 ·simp [e1,e2]
theorem ifs4 {α:Type}{w a b c d:Str}{A B C D E:α} (nd:[a,b,c,d].Nodup):(if w=d then D else if w=c then C else if w=b then B else if w=a then A else E)=if w=a then A else if w=b then B else if w=c then C else if w=d then D else E:=by
 simp only [List.nodup_cons,List.mem_cons,List.not_mem_nil,or_false,not_or,List.nodup_nil,and_true,not_false_eq_true] at nd
 obtain ⟨⟨h1,h2,h3⟩,⟨h4,h5⟩,h6⟩:=nd
 by_cases e1:w=a
 ·subst e1; simp [h1,h2,h3]
 by_cases e2:w=b
 ·subst e2; simp [e1,h4,h5]
 by_cases e3:w=c
 ·subst e3; simp [e1,e2,h6]
 ·simp [e1,e2,e3]
theorem ifs6 {α:Type}{w a b c d e f:Str}{A B C D E F F' G:α} (nd:[a,b,c,d,e,f].Nodup):(if w=f then F else if w=f then F' else if w=e then E else if w=d then D else if w=c then C else if w=b then B else if w=a then A else G) =
  if w=a then A else if w=b then B else if w=c then C else if w=d then D else if w=e then E else if w=f then F else G:=by
 simp only [List.nodup_cons,List.mem_cons,List.not_mem_nil,or_false,not_or,List.nodup_nil,and_true,not_false_eq_true] at nd
 obtain ⟨⟨a1,a2,a3,a4,a5⟩,⟨b1,b2,b3,b4⟩,⟨c1,c2,c3⟩,⟨d1,d2⟩,e1⟩:=nd
 by_cases z1:w=a
 ·subst z1; simp [a1,a2,a3,a4,a5]
 by_cases z2:w=b
 ·subst z2; simp [z1,b1,b2,b3,b4]
 by_cases z3:w=c
 ·subst z3; simp [z1,z2,c1,c2,c3]
 by_cases z4:w=d
 ·subst z4; simp [z1,z2,z3,d1,d2]
 by_cases z5:w=e
 ·subst z5; simp [z1,z2,z3,z4,e1]
 by_cases z6:w=f
 ·rw [if_pos z6,if_neg z1,if_neg z2,if_neg z3,if_neg z4,if_neg z5,if_pos z6]
 ·simp [z1,z2,z3,z4,z5,z6]
theorem zakw (a b:Nat):decide (a=b)=decide (b=a):=by
 by_cases h:a=b
 ·subst h; rfl
 ·rw [decide_eq_false h,decide_eq_false (fun z=>h z.symm)]
theorem inV2 (s a b:Str):inV (V.str s) [V.str a,V.str b]=(decide (V.str a=V.str s) || decide (V.str b=V.str s)):=by
 unfold inV
 simp only [List.any_cons,List.any_nil,Bool.or_false]
 simp only [eqV]
 congr 1 <;> (rw [zai7]; simp)
theorem zajp {al:List Gt}{it:Nat}{why:Str}{g:Gt} (w0:¬ why = "same") (h2:g.two=true):phB al (fun a=>a) it why g=if why = "turned" then decide (al[it]?=some (g.trn fun a=>a)) else ruB al (fun a=>a) it why g:=by
 by_cases e:why = "turned"
 ·subst e; rw [zafd h2,if_pos rfl]
 ·rw [if_neg e,zabv (by cases g <;> first | rfl | (cases h2)) w0 (fun z=>e z.1)]
theorem Val.cast {t:TE}{σ:St}{H:Hp}{a b:Bool} (e:a=b) (h:Val t σ H a):Val t σ H b:=e ▸ h
theorem LR.go {H H' H2:Hp}{wl ra:Addr}{ws:List V}{n:Nat}{r:Str→Option Bool} (l:LR H H' wl ra ws n r) (c:Ch [] H' H2):LR H H2 wl ra ws n r :=
 ⟨l.ch.trans c,l.fr,c.get l.hw (by simp),l.nw,let ⟨kvs,e,h⟩:=l.ex; ⟨kvs,c.get e (by simp),h⟩⟩
theorem ifm {c:Prop} [Decidable c] {A:Bool}{D:Option Bool}:(if c then some A else D).getD false=if c then A else D.getD false:=by split <;> rfl
theorem zaom (g:Gt):g.ren (fun a=>a)=g:=by cases g <;> rfl
local macro_rules | `(tactic| walk_at "user")=>`(tactic| first
 | (apply GA.ch; (focus with_reducible assumption); (focus walk_at "ch"))
 | exact sca1 _
 | exact sca2 _ _
 | (apply dputS; (focus walk_at "get"); (focus with_reducible assumption))
 | exact Gt.vs_sca _)
local macro_rules | `(tactic| walk_at "val")=>`(tactic| (intro R hR; walk_at "rd"; first
 | (exact hR _ (by walk_at "ch"))
 | (rw [zads]; exact hR _ (by walk_at "ch"))
 | (rw [zads,zakw]; exact hR _ (by walk_at "ch"))
 | (rw [zacs]; (focus (exact hR _ (by walk_at "ch"))); (focus assumption))
 | (rw [zac5]; (focus (exact hR _ (by walk_at "ch"))); (focus assumption))
 | (rw [dec1,zacs]; (focus (exact hR _ (by walk_at "ch"))); (focus assumption))
 | (rw [dec1,zac5]; (focus (exact hR _ (by walk_at "ch"))); (focus assumption))
 | (rw [dec2,zac5,zacs]; (focus (exact hR _ (by walk_at "ch"))); (focus assumption); (focus assumption))
 | (rw [dec2,zacs,zac5]; (focus (exact hR _ (by walk_at "ch"))); (focus assumption); (focus assumption))
 | skip))
section
variable {P:Program}{w:World}{K:PySem.W.Frag}{mg:Str→Option Value}{base:Heap}{f:Addr}{fd:FuncData}{k:Nat}
theorem zacg:Nd "_law_nots" := by decide +kernel
theorem av33:AF (defScope (top 33)) ["_law_gates", "_law_one_here", "_law_other"]:=⟨by decide +kernel⟩
theorem zajq:FnScope ["_law_gates", "_law_one_here", "_law_other"] ["_law_gates", "_law_one_here", "_law_other"] (defScope (top 33)):=⟨rfl,rfl,rfl,by decide +kernel,rfl,by decide +kernel,by decide +kernel⟩
theorem zamm (F:Fun K "_law_nots" "_law_nots" (top 33) f fd):FnOk P w K mg base CX0 (k + 1) f fd ["_law_gates", "_law_one_here", "_law_other"] spOpG:=by
 have nd:=zajq.nd
 refine F.ok zajq (fun vs H Q E h=>by obtain ⟨gl,al,a,b,rfl,_⟩:=h; rfl) (fun cdv A outer s0 H vs Q E hr h=>?_)
 obtain ⟨gl,al,a,b,rfl,r,ha,hb,q⟩:=h
 refine ⟨_,(Pr.h (zaaj (zaam (zacu (zaan (zacq hr.units) (zaar zaal (qv av33 0 rfl) (qv av33 1 rfl) (fun _ _=>rfl)) (zaaw (zaaa zaaf (zaaa (qv av33 2 rfl) zaac zaad) zaab)) (nomark _)) (zaav (zaan (zacq hr.units) (zaar zaal (qv av33 0 rfl) (qv av33 2 rfl) (fun _ _=>rfl)) (zaaw (zaaa zaaf (zaaa (qv av33 1 rfl) zaac zaad) zaab)) (nomark _))))))),?_⟩
 (try dsimp only [cxOf])
 obtain ⟨g,eg⟩:∃ g,al[a]?=some g:=⟨_,List.getElem?_eq_getElem ha⟩
 obtain ⟨xs,p,hg,at1,hp,lx⟩:=r.at eg
 obtain ⟨g2,eg2⟩:∃ g2,al[b]?=some g2:=⟨_,List.getElem?_eq_getElem hb⟩
 obtain ⟨xs2,p2,hg2,at2,hp2,lx2⟩:=r.at eg2
 rw [hg] at hg2
 cases hg2
 have sc:=Gt.vs_sca g
 have sc1:=Gt.vs_sca g2
 have sc2:=Gt.vs_sca (.not b)
 have sc3:=Gt.vs_sca (.not a)
 have q:∀ H',Ch [] H H'→Q (.bl (decide (al[a]?=some (.not b)) || decide (al[b]?=some (.not a)))) H':=q
 rw [zabd eg,zabd eg2] at q
 cases e1:decide (g.vs=(Gt.not b).vs) with
 | true =>
  have e2:decide (g.vs=[V.str "not",V.int b])=true:=e1
  rw [e1,Bool.true_or] at q
  walk_at "rd"
  rename_i T hT
  rw [e2]
  exact q _ (Ch.new hT _)
 | false =>
  have e2:decide (g.vs=[V.str "not",V.int b])=false:=e1
  rw [e1,Bool.false_or] at q
  walk_at "rd"
  rename_i T hT
  rw [e2]
  refine iteF ?_
  walk_at "rd"
  rename_i T2 hT2
  exact q _ ((Ch.new hT _).trans (Ch.new hT2 _))
theorem av34:AF (defScope (top 34)) ["_law_gates", "_law_word", "_law_some_here", "_law_number_here", "_law_why", "_law_words", "_law_own", "_law_rows", "_law_x", "_law_y", "_law_z", "_law_weak", "_law_strong"]:=⟨by decide +kernel⟩
theorem gl34:AG (defScope (top 34)) ["tuple", "_law_nots"]:=⟨by decide +kernel⟩
def zag0:Scope:={ kind:=PySem.ScopeKind.function,names:=[ (PySem.Str.ofString ".0",PySem.NameKind.local),(PySem.Str.ofString "_law_one_here",PySem.NameKind.local),(PySem.Str.ofString "_law_gates",PySem.NameKind.free)],isGenerator:=false,isCoroutine:=false,more:=[]:PySem.Scope }
theorem zajr:CompOk zag0 (defScope (top 34)) (["_law_one_here"]:List Str) (["_law_gates", "_law_word", "_law_some_here", "_law_number_here", "_law_why", "_law_words", "_law_own", "_law_rows", "_law_x", "_law_y", "_law_z", "_law_weak", "_law_strong"]:List Str) [0] (["_law_one_here", "_law_gates"]:List Str):=compOk rfl (by decide +kernel) (by decide +kernel) (by decide +kernel) (by decide +kernel) rfl (by decide +kernel)
theorem zajs:AK (relab zag0 (defScope (top 34))) ["_law_one_here"]:=⟨by decide +kernel⟩
theorem zajt:AV (relab zag0 (defScope (top 34))) ["_law_one_here", "_law_gates"]:=⟨by decide +kernel⟩
def spRule:Sp:=fun vs H Q _=>∃ (gl sl:Addr) (al:List Gt) (g:Gt) (it:Nat) (why:Str),vs=[.ref gl,.str g.wd,.ref sl,.int (it:Int),.str why]∧GA H gl al∧H sl=some (.lst (g.feeds.map nV))∧g.src=false∧it < al.length∧(∀ a∈g.feeds,a < al.length)∧∀ H',Ch [] H H'→Q (.bl (phB al (fun a=>a) it why g)) H'
theorem scRule:FnScope ["_law_gates", "_law_word", "_law_some_here", "_law_number_here", "_law_why", "_law_words", "_law_own", "_law_rows", "_law_x", "_law_y", "_law_z", "_law_weak", "_law_strong"] ["_law_gates", "_law_word", "_law_some_here", "_law_number_here", "_law_why"] (defScope (top 34)):=⟨rfl,rfl,rfl,by decide +kernel,rfl,by decide +kernel,by decide +kernel⟩
theorem zamn (F:Fun K "_law_rule" "_law_rule" (top 34) f fd) (D_law_nots:DefOk P w K mg base CX0 k "_law_nots" ["_law_gates", "_law_one_here", "_law_other"] spOpG) (z_tuple:mg "tuple" = none):FnOk P w K mg base CX0 (k + 1) f fd ["_law_gates", "_law_word", "_law_some_here", "_law_number_here", "_law_why"] spRule:=by
 have nd:=scRule.nd
 refine F.ok scRule (fun vs H Q E h=>by obtain ⟨gl,sl,al,g,it,why,rfl,_⟩:=h; rfl) (fun cdv A outer s0 H vs Q E hr h=>?_)
 obtain ⟨gl,sl,al,g,it,why,rfl,r,hsl,sr,li,lf,q⟩:=h
 have hu:=zanv hr
 refine ⟨_,(Pr.h (zaah (zaa1 (zaak zaa3 (qv av34 4 rfl) zaaf (nomark _)) (zaaj (zaam (zaan (zacq hr.units) (zaar zaal (qv av34 0 rfl) (qv av34 3 rfl) (fun _ _=>rfl)) (zabh zabf (gl34.g 0 rfl) z_tuple zabz (zaaa (zaaq zac1 (zaa2 (zaaa (qv av34 1 rfl) zaac zaad)) (qv av34 2 rfl)) zaac zaa9) zab0 zab1) (nomark _)))) zaao) (zaah (zae8 (i:=5) nd rfl (av34.l 5 rfl) rfl zajr (zadi (qv av34 2 rfl)) (fun _ _ _ _ _=>(zaa6 (i:=0) zajr.nd rfl (Or.inl (zajs.k 0 rfl)) (Or.inr (zajs.k 0 rfl)))) (fun _ _ _ _ _=>zac8) (fun _ _ _ _ _=>(zaar (zahd K rfl) (zaar (zai5 K rfl) (qw zajt 1 rfl) (qw zajt 0 rfl) (fun _ _=>rfl)) zaae (fun _ _=>rfl))) rfl) (zaat (zaap (i:=6) nd rfl (av34.l 6 rfl) (zaar zabx (zaar zaal (qv av34 0 rfl) (qv av34 3 rfl) (fun _ _=>rfl)) zaae (fun _ _=>rfl))) (zaah (zaa1 (zaak zaa3 (qv av34 1 rfl) zaaf (nomark _)) (zaat (zaap (i:=7) nd rfl (av34.l 7 rfl) (zad8 (zaca zaaf (zaan (zacq hr.units) (zaar zaal (qv av34 0 rfl) (zaar zaal (qv av34 2 rfl) zaae (fun _ _=>rfl)) (fun _ _=>rfl)) (zaaw (zaaa zaaf (zaaa (qv av34 3 rfl) zaac zaad) zaab)) (nomark _)) (zaca zaaf (zaay (zaan (zahg hr.units) (qv av34 5 rfl) (zaa2 (zaaa zaaf zaac zaab)) (nomark _)) (zaav (zaan zaa3 (qv av34 6 rfl) zaaf (nomark _)))) zad7)) rfl rfl (by intro z; cases z) (by decide))) (zaat (zaby hu (qv av34 7 rfl) zaaf (zaay (zaan (zahg hr.units) (qv av34 5 rfl) (zaa2 (zaaa zaaf zaac zaab)) (nomark _)) (zaav (zaan zaa3 (qv av34 6 rfl) zaaf (nomark _)))) rfl) (zaaj (zaam (zaay (zafa hu (qv av34 4 rfl) (qv av34 7 rfl)) (zaav (zac4 hu (qv av34 7 rfl) (qv av34 4 rfl) (fun _ _=>rfl)))))))) zaao) (zaah (zaa1 (zaak zaa3 (qv av34 1 rfl) zaaf (nomark _)) (zaah (zadd (qv av34 2 rfl) (zaja rfl (zabb (zaa6 (i:=8) nd rfl (av34.l 8 rfl)) (zabb (zaa6 (i:=9) nd rfl (av34.l 9 rfl)) (zabb (zaa6 (i:=10) nd rfl (av34.l 10 rfl)) zace))))) (zaat (zaap (i:=7) nd rfl (av34.l 7 rfl) (zad8 (zaca zaaf (zaay (zaan zaa3 (qv av34 3 rfl) (qv av34 9 rfl) (nomark _)) (zaav (zacu (zaan zaa3 (zaar zaal (qv av34 5 rfl) zaae (fun _ _=>rfl)) zaaf (nomark _)) (zaav (zaan zaa3 (qv av34 9 rfl) (qv av34 10 rfl) (nomark _)))))) (zaca zaaf (zaay (zaan zaa3 (qv av34 3 rfl) (qv av34 10 rfl) (nomark _)) (zaav (zaan zaa3 (zaar zaal (qv av34 5 rfl) zaae (fun _ _=>rfl)) zaaf (nomark _)))) zad7)) rfl rfl (by intro z; cases z) (by decide))) (zaat (zaby hu (qv av34 7 rfl) zaaf (zaay (zaan zaa3 (qv av34 3 rfl) (qv av34 8 rfl) (nomark _)) (zaav (zaan (zahg hr.units) (zadh zail (qv av34 5 rfl) (zad4 zaae) zad3) (zaa2 (zaaa zaaf (zaaa zaaf zaac zaab) zaab)) (nomark _)))) rfl) (zaat (zaby hu (qv av34 7 rfl) zaaf (zaay (zaan (zahg hr.units) (zadh zail (qv av34 5 rfl) (zad4 zaae) zad3) (zaa2 (zaaa zaaf (zaaa zaaf zaac zaab) zaab)) (nomark _)) (zaav (zaai D_law_nots hr (gl34.g 1 rfl) pass0 (zaaa (qv av34 0 rfl) (zaaa (qv av34 3 rfl) (zaaa (qv av34 8 rfl) zaac zaad) zaad) zaad) zacg))) rfl) (zaaj (zaam (zaay (zafa hu (qv av34 4 rfl) (qv av34 7 rfl)) (zaav (zac4 hu (qv av34 7 rfl) (qv av34 4 rfl) (fun _ _=>rfl)))))))))) zaao) (zaah (zaa1 (zaak zadt (qv av34 1 rfl) (zaa2 (zaaa zaaf (zaaa zaaf (zaaa zaaf zaac zaab) zaab) zaab)) rfl) (zaaj (zaam zabw)) zaao) (zaah (zadd (qv av34 2 rfl) (zaja rfl (zabb (zaa6 (i:=8) nd rfl (av34.l 8 rfl)) (zabb (zaa6 (i:=9) nd rfl (av34.l 9 rfl)) zace)))) (zaat (zaap (i:=7) nd rfl (av34.l 7 rfl) (zad8 (zaca zaaf (zaan (zacq hr.units) (zaar zaal (qv av34 0 rfl) (qv av34 3 rfl) (fun _ _=>rfl)) (zaaw (zaaa (qv av34 1 rfl) (zaaa (qv av34 9 rfl) (zaaa (qv av34 8 rfl) zaac zaad) zaad) zaad)) (nomark _)) zad7) rfl rfl (by intro z; cases z) (by decide))) (zaah (zaa1 (zaak zaa3 (qv av34 1 rfl) zaaf (nomark _)) (zaat (zaby hu (qv av34 7 rfl) zaaf (zaay (zaan zaa3 (qv av34 3 rfl) (qv av34 8 rfl) (nomark _)) (zaav (zaan zaa3 (zaar zaal (qv av34 5 rfl) zaae (fun _ _=>rfl)) zaaf (nomark _)))) rfl) (zaat (zaby hu (qv av34 7 rfl) zaaf (zaay (zaan zaa3 (qv av34 3 rfl) (qv av34 9 rfl) (nomark _)) (zaav (zaan zaa3 (zaar zaal (qv av34 5 rfl) zaae (fun _ _=>rfl)) zaaf (nomark _)))) rfl) (zaat (zaby hu (qv av34 7 rfl) zaaf (zaay (zaan zaa3 (qv av34 6 rfl) zaaf (nomark _)) (zaav (zaan zaa3 (qv av34 8 rfl) (qv av34 9 rfl) (nomark _)))) rfl) (zaat (zaby hu (qv av34 7 rfl) zaaf (zaay (zaan zaa3 (qv av34 6 rfl) zaaf (nomark _)) (zaav (zaai D_law_nots hr (gl34.g 1 rfl) pass0 (zaaa (qv av34 0 rfl) (zaaa (qv av34 8 rfl) (zaaa (qv av34 9 rfl) zaac zaad) zaad) zaad) zacg))) rfl) (zaat (zaby hu (qv av34 7 rfl) zaaf (zaay (zaan zaa3 (zaar zaal (qv av34 5 rfl) zaae (fun _ _=>rfl)) zaaf (nomark _)) (zaav (zaai D_law_nots hr (gl34.g 1 rfl) pass0 (zaaa (qv av34 0 rfl) (zaaa (qv av34 3 rfl) (zaaa (qv av34 8 rfl) zaac zaad) zaad) zaad) zacg))) rfl) (zaat (zaby hu (qv av34 7 rfl) zaaf (zacu (zac4 hu (qv av34 7 rfl) zaaf (fun _ _=>rfl)) (zaav (zaay (zaan zaa3 (zaar zaal (qv av34 5 rfl) zaae (fun _ _=>rfl)) zaaf (nomark _)) (zaav (zaai D_law_nots hr (gl34.g 1 rfl) pass0 (zaaa (qv av34 0 rfl) (zaaa (qv av34 3 rfl) (zaaa (qv av34 9 rfl) zaac zaad) zaad) zaad) zacg))))) rfl) (zaaj (zaam (zaay (zafa hu (qv av34 4 rfl) (qv av34 7 rfl)) (zaav (zac4 hu (qv av34 7 rfl) (qv av34 4 rfl) (fun _ _=>rfl)))))))))))) zaao) (zaah (zadd (zaaw (zaaa zaaf (zaaa zaaf zaac zaab) zaab)) (zadp rfl (zabb (zaa6 (i:=11) nd rfl (av34.l 11 rfl)) (zabb (zaa6 (i:=12) nd rfl (av34.l 12 rfl)) zace)))) (zaat (zaa1 (zaak zaa3 (qv av34 1 rfl) zaaf (nomark _)) (zaaj (zadd (zaaw (zaaa zaaf (zaaa zaaf zaac zaab) zaab)) (zadp rfl (zabb (zaa6 (i:=11) nd rfl (av34.l 11 rfl)) (zabb (zaa6 (i:=12) nd rfl (av34.l 12 rfl)) zace))))) zaao) (zaat (zaby hu (qv av34 7 rfl) zaaf (zaay (zaan zaa3 (qv av34 3 rfl) (qv av34 8 rfl) (nomark _)) (zaav (zacu (zaan zaa3 (zaar zaal (qv av34 5 rfl) zaae (fun _ _=>rfl)) (qv av34 11 rfl) (nomark _)) (zaav (zaan zaa3 (qv av34 8 rfl) (qv av34 9 rfl) (nomark _)))))) rfl) (zaat (zaby hu (qv av34 7 rfl) zaaf (zaay (zaan zaa3 (qv av34 3 rfl) (qv av34 9 rfl) (nomark _)) (zaav (zaan zaa3 (zaar zaal (qv av34 5 rfl) zaae (fun _ _=>rfl)) (qv av34 11 rfl) (nomark _)))) rfl) (zaat (zaby hu (qv av34 7 rfl) (qv av34 12 rfl) (zaay (zaan zaa3 (qv av34 6 rfl) (qv av34 12 rfl) (nomark _)) (zaav (zacu (zaan zafr (qv av34 12 rfl) (qv av34 5 rfl) rfl) (zaav (zaai D_law_nots hr (gl34.g 1 rfl) pass0 (zaaa (qv av34 0 rfl) (zaaa (qv av34 8 rfl) (zaaa (qv av34 9 rfl) zaac zaad) zaad) zaad) zacg))))) rfl) (zaaj (zaam (zaay (zafa hu (qv av34 4 rfl) (qv av34 7 rfl)) (zaav (zac4 hu (qv av34 7 rfl) (qv av34 4 rfl) (fun _ _=>rfl))))))))))))))))))))),?_⟩
 (try dsimp only [cxOf])
 obtain ⟨t,et⟩:∃ t,al[it]?=some t:=⟨_,List.getElem?_eq_getElem li⟩
 obtain ⟨xs,pt,hg,at1,hpt,lx⟩:=r.at et
 have sct:=Gt.vs_sca t
 walk_at "rd"
 refine ite2 (fun ez=>?_) (fun ez=>?_)
 ·have hw:=zabi ez
  subst hw
  rw [zacc (by cases g <;> first | rfl | (cases sr)),zabd et,zaom] at q
  have sc2:=Gt.vs_sca g
  have evs:[V.str g.wd]++g.feeds.map nV=g.vs:=by cases g <;> first | rfl | (cases sr)
  walk_at "rd"
  rename_i e1 h1
  rw [evs]
  refine ⟨by rw [sizeLine_eq]; have:=zab5 g; simp; omega,?_⟩
  walk_at "rd"
  rename_i e2 h2 e3 h3
  exact q _ (((Ch.new h1 _).trans (Ch.new h2 _)).trans (Ch.new h3 _))
 have w0:=zaa8 ez
 clear ez
 walk_at "rd"
 refine zadj (g.feeds.map nV) (fun j ys σ H'=>H'=H∧ys=(g.feeds.take j).map (fun a=>V.str (hdw al a))∧∃ u,σ=[u,some (.ref gl)]) (by rw [sizeLine_eq,List.length_map]; have:=zab5 g; omega) ⟨rfl,rfl,_,rfl⟩ ?_ ?_ ?_
 ·rintro j ys σ H' hj ⟨rfl,rfl,_⟩
  refine ⟨by simp [List.length_take]; omega,SqL.of hsl⟩
 ·rintro j ys σ H' x hx ⟨rfl,rfl,u,rfl⟩
  rw [List.getElem?_map] at hx
  obtain ⟨a,ea,rfl⟩:=Option.map_eq_some_iff.mp hx
  obtain ⟨xs2,p2,rs2,hg2,at2,hp2,lx2⟩:=r.hd (lf a (List.mem_of_getElem? ea))
  unfold nV
  walk_at "rd"
  refine ⟨?_,_,rfl⟩
  rw [List.take_add_one,ea]
  simp
 rintro ys σ H' ⟨rfl,rfl,_⟩
 rw [List.length_map,List.take_length]
 intro wl hwl
 obtain ⟨ws,ews⟩:∃ ws,g.feeds.map (fun a=>V.str (hdw al a))=ws:=⟨_,rfl⟩
 rw [ews]
 have cW:=Ch.new (W:=[]) hwl (.lst ws)
 have hw1:upd H' wl (.lst ws) wl=some (.lst ws):=zaag
 obtain ⟨H1,eH1⟩:∃ H1,H1=upd H' wl (.lst ws):=⟨_,rfl⟩
 rw [← eH1] at cW hw1 ⊢
 have r1:=r.ch cW
 have hsl1:=cW.get hsl (by simp)
 clear eH1 hg at1 hpt lx sct et
 refine zaa5 (fun σ H2=>H2=H1∧σ=[some (.ref gl),some (.str g.wd),some (.ref sl),some (.int (it:Int)),some (.str why),some (.ref wl),some (.str (hdw al it)),none,none,none,none,none,none]) ?_ ?_
 ·obtain ⟨xs2,p2,rs2,hg2,at2,hp2,lx2⟩:=r1.hd li
  walk_at "rd"
 rintro σ H2 ⟨rfl,rfl⟩
 cases g with
 | inp=>cases sr
 | keep f a=>cases sr
 | zero =>
  rw [zabv rfl w0 (fun z=>by cases z.2)] at q
  walk_at "rd"
  rename_i p1 h1
  exact q _ (cW.trans (Ch.new h1 _))
 | one =>
  rw [zabv rfl w0 (fun z=>by cases z.2)] at q
  walk_at "rd"
  rename_i p1 h1
  exact q _ (cW.trans (Ch.new h1 _))
 | not x =>
  have lx:x < al.length:=lf x (by simp [Gt.feeds])
  have hsl1:H2 sl=some (.lst [.int (x:Int)]):=hsl1
  have hw1:H2 wl=some (.lst [V.str (hdw al x)]):=by rw [hw1,← ews]; rfl
  clear ews
  rw [zabv rfl w0 (fun z=>by cases z.2)] at q
  walk_at "rd"
  refine iteD rfl ?_
  refine zaa5 (fun σ H'=>∃ ra,σ=[some (.ref gl),some (.str "not"),some (.ref sl),some (.int (it:Int)),some (.str why),some (.ref wl),some (.str (hdw al it)),some (.ref ra),none,none,none,none,none]∧LR H2 H' wl ra [V.str (hdw al x)] 2 (fun y=>if y = "one" then some (isZ al x && isO al it) else if y = "inner" then some (decide (al[x]?=some (.not it))) else none)) ?_ ?_
  ·refine zahi (decide (al[x]?=some (.not it))) (isZ al x && isO al it) (fun p hp=>?_) (fun H3 c3=>Val.and ?_ (fun H4 c4=>?_)) (fun p H3 fp c3 e3=>⟨p,rfl,LR.two (Ch.refl _ _) hw1 fp c3 e3⟩)
   ·have r2:=r1.ch (Ch.new hp (.dK []))
    obtain ⟨t,et⟩:∃ t,al[x]?=some t:=⟨_,List.getElem?_eq_getElem lx⟩
    obtain ⟨xs,pt,hg,at1,hpt,lx⟩:=r2.at et
    have sct:=Gt.vs_sca t
    have sc2:=Gt.vs_sca (.not it)
    have hs2:=(Ch.new (W:=[]) hp (.dK [])).get hsl1 (by simp)
    rw [zabd et]
    walk_at "val"
   ·have hw3:=c3.get hw1 (by simp)
    walk_at "val"
   ·walk_at "val"
  rintro σ H3 ⟨ra,rfl,l⟩
  have c3:=l.ch
  have hw3:=l.hw
  have r3:=r1.ch c3
  refine zaa5 (fun σ H'=>σ=[some (.ref gl),some (.str "not"),some (.ref sl),some (.int (it:Int)),some (.str why),some (.ref wl),some (.str (hdw al it)),some (.ref ra),none,none,none,none,none]∧LR H2 H' wl ra [V.str (hdw al x)] 3 (fun y'=>if y' = "zero" then some (isO al x && isZ al it) else if y' = "one" then some (isZ al x && isO al it) else if y' = "inner" then some (decide (al[x]?=some (.not it))) else none)) ?_ ?_
  ·refine zab2 (isO al x && isZ al it) (Val.and ?_ (fun H5 c5=>?_)) (fun H4 c4=>?_)
   ·walk_at "val"
   ·walk_at "val"
   ·obtain ⟨kvs,hk,lk,lp⟩:=l.put c4 (by decide)
    exact ⟨_,rfl,_,_,rfl,dputS hk lk,rfl,lp _ _⟩
  rintro σ H3 ⟨rfl,l⟩
  have c3:=l.ch
  have hw3:=l.hw
  have r3:=r1.ch c3
  refine LR.ret l rfl rfl ?_
  dsimp only
  rw [ifm,ifm,ifm,ifs3 (by decide +kernel) (by decide +kernel) (by decide +kernel)]
  exact q _ (cW.trans c3)
 | and x y =>
  have lx:x < al.length:=lf x (by simp [Gt.feeds])
  have ly:y < al.length:=lf y (by simp [Gt.feeds])
  have hsl1:H2 sl=some (.lst [.int (x:Int),.int (y:Int)]):=hsl1
  have hw1:H2 wl=some (.lst [V.str (hdw al x),V.str (hdw al y)]):=by rw [hw1,← ews]; rfl
  clear ews
  rw [zajp w0 rfl] at q
  walk_at "rd"
  rename_i p1 h1
  have cP:=Ch.new (W:=[]) h1 (.lst [.str "and",.str "or",.str "xor"])
  have r2:=r1.ch cP
  have hw2:=cP.get hw1 (by simp)
  obtain ⟨H3,eH3⟩:∃ H3,H3=upd H2 p1 (.lst [.str "and",.str "or",.str "xor"]):=⟨_,rfl⟩
  rw [← eH3] at cP r2 hw2 ⊢
  refine zaa5 (fun σ H'=>∃ ra,σ=[some (.ref gl),some (.str "and"),some (.ref sl),some (.int (it:Int)),some (.str why),some (.ref wl),some (.str (hdw al it)),some (.ref ra),some (.int (x:Int)),some (.int (y:Int)),none,none,none]∧LR H2 H' wl ra [V.str (hdw al x),V.str (hdw al y)] 1 (fun y'=>if y' = "turned" then some (decide (al[it]?=some (.and y x))) else none)) ?_ ?_
  ·refine zafg (decide (al[it]?=some (.and y x))) (fun p hp=>?_) (fun p H4 fp c4 e4=>⟨p,rfl,LR.one cP hw2 fp c4 e4⟩)
   have r4:=r2.ch (Ch.new hp (.dK []))
   obtain ⟨t,et⟩:∃ t,al[it]?=some t:=⟨_,List.getElem?_eq_getElem li⟩
   obtain ⟨xs,pt,hg,at1,hpt,lx⟩:=r4.at et
   have sct:=Gt.vs_sca t
   have sc2:=Gt.vs_sca (.and y x)
   rw [zabd et]
   walk_at "val"
  clear eH3 cP r2 hw2 H3
  rintro σ H3 ⟨ra,rfl,l⟩
  have c3:=l.ch
  have hw3:=l.hw
  have r3:=r1.ch c3
  walk_at "rd"
  refine zaa5 (fun σ H'=>σ=[some (.ref gl),some (.str "and"),some (.ref sl),some (.int (it:Int)),some (.str why),some (.ref wl),some (.str (hdw al it)),some (.ref ra),some (.int (x:Int)),some (.int (y:Int)),none,some (.str "one"),some (.str "zero")]∧LR H2 H' wl ra [V.str (hdw al x),V.str (hdw al y)] 1 (fun y'=>if y' = "turned" then some (decide (al[it]?=some (.and y x))) else none)) ?_ ?_
  ·walk_at "rd"
   first
   | (rename_i p1 h1 p2 h2; exact l.go ((Ch.new h1 _).trans (Ch.new h2 _)))
   | (rename_i p1 h1; exact l.go (Ch.new h1 _))
  rintro σ H3 ⟨rfl,l⟩
  have c3:=l.ch
  have hw3:=l.hw
  have r3:=r1.ch c3
  refine zaa5 (fun σ H'=>σ=[some (.ref gl),some (.str "and"),some (.ref sl),some (.int (it:Int)),some (.str why),some (.ref wl),some (.str (hdw al it)),some (.ref ra),some (.int (x:Int)),some (.int (y:Int)),none,some (.str "one"),some (.str "zero")]∧LR H2 H' wl ra [V.str (hdw al x),V.str (hdw al y)] 2 (fun y'=>if y' = "first" then some (decide (it=x) && (isO al y || decide (y=x))) else if y' = "turned" then some (decide (al[it]?=some (.and y x))) else none)) ?_ ?_
  ·refine zab2 (decide (it=x) && (isO al y || decide (y=x))) (Val.and ?_ (fun H5 c5=>Val.or ?_ (fun H6 c6=>?_))) (fun H4 c4=>?_)
   ·walk_at "val"
   ·walk_at "val"
   ·walk_at "val"
   ·obtain ⟨kvs,hk,lk,lp⟩:=l.put c4 (by decide)
    exact ⟨_,rfl,_,_,rfl,dputS hk lk,rfl,lp _ _⟩
  rintro σ H3 ⟨rfl,l⟩
  have c3:=l.ch
  have hw3:=l.hw
  have r3:=r1.ch c3
  refine zaa5 (fun σ H'=>σ=[some (.ref gl),some (.str "and"),some (.ref sl),some (.int (it:Int)),some (.str why),some (.ref wl),some (.str (hdw al it)),some (.ref ra),some (.int (x:Int)),some (.int (y:Int)),none,some (.str "one"),some (.str "zero")]∧LR H2 H' wl ra [V.str (hdw al x),V.str (hdw al y)] 3 (fun y'=>if y' = "second" then some (decide (it=y) && isO al x) else if y' = "first" then some (decide (it=x) && (isO al y || decide (y=x))) else if y' = "turned" then some (decide (al[it]?=some (.and y x))) else none)) ?_ ?_
  ·refine zab2 (decide (it=y) && isO al x) (Val.and ?_ (fun H5 c5=>?_)) (fun H4 c4=>?_)
   ·walk_at "val"
   ·walk_at "val"
   ·obtain ⟨kvs,hk,lk,lp⟩:=l.put c4 (by decide)
    exact ⟨_,rfl,_,_,rfl,dputS hk lk,rfl,lp _ _⟩
  rintro σ H3 ⟨rfl,l⟩
  have c3:=l.ch
  have hw3:=l.hw
  have r3:=r1.ch c3
  refine zaa5 (fun σ H'=>σ=[some (.ref gl),some (.str "and"),some (.ref sl),some (.int (it:Int)),some (.str why),some (.ref wl),some (.str (hdw al it)),some (.ref ra),some (.int (x:Int)),some (.int (y:Int)),none,some (.str "one"),some (.str "zero")]∧LR H2 H' wl ra [V.str (hdw al x),V.str (hdw al y)] 4 (fun y'=>if y' = "zero" then some (isZ al it && (isZ al x || (isZ al y || opsd al x y))) else if y' = "second" then some (decide (it=y) && isO al x) else if y' = "first" then some (decide (it=x) && (isO al y || decide (y=x))) else if y' = "turned" then some (decide (al[it]?=some (.and y x))) else none)) ?_ ?_
  ·refine zab2 (isZ al it && (isZ al x || (isZ al y || opsd al x y))) (Val.and ?_ (fun H5 c5=>Val.cast (Bool.or_assoc _ _ _) (Val.or ?_ (fun H6 c6=>?_)))) (fun H4 c4=>?_)
   ·walk_at "val"
   ·intro R hR
    walk_at "rd"
    rw [inV2,zacs lx,zacs ly]
    exact hR _ (Ch.refl _ _)
   ·walk_at "val"
   ·obtain ⟨kvs,hk,lk,lp⟩:=l.put c4 (by decide)
    exact ⟨_,rfl,_,rfl,_,_,rfl,dputS hk lk,rfl,lp _ _⟩
  rintro σ H3 ⟨rfl,l⟩
  have c3:=l.ch
  have hw3:=l.hw
  have r3:=r1.ch c3
  refine LR.ret l rfl rfl ?_
  dsimp only
  simp only [ifm]
  rw [ifs4 (by decide +kernel)]
  exact q _ (cW.trans c3)
 | or x y =>
  have lx:x < al.length:=lf x (by simp [Gt.feeds])
  have ly:y < al.length:=lf y (by simp [Gt.feeds])
  have hsl1:H2 sl=some (.lst [.int (x:Int),.int (y:Int)]):=hsl1
  have hw1:H2 wl=some (.lst [V.str (hdw al x),V.str (hdw al y)]):=by rw [hw1,← ews]; rfl
  clear ews
  rw [zajp w0 rfl] at q
  walk_at "rd"
  rename_i p1 h1
  have cP:=Ch.new (W:=[]) h1 (.lst [.str "and",.str "or",.str "xor"])
  have r2:=r1.ch cP
  have hw2:=cP.get hw1 (by simp)
  obtain ⟨H3,eH3⟩:∃ H3,H3=upd H2 p1 (.lst [.str "and",.str "or",.str "xor"]):=⟨_,rfl⟩
  rw [← eH3] at cP r2 hw2 ⊢
  refine zaa5 (fun σ H'=>∃ ra,σ=[some (.ref gl),some (.str "or"),some (.ref sl),some (.int (it:Int)),some (.str why),some (.ref wl),some (.str (hdw al it)),some (.ref ra),some (.int (x:Int)),some (.int (y:Int)),none,none,none]∧LR H2 H' wl ra [V.str (hdw al x),V.str (hdw al y)] 1 (fun y'=>if y' = "turned" then some (decide (al[it]?=some (.or y x))) else none)) ?_ ?_
  ·refine zafg (decide (al[it]?=some (.or y x))) (fun p hp=>?_) (fun p H4 fp c4 e4=>⟨p,rfl,LR.one cP hw2 fp c4 e4⟩)
   have r4:=r2.ch (Ch.new hp (.dK []))
   obtain ⟨t,et⟩:∃ t,al[it]?=some t:=⟨_,List.getElem?_eq_getElem li⟩
   obtain ⟨xs,pt,hg,at1,hpt,lx⟩:=r4.at et
   have sct:=Gt.vs_sca t
   have sc2:=Gt.vs_sca (.or y x)
   rw [zabd et]
   walk_at "val"
  clear eH3 cP r2 hw2 H3
  rintro σ H3 ⟨ra,rfl,l⟩
  have c3:=l.ch
  have hw3:=l.hw
  have r3:=r1.ch c3
  walk_at "rd"
  refine zaa5 (fun σ H'=>σ=[some (.ref gl),some (.str "or"),some (.ref sl),some (.int (it:Int)),some (.str why),some (.ref wl),some (.str (hdw al it)),some (.ref ra),some (.int (x:Int)),some (.int (y:Int)),none,some (.str "zero"),some (.str "one")]∧LR H2 H' wl ra [V.str (hdw al x),V.str (hdw al y)] 1 (fun y'=>if y' = "turned" then some (decide (al[it]?=some (.or y x))) else none)) ?_ ?_
  ·walk_at "rd"
   first
   | (rename_i p1 h1 p2 h2; exact l.go ((Ch.new h1 _).trans (Ch.new h2 _)))
   | (rename_i p1 h1; exact l.go (Ch.new h1 _))
  rintro σ H3 ⟨rfl,l⟩
  have c3:=l.ch
  have hw3:=l.hw
  have r3:=r1.ch c3
  refine zaa5 (fun σ H'=>σ=[some (.ref gl),some (.str "or"),some (.ref sl),some (.int (it:Int)),some (.str why),some (.ref wl),some (.str (hdw al it)),some (.ref ra),some (.int (x:Int)),some (.int (y:Int)),none,some (.str "zero"),some (.str "one")]∧LR H2 H' wl ra [V.str (hdw al x),V.str (hdw al y)] 2 (fun y'=>if y' = "first" then some (decide (it=x) && (isZ al y || decide (y=x))) else if y' = "turned" then some (decide (al[it]?=some (.or y x))) else none)) ?_ ?_
  ·refine zab2 (decide (it=x) && (isZ al y || decide (y=x))) (Val.and ?_ (fun H5 c5=>Val.or ?_ (fun H6 c6=>?_))) (fun H4 c4=>?_)
   ·walk_at "val"
   ·walk_at "val"
   ·walk_at "val"
   ·obtain ⟨kvs,hk,lk,lp⟩:=l.put c4 (by decide)
    exact ⟨_,rfl,_,_,rfl,dputS hk lk,rfl,lp _ _⟩
  rintro σ H3 ⟨rfl,l⟩
  have c3:=l.ch
  have hw3:=l.hw
  have r3:=r1.ch c3
  refine zaa5 (fun σ H'=>σ=[some (.ref gl),some (.str "or"),some (.ref sl),some (.int (it:Int)),some (.str why),some (.ref wl),some (.str (hdw al it)),some (.ref ra),some (.int (x:Int)),some (.int (y:Int)),none,some (.str "zero"),some (.str "one")]∧LR H2 H' wl ra [V.str (hdw al x),V.str (hdw al y)] 3 (fun y'=>if y' = "second" then some (decide (it=y) && isZ al x) else if y' = "first" then some (decide (it=x) && (isZ al y || decide (y=x))) else if y' = "turned" then some (decide (al[it]?=some (.or y x))) else none)) ?_ ?_
  ·refine zab2 (decide (it=y) && isZ al x) (Val.and ?_ (fun H5 c5=>?_)) (fun H4 c4=>?_)
   ·walk_at "val"
   ·walk_at "val"
   ·obtain ⟨kvs,hk,lk,lp⟩:=l.put c4 (by decide)
    exact ⟨_,rfl,_,_,rfl,dputS hk lk,rfl,lp _ _⟩
  rintro σ H3 ⟨rfl,l⟩
  have c3:=l.ch
  have hw3:=l.hw
  have r3:=r1.ch c3
  refine zaa5 (fun σ H'=>σ=[some (.ref gl),some (.str "or"),some (.ref sl),some (.int (it:Int)),some (.str why),some (.ref wl),some (.str (hdw al it)),some (.ref ra),some (.int (x:Int)),some (.int (y:Int)),none,some (.str "zero"),some (.str "one")]∧LR H2 H' wl ra [V.str (hdw al x),V.str (hdw al y)] 4 (fun y'=>if y' = "one" then some (isO al it && (isO al x || (isO al y || opsd al x y))) else if y' = "second" then some (decide (it=y) && isZ al x) else if y' = "first" then some (decide (it=x) && (isZ al y || decide (y=x))) else if y' = "turned" then some (decide (al[it]?=some (.or y x))) else none)) ?_ ?_
  ·refine zab2 (isO al it && (isO al x || (isO al y || opsd al x y))) (Val.and ?_ (fun H5 c5=>Val.cast (Bool.or_assoc _ _ _) (Val.or ?_ (fun H6 c6=>?_)))) (fun H4 c4=>?_)
   ·walk_at "val"
   ·intro R hR
    walk_at "rd"
    rw [inV2,zac5 lx,zac5 ly]
    exact hR _ (Ch.refl _ _)
   ·walk_at "val"
   ·obtain ⟨kvs,hk,lk,lp⟩:=l.put c4 (by decide)
    exact ⟨_,rfl,_,rfl,_,_,rfl,dputS hk lk,rfl,lp _ _⟩
  rintro σ H3 ⟨rfl,l⟩
  have c3:=l.ch
  have hw3:=l.hw
  have r3:=r1.ch c3
  refine LR.ret l rfl rfl ?_
  dsimp only
  simp only [ifm]
  rw [ifs4 (by decide +kernel)]
  exact q _ (cW.trans c3)
 | xor x y =>
  have lx:x < al.length:=lf x (by simp [Gt.feeds])
  have ly:y < al.length:=lf y (by simp [Gt.feeds])
  have hsl1:H2 sl=some (.lst [.int (x:Int),.int (y:Int)]):=hsl1
  have hw1:H2 wl=some (.lst [V.str (hdw al x),V.str (hdw al y)]):=by rw [hw1,← ews]; rfl
  clear ews
  rw [zajp w0 rfl] at q
  walk_at "rd"
  rename_i p1 h1
  have cP:=Ch.new (W:=[]) h1 (.lst [.str "and",.str "or",.str "xor"])
  have r2:=r1.ch cP
  have hw2:=cP.get hw1 (by simp)
  obtain ⟨H3,eH3⟩:∃ H3,H3=upd H2 p1 (.lst [.str "and",.str "or",.str "xor"]):=⟨_,rfl⟩
  rw [← eH3] at cP r2 hw2 ⊢
  refine zaa5 (fun σ H'=>∃ ra,σ=[some (.ref gl),some (.str "xor"),some (.ref sl),some (.int (it:Int)),some (.str why),some (.ref wl),some (.str (hdw al it)),some (.ref ra),some (.int (x:Int)),some (.int (y:Int)),none,none,none]∧LR H2 H' wl ra [V.str (hdw al x),V.str (hdw al y)] 1 (fun y'=>if y' = "turned" then some (decide (al[it]?=some (.xor y x))) else none)) ?_ ?_
  ·refine zafg (decide (al[it]?=some (.xor y x))) (fun p hp=>?_) (fun p H4 fp c4 e4=>⟨p,rfl,LR.one cP hw2 fp c4 e4⟩)
   have r4:=r2.ch (Ch.new hp (.dK []))
   obtain ⟨t,et⟩:∃ t,al[it]?=some t:=⟨_,List.getElem?_eq_getElem li⟩
   obtain ⟨xs,pt,hg,at1,hpt,lx⟩:=r4.at et
   have sct:=Gt.vs_sca t
   have sc2:=Gt.vs_sca (.xor y x)
   rw [zabd et]
   walk_at "val"
  clear eH3 cP r2 hw2 H3
  rintro σ H3 ⟨ra,rfl,l⟩
  have c3:=l.ch
  have hw3:=l.hw
  have r3:=r1.ch c3
  walk_at "rd"
  refine zaa5 (fun σ H'=>σ=[some (.ref gl),some (.str "xor"),some (.ref sl),some (.int (it:Int)),some (.str why),some (.ref wl),some (.str (hdw al it)),some (.ref ra),some (.int (x:Int)),some (.int (y:Int)),none,none,none]∧LR H2 H' wl ra [V.str (hdw al x),V.str (hdw al y)] 2 (fun y'=>if y' = "first" then some (decide (it=x) && isZ al y) else if y' = "turned" then some (decide (al[it]?=some (.xor y x))) else none)) ?_ ?_
  ·refine zab2 (decide (it=x) && isZ al y) (Val.and ?_ (fun H5 c5=>?_)) (fun H4 c4=>?_)
   ·walk_at "val"
   ·walk_at "val"
   ·obtain ⟨kvs,hk,lk,lp⟩:=l.put c4 (by decide)
    exact ⟨_,rfl,_,_,rfl,dputS hk lk,rfl,lp _ _⟩
  rintro σ H3 ⟨rfl,l⟩
  have c3:=l.ch
  have hw3:=l.hw
  have r3:=r1.ch c3
  refine zaa5 (fun σ H'=>σ=[some (.ref gl),some (.str "xor"),some (.ref sl),some (.int (it:Int)),some (.str why),some (.ref wl),some (.str (hdw al it)),some (.ref ra),some (.int (x:Int)),some (.int (y:Int)),none,none,none]∧LR H2 H' wl ra [V.str (hdw al x),V.str (hdw al y)] 3 (fun y'=>if y' = "second" then some (decide (it=y) && isZ al x) else if y' = "first" then some (decide (it=x) && isZ al y) else if y' = "turned" then some (decide (al[it]?=some (.xor y x))) else none)) ?_ ?_
  ·refine zab2 (decide (it=y) && isZ al x) (Val.and ?_ (fun H5 c5=>?_)) (fun H4 c4=>?_)
   ·walk_at "val"
   ·walk_at "val"
   ·obtain ⟨kvs,hk,lk,lp⟩:=l.put c4 (by decide)
    exact ⟨_,rfl,_,_,rfl,dputS hk lk,rfl,lp _ _⟩
  rintro σ H3 ⟨rfl,l⟩
  have c3:=l.ch
  have hw3:=l.hw
  have r3:=r1.ch c3
  refine zaa5 (fun σ H'=>σ=[some (.ref gl),some (.str "xor"),some (.ref sl),some (.int (it:Int)),some (.str why),some (.ref wl),some (.str (hdw al it)),some (.ref ra),some (.int (x:Int)),some (.int (y:Int)),none,none,none]∧LR H2 H' wl ra [V.str (hdw al x),V.str (hdw al y)] 4 (fun y'=>if y' = "zero" then some (isZ al it && decide (x=y)) else if y' = "second" then some (decide (it=y) && isZ al x) else if y' = "first" then some (decide (it=x) && isZ al y) else if y' = "turned" then some (decide (al[it]?=some (.xor y x))) else none)) ?_ ?_
  ·refine zab2 (isZ al it && decide (x=y)) (Val.and ?_ (fun H5 c5=>?_)) (fun H4 c4=>?_)
   ·walk_at "val"
   ·walk_at "val"
   ·obtain ⟨kvs,hk,lk,lp⟩:=l.put c4 (by decide)
    exact ⟨_,rfl,_,_,rfl,dputS hk lk,rfl,lp _ _⟩
  rintro σ H3 ⟨rfl,l⟩
  have c3:=l.ch
  have hw3:=l.hw
  have r3:=r1.ch c3
  refine zaa5 (fun σ H'=>σ=[some (.ref gl),some (.str "xor"),some (.ref sl),some (.int (it:Int)),some (.str why),some (.ref wl),some (.str (hdw al it)),some (.ref ra),some (.int (x:Int)),some (.int (y:Int)),none,none,none]∧LR H2 H' wl ra [V.str (hdw al x),V.str (hdw al y)] 5 (fun y'=>if y' = "one" then some (isO al it && opsd al x y) else if y' = "zero" then some (isZ al it && decide (x=y)) else if y' = "second" then some (decide (it=y) && isZ al x) else if y' = "first" then some (decide (it=x) && isZ al y) else if y' = "turned" then some (decide (al[it]?=some (.xor y x))) else none)) ?_ ?_
  ·refine zab2 (isO al it && opsd al x y) (Val.and ?_ (fun H5 c5=>?_)) (fun H4 c4=>?_)
   ·walk_at "val"
   ·walk_at "val"
   ·obtain ⟨kvs,hk,lk,lp⟩:=l.put c4 (by decide)
    exact ⟨_,rfl,_,_,rfl,dputS hk lk,rfl,lp _ _⟩
  rintro σ H3 ⟨rfl,l⟩
  have c3:=l.ch
  have hw3:=l.hw
  have r3:=r1.ch c3
  refine zaa5 (fun σ H'=>σ=[some (.ref gl),some (.str "xor"),some (.ref sl),some (.int (it:Int)),some (.str why),some (.ref wl),some (.str (hdw al it)),some (.ref ra),some (.int (x:Int)),some (.int (y:Int)),none,none,none]∧LR H2 H' wl ra [V.str (hdw al x),V.str (hdw al y)] 6 (fun y'=>if y' = "not" then some (isO al y && opsd al it x) else if y' = "one" then some (isO al it && opsd al x y) else if y' = "zero" then some (isZ al it && decide (x=y)) else if y' = "second" then some (decide (it=y) && isZ al x) else if y' = "first" then some (decide (it=x) && isZ al y) else if y' = "turned" then some (decide (al[it]?=some (.xor y x))) else none)) ?_ ?_
  ·refine zab2 (isO al y && opsd al it x) (Val.and ?_ (fun H5 c5=>?_)) (fun H4 c4=>?_)
   ·walk_at "val"
   ·walk_at "val"
   ·obtain ⟨kvs,hk,lk,lp⟩:=l.put c4 (by decide)
    exact ⟨_,rfl,_,_,rfl,dputS hk lk,rfl,lp _ _⟩
  rintro σ H3 ⟨rfl,l⟩
  have c3:=l.ch
  have hw3:=l.hw
  have r3:=r1.ch c3
  refine zaa5 (fun σ H'=>σ=[some (.ref gl),some (.str "xor"),some (.ref sl),some (.int (it:Int)),some (.str why),some (.ref wl),some (.str (hdw al it)),some (.ref ra),some (.int (x:Int)),some (.int (y:Int)),none,none,none]∧LR H2 H' wl ra [V.str (hdw al x),V.str (hdw al y)] 7 (fun y'=>if y' = "not" then some ((isO al y && opsd al it x) || (isO al x && opsd al it y)) else if y' = "not" then some (isO al y && opsd al it x) else if y' = "one" then some (isO al it && opsd al x y) else if y' = "zero" then some (isZ al it && decide (x=y)) else if y' = "second" then some (decide (it=y) && isZ al x) else if y' = "first" then some (decide (it=x) && isZ al y) else if y' = "turned" then some (decide (al[it]?=some (.xor y x))) else none)) ?_ ?_
  ·refine zab2 ((isO al y && opsd al it x) || (isO al x && opsd al it y)) (Val.or ?_ (fun H6 c6=>Val.and ?_ (fun H5 c5=>?_))) (fun H4 c4=>?_)
   ·obtain ⟨kvs,hk,_,hv⟩:=l.ex
    have hv:=hv "not"
    intro R hR
    exact ⟨_,rfl,_,_,rfl,zah0 hk (hv.trans rfl),hR _ (Ch.refl _ _)⟩
   ·walk_at "val"
   ·walk_at "val"
   ·obtain ⟨kvs,hk,lk,lp⟩:=l.put c4 (by decide)
    exact ⟨_,rfl,_,_,rfl,dputS hk lk,rfl,lp _ _⟩
  rintro σ H3 ⟨rfl,l⟩
  have c3:=l.ch
  have hw3:=l.hw
  have r3:=r1.ch c3
  refine LR.ret l rfl rfl ?_
  dsimp only
  simp only [ifm]
  rw [ifs6 (by decide +kernel)]
  exact q _ (cW.trans c3)
 | pick x y z =>
  have lx:x < al.length:=lf x (by simp [Gt.feeds])
  have ly:y < al.length:=lf y (by simp [Gt.feeds])
  have lz:z < al.length:=lf z (by simp [Gt.feeds])
  have hsl1:H2 sl=some (.lst [.int (x:Int),.int (y:Int),.int (z:Int)]):=hsl1
  have hw1:H2 wl=some (.lst [V.str (hdw al x),V.str (hdw al y),V.str (hdw al z)]):=by rw [hw1,← ews]; rfl
  clear ews
  rw [zabv rfl w0 (fun z=>by cases z.2)] at q
  walk_at "rd"
  refine zaa5 (fun σ H'=>∃ ra,σ=[some (.ref gl),some (.str "pick"),some (.ref sl),some (.int (it:Int)),some (.str why),some (.ref wl),some (.str (hdw al it)),some (.ref ra),some (.int (x:Int)),some (.int (y:Int)),some (.int (z:Int)),none,none]∧LR H2 H' wl ra [V.str (hdw al x),V.str (hdw al y),V.str (hdw al z)] 2 (fun y'=>if y' = "third" then some (decide (it=z) && isZ al x) else if y' = "second" then some (decide (it=y) && (isO al x || decide (y=z))) else none)) ?_ ?_
  ·refine zahi (decide (it=y) && (isO al x || decide (y=z))) (decide (it=z) && isZ al x) (fun p hp=>?_) (fun H3 c3=>Val.and ?_ (fun H4 c4=>?_)) (fun p H3 fp c3 e3=>⟨p,rfl,LR.two (Ch.refl _ _) hw1 fp c3 e3⟩)
   ·have hw4:=(Ch.new (W:=[]) hp (.dK [])).get hw1 (by simp)
    refine Val.and ?_ (fun H5 c5=>Val.or ?_ (fun H6 c6=>?_))
    ·walk_at "val"
    ·walk_at "val"
    ·walk_at "val"
   ·walk_at "val"
   ·have hw4:=c3.get hw1 (by simp)
    walk_at "val"
  rintro σ H3 ⟨ra,rfl,l⟩
  have c3:=l.ch
  have hw3:=l.hw
  have r3:=r1.ch c3
  refine zaa5 (fun σ H'=>σ=[some (.ref gl),some (.str "pick"),some (.ref sl),some (.int (it:Int)),some (.str why),some (.ref wl),some (.str (hdw al it)),some (.ref ra),some (.int (x:Int)),some (.int (y:Int)),some (.int (z:Int)),none,none]∧LR H2 H' wl ra [V.str (hdw al x),V.str (hdw al y),V.str (hdw al z)] 3 (fun y'=>if y' = "first" then some (decide (it=x) && (isO al y && isZ al z)) else if y' = "third" then some (decide (it=z) && isZ al x) else if y' = "second" then some (decide (it=y) && (isO al x || decide (y=z))) else none)) ?_ ?_
  ·refine zab2 (decide (it=x) && (isO al y && isZ al z)) (Val.and ?_ (fun H5 c5=>?_)) (fun H4 c4=>?_)
   ·walk_at "val"
   ·intro R hR
    walk_at "rd"
    rename_i p1 h1 p2 h2
    rw [show cutV [V.str (hdw al x),V.str (hdw al y),V.str (hdw al z)] (some 1) none=[V.str (hdw al y),V.str (hdw al z)] from rfl,dec2,zac5 ly,zacs lz] at *
    exact hR _ ((Ch.new h1 _).trans (Ch.new h2 _))
   ·obtain ⟨kvs,hk,lk,lp⟩:=l.put c4 (by decide)
    exact ⟨_,rfl,_,_,rfl,dputS hk lk,rfl,lp _ _⟩
  rintro σ H3 ⟨rfl,l⟩
  have c3:=l.ch
  have hw3:=l.hw
  have r3:=r1.ch c3
  refine zaa5 (fun σ H'=>σ=[some (.ref gl),some (.str "pick"),some (.ref sl),some (.int (it:Int)),some (.str why),some (.ref wl),some (.str (hdw al it)),some (.ref ra),some (.int (x:Int)),some (.int (y:Int)),some (.int (z:Int)),none,none]∧LR H2 H' wl ra [V.str (hdw al x),V.str (hdw al y),V.str (hdw al z)] 4 (fun y'=>if y' = "not" then some (opsd al it x && (isZ al y && isO al z)) else if y' = "first" then some (decide (it=x) && (isO al y && isZ al z)) else if y' = "third" then some (decide (it=z) && isZ al x) else if y' = "second" then some (decide (it=y) && (isO al x || decide (y=z))) else none)) ?_ ?_
  ·refine zab2 (opsd al it x && (isZ al y && isO al z)) (Val.cast (Bool.and_comm _ _) (Val.and ?_ (fun H5 c5=>?_))) (fun H4 c4=>?_)
   ·intro R hR
    walk_at "rd"
    rename_i p1 h1 p2 h2
    rw [show cutV [V.str (hdw al x),V.str (hdw al y),V.str (hdw al z)] (some 1) none=[V.str (hdw al y),V.str (hdw al z)] from rfl,dec2,zacs ly,zac5 lz] at *
    exact hR _ ((Ch.new h1 _).trans (Ch.new h2 _))
   ·walk_at "val"
   ·obtain ⟨kvs,hk,lk,lp⟩:=l.put c4 (by decide)
    exact ⟨_,rfl,_,_,rfl,dputS hk lk,rfl,lp _ _⟩
  rintro σ H3 ⟨rfl,l⟩
  have c3:=l.ch
  have hw3:=l.hw
  have r3:=r1.ch c3
  refine LR.ret l rfl rfl ?_
  dsimp only
  simp only [ifm]
  rw [ifs4 (by decide +kernel)]
  exact q _ (cW.trans c3)
end
end

section
structure Below (fs:List Nat) (n:Nat):Prop where
 of:∀ a∈fs,a < n
theorem Below.nil {n:Nat}:Below [] n:=⟨fun a h=>by cases h⟩
theorem Below.snoc {fs:List Nat}{n a:Nat} (h:Below fs n) (ha:a < n):Below (fs++[a]) n:=⟨fun b hb=>by
 rcases List.mem_append.mp hb with h1 | h1
 ·exact h.of b h1
 ·rw [List.mem_singleton.mp h1]; exact ha⟩
def DD:List (Key × V):=[(Sum.inr "zero",.int 0),(Sum.inr "one",.int 0),(Sum.inr "not",.int 1),(Sum.inr "pick",.int 3)]
theorem zaon {x:Str} (hx:x∈WS):(valV (mergeK [] DD) (Sum.inr x)).getD (.int 2)=.int (arW x:Int):=by
 simp only [WS,List.mem_cons,List.not_mem_nil,or_false] at hx
 rcases hx with rfl | rfl | rfl | rfl | rfl | rfl | rfl | rfl | rfl | rfl <;> decide +kernel
theorem zaoo {x:Str} (hx:x∈WS):arW x≤3:=by
 simp only [WS,List.mem_cons,List.not_mem_nil,or_false] at hx
 rcases hx with rfl | rfl | rfl | rfl | rfl | rfl | rfl | rfl | rfl | rfl <;> decide +kernel
structure Box (Pd:Prop):Prop where
 h:Pd
theorem zaop {n:Int} (h:0≤n):∃ m:Nat,n=(m:Int):=Int.eq_ofNat_of_zero_le h
structure CT (H0 H:Hp) (b:Addr) (c B:Int):Prop where
 ch:Ch [b] H0 H
 at_:∃ c',H b=some (.lst [.int c'])∧c≤c'∧c'≤c + B
theorem CT.bump {H0 H H1:Hp}{b:Addr}{c c' B:Int} (n:CT H0 H b c B) (hb:H b=some (.lst [.int c'])) (c1:Ch [b] H H1) (hb1:H1 b=some (.lst [.int (c' + 1)])):CT H0 H1 b c (B + 1):=by
 obtain ⟨c'',h1,h2,h3⟩:=n.at_
 rw [hb] at h1
 injection h1 with h1; injection h1 with h1; injection h1 with h1 _; injection h1 with h1
 subst h1
 exact ⟨n.ch.trans c1,c' + 1,hb1,by omega,by omega⟩
theorem CT.same {H0 H H1:Hp}{b:Addr}{c B:Int} (n:CT H0 H b c B) (c1:Ch [] H H1):CT H0 H1 b c B:=let ⟨c',a,h⟩:=n.at_; ⟨n.ch.trans (Ch.wk c1),c',c1.get a (by simp),h⟩
theorem CT.wk {H0 H:Hp}{b:Addr}{c B B':Int} (n:CT H0 H b c B) (h:B≤B'):CT H0 H b c B':=let ⟨c',a,x,y⟩:=n.at_; ⟨n.ch,c',a,x,by omega⟩
theorem CT.own {H0 H:Hp}{b p:Addr}{c B:Int}{o:HO} (n:CT H0 H b c B) (f:H0 p=none) (pb:p≠b):CT H0 (upd H p o) b c B:=let ⟨c',a,h⟩:=n.at_; ⟨Ch.own f n.ch,c',zagg pb.symm a,h⟩
theorem CT.zero {H:Hp}{b:Addr}{c:Int} (hb:H b=some (.lst [.int c])):CT H H b c 0:=⟨Ch.refl _ _,c,hb,by omega,by omega⟩
theorem CT.trans {H0 H H1:Hp}{b:Addr}{c c' B B':Int} (n:CT H0 H b c B) (hb:H b=some (.lst [.int c'])) (m:CT H H1 b c' B'):CT H0 H1 b c (B + B'):=by
 obtain ⟨c'',h1,h2,h3⟩:=n.at_
 rw [hb] at h1
 injection h1 with h1; injection h1 with h1; injection h1 with h1 _; injection h1 with h1
 subst h1
 obtain ⟨d,e1,e2,e3⟩:=m.at_
 exact ⟨n.ch.trans m.ch,d,e1,by omega,by omega⟩
structure GN (H0 H:Hp) (b gl:Addr) (c B:Int) (gs:List Gt) (xs:List V):Prop where
 ct:CT H0 H b c B
 fr:H0 gl=none
 nb:gl≠b
 gl:H gl=some (.lst xs)
 gg:Gs H gs xs
theorem GN.bump {H0 H H1:Hp}{b gl:Addr}{c c' B:Int}{gs:List Gt}{xs:List V} (n:GN H0 H b gl c B gs xs) (hb:H b=some (.lst [.int c'])) (c1:Ch [b] H H1) (hb1:H1 b=some (.lst [.int (c' + 1)])):GN H0 H1 b gl c (B + 1) gs xs :=
 ⟨n.ct.bump hb c1 hb1,n.fr,n.nb,c1.get n.gl (by simpa using n.nb),n.gg.tu (Tu.lst c1 hb)⟩
theorem GN.same {H0 H H1:Hp}{b gl:Addr}{c B:Int}{gs:List Gt}{xs:List V} (n:GN H0 H b gl c B gs xs) (c1:Ch [] H H1):GN H0 H1 b gl c B gs xs:=⟨n.ct.same c1,n.fr,n.nb,c1.get n.gl (by simp),n.gg.tu (Tu.same c1)⟩
theorem GN.push {H0 H:Hp}{b gl p:Addr}{c B:Int}{gs:List Gt}{xs:List V}{g:Gt} (n:GN H0 H b gl c B gs xs) (hp:H p=some (.tup g.vs)):GN H0 (upd H gl (.lst (xs++[.ref p]))) b gl c B (gs++[g]) (xs++[.ref p]) :=
 ⟨n.ct.own n.fr n.nb,n.fr,n.nb,zaag,(n.gg.tu (Tu.lst Ch.put n.gl)).snoc (zagg (zahk hp n.gl (by intro z; cases z)) hp)⟩
def al7 (x:Nat) (f:Int) (y:Nat):List Gt:=[.inp,.inp,.inp,.zero,.one,.not x,.keep f y]
end

section
section
variable {P:Program}{w:World}{K:PySem.W.Frag}{mg:Str→Option Value}{base:Heap}{f:Addr}{fd:FuncData}{k:Nat}
theorem zaa7:Nd "_law_next" := by decide +kernel
theorem av35:AF (defScope (top 35)) ["_law_script", "_law_at", "_law_gates"]:=⟨by decide +kernel⟩
theorem gl35:AG (defScope (top 35)) ["_law_next"]:=⟨by decide +kernel⟩
def spBase (K:PySem.W.Frag):Sp:=fun vs H Q _=>∃ (a b:Addr) (ns:List Int) (c:Int),vs=[.ref a,.ref b]∧Scr K H a ns∧H b=some (.lst [.int c])∧0≤c∧c < 2 ^ 58 ∧
 ∀ (gl:Addr) (x y:Nat) (f:Int) (xs:List V) (H':Hp),GN H H' b gl c 3 (al7 x f y) xs→x < 5→y < 7→0≤f→f < 2→Q (.ref gl) H'
theorem scBase:FnScope ["_law_script", "_law_at", "_law_gates"] ["_law_script", "_law_at"] (defScope (top 35)):=⟨rfl,rfl,rfl,by decide +kernel,rfl,by decide +kernel,by decide +kernel⟩
theorem zamo (F:Fun K "_law_base" "_law_base" (top 35) f fd) (D_law_next:DefOk P w K mg base CX0 k "_law_next" ["_law_script", "_law_at"] (spNext K)):FnOk P w K mg base CX0 (k + 1) f fd ["_law_script", "_law_at"] (spBase K):=by
 have nd:=scBase.nd
 refine F.ok scBase (fun vs H Q E h=>by obtain ⟨a,b,ns,c,rfl,_⟩:=h; rfl) (fun cdv A outer s0 H vs Q E hr h=>?_)
 obtain ⟨a,b,ns,c,rfl,hS,hb,h0,h1,q⟩:=h
 refine ⟨_,(Pr.h (zaat (zaap (i:=2) nd rfl (av35.l 2 rfl) (zaa2 (zaaa (zaaw (zaaa zaaf zaac zaab)) (zaaa (zaaw (zaaa zaaf zaac zaab)) (zaaa (zaaw (zaaa zaaf zaac zaab)) (zaaa (zaaw (zaaa zaaf zaac zaab)) (zaaa (zaaw (zaaa zaaf zaac zaab)) zaac zaa4) zaa4) zaa4) zaa4) zaa4))) (zaah (zad5 (zahb PySem.F.plainAttrs_list PySem.F.slot_list_append PySem.F.type_list_append zadf (qv av35 2 rfl) (zaaa (zaaw (zaaa zaaf (zaaa (zaaq zaba (zaai D_law_next hr (gl35.g 0 rfl) pass0 (zaaa (qv av35 0 rfl) (zaaa (qv av35 1 rfl) zaac zaad) zaad) zaa7) zaae) zaac zaa9) zaab)) zaac zaa4))) (zaah (zad5 (zahb PySem.F.plainAttrs_list PySem.F.slot_list_append PySem.F.type_list_append zadf (qv av35 2 rfl) (zaaa (zaaw (zaaa zaaf (zaaa (zaaq zaba (zaai D_law_next hr (gl35.g 0 rfl) pass0 (zaaa (qv av35 0 rfl) (zaaa (qv av35 1 rfl) zaac zaad) zaad) zaa7) zaae) (zaaa (zaaq zaba (zaai D_law_next hr (gl35.g 0 rfl) pass0 (zaaa (qv av35 0 rfl) (zaaa (qv av35 1 rfl) zaac zaad) zaad) zaa7) zaae) zaac zaa9) zaa9) zaab)) zaac zaa4))) (zaaj (zaam (qv av35 2 rfl))))))),?_⟩
 (try dsimp only [cxOf])
 refine zaa5 (fun σ H1=>∃ gl xs,σ=[some (.ref a),some (.ref b),some (.ref gl)]∧GN H H1 b gl c 0 [.inp,.inp,.inp,.zero,.one] xs) ?_ ?_
 ·walk_at "rd"
  rename_i p1 e1 p2 e2 p3 e3 p4 e4 p5 e5 gl egl
  have cc:=(((((Ch.new (W:=[]) e1 (.tup [.str "in"])).trans (Ch.new e2 (.tup [.str "in"]))).trans (Ch.new e3 (.tup [.str "in"]))).trans (Ch.new e4 (.tup [.str "zero"]))).trans (Ch.new e5 (.tup [.str "one"])))
  have cd:=cc.trans (Ch.new egl (.lst [.ref p1,.ref p2,.ref p3,.ref p4,.ref p5]))
  have fg:=chFree cc egl
  refine ⟨(CT.zero hb).same cd,fg,(zaa0 hb fg).symm,zaag,?_⟩
  exact (((((Gs.nil _).snoc (g:=.inp) (zaas egl (zaas e5 (zaas e4 (zaas e3 (zaas e2 zaag)))))).snoc (g:=.inp) (zaas egl (zaas e5 (zaas e4 (zaas e3 zaag))))).snoc (g:=.inp) (zaas egl (zaas e5 (zaas e4 zaag)))).snoc (g:=.zero) (zaas egl (zaas e5 zaag))).snoc (g:=.one) (zaas egl zaag)
 rintro σ H1 ⟨gl,xs,rfl,n⟩
 obtain ⟨c',hb1,hc1,hc2⟩:=n.ct.at_
 have hS1:Scr K H1 a ns:=hS.ch hb n.ct.ch
 have gl1:=n.gl
 have lx:=n.gg.len
 have lx:xs.length=5:=lx
 have nb:=n.nb
 walk_at "rd"
 rename_i z1 H2 z10 z11 c2 hb2 p6 hp6
 obtain ⟨x,ex,lx5⟩:∃ x:Nat,z1 % 5=(x:Int)∧x < 5:=⟨(z1 % 5).toNat,by omega,by omega⟩
 have n2:=((n.bump hb1 c2 hb2).same (Ch.new hp6 (.tup [.str "not",.int (z1 % 5)]))).push (g:=.not x) (p:=p6) (by rw [zaag,ex]; rfl)
 have hb3:upd (upd H2 p6 (.tup [.str "not",.int (z1 % 5)])) gl (.lst (xs++[.ref p6])) b=some (.lst [.int (c' + 1)]):=zagg nb.symm (zaas hp6 hb2)
 obtain ⟨H3,e3⟩:∃ H3,H3=upd (upd H2 p6 (.tup [.str "not",.int (z1 % 5)])) gl (.lst (xs++[.ref p6])):=⟨_,rfl⟩
 rw [← e3] at n2 hb3 ⊢
 refine ⟨hS.ch hb n2.ct.ch,hb3,by omega,by omega,fun z2 H4 z20 z21 c4 hb4=>?_⟩
 have n4:=n2.bump hb3 c4 hb4
 have hS4:Scr K H4 a ns:=hS.ch hb n4.ct.ch
 have gl4:=n4.gl
 walk_at "rd"
 rename_i z3 H5 z30 z31 c5 hb5 p7 hp7
 obtain ⟨y,ey,ly⟩:∃ y:Nat,z3 % 7=(y:Int)∧y < 7:=⟨(z3 % 7).toNat,by omega,by omega⟩
 have n5:=n4.bump hb4 c5 hb5
 have gl5:=n5.gl
 have n6:=(n5.same (Ch.new hp7 (.tup [.str "keep",.int (z2 % 2),.int (z3 % 7)]))).push (g:=.keep (z2 % 2) y) (p:=p7) (by rw [zaag,ey]; rfl)
 exact q _ _ _ _ _ _ n6 lx5 ly (by omega) (by omega)
end
end

section
structure FL (H0 H:Hp) (b sl:Addr) (c B:Int) (fs:List Nat) (n:Nat):Prop where
 ct:CT H0 H b c B
 fr:H0 sl=none
 nb:sl≠b
 sl:H sl=some (.lst (fs.map nV))
 le:fs.length=n
 lt:Below fs 7
theorem FL.bump {H0 H H1:Hp}{b sl:Addr}{c c' B:Int}{fs:List Nat}{n:Nat} (l:FL H0 H b sl c B fs n) (hb:H b=some (.lst [.int c'])) (c1:Ch [b] H H1) (hb1:H1 b=some (.lst [.int (c' + 1)])):FL H0 H1 b sl c (B + 1) fs n:=⟨l.ct.bump hb c1 hb1,l.fr,l.nb,c1.get l.sl (by simpa using l.nb),l.le,l.lt⟩
theorem FL.same {H0 H H1:Hp}{b sl:Addr}{c B:Int}{fs:List Nat}{n:Nat} (l:FL H0 H b sl c B fs n) (c1:Ch [] H H1):FL H0 H1 b sl c B fs n:=⟨l.ct.same c1,l.fr,l.nb,c1.get l.sl (by simp),l.le,l.lt⟩
theorem FL.set {H0 H:Hp}{b sl:Addr}{c B:Int}{fs:List Nat}{n j x:Nat} (l:FL H0 H b sl c B fs n) (hx:x < 7):FL H0 (upd H sl (.lst ((fs.map nV).set j (nV x)))) b sl c B (fs.set j x) n :=
 ⟨l.ct.own l.fr l.nb,l.fr,l.nb,by rw [zaag,List.map_set],by rw [List.length_set]; exact l.le,⟨fun a ha=>by
  rcases List.mem_or_eq_of_mem_set ha with h | h
  ·exact l.lt.of a h
  ·rw [h]; exact hx⟩⟩
theorem FL.push {H0 H:Hp}{b sl:Addr}{c B i:Int}{fs:List Nat}{n x:Nat} (l:FL H0 H b sl c B fs n) (e:i=(x:Int)) (hx:x < 7):FL H0 (upd H sl (.lst (fs.map nV++[.int i]))) b sl c B (fs++[x]) (n + 1) :=
 ⟨l.ct.own l.fr l.nb,l.fr,l.nb,by rw [zaag,e]; simp [nV],by simp [l.le],l.lt.snoc hx⟩
theorem zakx (fs:List Nat):ScaL (fs.map nV):=⟨fun z hz=>by
 obtain ⟨a,_,rfl⟩:=List.mem_map.mp hz
 exact .inl ⟨_,rfl⟩⟩
theorem zamp:ScaL ([]:List V):=⟨fun z hz=>by cases hz⟩
theorem pick5 {a d:Nat} (ha:a < 7) (hd:d < 7) {i:Int} (h0:0≤i) (h5:i < 5):∃ x:Nat,x < 7∧atI [V.int 3,V.int 4,V.int (a:Int),V.int (d:Int),V.int 5] i=some (V.int (x:Int)):=by
 have:i=0∨i=1∨i=2∨i=3∨i=4:=by omega
 rcases this with rfl | rfl | rfl | rfl | rfl
 ·exact ⟨3,by omega,rfl⟩
 ·exact ⟨4,by omega,rfl⟩
 ·exact ⟨a,ha,rfl⟩
 ·exact ⟨d,hd,rfl⟩
 ·exact ⟨5,by omega,rfl⟩
theorem pick4 {a:Nat} (ha:a < 7) {i:Int} (h0:0≤i) (h5:i < 4):∃ x:Nat,x < 7∧atI [V.int 3,V.int 4,V.int 5,V.int (a:Int)] i=some (V.int (x:Int)):=by
 have:i=0∨i=1∨i=2∨i=3:=by omega
 rcases this with rfl | rfl | rfl | rfl
 ·exact ⟨3,by omega,rfl⟩
 ·exact ⟨4,by omega,rfl⟩
 ·exact ⟨5,by omega,rfl⟩
 ·exact ⟨a,ha,rfl⟩
theorem Below.at {fs:List Nat}{n j:Nat} (h:Below fs n) (hj:j < fs.length):∃ x,x < n∧fs[j]?=some x:=⟨fs[j],h.of _ (List.getElem_mem hj),List.getElem?_eq_getElem hj⟩
theorem zaju {n j:Nat} (h:j < n):ixN n (j:Int)=some j:=by
 unfold ixN
 rw [if_pos (by omega),if_pos (by omega)]; simp
theorem zahj {fs:List Nat}{j x:Nat} (h:fs[j]?=some x):atI (fs.map nV) (j:Int)=some (V.int (x:Int)):=zach (by rw [List.getElem?_map,h]; rfl)
theorem head7 {fs:List Nat} (b:Below fs 7) {i:Int} (h0:0≤i) (h7:i < 7):∃ x:Nat,x < 7∧atI (fs.map nV++[V.int i]) 0=some (.int (x:Int)):=by
 cases fs with
 | nil =>
  obtain ⟨n,rfl⟩:=zaop h0
  exact ⟨n,by omega,rfl⟩
 | cons a t=>exact ⟨a,b.of a (by simp),(show atI ((a :: t).map nV++[V.int i]) ((0:Nat):Int)=some (.int (a:Int)) from zach rfl)⟩
local macro_rules | `(tactic| walk_at "user")=>`(tactic| first
 | exact zakx _
 | exact zamp)
theorem zamq {x:Str} (hx:x∈WS) {fs:List Nat} (hl:fs.length=arW x) (hf:Below fs 7):∃ g:Gt,g.wd=x∧g.feeds=fs∧g.src=false∧g.vs=.str x :: fs.map nV:=by
 obtain ⟨g,e,_,hi,hk⟩:=mkG hx hl hf.of
 have nvi:∀ {l l':List Nat},l.map nV=l'.map nV→l=l':=fun {l l'} h=>by
  have inj:Function.Injective nV:=fun a b z=>by unfold nV at z; injection z with z; omega
  exact (List.map_inj_right (fun a b z=>inj z)).mp h
 have hw:g.vs=.str g.wd :: g.feeds.map nV:=by cases g <;> first | rfl | (cases hk; done)
 rw [e] at hw
 injection hw with h1 h2
 injection h1 with h1
 exact ⟨g,h1.symm,(nvi h2).symm,by cases g <;> first | rfl | (cases hi; done) | (cases hk; done),e⟩
structure BG (H:Hp) (p:Addr):Prop where
 ex:∃ h:Gt,H p=some (.tup h.vs)∧h.src=false∧Below h.feeds 7
theorem BG.not {H:Hp}{p:Addr}{x:Nat}{i:Int} (h:H p=some (.tup [.str "not",.int i])) (e:i=(x:Int)) (hx:x < 7):BG H p:=⟨.not x,by rw [h,e]; rfl,rfl,⟨fun a ha=>by simp [Gt.feeds] at ha; omega⟩⟩
theorem zamr {g:Gt} (h:g.feeds.length=2) (sr:g.src=false) (bel:Below g.feeds 7):∃ (x y:Nat) (t:Gt),g.feeds=[x,y]∧x < 7∧y < 7∧t.vs=[.str g.wd,.int (y:Int),.int (x:Int)]∧t.src=false∧Below t.feeds 7:=by
 have sw:∀ {x y:Nat},Below [x,y] 7→Below [y,x] 7:=fun {x y} b=>⟨fun a ha=>b.of a (by simp at ha ⊢; omega)⟩
 cases g <;> simp [Gt.feeds] at h <;> first | (cases sr; done) | skip
 ·exact ⟨_,_,.and _ _,rfl,bel.of _ (by simp [Gt.feeds]),bel.of _ (by simp [Gt.feeds]),rfl,rfl,sw bel⟩
 ·exact ⟨_,_,.or _ _,rfl,bel.of _ (by simp [Gt.feeds]),bel.of _ (by simp [Gt.feeds]),rfl,rfl,sw bel⟩
 ·exact ⟨_,_,.xor _ _,rfl,bel.of _ (by simp [Gt.feeds]),bel.of _ (by simp [Gt.feeds]),rfl,rfl,sw bel⟩
section
variable {P:Program}{w:World}{K:PySem.W.Frag}{mg:Str→Option Value}{base:Heap}{f:Addr}{fd:FuncData}{k:Nat}
theorem av36:AF (defScope (top 36)) ["_law_script", "_law_at", "_law_gates", "_law_word", "_law_some_here", "_law_k", "_law_m", "_law_place"]:=⟨by decide +kernel⟩
theorem gl36:AG (defScope (top 36)) ["range", "_law_next", "len"]:=⟨by decide +kernel⟩
def spSome (K:PySem.W.Frag):Sp:=fun vs H Q _=>∃ (a b gl:Addr) (ns:List Int) (c:Int) (wd:Str) (x y:Nat) (fv:Int) (xs:List V),vs=[.ref a,.ref b,.ref gl,.str wd]∧Scr K H a ns∧H b=some (.lst [.int c])∧0≤c∧c < 2 ^ 58∧wd∈WS∧gl≠b∧H gl=some (.lst xs)∧Gs H (al7 x fv y) xs∧x < 5 ∧
 ∀ (sl:Addr) (g:Gt) (H':Hp),FL H H' b sl c 4 g.feeds (arW wd)→g.wd=wd→g.src=false→Q (.ref sl) H'
theorem scSome:FnScope ["_law_script", "_law_at", "_law_gates", "_law_word", "_law_some_here", "_law_k", "_law_m", "_law_place"] ["_law_script", "_law_at", "_law_gates", "_law_word"] (defScope (top 36)):=⟨rfl,rfl,rfl,by decide +kernel,rfl,by decide +kernel,by decide +kernel⟩
theorem zams (F:Fun K "_law_some" "_law_some" (top 36) f fd) (D_law_next:DefOk P w K mg base CX0 k "_law_next" ["_law_script", "_law_at"] (spNext K)) (z_range:mg "range" = none) (z_len:mg "len" = none):FnOk P w K mg base CX0 (k + 1) f fd ["_law_script", "_law_at", "_law_gates", "_law_word"] (spSome K):=by
 have nd:=scSome.nd
 refine F.ok scSome (fun vs H Q E h=>by obtain ⟨a,b,gl,ns,c,wd,x,y,fv,xs,rfl,_⟩:=h; rfl) (fun cdv A outer s0 H vs Q E hr h=>?_)
 obtain ⟨a,b,gl,ns,c,wd,x,y,fv,xs,rfl,hS,hb,h0,h1,hwd,ngb,hgl,gg,lx5,q⟩:=h
 have hu:=zanv hr
 refine ⟨_,(Pr.h (zaah (zaap (i:=4) nd rfl (av36.l 4 rfl) (zaa2 zaac)) (zaah (zacf PassesOwn.never rfl (zado (gl36.g 0 rfl) z_range (zaaa (zai3 hu (zad8 (zaca zaaf zaae (zaca zaaf zaae (zaca zaaf zaae (zaca zaaf zaae zad7)))) rfl rfl (by intro z; cases z) (by decide)) (qv av36 3 rfl) zaae ⟨rfl,rfl,rfl,rfl⟩) zaac zab8)) (zaa6 (i:=5) nd rfl (av36.l 5 rfl)) (zaaj (zad5 (zahb PySem.F.plainAttrs_list PySem.F.slot_list_append PySem.F.type_list_append zadf (qv av36 4 rfl) (zaaa (zaaq zaba (zaai D_law_next hr (gl36.g 1 rfl) pass0 (zaaa (qv av36 0 rfl) (zaaa (qv av36 1 rfl) zaac zaad) zaad) zaa7) zaae) zaac zaa9))))) (zaah (zaap (i:=6) nd rfl (av36.l 6 rfl) (zaai D_law_next hr (gl36.g 1 rfl) pass0 (zaaa (qv av36 0 rfl) (zaaa (qv av36 1 rfl) zaac zaad) zaad) zaa7)) (zaat (zaa1 (zab3 (zacl (zaak (zak8 hr.units) (qv av36 4 rfl) (zaa2 zaac) (nomark _)) (zacd (zaak zaa3 (zaaq zaba (qv av36 6 rfl) zaae) zaae (nomark _))))) (zaah (zaap (i:=7) nd rfl (av36.l 7 rfl) (zaaq zaba (zaaq zabc (qv av36 6 rfl) zaae) (zaax zaau (gl36.g 2 rfl) z_len PySem.boot_len (zaaa (qv av36 4 rfl) zaac zaad) zabl zabm))) (zaah (zadd (zaar zaal (zaa2 (zaaa zaae (zaaa zaae (zaaa (zaar zaal (qv av36 4 rfl) zaae (fun _ _=>rfl)) (zaaa (zaar zabx (zaar zaal (qv av36 2 rfl) zaae (fun _ _=>rfl)) zaae (fun _ _=>rfl)) (zaaa zaae zaac zaab) zaaz) zaaz) zaab) zaab)) (zaaq zaba (zaaq zabc (qv av36 6 rfl) zaae) zaae) (fun _ _=>rfl)) (zagj (qv av36 4 rfl) (qv av36 7 rfl) zae2)) (zaaj (zaa1 (zab3 (zacl (zaak zaj5 (zaax zaau (gl36.g 2 rfl) z_len PySem.boot_len (zaaa (qv av36 4 rfl) zaac zaad) zabl zabm) zaae (nomark _)) (zacd (zaak zaa3 (zaaq zaba (zaaq zabc (qv av36 6 rfl) zaae) zaae) zaae (nomark _))))) (zaaj (zadd (zaar zaal (zaa2 (zaaa zaae (zaaa zaae (zaaa zaae (zaaa (zaar zaal (qv av36 4 rfl) (qv av36 7 rfl) (fun _ _=>rfl)) zaac zaaz) zaab) zaab) zaab)) (zaaq zaba (zaaq zabc (qv av36 6 rfl) zaae) zaae) (fun _ _=>rfl)) (zagj (qv av36 4 rfl) (zaaq zak2 zaae (zaaq zaba (qv av36 7 rfl) zaae)) zae2))) zaao)))) zaao) (zaaj (zaam (qv av36 4 rfl)))))))),?_⟩
 (try dsimp only [cxOf])
 have hal:=zaoo hwd
 have hdg:=zaon hwd
 walk_at "rd"
 rename_i sl hsl dp hdp
 refine ⟨(rfl:_=List.map (fun kv=>(kV kv.1,kv.2)) DD),by decide,?_⟩
 have cS:=Ch.new (W:=[]) hsl (.lst [])
 have cD:Ch [] (upd H sl (.lst [])) (upd (upd (upd H sl (.lst [])) dp (.dK [])) dp (.dK (mergeK [] DD))):=Ch.own hdp (Ch.new hdp (.dK []))
 have l0:FL H (upd (upd (upd H sl (.lst [])) dp (.dK [])) dp (.dK (mergeK [] DD))) b sl c 0 [] 0:=⟨(CT.zero hb).same (cS.trans cD),hsl,(zaa0 hb hsl).symm,cD.get zaag (by simp),rfl,.nil⟩
 refine ⟨dp,rfl,Or.inl ⟨_,Or.inl zaag⟩,_,rfl,_,DGet.k (k:=Sum.inr wd) zaag,?_⟩
 rw [hdg]
 generalize upd (upd (upd H sl (HO.lst [])) dp (HO.dK [])) dp (HO.dK (mergeK [] DD))=H1 at l0 ⊢
 walk_at "rd"
 refine zadl (fun j σ H'=>∃ fs u,σ=[some (.ref a),some (.ref b),some (.ref gl),some (.str wd),some (.ref sl),u,none,none]∧FL H H' b sl c (j:Int) fs j) ⟨[],_,rfl,l0⟩ ?_ ?_
 ·rintro j σ H' hj ⟨fs,u,rfl,l⟩
  have hj2:j < arW wd:=by simpa using hj
  obtain ⟨c',hb1,hc1,hc2⟩:=l.ct.at_
  have hS1:Scr K H' a ns:=hS.ch hb l.ct.ch
  have hs1:=l.sl
  have nsb:=l.nb
  walk_at "rd"
  rename_i z H2 hz0 hz1 c2 hb2
  obtain ⟨q1,hq1,hq2⟩:∃ q1:Nat,z % 7=(q1:Int)∧q1 < 7:=⟨(z % 7).toNat,by omega,by omega⟩
  have l2:=l.bump hb1 c2 hb2
  refine ⟨by rw [sizeLine_eq,List.length_map,l2.le]; omega,?_⟩
  exact ⟨fs++[q1],_,rfl,l2.push hq1 hq2⟩
 ·rintro σ H' ⟨fs,u,rfl,l⟩
  have l:=(show FL H H' b sl c 3 fs (arW wd) from ⟨l.ct.wk (by simp; omega),l.fr,l.nb,l.sl,by simpa using l.le,l.lt⟩)
  obtain ⟨c',hb1,hc1,hc2⟩:=l.ct.at_
  have hS1:Scr K H' a ns:=hS.ch hb l.ct.ch
  walk_at "rd"
  rename_i m H2 m0 m1 c2 hb2
  have l2:=l.bump hb1 c2 hb2
  refine zaa5 (fun σ H3=>∃ fs2 u7,σ=[some (.ref a),some (.ref b),some (.ref gl),some (.str wd),some (.ref sl),u,some (.int m),u7]∧FL H H3 b sl c 4 fs2 (arW wd)) ?_ ?_
  ·have hs2:=l2.sl
   walk_at "rd"
   rename_i e1 h1'
   have l3:=l2.same (Ch.new h1' (.lst []))
   refine ite2 (fun ez=>?_) (fun ez=>?_)
   ·have hne:fs≠[]:=fun z=>by rw [z] at ez; simp at ez
    have hlp:0 < fs.length:=List.length_pos_iff.mpr hne
    walk_at "rd"
    refine ite2 (fun ey=>?_) (fun ey=>?_)
    ·obtain ⟨pl,epl,lpl⟩:∃ pl:Nat,m / 2 % ((fs.map nV).length:Int)=(pl:Int)∧pl < fs.length:=by
      rw [List.length_map]
      have h1:0≤m / 2 % (fs.length:Int):=Int.emod_nonneg _ (by omega)
      have h2:m / 2 % (fs.length:Int) < (fs.length:Int):=Int.emod_lt_of_pos _ (by omega)
      exact ⟨(m / 2 % (fs.length:Int)).toNat,by omega,by omega⟩
     have hs3:=l3.sl
     obtain ⟨f0,lf0,ef0⟩:=l.lt.at hlp
     have hgl3:=l3.ct.ch.get hgl (by simpa using ngb)
     obtain ⟨p5,ep5,hp5⟩:=(gg.tu (Tu.lst l3.ct.ch hb)).at_ 5 (.not x) rfl
     have at5:=zach ep5
     have at5:atI xs 5=some (.ref p5):=at5
     have hp5:_=some (HO.tup [.str "not",.int (x:Int)]):=hp5
     walk_at "rd"
     refine Atx.of (show atI (fs.map nV) 0=some (.int (f0:Int)) from zahj (j:=0) ef0) ?_
     walk_at "rd"
     rename_i e2 h2'
     obtain ⟨v1,lv1,ev1⟩:=pick5 (d:=x) lf0 (show x < 7 by omega) (show 0≤m / 6 % 5 by omega) (show m / 6 % 5 < 5 by omega)
     refine Atx.of ev1 ?_
     have l4:=l3.same (Ch.new h2' (.lst [.int 3,.int 4,.int (f0:Int),.int (x:Int),.int 5]))
     have hs4:=l4.sl
     have ij:ixN (fs.map nV).length (m / 2 % ((fs.map nV).length:Int))=some pl:=by rw [epl]; exact zaju (by rw [List.length_map]; exact lpl)
     have em:(fs.map nV).set pl (.int (v1:Int))=(fs.set pl v1).map nV:=by rw [List.map_set]; rfl
     have l5:FL H (upd (upd (upd H2 e1 (.lst [])) e2 (.lst [.int 3,.int 4,.int (f0:Int),.int (x:Int),.int 5])) sl (.lst ((fs.map nV).set pl (.int (v1:Int))))) b sl c 4 (fs.set pl v1) (arW wd):=l4.set (j:=pl) lv1
     walk_at "rd"
     obtain ⟨H5,e5⟩:∃ H5,H5=upd (upd (upd H2 e1 (.lst [])) e2 (.lst [.int 3,.int 4,.int (f0:Int),.int (x:Int),.int 5])) sl (.lst ((fs.map nV).set pl (.int (v1:Int)))):=⟨_,rfl⟩
     rw [← e5] at l5 ⊢
     have lfs:(fs.set pl v1).length=fs.length:=List.length_set
     refine ite2 (fun ew=>?_) (fun ew=>?_)
     ·have ew:1 < fs.length:=by
       have:=of_decide_eq_true ew
       rw [List.length_set,List.length_map] at this
       omega
      walk_at "rd"
      refine ite2 (fun ev=>?_) (fun ev=>?_)
      ·obtain ⟨f2,lf2,ef2⟩:=l5.lt.at (j:=pl) (by rw [lfs]; exact lpl)
       have hs5:=l5.sl
       walk_at "rd"
       refine Atx.of (show atI ((fs.set pl v1).map nV) (m / 2 % ((fs.map nV).length:Int))=some (.int (f2:Int)) from by rw [epl]; exact zahj ef2) ?_
       walk_at "rd"
       rename_i e6 h6
       obtain ⟨v2,lv2,ev2⟩:=pick4 lf2 (show 0≤m / 90 % 4 by omega) (show m / 90 % 4 < 4 by omega)
       refine Atx.of ev2 ?_
       have l6:=l5.same (Ch.new h6 (.lst [.int 3,.int 4,.int 5,.int (f2:Int)]))
       have hs6:=l6.sl
       obtain ⟨j2,ej2,lj2⟩:∃ j2:Nat,1 - m / 2 % ((fs.map nV).length:Int) % 2=(j2:Int)∧j2 < 2:=⟨(1 - m / 2 % ((fs.map nV).length:Int) % 2).toNat,by omega,by omega⟩
       have ij2:ixN ((fs.set pl v1).map nV).length (1 - m / 2 % ((fs.map nV).length:Int) % 2)=some j2:=by rw [ej2]; exact zaju (by rw [List.length_map,lfs]; omega)
       have l7:=l6.set (j:=j2) lv2
       walk_at "rd"
       exact l7
      ·exact ⟨_,_,rfl,l5⟩
     ·refine iteF ?_
      exact ⟨_,_,rfl,l5⟩
    ·exact ⟨fs,_,rfl,l3⟩
   ·refine iteF ?_
    exact ⟨fs,_,rfl,l3⟩
  ·rintro σ H3 ⟨fs2,u7,rfl,l3⟩
   obtain ⟨g,g1,g2,g3,_⟩:=zamq hwd l3.le l3.lt
   rw [← g2] at l3
   walk_at "rd"
   exact q _ _ _ l3 g1 g3
theorem av37:AF (defScope (top 37)) ["_law_script", "_law_at", "_law_word", "_law_some_here", "_law_m", "_law_gate"]:=⟨by decide +kernel⟩
theorem gl37:AG (defScope (top 37)) ["_law_next", "tuple", "len"]:=⟨by decide +kernel⟩
def spBeh (K:PySem.W.Frag):Sp:=fun vs H Q _=>∃ (a b sl:Addr) (ns:List Int) (c:Int) (g:Gt),vs=[.ref a,.ref b,.str g.wd,.ref sl]∧Scr K H a ns∧H b=some (.lst [.int c])∧0≤c∧c < 2 ^ 58∧sl≠b∧H sl=some (.lst (g.feeds.map nV))∧Below g.feeds 7∧g.src=false ∧
 ∀ (p:Addr) (h:Gt) (H':Hp),CT H H' b c 1→H' p=some (.tup h.vs)→h.src=false→(∀ x∈h.feeds,x < 7)→Q (.ref p) H'
theorem scBeh:FnScope ["_law_script", "_law_at", "_law_word", "_law_some_here", "_law_m", "_law_gate"] ["_law_script", "_law_at", "_law_word", "_law_some_here"] (defScope (top 37)):=⟨rfl,rfl,rfl,by decide +kernel,rfl,by decide +kernel,by decide +kernel⟩
theorem zaoq (F:Fun K "_law_behind" "_law_behind" (top 37) f fd) (D_law_next:DefOk P w K mg base CX0 k "_law_next" ["_law_script", "_law_at"] (spNext K)) (z_tuple:mg "tuple" = none) (z_len:mg "len" = none):FnOk P w K mg base CX0 (k + 1) f fd ["_law_script", "_law_at", "_law_word", "_law_some_here"] (spBeh K):=by
 have nd:=scBeh.nd
 refine F.ok scBeh (fun vs H Q E h=>by obtain ⟨a,b,sl,ns,c,g,rfl,_⟩:=h; rfl) (fun cdv A outer s0 H vs Q E hr h=>?_)
 obtain ⟨a,b,sl,ns,c,g,rfl,hS,hb,h0,h1,nsb,hsl,bel,sr,q⟩:=h
 refine ⟨_,(Pr.h (zaah (zaap (i:=4) nd rfl (av37.l 4 rfl) (zaai D_law_next hr (gl37.g 0 rfl) pass0 (zaaa (qv av37 0 rfl) (zaaa (qv av37 1 rfl) zaac zaad) zaad) zaa7)) (zaat (zaap (i:=5) nd rfl (av37.l 5 rfl) (zabh zabf (gl37.g 1 rfl) z_tuple zabz (zaaa (zaaq zac1 (zaa2 (zaaa (qv av37 2 rfl) zaac zaad)) (qv av37 3 rfl)) zaac zaa9) zab0 zab1)) (zaat (zaa1 (zab3 (zacl (zaak zaa3 (zaaq zaba (qv av37 4 rfl) zaae) zaae (nomark _)) (zacd (zaak zaa3 (zaax zaau (gl37.g 2 rfl) z_len PySem.boot_len (zaaa (qv av37 3 rfl) zaac zaad) zabl zabm) zaae (nomark _))))) (zaaj (zaap (i:=5) nd rfl (av37.l 5 rfl) (zaaw (zaaa (qv av37 2 rfl) (zaaa (zaar zaal (qv av37 3 rfl) zaae (fun _ _=>rfl)) (zaaa (zaar zaal (qv av37 3 rfl) zaae (fun _ _=>rfl)) zaac zaaz) zaaz) zaad)))) zaao) (zaat (zaa1 (zaak zaa3 (zaaq zaba (qv av37 4 rfl) zaae) zaae (nomark _)) (zaat (zaap (i:=5) nd rfl (av37.l 5 rfl) (zaaw (zaaa zaaf (zaaa (zaar zaal (zaaq zac1 (qv av37 3 rfl) (zaa2 (zaaa (zaaq zaba (zaaq zabc (qv av37 4 rfl) zaae) zaae) zaac zaa9))) zaae (fun _ _=>rfl)) zaac zaaz) zaab))) (zaaj (zaa1 (zab3 (zacl (zaak zaj5 (zaax zaau (gl37.g 2 rfl) z_len PySem.boot_len (zaaa (qv av37 3 rfl) zaac zaad) zabl zabm) zaae (nomark _)) (zacd (zaak zaa3 (zaaq zaba (zaaq zabc (qv av37 4 rfl) zaae) zaae) zaae (nomark _))))) (zaaj (zaap (i:=5) nd rfl (av37.l 5 rfl) (zaaw (zaaa zaaf (zaaa (zaar zaal (qv av37 3 rfl) zaae (fun _ _=>rfl)) zaac zaaz) zaab)))) zaao))) zaao) (zaat (zaa1 (zaak zaa3 (zaaq zaba (qv av37 4 rfl) zaae) zaae (nomark _)) (zaaj (zaap (i:=5) nd rfl (av37.l 5 rfl) (zaar zaal (zaa2 (zaaa (zaaw (zaaa zaaf (zaaa zaae (zaaa zaae zaac zaab) zaab) zaab)) (zaaa (zaaw (zaaa zaaf (zaaa zaae (zaaa zaae zaac zaab) zaab) zaab)) (zaaa (zaaw (zaaa zaaf (zaaa zaae (zaaa zaae zaac zaab) zaab) zaab)) (zaaa (zaaw (zaaa zaaf (zaaa zaae (zaaa zaae (zaaa zaae zaac zaab) zaab) zaab) zaab)) (zaaa (zaaw (zaaa zaaf zaac zaab)) (zaaa (zaaw (zaaa zaaf zaac zaab)) zaac zaa4) zaa4) zaa4) zaa4) zaa4) zaa4)) (zaaq zaba (zaaq zabc (qv av37 4 rfl) zaae) zaae) (fun _ _=>rfl)))) zaao) (zaaj (zaam (qv av37 5 rfl))))))))),?_⟩
 (try dsimp only [cxOf])
 have evs:[V.str g.wd]++g.feeds.map nV=g.vs:=by cases g <;> first | rfl | (cases sr)
 walk_at "rd"
 rename_i m H1 m0 m1 c1 hb1
 have ct1:=(CT.zero hb).bump hb c1 hb1
 have hs1:=c1.get hsl (by simpa using nsb)
 refine zaa5 (fun σ H2=>∃ p,σ=[some (.ref a),some (.ref b),some (.str g.wd),some (.ref sl),some (.int m),some (.ref p)]∧Ch [] H1 H2∧BG H2 p) ?_ ?_
 ·walk_at "rd"
  rename_i e1 h1'
  refine ⟨by rw [sizeLine_eq]; have:=zab5 g; simp; omega,?_⟩
  rw [evs]
  walk_at "rd"
  rename_i e2 h2' e3 h3'
  exact ⟨g,zaag,sr,bel⟩
 rintro σ H2 ⟨p,rfl,c2,bg⟩
 refine zaa5 (fun σ H2=>∃ p,σ=[some (.ref a),some (.ref b),some (.str g.wd),some (.ref sl),some (.int m),some (.ref p)]∧Ch [] H1 H2∧BG H2 p) ?_ ?_
 ·have hs2:=c2.get hs1 (by simp)
  walk_at "rd"
  refine ite2 (fun ez=>?_) (fun ez=>?_)
  ·walk_at "rd"
   refine ite2 (fun ey=>?_) (fun ey=>?_)
   ·have hl:g.feeds.length=2:=by
     have:=of_decide_eq_true ey
     injection this with this
     rw [List.length_map] at this
     omega
    obtain ⟨x,y,t,ef,lx,ly,et,st,bt⟩:=zamr hl sr bel
    have hs3:H2 sl=some (.lst [.int (x:Int),.int (y:Int)]):=by rw [hs2,ef]; rfl
    walk_at "rd"
    rename_i e1 h1'
    exact ⟨t,by rw [zaag,et],st,bt⟩
   ·exact ⟨p,rfl,c2,bg⟩
  ·refine iteF ?_
   exact ⟨p,rfl,c2,bg⟩
 clear c2 bg
 rintro σ H2 ⟨p,rfl,c2,bg⟩
 refine zaa5 (fun σ H2=>∃ p,σ=[some (.ref a),some (.ref b),some (.str g.wd),some (.ref sl),some (.int m),some (.ref p)]∧Ch [] H1 H2∧BG H2 p) ?_ ?_
 ·have hs2:=c2.get hs1 (by simp)
  walk_at "rd"
  refine ite2 (fun ez=>?_) (fun ez=>?_)
  ·walk_at "rd"
   refine zaa5 (fun σ H2=>∃ p,σ=[some (.ref a),some (.ref b),some (.str g.wd),some (.ref sl),some (.int m),some (.ref p)]∧Ch [] H1 H2∧BG H2 p) ?_ ?_
   ·obtain ⟨x,lx,ex⟩:=head7 bel (i:=m / 4 % 7) (by omega) (by omega)
    have lf:=zab5 g
    walk_at "rd"
    exact BG.not zaag rfl lx
   clear c2 bg hs2
   rintro σ H2 ⟨p,rfl,c2,bg⟩
   have hs2:=c2.get hs1 (by simp)
   walk_at "rd"
   refine ite2 (fun ew=>?_) (fun ew=>?_)
   ·have ew:1 < g.feeds.length:=by
     have:=of_decide_eq_true ew
     rw [List.length_map] at this
     omega
    obtain ⟨x,lx,ex⟩:=bel.at ew
    walk_at "rd"
    refine ite2 (fun ev=>?_) (fun ev=>?_)
    ·walk_at "rd"
     refine Atx.of (show atI (g.feeds.map nV) 1=some (.int (x:Int)) from zahj (j:=1) ex) ?_
     walk_at "rd"
     exact BG.not zaag rfl lx
    ·exact ⟨p,rfl,c2,bg⟩
   ·refine iteF ?_
    exact ⟨p,rfl,c2,bg⟩
  ·exact ⟨p,rfl,c2,bg⟩
 clear c2 bg
 rintro σ H2 ⟨p,rfl,c2,bg⟩
 refine zaa5 (fun σ H2=>∃ p,σ=[some (.ref a),some (.ref b),some (.str g.wd),some (.ref sl),some (.int m),some (.ref p)]∧Ch [] H1 H2∧BG H2 p) ?_ ?_
 ·walk_at "rd"
  refine ite2 (fun ez=>?_) (fun ez=>?_)
  ·walk_at "rd"
   rename_i e1 h1 e2 h2 e3 h3 e4 h4 e5 h5 e6 h6 e7 h7
   have e:m / 8 % 6=0∨m / 8 % 6=1∨m / 8 % 6=2∨m / 8 % 6=3∨m / 8 % 6=4∨m / 8 % 6=5:=by omega
   have cc:=c2.trans (((((((Ch.new (W:=[]) h1 (.tup [.str "and",.int 0,.int 1])).trans (Ch.new h2 (.tup [.str "or",.int 1,.int 0]))).trans (Ch.new h3 (.tup [.str "xor",.int 5,.int 6]))).trans (Ch.new h4 (.tup [.str "pick",.int 0,.int 1,.int 2]))).trans (Ch.new h5 (.tup [.str "zero"]))).trans (Ch.new h6 (.tup [.str "one"]))).trans (Ch.new h7 (.lst [.ref e1,.ref e2,.ref e3,.ref e4,.ref e5,.ref e6])))
   have bl:∀ {l:List Nat},(l.all fun a=>decide (a < 7))=true→Below l 7:=fun {l} h=>⟨fun a ha=>by simpa using List.all_eq_true.mp h a ha⟩
   rcases e with e | e | e | e | e | e <;> rw [e]
   ·exact Atx.of rfl ⟨_,rfl,cc,.and 0 1,zaas h7 (zaas h6 (zaas h5 (zaas h4 (zaas h3 (zaas h2 zaag))))),rfl,bl rfl⟩
   ·exact Atx.of rfl ⟨_,rfl,cc,.or 1 0,zaas h7 (zaas h6 (zaas h5 (zaas h4 (zaas h3 zaag)))),rfl,bl rfl⟩
   ·exact Atx.of rfl ⟨_,rfl,cc,.xor 5 6,zaas h7 (zaas h6 (zaas h5 (zaas h4 zaag))),rfl,bl rfl⟩
   ·exact Atx.of rfl ⟨_,rfl,cc,.pick 0 1 2,zaas h7 (zaas h6 (zaas h5 zaag)),rfl,bl rfl⟩
   ·exact Atx.of rfl ⟨_,rfl,cc,.zero,zaas h7 (zaas h6 zaag),rfl,bl rfl⟩
   ·exact Atx.of rfl ⟨_,rfl,cc,.one,zaas h7 zaag,rfl,bl rfl⟩
  ·exact ⟨p,rfl,c2,bg⟩
 clear c2 bg
 rintro σ H2 ⟨p,rfl,c2,bg⟩
 obtain ⟨h,hp,hs,hf⟩:=bg.ex
 walk_at "rd"
 exact q p h _ ((ct1.same c2).wk (by omega)) hp hs hf.of
theorem av38:AF (defScope (top 38)) ["_law_script", "_law_at", "_law_some_here", "_law_m"]:=⟨by decide +kernel⟩
theorem gl38:AG (defScope (top 38)) ["_law_next", "len"]:=⟨by decide +kernel⟩
def spNum (K:PySem.W.Frag):Sp:=fun vs H Q _=>∃ (a b sl:Addr) (ns:List Int) (c:Int) (fs:List Nat),vs=[.ref a,.ref b,.ref sl]∧Scr K H a ns∧H b=some (.lst [.int c])∧0≤c∧c < 2 ^ 58∧sl≠b∧H sl=some (.lst (fs.map nV))∧Below fs 7 ∧
 ∀ (n:Nat) (H':Hp),CT H H' b c 1→n < 8→Q (.int (n:Int)) H'
theorem scNum:FnScope ["_law_script", "_law_at", "_law_some_here", "_law_m"] ["_law_script", "_law_at", "_law_some_here"] (defScope (top 38)):=⟨rfl,rfl,rfl,by decide +kernel,rfl,by decide +kernel,by decide +kernel⟩
theorem zaor (F:Fun K "_law_number" "_law_number" (top 38) f fd) (D_law_next:DefOk P w K mg base CX0 k "_law_next" ["_law_script", "_law_at"] (spNext K)) (z_len:mg "len" = none):FnOk P w K mg base CX0 (k + 1) f fd ["_law_script", "_law_at", "_law_some_here"] (spNum K):=by
 have nd:=scNum.nd
 refine F.ok scNum (fun vs H Q E h=>by obtain ⟨a,b,sl,ns,c,fs,rfl,_⟩:=h; rfl) (fun cdv A outer s0 H vs Q E hr h=>?_)
 obtain ⟨a,b,sl,ns,c,fs,rfl,hS,hb,h0,h1,nsb,hsl,bel,q⟩:=h
 refine ⟨_,(Pr.h (zaah (zaap (i:=3) nd rfl (av38.l 3 rfl) (zaai D_law_next hr (gl38.g 0 rfl) pass0 (zaaa (qv av38 0 rfl) (zaaa (qv av38 1 rfl) zaac zaad) zaad) zaa7)) (zaah (zaa1 (zaak zaa3 (zaaq zaba (qv av38 3 rfl) zaae) zaae (nomark _)) (zaaj (zaam zaae)) zaao) (zaah (zaa1 (zab3 (zacl (zaak zaa3 (zaaq zaba (qv av38 3 rfl) zaae) zaae (nomark _)) (zacd (zaak (zak8 hr.units) (qv av38 2 rfl) (zaa2 zaac) (nomark _))))) (zaaj (zaam (zaar zaal (qv av38 2 rfl) (zaaq zaba (zaaq zabc (qv av38 3 rfl) zaae) (zaax zaau (gl38.g 1 rfl) z_len PySem.boot_len (zaaa (qv av38 2 rfl) zaac zaad) zabl zabm)) (fun _ _=>rfl)))) zaao) (zaaj (zaam (zaar zaal (zaa2 (zaaa zaae (zaaa zaae (zaaa zaae (zaaa zaae (zaaa zaae (zaaa zaae (zaaa zaae zaac zaab) zaab) zaab) zaab) zaab) zaab) zaab)) (zaaq zaba (zaaq zabc (qv av38 3 rfl) zaae) zaae) (fun _ _=>rfl)))))))),?_⟩
 (try dsimp only [cxOf])
 walk_at "rd"
 rename_i m H1 m0 m1 c1 hb1
 have ct1:=((CT.zero hb).bump hb c1 hb1).wk (B':=1) (by omega)
 have hs1:=c1.get hsl (by simpa using nsb)
 have fin:∀ H2,Ch [] H1 H2→∃ x:Nat,x < 8∧atI [V.int 3,V.int 4,V.int 5,V.int 6,V.int 0,V.int 1,V.int 2] (m / 3 % 7)=some (V.int (x:Int)):=fun H2 c2=>by
  have e:m / 3 % 7=0∨m / 3 % 7=1∨m / 3 % 7=2∨m / 3 % 7=3∨m / 3 % 7=4∨m / 3 % 7=5∨m / 3 % 7=6:=by omega
  rcases e with e | e | e | e | e | e | e <;> rw [e]
  ·exact ⟨3,by omega,rfl⟩
  ·exact ⟨4,by omega,rfl⟩
  ·exact ⟨5,by omega,rfl⟩
  ·exact ⟨6,by omega,rfl⟩
  ·exact ⟨0,by omega,rfl⟩
  ·exact ⟨1,by omega,rfl⟩
  ·exact ⟨2,by omega,rfl⟩
 obtain ⟨xn,lxn,exn⟩:=fin H1 (Ch.refl _ _)
 refine ite2 (fun ez=>?_) (fun ez=>?_)
 ·walk_at "rd"
  exact q 7 _ ct1 (by omega)
 walk_at "rd"
 refine ite2 (fun ey=>?_) (fun ey=>?_)
 ·walk_at "rd"
  rename_i e1 h1'
  refine ite2 (fun ew=>?_) (fun ew=>?_)
  ·have hne:fs≠[]:=fun z=>by rw [z] at ew; simp at ew
   have hlp:0 < fs.length:=List.length_pos_iff.mpr hne
   obtain ⟨pl,epl,lpl⟩:∃ pl:Nat,m / 3 % ((fs.map nV).length:Int)=(pl:Int)∧pl < fs.length:=by
    rw [List.length_map]
    have h1:0≤m / 3 % (fs.length:Int):=Int.emod_nonneg _ (by omega)
    have h2:m / 3 % (fs.length:Int) < (fs.length:Int):=Int.emod_lt_of_pos _ (by omega)
    exact ⟨(m / 3 % (fs.length:Int)).toNat,by omega,by omega⟩
   obtain ⟨x,lx,ex⟩:=bel.at lpl
   walk_at "rd"
   refine Atx.of (show atI (fs.map nV) (m / 3 % ((fs.map nV).length:Int))=some (.int (x:Int)) from by rw [epl]; exact zahj ex) ?_
   walk_at "rd"
   exact q x _ (ct1.same (Ch.new h1' _)) (by omega)
  ·walk_at "rd"
   rename_i e2 h2'
   exact q xn _ ((ct1.same (Ch.new h1' _)).same (Ch.new h2' _)) lxn
 ·walk_at "rd"
  rename_i e2 h2'
  exact q xn _ (ct1.same (Ch.new h2' _)) lxn
end
end

section
local macro_rules | `(tactic| walk_at "sqx")=>`(tactic| first
 | with_reducible assumption
 | (apply SqX.ch; (focus with_reducible assumption); (focus walk_at "ch")))
local macro_rules | `(tactic| walk_at "user")=>`(tactic| first
 | (apply SqX.or; (focus walk_at "sqx"))
 | (focus walk_at "sqx"))
theorem PrK.nil (H:Hp):PrK H [] []:=⟨rfl,fun i p e=>by simp at e⟩
theorem GsK.nil (H:Hp):GsK H [] []:=⟨rfl,fun i p e=>by simp at e⟩
theorem GsK.push {H:Hp}{gs:List Gt}{xs:List V}{p:Addr}{g:Gt}{kd:SK} (h:GsK H gs xs) (hp:SqX kd H p g.vs):GsK H (gs++[g]) (xs++[.ref p]):=by
 refine ⟨by simp [h.len],fun i x e=>?_⟩
 rcases zaea e with ⟨hi,e⟩ | ⟨rfl,rfl⟩
 ·obtain ⟨a',kd',h1,h2⟩:=h.at_ i x e
  exact ⟨a',kd',by rw [List.getElem?_append_left (by rw [h.len]; exact hi)]; exact h1,h2⟩
 ·exact ⟨p,kd,by rw [← h.len]; simp,hp⟩
section
variable {P:Program}{w:World}{K:PySem.W.Frag}{mg:Str→Option Value}{base:Heap}{f:Addr}{fd:FuncData}{k:Nat}
theorem zacw:Nd "_law_as" := by decide +kernel
theorem av39:AF (defScope (top 39)) ["_law_thing", "_law_m"]:=⟨by decide +kernel⟩
theorem gl39:AG (defScope (top 39)) ["list", "tuple"]:=⟨by decide +kernel⟩
def spAs:Sp:=fun vs H Q _=>∃ (a:Addr) (kd:SK) (xs:List V) (m:Int),vs=[.ref a,.int m]∧SqX kd H a xs∧0≤m∧xs.length≤100∧∀ (r:Addr) (kr:SK) (H':Hp),Ch [] H H'→SqX kr H' r xs→Q (.ref r) H'
theorem scAs:FnScope ["_law_thing", "_law_m"] ["_law_thing", "_law_m"] (defScope (top 39)):=⟨rfl,rfl,rfl,by decide +kernel,rfl,by decide +kernel,by decide +kernel⟩
theorem zapp (F:Fun K "_law_as" "_law_as" (top 39) f fd) (z_list:mg "list" = none) (z_tuple:mg "tuple" = none):FnOk P w K mg base CX0 (k + 1) f fd ["_law_thing", "_law_m"] spAs:=by
 have nd:=scAs.nd
 refine F.ok scAs (fun vs H Q E h=>by obtain ⟨a,kd,xs,m,rfl,_⟩:=h; rfl) (fun cdv A outer s0 H vs Q E hr h=>?_)
 obtain ⟨a,kd,xs,m,rfl,hx,m0,lx,q⟩:=h
 refine ⟨_,(Pr.h (zaah (zaa1 (zaak zaa3 (zaaq zaba (qv av39 1 rfl) zaae) zaae (nomark _)) (zaaj (zaam (zabh zacn (gl39.g 0 rfl) z_list zaek (zaaa (qv av39 0 rfl) zaac zaad) zael zaem))) zaao) (zaah (zaa1 (zaak zaa3 (zaaq zaba (qv av39 1 rfl) zaae) zaae (nomark _)) (zaaj (zaam (zabh zabf (gl39.g 1 rfl) z_tuple zabz (zaaa (qv av39 0 rfl) zaac zaad) zab0 zab1))) zaao) (zaaj (zaam (zaar zaal (zaa2 (zaaa (zabh zacn (gl39.g 0 rfl) z_list zaek (zaaa (qv av39 0 rfl) zaac zaad) zael zaem) (zaaa (zabh zabf (gl39.g 1 rfl) z_tuple zabz (zaaa (qv av39 0 rfl) zaac zaad) zab0 zab1) zaac zab8) zab8)) (zaaq zaba (zaaq zabc (qv av39 1 rfl) zaae) zaae) (fun _ _=>rfl))))))),?_⟩
 (try dsimp only [cxOf])
 have e2:m / 3 % 2=0∨m / 3 % 2=1:=by omega
 cases kd with
 | list =>
  have hx0:H a=some (.lst xs):=hx
  walk_at "rd"
  refine ite2 (fun ez=>?_) (fun ez=>?_)
  ·walk_at "rd"
   rename_i l hl
   exact q l .list _ (Ch.new hl _) zaag
  walk_at "rd"
  refine ite2 (fun ez=>?_) (fun ez=>?_)
  ·walk_at "rd"
   rename_i l hl
   exact q l .tuple _ (Ch.new hl _) zaag
  walk_at "rd"
  rename_i l1 h1 l2 h2 l3 h3
  have cc:=((Ch.new (W:=[]) h1 (.lst xs)).trans (Ch.new h2 (.tup xs))).trans (Ch.new h3 (.lst [.ref l1,.ref l2]))
  rcases e2 with e2 | e2
  ·rw [e2]
   exact Atx.of rfl (q l1 .list _ cc (zaas h3 (zaas h2 zaag)))
  ·rw [e2]
   exact Atx.of rfl (q l2 .tuple _ cc (zaas h3 zaag))
 | tuple =>
  have hx0:H a=some (.tup xs):=hx
  walk_at "rd"
  refine ite2 (fun ez=>?_) (fun ez=>?_)
  ·walk_at "rd"
   rename_i l hl
   exact q l .list _ (Ch.new hl _) zaag
  walk_at "rd"
  refine ite2 (fun ez=>?_) (fun ez=>?_)
  ·walk_at "rd"
   exact q a .tuple _ (Ch.refl _ _) hx
  walk_at "rd"
  rename_i l1 h1 l3 h3
  have cc:=(Ch.new (W:=[]) h1 (.lst xs)).trans (Ch.new h3 (.lst [.ref l1,.ref a]))
  rcases e2 with e2 | e2
  ·rw [e2]
   exact Atx.of rfl (q l1 .list _ cc (zaas h3 zaag))
  ·rw [e2]
   exact Atx.of rfl (q a .tuple _ cc (cc.get hx0 (by simp)))
theorem av40:AF (defScope (top 40)) ["_law_lost", "_law_pairs", "_law_m", "_law_told"]:=⟨by decide +kernel⟩
theorem gl40:AG (defScope (top 40)) ["enumerate", "_law_as"]:=⟨by decide +kernel⟩
def zafh:Scope:={ kind:=PySem.ScopeKind.function,names:=[ (PySem.Str.ofString ".0",PySem.NameKind.local),(PySem.Str.ofString "_law_k",PySem.NameKind.local),(PySem.Str.ofString "_law_pair",PySem.NameKind.local),(PySem.Str.ofString "_law_as",PySem.NameKind.globalImplicit),(PySem.Str.ofString "_law_m",PySem.NameKind.free)],isGenerator:=false,isCoroutine:=false,more:=[]:PySem.Scope }
theorem zag1:CompOk zafh (defScope (top 40)) (["_law_k", "_law_pair"]:List Str) (["_law_lost", "_law_pairs", "_law_m", "_law_told"]:List Str) [2] (["_law_k", "_law_pair", "_law_m"]:List Str):=compOk rfl (by decide +kernel) (by decide +kernel) (by decide +kernel) (by decide +kernel) rfl (by decide +kernel)
theorem zafi:AK (relab zafh (defScope (top 40))) ["_law_k", "_law_pair"]:=⟨by decide +kernel⟩
theorem zamt:AG (relab zafh (defScope (top 40))) ["_law_as"]:=⟨by decide +kernel⟩
theorem zag2:AV (relab zafh (defScope (top 40))) ["_law_k", "_law_pair", "_law_m"]:=⟨by decide +kernel⟩
def zafj:Scope:={ kind:=PySem.ScopeKind.function,names:=[ (PySem.Str.ofString ".0",PySem.NameKind.local),(PySem.Str.ofString "_law_gate",PySem.NameKind.local),(PySem.Str.ofString "_law_as",PySem.NameKind.globalImplicit),(PySem.Str.ofString "_law_m",PySem.NameKind.free)],isGenerator:=false,isCoroutine:=false,more:=[]:PySem.Scope }
theorem zajv:CompOk zafj (defScope (top 40)) (["_law_gate"]:List Str) (["_law_lost", "_law_pairs", "_law_m", "_law_told"]:List Str) [2] (["_law_gate", "_law_m"]:List Str):=compOk rfl (by decide +kernel) (by decide +kernel) (by decide +kernel) (by decide +kernel) rfl (by decide +kernel)
theorem zajw:AK (relab zafj (defScope (top 40))) ["_law_gate"]:=⟨by decide +kernel⟩
theorem zamu:AG (relab zafj (defScope (top 40))) ["_law_as"]:=⟨by decide +kernel⟩
theorem zajx:AV (relab zafj (defScope (top 40))) ["_law_gate", "_law_m"]:=⟨by decide +kernel⟩
def spPap:Sp:=fun vs H Q _=>∃ (l p:Addr) (lo:List Gt) (zs:List V) (prs:List (Nat × Str)) (qs:List V) (m:Int),vs=[.ref l,.ref p,.int m]∧H l=some (.lst zs)∧Gs H lo zs∧H p=some (.lst qs)∧PrK H prs qs∧0≤m∧lo.length≤1∧prs.length≤8 ∧
 ∀ (pp ll ql:Addr) (k1 k2 k3:SK) (zs' qs':List V) (H':Hp),Ch [] H H'→SqX k1 H' pp [.ref ll,.ref ql]→SqX k2 H' ll zs'→GsK H' lo zs'→SqX k3 H' ql qs'→PrK H' prs qs'→Q (.ref pp) H'
theorem scPap:FnScope ["_law_lost", "_law_pairs", "_law_m", "_law_told"] ["_law_lost", "_law_pairs", "_law_m"] (defScope (top 40)):=⟨rfl,rfl,rfl,by decide +kernel,rfl,by decide +kernel,by decide +kernel⟩
theorem zaos (F:Fun K "_law_paper" "_law_paper" (top 40) f fd) (D_law_as:DefOk P w K mg base CX0 k "_law_as" ["_law_thing", "_law_m"] spAs) (z_enumerate:mg "enumerate" = none):FnOk P w K mg base CX0 (k + 1) f fd ["_law_lost", "_law_pairs", "_law_m"] spPap:=by
 have nd:=scPap.nd
 refine F.ok scPap (fun vs H Q E h=>by obtain ⟨l,p,lo,zs,prs,qs,m,rfl,_⟩:=h; rfl) (fun cdv A outer s0 H vs Q E hr h=>?_)
 obtain ⟨l,p,lo,zs,prs,qs,m,rfl,hl,gz,hp,pq,m0,l1,l2,q⟩:=h
 refine ⟨_,(Pr.h (zaah (zae8 (i:=3) nd rfl (av40.l 3 rfl) rfl zag1 (zae9 .list (gl40.g 0 rfl) z_enumerate (zaaa (qv av40 1 rfl) zaac zaad)) (fun _ _ _ _ _=>(zahe K 2 rfl rfl (zabb (zaa6 (i:=0) zag1.nd rfl (Or.inl (zafi.k 0 rfl)) (Or.inr (zafi.k 0 rfl))) (zabb (zaa6 (i:=1) zag1.nd rfl (Or.inl (zafi.k 1 rfl)) (Or.inr (zafi.k 1 rfl))) zace)))) (fun _ _ _ _ _=>zac8) (fun _ _ _ _ _=>(zaai D_law_as hr (zamt.g 0 rfl) pass0 (zaaa (qw zag2 1 rfl) (zaaa (zaaq zabc (qw zag2 2 rfl) (zaaq zac9 zaae (qw zag2 0 rfl))) zaac zaa9) zaad) zacw)) rfl) (zaaj (zaam (zaai D_law_as hr (gl40.g 1 rfl) pass0 (zaaa (zaa2 (zaaa (zaai D_law_as hr (gl40.g 1 rfl) pass0 (zaaa (zad6 rfl zajv (zadi (qv av40 0 rfl)) (fun _ _ _ _ _=>(zaa6 (i:=0) zajv.nd rfl (Or.inl (zajw.k 0 rfl)) (Or.inr (zajw.k 0 rfl)))) (fun _ _ _ _ _=>zac8) (fun _ _ _ _ _=>(zaai D_law_as hr (zamu.g 0 rfl) pass0 (zaaa (qw zajx 0 rfl) (zaaa (zaaq zabc (qw zajx 1 rfl) zaae) zaac zaa9) zaad) zacw))) (zaaa (zaaq zabc (qv av40 2 rfl) zaae) zaac zaa9) zadc) zacw) (zaaa (zaai D_law_as hr (gl40.g 1 rfl) pass0 (zaaa (qv av40 3 rfl) (zaaa (zaaq zabc (qv av40 2 rfl) zaae) zaac zaa9) zaad) zacw) zaac zab8) zab8)) (zaaa (zaaq zabc (qv av40 2 rfl) zaae) zaac zaa9) zack) zacw))))),?_⟩
 (try dsimp only [cxOf])
 have lq:qs.length=prs.length:=pq.len
 have lz:zs.length=lo.length:=gz.len
 walk_at "rd"
 refine zafz qs (fun j ys σ H'=>Ch [] H H'∧PrK H' (prs.take j) ys∧∃ u v,σ=[u,v,some (.int m)]) (by rw [sizeLine_eq]; omega) ⟨Ch.refl _ _,PrK.nil _,_,_,rfl⟩ ?_ ?_ ?_
 ·rintro j ys σ H' hj ⟨c,pz,_⟩
  refine ⟨by rw [pz.len,List.length_take]; omega,SqL.of (c.get hp (by simp))⟩
 ·rintro j ys σ H' x T hx ⟨c,pz,u,v,rfl⟩ hT
  have lj:j < prs.length:=by rw [← lq]; exact (List.getElem?_eq_some_iff.mp hx).1
  obtain ⟨pr,ep⟩:∃ pr,prs[j]?=some pr:=⟨_,List.getElem?_eq_getElem lj⟩
  obtain ⟨a,kp,e1,e2⟩:=pq.at_ j pr ep
  rw [hx] at e1
  cases e1
  have cT:=Ch.new (W:=[]) hT (.tup [.int (j:Int),.ref a])
  have ha:=e2.ch (c.trans cT)
  have pz1:=pz.ch cT
  have hT1:upd H' T (.tup [.int (j:Int),.ref a]) T=_:=zaag
  have c1:=c.trans cT
  obtain ⟨HT,eHT⟩:∃ HT,HT=upd H' T (.tup [.int (j:Int),.ref a]):=⟨_,rfl⟩
  rw [← eHT] at ha pz1 hT1 c1 ⊢
  have bx:Box (SqX kp HT a [nV pr.1,.str pr.2]):=⟨ha⟩
  clear ha e2
  have m1:0≤m / (7 + (j:Int)):=Int.ediv_nonneg m0 (by omega)
  walk_at "rd"
  refine ⟨bx.h,m1,by simp,fun r kr H3 c3 hr3=>?_⟩
  refine ⟨c1.trans c3,?_,_,_,rfl⟩
  rw [List.take_add_one,ep]
  exact (pz1.ch c3).push hr3
 rintro ys σ H1 ⟨c1,pz,_⟩
 rw [lq,List.take_length] at pz
 intro tl htl
 have cT:=Ch.new (W:=[]) htl (.lst ys)
 have hy:upd H1 tl (.lst ys) tl=some (.lst ys):=zaag
 have pz2:=pz.ch cT
 have c2:=c1.trans cT
 obtain ⟨H2,e2⟩:∃ H2,H2=upd H1 tl (.lst ys):=⟨_,rfl⟩
 rw [← e2] at hy pz2 c2 ⊢
 clear e2 cT pz
 have m5:0≤m / 5:=by omega
 have m11:0≤m / 11:=by omega
 have m13:0≤m / 13:=by omega
 have m17:0≤m / 17:=by omega
 have hl2:=c2.get hl (by simp)
 walk_at "rd"
 refine zadj zs (fun j ys σ H'=>Ch [] H2 H'∧GsK H' (lo.take j) ys∧∃ u,σ=[u,some (.int m)]) (by rw [sizeLine_eq]; omega) ⟨Ch.refl _ _,GsK.nil _,_,rfl⟩ ?_ ?_ ?_
 ·rintro j ys σ H' hj ⟨c,pz,_⟩
  refine ⟨by rw [pz.len,List.length_take]; omega,SqL.of (c.get hl2 (by simp))⟩
 ·rintro j ys σ H' x hx ⟨c,pz,u,rfl⟩
  have lj:j < lo.length:=by rw [← lz]; exact (List.getElem?_eq_some_iff.mp hx).1
  obtain ⟨g,eg⟩:∃ g,lo[j]?=some g:=⟨_,List.getElem?_eq_getElem lj⟩
  obtain ⟨a,e1,e3⟩:=gz.at_ j g eg
  rw [hx] at e1
  cases e1
  have ha:SqX .tuple H' a g.vs:=(c2.trans c).get e3 (by simp)
  have bx:Box (SqX .tuple H' a g.vs):=⟨ha⟩
  clear ha
  have lg:g.vs.length≤100:=by cases g <;> simp [Gt.vs]
  walk_at "rd"
  refine ⟨bx.h,m5,lg,fun r kr H3 c3 hr3=>?_⟩
  refine ⟨c.trans c3,?_,_,rfl⟩
  rw [List.take_add_one,eg]
  exact (pz.ch c3).push hr3
 rintro ws σ H3 ⟨c3,gz3,_⟩
 rw [lz,List.take_length] at gz3
 have lws:ws.length≤100:=by rw [gz3.len]; omega
 have lys:ys.length≤100:=by rw [pz2.len]; omega
 intro wl hwl
 have cT:=Ch.new (W:=[]) hwl (.lst ws)
 have hw:SqX .list (upd H3 wl (.lst ws)) wl ws:=zaag
 obtain ⟨H4,e4⟩:∃ H4,H4=upd H3 wl (.lst ws):=⟨_,rfl⟩
 rw [← e4] at hw cT ⊢
 have gz4:=gz3.ch cT
 have c24:=c3.trans cT
 clear e4 cT gz3
 walk_at "rd"
 rename_i ll k2 H5 c5 hll
 have hy5:SqX .list H5 tl ys:=(c24.trans c5).get hy (by simp)
 walk_at "rd"
 rename_i ql k3 H6 c6 hql p1 hp1
 have cP:=Ch.new (W:=[]) hp1 (.lst [.ref ll,.ref ql])
 have hP:SqX .list (upd H6 p1 (.lst [.ref ll,.ref ql])) p1 [.ref ll,.ref ql]:=zaag
 refine ⟨hP,m17,by simp,fun pp k1 H7 c7 hpp=>?_⟩
 have c47:=(c5.trans c6).trans (cP.trans c7)
 exact q pp ll ql k1 k2 k3 ws ys H7 ((c2.trans c24).trans c47) hpp (hll.ch (c6.trans (cP.trans c7))) (gz4.ch c47) (hql.ch (cP.trans c7)) (pz2.ch (c24.trans c47))
end
end

section
def prs8 (it:Nat) (why:Str):List (Nat × Str):=[(0, "in"),(1, "in"),(2, "in"),(3, "same"),(4, "same"),(5, "same"),(6, "keep"),(it,why)]
theorem rho7 {it:Nat}{why:Str}{a:Nat} (h:a < 7):rho (prs8 it why) a=a:=by
 match a,h with
 | 0,_=>rfl
 | 1,_=>rfl
 | 2,_=>rfl
 | 3,_=>rfl
 | 4,_=>rfl
 | 5,_=>rfl
 | 6,_=>rfl
theorem cg2 {α:Type} (F:Nat→Nat→α) {a a' b b':Nat} (h1:a=a') (h2:b=b'):F a b=F a' b':=by rw [h1,h2]
theorem zaky {al:List Gt}{ρ τ:Nat→Nat}{it:Nat}{why:Str}{g:Gt} (h:∀ a∈g.feeds,ρ a=τ a):phB al ρ it why g=phB al τ it why g:=by
 cases g with
 | inp=>rfl
 | zero=>rfl
 | one=>rfl
 | keep f a=>exact congrArg (fun u=>phB al (fun _=>u) it why (.keep f a)) (h a (by simp [Gt.feeds]))
 | not a=>exact congrArg (fun u=>phB al (fun _=>u) it why (.not a)) (h a (by simp [Gt.feeds]))
 | and a b=>exact cg2 (fun u v=>phB al (fun n=>match n with | 0=>u | _=>v) it why (.and 0 1)) (h a (by simp [Gt.feeds])) (h b (by simp [Gt.feeds]))
 | or a b=>exact cg2 (fun u v=>phB al (fun n=>match n with | 0=>u | _=>v) it why (.or 0 1)) (h a (by simp [Gt.feeds])) (h b (by simp [Gt.feeds]))
 | xor a b=>exact cg2 (fun u v=>phB al (fun n=>match n with | 0=>u | _=>v) it why (.xor 0 1)) (h a (by simp [Gt.feeds])) (h b (by simp [Gt.feeds]))
 | pick a b c =>
  have h1:=h a (by simp [Gt.feeds])
  have h2:=h b (by simp [Gt.feeds])
  have h3:=h c (by simp [Gt.feeds])
  by_cases w0:why = "same"
  ·subst w0
   rw [zacc rfl,zacc rfl]
   show decide (al[it]?=some (.pick (ρ a) (ρ b) (ρ c)))=decide (al[it]?=some (.pick (τ a) (τ b) (τ c)))
   rw [h1,h2,h3]
  ·rw [zabv rfl w0 (fun z=>by cases z.2),zabv rfl w0 (fun z=>by cases z.2)]
   show pickB al why it (ρ a) (ρ b) (ρ c)=pickB al why it (τ a) (τ b) (τ c)
   rw [h1,h2,h3]
theorem ok78 {g:Gt} (s:g.src=false) (h:∀ x∈g.feeds,x < 7):g.ok 7 8:=by
 cases g <;> first | (cases s; done) | trivial | skip
 ·exact h _ (by simp [Gt.feeds])
 ·exact ⟨h _ (by simp [Gt.feeds]),h _ (by simp [Gt.feeds])⟩
 ·exact ⟨h _ (by simp [Gt.feeds]),h _ (by simp [Gt.feeds])⟩
 ·exact ⟨h _ (by simp [Gt.feeds]),h _ (by simp [Gt.feeds])⟩
 ·exact ⟨h _ (by simp [Gt.feeds]),h _ (by simp [Gt.feeds]),h _ (by simp [Gt.feeds])⟩
theorem at8 {α:Type}{P:Nat→α→Prop}{a0 a1 a2 a3 a4 a5 a6 a7:α} (h0:P 0 a0) (h1:P 1 a1) (h2:P 2 a2) (h3:P 3 a3) (h4:P 4 a4) (h5:P 5 a5) (h6:P 6 a6) (h7:P 7 a7) {i:Nat}{v:α} (e:[a0,a1,a2,a3,a4,a5,a6,a7][i]?=some v):P i v:=by
 match i,e with
 | 0,e=>cases e; exact h0
 | 1,e=>cases e; exact h1
 | 2,e=>cases e; exact h2
 | 3,e=>cases e; exact h3
 | 4,e=>cases e; exact h4
 | 5,e=>cases e; exact h5
 | 6,e=>cases e; exact h6
 | 7,e=>cases e; exact h7
 | n + 8,e=>simp at e
section
variable {x y:Nat}{f:Int}{g h:Gt}
theorem oks8 (hx:x < 5) (hy:y < 7) (f0:0≤f) (f1:f < 2) (gk:g.ok 7 8):Oks (al7 x f y++[g]):=fun i t e =>
 at8 (P:=fun i t=>t.ok i 8) trivial trivial trivial trivial trivial (show x < 5 from hx) (show 0≤f∧f < 2∧y < 8 from ⟨f0,f1,by omega⟩) gk e
theorem oks7 (hx:x < 5) (hy:y < 7) (f0:0≤f) (f1:f < 2):Oks (al7 x f y):=fun i t e=>by
 have e':(al7 x f y++[Gt.zero])[i]?=some t:=by
  rw [List.getElem?_append_left (List.getElem?_eq_some_iff.mp e).1]; exact e
 have hi:i < 7:=(List.getElem?_eq_some_iff.mp e).1
 have:=at8 (P:=fun i t=>i < 7→t.ok i 7) (fun _=>trivial) (fun _=>trivial) (fun _=>trivial) (fun _=>trivial) (fun _=>trivial) (fun _=>(show x < 5 from hx)) (fun _=>(show 0≤f∧f < 2∧y < 7 from ⟨f0,f1,hy⟩)) (fun z=>absurd z (by decide)) e'
 exact this hi
theorem nums8 (gi:g≠.inp):numsOf Gt.isIn (al7 x f y++[g]) 0=[0,1,2]:=by cases g <;> first | exact absurd rfl gi | rfl
theorem zala {it:Nat}{why:Str}{b:Bool}{sg lo:List Gt} (h1:(sg=al7 x f y∧lo=[h])∨(sg=al7 x f y++[h]∧lo=[])) (hx:x < 5) (hy:y < 7) (f0:0≤f) (f1:f < 2) (gi:g≠.inp) (gk:g.ok 7 8) (hi:h≠.inp) (hk:h.ok 7 8) (li:it < 8)
  (hb:phB (al7 x f y++[h]) (rho (prs8 it why)) it why g=b):Sho (al7 x f y++[g]) [0,6] sg [0,6] lo (prs8 it why) b:=by
 have es:sg++lo=al7 x f y++[h]:=by rcases h1 with ⟨rfl,rfl⟩ | ⟨rfl,rfl⟩ <;> simp
 have ns:numsOf Gt.isIn sg 0=[0,1,2]:=by
  rcases h1 with ⟨rfl,rfl⟩ | ⟨rfl,rfl⟩
  ·rfl
  ·exact nums8 hi
 refine ⟨oks8 hx hy f0 f1 gk,rfl,fun p hp=>?_,fun j t e=>?_,by rw [nums8 gi,ns],fun j n m e1 e2=>?_,rfl,fun j o m e1 e2=>?_,fun i t p e1 ti e2=>?_,fun t e=>?_,by simp [al7]⟩
 ·rw [es]
  show p.1 < 8
  simp [prs8] at hp
  rcases hp with rfl | rfl | rfl | rfl | rfl | rfl | rfl | rfl <;> simp <;> omega
 ·rcases h1 with ⟨rfl,rfl⟩ | ⟨rfl,rfl⟩
  ·match j,e with
   | 0,e=>cases e; exact ⟨hi,hk⟩
   | n + 1,e=>simp at e
  ·simp at e
 ·rw [nums8 gi] at e1
  rw [ns,e1] at e2
  cases e2
  match j,e1 with
  | 0,e=>cases e; rfl
  | 1,e=>cases e; rfl
  | 2,e=>cases e; rfl
  | n + 3,e=>simp at e
 ·rw [e1] at e2
  cases e2
  match j,e1 with
  | 0,e=>cases e; exact ⟨_,rfl⟩
  | 1,e=>cases e; exact ⟨_,rfl⟩
  | n + 2,e=>simp at e
 ·rw [es]
  have hl:(al7 x f y++[g]).length=8:=rfl
  rw [hl]
  have e3:=at8 (P:=fun i t=>∀ p,(prs8 it why)[i]?=some p→t≠.inp→phB (al7 x f y++[h]) (rho (prs8 it why)) p.1 p.2 t=(b || decide (i + 1 < 8)))
   (fun p _ z=>absurd rfl z) (fun p _ z=>absurd rfl z) (fun p _ z=>absurd rfl z) (fun p e _=>by cases e; rw [zacc rfl]; simp [al7,Gt.ren]) (fun p e _=>by cases e; rw [zacc rfl]; simp [al7,Gt.ren])
   (fun p e _=>by cases e; rw [zacc rfl]; simp [al7,Gt.ren,rho7 (show x < 7 by omega)]) (fun p e _=>by cases e; simp [phB,al7,rho7 hy]) (fun p e _=>by cases e; rw [hb]; simp) e1
  exact e3 p e2 ti
 ·have:t=g:=by
   have e:some g=some t:=e
   cases e; rfl
  rw [this]; exact gi
end
end

section
def W11:List Str:=["not", "and", "or", "xor", "pick", "and", "or", "xor", "pick", "zero", "one"]
def W12:List Str:=["same", "turned", "first", "second", "third", "zero", "one", "not", "inner", "keep", "in", ""]
theorem zajy (l:List Str) {m:Int} (h0:0≤m) (h1:m < (l.length:Int)):∃ x∈l,atI (l.map V.str) m=some (.str x):=by
 have hk:m.toNat < l.length:=by omega
 have e:m=((m.toNat:Nat):Int):=by omega
 refine ⟨l[m.toNat],List.getElem_mem hk,?_⟩
 have:=zach (xs:=l.map V.str) (j:=m.toNat) (v:=.str l[m.toNat]) (by rw [List.getElem?_map,List.getElem?_eq_getElem hk]; simp)
 rw [← e] at this
 exact this
theorem w11 {x:Str} (h:x∈W11):x∈WS:=by
 simp only [W11,List.mem_cons,List.not_mem_nil,or_false] at h
 rcases h with rfl | rfl | rfl | rfl | rfl | rfl | rfl | rfl | rfl | rfl | rfl <;> decide +kernel
theorem NetAt.chb {C:Addr}{H H':Hp}{b nt gp op:Addr}{gs:List Gt}{xs ys:List V}{os:List Nat} (n:NetAt C H nt gp op gs xs os) (c:Ch [b] H H') (hb:H b=some (.lst ys)):NetAt C H' nt gp op gs xs os :=
 ⟨n.ob.imp fun _ h=>c.get h (by simpa using zahk h hb (by intro z; cases z)),c.get n.gt (by simpa using zahk n.gt hb (by intro z; cases z)),n.gg.tu (Tu.lst c hb),c.get n.ot (by simpa using zahk n.ot hb (by intro z; cases z))⟩
structure OS (K:PySem.W.Frag) (H0 H:Hp) (a b gl sl bp:Addr) (ns:List Int) (c B:Int) (xs:List V) (x:Nat) (f:Int) (y:Nat) (g h:Gt):Prop where
 scr:Scr K H a ns
 ct:CT H0 H b c B
 hgl:H gl=some (.lst xs)
 ngb:gl≠b
 gg:Gs H (al7 x f y) xs
 hsl:H sl=some (.lst (g.feeds.map nV))
 nsb:sl≠b
 hbp:H bp=some (.tup h.vs)
section
variable {K:PySem.W.Frag}{H0 H H1:Hp}{a b gl sl bp:Addr}{ns:List Int}{c B c':Int}{xs:List V}{x y:Nat}{f:Int}{g h:Gt}
theorem OS.same (o:OS K H0 H a b gl sl bp ns c B xs x f y g h) (d:Ch [] H H1):OS K H0 H1 a b gl sl bp ns c B xs x f y g h:=⟨o.scr.same d,o.ct.same d,d.get o.hgl (by simp),o.ngb,o.gg.tu (Tu.same d),d.get o.hsl (by simp),o.nsb,d.get o.hbp (by simp)⟩
theorem OS.bump (o:OS K H0 H a b gl sl bp ns c B xs x f y g h) (hb:H b=some (.lst [.int c'])) (d:Ch [b] H H1) (hb1:H1 b=some (.lst [.int (c' + 1)])):OS K H0 H1 a b gl sl bp ns c (B + 1) xs x f y g h :=
 ⟨o.scr.ch hb d,o.ct.bump hb d hb1,d.get o.hgl (by simpa using o.ngb),o.ngb,o.gg.tu (Tu.lst d hb),d.get o.hsl (by simpa using o.nsb),o.nsb,Tu.lst d hb _ _ o.hbp⟩
end
structure PrT (H:Hp) (prs:List (Nat × Str)) (ps:List V):Prop where
 len:ps.length=prs.length
 at_:∀ (i:Nat) (p:Nat × Str),prs[i]?=some p→∃ a:Addr,ps[i]?=some (.ref a)∧H a=some (.tup [nV p.1,.str p.2])
theorem PrT.nil (H:Hp):PrT H [] []:=⟨rfl,fun i p e=>by simp at e⟩
theorem PrT.tu {H H':Hp}{prs:List (Nat × Str)}{ps:List V} (h:PrT H prs ps) (t:Tu H H'):PrT H' prs ps:=⟨h.len,fun i p e=>let ⟨a,b,d⟩:=h.at_ i p e; ⟨a,b,t a _ d⟩⟩
theorem PrT.k {H:Hp}{prs:List (Nat × Str)}{ps:List V} (h:PrT H prs ps):PrK H prs ps:=⟨h.len,fun i p e=>let ⟨a,b,d⟩:=h.at_ i p e; ⟨a,.tuple,b,d⟩⟩
theorem PrT.push {H:Hp}{prs:List (Nat × Str)}{ps:List V}{a:Addr}{p:Nat × Str} (h:PrT H prs ps) (ha:H a=some (.tup [nV p.1,.str p.2])):PrT H (prs++[p]) (ps++[.ref a]):=by
 refine ⟨by simp [h.len],fun i x e=>?_⟩
 rcases zaea e with ⟨hi,e⟩ | ⟨rfl,rfl⟩
 ·obtain ⟨a',h1,h2⟩:=h.at_ i x e
  exact ⟨a',by rw [List.getElem?_append_left (by rw [h.len]; exact hi)]; exact h1,h2⟩
 ·exact ⟨a,by rw [← h.len]; simp,ha⟩
structure PA (H:Hp) (pp:Addr) (lo:List Gt) (it:Nat) (why:Str):Prop where
 ex:∃ (ll ql:Addr) (k1 k2 k3:SK) (zs qs:List V),SqX k1 H pp [.ref ll,.ref ql]∧SqX k2 H ll zs∧GsK H lo zs∧SqX k3 H ql qs∧PrK H (prs8 it why) qs
theorem PA.ch {H H':Hp}{pp:Addr}{lo:List Gt}{it:Nat}{why:Str} (h:PA H pp lo it why) (c:Ch [] H H'):PA H' pp lo it why:=by
 obtain ⟨ll,ql,k1,k2,k3,zs,qs,h1,h2,h3,h4,h5⟩:=h.ex
 exact ⟨ll,ql,k1,k2,k3,zs,qs,h1.ch c,h2.ch c,h3.ch c,h4.ch c,h5.ch c⟩
structure SM (CN:Addr) (H:Hp) (st gp2 op2:Addr) (sg:List Gt) (ys2:List V) (pp:Addr) (lo:List Gt) (it:Nat) (why:Str) (x:Nat) (f:Int) (y:Nat) (h:Gt):Prop where
 net:NetAt CN H st gp2 op2 sg ys2 [0,6]
 pa:PA H pp lo it why
 so:(sg=al7 x f y∧lo=[h])∨(sg=al7 x f y++[h]∧lo=[])
section
variable {P:Program}{w:World}{K:PySem.W.Frag}{mg:Str→Option Value}{base:Heap}{f:Addr}{fd:FuncData}{k:Nat}
theorem zadv:Nd "_law_base" := by decide +kernel
theorem zaf7:Nd "_law_some" := by decide +kernel
theorem zaeo:Nd "_law_behind" := by decide +kernel
theorem zaep:Nd "_law_number" := by decide +kernel
theorem zae0:Nd "Net" := by decide +kernel
theorem zaf8:Nd "_law_rule" := by decide +kernel
theorem zaci:Nd "_law_paper" := by decide +kernel
theorem zadb:Nd "small_holds" := by decide +kernel
theorem av41:AF (defScope (top 41)) ["_law_script", "_law_at", "_law_gates", "_law_m", "_law_word", "_law_some_here", "_law_behind_here", "_law_number_here", "_law_whys", "_law_why", "_law_lost", "_law_net", "_law_pairs", "_law_due", "_law_paper_here", "_law_small", "_law_found"]:=⟨by decide +kernel⟩
theorem gl41:AG (defScope (top 41)) ["_law_base", "_law_next", "_law_some", "_law_behind", "_law_number", "Net", "tuple", "_law_rule", "_law_paper", "small_holds", "isinstance", "bool"]:=⟨by decide +kernel⟩
def spOne (K:PySem.W.Frag):Sp:=fun vs H Q _=>∃ (a b:Addr) (ns:List Int) (c:Int),vs=[.ref a,.ref b]∧Scr K H a ns∧H b=some (.lst [.int c])∧0≤c∧c < 2 ^ 57∧∀ (H':Hp),CT H H' b c 20→Q (.bl true) H'
theorem scOne:FnScope ["_law_script", "_law_at", "_law_gates", "_law_m", "_law_word", "_law_some_here", "_law_behind_here", "_law_number_here", "_law_whys", "_law_why", "_law_lost", "_law_net", "_law_pairs", "_law_due", "_law_paper_here", "_law_small", "_law_found"] ["_law_script", "_law_at"] (defScope (top 41)):=⟨rfl,rfl,rfl,by decide +kernel,rfl,by decide +kernel,by decide +kernel⟩
theorem zaot {CN:Addr} (F:Fun K "_law_one" "_law_one" (top 41) f fd) (D_law_next:DefOk P w K mg base CX0 (k + 1) "_law_next" ["_law_script", "_law_at"] (spNext K)) (D_law_base:DefOk P w K mg base CX0 (k + 1) "_law_base" ["_law_script", "_law_at"] (spBase K)) (D_law_some:DefOk P w K mg base CX0 (k + 1) "_law_some" ["_law_script", "_law_at", "_law_gates", "_law_word"] (spSome K))
  (D_law_behind:DefOk P w K mg base CX0 (k + 1) "_law_behind" ["_law_script", "_law_at", "_law_word", "_law_some_here"] (spBeh K)) (D_law_number:DefOk P w K mg base CX0 (k + 1) "_law_number" ["_law_script", "_law_at", "_law_some_here"] (spNum K)) (D_law_rule:DefOk P w K mg base CX0 (k + 1) "_law_rule" ["_law_gates", "_law_word", "_law_some_here", "_law_number_here", "_law_why"] spRule)
  (D_law_paper:DefOk P w K mg base CX0 (k + 1) "_law_paper" ["_law_lost", "_law_pairs", "_law_m"] spPap) (Dsmall_holds:DefOk P w K mg base CX0 (k + 1) "small_holds" ["net", "small", "paper"] (spSH CN)) (MkNet:MakeOk P w K mg base CX0 k CN "Net" ["self", "gates", "outs"] (spNet CN)) (z_tuple:mg "tuple" = none) (z_isinstance:mg "isinstance" = none) (z_bool:mg "bool" = none):FnOk P w K mg base CX0 (k + 2) f fd ["_law_script", "_law_at"] (spOne K):=by
 have nd:=scOne.nd
 refine F.ok scOne (fun vs H Q E h=>by obtain ⟨a,b,ns,c,rfl,_⟩:=h; rfl) (fun cdv A outer s0 H vs Q E hr h=>?_)
 obtain ⟨a,b,ns,c,rfl,hS,hb,h0,h1,q⟩:=h
 have hrm:=hr
 refine ⟨_,(Pr.h (zaat (zaap (i:=2) nd rfl (av41.l 2 rfl) (zaai D_law_base hr (gl41.g 0 rfl) pass0 (zaaa (qv av41 0 rfl) (zaaa (qv av41 1 rfl) zaac zaad) zaad) zadv)) (zaah (zaap (i:=3) nd rfl (av41.l 3 rfl) (zaai D_law_next hr (gl41.g 1 rfl) pass0 (zaaa (qv av41 0 rfl) (zaaa (qv av41 1 rfl) zaac zaad) zaad) zaa7)) (zaah (zaap (i:=4) nd rfl (av41.l 4 rfl) (zaar zaal (zaa2 (zaaa zaaf (zaaa zaaf (zaaa zaaf (zaaa zaaf (zaaa zaaf (zaaa zaaf (zaaa zaaf (zaaa zaaf (zaaa zaaf (zaaa zaaf (zaaa zaaf zaac zaab) zaab) zaab) zaab) zaab) zaab) zaab) zaab) zaab) zaab) zaab)) (zaaq zaba (qv av41 3 rfl) zaae) (fun _ _=>rfl))) (zaat (zaap (i:=5) nd rfl (av41.l 5 rfl) (zaai D_law_some hr (gl41.g 2 rfl) pass0 (zaaa (qv av41 0 rfl) (zaaa (qv av41 1 rfl) (zaaa (qv av41 2 rfl) (zaaa (qv av41 4 rfl) zaac zaad) zaad) zaad) zaad) zaf7)) (zaah (zaap (i:=6) nd rfl (av41.l 6 rfl) (zaai D_law_behind hr (gl41.g 3 rfl) pass0 (zaaa (qv av41 0 rfl) (zaaa (qv av41 1 rfl) (zaaa (qv av41 4 rfl) (zaaa (qv av41 5 rfl) zaac zaad) zaad) zaad) zaad) zaeo)) (zaat (zaap (i:=7) nd rfl (av41.l 7 rfl) (zaai D_law_number hr (gl41.g 4 rfl) pass0 (zaaa (qv av41 0 rfl) (zaaa (qv av41 1 rfl) (zaaa (qv av41 5 rfl) zaac zaad) zaad) zaad) zaep)) (zaah (zaap (i:=8) nd rfl (av41.l 8 rfl) (zaa2 (zaaa zaaf (zaaa zaaf (zaaa zaaf (zaaa zaaf (zaaa zaaf (zaaa zaaf (zaaa zaaf (zaaa zaaf (zaaa zaaf (zaaa zaaf (zaaa zaaf (zaaa zaaf zaac zaab) zaab) zaab) zaab) zaab) zaab) zaab) zaab) zaab) zaab) zaab) zaab))) (zaah (zaap (i:=9) nd rfl (av41.l 9 rfl) (zaar zaal (qv av41 8 rfl) (zaaq zaba (zaai D_law_next hr (gl41.g 1 rfl) pass0 (zaaa (qv av41 0 rfl) (zaaa (qv av41 1 rfl) zaac zaad) zaad) zaa7) zaae) (fun _ _=>rfl))) (zaat (zaap (i:=10) nd rfl (av41.l 10 rfl) (zaan zaa3 (zaaq zaba (zaaq zabc (qv av41 3 rfl) zaae) zaae) zaae (nomark _))) (zaat (zaap (i:=11) nd rfl (av41.l 11 rfl) (zacv MkNet hrm (gl41.g 5 rfl) pass0 (zaaa (zaaq zac1 (qv av41 2 rfl) (zaa2 (zaaa (zabh zabf (gl41.g 6 rfl) z_tuple zabz (zaaa (zaaq zac1 (zaa2 (zaaa (qv av41 4 rfl) zaac zaad)) (qv av41 5 rfl)) zaac zaa9) zab0 zab1) zaac zab8))) (zaaa (zaa2 (zaaa zaae (zaaa zaae zaac zaab) zaab)) zaac zack) zaa9) zae0)) (zaat (zaap (i:=12) nd rfl (av41.l 12 rfl) (zaa2 (zaaa (zaaw (zaaa zaae (zaaa zaaf zaac zaab) zaab)) (zaaa (zaaw (zaaa zaae (zaaa zaaf zaac zaab) zaab)) (zaaa (zaaw (zaaa zaae (zaaa zaaf zaac zaab) zaab)) (zaaa (zaaw (zaaa zaae (zaaa zaaf zaac zaab) zaab)) (zaaa (zaaw (zaaa zaae (zaaa zaaf zaac zaab) zaab)) (zaaa (zaaw (zaaa zaae (zaaa zaaf zaac zaab) zaab)) (zaaa (zaaw (zaaa zaae (zaaa zaaf zaac zaab) zaab)) (zaaa (zaaw (zaaa (qv av41 7 rfl) (zaaa (qv av41 9 rfl) zaac zaad) zaad)) zaac zaa4) zaa4) zaa4) zaa4) zaa4) zaa4) zaa4) zaa4))) (zaat (zaap (i:=13) nd rfl (av41.l 13 rfl) (zaai D_law_rule hr (gl41.g 7 rfl) pass0 (zaaa (zaaq zac1 (qv av41 2 rfl) (zaa2 (zaaa (qv av41 6 rfl) zaac zaad))) (zaaa (qv av41 4 rfl) (zaaa (qv av41 5 rfl) (zaaa (qv av41 7 rfl) (zaaa (qv av41 9 rfl) zaac zaad) zaad) zaad) zaad) zaa9) zaf8)) (zaat (zaap (i:=14) nd rfl (av41.l 14 rfl) (zaai D_law_paper hr (gl41.g 8 rfl) pass0 (zaaa (zaa2 (zaaa (qv av41 6 rfl) zaac zaad)) (zaaa (qv av41 12 rfl) (zaaa (zaai D_law_next hr (gl41.g 1 rfl) pass0 (zaaa (qv av41 0 rfl) (zaaa (qv av41 1 rfl) zaac zaad) zaad) zaa7) zaac zab8) zaad) zack) zaci)) (zaat (zaap (i:=15) nd rfl (av41.l 15 rfl) (zacv MkNet hrm (gl41.g 5 rfl) pass0 (zaaa (qv av41 2 rfl) (zaaa (zaa2 (zaaa zaae (zaaa zaae zaac zaab) zaab)) zaac zack) zaad) zae0)) (zaat (zaa1 (zab9 (zabu (qv av41 10 rfl))) (zaat (zaap (i:=15) nd rfl (av41.l 15 rfl) (zacv MkNet hrm (gl41.g 5 rfl) pass0 (zaaa (zaaq zac1 (qv av41 2 rfl) (zaa2 (zaaa (qv av41 6 rfl) zaac zaad))) (zaaa (zaa2 (zaaa zaae (zaaa zaae zaac zaab) zaab)) zaac zack) zaa9) zae0)) (zaaj (zaap (i:=14) nd rfl (av41.l 14 rfl) (zaai D_law_paper hr (gl41.g 8 rfl) pass0 (zaaa (zaa2 zaac) (zaaa (qv av41 12 rfl) (zaaa (zaai D_law_next hr (gl41.g 1 rfl) pass0 (zaaa (qv av41 0 rfl) (zaaa (qv av41 1 rfl) zaac zaad) zaad) zaa7) zaac zab8) zaad) zack) zaci)))) zaao) (zaah (zaap (i:=16) nd rfl (av41.l 16 rfl) (zaai Dsmall_holds hr (gl41.g 9 rfl) pass0 (zaaa (qv av41 11 rfl) (zaaa (qv av41 15 rfl) (zaaa (qv av41 14 rfl) zaac zaad) zaad) zaad) zadb)) (zaaj (zaam (zaay (zaax zac7 (gl41.g 10 rfl) z_isinstance zabq (zaaa (qv av41 16 rfl) (zaaa (zaco (v:=.ty "bool") (gl41.g 11 rfl) z_bool zago rfl zagp zagq) zaac)) zabr zabs) (zaav (zaan zaa3 (qv av41 16 rfl) (qv av41 13 rfl) (nomark _))))))))))))))))))))))),?_⟩
 (try dsimp only [cxOf])
 refine zaa5 (fun σ H1=>∃ gl x y f xs,σ=[some (.ref a),some (.ref b),some (.ref gl),none,none,none,none,none,none,none,none,none,none,none,none,none,none]∧GN H H1 b gl c 3 (al7 x f y) xs∧x < 5∧y < 7∧0≤f∧f < 2) ?_ ?_
 ·walk_at "rd"
 rintro σ H1 ⟨gl,x,y,fv,xs,rfl,n1,hx,hy,f0,f1⟩
 obtain ⟨c1,hb1,lc1,lc1'⟩:=n1.ct.at_
 have hS1:Scr K H1 a ns:=hS.ch hb n1.ct.ch
 walk_at "rd"
 rename_i m H2 m0 m1 d2 hb2 e1 g1
 have n2:=(n1.bump hb1 d2 hb2).same (Ch.new g1 (.lst (W11.map V.str)))
 obtain ⟨wd,hwd,ewd⟩:=zajy W11 (m:=m % 11) (by omega) (show m % 11 < 11 by omega)
 refine Atx.of ewd ?_
 have hwd:=w11 hwd
 have hb2':=(Ch.new (W:=[]) g1 (.lst (W11.map V.str))).get hb2 (by simp)
 obtain ⟨H3,e3⟩:∃ H3,H3=upd H2 e1 (.lst (W11.map V.str)):=⟨_,rfl⟩
 rw [show upd H2 e1 (HO.lst [V.str "not",V.str "and",V.str "or",V.str "xor",V.str "pick",V.str "and",V.str "or",V.str "xor",V.str "pick",V.str "zero",V.str "one"])=H3 from e3.symm]
 rw [← e3] at n2 hb2'
 have hS3:Scr K H3 a ns:=hS.ch hb n2.ct.ch
 have gl3:=n2.gl
 have gg3:=n2.gg
 have nb3:=n2.nb
 clear n1
 refine zaa5 (fun σ H4=>∃ sl g,σ=[some (.ref a),some (.ref b),some (.ref gl),some (.int m),some (.str wd),some (.ref sl),none,none,none,none,none,none,none,none,none,none,none]∧FL H3 H4 b sl (c1 + 1) 4 (Gt.feeds g) (arW wd)∧Gt.wd g=wd∧Gt.src g=false) ?_ ?_
 ·walk_at "rd"
 rintro σ H4 ⟨sl,g,rfl,l4,rfl,gs⟩
 obtain ⟨c4,hb4,lc4,lc4'⟩:=l4.ct.at_
 have ct4:=n2.ct.trans hb2' l4.ct
 have hS4:Scr K H4 a ns:=hS.ch hb ct4.ch
 have sl4:=l4.sl
 have bel:=l4.lt
 have nsb:=l4.nb
 walk_at "rd"
 rename_i bp hh H5 ct5 hbp hhs hhf
 obtain ⟨c5,hb5,lc5,lc5'⟩:=ct5.at_
 have sl5:=ct5.ch.get sl4 (by simpa using nsb)
 have ct6:=ct4.trans hb4 ct5
 have hS5:Scr K H5 a ns:=hS.ch hb ct6.ch
 refine zaa5 (fun σ H6=>∃ it:Nat,σ=[some (.ref a),some (.ref b),some (.ref gl),some (.int m),some (.str g.wd),some (.ref sl),some (.ref bp),some (.int (it:Int)),none,none,none,none,none,none,none,none,none]∧it < 8∧OS K H H6 a b gl sl bp ns c 10 xs x fv y g hh) ?_ ?_
 ·walk_at "rd"
  rename_i it H6 ct7 li
  have ct8:=(ct6.trans hb5 ct7).wk (B':=10) (by omega)
  have dd:Ch [b] H3 H6:=(l4.ct.ch.trans ct5.ch).trans ct7.ch
  exact ⟨hS.ch hb ct8.ch,ct8,dd.get gl3 (by simpa using nb3),nb3,gg3.tu (Tu.lst dd hb2'),ct7.ch.get sl5 (by simpa using nsb),nsb,Tu.lst ct7.ch hb5 _ _ hbp⟩
 clear n2 l4 ct4 ct5 ct6 hS5 hS4 hS3 hb5 hb4 hb2 hb2' sl5 sl4 hbp gl3 gg3 hS1 d2
 rintro σ H6 ⟨it,rfl,li,o⟩
 obtain ⟨c6,hb6,lc6,lc6'⟩:=o.ct.at_
 have hS6:=o.scr
 walk_at "rd"
 rename_i pw gw z H7 z0 z1 d7 hb7
 have cw:=Ch.new (W:=[]) gw (.lst (W12.map V.str))
 have hw7:H7 pw=some (.lst (W12.map V.str)):=d7.get zaag (by simpa using (zaa0 hb6 gw).symm)
 have o7:=(o.same cw).bump (cw.get hb6 (by simp)) d7 hb7
 obtain ⟨why,_,ewy⟩:=zajy W12 (m:=z % 12) (by omega) (show z % 12 < 12 by omega)
 refine ⟨SqL.of hw7,?_⟩
 refine Atx.of ewy ?_
 clear o hS6 hb6 d7 cw
 refine zaa5 (fun σ H8=>∃ lb:Bool,σ=[some (.ref a),some (.ref b),some (.ref gl),some (.int m),some (.str g.wd),some (.ref sl),some (.ref bp),some (.int (it:Int)),some (.ref pw),some (.str why),some (.bl lb),none,none,none,none,none,none]∧H8=H7) ?_ ?_
 ·walk_at "rd"
 rintro σ H8 ⟨lb,rfl,rfl⟩
 have evs:[V.str g.wd]++g.feeds.map nV=g.vs:=by cases g <;> first | rfl | (cases gs)
 have gk:g.ok 7 8:=ok78 gs bel.of
 have hk:hh.ok 7 8:=ok78 hhs hhf
 have gi:g≠.inp:=fun z=>by rw [z] at gs; cases gs
 have hi:hh≠.inp:=fun z=>by rw [z] at hhs; cases hhs
 have lxs:xs.length=7:=o7.gg.len
 refine zaa5 (fun σ H9=>∃ nt gp op ys,σ=[some (.ref a),some (.ref b),some (.ref gl),some (.int m),some (.str g.wd),some (.ref sl),some (.ref bp),some (.int (it:Int)),some (.ref pw),some (.str why),some (.bl lb),some (.ref nt),none,none,none,none,none]∧Ch [] H8 H9∧NetAt CN H9 nt gp op (al7 x fv y++[g]) ys [0,6]) ?_ ?_
 ·have sl8:=o7.hsl
  have gl8:=o7.hgl
  have lf:=zab5 g
  walk_at "rd"
  rename_i p4 h4 p3 h3 t ht p2 h2 p1 h1' p0 hp0 X dX hX hdX nX
  have cA:=(((Ch.new (W:=[]) h4 (.lst [V.str g.wd])).trans (Ch.new h3 (.lst ([V.str g.wd]++g.feeds.map nV)))).trans (Ch.new ht (.tup ([V.str g.wd]++g.feeds.map nV)))).trans (Ch.new h2 (.lst [.ref t]))
  have cL:=(cA.trans (Ch.new h1' (.lst (xs++[.ref t])))).trans (Ch.new hp0 (.lst [.int 0,.int 6]))
  have ci:=Ch.inst (C:=CN) hX hdX nX
  have ht2:_=some (HO.tup g.vs):=(ci.get (zaas hp0 (zaas h1' (zaas h2 zaag))) (by simp)).trans (by rw [evs])
  refine ⟨ci.get (zaas hp0 zaag) (by simp),(o7.gg.tu (Tu.same (cL.trans ci))).snoc ht2,oks8 hx hy f0 f1 gk,by simp [al7],(show _=some (HO.lst (([0,6]:List Nat).map nV)) from ci.get zaag (by simp)),(show ∀ o∈([0,6]:List Nat),o < (al7 x fv y++[g]).length by simp [al7]),by simp,fun gp1 op1 H9 c9 na=>⟨rfl,?_⟩⟩
  exact ⟨X,gp1,op1,_,rfl,cL.trans (Ch.forget (ci.wk.trans c9) (by simpa using hX)),na⟩
 rintro σ H9 ⟨nt,gp,op,ys,rfl,c9,na9⟩
 have o9:=o7.same c9
 have hb9:=c9.get hb7 (by simp)
 clear o7 hb7
 refine zaa5 (fun σ H10=>∃ ql qs,σ=[some (.ref a),some (.ref b),some (.ref gl),some (.int m),some (.str g.wd),some (.ref sl),some (.ref bp),some (.int (it:Int)),some (.ref pw),some (.str why),some (.bl lb),some (.ref nt),some (.ref ql),none,none,none,none]∧Ch [] H9 H10∧H10 ql=some (.lst qs)∧PrT H10 (prs8 it why) qs∧H9 ql=none) ?_ ?_
 ·walk_at "rd"
  rename_i q0 a0 q1 a1 q2 a2 q3 a3 q4 a4 q5 a5 q6 a6 q7 a7 ql al
  have cQ:=((((((((Ch.new (W:=[]) a0 (.tup [.int 0,.str "in"])).trans (Ch.new a1 (.tup [.int 1,.str "in"]))).trans (Ch.new a2 (.tup [.int 2,.str "in"]))).trans (Ch.new a3 (.tup [.int 3,.str "same"]))).trans (Ch.new a4 (.tup [.int 4,.str "same"]))).trans (Ch.new a5 (.tup [.int 5,.str "same"]))).trans (Ch.new a6 (.tup [.int 6,.str "keep"]))).trans (Ch.new a7 (.tup [.int (it:Int),.str why])))
  refine ⟨?_,chFree cQ al⟩
  exact (PrT.push (p:=(it,why)) (PrT.push (p:=(6, "keep")) (PrT.push (p:=(5, "same")) (PrT.push (p:=(4, "same")) (PrT.push (p:=(3, "same")) (PrT.push (p:=(2, "in")) (PrT.push (p:=(1, "in")) (PrT.push (p:=(0, "in")) (PrT.nil _) (zaas al (zaas a7 (zaas a6 (zaas a5 (zaas a4 (zaas a3 (zaas a2 (zaas a1 zaag))))))))) (zaas al (zaas a7 (zaas a6 (zaas a5 (zaas a4 (zaas a3 (zaas a2 zaag)))))))) (zaas al (zaas a7 (zaas a6 (zaas a5 (zaas a4 (zaas a3 zaag))))))) (zaas al (zaas a7 (zaas a6 (zaas a5 (zaas a4 zaag)))))) (zaas al (zaas a7 (zaas a6 (zaas a5 zaag))))) (zaas al (zaas a7 (zaas a6 zaag)))) (zaas al (zaas a7 zaag))) (zaas al zaag))
 rintro σ H10 ⟨ql,qs,rfl,c10,hql,pq,fq⟩
 have o10:=o9.same c10
 have hb10:=c10.get hb9 (by simp)
 have na10:=na9.ch c10
 have nqb:ql≠b:=(zaa0 hb9 fq).symm
 clear o9 hb9 na9
 obtain ⟨du,edu⟩:∃ du,phB (al7 x fv y++[hh]) (fun a=>a) it why g=du:=⟨_,rfl⟩
 refine zaa5 (fun σ H11=>σ=[some (.ref a),some (.ref b),some (.ref gl),some (.int m),some (.str g.wd),some (.ref sl),some (.ref bp),some (.int (it:Int)),some (.ref pw),some (.str why),some (.bl lb),some (.ref nt),some (.ref ql),some (.bl du),none,none,none]∧Ch [] H10 H11) ?_ ?_
 ·have gl10:=o10.hgl
  have sl10:=o10.hsl
  have gg10:=o10.gg
  have bp10:=o10.hbp
  have lf:=zab5 g
  walk_at "rd"
  rename_i e1 g1' e2 g2'
  have cE:=(Ch.new (W:=[]) g1' (.lst [.ref bp])).trans (Ch.new g2' (.lst (xs++[.ref bp])))
  refine ⟨⟨_,zaag,(gg10.tu (Tu.same cE)).snoc (cE.get bp10 (by simp))⟩,cE.get sl10 (by simp),gs,by simp [al7]; omega,fun z hz=>by have:=bel.of z hz; simp [al7]; omega,fun H11 c11=>?_⟩
  rw [edu]
  exact ⟨rfl,cE.trans c11⟩
 rintro σ H11 ⟨rfl,c11⟩
 have o11:=o10.same c11
 have hb11:=c11.get hb10 (by simp)
 have na11:=na10.ch c11
 have hql11:=c11.get hql (by simp)
 have pq11:=pq.tu (Tu.same c11)
 clear o10 hb10 na10 hql pq
 refine zaa5 (fun σ H12=>∃ pp,σ=[some (.ref a),some (.ref b),some (.ref gl),some (.int m),some (.str g.wd),some (.ref sl),some (.ref bp),some (.int (it:Int)),some (.ref pw),some (.str why),some (.bl lb),some (.ref nt),some (.ref ql),some (.bl du),some (.ref pp),none,none]∧CT H11 H12 b (c6 + 1) 1∧PA H12 pp [hh] it why) ?_ ?_
 ·have hS11:=o11.scr
  have bp11:=o11.hbp
  walk_at "rd"
  rename_i pL gL z H12 z0 z1 d12 hb12
  have cP:=Ch.new (W:=[]) gL (.lst [.ref bp])
  have hbL:=cP.get hb11 (by simp)
  have tu:=Tu.lst d12 hbL
  have npb:pL≠b:=(zaa0 hb11 gL).symm
  refine ⟨d12.get zaag (by simpa using npb),(((Gs.nil _).snoc (g:=hh) (p:=bp) (tu _ _ (cP.get bp11 (by simp))))),d12.get (cP.get hql11 (by simp)) (by simpa using nqb),((pq11.tu (Tu.same cP)).tu tu).k,z0,by simp,by simp [prs8],fun pp ll ql' k1 k2 k3 zs' qs' H13 c13 e1 e2 e3 e4 e5=>?_⟩
  exact ⟨pp,rfl,(((CT.zero hb11).same cP).bump hbL d12 hb12).same c13 |>.wk (by omega),ll,ql',k1,k2,k3,zs',qs',e1,e2,e3,e4,e5⟩
 rintro σ H12 ⟨pp,rfl,ct12,pa12⟩
 obtain ⟨c12,hb12,lc12,lc12'⟩:=ct12.at_
 have tu12:=Tu.lst ct12.ch hb11
 have o12:OS K H H12 a b gl sl bp ns c 12 xs x fv y g hh:=⟨hS.ch hb (o11.ct.trans hb11 ct12).ch,(o11.ct.trans hb11 ct12).wk (by omega),ct12.ch.get o11.hgl (by simpa using o11.ngb),o11.ngb,o11.gg.tu tu12,ct12.ch.get o11.hsl (by simpa using o11.nsb),o11.nsb,tu12 _ _ o11.hbp⟩
 have na12:=na11.chb ct12.ch hb11
 have hql12:=ct12.ch.get hql11 (by simpa using nqb)
 have pq12:=pq11.tu tu12
 clear o11 na11 hql11 pq11 hb11 tu12
 refine zaa5 (fun σ H13=>∃ st gp2 op2 ys2,σ=[some (.ref a),some (.ref b),some (.ref gl),some (.int m),some (.str g.wd),some (.ref sl),some (.ref bp),some (.int (it:Int)),some (.ref pw),some (.str why),some (.bl lb),some (.ref nt),some (.ref ql),some (.bl du),some (.ref pp),some (.ref st),none]∧Ch [] H12 H13∧NetAt CN H13 st gp2 op2 (al7 x fv y) ys2 [0,6]) ?_ ?_
 ·have gl12:=o12.hgl
  have gg12:=o12.gg
  walk_at "rd"
  rename_i p0 hp0 X dX hX hdX nX
  have cL:=Ch.new (W:=[]) hp0 (.lst [.int 0,.int 6])
  have ci:=Ch.inst (C:=CN) hX hdX nX
  refine ⟨(cL.trans ci).get gl12 (by simp),gg12.tu (Tu.same (cL.trans ci)),oks7 hx hy f0 f1,by simp [al7],(show _=some (HO.lst (([0,6]:List Nat).map nV)) from ci.get zaag (by simp)),(show ∀ o∈([0,6]:List Nat),o < (al7 x fv y).length by simp [al7]),by simp,fun gp1 op1 H9 c9 na=>⟨rfl,?_⟩⟩
  exact ⟨X,gp1,op1,_,rfl,cL.trans (Ch.forget (ci.wk.trans c9) (by simpa using hX)),na⟩
 rintro σ H13 ⟨st,gp2,op2,ys2,rfl,c13,nb13⟩
 have o13:=o12.same c13
 have na13:=na12.ch c13
 have hql13:=c13.get hql12 (by simp)
 have pq13:=pq12.tu (Tu.same c13)
 have hb13:=c13.get hb12 (by simp)
 have pa13:=pa12.ch c13
 clear o12 na12 hql12 pq12 hb12 pa12
 have lxs:xs.length=7:=o13.gg.len
 refine zaa5 (fun σ H14=>∃ st pp sg lo gp2 op2 ys2,σ=[some (.ref a),some (.ref b),some (.ref gl),some (.int m),some (.str g.wd),some (.ref sl),some (.ref bp),some (.int (it:Int)),some (.ref pw),some (.str why),some (.bl lb),some (.ref nt),some (.ref ql),some (.bl du),some (.ref pp),some (.ref st),none]∧CT H13 H14 b c12 1∧SM CN H14 st gp2 op2 sg ys2 pp lo it why x fv y hh) ?_ ?_
 ·have gl13:=o13.hgl
  have hS13:=o13.scr
  have bp13:=o13.hbp
  cases lb with
  | true =>
   walk_at "rd"
   exact ⟨(CT.zero hb13).wk (by omega),nb13,pa13,.inl ⟨rfl,rfl⟩⟩
  | false =>
   walk_at "rd"
   refine zaa5 (fun σ H14=>∃ st gp2 op2 ys2,σ=[some (.ref a),some (.ref b),some (.ref gl),some (.int m),some (.str g.wd),some (.ref sl),some (.ref bp),some (.int (it:Int)),some (.ref pw),some (.str why),some (.bl false),some (.ref nt),some (.ref ql),some (.bl du),some (.ref pp),some (.ref st),none]∧Ch [] H13 H14∧NetAt CN H14 st gp2 op2 (al7 x fv y++[hh]) ys2 [0,6]) ?_ ?_
   ·walk_at "rd"
    rename_i e1 g1' e2 g2' p0 hp0 X dX hX hdX nX
    have cL:=((Ch.new (W:=[]) g1' (.lst [.ref bp])).trans (Ch.new g2' (.lst (xs++[.ref bp])))).trans (Ch.new hp0 (.lst [.int 0,.int 6]))
    have ci:=Ch.inst (C:=CN) hX hdX nX
    refine ⟨ci.get (zaas hp0 zaag) (by simp),(o13.gg.tu (Tu.same (cL.trans ci))).snoc ((cL.trans ci).get bp13 (by simp)),oks8 hx hy f0 f1 hk,by simp [al7],(show _=some (HO.lst (([0,6]:List Nat).map nV)) from ci.get zaag (by simp)),(show ∀ o∈([0,6]:List Nat),o < (al7 x fv y++[hh]).length by simp [al7]),by simp,fun gp1 op1 H9 c9 na=>⟨rfl,?_⟩⟩
    exact ⟨X,gp1,op1,_,rfl,cL.trans (Ch.forget (ci.wk.trans c9) (by simpa using hX)),na⟩
   rintro σ H14 ⟨st2,gp3,op3,ys3,rfl,c14,nb14⟩
   have hb14:=c14.get hb13 (by simp)
   have hS14:=hS13.same c14
   have hql14:=c14.get hql13 (by simp)
   have pq14:=pq13.tu (Tu.same c14)
   walk_at "rd"
   rename_i pL gL z H15 z0 z1 d15 hb15
   have cP:=Ch.new (W:=[]) gL (.lst [])
   have hbL:=cP.get hb14 (by simp)
   have tu:=Tu.lst d15 hbL
   have npb:pL≠b:=(zaa0 hb14 gL).symm
   refine ⟨d15.get zaag (by simpa using npb),Gs.nil _,d15.get (cP.get hql14 (by simp)) (by simpa using nqb),((pq14.tu (Tu.same cP)).tu tu).k,z0,by simp,by simp [prs8],fun pp2 ll ql' k1 k2 k3 zs' qs' H16 c16 e1 e2 e3 e4 e5=>?_⟩
   have ctG:=(((CT.zero hb13).same (c14.trans cP)).bump hbL d15 hb15).same c16 |>.wk (B':=1) (by omega)
   exact ⟨st2,pp2,_,[],gp3,op3,ys3,rfl,ctG,((nb14.ch cP).chb d15 hbL).ch c16,⟨ll,ql',k1,k2,k3,zs',qs',e1,e2,e3,e4,e5⟩,.inr ⟨rfl,rfl⟩⟩
 rintro σ H14 ⟨st,pp,sg,lo,gp2,op2,ys2,rfl,ct14,sm⟩
 have nb14:=sm.net
 have hso:=sm.so
 obtain ⟨ll,ql',k1,k2,k3,zs',qs',e1,e2,e3,e4,e5⟩:=sm.pa.ex
 have na14:=na13.chb ct14.ch hb13
 have sh:=zala (g:=g) (why:=why) hso hx hy f0 f1 gi gk hi hk li rfl
 have eb:phB (al7 x fv y++[hh]) (rho (prs8 it why)) it why g=du:=by
  rw [← edu]
  exact zaky fun a ha=>rho7 (bel.of a ha)
 rw [eb] at sh
 have ls:sg.length≤1000:=by rcases hso with ⟨rfl,rfl⟩ | ⟨rfl,rfl⟩ <;> simp [al7]
 have ll':lo.length≤1000:=by rcases hso with ⟨rfl,rfl⟩ | ⟨rfl,rfl⟩ <;> simp
 have ctF:=((o13.ct.trans hb13 ct14).wk (B':=20) (by omega))
 walk_at "rd"
 refine ⟨by simp [al7],ls,ll',sh,fun H15 c15=>?_⟩
 walk_at "rd"
 rw [decide_eq_true rfl]
 exact q _ (ctF.same c15)
end
end

section
structure OT (K:PySem.W.Frag) (H0 H:Hp) (a b gl bp:Addr) (ns:List Int) (c B:Int) (xs:List V) (x:Nat) (f:Int) (y:Nat) (h:Gt):Prop where
 scr:Scr K H a ns
 ct:CT H0 H b c B
 hgl:H gl=some (.lst xs)
 ngb:gl≠b
 gg:Gs H (al7 x f y) xs
 hbp:H bp=some (.tup h.vs)
section
variable {K:PySem.W.Frag}{H0 H H1:Hp}{a b gl bp:Addr}{ns:List Int}{c B c':Int}{xs:List V}{x y:Nat}{f:Int}{h:Gt}
theorem OT.same (o:OT K H0 H a b gl bp ns c B xs x f y h) (d:Ch [] H H1):OT K H0 H1 a b gl bp ns c B xs x f y h:=⟨o.scr.same d,o.ct.same d,d.get o.hgl (by simp),o.ngb,o.gg.tu (Tu.same d),d.get o.hbp (by simp)⟩
end
structure BH (H:Hp) (bp:Addr) (h:Gt):Prop where
 at_:H bp=some (.tup h.vs)
 ok:h.ok 7 8
 ni:h≠.inp
section
variable {P:Program}{w:World}{K:PySem.W.Frag}{mg:Str→Option Value}{base:Heap}{f:Addr}{fd:FuncData}{k:Nat}
theorem av42:AF (defScope (top 42)) ["_law_script", "_law_at", "_law_gates", "_law_bit", "_law_feed", "_law_m", "_law_some_here", "_law_behind_here", "_law_number_here", "_law_why", "_law_net", "_law_pairs", "_law_due", "_law_small", "_law_paper_here", "_law_found"]:=⟨by decide +kernel⟩
theorem gl42:AG (defScope (top 42)) ["_law_base", "_law_next", "Net", "_law_paper", "small_holds", "isinstance", "bool"]:=⟨by decide +kernel⟩
theorem scKo:FnScope ["_law_script", "_law_at", "_law_gates", "_law_bit", "_law_feed", "_law_m", "_law_some_here", "_law_behind_here", "_law_number_here", "_law_why", "_law_net", "_law_pairs", "_law_due", "_law_small", "_law_paper_here", "_law_found"] ["_law_script", "_law_at"] (defScope (top 42)):=⟨rfl,rfl,rfl,by decide +kernel,rfl,by decide +kernel,by decide +kernel⟩
theorem zapq {CN:Addr} (F:Fun K "_law_keep_one" "_law_keep_one" (top 42) f fd) (D_law_next:DefOk P w K mg base CX0 (k + 1) "_law_next" ["_law_script", "_law_at"] (spNext K)) (D_law_base:DefOk P w K mg base CX0 (k + 1) "_law_base" ["_law_script", "_law_at"] (spBase K))
  (D_law_paper:DefOk P w K mg base CX0 (k + 1) "_law_paper" ["_law_lost", "_law_pairs", "_law_m"] spPap) (Dsmall_holds:DefOk P w K mg base CX0 (k + 1) "small_holds" ["net", "small", "paper"] (spSH CN)) (MkNet:MakeOk P w K mg base CX0 k CN "Net" ["self", "gates", "outs"] (spNet CN)) (z_isinstance:mg "isinstance" = none) (z_bool:mg "bool" = none):FnOk P w K mg base CX0 (k + 2) f fd ["_law_script", "_law_at"] (spOne K):=by
 have nd:=scKo.nd
 refine F.ok scKo (fun vs H Q E h=>by obtain ⟨a,b,ns,c,rfl,_⟩:=h; rfl) (fun cdv A outer s0 H vs Q E hr h=>?_)
 obtain ⟨a,b,ns,c,rfl,hS,hb,h0,h1,q⟩:=h
 have hrm:=hr
 refine ⟨_,(Pr.h (zaat (zaap (i:=2) nd rfl (av42.l 2 rfl) (zaai D_law_base hr (gl42.g 0 rfl) pass0 (zaaa (qv av42 0 rfl) (zaaa (qv av42 1 rfl) zaac zaad) zaad) zadv)) (zaah (zaap (i:=3) nd rfl (av42.l 3 rfl) (zaaq zaba (zaai D_law_next hr (gl42.g 1 rfl) pass0 (zaaa (qv av42 0 rfl) (zaaa (qv av42 1 rfl) zaac zaad) zaad) zaa7) zaae)) (zaah (zaap (i:=4) nd rfl (av42.l 4 rfl) (zaaq zaba (zaai D_law_next hr (gl42.g 1 rfl) pass0 (zaaa (qv av42 0 rfl) (zaaa (qv av42 1 rfl) zaac zaad) zaad) zaa7) zaae)) (zaah (zaap (i:=5) nd rfl (av42.l 5 rfl) (zaai D_law_next hr (gl42.g 1 rfl) pass0 (zaaa (qv av42 0 rfl) (zaaa (qv av42 1 rfl) zaac zaad) zaad) zaa7)) (zaah (zaap (i:=6) nd rfl (av42.l 6 rfl) (zaa2 (zaaa (zaaw (zaaa zaaf (zaaa (qv av42 3 rfl) (zaaa (qv av42 4 rfl) zaac zaad) zaad) zaab)) (zaaa (zaaw (zaaa zaaf (zaaa (qv av42 3 rfl) (zaaa (zaaq zaba (zaaq zac9 (zaaq zac9 (qv av42 4 rfl) zaae) (zaaq zaba (zaaq zabc (qv av42 5 rfl) zaae) zaae)) zaae) zaac zaa9) zaad) zaab)) (zaaa (zaaw (zaaa zaaf (zaaa (zaaq zak2 zaae (qv av42 3 rfl)) (zaaa (qv av42 4 rfl) zaac zaad) zaa9) zaab)) (zaaa (zaaw (zaaa zaaf (zaaa (zaaq zaba (qv av42 4 rfl) zaae) zaac zaa9) zaab)) zaac zaa4) zaa4) zaa4) zaa4))) (zaat (zaap (i:=7) nd rfl (av42.l 7 rfl) (zaar zaal (qv av42 6 rfl) (zaaq zaba (qv av42 5 rfl) zaae) (fun _ _=>rfl))) (zaah (zaap (i:=8) nd rfl (av42.l 8 rfl) (zaar zaal (zaa2 (zaaa zaae (zaaa zaae (zaaa zaae (zaaa zaae zaac zaab) zaab) zaab) zaab)) (zaaq zaba (zaaq zabc (qv av42 5 rfl) zaae) zaae) (fun _ _=>rfl))) (zaat (zaap (i:=9) nd rfl (av42.l 9 rfl) (zaar zaal (zaa2 (zaaa zaaf (zaaa zaaf (zaaa zaaf (zaaa zaaf zaac zaab) zaab) zaab) zaab)) (zaaq zaba (zaaq zabc (qv av42 5 rfl) zaae) zaae) (fun _ _=>rfl))) (zaat (zaap (i:=10) nd rfl (av42.l 10 rfl) (zacv MkNet hrm (gl42.g 2 rfl) pass0 (zaaa (zaaq zac1 (qv av42 2 rfl) (zaa2 (zaaa (zaaw (zaaa zaaf (zaaa (qv av42 3 rfl) (zaaa (qv av42 4 rfl) zaac zaad) zaad) zaab)) zaac zaa4))) (zaaa (zaa2 (zaaa zaae (zaaa zaae zaac zaab) zaab)) zaac zack) zaa9) zae0)) (zaat (zaap (i:=11) nd rfl (av42.l 11 rfl) (zaa2 (zaaa (zaaw (zaaa zaae (zaaa zaaf zaac zaab) zaab)) (zaaa (zaaw (zaaa zaae (zaaa zaaf zaac zaab) zaab)) (zaaa (zaaw (zaaa zaae (zaaa zaaf zaac zaab) zaab)) (zaaa (zaaw (zaaa zaae (zaaa zaaf zaac zaab) zaab)) (zaaa (zaaw (zaaa zaae (zaaa zaaf zaac zaab) zaab)) (zaaa (zaaw (zaaa zaae (zaaa zaaf zaac zaab) zaab)) (zaaa (zaaw (zaaa zaae (zaaa zaaf zaac zaab) zaab)) (zaaa (zaaw (zaaa (qv av42 8 rfl) (zaaa (qv av42 9 rfl) zaac zaad) zaad)) zaac zaa4) zaa4) zaa4) zaa4) zaa4) zaa4) zaa4) zaa4))) (zaat (zaap (i:=12) nd rfl (av42.l 12 rfl) (zaay (zaan zaa3 (qv av42 9 rfl) zaaf (nomark _)) (zaav (zaan (zacq hr.units) (zaar zaal (zaaq zac1 (qv av42 2 rfl) (zaa2 (zaaa (qv av42 7 rfl) zaac zaad))) (qv av42 8 rfl) (fun _ _=>rfl)) (zaaw (zaaa zaaf (zaaa (qv av42 3 rfl) (zaaa (zaar zabx (zaar zaal (qv av42 11 rfl) (qv av42 4 rfl) (fun _ _=>rfl)) zaae (fun _ _=>rfl)) zaac zaaz) zaad) zaab)) (nomark _))))) (zaat (zaap (i:=13) nd rfl (av42.l 13 rfl) (zacv MkNet hrm (gl42.g 2 rfl) pass0 (zaaa (qv av42 2 rfl) (zaaa (zaa2 (zaaa zaae (zaaa zaae zaac zaab) zaab)) zaac zack) zaad) zae0)) (zaat (zaap (i:=14) nd rfl (av42.l 14 rfl) (zaai D_law_paper hr (gl42.g 3 rfl) pass0 (zaaa (zaa2 (zaaa (qv av42 7 rfl) zaac zaad)) (zaaa (qv av42 11 rfl) (zaaa (zaai D_law_next hr (gl42.g 1 rfl) pass0 (zaaa (qv av42 0 rfl) (zaaa (qv av42 1 rfl) zaac zaad) zaad) zaa7) zaac zab8) zaad) zack) zaci)) (zaat (zaa1 (zaak zaa3 (zaaq zaba (zaaq zabc (qv av42 5 rfl) zaae) zaae) zaae (nomark _)) (zaat (zaap (i:=13) nd rfl (av42.l 13 rfl) (zacv MkNet hrm (gl42.g 2 rfl) pass0 (zaaa (zaaq zac1 (qv av42 2 rfl) (zaa2 (zaaa (qv av42 7 rfl) zaac zaad))) (zaaa (zaa2 (zaaa zaae (zaaa zaae zaac zaab) zaab)) zaac zack) zaa9) zae0)) (zaaj (zaap (i:=14) nd rfl (av42.l 14 rfl) (zaai D_law_paper hr (gl42.g 3 rfl) pass0 (zaaa (zaa2 zaac) (zaaa (qv av42 11 rfl) (zaaa (zaaq zabc (qv av42 5 rfl) zaae) zaac zaa9) zaad) zack) zaci)))) zaao) (zaah (zaap (i:=15) nd rfl (av42.l 15 rfl) (zaai Dsmall_holds hr (gl42.g 4 rfl) pass0 (zaaa (qv av42 10 rfl) (zaaa (qv av42 13 rfl) (zaaa (qv av42 14 rfl) zaac zaad) zaad) zaad) zadb)) (zaaj (zaam (zaay (zaax zac7 (gl42.g 5 rfl) z_isinstance zabq (zaaa (qv av42 15 rfl) (zaaa (zaco (v:=.ty "bool") (gl42.g 6 rfl) z_bool zago rfl zagp zagq) zaac)) zabr zabs) (zaav (zaan zaa3 (qv av42 15 rfl) (qv av42 12 rfl) (nomark _)))))))))))))))))))))),?_⟩
 (try dsimp only [cxOf])
 refine zaa5 (fun σ H1=>∃ gl x y f xs,σ=[some (.ref a),some (.ref b),some (.ref gl),none,none,none,none,none,none,none,none,none,none,none,none,none]∧GN H H1 b gl c 3 (al7 x f y) xs∧x < 5∧y < 7∧0≤f∧f < 2) ?_ ?_
 ·walk_at "rd"
 rintro σ H1 ⟨gl,x,y,fv,xs,rfl,n1,hx,hy,f0,f1⟩
 obtain ⟨c1,hb1,lc1,lc1'⟩:=n1.ct.at_
 have hS1:Scr K H1 a ns:=hS.ch hb n1.ct.ch
 walk_at "rd"
 rename_i z1 H2 z10 z11 d2 hb2 z2 H3 z20 z21 d3 hb3 m H4 m0 m1 d4 hb4 t1 g1 t2 g2 t3 g3 t4 g4 so gso
 obtain ⟨fe,efe,lfe⟩:∃ fe:Nat,z2 % 8=(fe:Int)∧fe < 8:=⟨(z2 % 8).toNat,by omega,by omega⟩
 obtain ⟨bit,ebit⟩:∃ bit,z1 % 2=bit:=⟨_,rfl⟩
 obtain ⟨fe2,efe2,lfe2⟩:∃ fe2:Nat,((fe:Int) + 1 + m / 4 % 7) % 8=(fe2:Int)∧fe2 < 8:=⟨(((fe:Int) + 1 + m / 4 % 7) % 8).toNat,by omega,by omega⟩
 obtain ⟨fe7,efe7,lfe7⟩:∃ fe7:Nat,(fe:Int) % 7=(fe7:Int)∧fe7 < 7:=⟨((fe:Int) % 7).toNat,by omega,by omega⟩
 have b0:0≤bit:=by omega
 have b1:bit < 2:=by omega
 dsimp only at g2 g3 g4 gso ⊢
 rw [efe,ebit] at g2 g3 g4 gso ⊢
 rw [efe2] at g3 g4 gso ⊢
 rw [efe7] at gso ⊢
 have n4:=((n1.bump hb1 d2 hb2).bump hb2 d3 hb3).bump hb3 d4 hb4
 have cT:=((((Ch.new (W:=[]) g1 (.tup [.str "keep",.int bit,.int (fe:Int)])).trans (Ch.new g2 (.tup [.str "keep",.int bit,.int (fe2:Int)]))).trans (Ch.new g3 (.tup [.str "keep",.int (1 - bit),.int (fe:Int)]))).trans (Ch.new g4 (.tup [.str "not",.int (fe7:Int)]))).trans (Ch.new gso (.lst [.ref t1,.ref t2,.ref t3,.ref t4]))
 have n5:=n4.same cT
 have hb5:=cT.get hb4 (by simp)
 have k1:upd (upd (upd (upd (upd H4 t1 (.tup [.str "keep",.int bit,.int (fe:Int)])) t2 (.tup [.str "keep",.int bit,.int (fe2:Int)])) t3 (.tup [.str "keep",.int (1 - bit),.int (fe:Int)])) t4 (.tup [.str "not",.int (fe7:Int)])) so (.lst [.ref t1,.ref t2,.ref t3,.ref t4]) t1=some (.tup (Gt.keep bit fe).vs):=zaas gso (zaas g4 (zaas g3 (zaas g2 zaag)))
 have k2:upd (upd (upd (upd (upd H4 t1 (.tup [.str "keep",.int bit,.int (fe:Int)])) t2 (.tup [.str "keep",.int bit,.int (fe2:Int)])) t3 (.tup [.str "keep",.int (1 - bit),.int (fe:Int)])) t4 (.tup [.str "not",.int (fe7:Int)])) so (.lst [.ref t1,.ref t2,.ref t3,.ref t4]) t2=some (.tup (Gt.keep bit fe2).vs):=zaas gso (zaas g4 (zaas g3 zaag))
 have k3:upd (upd (upd (upd (upd H4 t1 (.tup [.str "keep",.int bit,.int (fe:Int)])) t2 (.tup [.str "keep",.int bit,.int (fe2:Int)])) t3 (.tup [.str "keep",.int (1 - bit),.int (fe:Int)])) t4 (.tup [.str "not",.int (fe7:Int)])) so (.lst [.ref t1,.ref t2,.ref t3,.ref t4]) t3=some (.tup (Gt.keep (1 - bit) fe).vs):=zaas gso (zaas g4 zaag)
 have k4:upd (upd (upd (upd (upd H4 t1 (.tup [.str "keep",.int bit,.int (fe:Int)])) t2 (.tup [.str "keep",.int bit,.int (fe2:Int)])) t3 (.tup [.str "keep",.int (1 - bit),.int (fe:Int)])) t4 (.tup [.str "not",.int (fe7:Int)])) so (.lst [.ref t1,.ref t2,.ref t3,.ref t4]) t4=some (.tup (Gt.not fe7).vs):=zaas gso zaag
 have hso:upd (upd (upd (upd (upd H4 t1 (.tup [.str "keep",.int bit,.int (fe:Int)])) t2 (.tup [.str "keep",.int bit,.int (fe2:Int)])) t3 (.tup [.str "keep",.int (1 - bit),.int (fe:Int)])) t4 (.tup [.str "not",.int (fe7:Int)])) so (.lst [.ref t1,.ref t2,.ref t3,.ref t4]) so=some (.lst [.ref t1,.ref t2,.ref t3,.ref t4]):=zaag
 obtain ⟨H5,e5⟩:∃ H5,H5=upd (upd (upd (upd (upd H4 t1 (.tup [.str "keep",.int bit,.int (fe:Int)])) t2 (.tup [.str "keep",.int bit,.int (fe2:Int)])) t3 (.tup [.str "keep",.int (1 - bit),.int (fe:Int)])) t4 (.tup [.str "not",.int (fe7:Int)])) so (.lst [.ref t1,.ref t2,.ref t3,.ref t4]):=⟨_,rfl⟩
 rw [← e5] at n5 hb5 k1 k2 k3 k4 hso ⊢
 clear cT n4 e5 n1 gso g4 g3 g2 g1 d2 d3 d4 hb2 hb3 hb4
 refine zaa5 (fun σ H'=>∃ bp hh,σ=[some (.ref a),some (.ref b),some (.ref gl),some (.int bit),some (.int (fe:Int)),some (.int m),some (.ref so),some (.ref bp),none,none,none,none,none,none,none,none]∧H'=H5∧BH H5 bp hh) ?_ ?_
 ·walk_at "rd"
  have e:m % 4=0∨m % 4=1∨m % 4=2∨m % 4=3:=by omega
  rcases e with e | e | e | e <;> rw [e]
  ·exact Atx.of rfl ⟨t1,.keep bit fe,rfl,rfl,k1,⟨b0,b1,lfe⟩,by intro z; cases z⟩
  ·exact Atx.of rfl ⟨t2,.keep bit fe2,rfl,rfl,k2,⟨b0,b1,lfe2⟩,by intro z; cases z⟩
  ·exact Atx.of rfl ⟨t3,.keep (1 - bit) fe,rfl,rfl,k3,⟨by omega,by omega,lfe⟩,by intro z; cases z⟩
  ·exact Atx.of rfl ⟨t4,.not fe7,rfl,rfl,k4,lfe7,by intro z; cases z⟩
 rintro σ H6 ⟨bp,hh,rfl,rfl,bh⟩
 have o5:OT K H H6 a b gl bp ns c 6 xs x fv y hh:=⟨hS.ch hb n5.ct.ch,n5.ct.wk (by omega),n5.gl,n5.nb,n5.gg,bh.at_⟩
 have hk:=bh.ok
 have hi:=bh.ni
 clear n5 k1 k2 k3 k4 hso bh
 walk_at "rd"
 rename_i e1 g1
 obtain ⟨it,li,eit⟩:∃ it:Nat,it < 8∧atI [V.int 7,V.int 7,V.int 7,V.int 6] (m / 32 % 4)=some (.int (it:Int)):=by
  have e:m / 32 % 4=0∨m / 32 % 4=1∨m / 32 % 4=2∨m / 32 % 4=3:=by omega
  rcases e with e | e | e | e <;> rw [e]
  ·exact ⟨7,by omega,rfl⟩
  ·exact ⟨7,by omega,rfl⟩
  ·exact ⟨7,by omega,rfl⟩
  ·exact ⟨6,by omega,rfl⟩
 refine Atx.of eit ?_
 have c6:=Ch.new (W:=[]) g1 (.lst [.int 7,.int 7,.int 7,.int 6])
 have o6:=o5.same c6
 have hb6:=c6.get hb5 (by simp)
 obtain ⟨H7,e7⟩:∃ H7,H7=upd H6 e1 (.lst [.int 7,.int 7,.int 7,.int 6]):=⟨_,rfl⟩
 rw [← e7] at o6 hb6 ⊢
 clear o5 hb5 c6 e7
 refine zaa5 (fun σ H8=>∃ why,σ=[some (.ref a),some (.ref b),some (.ref gl),some (.int bit),some (.int (fe:Int)),some (.int m),some (.ref so),some (.ref bp),some (.int (it:Int)),some (.str why),none,none,none,none,none,none]∧Ch [] H7 H8) ?_ ?_
 ·obtain ⟨why,_,ewy⟩:=zajy ["keep", "keep", "keep", "same"] (m:=m / 128 % 4) (by omega) (show m / 128 % 4 < 4 by omega)
  walk_at "rd"
  rename_i e2 g2
  refine Atx.of ewy ?_
  exact ⟨why,rfl,Ch.new g2 _⟩
 rintro σ H8 ⟨why,rfl,c8⟩
 have o8:=o6.same c8
 have hb8:=c8.get hb6 (by simp)
 clear o6 hb6
 have gk:(Gt.keep bit fe).ok 7 8:=⟨b0,b1,lfe⟩
 have gi:Gt.keep bit fe≠.inp:=by intro z; cases z
 have lxs:xs.length=7:=o8.gg.len
 refine zaa5 (fun σ H9=>∃ nt gp op ys,σ=[some (.ref a),some (.ref b),some (.ref gl),some (.int bit),some (.int (fe:Int)),some (.int m),some (.ref so),some (.ref bp),some (.int (it:Int)),some (.str why),some (.ref nt),none,none,none,none,none]∧Ch [] H8 H9∧NetAt CN H9 nt gp op (al7 x fv y++[.keep bit fe]) ys [0,6]) ?_ ?_
 ·have gl8:=o8.hgl
  walk_at "rd"
  rename_i t ht p2 h2 p1 h1' p0 hp0 X dX hX hdX nX
  have cL:=(((Ch.new (W:=[]) ht (.tup [.str "keep",.int bit,.int (fe:Int)])).trans (Ch.new h2 (.lst [.ref t]))).trans (Ch.new h1' (.lst (xs++[.ref t])))).trans (Ch.new hp0 (.lst [.int 0,.int 6]))
  have ci:=Ch.inst (C:=CN) hX hdX nX
  have ht2:_=some (HO.tup (Gt.keep bit fe).vs):=ci.get (zaas hp0 (zaas h1' (zaas h2 zaag))) (by simp)
  refine ⟨ci.get (zaas hp0 zaag) (by simp),(o8.gg.tu (Tu.same (cL.trans ci))).snoc ht2,oks8 hx hy f0 f1 gk,by simp [al7],(show _=some (HO.lst (([0,6]:List Nat).map nV)) from ci.get zaag (by simp)),(show ∀ o∈([0,6]:List Nat),o < (al7 x fv y++[Gt.keep bit fe]).length by simp [al7]),by simp,fun gp1 op1 H9 c9 na=>⟨rfl,?_⟩⟩
  exact ⟨X,gp1,op1,_,rfl,cL.trans (Ch.forget (ci.wk.trans c9) (by simpa using hX)),na⟩
 rintro σ H9 ⟨nt,gp,op,ys,rfl,c9,na9⟩
 have o9:=o8.same c9
 have hb9:=c9.get hb8 (by simp)
 clear o8 hb8
 refine zaa5 (fun σ H10=>∃ ql qs,σ=[some (.ref a),some (.ref b),some (.ref gl),some (.int bit),some (.int (fe:Int)),some (.int m),some (.ref so),some (.ref bp),some (.int (it:Int)),some (.str why),some (.ref nt),some (.ref ql),none,none,none,none]∧Ch [] H9 H10∧H10 ql=some (.lst qs)∧PrT H10 (prs8 it why) qs∧H9 ql=none) ?_ ?_
 ·walk_at "rd"
  rename_i q0 a0 q1 a1 q2 a2 q3 a3 q4 a4 q5 a5 q6 a6 q7 a7 ql al
  have cQ:=((((((((Ch.new (W:=[]) a0 (.tup [.int 0,.str "in"])).trans (Ch.new a1 (.tup [.int 1,.str "in"]))).trans (Ch.new a2 (.tup [.int 2,.str "in"]))).trans (Ch.new a3 (.tup [.int 3,.str "same"]))).trans (Ch.new a4 (.tup [.int 4,.str "same"]))).trans (Ch.new a5 (.tup [.int 5,.str "same"]))).trans (Ch.new a6 (.tup [.int 6,.str "keep"]))).trans (Ch.new a7 (.tup [.int (it:Int),.str why])))
  refine ⟨?_,chFree cQ al⟩
  exact (PrT.push (p:=(it,why)) (PrT.push (p:=(6, "keep")) (PrT.push (p:=(5, "same")) (PrT.push (p:=(4, "same")) (PrT.push (p:=(3, "same")) (PrT.push (p:=(2, "in")) (PrT.push (p:=(1, "in")) (PrT.push (p:=(0, "in")) (PrT.nil _) (zaas al (zaas a7 (zaas a6 (zaas a5 (zaas a4 (zaas a3 (zaas a2 (zaas a1 zaag))))))))) (zaas al (zaas a7 (zaas a6 (zaas a5 (zaas a4 (zaas a3 (zaas a2 zaag)))))))) (zaas al (zaas a7 (zaas a6 (zaas a5 (zaas a4 (zaas a3 zaag))))))) (zaas al (zaas a7 (zaas a6 (zaas a5 (zaas a4 zaag)))))) (zaas al (zaas a7 (zaas a6 (zaas a5 zaag))))) (zaas al (zaas a7 (zaas a6 zaag)))) (zaas al (zaas a7 zaag))) (zaas al zaag))
 rintro σ H10 ⟨ql,qs,rfl,c10,hql,pq,fq⟩
 have o10:=o9.same c10
 have hb10:=c10.get hb9 (by simp)
 have na10:=na9.ch c10
 have nqb:ql≠b:=(zaa0 hb9 fq).symm
 clear o9 hb9 na9
 obtain ⟨du,edu⟩:∃ du,phB (al7 x fv y++[hh]) (rho (prs8 it why)) it why (.keep bit fe)=du:=⟨_,rfl⟩
 refine zaa5 (fun σ H11=>σ=[some (.ref a),some (.ref b),some (.ref gl),some (.int bit),some (.int (fe:Int)),some (.int m),some (.ref so),some (.ref bp),some (.int (it:Int)),some (.str why),some (.ref nt),some (.ref ql),some (.bl du),none,none,none]∧Ch [] H10 H11) ?_ ?_
 ·have edu:(decide (why = "keep") && decide ((al7 x fv y++[hh])[it]?=some (.keep bit (rho (prs8 it why) fe))))=du:=edu
  have gl10:=o10.hgl
  have gg10:=o10.gg
  have bp10:=o10.hbp
  obtain ⟨pr,epr⟩:∃ pr,(prs8 it why)[fe]?=some pr:=⟨_,List.getElem?_eq_getElem (by simp [prs8]; omega)⟩
  have er:rho (prs8 it why) fe=pr.1:=by unfold rho; rw [List.getD_eq_getElem?_getD,epr]; rfl
  obtain ⟨pa,epa,hpa⟩:=pq.at_ fe pr epr
  have at1:=zach epa
  rw [er] at edu
  walk_at "rd"
  refine ite2 (fun ez=>?_) (fun ez=>?_)
  ·have hw:=zabi ez
   rw [decide_eq_true hw,Bool.true_and] at edu
   walk_at "rd"
   rename_i e1 g1' e2 g2'
   have cE:=(Ch.new (W:=[]) g1' (.lst [.ref bp])).trans (Ch.new g2' (.lst (xs++[.ref bp])))
   have gga:=(gg10.tu (Tu.same cE)).snoc (g:=hh) (cE.get bp10 (by simp))
   obtain ⟨t,et⟩:∃ t,(al7 x fv y++[hh])[it]?=some t:=⟨_,List.getElem?_eq_getElem (by simp [al7]; omega)⟩
   obtain ⟨pt,ept,hpt⟩:=gga.at_ it t et
   have sct:=Gt.vs_sca t
   have sc2:=Gt.vs_sca (.keep bit pr.1)
   rw [zabd et] at edu
   have hql':=cE.get hql (by simp)
   have hpa':=cE.get hpa (by simp)
   refine Atx.of (zach ept) ?_
   subst edu
   unfold nV at hpa'
   walk_at "rd"
  ·have hw:=zaa8 ez
   rw [decide_eq_false hw,Bool.false_and] at edu
   subst edu
   exact ⟨rfl,Ch.refl _ _⟩
 rintro σ H11 ⟨rfl,c11⟩
 have o11:=o10.same c11
 have hb11:=c11.get hb10 (by simp)
 have na11:=na10.ch c11
 have hql11:=c11.get hql (by simp)
 have pq11:=pq.tu (Tu.same c11)
 clear o10 hb10 na10 hql pq
 refine zaa5 (fun σ H12=>∃ st gp2 op2 ys2,σ=[some (.ref a),some (.ref b),some (.ref gl),some (.int bit),some (.int (fe:Int)),some (.int m),some (.ref so),some (.ref bp),some (.int (it:Int)),some (.str why),some (.ref nt),some (.ref ql),some (.bl du),some (.ref st),none,none]∧Ch [] H11 H12∧NetAt CN H12 st gp2 op2 (al7 x fv y) ys2 [0,6]) ?_ ?_
 ·have gl12:=o11.hgl
  have gg12:=o11.gg
  walk_at "rd"
  rename_i p0 hp0 X dX hX hdX nX
  have cL:=Ch.new (W:=[]) hp0 (.lst [.int 0,.int 6])
  have ci:=Ch.inst (C:=CN) hX hdX nX
  refine ⟨(cL.trans ci).get gl12 (by simp),gg12.tu (Tu.same (cL.trans ci)),oks7 hx hy f0 f1,by simp [al7],(show _=some (HO.lst (([0,6]:List Nat).map nV)) from ci.get zaag (by simp)),(show ∀ o∈([0,6]:List Nat),o < (al7 x fv y).length by simp [al7]),by simp,fun gp1 op1 H9 c9 na=>⟨rfl,?_⟩⟩
  exact ⟨X,gp1,op1,_,rfl,cL.trans (Ch.forget (ci.wk.trans c9) (by simpa using hX)),na⟩
 rintro σ H12 ⟨st,gp2,op2,ys2,rfl,c12,nb12⟩
 have o12:=o11.same c12
 have hb12:=c12.get hb11 (by simp)
 have na12:=na11.ch c12
 have hql12:=c12.get hql11 (by simp)
 have pq12:=pq11.tu (Tu.same c12)
 clear o11 hb11 na11 hql11 pq11
 refine zaa5 (fun σ H13=>∃ pp,σ=[some (.ref a),some (.ref b),some (.ref gl),some (.int bit),some (.int (fe:Int)),some (.int m),some (.ref so),some (.ref bp),some (.int (it:Int)),some (.str why),some (.ref nt),some (.ref ql),some (.bl du),some (.ref st),some (.ref pp),none]∧CT H12 H13 b (c1 + 1 + 1 + 1) 1∧PA H13 pp [hh] it why) ?_ ?_
 ·have hS11:=o12.scr
  have bp11:=o12.hbp
  walk_at "rd"
  rename_i pL gL z H13 z0 z1 d12 hb13
  have cP:=Ch.new (W:=[]) gL (.lst [.ref bp])
  have hbL:=cP.get hb12 (by simp)
  have tu:=Tu.lst d12 hbL
  have npb:pL≠b:=(zaa0 hb12 gL).symm
  refine ⟨d12.get zaag (by simpa using npb),(((Gs.nil _).snoc (g:=hh) (p:=bp) (tu _ _ (cP.get bp11 (by simp))))),d12.get (cP.get hql12 (by simp)) (by simpa using nqb),((pq12.tu (Tu.same cP)).tu tu).k,z0,by simp,by simp [prs8],fun pp ll ql' k1 k2 k3 zs' qs' H14 c14 e1 e2 e3 e4 e5=>?_⟩
  exact ⟨pp,rfl,(((CT.zero hb12).same cP).bump hbL d12 hb13).same c14 |>.wk (by omega),ll,ql',k1,k2,k3,zs',qs',e1,e2,e3,e4,e5⟩
 rintro σ H13 ⟨pp,rfl,ct13,pa13⟩
 obtain ⟨c13,hb13,lc13,lc13'⟩:=ct13.at_
 have tu13:=Tu.lst ct13.ch hb12
 have o13:OT K H H13 a b gl bp ns c 7 xs x fv y hh:=⟨hS.ch hb (o12.ct.trans hb12 ct13).ch,(o12.ct.trans hb12 ct13).wk (by omega),ct13.ch.get o12.hgl (by simpa using o12.ngb),o12.ngb,o12.gg.tu tu13,tu13 _ _ o12.hbp⟩
 have na13:=na12.chb ct13.ch hb12
 have nb13:=nb12.chb ct13.ch hb12
 have hql13:=ct13.ch.get hql12 (by simpa using nqb)
 have pq13:=pq12.tu tu13
 clear o12 na12 hql12 pq12 hb12 tu13 nb12
 have m1024:0≤m / 1024:=by omega
 refine zaa5 (fun σ H14=>∃ st pp sg lo gp2 op2 ys2,σ=[some (.ref a),some (.ref b),some (.ref gl),some (.int bit),some (.int (fe:Int)),some (.int m),some (.ref so),some (.ref bp),some (.int (it:Int)),some (.str why),some (.ref nt),some (.ref ql),some (.bl du),some (.ref st),some (.ref pp),none]∧Ch [] H13 H14∧SM CN H14 st gp2 op2 sg ys2 pp lo it why x fv y hh) ?_ ?_
 ·have gl13:=o13.hgl
  have bp13:=o13.hbp
  walk_at "rd"
  refine ite2 (fun ez=>?_) (fun ez=>?_)
  ·walk_at "rd"
   refine zaa5 (fun σ H14=>∃ st gp2 op2 ys2,σ=[some (.ref a),some (.ref b),some (.ref gl),some (.int bit),some (.int (fe:Int)),some (.int m),some (.ref so),some (.ref bp),some (.int (it:Int)),some (.str why),some (.ref nt),some (.ref ql),some (.bl du),some (.ref st),some (.ref pp),none]∧Ch [] H13 H14∧NetAt CN H14 st gp2 op2 (al7 x fv y++[hh]) ys2 [0,6]) ?_ ?_
   ·walk_at "rd"
    rename_i e1 g1' e2 g2' p0 hp0 X dX hX hdX nX
    have cL:=((Ch.new (W:=[]) g1' (.lst [.ref bp])).trans (Ch.new g2' (.lst (xs++[.ref bp])))).trans (Ch.new hp0 (.lst [.int 0,.int 6]))
    have ci:=Ch.inst (C:=CN) hX hdX nX
    refine ⟨ci.get (zaas hp0 zaag) (by simp),(o13.gg.tu (Tu.same (cL.trans ci))).snoc ((cL.trans ci).get bp13 (by simp)),oks8 hx hy f0 f1 hk,by simp [al7],(show _=some (HO.lst (([0,6]:List Nat).map nV)) from ci.get zaag (by simp)),(show ∀ o∈([0,6]:List Nat),o < (al7 x fv y++[hh]).length by simp [al7]),by simp,fun gp1 op1 H9 c9 na=>⟨rfl,?_⟩⟩
    exact ⟨X,gp1,op1,_,rfl,cL.trans (Ch.forget (ci.wk.trans c9) (by simpa using hX)),na⟩
   rintro σ H14 ⟨st2,gp3,op3,ys3,rfl,c14,nb14⟩
   have hql14:=c14.get hql13 (by simp)
   have pq14:=pq13.tu (Tu.same c14)
   walk_at "rd"
   rename_i pL gL
   have cP:=Ch.new (W:=[]) gL (.lst [])
   refine ⟨Gs.nil _,cP.get hql14 (by simp),(pq14.tu (Tu.same cP)).k,m1024,by simp,by simp [prs8],fun pp2 ll ql' k1 k2 k3 zs' qs' H16 c16 e1 e2 e3 e4 e5=>?_⟩
   exact ⟨st2,pp2,_,[],gp3,op3,ys3,rfl,(c14.trans cP).trans c16,(nb14.ch cP).ch c16,⟨ll,ql',k1,k2,k3,zs',qs',e1,e2,e3,e4,e5⟩,.inr ⟨rfl,rfl⟩⟩
  ·exact ⟨st,pp,_,[hh],gp2,op2,ys2,rfl,Ch.refl _ _,nb13,pa13,.inl ⟨rfl,rfl⟩⟩
 rintro σ H14 ⟨st,pp,sg,lo,gp2,op2,ys2,rfl,c14,sm⟩
 have nb14:=sm.net
 have hso:=sm.so
 obtain ⟨ll,ql',k1,k2,k3,zs',qs',e1,e2,e3,e4,e5⟩:=sm.pa.ex
 have na14:=na13.ch c14
 have sh:=zala (g:=.keep bit fe) (why:=why) hso hx hy f0 f1 gi gk hi hk li edu
 have ls:sg.length≤1000:=by rcases hso with ⟨rfl,rfl⟩ | ⟨rfl,rfl⟩ <;> simp [al7]
 have ll':lo.length≤1000:=by rcases hso with ⟨rfl,rfl⟩ | ⟨rfl,rfl⟩ <;> simp
 have ctF:=((o13.ct.same c14).wk (B':=20) (by omega))
 walk_at "rd"
 refine ⟨by simp [al7],ls,ll',sh,fun H15 c15=>?_⟩
 walk_at "rd"
 rw [decide_eq_true rfl]
 exact q _ (ctF.same c15)
end
end

section
section
variable {P:Program}{w:World}{K:PySem.W.Frag}{mg:Str→Option Value}{base:Heap}{f:Addr}{fd:FuncData}{k:Nat}
theorem zaou:bootBuiltins "min" = some (.builtin "min"):=by decide +kernel
theorem zaov:("min" : Str) ≠ "__name__" := by decide +kernel
theorem zaow:Nd "min" := by decide +kernel
theorem zadz:Nd "_law_keep_one" := by decide +kernel
theorem zag3:Nd "_law_one" := by decide +kernel
theorem av43:AF (defScope (top 43)) ["_law_script", "_law_at", "_law_turn"]:=⟨by decide +kernel⟩
theorem gl43:AG (defScope (top 43)) ["range", "min", "len", "_law_keep_one", "_law_one"]:=⟨by decide +kernel⟩
def spLaw (K:PySem.W.Frag):Sp:=fun vs H Q _=>∃ (a:Addr) (ns:List Int),vs=[.ref a]∧Scr K H a ns∧∀ H',Q (.bl true) H'
theorem scLaw:FnScope ["_law_script", "_law_at", "_law_turn"] ["_law_script"] (defScope (top 43)):=⟨rfl,rfl,rfl,by decide +kernel,rfl,by decide +kernel,by decide +kernel⟩
theorem zaox (F:Fun K "law" "law" (top 43) f fd) (D_law_one:DefOk P w K mg base CX0 k "_law_one" ["_law_script", "_law_at"] (spOne K)) (D_law_keep_one:DefOk P w K mg base CX0 k "_law_keep_one" ["_law_script", "_law_at"] (spOne K)) (z_len:mg "len" = none) (z_min:mg "min" = none) (z_range:mg "range" = none):FnOk P w K mg base CX0 (k + 1) f fd ["_law_script"] (spLaw K):=by
 have nd:=scLaw.nd
 refine F.ok scLaw (fun vs H Q E h=>by obtain ⟨a,ns,rfl,_⟩:=h; rfl) (fun cdv A outer s H vs Q E hr h=>?_)
 obtain ⟨a,ns,rfl,hS,q⟩:=h
 refine ⟨_,(Pr.h (zaah (zaap (i:=1) nd rfl (av43.l 1 rfl) (zaa2 (zaaa zaae zaac zaab))) (zaah (zacf PassesOwn.never rfl (zado (gl43.g 0 rfl) z_range (zaaa (zaaq zac9 zaae (zaax (zaic rfl) (gl43.g 1 rfl) z_min zaou (zaaa zaae (zaaa (zaaq zabc (zaax zaau (gl43.g 2 rfl) z_len PySem.boot_len (zaaa (qv av43 0 rfl) zaac zaad) zabl zabm) zaae) zaac zaa9) zaab) zaov zaow)) zaac zaa9)) (zaa6 (i:=2) nd rfl (av43.l 2 rfl)) (zaaj (zaa1 (zab3 (zac3 (zab9 (zabu (zaai D_law_one hr (gl43.g 4 rfl) pass0 (zaaa (qv av43 0 rfl) (zaaa (qv av43 1 rfl) zaac zaad) zaad) zag3))) (zact (zab9 (zabu (zaai D_law_keep_one hr (gl43.g 3 rfl) pass0 (zaaa (qv av43 0 rfl) (zaaa (qv av43 1 rfl) zaac zaad) zaad) zadz)))))) (zaaj (zaam zabw)) zaao))) (zaaj (zaam zabw))))),?_⟩
 (try dsimp only [cxOf])
 have bx:Box (Scr K H a ns):=⟨hS⟩
 walk_at "rd"
 rename_i b hb
 have hS1:=bx.h.same (Ch.new hb (.lst [.int 0]))
 have hbl:upd H b (.lst [.int 0]) b=some (.lst [.int 0]):=zaag
 obtain ⟨H1,e1⟩:∃ H1,H1=upd H b (.lst [.int 0]):=⟨_,rfl⟩
 rw [← e1] at hS1 hbl ⊢
 have hn:((4:Int) + if ((ns.map V.int).length:Int) / 8 < 4 then ((ns.map V.int).length:Int) / 8 else 4).toNat≤8:=by split <;> omega
 obtain ⟨n,en⟩:∃ n:Nat,((4:Int) + if ((ns.map V.int).length:Int) / 8 < 4 then ((ns.map V.int).length:Int) / 8 else 4).toNat=n:=⟨_,rfl⟩
 rw [en] at hn ⊢
 refine zadl (fun i σ H'=>∃ u,σ=[some (.ref a),some (.ref b),u]∧CT H1 H' b 0 (40 * (i:Int))) ⟨_,rfl,(CT.zero hbl).wk (by omega)⟩ ?_ ?_
 ·rintro i σ H' hi ⟨u,rfl,ct⟩
  obtain ⟨c1,hb1,l1,l1'⟩:=ct.at_
  have bx2:Box (Scr K H' a ns):=⟨hS1.ch hbl ct.ch⟩
  clear hS1 hS
  walk_at "rd"
  refine ⟨bx2.h,hb1,l1,by omega,fun H3 ct3=>?_⟩
  obtain ⟨c3,hb3,l3,l3'⟩:=ct3.at_
  have hS3:Scr K H3 a ns:=bx2.h.ch hb1 ct3.ch
  walk_at "rd"
  rename_i H4 ct4
  have ct5:=((ct.trans hb1 ct3).trans hb3 ct4).wk (B':=40 * ((i + 1:Nat):Int)) (by omega)
  exact ct5
 ·rintro σ H' ⟨u,rfl,ct⟩
  walk_at "rd"
  exact q _
end
end

section
def spt5 (a b c d:Addr) (f:Addr):Sp:=if f=a then spRu "not" else if f=b then spRu "and" else if f=c then spRu "or" else if f=d then spRu "xor" else spRu "pick"
theorem zaoy:∀ vs H Q E,spRu "not" vs H Q E→spNotB vs H Q E:=fun vs H Q E h=>by
 rcases h with ⟨e,h⟩ | ⟨e,h⟩ | ⟨e,h⟩ | ⟨e,h⟩ | ⟨e,h⟩ <;> first | exact h | exact absurd e (by decide +kernel)
theorem zaoz:∀ vs H Q E,spRu "and" vs H Q E→spAndB vs H Q E:=fun vs H Q E h=>by
 rcases h with ⟨e,h⟩ | ⟨e,h⟩ | ⟨e,h⟩ | ⟨e,h⟩ | ⟨e,h⟩ <;> first | exact h | exact absurd e (by decide +kernel)
theorem zapr:∀ vs H Q E,spRu "or" vs H Q E→spOrB vs H Q E:=fun vs H Q E h=>by
 rcases h with ⟨e,h⟩ | ⟨e,h⟩ | ⟨e,h⟩ | ⟨e,h⟩ | ⟨e,h⟩ <;> first | exact h | exact absurd e (by decide +kernel)
theorem zao0:∀ vs H Q E,spRu "xor" vs H Q E→spXorB vs H Q E:=fun vs H Q E h=>by
 rcases h with ⟨e,h⟩ | ⟨e,h⟩ | ⟨e,h⟩ | ⟨e,h⟩ | ⟨e,h⟩ <;> first | exact h | exact absurd e (by decide +kernel)
theorem zamv:∀ vs H Q E,spRu "pick" vs H Q E→spPickB vs H Q E:=fun vs H Q E h=>by
 rcases h with ⟨e,h⟩ | ⟨e,h⟩ | ⟨e,h⟩ | ⟨e,h⟩ | ⟨e,h⟩ <;> first | exact h | exact absurd e (by decide +kernel)
theorem zao1 {l:PySem.W.OpenLaw}{w:World}{K:PySem.W.Frag}{h:Heap}{mg:Str→Option Value}{fa CN:Addr} (X:K.In h) (G:h.Ns mainGlobals mg) (hfa:mg "law" = some (.ref fa))
  {f0:Addr}{od0 an0:Option Addr}{sl0:Array (Option Value)}{oc0 kV0 dc0 pm0 cd0 ct0:Value}
  {f1:Addr}{od1 an1:Option Addr}{sl1:Array (Option Value)}{oc1 kV1 dc1 pm1 cd1 ct1:Value}
  {f2:Addr}{od2 an2:Option Addr}{sl2:Array (Option Value)}{oc2 kV2 dc2 pm2 cd2 ct2:Value}
  {f3:Addr}{od3 an3:Option Addr}{sl3:Array (Option Value)}{oc3 kV3 dc3 pm3 cd3 ct3:Value}
  {f4:Addr}{od4 an4:Option Addr}{sl4:Array (Option Value)}{oc4 kV4 dc4 pm4 cd4 ct4:Value}
  {f5:Addr}{od5 an5:Option Addr}{sl5:Array (Option Value)}{oc5 kV5 dc5 pm5 cd5 ct5:Value}
  {f6:Addr}{od6 an6:Option Addr}{sl6:Array (Option Value)}{oc6 kV6 dc6 pm6 cd6 ct6:Value}
  {f7:Addr}{od7 an7:Option Addr}{sl7:Array (Option Value)}{oc7 kV7 dc7 pm7 cd7 ct7:Value}
  {f8:Addr}{od8 an8:Option Addr}{sl8:Array (Option Value)}{oc8 kV8 dc8 pm8 cd8 ct8:Value}
  {f9:Addr}{od9 an9:Option Addr}{sl9:Array (Option Value)}{oc9 kV9 dc9 pm9 cd9 ct9:Value}
  {f10:Addr}{od10 an10:Option Addr}{sl10:Array (Option Value)}{oc10 kV10 dc10 pm10 cd10 ct10:Value}
  {f11:Addr}{od11 an11:Option Addr}{sl11:Array (Option Value)}{oc11 kV11 dc11 pm11 cd11 ct11:Value}
  {f12:Addr}{od12 an12:Option Addr}{sl12:Array (Option Value)}{oc12 kV12 dc12 pm12 cd12 ct12:Value}
  {f13:Addr}{od13 an13:Option Addr}{sl13:Array (Option Value)}{oc13 kV13 dc13 pm13 cd13 ct13:Value}
  {f14:Addr}{od14 an14:Option Addr}{sl14:Array (Option Value)}{oc14 kV14 dc14 pm14 cd14 ct14:Value}
  {f15:Addr}{od15 an15:Option Addr}{sl15:Array (Option Value)}{oc15 kV15 dc15 pm15 cd15 ct15:Value}
  {f16:Addr}{od16 an16:Option Addr}{sl16:Array (Option Value)}{oc16 kV16 dc16 pm16 cd16 ct16:Value}
  {f17:Addr}{od17 an17:Option Addr}{sl17:Array (Option Value)}{oc17 kV17 dc17 pm17 cd17 ct17:Value}
  {f18:Addr}{od18 an18:Option Addr}{sl18:Array (Option Value)}{oc18 kV18 dc18 pm18 cd18 ct18:Value}
  {f19:Addr}{od19 an19:Option Addr}{sl19:Array (Option Value)}{oc19 kV19 dc19 pm19 cd19 ct19:Value}
  {f20:Addr}{od20 an20:Option Addr}{sl20:Array (Option Value)}{oc20 kV20 dc20 pm20 cd20 ct20:Value}
  {f21:Addr}{od21 an21:Option Addr}{sl21:Array (Option Value)}{oc21 kV21 dc21 pm21 cd21 ct21:Value}
  {f22:Addr}{od22 an22:Option Addr}{sl22:Array (Option Value)}{oc22 kV22 dc22 pm22 cd22 ct22:Value}
  {f23:Addr}{od23 an23:Option Addr}{sl23:Array (Option Value)}{oc23 kV23 dc23 pm23 cd23 ct23:Value}
  {f24:Addr}{od24 an24:Option Addr}{sl24:Array (Option Value)}{oc24 kV24 dc24 pm24 cd24 ct24:Value}
  {f25:Addr}{od25 an25:Option Addr}{sl25:Array (Option Value)}{oc25 kV25 dc25 pm25 cd25 ct25:Value}
  {f26:Addr}{od26 an26:Option Addr}{sl26:Array (Option Value)}{oc26 kV26 dc26 pm26 cd26 ct26:Value}
  {f27:Addr}{od27 an27:Option Addr}{sl27:Array (Option Value)}{oc27 kV27 dc27 pm27 cd27 ct27:Value}
  {f28:Addr}{od28 an28:Option Addr}{sl28:Array (Option Value)}{oc28 kV28 dc28 pm28 cd28 ct28:Value}
  {f29:Addr}{od29 an29:Option Addr}{sl29:Array (Option Value)}{oc29 kV29 dc29 pm29 cd29 ct29:Value}
  {f30:Addr}{od30 an30:Option Addr}{sl30:Array (Option Value)}{oc30 kV30 dc30 pm30 cd30 ct30:Value}
  {f31:Addr}{od31 an31:Option Addr}{sl31:Array (Option Value)}{oc31 kV31 dc31 pm31 cd31 ct31:Value}
  {f32:Addr}{od32 an32:Option Addr}{sl32:Array (Option Value)}{oc32 kV32 dc32 pm32 cd32 ct32:Value}
  {f33:Addr}{od33 an33:Option Addr}{sl33:Array (Option Value)}{oc33 kV33 dc33 pm33 cd33 ct33:Value}
  {f34:Addr}{od34 an34:Option Addr}{sl34:Array (Option Value)}{oc34 kV34 dc34 pm34 cd34 ct34:Value}
  (aN:PySem.W.nsIn K mainGlobals "Net" = some (some (.ref CN)))
  (a0:PySem.W.nsIn K mainGlobals "is_whole" = some (some (.ref f0))) (l0:K.lookup f0=some ⟨oc0,od0,.func (PySem.W.fnOf "is_whole" "is_whole" (defArgs (top 4)) (defBody (top 4)) (defScope (top 4)) .none kV0 dc0 pm0 an0 cd0 ct0),sl0⟩) (c0:PySem.W.codeIn K cd0 "is_whole" = true) (k0:PySem.W.keepIn K (.ref f0)=true)
  (a1:PySem.W.nsIn K mainGlobals "is_below" = some (some (.ref f1))) (l1:K.lookup f1=some ⟨oc1,od1,.func (PySem.W.fnOf "is_below" "is_below" (defArgs (top 5)) (defBody (top 5)) (defScope (top 5)) .none kV1 dc1 pm1 an1 cd1 ct1),sl1⟩) (c1:PySem.W.codeIn K cd1 "is_below" = true) (k1:PySem.W.keepIn K (.ref f1)=true)
  (a2:PySem.W.nsIn K mainGlobals "is_listed" = some (some (.ref f2))) (l2:K.lookup f2=some ⟨oc2,od2,.func (PySem.W.fnOf "is_listed" "is_listed" (defArgs (top 6)) (defBody (top 6)) (defScope (top 6)) .none kV2 dc2 pm2 an2 cd2 ct2),sl2⟩) (c2:PySem.W.codeIn K cd2 "is_listed" = true) (k2:PySem.W.keepIn K (.ref f2)=true)
  (a3:PySem.W.nsIn K mainGlobals "is_pair" = some (some (.ref f3))) (l3:K.lookup f3=some ⟨oc3,od3,.func (PySem.W.fnOf "is_pair" "is_pair" (defArgs (top 7)) (defBody (top 7)) (defScope (top 7)) .none kV3 dc3 pm3 an3 cd3 ct3),sl3⟩) (c3:PySem.W.codeIn K cd3 "is_pair" = true) (k3:PySem.W.keepIn K (.ref f3)=true)
  (a4:PySem.W.nsIn K mainGlobals "is_gate" = some (some (.ref f4))) (l4:K.lookup f4=some ⟨oc4,od4,.func (PySem.W.fnOf "is_gate" "is_gate" (defArgs (top 10)) (defBody (top 10)) (defScope (top 10)) .none kV4 dc4 pm4 an4 cd4 ct4),sl4⟩) (c4:PySem.W.codeIn K cd4 "is_gate" = true) (k4:PySem.W.keepIn K (.ref f4)=true)
  (a5:PySem.W.nsIn K mainGlobals "ins_of" = some (some (.ref f5))) (l5:K.lookup f5=some ⟨oc5,od5,.func (PySem.W.fnOf "ins_of" "ins_of" (defArgs (top 12)) (defBody (top 12)) (defScope (top 12)) .none kV5 dc5 pm5 an5 cd5 ct5),sl5⟩) (c5:PySem.W.codeIn K cd5 "ins_of" = true) (k5:PySem.W.keepIn K (.ref f5)=true)
  (a6:PySem.W.nsIn K mainGlobals "feeds_of" = some (some (.ref f6))) (l6:K.lookup f6=some ⟨oc6,od6,.func (PySem.W.fnOf "feeds_of" "feeds_of" (defArgs (top 13)) (defBody (top 13)) (defScope (top 13)) .none kV6 dc6 pm6 an6 cd6 ct6),sl6⟩) (c6:PySem.W.codeIn K cd6 "feeds_of" = true) (k6:PySem.W.keepIn K (.ref f6)=true)
  (a7:PySem.W.nsIn K mainGlobals "is_zero" = some (some (.ref f7))) (l7:K.lookup f7=some ⟨oc7,od7,.func (PySem.W.fnOf "is_zero" "is_zero" (defArgs (top 15)) (defBody (top 15)) (defScope (top 15)) .none kV7 dc7 pm7 an7 cd7 ct7),sl7⟩) (c7:PySem.W.codeIn K cd7 "is_zero" = true) (k7:PySem.W.keepIn K (.ref f7)=true)
  (a8:PySem.W.nsIn K mainGlobals "is_one" = some (some (.ref f8))) (l8:K.lookup f8=some ⟨oc8,od8,.func (PySem.W.fnOf "is_one" "is_one" (defArgs (top 16)) (defBody (top 16)) (defScope (top 16)) .none kV8 dc8 pm8 an8 cd8 ct8),sl8⟩) (c8:PySem.W.codeIn K cd8 "is_one" = true) (k8:PySem.W.keepIn K (.ref f8)=true)
  (a9:PySem.W.nsIn K mainGlobals "are_opposed" = some (some (.ref f9))) (l9:K.lookup f9=some ⟨oc9,od9,.func (PySem.W.fnOf "are_opposed" "are_opposed" (defArgs (top 17)) (defBody (top 17)) (defScope (top 17)) .none kV9 dc9 pm9 an9 cd9 ct9),sl9⟩) (c9:PySem.W.codeIn K cd9 "are_opposed" = true) (k9:PySem.W.keepIn K (.ref f9)=true)
  (a10:PySem.W.nsIn K mainGlobals "not_holds" = some (some (.ref f10))) (l10:K.lookup f10=some ⟨oc10,od10,.func (PySem.W.fnOf "not_holds" "not_holds" (defArgs (top 18)) (defBody (top 18)) (defScope (top 18)) .none kV10 dc10 pm10 an10 cd10 ct10),sl10⟩) (c10:PySem.W.codeIn K cd10 "not_holds" = true) (k10:PySem.W.keepIn K (.ref f10)=true)
  (a11:PySem.W.nsIn K mainGlobals "and_holds" = some (some (.ref f11))) (l11:K.lookup f11=some ⟨oc11,od11,.func (PySem.W.fnOf "and_holds" "and_holds" (defArgs (top 19)) (defBody (top 19)) (defScope (top 19)) .none kV11 dc11 pm11 an11 cd11 ct11),sl11⟩) (c11:PySem.W.codeIn K cd11 "and_holds" = true) (k11:PySem.W.keepIn K (.ref f11)=true)
  (a12:PySem.W.nsIn K mainGlobals "or_holds" = some (some (.ref f12))) (l12:K.lookup f12=some ⟨oc12,od12,.func (PySem.W.fnOf "or_holds" "or_holds" (defArgs (top 20)) (defBody (top 20)) (defScope (top 20)) .none kV12 dc12 pm12 an12 cd12 ct12),sl12⟩) (c12:PySem.W.codeIn K cd12 "or_holds" = true) (k12:PySem.W.keepIn K (.ref f12)=true)
  (a13:PySem.W.nsIn K mainGlobals "xor_holds" = some (some (.ref f13))) (l13:K.lookup f13=some ⟨oc13,od13,.func (PySem.W.fnOf "xor_holds" "xor_holds" (defArgs (top 21)) (defBody (top 21)) (defScope (top 21)) .none kV13 dc13 pm13 an13 cd13 ct13),sl13⟩) (c13:PySem.W.codeIn K cd13 "xor_holds" = true) (k13:PySem.W.keepIn K (.ref f13)=true)
  (a14:PySem.W.nsIn K mainGlobals "pick_holds" = some (some (.ref f14))) (l14:K.lookup f14=some ⟨oc14,od14,.func (PySem.W.fnOf "pick_holds" "pick_holds" (defArgs (top 22)) (defBody (top 22)) (defScope (top 22)) .none kV14 dc14 pm14 an14 cd14 ct14),sl14⟩) (c14:PySem.W.codeIn K cd14 "pick_holds" = true) (k14:PySem.W.keepIn K (.ref f14)=true)
  (a15:PySem.W.nsIn K mainGlobals "pair_holds" = some (some (.ref f15))) (l15:K.lookup f15=some ⟨oc15,od15,.func (PySem.W.fnOf "pair_holds" "pair_holds" (defArgs (top 24)) (defBody (top 24)) (defScope (top 24)) .none kV15 dc15 pm15 an15 cd15 ct15),sl15⟩) (c15:PySem.W.codeIn K cd15 "pair_holds" = true) (k15:PySem.W.keepIn K (.ref f15)=true)
  (a16:PySem.W.nsIn K mainGlobals "with_lost" = some (some (.ref f16))) (l16:K.lookup f16=some ⟨oc16,od16,.func (PySem.W.fnOf "with_lost" "with_lost" (defArgs (top 25)) (defBody (top 25)) (defScope (top 25)) .none kV16 dc16 pm16 an16 cd16 ct16),sl16⟩) (c16:PySem.W.codeIn K cd16 "with_lost" = true) (k16:PySem.W.keepIn K (.ref f16)=true)
  (a17:PySem.W.nsIn K mainGlobals "are_pairs" = some (some (.ref f17))) (l17:K.lookup f17=some ⟨oc17,od17,.func (PySem.W.fnOf "are_pairs" "are_pairs" (defArgs (top 26)) (defBody (top 26)) (defScope (top 26)) .none kV17 dc17 pm17 an17 cd17 ct17),sl17⟩) (c17:PySem.W.codeIn K cd17 "are_pairs" = true) (k17:PySem.W.keepIn K (.ref f17)=true)
  (a18:PySem.W.nsIn K mainGlobals "ins_hold" = some (some (.ref f18))) (l18:K.lookup f18=some ⟨oc18,od18,.func (PySem.W.fnOf "ins_hold" "ins_hold" (defArgs (top 27)) (defBody (top 27)) (defScope (top 27)) .none kV18 dc18 pm18 an18 cd18 ct18),sl18⟩) (c18:PySem.W.codeIn K cd18 "ins_hold" = true) (k18:PySem.W.keepIn K (.ref f18)=true)
  (a19:PySem.W.nsIn K mainGlobals "outs_hold" = some (some (.ref f19))) (l19:K.lookup f19=some ⟨oc19,od19,.func (PySem.W.fnOf "outs_hold" "outs_hold" (defArgs (top 28)) (defBody (top 28)) (defScope (top 28)) .none kV19 dc19 pm19 an19 cd19 ct19),sl19⟩) (c19:PySem.W.codeIn K cd19 "outs_hold" = true) (k19:PySem.W.keepIn K (.ref f19)=true)
  (a20:PySem.W.nsIn K mainGlobals "gates_hold" = some (some (.ref f20))) (l20:K.lookup f20=some ⟨oc20,od20,.func (PySem.W.fnOf "gates_hold" "gates_hold" (defArgs (top 29)) (defBody (top 29)) (defScope (top 29)) .none kV20 dc20 pm20 an20 cd20 ct20),sl20⟩) (c20:PySem.W.codeIn K cd20 "gates_hold" = true) (k20:PySem.W.keepIn K (.ref f20)=true)
  (a21:PySem.W.nsIn K mainGlobals "small_holds" = some (some (.ref f21))) (l21:K.lookup f21=some ⟨oc21,od21,.func (PySem.W.fnOf "small_holds" "small_holds" (defArgs (top 30)) (defBody (top 30)) (defScope (top 30)) .none kV21 dc21 pm21 an21 cd21 ct21),sl21⟩) (c21:PySem.W.codeIn K cd21 "small_holds" = true) (k21:PySem.W.keepIn K (.ref f21)=true)
  (a22:PySem.W.nsIn K mainGlobals "_law_next" = some (some (.ref f22))) (l22:K.lookup f22=some ⟨oc22,od22,.func (PySem.W.fnOf "_law_next" "_law_next" (defArgs (top 32)) (defBody (top 32)) (defScope (top 32)) .none kV22 dc22 pm22 an22 cd22 ct22),sl22⟩) (c22:PySem.W.codeIn K cd22 "_law_next" = true) (k22:PySem.W.keepIn K (.ref f22)=true)
  (a23:PySem.W.nsIn K mainGlobals "_law_nots" = some (some (.ref f23))) (l23:K.lookup f23=some ⟨oc23,od23,.func (PySem.W.fnOf "_law_nots" "_law_nots" (defArgs (top 33)) (defBody (top 33)) (defScope (top 33)) .none kV23 dc23 pm23 an23 cd23 ct23),sl23⟩) (c23:PySem.W.codeIn K cd23 "_law_nots" = true) (k23:PySem.W.keepIn K (.ref f23)=true)
  (a24:PySem.W.nsIn K mainGlobals "_law_rule" = some (some (.ref f24))) (l24:K.lookup f24=some ⟨oc24,od24,.func (PySem.W.fnOf "_law_rule" "_law_rule" (defArgs (top 34)) (defBody (top 34)) (defScope (top 34)) .none kV24 dc24 pm24 an24 cd24 ct24),sl24⟩) (c24:PySem.W.codeIn K cd24 "_law_rule" = true) (k24:PySem.W.keepIn K (.ref f24)=true)
  (a25:PySem.W.nsIn K mainGlobals "_law_base" = some (some (.ref f25))) (l25:K.lookup f25=some ⟨oc25,od25,.func (PySem.W.fnOf "_law_base" "_law_base" (defArgs (top 35)) (defBody (top 35)) (defScope (top 35)) .none kV25 dc25 pm25 an25 cd25 ct25),sl25⟩) (c25:PySem.W.codeIn K cd25 "_law_base" = true) (k25:PySem.W.keepIn K (.ref f25)=true)
  (a26:PySem.W.nsIn K mainGlobals "_law_some" = some (some (.ref f26))) (l26:K.lookup f26=some ⟨oc26,od26,.func (PySem.W.fnOf "_law_some" "_law_some" (defArgs (top 36)) (defBody (top 36)) (defScope (top 36)) .none kV26 dc26 pm26 an26 cd26 ct26),sl26⟩) (c26:PySem.W.codeIn K cd26 "_law_some" = true) (k26:PySem.W.keepIn K (.ref f26)=true)
  (a27:PySem.W.nsIn K mainGlobals "_law_behind" = some (some (.ref f27))) (l27:K.lookup f27=some ⟨oc27,od27,.func (PySem.W.fnOf "_law_behind" "_law_behind" (defArgs (top 37)) (defBody (top 37)) (defScope (top 37)) .none kV27 dc27 pm27 an27 cd27 ct27),sl27⟩) (c27:PySem.W.codeIn K cd27 "_law_behind" = true) (k27:PySem.W.keepIn K (.ref f27)=true)
  (a28:PySem.W.nsIn K mainGlobals "_law_number" = some (some (.ref f28))) (l28:K.lookup f28=some ⟨oc28,od28,.func (PySem.W.fnOf "_law_number" "_law_number" (defArgs (top 38)) (defBody (top 38)) (defScope (top 38)) .none kV28 dc28 pm28 an28 cd28 ct28),sl28⟩) (c28:PySem.W.codeIn K cd28 "_law_number" = true) (k28:PySem.W.keepIn K (.ref f28)=true)
  (a29:PySem.W.nsIn K mainGlobals "_law_as" = some (some (.ref f29))) (l29:K.lookup f29=some ⟨oc29,od29,.func (PySem.W.fnOf "_law_as" "_law_as" (defArgs (top 39)) (defBody (top 39)) (defScope (top 39)) .none kV29 dc29 pm29 an29 cd29 ct29),sl29⟩) (c29:PySem.W.codeIn K cd29 "_law_as" = true) (k29:PySem.W.keepIn K (.ref f29)=true)
  (a30:PySem.W.nsIn K mainGlobals "_law_paper" = some (some (.ref f30))) (l30:K.lookup f30=some ⟨oc30,od30,.func (PySem.W.fnOf "_law_paper" "_law_paper" (defArgs (top 40)) (defBody (top 40)) (defScope (top 40)) .none kV30 dc30 pm30 an30 cd30 ct30),sl30⟩) (c30:PySem.W.codeIn K cd30 "_law_paper" = true) (k30:PySem.W.keepIn K (.ref f30)=true)
  (a31:PySem.W.nsIn K mainGlobals "_law_one" = some (some (.ref f31))) (l31:K.lookup f31=some ⟨oc31,od31,.func (PySem.W.fnOf "_law_one" "_law_one" (defArgs (top 41)) (defBody (top 41)) (defScope (top 41)) .none kV31 dc31 pm31 an31 cd31 ct31),sl31⟩) (c31:PySem.W.codeIn K cd31 "_law_one" = true) (k31:PySem.W.keepIn K (.ref f31)=true)
  (a32:PySem.W.nsIn K mainGlobals "_law_keep_one" = some (some (.ref f32))) (l32:K.lookup f32=some ⟨oc32,od32,.func (PySem.W.fnOf "_law_keep_one" "_law_keep_one" (defArgs (top 42)) (defBody (top 42)) (defScope (top 42)) .none kV32 dc32 pm32 an32 cd32 ct32),sl32⟩) (c32:PySem.W.codeIn K cd32 "_law_keep_one" = true) (k32:PySem.W.keepIn K (.ref f32)=true)
  (a33:PySem.W.nsIn K mainGlobals "law" = some (some (.ref f33))) (l33:K.lookup f33=some ⟨oc33,od33,.func (PySem.W.fnOf "law" "law" (defArgs (top 43)) (defBody (top 43)) (defScope (top 43)) .none kV33 dc33 pm33 an33 cd33 ct33),sl33⟩) (c33:PySem.W.codeIn K cd33 "law" = true) (k33:PySem.W.keepIn K (.ref f33)=true)
  (a34:PySem.W.findIn K (.ref CN) "__init__" = some (some (.ref f34))) (l34:K.lookup f34=some ⟨oc34,od34,.func (PySem.W.fnOf "__init__" "Net.__init__" (defArgs (inClass (top 11) 0)) (defBody (inClass (top 11) 0)) (defScope (inClass (top 11) 0)) .none kV34 dc34 pm34 an34 cd34 ct34),sl34⟩) (c34:PySem.W.codeIn K cd34 "Net.__init__" = true) (k34:PySem.W.keepIn K (.ref f34)=true) (i34:PySem.W.isFn K (.ref f34)=true)
  (pgN:PySem.W.plainGet K CN Str.empty=true) (hdN:PySem.W.hasDictIn K CN=true) (poN:PySem.W.plainOver K CN=true) (saN:PySem.W.findIn K (.ref CN) "__setattr__" = some (some (.builtin "object.__setattr__"))) (mkN:PySem.W.makesIn K CN=true) (kcN:PySem.W.keepIn K (.ref CN)=true)
  (nN_gates:PySem.W.findIn K (.ref CN) "gates" = some none)
  (nN_outs:PySem.W.findIn K (.ref CN) "outs" = some none)
  (z_len:PySem.W.nsIn K mainGlobals "len" = some none)
  (z_range:PySem.W.nsIn K mainGlobals "range" = some none)
  (z_int:PySem.W.nsIn K mainGlobals "int" = some none)
  (z_str:PySem.W.nsIn K mainGlobals "str" = some none)
  (z_isinstance:PySem.W.nsIn K mainGlobals "isinstance" = some none)
  (z_zip:PySem.W.nsIn K mainGlobals "zip" = some none)
  (z_list:PySem.W.nsIn K mainGlobals "list" = some none)
  (z_tuple:PySem.W.nsIn K mainGlobals "tuple" = some none)
  (z_bool:PySem.W.nsIn K mainGlobals "bool" = some none)
  (z_all:PySem.W.nsIn K mainGlobals "all" = some none)
  (z_enumerate:PySem.W.nsIn K mainGlobals "enumerate" = some none)
  (z_min:PySem.W.nsIn K mainGlobals "min" = some none)
  {ff:Addr}{kvs:List (Key × V)} (aFC:PySem.W.nsIn K mainGlobals "FEED_COUNTS" = some (some (.ref ff)))
  (hKD:KD l.prog w K ff kvs)
  (hF:∀ w n,(w,n)∈FC→valV kvs (Sum.inr w)=some (.int n))
  {ra:Addr}{rkv:List (Key × V)} (aRU:PySem.W.nsIn K mainGlobals "RULES" = some (some (.ref ra)))
  (hKR:KD l.prog w K ra rkv)
  (hR_not:valV rkv (Sum.inr "not")=some (.ref f10))
  (hR_and:valV rkv (Sum.inr "and")=some (.ref f11))
  (hR_or:valV rkv (Sum.inr "or")=some (.ref f12))
  (hR_xor:valV rkv (Sum.inr "xor")=some (.ref f13))
  (hR_pick:valV rkv (Sum.inr "pick")=some (.ref f14))
  (ndR:[f10,f11,f12,f13,f14].Nodup)
  (hRN:∀ wo,wo ∉ RU→valV rkv (Sum.inr wo)=none) :
  ∃ fd:FuncData,(∀ (s:Shared) (v:Value),BindsTo s fd ⟨[v],[]⟩ [("_law_script",v)])∧∀ base:Heap,K.In base→base.Ns mainGlobals mg→FnOk l.prog w K mg base CX0 7 fa fd ["_law_script"] (spLaw K):=by
 have e:=hfa.symm.trans (PySem.W.mg_of X G a33)
 cases e
 have F0:=zabg (st:=top 4) l0 c0 k0
 have b0:=F0.binds (ps:=["thing"]) fun _ _ _ _ _ _ us hl=>match us,hl with | [_],_=>rfl
 have m0:=PySem.W.mg_of X G a0
 have F1:=zabg (st:=top 5) l1 c1 k1
 have b1:=F1.binds (ps:=["thing", "bound"]) fun _ _ _ _ _ _ us hl=>match us,hl with | [_,_],_=>rfl
 have m1:=PySem.W.mg_of X G a1
 have F2:=zabg (st:=top 6) l2 c2 k2
 have b2:=F2.binds (ps:=["thing"]) fun _ _ _ _ _ _ us hl=>match us,hl with | [_],_=>rfl
 have m2:=PySem.W.mg_of X G a2
 have F3:=zabg (st:=top 7) l3 c3 k3
 have b3:=F3.binds (ps:=["thing"]) fun _ _ _ _ _ _ us hl=>match us,hl with | [_],_=>rfl
 have m3:=PySem.W.mg_of X G a3
 have F4:=zabg (st:=top 10) l4 c4 k4
 have b4:=F4.binds (ps:=["thing", "ahead", "total"]) fun _ _ _ _ _ _ us hl=>match us,hl with | [_,_,_],_=>rfl
 have m4:=PySem.W.mg_of X G a4
 have F5:=zabg (st:=top 12) l5 c5 k5
 have b5:=F5.binds (ps:=["net"]) fun _ _ _ _ _ _ us hl=>match us,hl with | [_],_=>rfl
 have m5:=PySem.W.mg_of X G a5
 have F6:=zabg (st:=top 13) l6 c6 k6
 have b6:=F6.binds (ps:=["gate"]) fun _ _ _ _ _ _ us hl=>match us,hl with | [_],_=>rfl
 have m6:=PySem.W.mg_of X G a6
 have F7:=zabg (st:=top 15) l7 c7 k7
 have b7:=F7.binds (ps:=["gates", "number"]) fun _ _ _ _ _ _ us hl=>match us,hl with | [_,_],_=>rfl
 have m7:=PySem.W.mg_of X G a7
 have F8:=zabg (st:=top 16) l8 c8 k8
 have b8:=F8.binds (ps:=["gates", "number"]) fun _ _ _ _ _ _ us hl=>match us,hl with | [_,_],_=>rfl
 have m8:=PySem.W.mg_of X G a8
 have F9:=zabg (st:=top 17) l9 c9 k9
 have b9:=F9.binds (ps:=["gates", "number", "other"]) fun _ _ _ _ _ _ us hl=>match us,hl with | [_,_,_],_=>rfl
 have m9:=PySem.W.mg_of X G a9
 have F10:=zabg (st:=top 18) l10 c10 k10
 have b10:=F10.binds (ps:=["gates", "why", "it", "feeds"]) fun _ _ _ _ _ _ us hl=>match us,hl with | [_,_,_,_],_=>rfl
 have m10:=PySem.W.mg_of X G a10
 have F11:=zabg (st:=top 19) l11 c11 k11
 have b11:=F11.binds (ps:=["gates", "why", "it", "feeds"]) fun _ _ _ _ _ _ us hl=>match us,hl with | [_,_,_,_],_=>rfl
 have m11:=PySem.W.mg_of X G a11
 have F12:=zabg (st:=top 20) l12 c12 k12
 have b12:=F12.binds (ps:=["gates", "why", "it", "feeds"]) fun _ _ _ _ _ _ us hl=>match us,hl with | [_,_,_,_],_=>rfl
 have m12:=PySem.W.mg_of X G a12
 have F13:=zabg (st:=top 21) l13 c13 k13
 have b13:=F13.binds (ps:=["gates", "why", "it", "feeds"]) fun _ _ _ _ _ _ us hl=>match us,hl with | [_,_,_,_],_=>rfl
 have m13:=PySem.W.mg_of X G a13
 have F14:=zabg (st:=top 22) l14 c14 k14
 have b14:=F14.binds (ps:=["gates", "why", "it", "feeds"]) fun _ _ _ _ _ _ us hl=>match us,hl with | [_,_,_,_],_=>rfl
 have m14:=PySem.W.mg_of X G a14
 have F15:=zabg (st:=top 24) l15 c15 k15
 have b15:=F15.binds (ps:=["gates", "gate", "it", "why", "feeds"]) fun _ _ _ _ _ _ us hl=>match us,hl with | [_,_,_,_,_],_=>rfl
 have m15:=PySem.W.mg_of X G a15
 have F16:=zabg (st:=top 25) l16 c16 k16
 have b16:=F16.binds (ps:=["small", "lost"]) fun _ _ _ _ _ _ us hl=>match us,hl with | [_,_],_=>rfl
 have m16:=PySem.W.mg_of X G a16
 have F17:=zabg (st:=top 26) l17 c17 k17
 have b17:=F17.binds (ps:=["pairs", "count", "total"]) fun _ _ _ _ _ _ us hl=>match us,hl with | [_,_,_],_=>rfl
 have m17:=PySem.W.mg_of X G a17
 have F18:=zabg (st:=top 27) l18 c18 k18
 have b18:=F18.binds (ps:=["net", "small", "pairs"]) fun _ _ _ _ _ _ us hl=>match us,hl with | [_,_,_],_=>rfl
 have m18:=PySem.W.mg_of X G a18
 have F19:=zabg (st:=top 28) l19 c19 k19
 have b19:=F19.binds (ps:=["net", "small", "pairs"]) fun _ _ _ _ _ _ us hl=>match us,hl with | [_,_,_],_=>rfl
 have m19:=PySem.W.mg_of X G a19
 have F20:=zabg (st:=top 29) l20 c20 k20
 have b20:=F20.binds (ps:=["net", "gates", "pairs"]) fun _ _ _ _ _ _ us hl=>match us,hl with | [_,_,_],_=>rfl
 have m20:=PySem.W.mg_of X G a20
 have F21:=zabg (st:=top 30) l21 c21 k21
 have b21:=F21.binds (ps:=["net", "small", "paper"]) fun _ _ _ _ _ _ us hl=>match us,hl with | [_,_,_],_=>rfl
 have m21:=PySem.W.mg_of X G a21
 have F22:=zabg (st:=top 32) l22 c22 k22
 have b22:=F22.binds (ps:=["_law_script", "_law_at"]) fun _ _ _ _ _ _ us hl=>match us,hl with | [_,_],_=>rfl
 have m22:=PySem.W.mg_of X G a22
 have F23:=zabg (st:=top 33) l23 c23 k23
 have b23:=F23.binds (ps:=["_law_gates", "_law_one_here", "_law_other"]) fun _ _ _ _ _ _ us hl=>match us,hl with | [_,_,_],_=>rfl
 have m23:=PySem.W.mg_of X G a23
 have F24:=zabg (st:=top 34) l24 c24 k24
 have b24:=F24.binds (ps:=["_law_gates", "_law_word", "_law_some_here", "_law_number_here", "_law_why"]) fun _ _ _ _ _ _ us hl=>match us,hl with | [_,_,_,_,_],_=>rfl
 have m24:=PySem.W.mg_of X G a24
 have F25:=zabg (st:=top 35) l25 c25 k25
 have b25:=F25.binds (ps:=["_law_script", "_law_at"]) fun _ _ _ _ _ _ us hl=>match us,hl with | [_,_],_=>rfl
 have m25:=PySem.W.mg_of X G a25
 have F26:=zabg (st:=top 36) l26 c26 k26
 have b26:=F26.binds (ps:=["_law_script", "_law_at", "_law_gates", "_law_word"]) fun _ _ _ _ _ _ us hl=>match us,hl with | [_,_,_,_],_=>rfl
 have m26:=PySem.W.mg_of X G a26
 have F27:=zabg (st:=top 37) l27 c27 k27
 have b27:=F27.binds (ps:=["_law_script", "_law_at", "_law_word", "_law_some_here"]) fun _ _ _ _ _ _ us hl=>match us,hl with | [_,_,_,_],_=>rfl
 have m27:=PySem.W.mg_of X G a27
 have F28:=zabg (st:=top 38) l28 c28 k28
 have b28:=F28.binds (ps:=["_law_script", "_law_at", "_law_some_here"]) fun _ _ _ _ _ _ us hl=>match us,hl with | [_,_,_],_=>rfl
 have m28:=PySem.W.mg_of X G a28
 have F29:=zabg (st:=top 39) l29 c29 k29
 have b29:=F29.binds (ps:=["_law_thing", "_law_m"]) fun _ _ _ _ _ _ us hl=>match us,hl with | [_,_],_=>rfl
 have m29:=PySem.W.mg_of X G a29
 have F30:=zabg (st:=top 40) l30 c30 k30
 have b30:=F30.binds (ps:=["_law_lost", "_law_pairs", "_law_m"]) fun _ _ _ _ _ _ us hl=>match us,hl with | [_,_,_],_=>rfl
 have m30:=PySem.W.mg_of X G a30
 have F31:=zabg (st:=top 41) l31 c31 k31
 have b31:=F31.binds (ps:=["_law_script", "_law_at"]) fun _ _ _ _ _ _ us hl=>match us,hl with | [_,_],_=>rfl
 have m31:=PySem.W.mg_of X G a31
 have F32:=zabg (st:=top 42) l32 c32 k32
 have b32:=F32.binds (ps:=["_law_script", "_law_at"]) fun _ _ _ _ _ _ us hl=>match us,hl with | [_,_],_=>rfl
 have m32:=PySem.W.mg_of X G a32
 have F33:=zabg (st:=top 43) l33 c33 k33
 have F34:=zabg (st:=inClass (top 11) 0) l34 c34 k34
 have b34:=F34.binds (ps:=["self", "gates", "outs"]) fun _ _ _ _ _ _ us hl=>match us,hl with | [_,_,_],_=>rfl
 have z_len:=PySem.W.mg_none_of X G z_len
 have z_range:=PySem.W.mg_none_of X G z_range
 have z_int:=PySem.W.mg_none_of X G z_int
 have z_str:=PySem.W.mg_none_of X G z_str
 have z_isinstance:=PySem.W.mg_none_of X G z_isinstance
 have z_zip:=PySem.W.mg_none_of X G z_zip
 have z_list:=PySem.W.mg_none_of X G z_list
 have z_tuple:=PySem.W.mg_none_of X G z_tuple
 have z_bool:=PySem.W.mg_none_of X G z_bool
 have z_all:=PySem.W.mg_none_of X G z_all
 have z_enumerate:=PySem.W.mg_none_of X G z_enumerate
 have z_min:=PySem.W.mg_none_of X G z_min
 have mN:=PySem.W.mg_of X G aN
 have clN:Cls K CN:=⟨pgN,hdN,poN,saN⟩
 refine ⟨PySem.W.fnOf "law" "law" (defArgs (top 43)) (defBody (top 43)) (defScope (top 43)) .none kV33 dc33 pm33 an33 cd33 ct33,fun s v=>.of_eq rfl,fun base _ _=>?_⟩
 have m_FEED_COUNTS:=PySem.W.mg_of X G aFC
 have m_RULES:=PySem.W.mg_of X G aRU
 have D_is_whole_1:DefOk l.prog w K mg base CX0 1 "is_whole" ["thing"] spWhole:=⟨f0,_,zakq (k:=0) F0 z_isinstance z_int z_bool,b0,k0,m0⟩
 have D_is_below_2:DefOk l.prog w K mg base CX0 2 "is_below" ["thing", "bound"] spBelow:=⟨f1,_,zakr (k:=1) F1 D_is_whole_1,b1,k1,m1⟩
 have D_is_gate_3:DefOk l.prog w K mg base CX0 3 "is_gate" ["thing", "ahead", "total"] spGate:=⟨f4,_,zamd (k:=2) F4 D_is_below_2 m_FEED_COUNTS hKD hF z_isinstance z_tuple z_str z_len z_all,b4,k4,m4⟩
 have MkN:MakeOk l.prog w K mg base CX0 4 CN "Net" ["self", "gates", "outs"] (spNet CN):=⟨⟨f34,_,zaoi (k:=3) F34 clN nN_gates nN_outs D_is_gate_3 (D_is_below_2.mono (by omega)) z_enumerate z_len z_tuple,b34,⟨mkN,a34,i34,kcN⟩,mN⟩⟩
 have D_is_listed_1:DefOk l.prog w K mg base CX0 1 "is_listed" ["thing"] spListed:=⟨f2,_,zajb (k:=0) F2 z_isinstance z_list z_tuple,b2,k2,m2⟩
 have D_is_pair_2:DefOk l.prog w K mg base CX0 2 "is_pair" ["thing"] spPair:=⟨f3,_,zami (k:=1) F3 D_is_listed_1 z_len,b3,k3,m3⟩
 have D_ins_of_1:DefOk l.prog w K mg base CX0 1 "ins_of" ["net"] (spIns CN):=⟨f5,_,zajg (k:=0) F5 clN nN_gates z_enumerate,b5,k5,m5⟩
 have D_feeds_of_1:DefOk l.prog w K mg base CX0 1 "feeds_of" ["gate"] spFeeds:=⟨f6,_,zaks (k:=0) F6 z_list,b6,k6,m6⟩
 have D_is_zero_1:DefOk l.prog w K mg base CX0 1 "is_zero" ["gates", "number"] (spIsG isZ):=⟨f7,_,zah1 (k:=0) F7,b7,k7,m7⟩
 have D_is_one_1:DefOk l.prog w K mg base CX0 1 "is_one" ["gates", "number"] (spIsG isO):=⟨f8,_,zajh (k:=0) F8,b8,k8,m8⟩
 have D_are_opposed_1:DefOk l.prog w K mg base CX0 1 "are_opposed" ["gates", "number", "other"] spOpG:=⟨f9,_,zaoj (k:=0) F9,b9,k9,m9⟩
 simp only [List.nodup_cons,List.mem_cons,List.not_mem_nil,or_false,not_or,not_false_eq_true,List.nodup_nil,and_true] at ndR
 obtain ⟨⟨n1,n2,n3,n4⟩,⟨n5,n6,n7⟩,⟨n8,n9⟩,n10⟩:=ndR
 have s_not:(spt5 f10 f11 f12 f13) f10=spRu "not" := by unfold spt5; rw [if_pos rfl]
 have t_not:∃ fd:FuncData,FnOk l.prog w K mg base CX0 2 f10 fd ["gates", "why", "it", "feeds"] ((spt5 f10 f11 f12 f13) f10)∧Binds K fd ["gates", "why", "it", "feeds"] []∧PySem.W.keepIn K (.ref f10)=true:=⟨_,by rw [s_not]; exact (zamf (k:=1) F10 D_is_zero_1 D_is_one_1 D_are_opposed_1).imp zaoy,b10,k10⟩
 have s_and:(spt5 f10 f11 f12 f13) f11=spRu "and" := by unfold spt5; rw [if_neg (Ne.symm n1),if_pos rfl]
 have t_and:∃ fd:FuncData,FnOk l.prog w K mg base CX0 2 f11 fd ["gates", "why", "it", "feeds"] ((spt5 f10 f11 f12 f13) f11)∧Binds K fd ["gates", "why", "it", "feeds"] []∧PySem.W.keepIn K (.ref f11)=true:=⟨_,by rw [s_and]; exact (zamg (k:=1) F11 D_is_zero_1 D_is_one_1 D_are_opposed_1).imp zaoz,b11,k11⟩
 have s_or:(spt5 f10 f11 f12 f13) f12=spRu "or" := by unfold spt5; rw [if_neg (Ne.symm n2),if_neg (Ne.symm n5),if_pos rfl]
 have t_or:∃ fd:FuncData,FnOk l.prog w K mg base CX0 2 f12 fd ["gates", "why", "it", "feeds"] ((spt5 f10 f11 f12 f13) f12)∧Binds K fd ["gates", "why", "it", "feeds"] []∧PySem.W.keepIn K (.ref f12)=true:=⟨_,by rw [s_or]; exact (zaok (k:=1) F12 D_is_zero_1 D_is_one_1 D_are_opposed_1).imp zapr,b12,k12⟩
 have s_xor:(spt5 f10 f11 f12 f13) f13=spRu "xor" := by unfold spt5; rw [if_neg (Ne.symm n3),if_neg (Ne.symm n6),if_neg (Ne.symm n8),if_pos rfl]
 have t_xor:∃ fd:FuncData,FnOk l.prog w K mg base CX0 2 f13 fd ["gates", "why", "it", "feeds"] ((spt5 f10 f11 f12 f13) f13)∧Binds K fd ["gates", "why", "it", "feeds"] []∧PySem.W.keepIn K (.ref f13)=true:=⟨_,by rw [s_xor]; exact (zamh (k:=1) F13 D_is_zero_1 D_is_one_1 D_are_opposed_1).imp zao0,b13,k13⟩
 have s_pick:(spt5 f10 f11 f12 f13) f14=spRu "pick" := by unfold spt5; rw [if_neg (Ne.symm n4),if_neg (Ne.symm n7),if_neg (Ne.symm n9),if_neg (Ne.symm n10)]
 have t_pick:∃ fd:FuncData,FnOk l.prog w K mg base CX0 2 f14 fd ["gates", "why", "it", "feeds"] ((spt5 f10 f11 f12 f13) f14)∧Binds K fd ["gates", "why", "it", "feeds"] []∧PySem.W.keepIn K (.ref f14)=true:=⟨_,by rw [s_pick]; exact (zakt (k:=1) F14 D_is_zero_1 D_is_one_1 D_are_opposed_1).imp zamv,b14,k14⟩
 have TT:TabOk l.prog w K mg base CX0 2 ["gates", "why", "it", "feeds"] (spt5 f10 f11 f12 f13) (fun f=>f=f10∨f=f11∨f=f12∨f=f13∨f=f14):=⟨fun f hf=>by
  rcases hf with h | h | h | h | h <;> rw [h]
  ·exact t_not
  ·exact t_and
  ·exact t_or
  ·exact t_xor
  ·exact t_pick⟩
 have hT:∀ wo∈RU,∃ f,valV rkv (.inr wo)=some (.ref f)∧(f=f10∨f=f11∨f=f12∨f=f13∨f=f14)∧(spt5 f10 f11 f12 f13) f=spRu wo:=fun wo hm=>by
  simp only [RU,List.mem_cons,List.not_mem_nil,or_false] at hm
  rcases hm with rfl | rfl | rfl | rfl | rfl
  ·exact ⟨_,hR_not,.inl rfl,s_not⟩
  ·exact ⟨_,hR_and,.inr (.inl rfl),s_and⟩
  ·exact ⟨_,hR_or,.inr (.inr (.inl rfl)),s_or⟩
  ·exact ⟨_,hR_xor,.inr (.inr (.inr (.inl rfl))),s_xor⟩
  ·exact ⟨_,hR_pick,.inr (.inr (.inr (.inr rfl))),s_pick⟩
 have D_pair_holds_3:DefOk l.prog w K mg base CX0 3 "pair_holds" ["gates", "gate", "it", "why", "feeds"] spPH:=⟨f15,_,zaph (k:=2) F15 TT m_RULES hKR hT hRN z_tuple,b15,k15,m15⟩
 have D_with_lost_4:DefOk l.prog w K mg base CX0 4 "with_lost" ["small", "lost"] (spWL CN):=⟨f16,_,zapi (k:=3) F16 clN nN_gates (D_is_listed_1.mono (by omega)) D_is_gate_3 z_len z_list z_tuple,b16,k16,m16⟩
 have D_are_pairs_3:DefOk l.prog w K mg base CX0 3 "are_pairs" ["pairs", "count", "total"] spAP:=⟨f17,_,zapj (k:=2) F17 (D_is_listed_1.mono (by omega)) D_is_pair_2 D_is_below_2 z_len,b17,k17,m17⟩
 have D_ins_hold_2:DefOk l.prog w K mg base CX0 2 "ins_hold" ["net", "small", "pairs"] (spIH CN):=⟨f18,_,zapk (k:=1) F18 D_ins_of_1 z_len z_zip z_tuple,b18,k18,m18⟩
 have D_outs_hold_1:DefOk l.prog w K mg base CX0 1 "outs_hold" ["net", "small", "pairs"] (spOH CN):=⟨f19,_,zapl (k:=0) F19 clN nN_outs z_len z_zip,b19,k19,m19⟩
 have D_gates_hold_4:DefOk l.prog w K mg base CX0 4 "gates_hold" ["net", "gates", "pairs"] (spGH CN):=⟨f20,_,zapm (k:=3) F20 clN nN_gates (D_feeds_of_1.mono (by omega)) D_pair_holds_3 z_zip,b20,k20,m20⟩
 have D_small_holds_5:DefOk l.prog w K mg base CX0 5 "small_holds" ["net", "small", "paper"] (spSH CN):=⟨f21,_,zapn (k:=4) F21 clN nN_gates (D_is_pair_2.mono (by omega)) D_with_lost_4 (D_are_pairs_3.mono (by omega)) (D_ins_hold_2.mono (by omega)) (D_outs_hold_1.mono (by omega)) D_gates_hold_4 z_len,b21,k21,m21⟩
 have D__law_next_1:DefOk l.prog w K mg base CX0 1 "_law_next" ["_law_script", "_law_at"] (spNext K):=⟨f22,_,zame (k:=0) F22 z_len z_range,b22,k22,m22⟩
 have D__law_nots_1:DefOk l.prog w K mg base CX0 1 "_law_nots" ["_law_gates", "_law_one_here", "_law_other"] spOpG:=⟨f23,_,zamm (k:=0) F23,b23,k23,m23⟩
 have D__law_rule_2:DefOk l.prog w K mg base CX0 2 "_law_rule" ["_law_gates", "_law_word", "_law_some_here", "_law_number_here", "_law_why"] spRule:=⟨f24,_,zamn (k:=1) F24 D__law_nots_1 z_tuple,b24,k24,m24⟩
 have D__law_base_2:DefOk l.prog w K mg base CX0 2 "_law_base" ["_law_script", "_law_at"] (spBase K):=⟨f25,_,zamo (k:=1) F25 D__law_next_1,b25,k25,m25⟩
 have D__law_some_2:DefOk l.prog w K mg base CX0 2 "_law_some" ["_law_script", "_law_at", "_law_gates", "_law_word"] (spSome K):=⟨f26,_,zams (k:=1) F26 D__law_next_1 z_range z_len,b26,k26,m26⟩
 have D__law_behind_2:DefOk l.prog w K mg base CX0 2 "_law_behind" ["_law_script", "_law_at", "_law_word", "_law_some_here"] (spBeh K):=⟨f27,_,zaoq (k:=1) F27 D__law_next_1 z_tuple z_len,b27,k27,m27⟩
 have D__law_number_2:DefOk l.prog w K mg base CX0 2 "_law_number" ["_law_script", "_law_at", "_law_some_here"] (spNum K):=⟨f28,_,zaor (k:=1) F28 D__law_next_1 z_len,b28,k28,m28⟩
 have D__law_as_1:DefOk l.prog w K mg base CX0 1 "_law_as" ["_law_thing", "_law_m"] spAs:=⟨f29,_,zapp (k:=0) F29 z_list z_tuple,b29,k29,m29⟩
 have D__law_paper_2:DefOk l.prog w K mg base CX0 2 "_law_paper" ["_law_lost", "_law_pairs", "_law_m"] spPap:=⟨f30,_,zaos (k:=1) F30 D__law_as_1 z_enumerate,b30,k30,m30⟩
 have D__law_one_6:DefOk l.prog w K mg base CX0 6 "_law_one" ["_law_script", "_law_at"] (spOne K):=⟨f31,_,zaot (k:=4) F31 (D__law_next_1.mono (by omega)) (D__law_base_2.mono (by omega)) (D__law_some_2.mono (by omega)) (D__law_behind_2.mono (by omega)) (D__law_number_2.mono (by omega)) (D__law_rule_2.mono (by omega)) (D__law_paper_2.mono (by omega)) D_small_holds_5 MkN z_tuple z_isinstance z_bool,b31,k31,m31⟩
 have D__law_keep_one_6:DefOk l.prog w K mg base CX0 6 "_law_keep_one" ["_law_script", "_law_at"] (spOne K):=⟨f32,_,zapq (k:=4) F32 (D__law_next_1.mono (by omega)) (D__law_base_2.mono (by omega)) (D__law_paper_2.mono (by omega)) D_small_holds_5 MkN z_isinstance z_bool,b32,k32,m32⟩
 exact zaox (k:=6) F33 D__law_one_6 D__law_keep_one_6 z_len z_min z_range
end

end B17
namespace B17
open PySem L2
def XS:List (Str × Tok × Value):=[("in",265,.int 0 266),("zero",267,.int 0 268),("one",269,.int 0 270),("not",271,.int 1 272),("and",273,.int 2 274),("or",275,.int 2 276),("xor",277,.int 2 278),("pick",279,.int 3 280)]
def VS:List V:=[.int 0,.int 0,.int 0,.int 1,.int 2,.int 2,.int 2,.int 3]
def KVS:List (Key × V):=(XS.map fun x=>(Sum.inr x.1:Key)).zip VS
theorem zaps:(XS.map (·.1)).Nodup:=by decide +kernel
theorem zamw:Vals VS (XS.map (·.2.2)):=.cons ⟨_,rfl⟩ (.cons ⟨_,rfl⟩ (.cons ⟨_,rfl⟩ (.cons ⟨_,rfl⟩ (.cons ⟨_,rfl⟩ (.cons ⟨_,rfl⟩ (.cons ⟨_,rfl⟩ (.cons ⟨_,rfl⟩ (.nil))))))))
theorem zakz {P:Program}{w:World}{K:PySem.W.Frag}{ff:Addr}{od:Option Addr}{ep:Nat}{sl:Array (Option Value)}{es:Array DictEntry} (l:K.lookup ff=some ⟨.type "dict",od,.dict es ep,sl⟩) (he:es.toList=XS.map (ent w))
  (hx:(⟨.type "dict",od,.dict es ep,sl⟩:Obj).ExactDict) (ns:(ff == sysModules)=false):KD P w K ff KVS:=zan3 XS VS l he hx ns zaps zamw
theorem zamx:∀ w n,(w,n)∈FC→valV KVS (Sum.inr w)=some (.int n):=by
 intro w n h
 simp only [FC,List.mem_cons,List.not_mem_nil,or_false,Prod.mk.injEq] at h
 rcases h with ⟨rfl,rfl⟩ | ⟨rfl,rfl⟩ | ⟨rfl,rfl⟩ | ⟨rfl,rfl⟩ | ⟨rfl,rfl⟩ | ⟨rfl,rfl⟩ | ⟨rfl,rfl⟩ | ⟨rfl,rfl⟩ <;> rfl
def XR:List (Str × Tok × Value):=[("not",430,.ref 141),("and",431,.ref 148),("or",432,.ref 155),("xor",433,.ref 162),("pick",434,.ref 169)]
def VR:List V:=[.ref 141,.ref 148,.ref 155,.ref 162,.ref 169]
def KVR:List (Key × V):=(XR.map fun x=>(Sum.inr x.1:Key)).zip VR
theorem rkd {P:Program}{w:World}{K:PySem.W.Frag}{ff:Addr}{od:Option Addr}{ep:Nat}{sl:Array (Option Value)}{es:Array DictEntry} (l:K.lookup ff=some ⟨.type "dict",od,.dict es ep,sl⟩) (he:es.toList=XR.map (ent w))
  (hx:(⟨.type "dict",od,.dict es ep,sl⟩:Obj).ExactDict) (ns:(ff == sysModules)=false):KD P w K ff KVR:=zan3 XR VR l he hx ns (by decide +kernel) (.cons rfl (.cons rfl (.cons rfl (.cons rfl (.cons rfl (.nil))))))
theorem zao2:valV KVR (Sum.inr "not")=some (.ref 141):=by decide +kernel
theorem zao3:valV KVR (Sum.inr "and")=some (.ref 148):=by decide +kernel
theorem zapt:valV KVR (Sum.inr "or")=some (.ref 155):=by decide +kernel
theorem zao4:valV KVR (Sum.inr "xor")=some (.ref 162):=by decide +kernel
theorem zamy:valV KVR (Sum.inr "pick")=some (.ref 169):=by decide +kernel
theorem zapu:([141,148,155,162,169]:List Addr).Nodup:=by decide +kernel
theorem zapv:∀ wo,wo ∉ RU→valV KVR (Sum.inr wo)=none:=fun wo h=>by
 simp only [RU,List.mem_cons,List.not_mem_nil,or_false,not_or] at h
 obtain ⟨h1,h2,h3,h4,h5⟩:=h
 simp [KVR,XR,VR,valV,List.zip,List.zipWith,Ne.symm h1,Ne.symm h2,Ne.symm h3,Ne.symm h4,Ne.symm h5,h1,h2,h3,h4,h5]
end B17
open PySem PySem.W PyProof.Rows
theorem PySem.W.Fast.tw6406048100424316272:True:=trivial
theorem PySem.W.Fast.tw4441728511131254487:True:=trivial
theorem PySem.W.Fast.tw5855569195684333589:True:=trivial
theorem PySem.W.Fast.tw13606394164850460238:True:=trivial
theorem PySem.W.Fast.tw4226674126067153962:True:=trivial
theorem PySem.W.Fast.tw13791971353602244261:True:=trivial
theorem PySem.W.Fast.tw10993377335770763019:True:=trivial
theorem PySem.W.Fast.tw3188946478017671987:True:=trivial
theorem PySem.W.Fast.tw17126612363843330616:True:=trivial
theorem PySem.W.Fast.tw16522612690277026314:True:=trivial
theorem PySem.W.Fast.tw14115425850261070937:True:=trivial
theorem PySem.W.Fast.tw15653929629190854611:True:=trivial
theorem PySem.W.Fast.tw3359761177775735534:True:=trivial
theorem PySem.W.Fast.tw14429996077516804567:True:=trivial
theorem PySem.W.Fast.tw10865138723022573794:True:=trivial
theorem PySem.W.Fast.tw490056350037602684:True:=trivial
theorem PySem.W.Fast.tw15836583458875000224:True:=trivial
theorem PySem.W.Fast.tw15803350829427638000:True:=trivial
theorem PySem.W.Fast.tw7199004464224060243:True:=trivial
theorem PySem.W.Fast.tw16715227412334566002:True:=trivial
theorem PySem.W.Fast.tw7621968737744535919:True:=trivial
theorem PySem.W.Fast.tw3263041114955868031:True:=trivial
theorem PySem.W.Fast.tw3134828573228198381:True:=trivial
theorem PySem.W.Fast.tw782236259248446670:True:=trivial
theorem PySem.W.Fast.tw2675539727722642260:True:=trivial
theorem PySem.W.Fast.tw10884889950481810723:True:=trivial
theorem PySem.W.Fast.tw9602634581519289928:True:=trivial
theorem PySem.W.Fast.tw12697843191590348430:True:=trivial
theorem PySem.W.Fast.tw6438052005688025856:True:=trivial
theorem PySem.W.Fast.tw8843357549245000241:True:=trivial
theorem PySem.W.Fast.tw3799553135455570752:True:=trivial
theorem PySem.W.Fast.tw1317987038067462628:True:=trivial
theorem PySem.W.Fast.tw1592199173439865445:True:=trivial
theorem PySem.W.Fast.tw9778969823783277773:True:=trivial
theorem PySem.W.Fast.tw3134391355908703161:True:=trivial
theorem PySem.W.Fast.tw9127591568481271821:True:=trivial
theorem PySem.W.Fast.tw9127848224001332331:True:=trivial
theorem PySem.W.Fast.tw13801759253988978809:True:=trivial
theorem PySem.W.Fast.tw9669556551150567504:True:=trivial
theorem PySem.W.Fast.tw8122558815145910885:True:=trivial
theorem PySem.W.Fast.tw6134104233073254026:True:=trivial
theorem PySem.W.Fast.tw3185836716176911150:True:=trivial
theorem PySem.W.Fast.tw14498210293751475342:True:=trivial
theorem PySem.W.Fast.tw11118687119841998811:True:=trivial
theorem PySem.W.Fast.tw6358076567892939996:True:=trivial
theorem PySem.W.Fast.tw15743377313054409298:True:=trivial
theorem PySem.W.Fast.tw12785722338990081152:True:=trivial
theorem PySem.W.Fast.tw6581425557655560678:True:=trivial
theorem PySem.W.Fast.tw8833533676295566176:True:=trivial
theorem PySem.W.Fast.tw14048381795070094684:True:=trivial
theorem PySem.W.Fast.tw8474916938193195535:True:=trivial
theorem PySem.W.Fast.tw12665693772791066202:True:=trivial
theorem PySem.W.Fast.tw13697551392854116502:True:=trivial
theorem PySem.W.Fast.tw10871515650229174103:True:=trivial
theorem PySem.W.Fast.tw13490001906825152729:True:=trivial
theorem PySem.W.Fast.tw8298455949957571493:True:=trivial
theorem PySem.W.Fast.tw2944764604033315284:True:=trivial
theorem PySem.W.Fast.tw2282229603650203995:True:=trivial
theorem PySem.W.Fast.tw15166046355227769414:True:=trivial
theorem PySem.W.Fast.tw10394852050077106309:True:=trivial
theorem PySem.W.Fast.tw9195816240977766599:True:=trivial
theorem PySem.W.Fast.tw8508975245591805171:True:=trivial
theorem PySem.W.Fast.tw13100978487383479473:True:=trivial
theorem PySem.W.Fast.tw2840751982406525606:True:=trivial
theorem PySem.W.Fast.tw12673684371974884590:True:=trivial
theorem PySem.W.Fast.tw13147591056313123764:True:=trivial
theorem PySem.W.Fast.tw13135609246877273184:True:=trivial
theorem PySem.W.Fast.tw12412128828785909595:True:=trivial
theorem PySem.W.Fast.tw12908629195135500561:True:=trivial
theorem PySem.W.Fast.tw11814721645686752277:True:=trivial
theorem PySem.W.Fast.tw9611417909925204595:True:=trivial
theorem PySem.W.Fast.tw13871042597880741512:True:=trivial
theorem PySem.W.Fast.tw17879377374143219444:True:=trivial
theorem PySem.W.Fast.tw12404454661037764559:True:=trivial
theorem PySem.W.Fast.tw30685268576146340:True:=trivial
theorem PySem.W.Fast.tw10658762656126609849:True:=trivial
theorem PySem.W.Fast.tw5615329665010566188:True:=trivial
theorem PySem.W.Fast.tw3840279752345597966:True:=trivial
theorem PySem.W.Fast.tw6736507276528300151:True:=trivial
theorem PySem.W.Fast.tw16020371272167185664:True:=trivial
theorem PySem.W.Fast.tw18177377642805768352:True:=trivial
theorem PySem.W.Fast.tw11745492211290919152:True:=trivial
set_option maxRecDepth 100000 in
set_option maxHeartbeats 0 in
theorem PySem.Challenge.cw_bitfloor_k22_each_rule_holds : PySem.Challenge.rw_bitfloor_k22_each_rule.Holds := by
 w_on; o_law; k_head; (case hw=>w_witness2)
 k_fill
 refine L2.zakd (l:=PySem.Challenge.rw_bitfloor_k22_each_rule) (n:=63) (k:=7) (x := "_law_script") (CX:=L2.CX0) (sp:=B17.spLaw) rfl (by decide) rfl ⟨rfl,by decide,by decide⟩ (fun w h Y=>PySem.W.kIn_of Y) ?F ?S ?C
 case F =>
  intro w mg fa h KX G hmg
  refine' B17.zao1 KX G hmg ?aN ?a0 ?l0 ?c0 ?k0 ?a1 ?l1 ?c1 ?k1 ?a2 ?l2 ?c2 ?k2 ?a3 ?l3 ?c3 ?k3 ?a4 ?l4 ?c4 ?k4 ?a5 ?l5 ?c5 ?k5 ?a6 ?l6 ?c6 ?k6 ?a7 ?l7 ?c7 ?k7 ?a8 ?l8 ?c8 ?k8 ?a9 ?l9 ?c9 ?k9 ?a10 ?l10 ?c10 ?k10 ?a11 ?l11 ?c11 ?k11 ?a12 ?l12 ?c12 ?k12 ?a13 ?l13 ?c13 ?k13 ?a14 ?l14 ?c14 ?k14 ?a15 ?l15 ?c15 ?k15 ?a16 ?l16 ?c16 ?k16 ?a17 ?l17 ?c17 ?k17 ?a18 ?l18 ?c18 ?k18 ?a19 ?l19 ?c19 ?k19 ?a20 ?l20 ?c20 ?k20 ?a21 ?l21 ?c21 ?k21 ?a22 ?l22 ?c22 ?k22 ?a23 ?l23 ?c23 ?k23 ?a24 ?l24 ?c24 ?k24 ?a25 ?l25 ?c25 ?k25 ?a26 ?l26 ?c26 ?k26 ?a27 ?l27 ?c27 ?k27 ?a28 ?l28 ?c28 ?k28 ?a29 ?l29 ?c29 ?k29 ?a30 ?l30 ?c30 ?k30 ?a31 ?l31 ?c31 ?k31 ?a32 ?l32 ?c32 ?k32 ?a33 ?l33 ?c33 ?k33 ?a34 ?l34 ?c34 ?k34 ?i34 ?pgN ?hdN ?poN ?saN ?mkN ?kcN ?nN_gates ?nN_outs ?z_len ?z_range ?z_int ?z_str ?z_isinstance ?z_zip ?z_list ?z_tuple ?z_bool ?z_all ?z_enumerate ?z_min ?qaFC (B17.zakz ?qlf ?qhe ?qhx ?qns) B17.zamx ?qaRU (B17.rkd ?qlr ?qhr ?qhy ?qnr) B17.zao2 B17.zao3 B17.zapt B17.zao4 B17.zamy B17.zapu B17.zapv
  (case aN=>k_is)
  (case a0=>k_is)
  (case l0=>k_is)
  (case c0=>k_is)
  (case k0=>k_is)
  (case a1=>k_is)
  (case l1=>k_is)
  (case c1=>k_is)
  (case k1=>k_is)
  (case a2=>k_is)
  (case l2=>k_is)
  (case c2=>k_is)
  (case k2=>k_is)
  (case a3=>k_is)
  (case l3=>k_is)
  (case c3=>k_is)
  (case k3=>k_is)
  (case a4=>k_is)
  (case l4=>k_is)
  (case c4=>k_is)
  (case k4=>k_is)
  (case a5=>k_is)
  (case l5=>k_is)
  (case c5=>k_is)
  (case k5=>k_is)
  (case a6=>k_is)
  (case l6=>k_is)
  (case c6=>k_is)
  (case k6=>k_is)
  (case a7=>k_is)
  (case l7=>k_is)
  (case c7=>k_is)
  (case k7=>k_is)
  (case a8=>k_is)
  (case l8=>k_is)
  (case c8=>k_is)
  (case k8=>k_is)
  (case a9=>k_is)
  (case l9=>k_is)
  (case c9=>k_is)
  (case k9=>k_is)
  (case a10=>k_is)
  (case l10=>k_is)
  (case c10=>k_is)
  (case k10=>k_is)
  (case a11=>k_is)
  (case l11=>k_is)
  (case c11=>k_is)
  (case k11=>k_is)
  (case a12=>k_is)
  (case l12=>k_is)
  (case c12=>k_is)
  (case k12=>k_is)
  (case a13=>k_is)
  (case l13=>k_is)
  (case c13=>k_is)
  (case k13=>k_is)
  (case a14=>k_is)
  (case l14=>k_is)
  (case c14=>k_is)
  (case k14=>k_is)
  (case a15=>k_is)
  (case l15=>k_is)
  (case c15=>k_is)
  (case k15=>k_is)
  (case a16=>k_is)
  (case l16=>k_is)
  (case c16=>k_is)
  (case k16=>k_is)
  (case a17=>k_is)
  (case l17=>k_is)
  (case c17=>k_is)
  (case k17=>k_is)
  (case a18=>k_is)
  (case l18=>k_is)
  (case c18=>k_is)
  (case k18=>k_is)
  (case a19=>k_is)
  (case l19=>k_is)
  (case c19=>k_is)
  (case k19=>k_is)
  (case a20=>k_is)
  (case l20=>k_is)
  (case c20=>k_is)
  (case k20=>k_is)
  (case a21=>k_is)
  (case l21=>k_is)
  (case c21=>k_is)
  (case k21=>k_is)
  (case a22=>k_is)
  (case l22=>k_is)
  (case c22=>k_is)
  (case k22=>k_is)
  (case a23=>k_is)
  (case l23=>k_is)
  (case c23=>k_is)
  (case k23=>k_is)
  (case a24=>k_is)
  (case l24=>k_is)
  (case c24=>k_is)
  (case k24=>k_is)
  (case a25=>k_is)
  (case l25=>k_is)
  (case c25=>k_is)
  (case k25=>k_is)
  (case a26=>k_is)
  (case l26=>k_is)
  (case c26=>k_is)
  (case k26=>k_is)
  (case a27=>k_is)
  (case l27=>k_is)
  (case c27=>k_is)
  (case k27=>k_is)
  (case a28=>k_is)
  (case l28=>k_is)
  (case c28=>k_is)
  (case k28=>k_is)
  (case a29=>k_is)
  (case l29=>k_is)
  (case c29=>k_is)
  (case k29=>k_is)
  (case a30=>k_is)
  (case l30=>k_is)
  (case c30=>k_is)
  (case k30=>k_is)
  (case a31=>k_is)
  (case l31=>k_is)
  (case c31=>k_is)
  (case k31=>k_is)
  (case a32=>k_is)
  (case l32=>k_is)
  (case c32=>k_is)
  (case k32=>k_is)
  (case a33=>k_is)
  (case l33=>k_is)
  (case c33=>k_is)
  (case k33=>k_is)
  (case a34=>k_is)
  (case l34=>k_is)
  (case c34=>k_is)
  (case k34=>k_is)
  (case i34=>k_is)
  (case pgN=>k_is)
  (case hdN=>k_is)
  (case poN=>k_is)
  (case saN=>k_is)
  (case mkN=>k_is)
  (case kcN=>k_is)
  (case nN_gates=>k_is)
  (case nN_outs=>k_is)
  (case z_len=>k_is)
  (case z_range=>k_is)
  (case z_int=>k_is)
  (case z_str=>k_is)
  (case z_isinstance=>k_is)
  (case z_zip=>k_is)
  (case z_list=>k_is)
  (case z_tuple=>k_is)
  (case z_bool=>k_is)
  (case z_all=>k_is)
  (case z_enumerate=>k_is)
  (case z_min=>k_is)
  (case qaFC=>k_is)
  (case qlf=>k_is)
  (case qhe=>rfl)
  (case qhx=>exact ⟨rfl,rfl,rfl⟩)
  (case qns=>rfl)
  (case qaRU=>k_is)
  (case qlr=>k_is)
  (case qhr=>rfl)
  (case qhy=>exact ⟨rfl,rfl,rfl⟩)
  (case qnr=>rfl)
 case S=>exact fun K H a ns hl hO hS=>⟨a,ns,rfl,L2.Scr.of hS hl hO,fun _=>rfl⟩
 case C=>exact fun _ _ _ _ z=>z
