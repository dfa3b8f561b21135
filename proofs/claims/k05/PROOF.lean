import PyProof.Rows.All
import Wide.All
import OpenK.AllK
import Wide.FinOn
import Lean
import PyProof.EqAt
import PyProof.EqKinds
import PyProof.TupleCall
import PyProof.AttrMiss
import PyProof.ConsumeWalk
import KE.KDictOf
import OpenK.KOwn
import PyProof.NsDelKeeps
import KE.KIsAll
import PyProof.Rows.SumAny
import PyProof.NeKinds
import PyProof.SeqI3
import KE.KRevIter
import KE.KSortTup
import PyProof.DictIter
import KE.KDictList
import PyProof.TupleOfGen
import PyProof.FString5
import KE.KIntText
import PyProof.ExcInit
import PyProof.InstStoreFacts
import OpenK.KCls
import PySem.Challenge.RW_bitfloor_k05_rows_refused
import PyProof.StrLawsTight
import PyProof.StrLawsChain
import KE.RegKIsAll
set_option Elab.async false
set_option linter.all false
set_option maxRecDepth 100000
namespace L2
open PySem PySem.Spec PyProof.Rows
abbrev Key:=Sum Int Str
def keyIs:Key→Value→Bool
 | .inl k,v=>Value.isInt k v
 | .inr x,v=>Value.isStrOf x v
def keyH (w:World):Key→Int
 | .inl k=>hashInt k
 | .inr x=>hashStr w x
theorem zabu:∀ {k:Key}{v:Value},keyIs k v=true→(∃ i t,k=Sum.inl i∧v=Value.int i t)∨(∃ x t,k=Sum.inr x∧v=Value.str x t)
 | .inl i,v,h=>by
  obtain ⟨t,e⟩:=Value.isInt_shape (k:=i) (v:=v) h
  exact .inl ⟨i,t,rfl,e⟩
 | .inr x,v,h=>by
  obtain ⟨t,e⟩:=Value.isStrOf_shape (x:=x) (v:=v) h
  exact .inr ⟨x,t,rfl,e⟩
theorem zal5 (i:Int) (t:Tok):keyIs (.inl i) (.int i t)=true:=by simp [keyIs,Value.isInt]
theorem zafz (x:Str) (t:Tok):keyIs (.inr x) (.str x t)=true:=by simp [keyIs,Value.isStrOf]
theorem zaua (a b:Int):decide ((Sum.inl a:Key)=Sum.inl b)=(a == b):=by
 by_cases e:a=b
 ·subst e; simp
 ·have h:¬ (Sum.inl a:Key)=Sum.inl b:=fun q=>e (Sum.inl.inj q)
  rw [decide_eq_false h]
  exact (beq_eq_false_iff_ne.mpr e).symm
theorem zaub (a b:Str):decide ((Sum.inr a:Key)=Sum.inr b)=decide (a=b):=by
 by_cases e:a=b
 ·subst e; simp
 ·have h:¬ (Sum.inr a:Key)=Sum.inr b:=fun q=>e (Sum.inr.inj q)
  rw [decide_eq_false h,decide_eq_false e]
theorem zauc (a:Int) (b:Str):decide ((Sum.inl a:Key)=Sum.inr b)=false:=decide_eq_false (fun q=>nomatch q)
theorem zaud (a:Str) (b:Int):decide ((Sum.inr a:Key)=Sum.inl b)=false:=decide_eq_false (fun q=>nomatch q)
def mixKind (prog:Program) (w:World):PySem.KeyKind prog w Key where
 is:=keyIs
 hash:=keyH w
 inj:=fun v a b ha hb=>by
  rcases zabu ha with ⟨i,t,rfl,rfl⟩ | ⟨x,t,rfl,rfl⟩
  ·rcases zabu hb with ⟨j,u,rfl,e⟩ | ⟨y,u,rfl,e⟩
   ·injection e with e1 _; rw [e1]
   ·exact nomatch e
  ·rcases zabu hb with ⟨j,u,rfl,e⟩ | ⟨y,u,rfl,e⟩
   ·exact nomatch e
   ·injection e with e1 _; rw [e1]
 byValue:=fun k v h=>by
  rcases zabu h with ⟨i,t,rfl,rfl⟩ | ⟨x,t,rfl,rfl⟩ <;> rfl
 pyHash:=fun hv h=>by
  rcases zabu hv with ⟨i,t,rfl,rfl⟩ | ⟨x,t,rfl,rfl⟩
  ·exact wpAny_pyHash_int h
  ·exact wpAny_pyHash_str h
 eqBool:=fun hu hv h=>by
  rcases zabu hu with ⟨i,t,rfl,rfl⟩ | ⟨x,t,rfl,rfl⟩
  ·rcases zabu hv with ⟨j,u,rfl,rfl⟩ | ⟨y,u,rfl,rfl⟩
   ·rw [zaua] at h; exact wpAny_eqBool_int h
   ·rw [zauc] at h; exact SeqAt.EqAt.int_str i t y u _ _ _ _ h
  ·rcases zabu hv with ⟨j,u,rfl,rfl⟩ | ⟨y,u,rfl,rfl⟩
   ·rw [zaud] at h; exact SeqAt.EqAt.str_int x t j u _ _ _ _ h
   ·rw [zaub] at h; exact wpAny_eqBool_str h
 «strs»:=fun k x t v h=>by
  rcases zabu h with ⟨i,u,rfl,e⟩ | ⟨y,u,rfl,e⟩
  ·exact nomatch e
  ·injection e with e1 _
   subst e1
   cases v <;> rfl
theorem zajq (prog:Program) (w:World) (i:Int) (t:Tok):(mixKind prog w).is (.inl i) (.int i t)=true:=zal5 i t
theorem zajr (prog:Program) (w:World) (x:Str) (t:Tok):(mixKind prog w).is (.inr x) (.str x t)=true:=zafz x t
inductive V where
 | non | bl (b:Bool) | int (i:Int) | str (x:Str) | byt (b:Array UInt8) | flt (b:UInt64) | ref (a:Addr) | ty (n:String)
 deriving DecidableEq
def RelV:V→Value→Prop
 | .non,u=>u=Value.none
 | .bl b,u=>u=Value.bool b
 | .int i,u=>∃ t,u=Value.int i t
 | .str x,u=>∃ t,u=Value.str x t
 | .byt b,u=>∃ t,u=Value.bytes b t
 | .flt b,u=>∃ t,u=Value.float b t
 | .ref a,u=>u=Value.ref a
 | .ty n,u=>u=Value.type n
abbrev Vals:List V→List Value→Prop:=Paired RelV
theorem Vals.length {xs:List V}{us:List Value} (r:Vals xs us):xs.length=us.length:=Paired.length r
theorem Vals.get:∀ {xs:List V}{us:List Value}{i:Nat}{x:V},Vals xs us→xs[i]?=some x→∃ u,us[i]?=some u∧RelV x u
 | _,_,_,_,.nil,e=>by simp at e
 | _,_,0,_,.cons r _,e=>by simp at e; subst e; exact ⟨_,rfl,r⟩
 | _,_,i + 1,x,.cons _ t,e=>by
  obtain ⟨u,h1,h2⟩:=Vals.get (i:=i) (x:=x) t (by simpa using e)
  exact ⟨u,by simpa using h1,h2⟩
theorem Vals.set {x:V}{u:Value} (r:RelV x u):∀ {xs:List V}{us:List Value} (i:Nat),Vals xs us→Vals (xs.set i x) (us.set i u)
 | _,_,_,.nil=>.nil
 | _,_,0,.cons _ t=>.cons r t
 | _,_,i + 1,.cons q t=>.cons q (Vals.set r i t)
theorem Vals.append:∀ {xs ys:List V}{us ws:List Value},Vals xs us→Vals ys ws→Vals (xs++ys) (us++ws)
 | _,_,_,_,.nil,s=>s
 | _,_,_,_,.cons r t,s=>.cons r (Vals.append t s)
theorem Vals.take:∀ {xs:List V}{us:List Value} (n:Nat),Vals xs us→Vals (xs.take n) (us.take n)
 | _,_,0,_=>.nil
 | _,_,_ + 1,.nil=>.nil
 | _,_,n + 1,.cons r t=>.cons r (Vals.take n t)
theorem Vals.drop:∀ {xs:List V}{us:List Value} (n:Nat),Vals xs us→Vals (xs.drop n) (us.drop n)
 | _,_,0,r=>r
 | _,_,_ + 1,.nil=>.nil
 | _,_,n + 1,.cons _ t=>Vals.drop n t
def RelO:Option V→Option Value→Prop
 | some v,some u=>RelV v u
 | none,none=>True
 | _,_=>False
def KV {κ:Type}:List (κ × V)→List (κ × Value)→Prop:=Paired fun (p:κ × V) (q:κ × Value)=>p.1=q.1∧RelV p.2 q.2
def kV:Key→V
 | .inl i=>.int i
 | .inr x=>.str x
inductive HO where
 | lst (xs:List V)
 | tup (xs:List V)
 | dK (kvs:List (Key × V)) | dT (kvs:List (List Key × V))
 | set (S:Int→Bool) (n:Nat)
 | ins (C dx:Addr) (fs:List (Str × V))
 | own (x:Addr)
 | xd (fs:List (Str × V))
 | met (f x:Addr)
 | rng (lo hi:Int)
 | frz (o:Obj) (u:HO)
 | tbl (ps:Array Value)
 | ext (φ:Heap→Prop)
abbrev Hp:=Addr→Option HO
def upd (H:Hp) (a:Addr) (o:HO):Hp:=fun b=>if b=a then some o else H b
theorem zaai {H:Hp}{a:Addr}{o:HO}:upd H a o a=some o:=by unfold upd; rw [if_pos rfl]
theorem zaax {H:Hp}{a b:Addr}{o:HO} (h:b≠a):upd H a o b=H b:=by unfold upd; rw [if_neg h]
theorem zae4 {H:Hp}{a b:Addr}{o u:HO} (h:H a=some o) (h':H b=some u) (d:o≠u):a≠b:=by
 intro e; subst e; rw [h] at h'; exact d (Option.some.inj h')
theorem zaaw {H:Hp}{a b:Addr}{o:HO} (h:H a=some o) (h':H b=none):a≠b:=by
 intro e; subst e; rw [h] at h'; cases h'
section
variable (P:Program) (w:World)
def ObjOk (H:Hp) (h:Heap) (a:Addr):HO→Prop
 | .lst xs=>xs.length≤sizeLine∧∃ (its:List Value) (n:Nat),Vals xs its∧h.get? a=some { cls:=.type "list",data:=.seq its.toArray n }
 | .tup xs=>xs.length≤sizeLine∧∃ its:List Value,Vals xs its∧IsTup h a its.toArray
 | .dK kvs=>kvs.length≤sizeLine∧(a == sysModules)=false∧∃ vs,KV kvs vs∧h.DictOf (mixKind P w) a vs
 | .dT kvs=>kvs.length≤sizeLine∧(a == sysModules)=false∧∃ xs:List (List Key × Addr × Value),
   Paired (fun (p:List Key × V) (q:List Key × Addr × Value)=>p.1=q.1∧H q.2.1=some (.tup (p.1.map kV))∧RelV p.2 q.2.2) kvs xs ∧
   ∃ o es ep,h.get? a=some o∧o.ExactDict∧o.data=.dict es ep∧es.toList=xs.map (entryOfKey (tupleKind (mixKind P w)))∧(xs.map (·.1)).Nodup
 | .set S n=>h.SetOf (intKind P w) a S n
 | .ins C dx fs=>H dx=some (.own a)∧fs.length≤1000∧dx≠a∧h.get? a=some (PySem.W.instObj C dx) ∧
   ∃ mA,h.Ns1 dx mA∧(∀ f,RelO (fs.lookup f) (mA f))∧PySem.Within mA (fs.map (·.1))
 | .own _=>∃ o,h.get? a=some o
 | .xd fs=>∃ mA,h.Ns1 a mA∧∀ f,RelO (fs.lookup f) (mA f)
 | .rng lo hi=>∃ t u v,h.get? a=some { cls:=.type "range",data:=.fields #[.int lo t,.int hi u,.int 1 v] }
 | .frz o u=>h.get? a=some o∧ObjOk H h a u
 | .tbl ps=>h.get? a=some { cls:=.none,data:=.fields ps }
 | .met f x=>h.get? a=some (PySem.W.methodObj (.ref f) (.ref x))
 | .ext φ=>φ h∧(∃ o,h.get? a=some o)∧∀ h1 h2:Heap,φ h1→(∀ o,h1.get? a=some o→h2.get? a=some o)→φ h2
def HOk (H:Hp) (h:Heap):Prop:=∀ a o,H a=some o→ObjOk P w H h a o
end
section
variable {P:Program}{w:World}{H H':Hp}{h h':Heap}{a:Addr}{o:HO}
theorem ObjOk.lt (x:ObjOk P w H h a o):a < h.objs.size:=by
 cases o with
 | lst xs=>obtain ⟨_,_,_,_,e⟩:=x; exact Heap.lt_size e
 | tup xs=>obtain ⟨_,_,_,p⟩:=x; exact p.lt
 | dK kvs=>obtain ⟨_,_,_,_,o,_,_,e,_⟩:=x; exact Heap.lt_size e
 | dT kvs=>obtain ⟨_,_,_,_,o,_,_,e,_⟩:=x; exact Heap.lt_size e
 | set S n=>obtain ⟨o,_,_,_,e,_⟩:=x; exact Heap.lt_size e
 | ins C dx fs=>obtain ⟨_,_,_,e,_⟩:=x; exact Heap.lt_size e
 | own y=>obtain ⟨_,e⟩:=x; exact Heap.lt_size e
 | xd fs=>obtain ⟨_,⟨_,_,_,e,_⟩,_⟩:=x; exact Heap.lt_size e
 | rng lo hi=>obtain ⟨_,_,_,e⟩:=x; exact Heap.lt_size e
 | frz ob u=>obtain ⟨e,_⟩:=x; exact Heap.lt_size e
 | tbl ps=>exact Heap.lt_size (show h.get? a=some _ from x)
 | met f y=>exact Heap.lt_size (show h.get? a=some _ from x)
 | ext φ=>obtain ⟨_,⟨_,e⟩,_⟩:=x; exact Heap.lt_size e
theorem Paired.mapP {α β:Type}{F G:α→β→Prop}:∀ {l₁:List α}{l₂:List β},Paired F l₁ l₂→(∀ a b,F a b→G a b)→Paired G l₁ l₂
 | _,_,.nil,_=>.nil
 | _,_,.cons r t,f=>.cons (f _ _ r) (Paired.mapP t f)
theorem ObjOk.stay (x:ObjOk P w H h a o) (k:∀ b u,(b=a∨H b=some (.own a))→h.get? b=some u→h'.get? b=some u)
  (ho:∀ b,H b=some (.own a)→H' b=some (.own a)) (ht:∀ b xs,H b=some (.tup xs)→H' b=some (.tup xs)):ObjOk P w H' h' a o:=by
 induction o with
 | lst xs=>obtain ⟨z,its,n,r,e⟩:=x; exact ⟨z,its,n,r,k _ _ (.inl rfl) e⟩
 | tup xs=>obtain ⟨z,its,r,ob,e,c⟩:=x; exact ⟨z,its,r,ob,k _ _ (.inl rfl) e,c⟩
 | dK kvs=>obtain ⟨z,y,vs,r,ob,es,ep,e,c⟩:=x; exact ⟨z,y,vs,r,ob,es,ep,k _ _ (.inl rfl) e,c⟩
 | dT kvs =>
  obtain ⟨z,y,xs,r,ob,es,ep,e,c⟩:=x
  exact ⟨z,y,xs,Paired.mapP r fun p q z=>⟨z.1,ht _ _ z.2.1,z.2.2⟩,ob,es,ep,k _ _ (.inl rfl) e,c⟩
 | set S n=>obtain ⟨ob,es,ep,t,e,c⟩:=x; exact ⟨ob,es,ep,t,k _ _ (.inl rfl) e,c⟩
 | ins C dx fs =>
  obtain ⟨d,z,ne,e,mA,⟨od,es,ep,e2,c⟩,r⟩:=x
  exact ⟨ho _ d,z,ne,k _ _ (.inl rfl) e,mA,⟨od,es,ep,k _ _ (.inr d) e2,c⟩,r⟩
 | own y=>obtain ⟨ob,e⟩:=x; exact ⟨ob,k _ _ (.inl rfl) e⟩
 | xd fs=>obtain ⟨mA,⟨od,es,ep,e,c⟩,r⟩:=x; exact ⟨mA,⟨od,es,ep,k _ _ (.inl rfl) e,c⟩,r⟩
 | rng lo hi=>obtain ⟨t,u,v,e⟩:=x; exact ⟨t,u,v,k _ _ (.inl rfl) e⟩
 | frz ob u ih=>obtain ⟨e,q⟩:=x; exact ⟨k _ _ (.inl rfl) e,ih q⟩
 | tbl ps =>
  have e:h.get? a=some { cls:=.none,data:=.fields ps }:=x
  show h'.get? a=some { cls:=.none,data:=.fields ps }
  exact k a _ (.inl rfl) e
 | met f y =>
  have e:h.get? a=some (PySem.W.methodObj (.ref f) (.ref y)):=x
  show h'.get? a=some (PySem.W.methodObj (.ref f) (.ref y))
  exact k a _ (.inl rfl) e
 | ext φ=>obtain ⟨p,⟨o,e⟩,st⟩:=x; exact ⟨st _ _ p fun o q=>k _ _ (.inl rfl) q,⟨o,k _ _ (.inl rfl) e⟩,st⟩
theorem HOk.lt (x:HOk P w H h) (e:H a=some o):a < h.objs.size:=(x a o e).lt
theorem HOk.fresh (x:HOk P w H h) (e:h.objs.size≤a):H a=none:=by
 cases q:H a with
 | none=>rfl
 | some u=>exact absurd (Nat.lt_of_lt_of_le (x.lt q) e) (Nat.lt_irrefl _)
theorem HOk.kept (x:HOk P w H h) (k:∀ b u,h.get? b=some u→h'.get? b=some u):HOk P w H h':=fun a o e =>
 (x a o e).stay (fun b u _ q=>k b u q) (fun _ q=>q) fun _ _ q=>q
theorem HOk.laid (x:HOk P w H h) (k:∀ b u,h.get? b=some u→h'.get? b=some u) (hp:h.objs.size≤a) (new:ObjOk P w (upd H a o) h' a o):HOk P w (upd H a o) h':=fun b u e=>by
 have hn:=x.fresh hp
 by_cases hb:b=a
 ·subst hb; rw [zaai] at e; cases e; exact new
 ·rw [zaax hb] at e
  exact (x b u e).stay (fun c v _ q=>k c v q) (fun c q=>by rw [zaax (zaaw q hn)]; exact q) fun c xs q=>by rw [zaax (zaaw q hn)]; exact q
end
def Rd (H:Hp) (a:Addr) (u:HO):Prop:=H a=some u∨∃ o,H a=some (.frz o u)
theorem Rd.ok {P:Program}{w:World}{H:Hp}{h:Heap}{a:Addr}{u:HO} (r:Rd H a u) (x:HOk P w H h):ObjOk P w H h a u:=by
 rcases r with r | ⟨o,r⟩
 ·exact x a u r
 ·obtain ⟨_,q⟩:=x a _ r
  exact q
def Mut:Option HO→Prop
 | some (.lst _)=>True
 | some (.dK _)=>True
 | some (.dT _)=>True
 | some (.set _ _)=>True
 | some (.ins _ _ _)=>True
 | some (.ext _)=>True
 | _=>False
section
variable {P:Program}{w:World}{H:Hp}{h h':Heap}{x e:Addr}{o':HO}
theorem HOk.write (ok:HOk P w H h) (mu:Mut (H x)) (he:e=x∨H e=some (.own x)) (k:∀ b u,b≠e→h.get? b=some u→h'.get? b=some u) (heo:∃ u,h'.get? e=some u)
  (new:ObjOk P w (upd H x o') h' x o'):HOk P w (upd H x o') h':=fun b u q=>by
 have nown:∀ c y,H c=some (.own y)→c≠x:=fun c y r z=>by subst z; rw [r] at mu; exact mu
 have ntup:∀ c xs,H c=some (.tup xs)→c≠x:=fun c xs r z=>by subst z; rw [r] at mu; exact mu
 by_cases hb:b=x
 ·subst hb; rw [zaai] at q; cases q; exact new
 ·rw [zaax hb] at q
  by_cases hbe:b=e
  ·have q':H b=some (.own x):=by
    rcases he with z | z
    ·exact absurd (hbe.trans z) hb
    ·rw [hbe]; exact z
   rw [q] at q'; cases q'
   obtain ⟨v,hv⟩:=heo
   exact ⟨v,by rw [hbe]; exact hv⟩
  ·refine (ok b u q).stay (fun c v hc r=>k c v ?_ r) (fun c r=>by rw [zaax (nown c b r)]; exact r) fun c xs r=>by rw [zaax (ntup c xs r)]; exact r
   rcases hc with rfl | hc
   ·exact hbe
   ·rintro rfl
    rcases he with z | z
    ·exact nown c b hc z
    ·rw [hc] at z; cases z; exact hb rfl
end
structure Un (fs ex:List Addr) (H H':Hp) (h h':Heap):Prop where
 keep:∀ b o,h.get? b=some o→H b=none→b ∉ fs→b ∉ ex→h'.get? b=some o
 slot:∀ b o,h.get? b=some o→H b=none→b∈fs→b ∉ ex→∃ sl,h'.get? b=some { o with slots:=sl }
 free:∀ b o,h.get? b=some o→H b=none→b ∉ ex→H' b=none
 there:∀ b o,h.get? b=some o→b ∉ ex→∃ o',h'.get? b=some o'
 tups:∀ b xs,H b=some (.tup xs)→H' b=some (.tup xs)
 frzs:∀ b o u,H b=some (.frz o u)→H' b=some (.frz o u)
 tbls:∀ b ps,H b=some (.tbl ps)→∃ more,H' b=some (.tbl (ps++more))
section
variable {fs fs' ex ex':List Addr}{H H1 H2:Hp}{h h1 h2 h':Heap}{a x e:Addr}{o:HO}
theorem Un.any (u:Un fs ex H H1 h h1) {b:Addr}{ob:Obj} (q:h.get? b=some ob) (n:H b=none) (hx:b ∉ ex):∃ sl,h1.get? b=some { ob with slots:=sl }:=by
 by_cases hb:b∈fs
 ·exact u.slot b ob q n hb hx
 ·exact ⟨ob.slots,u.keep b ob q n hb hx⟩
theorem Un.kept (k:∀ b u,h.get? b=some u→h'.get? b=some u):Un fs ex H H h h' :=
 ⟨fun b ob q _ _ _=>k b ob q,fun b ob q _ _ _=>⟨ob.slots,k b ob q⟩,fun _ _ _ n _=>n,fun b ob q _=>⟨ob,k b ob q⟩,fun _ _ q=>q,fun _ _ _ q=>q,fun _ ps q=>⟨#[],by rw [q]; simp⟩⟩
theorem Un.refl:Un fs ex H H h h:=Un.kept fun _ _ q=>q
theorem Un.laid (k:∀ b u,h.get? b=some u→h'.get? b=some u) (hp:h.objs.size≤a) (hn:H a=none):Un fs ex H (upd H a o) h h' where
 keep:=fun b u q _ _ _=>k b u q
 slot:=fun b u q _ _ _=>⟨u.slots,k b u q⟩
 free:=fun b u q n _=>by rw [zaax (Nat.ne_of_lt (Nat.lt_of_lt_of_le (Heap.lt_size q) hp))]; exact n
 there:=fun b u q _=>⟨u,k b u q⟩
 tups:=fun b xs q=>by rw [zaax (zaaw q hn)]; exact q
 frzs:=fun b u xs q=>by rw [zaax (zaaw q hn)]; exact q
 tbls:=fun b ps q=>⟨#[],by rw [zaax (zaaw q hn),q]; simp⟩
theorem Un.write (mu:Mut (H x)) (he:e=x∨H e=some (.own x)) (k:∀ b u,b≠e→h.get? b=some u→h'.get? b=some u) (heo:∃ u,h'.get? e=some u):Un fs ex H (upd H x o) h h':=by
 have hx:∀ b,H b=none→b≠x:=fun b n z=>by subst z; rw [n] at mu; exact mu
 have hb:∀ b,H b=none→b≠e:=fun b n z=>by
  subst z
  rcases he with r | r
  ·exact hx b n r
  ·rw [n] at r; cases r
 have hm:∀ b u,H b=some u→¬ Mut (some u)→b≠x:=fun b u q nm z=>by subst z; rw [q] at mu; exact nm mu
 refine ⟨fun b u q n _ _=>k b u (hb b n) q,fun b u q n _ _=>⟨u.slots,k b u (hb b n) q⟩,fun b u q n _=>by rw [zaax (hx b n)]; exact n,fun b u q _=>?_,
  fun b xs q=>by rw [zaax (hm b _ q fun z=>z)]; exact q,fun b u xs q=>by rw [zaax (hm b _ q fun z=>z)]; exact q,fun b ps q=>⟨#[],by rw [zaax (hm b _ q fun z=>z),q]; simp⟩⟩
 by_cases hbe:b=e
 ·subst hbe; exact heo
 ·exact ⟨u,k b u hbe q⟩
end
def trk (h:Heap) (H:Hp):List Addr:=(List.range h.objs.size).filter fun a=>(H a).isSome
def hidT (h:Heap) (H:Hp):Heap:=PySem.W.hideAll h (trk h H)
theorem zal6 (h:Heap) (H:Hp):(hidT h H).objs.size=h.objs.size:=PySem.W.hideAll_size _ _
theorem zao2 {h:Heap}{H:Hp}{b:Addr}{o:Obj} (e:h.get? b=some o) (n:H b=none):(hidT h H).get? b=some o :=
 PySem.W.hideAll_get _ e fun hm=>by
  have q:(H b).isSome=true:=(List.mem_filter.mp hm).2
  rw [n] at q; simp at q
theorem zarp {h:Heap}{H:Hp}{b:Addr}{o:Obj} (e:(hidT h H).get? b=some o):h.get? b=some o∧H b=none:=by
 have e':h.get? b=some o:=PySem.W.of_hideAll (trk h H) e
 refine ⟨e',?_⟩
 cases q:H b with
 | none=>rfl
 | some x =>
  have hm:b∈trk h H:=List.mem_filter.mpr ⟨List.mem_range.mpr (Heap.lt_size e'),by simp [q]⟩
  have z:(hidT h H).get? b=none:=PySem.W.hideAll_none (trk h H) hm
  rw [z] at e; cases e
structure Mod (K:PySem.W.Frag) (mg:Str→Option Value) (base:Heap):Prop where
 kin:K.In base
 glob:base.Ns mainGlobals mg
 blt:∃ mb,base.Ns builtinsNs mb∧∀ x:Str,x ≠ "__name__" → mb x=bootBuiltins x
 nolimit:base.NoLimit
structure Cx where
 prog:Program
 w:World
 K:PySem.W.Frag
 mg:Str→Option Value
 base:Heap
 A:Around
 N:List Str
 s₀:Shared
 H₀:Hp
 env:Env
 outer:List Env
 stack:List Env
 ex:List Addr
 fn:Str→Bool
 calm:Bool
 pn:List (Addr × Obj)
 xe:Value→Shared→Prop
def frs (l:List Env):List Addr:=l.filterMap (·.frame)
abbrev Cx.fs (X:Cx):List Addr:=frs X.outer
def Vis (sc:Scope) (x:Str):Prop:=sc.names.lookup x=some .local∨sc.names.lookup x=some .cell∨sc.names.lookup x=some .free
def Loc (sc:Scope) (x:Str):Prop:=sc.names.lookup x=some .local∨sc.names.lookup x=some .cell
def Look (env:Env) (h:Heap) (m:Str→Option Value) (x:Str) (u:Value):Prop :=
 (env.kindOf x=some .local∧m x=some u)∨((env.kindOf x=some .cell∨env.kindOf x=some .free)∧∃ c,env.cells.lookup x=some c∧h.IsCell c (some u))
structure Cx.Ok (X:Cx):Prop where
 mod:Mod X.K X.mg X.base
 kind:X.env.scope.kind=.function
 glob:X.env.globals=mainGlobals
 blt:X.env.builtins=builtinsNs
 above:X.s₀.heap.objs.size≤X.env.locals
 inj:∀ x y c,X.env.cells.lookup x=some c→X.env.cells.lookup y=some c→x=y
 has:∀ x,(X.env.kindOf x=some .cell∨X.env.kindOf x=some .free)→∃ c,X.env.cells.lookup x=some c
 cab:∀ x c,X.fn x=true→X.env.cells.lookup x=some c→X.s₀.heap.objs.size≤c
 hd:X.calm=true→X.A.handled=none
 frames:X.A.frames=some X.stack
 stk:X.stack=X.outer∨(X.stack=X.env :: X.outer∧X.env.frame=some X.env.locals)
 exf:∀ b∈X.ex,b≠X.env.locals∧∀ x c,X.env.cells.lookup x=some c→c≠b
 bs:∀ b o,X.base.get? b=some o→X.s₀.heap.get? b=some o∧X.H₀ b=none
 bsz:X.base.objs.size≤X.s₀.heap.objs.size
 noex:∀ b o,X.base.get? b=some o→b ∉ X.ex
 exfs:∀ b∈X.ex,b ∉ X.fs
 funs:X.s₀.heap.FunFrames X.base X.outer
 frf:∀ b∈X.fs,X.H₀ b=none
structure Inv (X:Cx) (pins:List (Addr × Obj)) (σ:List (Option V)) (H:Hp) (s:Shared):Prop where
 ok:X.Ok
 os:s.os=X.s₀.os
 bare:AllBare s.gens
 base:Un X.fs X.ex X.H₀ H X.s₀.heap s.heap
 loc:∃ m,s.heap.Ns X.env.locals m∧∀ (i:Nat) (x:Str) (v:V),X.N[i]?=some x→σ[i]?=some (some v)→Vis X.env.scope x→∃ u,RelV v u∧Look X.env s.heap m x u
 cell:∀ x c,X.env.cells.lookup x=some c→∃ v,s.heap.IsCell c v
 free:H X.env.locals=none
 freeC:∀ x c,X.env.cells.lookup x=some c→H c=none
 pin:∀ p∈X.pn++pins,s.heap.get? p.1=some p.2∧H p.1=none∧p.1≠X.env.locals∧p.1 ∉ X.fs∧∀ v,p.2.data≠.cell v
 hok:HOk X.prog X.w H s.heap
 len:σ.length=X.N.length
section
variable {X:Cx}{pins:List (Addr × Obj)}{σ:List (Option V)}{H H':Hp}{s:Shared}{h':Heap}
theorem Cx.Ok.nofr (ok:X.Ok) {b:Addr}{o:Obj} (e:X.base.get? b=some o):b ∉ X.fs:=fun hb=>by
 have:=(ok.funs.mem hb).1
 rw [e] at this; cases this
theorem Inv.bs (I:Inv X pins σ H s):∀ b o,X.base.get? b=some o→s.heap.get? b=some o∧H b=none:=fun b o e =>
 ⟨I.base.keep b o (I.ok.bs b o e).1 (I.ok.bs b o e).2 (I.ok.nofr e) (I.ok.noex b o e),I.base.free b o (I.ok.bs b o e).1 (I.ok.bs b o e).2 (I.ok.noex b o e)⟩
theorem Inv.bk (I:Inv X pins σ H s):∀ b o,X.base.get? b=some o→s.heap.get? b=some o:=fun b o e=>(I.bs b o e).1
theorem Inv.mod (I:Inv X pins σ H s):Mod X.K X.mg X.base:=I.ok.mod
theorem Inv.kIn (I:Inv X pins σ H s):X.K.In s.heap:=I.ok.mod.kin.keeps I.bk
theorem Inv.lt (I:Inv X pins σ H s):X.env.locals < s.heap.objs.size:=let ⟨_,hn,_⟩:=I.loc; hn.lt
theorem Inv.sz (I:Inv X pins σ H s):X.s₀.heap.objs.size≤s.heap.objs.size:=Nat.le_trans I.ok.above (Nat.le_of_lt I.lt)
theorem Inv.nofs (I:Inv X pins σ H s) {a:Addr} (h:s.heap.objs.size≤a):a ∉ X.fs:=fun hb=>by
 obtain ⟨_,o,ho,_⟩:=I.ok.funs.mem hb
 exact absurd (Nat.lt_of_lt_of_le (Heap.lt_size ho) (Nat.le_trans I.sz h)) (Nat.lt_irrefl _)
theorem Inv.cne (I:Inv X pins σ H s):∀ x c,X.env.cells.lookup x=some c→c≠X.env.locals:=fun x c e z=>by
 obtain ⟨v,o,ho,hd⟩:=I.cell x c e
 obtain ⟨m,⟨o',es,ep,ho',hd',_⟩,_⟩:=I.loc
 rw [z,ho'] at ho; cases ho; rw [hd'] at hd; cases hd
theorem Inv.funs (I:Inv X pins σ H s):s.heap.FunFrames X.base X.outer:=by
 have all:∀ (l:List Env),(∀ b∈frs l,b∈X.fs)→X.s₀.heap.FunFrames X.base l→s.heap.FunFrames X.base l:=by
  intro l
  induction l with
  | nil=>intro _ _; trivial
  | cons env r ih =>
   intro hs hl
   obtain ⟨hk,⟨L,o,hf,hn,ho,hd⟩,hr⟩:=hl
   have hL:L∈X.fs:=hs L (by unfold frs; rw [List.filterMap_cons,hf]; exact List.mem_cons_self)
   obtain ⟨sl,e⟩:=I.base.slot L o ho (I.ok.frf L hL) hL fun z=>I.ok.exfs L z hL
   exact ⟨hk,⟨L,_,hf,hn,e,hd⟩,ih (fun b hb=>hs b (by unfold frs; rw [List.filterMap_cons,hf]; exact List.mem_cons_of_mem _ hb)) hr⟩
 exact all X.outer (fun _ hb=>hb) I.ok.funs
theorem Inv.stack (I:Inv X pins σ H s):s.heap.FunFrames X.base X.stack:=by
 rcases I.ok.stk with e | ⟨e,hf⟩
 ·rw [e]; exact I.funs
 ·rw [e]
  obtain ⟨m,hn,_⟩:=I.loc
  refine .cons (by rw [I.ok.kind]; decide) hf hn ?_ I.funs
  exact Heap.get?_none_of_le (Nat.le_trans I.ok.bsz I.ok.above)
theorem Inv.stkSub (I:Inv X pins σ H s):∀ b∈frs X.stack,b∈X.env.locals :: X.fs:=fun b hb=>by
 rcases I.ok.stk with e | ⟨e,hf⟩
 ·rw [e] at hb; exact List.mem_cons_of_mem _ hb
 ·rw [e] at hb
  unfold frs at hb
  rw [List.filterMap_cons,hf] at hb
  exact hb
theorem Inv.stkFree (I:Inv X pins σ H s):∀ b∈frs X.stack,H b=none:=fun b hb=>by
 rcases List.mem_cons.mp (I.stkSub b hb) with e | hb
 ·rw [e]; exact I.free
 ·obtain ⟨_,o,ho,_⟩:=I.ok.funs.mem hb
  exact I.base.free b o ho (I.ok.frf b hb) fun z=>I.ok.exfs b z hb
theorem Inv.step {g':Array GenState}{t':Nat}{d':Drawn}{ch:List Addr} (I:Inv X pins σ H s)
  (hch:∀ b∈ch,(b∈X.ex∨X.s₀.heap.objs.size≤b)∧b≠X.env.locals∧(∀ x c,X.env.cells.lookup x=some c→c≠b)∧∀ p∈X.pn++pins,p.1≠b)
  (keep:∀ b o,b≠X.env.locals→b ∉ X.fs→b ∉ ch→s.heap.get? b=some o→H b=none→h'.get? b=some o)
  (slot:∀ b o,b≠X.env.locals→b∈X.fs→b ∉ ch→s.heap.get? b=some o→H b=none→∃ sl,h'.get? b=some { o with slots:=sl }) (free:∀ b o,b ∉ ch→s.heap.get? b=some o→H b=none→H' b=none)
  (there:∀ b o,b ∉ ch→s.heap.get? b=some o→∃ o',h'.get? b=some o')
  (tups:∀ b xs,H b=some (.tup xs)→H' b=some (.tup xs)) (frzs:∀ b o u,H b=some (.frz o u)→H' b=some (.frz o u)) (tbls:∀ b ps,H b=some (.tbl ps)→∃ more,H' b=some (.tbl (ps++more)))
  (ns:∀ m,s.heap.Ns X.env.locals m→h'.Ns X.env.locals m) (hok:HOk X.prog X.w H' h') (hg:AllBare g') :
  Inv X pins σ H' { s with heap:=h',gens:=g',drawn:=d',toks:=t' }:=by
 have neL:∀ b o,X.s₀.heap.get? b=some o→b≠X.env.locals:=fun b o e=>Nat.ne_of_lt (Nat.lt_of_lt_of_le (Heap.lt_size e) I.ok.above)
 have neC:∀ b o,X.s₀.heap.get? b=some o→b ∉ X.ex→b ∉ ch:=fun b o e hx hb=>by
  rcases (hch b hb).1 with z | z
  ·exact hx z
  ·exact absurd (Nat.lt_of_lt_of_le (Heap.lt_size e) z) (Nat.lt_irrefl _)
 have cellK:∀ x c,X.env.cells.lookup x=some c→∀ v,s.heap.IsCell c v→h'.IsCell c v:=fun x c e v ⟨o,ho,hd⟩=>by
  have nch:c ∉ ch:=fun z=>(hch c z).2.2.1 x c e rfl
  by_cases hc:c∈X.fs
  ·obtain ⟨sl,q⟩:=slot c o (I.cne x c e) hc nch ho (I.freeC x c e)
   exact ⟨_,q,hd⟩
  ·exact ⟨o,keep c o (I.cne x c e) hc nch ho (I.freeC x c e),hd⟩
 refine ⟨I.ok,I.os,hg,⟨fun b o e n hb hx=>?_,fun b o e n hb hx=>?_,fun b o e n hx=>?_,fun b o e hx=>?_,fun b xs e=>tups b xs (I.base.tups b xs e),fun b o xs e=>frzs b o xs (I.base.frzs b o xs e),fun b ps e=>?_⟩,?_,fun x c e=>?_,?_,fun x c e=>?_,fun p hp=>?_,hok,I.len⟩
 ·exact keep b o (neL b o e) hb (neC b o e hx) (I.base.keep b o e n hb hx) (I.base.free b o e n hx)
 ·obtain ⟨sl,e1⟩:=I.base.slot b o e n hb hx
  obtain ⟨sl',e2⟩:=slot b _ (neL b o e) hb (neC b o e hx) e1 (I.base.free b o e n hx)
  exact ⟨sl',e2⟩
 ·obtain ⟨o',e1⟩:=I.base.there b o e hx
  exact free b o' (neC b o e hx) e1 (I.base.free b o e n hx)
 ·obtain ⟨o',e1⟩:=I.base.there b o e hx
  exact there b o' (neC b o e hx) e1
 ·obtain ⟨m1,e1⟩:=I.base.tbls b ps e
  obtain ⟨m2,e2⟩:=tbls b _ e1
  exact ⟨m1++m2,by rw [e2,Array.append_assoc]⟩
 ·obtain ⟨m,hn,hl⟩:=I.loc
  refine ⟨m,ns m hn,fun i x v e1 e2 e3=>?_⟩
  obtain ⟨u,r,l⟩:=hl i x v e1 e2 e3
  refine ⟨u,r,?_⟩
  rcases l with l | ⟨k,c,e,z⟩
  ·exact .inl l
  ·exact .inr ⟨k,c,e,cellK x c e _ z⟩
 ·obtain ⟨v,z⟩:=I.cell x c e
  exact ⟨v,cellK x c e v z⟩
 ·obtain ⟨m,⟨o,_,_,ho,_⟩,_⟩:=I.loc
  exact free _ o (fun z=>(hch _ z).2.1 rfl) ho I.free
 ·obtain ⟨v,o,ho,hd⟩:=I.cell x c e
  exact free c o (fun z=>(hch c z).2.2.1 x c e rfl) ho (I.freeC x c e)
 ·obtain ⟨e,n,ne,nf,d⟩:=I.pin p hp
  have nch:p.1 ∉ ch:=fun z=>(hch p.1 z).2.2.2 p hp rfl
  exact ⟨keep p.1 p.2 ne nf nch e n,free p.1 p.2 nch e n,ne,nf,d⟩
theorem Inv.un {t':Nat} (I:Inv X pins σ H s) (u:Un X.fs [] H H' s.heap h') (hok:HOk X.prog X.w H' h'):Inv X pins σ H' { s with heap:=h',toks:=t' }:=by
 obtain ⟨m,⟨o,es,ep,ho,r⟩,_⟩:=id I.loc
 obtain ⟨sl,hL⟩:=u.any ho I.free (by simp)
 exact I.step (g':=s.gens) (d':=s.drawn) (ch:=[]) (fun _ z=>nomatch z) (fun b o _ hb _ e n=>u.keep b o e n hb (by simp)) (fun b o _ hb _ e n=>u.slot b o e n hb (by simp)) (fun b o _ e n=>u.free b o e n (by simp)) (fun b o _ e=>u.there b o e (by simp)) u.tups u.frzs u.tbls (fun m' hm=>by
  obtain ⟨o',es',ep',ho',r'⟩:=hm
  rw [ho] at ho'; cases ho'
  exact ⟨_,es',ep',hL,r'⟩) hok I.bare
theorem Inv.call {g':Array GenState}{t':Nat}{d':Drawn}{ch:List Addr} (I:Inv X pins σ H s) (u:Un (frs X.stack) ch H H' s.heap h') (hok:HOk X.prog X.w H' h') (hg:AllBare g')
  (hch:∀ b∈ch,(b∈X.ex∨X.s₀.heap.objs.size≤b)∧b≠X.env.locals∧(∀ x c,X.env.cells.lookup x=some c→c≠b)∧∀ p∈X.pn++pins,p.1≠b) :
  Inv X pins σ H' { s with heap:=h',gens:=g',drawn:=d',toks:=t' }:=by
 obtain ⟨m,⟨o,es,ep,ho,r⟩,_⟩:=id I.loc
 obtain ⟨sl,hL⟩:=u.any ho I.free fun z=>(hch _ z).2.1 rfl
 exact I.step (ch:=ch) hch (fun b o hL hb hc e n=>u.keep b o e n (fun z=>(List.mem_cons.mp (I.stkSub b z)).elim hL hb) hc) (fun b o _ _ hc e n=>u.any e n hc) (fun b o hc e n=>u.free b o e n hc) (fun b o hc e=>u.there b o e hc) u.tups u.frzs u.tbls (fun m' hm=>by
  obtain ⟨o',es',ep',ho',r'⟩:=hm
  rw [ho] at ho'; cases ho'
  exact ⟨_,es',ep',hL,r'⟩) hok hg
theorem Inv.turned {t':Nat}{it:Addr} (I:Inv X pins σ H s) (k:∀ b o,b≠it→s.heap.get? b=some o→h'.get? b=some o) (hn:H it=none) (hL:it≠X.env.locals)
  (h1:it∈X.ex∨X.s₀.heap.objs.size≤it) (h2:∀ x c,X.env.cells.lookup x=some c→c≠it) (h3:∀ p∈X.pn++pins,p.1≠it):Inv X pins σ H { s with heap:=h',toks:=t' }:=by
 have nit:∀ b u,H b=some u→b≠it:=fun b u e z=>by rw [z,hn] at e; cases e
 refine I.step (g':=s.gens) (d':=s.drawn) (ch:=[it]) (fun b hb=>?_) (fun b o _ _ hc e _=>k b o (fun z=>hc (by simp [z])) e) (fun b o _ _ hc e _=>⟨o.slots,k b o (fun z=>hc (by simp [z])) e⟩) (fun _ _ _ _ n=>n)
  (fun b o hc e=>⟨o,k b o (fun z=>hc (by simp [z])) e⟩) (fun _ _ e=>e) (fun _ _ _ e=>e) (fun b ps e=>⟨#[],by rw [e]; simp⟩) (fun m hm=>?_) (fun b u e=>?_) I.bare
 ·have e:b=it:=by simpa using hb
  subst e
  exact ⟨h1,hL,h2,h3⟩
 ·obtain ⟨o,es,ep,ho,r⟩:=hm
  exact ⟨o,es,ep,k _ o (Ne.symm hL) ho,r⟩
 ·refine (I.hok b u e).stay (fun c v hc q=>k c v ?_ q) (fun _ q=>q) fun _ _ q=>q
  rcases hc with z | z
  ·rw [z]; exact nit b u e
  ·exact nit c _ z
theorem Inv.tok (I:Inv X pins σ H s) (t:Nat):Inv X pins σ H { s with toks:=t }:=I.un (h':=s.heap) (t':=t) Un.refl I.hok
theorem Inv.kept {t':Nat} (I:Inv X pins σ H s) (k:∀ b u,s.heap.get? b=some u→h'.get? b=some u):Inv X pins σ H { s with heap:=h',toks:=t' }:=I.un (Un.kept k) (I.hok.kept k)
theorem Inv.laid {a:Addr}{o:HO}{t':Nat} (I:Inv X pins σ H s) (k:∀ b u,s.heap.get? b=some u→h'.get? b=some u) (hp:s.heap.objs.size≤a) (new:ObjOk X.prog X.w (upd H a o) h' a o) :
  Inv X pins σ (upd H a o) { s with heap:=h',toks:=t' }:=I.un (Un.laid k hp (I.hok.fresh hp)) (I.hok.laid k hp new)
theorem Inv.write {x e:Addr}{o:HO}{t':Nat} (I:Inv X pins σ H s) (mu:Mut (H x)) (he:e=x∨H e=some (.own x)) (k:∀ b u,b≠e→s.heap.get? b=some u→h'.get? b=some u) (heo:∃ u,h'.get? e=some u)
  (new:ObjOk X.prog X.w (upd H x o) h' x o):Inv X pins σ (upd H x o) { s with heap:=h',toks:=t' }:=I.un (Un.write mu he k heo) (I.hok.write mu he k heo new)
theorem Inv.pins_of {pins':List (Addr × Obj)} (I:Inv X pins σ H s) (h:∀ p∈pins',s.heap.get? p.1=some p.2∧H p.1=none∧p.1≠X.env.locals∧p.1 ∉ X.fs∧∀ v,p.2.data≠.cell v):Inv X pins' σ H s :=
 ⟨I.ok,I.os,I.bare,I.base,I.loc,I.cell,I.free,I.freeC,fun p hp=>(List.mem_append.mp hp).elim (fun z=>I.pin p (List.mem_append_left _ z)) (h p),I.hok,I.len⟩
theorem zahj {N:List Str} (hN:N.Nodup) {i j:Nat}{x:Str} (a:N[i]?=some x) (b:N[j]?=some x):i=j:=by
 obtain ⟨h1,e1⟩:=List.getElem?_eq_some_iff.mp a
 obtain ⟨h2,e2⟩:=List.getElem?_eq_some_iff.mp b
 exact (List.getElem_inj hN).mp (e1.trans e2.symm)
theorem zail {M:Model}{A:Around}{E:Value→Shared→Prop}{i:Nat}{x:Str}{v:V}{u:Value}{Q:Unit→Shared→Prop} (I:Inv X pins σ H s) (hN:X.N.Nodup) (hi:X.N[i]?=some x) (hx:Loc X.env.scope x) (r:RelV v u)
  (h:∀ s',Inv X pins (σ.set i (some v)) H s'→(∃ a,Heap.SameBut a s.heap s'.heap∧(a=X.env.locals∨X.env.cells.lookup x=some a))→Q () s') (hf:X.fn x=true∨X.env.scope.names.lookup x=some .local:=by first | exact .inl rfl | exact .inr rfl | assumption):wpAny M A (storeName X.env x u) Q E s:=by
 obtain ⟨m,hn,hl⟩:=id I.loc
 have hcls:(X.env.scope.kind == .class || (X.env.scope.kind == .module && X.env.locals != X.env.globals))=false:=by rw [I.ok.kind]; rfl
 have hiσ:i < σ.length:=by rw [I.len]; exact (List.getElem?_eq_some_iff.mp hi).1
 have cne:=I.cne
 have tracked:∀ {a:Addr}{h':Heap},(∃ o,s.heap.get? a=some o∧H a=none)→Heap.SameBut a s.heap h'→HOk X.prog X.w H h':=fun {a h'} ha hs b ob e=>by
  obtain ⟨_,_,hfree⟩:=ha
  refine (I.hok b ob e).stay (fun c w' hc q=>(hs.2 c ?_).trans q) (fun _ q=>q) fun _ _ q=>q
  rintro rfl
  rcases hc with rfl | hc
  ·rw [hfree] at e; cases e
  ·rw [hfree] at hc; cases hc
 rcases hx with hk | hk
 ·refine wpAny_storeName_local hk hn (fun h' hn' hs=>?_) hcls
  obtain ⟨oL,_,_,hoL,_⟩:=id hn
  refine h _ ⟨I.ok,I.os,I.bare,⟨fun b o e n hb hx=>?_,fun b o e n hb hx=>?_,I.base.free,fun b o e hx=>?_,I.base.tups,I.base.frzs,I.base.tbls⟩,⟨_,hn',fun j y v' e1 e2 e3=>?_⟩,fun y c e=>?_,I.free,I.freeC,fun p hp=>?_,tracked ⟨oL,hoL,I.free⟩ hs,by simpa using I.len⟩ ⟨_,hs,.inl rfl⟩
  ·exact (hs.2 b (Nat.ne_of_lt (Nat.lt_of_lt_of_le (Heap.lt_size e) I.ok.above))).trans (I.base.keep b o e n hb hx)
  ·obtain ⟨sl,e1⟩:=I.base.slot b o e n hb hx
   exact ⟨sl,(hs.2 b (Nat.ne_of_lt (Nat.lt_of_lt_of_le (Heap.lt_size e) I.ok.above))).trans e1⟩
  ·obtain ⟨o',e1⟩:=I.base.there b o e hx
   exact ⟨o',(hs.2 b (Nat.ne_of_lt (Nat.lt_of_lt_of_le (Heap.lt_size e) I.ok.above))).trans e1⟩
  ·by_cases hj:j=i
   ·subst hj
    rw [hi] at e1; cases e1
    rw [List.getElem?_set_self hiσ] at e2
    cases e2
    exact ⟨u,r,.inl ⟨hk,by simp⟩⟩
   ·rw [List.getElem?_set_ne (Ne.symm hj)] at e2
    obtain ⟨u',r',q⟩:=hl j y v' e1 e2 e3
    refine ⟨u',r',?_⟩
    rcases q with ⟨k,e⟩ | ⟨k,c,e,z⟩
    ·refine .inl ⟨k,?_⟩
     have:y≠x:=fun e=>hj (zahj hN e1 (e ▸ hi))
     simp [this,e]
    ·exact .inr ⟨k,c,e,z.sameBut hs (cne y c e)⟩
  ·obtain ⟨w',z⟩:=I.cell y c e
   exact ⟨w',z.sameBut hs (cne y c e)⟩
  ·obtain ⟨e,n,ne,nf,d⟩:=I.pin p hp
   exact ⟨(hs.2 p.1 ne).trans e,n,ne,nf,d⟩
 ·have hfn:X.fn x=true:=by
   rcases hf with z | z
   ·exact z
   ·rw [z] at hk; cases hk
  obtain ⟨c,hc⟩:=I.ok.has x (.inl hk)
  obtain ⟨w',z⟩:=I.cell x c hc
  refine wpAny_storeName_cell I.ok.kind hk hc z (fun h' hc' hs=>?_)
  obtain ⟨oc,hoc,hocd⟩:=id z
  refine h { s with heap:=h' } ⟨I.ok,I.os,I.bare,⟨fun b o e n hb hx=>?_,fun b o e n hb hx=>?_,I.base.free,fun b o e hx=>?_,I.base.tups,I.base.frzs,I.base.tbls⟩,⟨m,hn.sameBut hs (Ne.symm (cne x c hc)),fun j y v' e1 e2 e3=>?_⟩,fun y c' e=>?_,I.free,I.freeC,fun p hp=>?_,tracked ⟨oc,hoc,I.freeC x c hc⟩ hs,by simpa using I.len⟩ ⟨c,hs,.inr hc⟩
  ·exact (hs.2 b (Nat.ne_of_lt (Nat.lt_of_lt_of_le (Heap.lt_size e) (I.ok.cab x c hfn hc)))).trans (I.base.keep b o e n hb hx)
  ·obtain ⟨sl,e1⟩:=I.base.slot b o e n hb hx
   exact ⟨sl,(hs.2 b (Nat.ne_of_lt (Nat.lt_of_lt_of_le (Heap.lt_size e) (I.ok.cab x c hfn hc)))).trans e1⟩
  ·obtain ⟨o',e1⟩:=I.base.there b o e hx
   exact ⟨o',(hs.2 b (Nat.ne_of_lt (Nat.lt_of_lt_of_le (Heap.lt_size e) (I.ok.cab x c hfn hc)))).trans e1⟩
  ·by_cases hj:j=i
   ·subst hj
    rw [hi] at e1; cases e1
    rw [List.getElem?_set_self hiσ] at e2
    cases e2
    exact ⟨u,r,.inr ⟨.inl hk,c,hc,hc'⟩⟩
   ·rw [List.getElem?_set_ne (Ne.symm hj)] at e2
    obtain ⟨u',r',q⟩:=hl j y v' e1 e2 e3
    refine ⟨u',r',?_⟩
    rcases q with q | ⟨k,c',e,z'⟩
    ·exact .inl q
    ·refine .inr ⟨k,c',e,z'.sameBut hs ?_⟩
     rintro rfl
     exact hj (zahj hN e1 (I.ok.inj _ _ _ e hc ▸ hi))
  ·by_cases hcc:c'=c
   ·subst hcc; exact ⟨_,hc'⟩
   ·obtain ⟨w2,z2⟩:=I.cell y c' e
    exact ⟨w2,z2.sameBut hs hcc⟩
  ·obtain ⟨e,n,ne,nf,d⟩:=I.pin p hp
   refine ⟨(hs.2 p.1 ?_).trans e,n,ne,nf,d⟩
   intro q
   rw [q,hoc] at e
   have q':oc=p.2:=Option.some.inj e
   exact d w' (by rw [← q']; exact hocd)
theorem zafr {M:Model}{A:Around}{E:Value→Shared→Prop}{i:Nat}{x:Str}{v:V}{u:Value}{Q:Unit→Shared→Prop} (I:Inv X pins σ H s) (hN:X.N.Nodup) (hi:X.N[i]?=some x) (hx:Loc X.env.scope x) (r:RelV v u)
  (h:∀ s',Inv X pins (σ.set i (some v)) H s'→Q () s') (hf:X.fn x=true∨X.env.scope.names.lookup x=some .local:=by first | exact .inl rfl | exact .inr rfl | assumption):wpAny M A (storeName X.env x u) Q E s :=
 zail I hN hi hx r (fun s' I' _=>h s' I') hf
theorem Inv.call' {s':Shared}{ch:List Addr} (I:Inv X pins σ H s) (ho:s'.os=s.os) (u:Un (frs X.stack) ch H H' s.heap s'.heap) (hok:HOk X.prog X.w H' s'.heap) (hg:AllBare s'.gens)
  (hch:∀ b∈ch,(b∈X.ex∨X.s₀.heap.objs.size≤b)∧b≠X.env.locals∧(∀ x c,X.env.cells.lookup x=some c→c≠b)∧∀ p∈X.pn++pins,p.1≠b):Inv X pins σ H' s':=by
 obtain ⟨h',g',d',t',o'⟩:=s'
 have e:o'=s.os:=ho
 subst e
 exact I.call (g':=g') (t':=t') (d':=d') u hok hg hch
end
abbrev XK:=Value→Option Addr→Hp→Prop
abbrev St:=List (Option V)
abbrev VK:=V→Hp→Prop
abbrev TE:=St→Hp→VK→Prop
abbrev TT:=St→Hp→(Bool→Hp→Prop)→Prop
abbrev TA:=St→Hp→(List V→Hp→Prop)→Prop
structure Ends where
 nx:St→Hp→Prop
 rt:VK
 bk:St→Hp→Prop:=fun _ _=>False
 ct:St→Hp→Prop:=fun _ _=>False
abbrev TS:=Ends→St→Hp→Prop
def EP (X:Cx) (pins:List (Addr × Obj)) (σ:St) (Q:VK) (u:Value) (s':Shared):Prop:=∃ v H',Inv X pins σ H' s'∧RelV v u∧Q v H'
def TP (X:Cx) (pins:List (Addr × Obj)) (σ:St) (Q:Bool→Hp→Prop) (b:Bool) (s':Shared):Prop:=∃ H',Inv X pins σ H' s'∧Q b H'
def AP (X:Cx) (pins:List (Addr × Obj)) (σ:St) (Q:List V→Hp→Prop) (us:List Value) (s':Shared):Prop:=∃ vs H',Inv X pins σ H' s'∧Vals vs us∧Q vs H'
def SP (X:Cx) (pins:List (Addr × Obj)) (D:Ends) (f:Flow) (s':Shared):Prop :=
 match f with
 | .next=>∃ σ' H',Inv X pins σ' H' s'∧D.nx σ' H'
 | .brk=>∃ σ' H',Inv X pins σ' H' s'∧D.bk σ' H'
 | .cont=>∃ σ' H',Inv X pins σ' H' s'∧D.ct σ' H'
 | .ret u=>∃ v σ' H',Inv X pins σ' H' s'∧RelV v u∧D.rt v H'
def PE (X:Cx) (e:Expr) (t:TE):Prop :=
 ∀ (pins:List (Addr × Obj)) (s:Shared) (σ:St) (H:Hp) (Q:VK),Inv X pins σ H s→t σ H Q→wpAny (model X.prog X.w) X.A (eval e X.env) (EP X pins σ Q) X.xe s
def PT (X:Cx) (e:Expr) (t:TT):Prop :=
 ∀ (pins:List (Addr × Obj)) (s:Shared) (σ:St) (H:Hp) (Q:Bool→Hp→Prop),Inv X pins σ H s→t σ H Q→wpAny (model X.prog X.w) X.A (isTrue e X.env (eval e X.env)) (TP X pins σ Q) X.xe s
def PW (X:Cx) (e:Expr) (t:TT):Prop :=
 ∀ (whole:Sem Value) (pins:List (Addr × Obj)) (s:Shared) (σ:St) (H:Hp) (Q:Bool→Hp→Prop),Inv X pins σ H s→t σ H Q→wpAny (model X.prog X.w) X.A (isTrue e X.env whole) (TP X pins σ Q) X.xe s
theorem PW.pt {X:Cx}{e:Expr}{t:TT} (h:PW X e t):PT X e t:=h _
def PA (X:Cx) (es:List Expr) (t:TA):Prop :=
 ∀ (pos:Pos) (pins:List (Addr × Obj)) (s:Shared) (σ:St) (H:Hp) (Q:List V→Hp→Prop),Inv X pins σ H s→t σ H Q→wpAny (model X.prog X.w) X.A (spliced (backTo pos (starEach es X.env))) (AP X pins σ Q) X.xe s
def PS (X:Cx) (st:Stmt) (t:TS):Prop :=
 ∀ (pins:List (Addr × Obj)) (s:Shared) (σ:St) (H:Hp) (D:Ends),Inv X pins σ H s→t D σ H→wpAny (model X.prog X.w) X.A (exec st X.env) (SP X pins D) X.xe s
def PSs (X:Cx) (st:List Stmt) (t:TS):Prop :=
 ∀ (pins:List (Addr × Obj)) (s:Shared) (σ:St) (H:Hp) (D:Ends),Inv X pins σ H s→t D σ H→wpAny (model X.prog X.w) X.A (execs st X.env) (SP X pins D) X.xe s
theorem thn {α:Type}{t:Sem α}{Q Q':α→Shared→Prop}{M:Model}{A:Around}{E:Value→Shared→Prop}{s:Shared} (h:wpAny M A t Q E s) (hQ:∀ a s,Q a s→Q' a s):wpAny M A t Q' E s:=wpAny_mono h hQ fun _ _ x=>x
section
variable {X:Cx}
def tVar (i:Nat):TE:=fun σ H Q=>∃ v,σ[i]?=some (some v)∧Q v H
def tC (v:V):TE:=fun _ H Q=>Q v H
theorem zaue {i:Nat}{x:Str}{pos:Pos} (hN:X.N[i]?=some x) (hv:Vis X.env.scope x) (hd:(x == ("__debug__" : Str))=false:=by decide) (hcd:(x == ("__classdict__" : Str))=false:=by decide):PE X (.Name x pos) (tVar i):=by
 intro pins s σ H Q I h
 obtain ⟨v,e,h⟩:=h
 obtain ⟨m,hn,hl⟩:=I.loc
 obtain ⟨u,r,l⟩:=hl i x v hN e hv
 have fin:EP X pins σ Q u s:=⟨v,H,I,r,h⟩
 rcases l with ⟨hk,hm⟩ | ⟨hk,c,hc,hcell⟩
 ·exact wpAny_Name (wpAny_loadName_local I.ok.kind hk hn hm fin) hd
 ·rcases hk with hk | hk
  ·exact wpAny_Name (wpAny_loadName_cell I.ok.kind hk hc hcell fin) hd
  ·exact wpAny_Name (wpAny_loadName_free I.ok.kind hk hc hcell fin hcd) hd
theorem zauf {i j pos}:PE X (.Constant (.int i) j pos) (tC (.int i)):=fun _ _ _ H _ I h=>wpAny_Constant_int ⟨.int i,H,I.tok _,⟨_,rfl⟩,h⟩
theorem zaww {b j pos}:PE X (.Constant (.bool b) j pos) (tC (.bl b)):=fun _ _ _ H _ I h=>Constant_bool ⟨.bl b,H,I,rfl,h⟩
theorem zaug {j pos}:PE X (.Constant .none j pos) (tC .non):=fun _ _ _ H _ I h=>Constant_none ⟨.non,H,I,rfl,h⟩
theorem zauh {x j pos}:PE X (.Constant (.str x) j pos) (tC (.str x)):=fun _ _ _ H _ I h=>Calls.Constant_str ⟨.str x,H,I.tok _,⟨_,rfl⟩,h⟩
def Gl (X:Cx) (x:Str):Prop:=X.env.kindOf x=some .globalImplicit
theorem zaef {E:Value→Shared→Prop}{pins:List (Addr × Obj)}{s:Shared}{σ:St}{H:Hp}{x:Str}{u:Value}{pos:Pos}{Q:Value→Shared→Prop} (I:Inv X pins σ H s) (hg:Gl X x) (hm:X.mg x=some u) (h:Q u s)
  (hd:(x == ("__debug__" : Str))=false:=by decide):wpAny (model X.prog X.w) X.A (eval (.Name x pos) X.env) Q E s :=
 Calls.Name_function_global I.ok.kind hg (Calls.loadGlobal_global (by rw [I.ok.glob]; exact I.mod.glob.keeps I.bk) hm h) hd
theorem zag3 {E:Value→Shared→Prop}{pins:List (Addr × Obj)}{s:Shared}{σ:St}{H:Hp}{x:Str}{u:Value}{pos:Pos}{Q:Value→Shared→Prop} (I:Inv X pins σ H s) (hg:Gl X x) (hm:X.mg x=none) (hv:bootBuiltins x=some u) (h:Q u s)
  (hn:x ≠ "__name__" := by decide) (hd:(x == ("__debug__" : Str))=false:=by decide):wpAny (model X.prog X.w) X.A (eval (.Name x pos) X.env) Q E s:=by
 obtain ⟨mb,h1,h2⟩:=I.mod.blt
 exact Calls.Name_function_global I.ok.kind hg (Calls.loadGlobal_builtin (by rw [I.ok.glob]; exact I.mod.glob.keeps I.bk) hm (by rw [I.ok.blt]; exact h1.keeps I.bk) ((h2 x hn).trans hv) h) hd
theorem zal7 {x:Str}{v:V}{u:Value}{pos:Pos} (hg:Gl X x) (hm:X.mg x=some u) (r:RelV v u) (hd:(x == ("__debug__" : Str))=false:=by decide):PE X (.Name x pos) (tC v) :=
 fun _ _ _ H _ I h=>zaef I hg hm ⟨v,H,I,r,h⟩ hd
theorem zarq {x:Str}{v:V}{u:Value}{pos:Pos} (hg:Gl X x) (hm:X.mg x=none) (hv:bootBuiltins x=some u) (r:RelV v u) (hn:x ≠ "__name__" := by decide) (hd:(x == ("__debug__" : Str))=false:=by decide):PE X (.Name x pos) (tC v) :=
 fun _ _ _ H _ I h=>zag3 I hg hm hv ⟨v,H,I,r,h⟩ hn hd
variable {a b:Expr}{ta tb:TE}{pos:Pos}
def tB (t:TE):TT:=fun σ H Q=>t σ H fun x H1=>∃ c,x=.bl c∧Q c H1
theorem zaui {e:Expr}{t:TE} (h:PE X e t) (he:∀ whole,isTrue e X.env whole=(do let v ← whole; standAt e.pos; holding [v] (truthy v)):=by intro _; rfl):PT X e (tB t):=by
 intro pins s σ H Q I hw
 refine isTrue_plain (thn (h pins s σ H _ I hw) fun v s1 ⟨x,H1,I1,r1,q1⟩=>?_) (he _)
 obtain ⟨d,rfl,q⟩:=q1
 cases r1
 exact wpAny_truthy_bool ⟨H1,I1,q⟩
variable {tA tB':TT}{rest:List Expr}
def tAnd (t u:TT):TT:=fun σ H Q=>t σ H fun c H1=>if c=true then u σ H1 Q else Q false H1
def tOr (t u:TT):TT:=fun σ H Q=>t σ H fun c H1=>if c=true then Q true H1 else u σ H1 Q
def tNot (t:TT):TT:=fun σ H Q=>t σ H fun c H1=>Q (!c) H1
theorem zarr (ha:PT X a tA):PW X (.BoolOp .And [a] pos) tA:=by
 intro wh pins s σ H Q I h
 refine isTrue_and (thn (ha pins s σ H Q I h) fun c s1 e=>?_)
 cases c with
 | true=>exact isTrue_and_nil e
 | false=>exact e
theorem zauj (ha:PT X a tA):PW X (.BoolOp .Or [a] pos) tA:=by
 intro wh pins s σ H Q I h
 refine isTrue_or (thn (ha pins s σ H Q I h) fun c s1 e=>?_)
 cases c with
 | false=>exact isTrue_or_nil e
 | true=>exact e
theorem zauk (ha:PT X a tA) (hb:PW X (.BoolOp .And (b :: rest) pos) tB'):PW X (.BoolOp .And (a :: b :: rest) pos) (tAnd tA tB'):=by
 intro wh pins s σ H Q I h
 refine isTrue_and (thn (ha pins s σ H _ I h) fun c s1 ⟨H1,I1,q1⟩=>?_)
 cases c with
 | true=>exact hb wh pins s1 σ H1 Q I1 q1
 | false=>exact ⟨H1,I1,q1⟩
theorem zawx (ha:PT X a tA) (hb:PW X (.BoolOp .Or (b :: rest) pos) tB'):PW X (.BoolOp .Or (a :: b :: rest) pos) (tOr tA tB'):=by
 intro wh pins s σ H Q I h
 refine isTrue_or (thn (ha pins s σ H _ I h) fun c s1 ⟨H1,I1,q1⟩=>?_)
 cases c with
 | true=>exact ⟨H1,I1,q1⟩
 | false=>exact hb wh pins s1 σ H1 Q I1 q1
theorem zaul (ha:PT X a tA):PT X (.UnaryOp .Not a pos) (tNot tA):=by
 intro pins s σ H Q I h
 exact isTrue_not (ha pins s σ H (fun c H1=>Q (!c) H1) I h)
def tAndV (ta tb:TE):TE:=fun σ H Q=>ta σ H fun x H1=>∃ c,x=.bl c∧if c=true then tb σ H1 Q else Q (.bl false) H1
theorem zaum {op}{t:TE} (h:PE X a t):PE X (.BoolOp op [a] pos) t:=fun pins s σ H Q I hw=>BoolOp_one (h pins s σ H Q I hw)
theorem zaun (ha:PE X a ta) (hb:PE X (.BoolOp .And (b :: rest) pos) tb):PE X (.BoolOp .And (a :: b :: rest) pos) (tAndV ta tb):=by
 intro pins s σ H Q I h
 refine BoolOp_and (thn (ha pins s σ H _ I h) fun v s1 ⟨x,H1,I1,r1,q1⟩=>?_)
 obtain ⟨c,rfl,q1⟩:=q1
 cases r1
 refine wpAny_truthy_bool ?_
 cases c with
 | true=>exact hb pins s1 σ H1 Q I1 q1
 | false=>exact ⟨.bl false,H1,I1,rfl,q1⟩
def tIf (t:TT) (ta tb:TE):TE:=fun σ H Q=>t σ H fun c H1=>if c=true then ta σ H1 Q else tb σ H1 Q
theorem zao3 {c:Expr} (hc:PT X c tA) (ha:PE X a ta) (hb:PE X b tb):PE X (.IfExp c a b pos) (tIf tA ta tb):=by
 intro pins s σ H Q I h
 refine wpAny_IfExp (thn (hc pins s σ H _ I h) fun d s1 ⟨H1,I1,q1⟩=>?_)
 cases d with
 | true=>exact ha pins s1 σ H1 Q I1 q1
 | false=>exact hb pins s1 σ H1 Q I1 q1
end
def SqL (K:PySem.W.Frag) (H:Hp) (a:Addr) (xs:List V):Prop :=
 Rd H a (.lst xs) ∨
  ∃ (o:Obj) (its:Array Value) (n:Nat),K.lookup a=some o∧o.cls=.type "list" ∧ o.dict=none∧o.data=.seq its n∧its.size≤sizeLine∧Vals xs its.toList
def SqT (K:PySem.W.Frag) (H:Hp) (a:Addr) (xs:List V):Prop :=
 Rd H a (.tup xs) ∨
  ∃ (o:Obj) (its:Array Value) (n:Nat),K.lookup a=some o∧o.cls=.type "tuple" ∧ o.data=.seq its n∧its.size≤sizeLine∧Vals xs its.toList
def absV:Value→Option V
 | .none=>some .non
 | .bool b=>some (.bl b)
 | .int i _=>some (.int i)
 | .str x _=>some (.str x)
 | .bytes b _=>some (.byt b)
 | .float b _=>some (.flt b)
 | .ref a=>some (.ref a)
 | .type n=>some (.ty n)
 | _=>none
theorem RelV.abs {x:V}{u:Value} (r:RelV x u):absV u=some x:=by
 cases x with
 | non=>cases r; rfl
 | bl _=>cases r; rfl
 | int _=>obtain ⟨t,rfl⟩:=r; rfl
 | str _=>obtain ⟨t,rfl⟩:=r; rfl
 | byt _=>obtain ⟨t,rfl⟩:=r; rfl
 | flt _=>obtain ⟨t,rfl⟩:=r; rfl
 | ref _=>cases r; rfl
 | ty _=>cases r; rfl
theorem RelV.inj {x y:V}{u:Value} (r:RelV x u) (q:RelV y u):x=y:=Option.some.inj (r.abs.symm.trans q.abs)
theorem Vals.inj:∀ {xs ys:List V}{us:List Value},Vals xs us→Vals ys us→xs=ys
 | _,_,_,.nil,.nil=>rfl
 | _,_,_,.cons r t,.cons r' t'=>by rw [r.inj r',Vals.inj t t']
section
variable {X:Cx}{pins:List (Addr × Obj)}{σ:St}{H:Hp}{s:Shared}{a:Addr}{xs ys:List V}
theorem SqL.of {K:PySem.W.Frag} (h:H a=some (.lst xs)):SqL K H a xs:=.inl (.inl h)
theorem SqT.of {K:PySem.W.Frag} (h:H a=some (.tup xs)):SqT K H a xs:=.inl (.inl h)
theorem Inv.list (I:Inv X pins σ H s) (h:SqL X.K H a xs):∃ its:List Value,Vals xs its∧PlainL s.heap a its.toArray∧xs.length≤sizeLine:=by
 rcases h with h | ⟨o,its,n,hk,hc,hd,hs,hz,r⟩
 ·obtain ⟨z,its,n,r,e⟩:=h.ok I.hok
  exact ⟨its,r,⟨_,n,e,rfl,rfl,rfl⟩,z⟩
 ·refine ⟨its.toList,r,⟨o,n,I.kIn a o hk,hc,hd,by simpa using hs⟩,?_⟩
  have e:=r.length
  simp only [Array.length_toList] at e
  omega
theorem Inv.tuple (I:Inv X pins σ H s) (h:SqT X.K H a xs):∃ its:List Value,Vals xs its∧IsTup s.heap a its.toArray∧xs.length≤sizeLine:=by
 rcases h with h | ⟨o,its,n,hk,hc,hs,hz,r⟩
 ·obtain ⟨z,its,r,p⟩:=h.ok I.hok
  exact ⟨its,r,p,z⟩
 ·refine ⟨its.toList,r,⟨o,I.kIn a o hk,hc,n,by simpa using hs⟩,?_⟩
  have e:=r.length
  simp only [Array.length_toList] at e
  omega
theorem Inv.list_inj (I:Inv X pins σ H s) (h:SqL X.K H a xs) (h':SqL X.K H a ys):xs=ys:=by
 obtain ⟨its,r,⟨o,n,e,_,_,d⟩,_⟩:=I.list h
 obtain ⟨its',r',⟨o',n',e',_,_,d'⟩,_⟩:=I.list h'
 rw [e] at e'; cases e'
 rw [d] at d'
 injection d' with d1 _
 have:its=its':=by simpa using congrArg Array.toList d1
 subst this
 exact r.inj r'
theorem Inv.tuple_inj (I:Inv X pins σ H s) (h:SqT X.K H a xs) (h':SqT X.K H a ys):xs=ys:=by
 obtain ⟨its,r,⟨o,e,_,n,d⟩,_⟩:=I.tuple h
 obtain ⟨its',r',⟨o',e',_,n',d'⟩,_⟩:=I.tuple h'
 rw [e] at e'; cases e'
 rw [d] at d'
 injection d' with d1 _
 have:its=its':=by simpa using congrArg Array.toList d1
 subst this
 exact r.inj r'
end
abbrev Cx.wish (X:Cx) (E:Value→Shared→Prop):Cx:={ X with xe:=E }
abbrev Cx.nox (X:Cx):Cx:=X.wish fun _ _=>False
theorem Cx.Ok.wish {X:Cx} (ok:X.Ok) (E:Value→Shared→Prop):(X.wish E).Ok :=
 ⟨ok.mod,ok.kind,ok.glob,ok.blt,ok.above,ok.inj,ok.has,ok.cab,ok.hd,ok.frames,ok.stk,ok.exf,ok.bs,ok.bsz,ok.noex,ok.exfs,ok.funs,ok.frf⟩
theorem Cx.Ok.unwish {X:Cx}{E:Value→Shared→Prop} (ok:(X.wish E).Ok):X.Ok :=
 ⟨ok.mod,ok.kind,ok.glob,ok.blt,ok.above,ok.inj,ok.has,ok.cab,ok.hd,ok.frames,ok.stk,ok.exf,ok.bs,ok.bsz,ok.noex,ok.exfs,ok.funs,ok.frf⟩
section
variable {X:Cx}{pins:List (Addr × Obj)}{σ:St}{H:Hp}{s:Shared}{E:Value→Shared→Prop}
theorem Inv.wish (I:Inv X pins σ H s) (E:Value→Shared→Prop):Inv (X.wish E) pins σ H s:=⟨I.ok.wish E,I.os,I.bare,I.base,I.loc,I.cell,I.free,I.freeC,I.pin,I.hok,I.len⟩
theorem Inv.unwish (I:Inv (X.wish E) pins σ H s):Inv X pins σ H s:=⟨I.ok.unwish,I.os,I.bare,I.base,I.loc,I.cell,I.free,I.freeC,I.pin,I.hok,I.len⟩
theorem SP.unwish {D:Ends}{f:Flow}{s':Shared} (h:SP (X.wish E) pins D f s'):SP X pins D f s':=by
 cases f with
 | next=>obtain ⟨σ',H',I,q⟩:=h; exact ⟨σ',H',I.unwish,q⟩
 | brk=>obtain ⟨σ',H',I,q⟩:=h; exact ⟨σ',H',I.unwish,q⟩
 | cont=>obtain ⟨σ',H',I,q⟩:=h; exact ⟨σ',H',I.unwish,q⟩
 | ret u=>obtain ⟨v,σ',H',I,r,q⟩:=h; exact ⟨v,σ',H',I.unwish,r,q⟩
theorem PSs.nox {st:List Stmt}{t:TS} (h:PSs X.nox st t):PSs X st t:=fun pins s σ H D I hw =>
 wpAny_mono (h pins s σ H D (I.wish _) hw) (fun _ _ q=>q.unwish) fun _ _ z=>False.elim z
end
section
variable {X:Cx}{st:Stmt}{rest:List Stmt}{t u:TS}{e:Expr}{te:TE}{pos:Pos}
def tNext:TS:=fun D σ H=>D.nx σ H
def tSeq (t u:TS):TS:=fun D σ H=>t { D with nx:=u D } σ H
theorem zars:PSs X [] tNext:=fun _ _ σ H _ I h=>wpAny_execs_nil ⟨σ,H,I,h⟩
theorem zakm (h1:PS X st t) (h2:PSs X rest u):PSs X (st :: rest) (tSeq t u):=by
 intro pins s σ H D I h
 refine wpAny_execs_cons (thn (h1 pins s σ H { D with nx:=u D } I h) fun f s1 q=>?_)
 cases f with
 | next =>
  obtain ⟨σ',H',I',q⟩:=q
  exact h2 pins s1 σ' H' D I' q
 | ret v=>exact q
 | brk=>exact q
 | cont=>exact q
theorem zart (h1:PS X st t):PSs X [st] t:=by
 intro pins s σ H D I h
 refine wpAny_execs_cons (thn (h1 pins s σ H D I h) fun f s1 q=>?_)
 cases f with
 | next=>exact wpAny_execs_nil q
 | ret v=>exact q
 | brk=>exact q
 | cont=>exact q
theorem Inv.quiet {pins:List (Addr × Obj)}{σ:St}{H:Hp}{s:Shared} (I:Inv X pins σ H s):interactive X.env=false:=by simp [interactive,I.ok.kind]
def tDrop (te:TE):TS:=fun D σ H=>te σ H fun _ H1=>D.nx σ H1
theorem zaru (he:PE X e te) (hs:swapsWith e none pos.line X.env=pure false:=by rfl):PS X (.Expr e pos) (tDrop te):=by
 intro pins s σ H D I h
 exact wpAny_Expr_any (thn (he pins s σ H _ I h) fun v s1 ⟨x,H1,I1,r1,q1⟩=>⟨σ,H1,I1,q1⟩) I.quiet hs
def tRet (te:TE):TS:=fun D σ H=>te σ H D.rt
theorem zauo (he:PE X e te):PS X (.Return (some e) pos) (tRet te):=by
 intro pins s σ H D I h
 exact wpAny_Return_some (thn (he pins s σ H _ I h) fun v s1 ⟨x,H1,I1,r1,q1⟩=>⟨x,σ,H1,I1,r1,q1⟩)
def tIfS (c:TT) (t u:TS):TS:=fun D σ H=>c σ H fun b H1=>if b=true then t D σ H1 else u D σ H1
theorem zawy {c:Expr}{a b:List Stmt}{tc:TT} (hc:PT X c tc) (ha:PSs X a t) (hb:PSs X b u):PS X (.If c a b pos) (tIfS tc t u):=by
 intro pins s σ H D I h
 refine wpAny_If (thn (hc pins s σ H _ I h) fun d s1 ⟨H1,I1,q1⟩=>?_)
 cases d with
 | true=>exact ha pins s1 σ H1 D I1 q1
 | false=>exact hb pins s1 σ H1 D I1 q1
def tNever:TS:=fun _ _ _=>False
theorem zao4:PS X st tNever:=fun _ _ _ _ _ _ h=>h.elim
end
abbrev TG:=V→St→Hp→(St→Hp→Prop)→Prop
abbrev TGs:=List V→St→Hp→(St→Hp→Prop)→Prop
def PG (X:Cx) (target:Expr) (t:TG):Prop :=
 ∀ (pins:List (Addr × Obj)) (s:Shared) (σ:St) (H:Hp) (v:V) (u:Value) (Q:St→Hp→Prop),Inv X pins σ H s→RelV v u→t v σ H Q →
  wpAny (model X.prog X.w) X.A (assign target X.env u) (fun _ s'=>∃ σ' H',Inv X pins σ' H' s'∧Q σ' H') X.xe s
def PGs (X:Cx) (ts:List Expr) (t:TGs):Prop :=
 ∀ (pins:List (Addr × Obj)) (s:Shared) (σ:St) (H:Hp) (vs:List V) (us:List Value) (Q:St→Hp→Prop),Inv X pins σ H s→Vals vs us→t vs σ H Q →
  wpAny (model X.prog X.w) X.A (assignInOrder ((assignEach ts X.env).map (·.2)) us) (fun _ s'=>∃ σ' H',Inv X pins σ' H' s'∧Q σ' H') X.xe s
abbrev TSet:=V→V→V→Hp→(Hp→Prop)→Prop
def PSet (X:Cx) (t:TSet):Prop :=
 ∀ (pins:List (Addr × Obj)) (s:Shared) (σ:St) (H:Hp) (o i v:V) (ov iv u:Value) (Q:Hp→Prop),Inv X pins σ H s→RelV o ov→RelV i iv→RelV v u→t o i v H Q →
  wpAny (model X.prog X.w) X.A (setItem ov iv u) (fun _ s'=>∃ H',Inv X pins σ H' s'∧Q H') X.xe s
abbrev TIp:=V→V→Hp→VK→Prop
def PIp (X:Cx) (op:Operator) (t:TIp):Prop :=
 ∀ (pins:List (Addr × Obj)) (s:Shared) (σ:St) (H:Hp) (x y:V) (v u:Value) (Q:VK),Inv X pins σ H s→RelV x v→RelV y u→t x y H Q →
  wpAny (model X.prog X.w) X.A (inplaceOp op v u) (EP X pins σ Q) X.xe s
section
variable {X:Cx}{pos:Pos}
def gName (i:Nat):TG:=fun v σ H Q=>Q (σ.set i (some v)) H
theorem zarv {i:Nat}{x:Str} (hN:X.N.Nodup) (hi:X.N[i]?=some x) (hx:Loc X.env.scope x) (hf:X.fn x=true∨X.env.scope.names.lookup x=some .local:=by first | exact .inl rfl | exact .inr rfl | assumption):PG X (.Name x pos) (gName i):=by
 intro pins s σ H v u Q I r h
 exact wpAny_assign_Name (zafr I hN hi hx r (fun s' I'=>⟨_,H,I',h⟩) hf)
def gNil:TGs:=fun vs σ H Q=>vs=[]∧Q σ H
def gCons (t:TG) (u:TGs):TGs:=fun vs σ H Q=>∃ v r,vs=v :: r∧t v σ H fun σ' H'=>u r σ' H' Q
theorem zarw:PGs X [] gNil:=by
 intro pins s σ H vs us Q I r h
 obtain ⟨e,h⟩:=h
 subst e
 cases r
 exact assignInOrder_nil ⟨σ,H,I,h⟩
theorem zao5 {e:Expr}{es:List Expr}{t:TG}{u:TGs} (h1:PG X e t) (h2:PGs X es u)
  (hs:(assignEach (e :: es) X.env).map (·.2)=assign e X.env :: (assignEach es X.env).map (·.2):=by rfl):PGs X (e :: es) (gCons t u):=by
 intro pins s σ H vs us Q I r h
 obtain ⟨v,vr,e1,h⟩:=h
 subst e1
 cases r with
 | cons r rr =>
  rw [hs]
  refine assignInOrder_cons (thn (h1 pins s σ H _ _ _ I r h) fun _ s1 ⟨σ1,H1,I1,q1⟩=>?_)
  exact h2 pins s1 σ1 H1 _ _ Q I1 rr q1
def gTup (K:PySem.W.Frag) (n:Nat) (t:TGs):TG:=fun v σ H Q=>∃ a xs,v=.ref a∧SqT K H a xs∧xs.length=n∧t xs σ H Q
theorem zaup {es:List Expr}{k:Nat}{t:TGs}{n:Nat} (hc:X.calm=true) (h:PGs X es t)
  (hn:(assignEach es X.env).length=n:=by rfl) (hst:(assignEach es X.env).findIdx? (·.1)=none:=by rfl):PG X (.Tuple es k pos) (gTup X.K n t):=by
 intro pins s σ H v u Q I r hw
 obtain ⟨a,xs,e1,hq,hl,hw⟩:=hw
 subst e1
 cases r
 obtain ⟨its,rv,ht,hz⟩:=I.tuple hq
 refine assign_Tuple_tuple (I.ok.hd hc) ht (by simp [hn,← hl,rv.length]) hst fun h' hx=>?_
 have I1:Inv X pins σ H { s with heap:=h' }:=I.kept (t':=s.toks) fun b o e=>hx b o (Nat.ne_of_lt (Heap.lt_size e)) e
 exact h pins _ σ H xs _ Q I1 (by simpa using rv) hw
def gSub (to ti:TE) (t:TSet):TG:=fun v σ H Q=>to σ H fun o H1=>ti σ H1 fun i H2=>t o i v H2 fun H3=>Q σ H3
theorem zauq {o i:Expr}{to ti:TE}{t:TSet} (ho:PE X o to) (hi:PE X i ti) (hs:PSet X t)
  (ha:∀ v,assign (.Subscript o i pos) X.env v=(do
   let ov ← holding [v] (eval o X.env)
   let iv ← holding [v,ov] (eval i X.env)
   standAt pos
   holding [v,ov,iv] (setItem ov iv v)
   release [v,ov,iv] []):=by intro _; rfl):PG X (.Subscript o i pos) (gSub to ti t):=by
 intro pins s σ H v u Q I r h
 rw [ha]
 refine wpAny_bind (wpAny_holding (thn (ho pins s σ H _ I h) fun ov s1 ⟨x,H1,I1,r1,q1⟩=>?_))
 refine wpAny_bind (wpAny_holding (thn (hi pins s1 σ H1 _ I1 q1) fun iv s2 ⟨y,H2,I2,r2,q2⟩=>?_))
 refine wpAny_bind (wpAny_standAt (wpAny_bind (wpAny_holding (thn (hs pins s2 σ H2 x y v ov iv u _ I2 r1 r2 r q2) fun _ s3 ⟨H3,I3,q3⟩=>?_))))
 exact wpAny_release ⟨σ,H3,I3,q3⟩
def tAsg (te:TE) (g:TG):TS:=fun D σ H=>te σ H fun x H1=>g x σ H1 D.nx
theorem zaur {tg e:Expr}{te:TE}{g:TG} (he:PE X e te) (hg:PG X tg g) (hs:swapsWithSole [tg] e pos.line X.env=pure false:=by rfl) (hw:swappedStores [tg] e X.env=pure none:=by rfl)
  (h1:(assignEach [tg] X.env).map (·.2)=[assign tg X.env]:=by rfl):PS X (.Assign [tg] e pos) (tAsg te g):=by
 intro pins s σ H D I h
 refine wpAny_Assign_stores (thn (he pins s σ H _ I h) fun v s1 ⟨x,H1,I1,r1,q1⟩=>?_) hs hw
 rw [h1]
 exact thn (hg pins s1 σ H1 x v _ I1 r1 q1) fun _ s2 q=>q
theorem zaus {i:Nat}{x:Str}{e:Expr}{te:TE}{pos':Pos} (hN:X.N.Nodup) (hi:X.N[i]?=some x) (hx:Loc X.env.scope x) (he:PE X e te) (hs:swapsWith e (some (.Name x pos')) pos.line X.env=pure false:=by rfl) (hf:X.fn x=true∨X.env.scope.names.lookup x=some .local:=by first | exact .inl rfl | exact .inr rfl | assumption) :
  PS X (.Assign [.Name x pos'] e pos) (tAsg te (gName i)):=by
 intro pins s σ H D I h
 refine wpAny_Assign_Name (thn (he pins s σ H _ I h) fun v s1 ⟨y,H1,I1,r1,q1⟩=>?_) hs
 exact zafr I1 hN hi hx r1 (fun s2 I2=>⟨_,H1,I2,q1⟩) hf
def tAug (i:Nat) (te:TE) (ti:TIp):TS:=fun D σ H=>∃ x,σ[i]?=some (some x)∧te σ H fun y H1=>ti x y H1 fun z H2=>D.nx (σ.set i (some z)) H2
theorem zaut {i:Nat}{x:Str}{e:Expr}{te:TE}{op:Operator}{ti:TIp}{pos':Pos} (hN:X.N.Nodup) (hi:X.N[i]?=some x) (hx:Loc X.env.scope x) (he:PE X e te) (ho:PIp X op ti) (hf:X.fn x=true∨X.env.scope.names.lookup x=some .local:=by first | exact .inl rfl | exact .inr rfl | assumption) :
  PS X (.AugAssign (.Name x pos') op e pos) (tAug i te ti):=by
 intro pins s σ H D I h
 obtain ⟨v,e1,h⟩:=h
 obtain ⟨m,hn,hl⟩:=I.loc
 have vis:Vis X.env.scope x:=by rcases hx with k | k; exact .inl k; exact .inr (.inl k)
 obtain ⟨u,r,l⟩:=hl i x v hi e1 vis
 refine wpAny_AugAssign_Name ?_
 have go:wpAny (model X.prog X.w) X.A (eval e X.env) (fun w s₂=>wpAny (model X.prog X.w) X.A (inplaceOp op u w) (fun r s₃=>wpAny (model X.prog X.w) X.A (storeName X.env x r) (fun _=>SP X pins D .next) X.xe s₃) X.xe s₂) X.xe s:=by
  refine thn (he pins s σ H _ I h) fun w s1 ⟨y,H1,I1,r1,q1⟩=>?_
  refine thn (ho pins s1 σ H1 v y u w _ I1 r r1 q1) fun z s2 ⟨zv,H2,I2,r2,q2⟩=>?_
  exact zafr I2 hN hi hx r2 (fun s3 I3=>⟨_,H2,I3,q2⟩) hf
 rcases l with ⟨hk,hm⟩ | ⟨hk,c,hc,hcell⟩
 ·exact wpAny_loadName_local I.ok.kind hk hn hm go
 ·rcases hk with hk | hk
  ·exact wpAny_loadName_cell I.ok.kind hk hc hcell go
  ·rcases hx with k | k
   ·have:X.env.scope.names.lookup x=some .free:=hk
    rw [k] at this; cases this
   ·have:X.env.scope.names.lookup x=some .free:=hk
    rw [k] at this; cases this
def ipI (f:Int→Int→Int):TIp:=fun x y H Q=>∃ i j,x=.int i∧y=.int j∧Q (.int (f i j)) H
theorem zaqu:PIp X .Add (ipI fun i j=>i + j):=by
 intro pins s σ H x y v u Q I r1 r2 h
 obtain ⟨i,j,e1,e2,q⟩:=h
 subst e1; subst e2
 obtain ⟨t,rfl⟩:=r1
 obtain ⟨t',rfl⟩:=r2
 exact iadd_int ⟨.int _,H,I.tok _,⟨_,rfl⟩,q⟩
def tWhile (c:TT) (tb:TS):TS:=fun D σ H=>∃ W:Nat→St→Hp→Prop,(∃ m,W m σ H)∧∀ m σ H,W m σ H →
 c σ H fun b H1=>if b=true then ∃ N:St→Hp→Prop,(∀ σ' H',N σ' H'→∃ m',m' < m∧W m' σ' H')∧tb { D with nx:=N,ct:=N,bk:=D.nx } σ H1 else D.nx σ H1
theorem zao6 {c:Expr}{body:List Stmt}{tc:TT}{tb:TS} (hp:PassesOwn (model X.prog X.w) X.A X.env X.xe) (hc:PT X c tc) (hb:PSs X body tb):PS X (.While c body [] pos) (tWhile tc tb):=by
 intro pins s σ H D I h
 obtain ⟨W,⟨m0,w0⟩,turn⟩:=h
 refine wpAny_While (codeAny_whileLoop (fun n s'=>∃ σ' H',Inv X pins σ' H' s'∧W n σ' H') ?_ m0 ⟨σ,H,I,w0⟩)
 rintro n s1 ⟨σ1,H1,I1,w1⟩
 refine wpAny_passesOwn hp (thn (hc pins s1 σ1 H1 _ I1 (turn n σ1 H1 w1)) fun b s2 ⟨H2,I2,q2⟩=>?_)
 cases b with
 | true =>
  obtain ⟨N,hN,q2⟩:=q2
  rw [if_pos rfl]
  refine wpAny_passesOwn hp (thn (hb pins s2 σ1 H2 _ I2 q2) fun f s3 q3=>?_)
  cases f with
  | next =>
   obtain ⟨σ3,H3,I3,n3⟩:=q3
   obtain ⟨m',hm,w3⟩:=hN σ3 H3 n3
   exact ⟨m',hm,σ3,H3,I3,w3⟩
  | cont =>
   obtain ⟨σ3,H3,I3,n3⟩:=q3
   obtain ⟨m',hm,w3⟩:=hN σ3 H3 n3
   exact ⟨m',hm,σ3,H3,I3,w3⟩
  | brk=>exact q3
  | ret v=>exact q3
 | false =>
  rw [if_neg Bool.false_ne_true]
  exact wpAny_execs_nil ⟨σ1,H2,I2,q2⟩
end
structure It where
 go:Nat→Hp→Prop
 yld:Nat→Hp→V→Hp→Prop
 stop:Nat→Hp→Prop
def FpOk (X:Cx) (pins:List (Addr × Obj)) (H:Hp) (b:Addr):Prop :=
 H b=none∧b≠X.env.locals∧b ∉ X.fs∧(b∈X.ex∨X.s₀.heap.objs.size≤b)∧(∀ x c,X.env.cells.lookup x=some c→c≠b)∧∀ p∈X.pn++pins,p.1≠b
theorem Inv.fpOk {X:Cx}{pins:List (Addr × Obj)}{σ:St}{H H':Hp}{s:Shared}{b:Addr} (I:Inv X pins σ H s) (hb:s.heap.objs.size≤b) (hn:H' b=none):FpOk X pins H' b:=by
 refine ⟨hn,Nat.ne_of_gt (Nat.lt_of_lt_of_le I.lt hb),I.nofs hb,.inr (Nat.le_trans I.sz hb),fun x c e z=>?_,fun p hp z=>?_⟩
 ·obtain ⟨v,q⟩:=I.cell x c e
  exact absurd (Nat.lt_of_lt_of_le q.lt (by rw [z]; exact hb)) (Nat.lt_irrefl _)
 ·exact absurd (Nat.lt_of_lt_of_le (Heap.lt_size (I.pin p hp).1) (by rw [z]; exact hb)) (Nat.lt_irrefl _)
structure Turn (P:Program) (w:World) (K:PySem.W.Frag) (tg:Expr) (J:It) (fp:List Addr) (it:Addr) (tn:Nat→Heap→Prop):Prop where
 mem:it∈fp
 obj:∀ i h,tn i h→∀ b∈fp,∃ o,h.get? b=some o∧∀ v,o.data≠.cell v
 keep:∀ i h h',tn i h→(∀ b∈fp,∀ o,h.get? b=some o→h'.get? b=some o)→tn i h'
 item:∀ (X:Cx),X.prog=P→X.w=w→X.K=K→X.calm=true→∀ (i:Nat) (pins:List (Addr × Obj)) (s:Shared) (σ:St) (H:Hp) (E:Value→Shared→Prop),Inv X pins σ H s→(∀ b∈fp,FpOk X pins H b)→tn i s.heap→J.go i H →
  wpAny (model P w) X.A (pyNext (.ref it)) (fun r s1=>∃ u,r=some u ∧
   wpAny (model P w) X.A (letOwnedTupleGo tg (.ref it) u) (fun _ s2=>∃ x H',Inv X pins σ H' s2∧RelV x u∧J.yld i H x H'∧tn (i + 1) s2.heap∧∀ b∈fp,H' b=none) E s1) E s
 done:∀ (X:Cx),X.prog=P→X.w=w→X.K=K→X.calm=true→∀ (i:Nat) (pins:List (Addr × Obj)) (s:Shared) (σ:St) (H:Hp) (E:Value→Shared→Prop),Inv X pins σ H s→(∀ b∈fp,FpOk X pins H b)→tn i s.heap→J.stop i H →
  wpAny (model P w) X.A (pyNext (.ref it)) (fun r s1=>r=none∧Inv X pins σ H s1) E s
 self:∀ (A:Around) (i:Nat) (s:Shared) (Q:Value→Shared→Prop) (E:Value→Shared→Prop),tn i s.heap→Q (.ref it) s→wpAny (model P w) A (pyIter (.ref it)) Q E s
abbrev TI:=St→Hp→(It→Hp→Prop)→Prop
def PIE (X:Cx) (pins:List (Addr × Obj)) (σ:St) (tg:Expr) (R:It→Hp→Prop) (itv:Value) (s2:Shared):Prop :=
 ∃ (it:Addr) (fp:List Addr) (tn:Nat→Heap→Prop) (J:It) (H':Hp),itv=.ref it∧Inv X pins σ H' s2∧Turn X.prog X.w X.K tg J fp it tn∧tn 0 s2.heap∧(∀ b∈fp,FpOk X pins H' b)∧R J H'
def PI (X:Cx) (tg iter:Expr) (wi:TI):Prop :=
 ∀ (pins:List (Addr × Obj)) (s:Shared) (σ:St) (H:Hp) (R:It→Hp→Prop),Inv X pins σ H s→wi σ H R →
  wpAny (model X.prog X.w) X.A (eval iter X.env) (fun v s1=>wpAny (model X.prog X.w) X.A (pyIter v) (PIE X pins σ tg R) X.xe s1) X.xe s
theorem zarx {M:Model}{A:Around}{E:Value→Shared→Prop}{s:Shared}{tg:Expr}{it:Addr}{u:Value}{o:Obj}{n:String}{vs:Array Value}{Q:Unit→Shared→Prop} (ho:s.heap.get? it=some o) (hc:o.cls=.type n) (hd:o.data=.fields vs)
  (hn:["enumerate", "zip", "dict_itemiterator", "dict_reverseitemiterator", "odict_iterator", "itertools.zip_longest", "itertools.pairwise"].contains n=false) (hQ:Q () s):wpAny M A (letOwnedTupleGo tg (.ref it) u) Q E s:=by
 unfold letOwnedTupleGo
 cases tg <;> first
  | exact wpAny_pure hQ
  | (cases u <;> first
    | exact wpAny_pure hQ
    | (refine wpAny_bind (wpAny_load ho ?_)
       rw [hc,hd]
       show wpAny M A (if (["enumerate", "zip", "dict_itemiterator", "dict_reverseitemiterator", "odict_iterator", "itertools.zip_longest", "itertools.pairwise"].contains n && vs[0]? == some (rawInt _))=true then _ else _) Q E s
       rw [if_neg (by intro h; rw [hn,Bool.false_and] at h; cases h)]
       exact wpAny_pure hQ))
def Itl (K:PySem.W.Frag) (a:Addr):It :=
 ⟨fun i H=>∃ xs x,SqL K H a xs∧xs[i]?=some x,fun i H x H'=>H'=H∧∀ xs,SqL K H a xs→xs[i]?=some x,fun i H=>∃ xs,SqL K H a xs∧xs.length≤i⟩
def Itt (K:PySem.W.Frag) (a:Addr):It :=
 ⟨fun i H=>∃ xs x,SqT K H a xs∧xs[i]?=some x,fun i H x H'=>H'=H∧∀ xs,SqT K H a xs→xs[i]?=some x,fun i H=>∃ xs,SqT K H a xs∧xs.length≤i⟩
def Itr (lo:Int) (n:Nat):It:=⟨fun i _=>i < n,fun i H x H'=>H'=H∧x=.int (lo + i),fun i _=>n≤i⟩
theorem zal8 {P:Program}{w:World}{K:PySem.W.Frag}{tg:Expr} (a it:Addr):Turn P w K tg (Itl K a) [it] it (fun i h=>h.IsListIter it a i) where
 mem:=by simp
 obj:=fun i h st b hb=>by
  have e:b=it:=by simpa using hb
  subst e
  obtain ⟨o,e,c,d⟩:=st
  exact ⟨o,e,fun v z=>by rw [d] at z; cases z⟩
 keep:=fun i h h' st k=>st.at fun o e=>k it (by simp) o e
 item:=by
  intro X hP hw hK hc i pins s σ H E I hf st hg
  subst hP hw hK
  obtain ⟨xs,x,hq,hx⟩:=hg
  obtain ⟨its,rv,p,hz⟩:=I.list hq
  obtain ⟨u,hu,ru⟩:=rv.get hx
  obtain ⟨f0,f1,f2,f3,f4,f5⟩:=hf it (by simp)
  refine wpAny_pyNext_list_item st p.isList (x:=u) (by simpa using hu) fun h' st' sb=>?_
  have I1:Inv X pins σ H { s with heap:=h' }:=I.turned (t':=s.toks) (fun b o hb e=>(sb.2 b hb).trans e) f0 f1 f3 f4 f5
  obtain ⟨o,e,c,d⟩:=id st'
  exact ⟨u,rfl,zarx (s:={ s with heap:=h' }) e c d (by decide) ⟨x,H,I1,ru,⟨rfl,fun ys hy=>by rw [I.list_inj hy hq]; exact hx⟩,st',fun b hb=>(hf b hb).1⟩⟩
 done:=by
  intro X hP hw hK hc i pins s σ H E I hf st hg
  subst hP hw hK
  obtain ⟨xs,hq,hx⟩:=hg
  obtain ⟨its,rv,p,hz⟩:=I.list hq
  obtain ⟨f0,f1,f2,f3,f4,f5⟩:=hf it (by simp)
  have hl:=rv.length
  exact wpAny_pyNext_list_end (I.ok.hd hc) st p.isList (by simp; omega) fun h' eb=>⟨rfl,I.turned (t':=s.toks) (fun b o hb e=>eb b o hb e) f0 f1 f3 f4 f5⟩
 self:=fun _ _ _ _ _ st h=>wpAny_pyIter_listiter st h
theorem zall {P:Program}{w:World}{K:PySem.W.Frag}{tg:Expr} (a it:Addr):Turn P w K tg (Itt K a) [it] it (fun i h=>h.IsTupleIter it a i) where
 mem:=by simp
 obj:=fun i h st b hb=>by
  have e:b=it:=by simpa using hb
  subst e
  obtain ⟨o,e,c,d⟩:=st
  exact ⟨o,e,fun v z=>by rw [d] at z; cases z⟩
 keep:=fun i h h' st k=>st.at fun o e=>k it (by simp) o e
 item:=by
  intro X hP hw hK hc i pins s σ H E I hf st hg
  subst hP hw hK
  obtain ⟨xs,x,hq,hx⟩:=hg
  obtain ⟨its,rv,p,hz⟩:=I.tuple hq
  obtain ⟨u,hu,ru⟩:=rv.get hx
  obtain ⟨f0,f1,f2,f3,f4,f5⟩:=hf it (by simp)
  refine wpAny_pyNext_tuple_item st (show s.heap.IsTuple a its.toArray from p) (x:=u) (by simpa using hu) fun h' st' sb=>?_
  have I1:Inv X pins σ H { s with heap:=h' }:=I.turned (t':=s.toks) (fun b o hb e=>(sb.2 b hb).trans e) f0 f1 f3 f4 f5
  obtain ⟨o,e,c,d⟩:=id st'
  exact ⟨u,rfl,zarx (s:={ s with heap:=h' }) e c d (by decide) ⟨x,H,I1,ru,⟨rfl,fun ys hy=>by rw [I.tuple_inj hy hq]; exact hx⟩,st',fun b hb=>(hf b hb).1⟩⟩
 done:=by
  intro X hP hw hK hc i pins s σ H E I hf st hg
  subst hP hw hK
  obtain ⟨xs,hq,hx⟩:=hg
  obtain ⟨its,rv,p,hz⟩:=I.tuple hq
  obtain ⟨f0,f1,f2,f3,f4,f5⟩:=hf it (by simp)
  have hl:=rv.length
  exact wpAny_pyNext_tuple_end (I.ok.hd hc) st (show s.heap.IsTuple a its.toArray from p) (by simp; omega) fun h' eb=>⟨rfl,I.turned (t':=s.toks) (fun b o hb e=>eb b o hb e) f0 f1 f3 f4 f5⟩
 self:=fun _ _ _ _ _ st h=>wpAny_pyIter_tupleiter st h
theorem zalm {P:Program}{w:World}{K:PySem.W.Frag}{tg:Expr} (it:Addr) (lo:Int) (n:Nat):Turn P w K tg (Itr lo n) [it] it (fun i h=>IsRangeIter h it (lo + (i:Nat) * 1) ((n:Int) - (i:Nat)) 1) where
 mem:=by simp
 obj:=fun i h st b hb=>by
  have e:b=it:=by simpa using hb
  subst e
  exact ⟨_,st,fun v z=>by
   have z':Data.fields _=Data.cell v:=z
   cases z'⟩
 keep:=fun i h h' st k=>k it (by simp) _ st
 item:=by
  intro X hP hw hK hc i pins s σ H E I hf st hg
  subst hP hw hK
  obtain ⟨f0,f1,f2,f3,f4,f5⟩:=hf it (by simp)
  have W:=Walks.range (prog:=X.prog) (w:=X.w) (I.ok.hd hc) it lo 1 n
  refine W.item i s _ _ hg st fun v h' tk hv st' kk=>?_
  obtain ⟨t,rfl⟩:=hv
  have I1:Inv X pins σ H { s with heap:=h',toks:=tk }:=I.turned (fun b o hb e=>kk b o (by simpa using hb) e) f0 f1 f3 f4 f5
  refine ⟨_,rfl,zarx (s:={ s with heap:=h',toks:=tk }) (n := "range_iterator") st' rfl rfl (by decide) ⟨.int (lo + i),H,I1,⟨t,?_⟩,⟨rfl,rfl⟩,st',fun b hb=>(hf b hb).1⟩⟩
  rw [Int.mul_one]
 done:=by
  intro X hP hw hK hc i pins s σ H E I hf st hg
  subst hP hw hK
  obtain ⟨f0,f1,f2,f3,f4,f5⟩:=hf it (by simp)
  exact wpAny_pyNext_range_end (I.ok.hd hc) st (by have:n≤i:=hg; omega) fun h' eb=>⟨rfl,I.turned (t':=s.toks) (fun b o hb e=>eb b o hb e) f0 f1 f3 f4 f5⟩
 self:=fun _ _ _ _ _ st h=>wpAny_pyIter_rangeiter st h
section
variable {X:Cx}{tg:Expr}
def iList (K:PySem.W.Frag) (tl:TE):TI:=fun σ H R=>tl σ H fun x H1=>∃ a,x=.ref a∧(∃ xs,SqL K H1 a xs)∧R (Itl K a) H1
def iTup (K:PySem.W.Frag) (tl:TE):TI:=fun σ H R=>tl σ H fun x H1=>∃ a,x=.ref a∧(∃ xs,SqT K H1 a xs)∧R (Itt K a) H1
theorem zal9 {l:Expr}{tl:TE} (hl:PE X l tl):PI X tg l (iList X.K tl):=by
 intro pins s σ H R I h
 refine thn (hl pins s σ H _ I h) fun v s1 ⟨x,H1,I1,r1,q1⟩=>?_
 obtain ⟨a,e,⟨xs,hq⟩,q⟩:=q1
 subst e
 cases r1
 obtain ⟨its,rv,p,hz⟩:=I1.list hq
 refine wpAny_pyIter_list p.isList ?_
 refine ⟨s1.heap.objs.size,[s1.heap.objs.size],_,_,H1,rfl,I1.kept (t':=s1.toks) fun b o e=>Heap.get?_push_of_some _ e,zal8 a _,⟨_,Heap.get?_push_size _ rfl,rfl,rfl⟩,fun b hb=>?_,q⟩
 have e:b=s1.heap.objs.size:=by simpa using hb
 subst e
 exact I1.fpOk (Nat.le_refl _) (I1.hok.fresh (Nat.le_refl _))
theorem zaqv {l:Expr}{tl:TE} (hl:PE X l tl):PI X tg l (iTup X.K tl):=by
 intro pins s σ H R I h
 refine thn (hl pins s σ H _ I h) fun v s1 ⟨x,H1,I1,r1,q1⟩=>?_
 obtain ⟨a,e,⟨xs,hq⟩,q⟩:=q1
 subst e
 cases r1
 obtain ⟨its,rv,p,hz⟩:=I1.tuple hq
 refine wpAny_pyIter_tuple (show s1.heap.IsTuple a its.toArray from p) ?_
 refine ⟨s1.heap.objs.size,[s1.heap.objs.size],_,_,H1,rfl,I1.kept (t':=s1.toks) fun b o e=>Heap.get?_push_of_some _ e,zall a _,⟨_,Heap.get?_push_size _ rfl,rfl,rfl⟩,fun b hb=>?_,q⟩
 have e:b=s1.heap.objs.size:=by simpa using hb
 subst e
 exact I1.fpOk (Nat.le_refl _) (I1.hok.fresh (Nat.le_refl _))
theorem zao7 {pins:List (Addr × Obj)}{σ:St}{H:Hp}{s:Shared}{R:It→Hp→Prop}{E:Value→Shared→Prop}{lo hi:Int}{t u v:Tok}{tk:Nat} (I:Inv X pins σ H s) (h1:-(2 ^ 62)≤lo) (h2:lo < 2 ^ 62) (h3:-(2 ^ 62)≤hi) (h4:hi < 2 ^ 62)
  (q:R (Itr lo (hi - lo).toNat) H):wpAny (model X.prog X.w) X.A (pyIter (.ref s.heap.objs.size)) (PIE X pins σ tg R) E { s with heap:=s.heap.push { cls:=.type "range",data:=.fields #[.int lo t,.int hi u,.int 1 v] },toks:=tk }:=by
 refine wpAny_pyIter_range (IsRange.new ..) (small_one h1 h2 h3 h4) ?_
 have I1:Inv X pins σ H { s with heap:=s.heap.push { cls:=.type "range",data:=.fields #[.int lo t,.int hi u,.int 1 v] },toks:=tk }:=I.kept fun b o e=>Heap.get?_push_of_some _ e
 refine ⟨(s.heap.push { cls:=.type "range",data:=.fields #[.int lo t,.int hi u,.int 1 v] }).objs.size,[(s.heap.push { cls:=.type "range",data:=.fields #[.int lo t,.int hi u,.int 1 v] }).objs.size],_,_,H,rfl,
  I1.kept (t':=tk) fun b o e=>Heap.get?_push_of_some _ e,zalm _ lo (hi - lo).toNat,?_,fun b hb=>?_,q⟩
 ·have e1:lo + ((0:Nat):Int) * 1=lo:=by simp
  have e2:(((hi - lo).toNat:Nat):Int) - ((0:Nat):Int)=Builtin.Range.rangeSize lo hi 1:=by rw [rangeSize_one]; split <;> omega
  show IsRangeIter _ _ (lo + ((0:Nat):Int) * 1) ((((hi - lo).toNat:Nat):Int) - ((0:Nat):Int)) 1
  rw [e1,e2]
  exact Heap.get?_push_size _ rfl
 ·have e:b=(s.heap.push { cls:=.type "range",data:=.fields #[.int lo t,.int hi u,.int 1 v] }).objs.size:=by simpa using hb
  subst e
  exact I1.fpOk (Nat.le_refl _) (I1.hok.fresh (Nat.le_refl _))
def iRng1 (ta:TA):TI:=fun σ H R=>ta σ H fun vs H1=>∃ j:Int,vs=[.int j]∧-(2 ^ 62)≤j∧j < 2 ^ 62∧R (Itr 0 j.toNat) H1
theorem zama {a:Expr}{ta:TA}{p pos:Pos} (hg:Gl X "range") (hm:X.mg "range" = none) (ha:PA X [a] ta) (hs:starEach [a] X.env=[(false,eval a X.env)]:=by rfl):PI X tg (.Call (.Name "range" p) [a] [] pos) (iRng1 ta):=by
 intro pins s σ H R I h
 refine Call_ (zag3 I hg hm boot_range (PyProof.Rows.callWith_type1 (thn (ha pos pins s σ H _ I h) fun us s1 ⟨vs,H1,I1,r1,q1⟩=>?_) hs rfl))
 obtain ⟨j,e,q1,q2,q⟩:=q1
 subst e
 cases r1 with
 | cons r rr =>
  cases rr
  obtain ⟨t,rfl⟩:=r
  exact call_range_1 (zao7 I1 (by omega) (by omega) q1 q2 (by simpa using q))
def tFor (wi:TI) (g:TG) (tb:TS):TS:=fun D σ H=>wi σ H fun J H1=>∃ W:Nat→Nat→St→Hp→Prop,(∃ m,W 0 m σ H1)∧∀ i m σ H,W i m σ H →
 (J.stop i H∧D.nx σ H)∨(J.go i H∧∃ N:St→Hp→Prop,(∀ σ' H',N σ' H'→∃ m',m' < m∧W (i + 1) m' σ' H')∧∀ x H',J.yld i H x H'→g x σ H' fun σ2 H2=>tb { D with nx:=N,ct:=N,bk:=D.nx } σ2 H2)
def pinsAt (fp:List Addr) (h:Heap):List (Addr × Obj):=fp.filterMap fun b=>(h.get? b).map fun o=>(b,o)
theorem zad0 {fp:List Addr}{h:Heap}{b:Addr}{o:Obj} (hb:b∈fp) (e:h.get? b=some o):(b,o)∈pinsAt fp h:=List.mem_filterMap.mpr ⟨b,hb,by rw [e]; rfl⟩
theorem zaim {fp:List Addr}{h:Heap}{p:Addr × Obj} (hp:p∈pinsAt fp h):p.1∈fp∧h.get? p.1=some p.2:=by
 obtain ⟨b,hb,e⟩:=List.mem_filterMap.mp hp
 cases q:h.get? b with
 | none=>rw [q] at e; cases e
 | some o =>
  rw [q] at e
  have e':(b,o)=p:=Option.some.inj e
  subst e'
  exact ⟨hb,q⟩
theorem Inv.pinned {pins:List (Addr × Obj)}{σ:St}{H:Hp}{s:Shared}{fp:List Addr} (I:Inv X pins σ H s) (hf:∀ b∈fp,FpOk X pins H b) (ho:∀ b∈fp,∃ o,s.heap.get? b=some o∧∀ v,o.data≠.cell v):Inv X (pins++pinsAt fp s.heap) σ H s :=
 I.pins_of fun p hp=>(List.mem_append.mp hp).elim (fun z=>I.pin p (List.mem_append_right _ z)) fun z=>by
  obtain ⟨hb,e⟩:=zaim z
  obtain ⟨f0,f1,f2,_⟩:=hf p.1 hb
  obtain ⟨o,e',d⟩:=ho p.1 hb
  rw [e] at e'; cases e'
  exact ⟨e,f0,f1,f2,d⟩
theorem Inv.unpinned {pins pl:List (Addr × Obj)}{σ:St}{H:Hp}{s:Shared} (I:Inv X (pins++pl) σ H s):Inv X pins σ H s:=I.pins_of fun p hp=>I.pin p (List.mem_append_right _ (List.mem_append_left _ hp))
theorem zauu {iter:Expr}{body:List Stmt}{wi:TI}{g:TG}{tb:TS}{pos:Pos} (hp:PassesOwn (model X.prog X.w) X.A X.env X.xe) (hc:X.calm=true) (hi:PI X tg iter wi) (hg:PG X tg g) (hb:PSs X body tb)
  (hs:∀ x,foldedSetIterable iter X.env x=pure x:=by intro _; rfl):PS X (.For tg iter body [] pos) (tFor wi g tb):=by
 intro pins s σ H D I h
 refine wpAny_For (thn (hi pins s σ H _ I h) fun v s1 h1=>thn h1 fun itv s2 h2=>?_) hs
 obtain ⟨it,fp,tn,J,H2,e,I2,T,st2,f2,W,⟨m0,w0⟩,turn⟩:=h2
 subst e
 have stat:∀ {H':Hp},(∀ b∈fp,H' b=none)→∀ b∈fp,FpOk X pins H' b:=fun hn b hb=>⟨hn b hb,(f2 b hb).2⟩
 refine codeAny_forLoop_any (fun n s'=>∃ i σ' H',Inv X pins σ' H' s'∧tn i s'.heap∧(∀ b∈fp,H' b=none)∧W i n σ' H') ?_ m0 ⟨0,σ,H2,I2,st2,fun b hb=>(f2 b hb).1,w0⟩
 rintro n s3 ⟨i,σ3,H3,I3,st3,fr3,w3⟩
 rcases turn i n σ3 H3 w3 with ⟨stop,qn⟩ | ⟨go,N,hN,step⟩
 ·refine wpAny_passesOwn hp (thn (T.done X rfl rfl rfl hc i pins s3 σ3 H3 X.xe I3 (stat fr3) st3 stop) fun r s4 ⟨hr,I4⟩=>?_)
  subst hr
  exact wpAny_execs_nil ⟨σ3,H3,I4,qn⟩
 ·refine wpAny_passesOwn hp (thn (T.item X rfl rfl rfl hc i pins s3 σ3 H3 X.xe I3 (stat fr3) st3 go) fun r s4 ⟨u,hr,h4⟩=>?_)
  subst hr
  refine wpAny_passesOwn hp (thn h4 fun _ s5 ⟨x,H5,I5,r5,y5,st5,fr5⟩=>?_)
  have I5':=I5.pinned (stat fr5) (T.obj _ _ st5)
  refine wpAny_passesOwn hp (thn (hg _ s5 σ3 H5 x u _ I5' r5 (step x H5 y5)) fun _ s6 ⟨σ6,H6,I6,q6⟩=>?_)
  refine wpAny_passesOwn hp (thn (hb _ s6 σ6 H6 _ I6 q6) fun f s7 q7=>?_)
  have again:∀ {σ7:St}{H7:Hp},Inv X (pins++pinsAt fp s5.heap) σ7 H7 s7→N σ7 H7→∃ m,m < n∧∃ i σ' H',Inv X pins σ' H' s7∧tn i s7.heap∧(∀ b∈fp,H' b=none)∧W i m σ' H':=fun {σ7 H7} I7 n7=>by
   obtain ⟨m',hm,w7⟩:=hN σ7 H7 n7
   refine ⟨m',hm,i + 1,σ7,H7,I7.unpinned,T.keep _ _ _ st5 fun b hb o e=>(I7.pin (b,o) (List.mem_append_right _ (List.mem_append_right _ (zad0 hb e)))).1,fun b hb=>?_,w7⟩
   obtain ⟨o,e,d⟩:=T.obj _ _ st5 b hb
   exact (I7.pin (b,o) (List.mem_append_right _ (List.mem_append_right _ (zad0 hb e)))).2.1
  cases f with
  | next=>obtain ⟨σ7,H7,I7,n7⟩:=q7; exact again I7 n7
  | cont=>obtain ⟨σ7,H7,I7,n7⟩:=q7; exact again I7 n7
  | brk=>obtain ⟨σ7,H7,I7,q7⟩:=q7; exact ⟨σ7,H7,I7.unpinned,q7⟩
  | ret v=>obtain ⟨x7,σ7,H7,I7,r7,q7⟩:=q7; exact ⟨x7,σ7,H7,I7.unpinned,r7,q7⟩
end
theorem zao8 {K:PySem.W.Frag}{a:Addr}{xs:List V}{g:TG}{tb:TS}{D:Ends}{σ:St}{H:Hp} (Pv:Nat→St→Hp→Prop) (h0:Pv 0 σ H) (hl:∀ i σ H,i≤xs.length→Pv i σ H→SqL K H a xs)
  (hs:∀ i x σ H,xs[i]?=some x→Pv i σ H→g x σ H fun σ2 H2=>tb { D with nx:=Pv (i + 1),ct:=Pv (i + 1),bk:=D.nx } σ2 H2) (hd:∀ σ H,Pv xs.length σ H→D.nx σ H) :
  ∃ W:Nat→Nat→St→Hp→Prop,(∃ m,W 0 m σ H)∧∀ i m σ H,W i m σ H →
   ((Itl K a).stop i H∧D.nx σ H)∨((Itl K a).go i H∧∃ N:St→Hp→Prop,(∀ σ' H',N σ' H'→∃ m',m' < m∧W (i + 1) m' σ' H')∧∀ x H',(Itl K a).yld i H x H'→g x σ H' fun σ2 H2=>tb { D with nx:=N,ct:=N,bk:=D.nx } σ2 H2):=by
 refine ⟨fun i m σ H=>m=xs.length - i∧i≤xs.length∧Pv i σ H,⟨xs.length,by simp,Nat.zero_le _,h0⟩,?_⟩
 rintro i m σ H ⟨rfl,hi,p⟩
 have q:=hl i σ H hi p
 by_cases hlt:i < xs.length
 ·refine .inr ⟨⟨xs,xs[i],q,by simp [hlt]⟩,Pv (i + 1),fun σ' H' p'=>⟨xs.length - (i + 1),by omega,rfl,hlt,p'⟩,fun x H' y=>?_⟩
  obtain ⟨e,y⟩:=y
  subst e
  exact hs i x σ _ (y xs q) p
 ·have e:i=xs.length:=by omega
  subst e
  exact .inl ⟨⟨xs,q,Nat.le_refl _⟩,hd σ H p⟩
theorem zary {K:PySem.W.Frag}{a:Addr}{xs:List V}{g:TG}{tb:TS}{D:Ends}{σ:St}{H:Hp} (Pv:Nat→St→Hp→Prop) (h0:Pv 0 σ H) (hl:∀ i σ H,i≤xs.length→Pv i σ H→SqT K H a xs)
  (hs:∀ i x σ H,xs[i]?=some x→Pv i σ H→g x σ H fun σ2 H2=>tb { D with nx:=Pv (i + 1),ct:=Pv (i + 1),bk:=D.nx } σ2 H2) (hd:∀ σ H,Pv xs.length σ H→D.nx σ H) :
  ∃ W:Nat→Nat→St→Hp→Prop,(∃ m,W 0 m σ H)∧∀ i m σ H,W i m σ H →
   ((Itt K a).stop i H∧D.nx σ H)∨((Itt K a).go i H∧∃ N:St→Hp→Prop,(∀ σ' H',N σ' H'→∃ m',m' < m∧W (i + 1) m' σ' H')∧∀ x H',(Itt K a).yld i H x H'→g x σ H' fun σ2 H2=>tb { D with nx:=N,ct:=N,bk:=D.nx } σ2 H2):=by
 refine ⟨fun i m σ H=>m=xs.length - i∧i≤xs.length∧Pv i σ H,⟨xs.length,by simp,Nat.zero_le _,h0⟩,?_⟩
 rintro i m σ H ⟨rfl,hi,p⟩
 have q:=hl i σ H hi p
 by_cases hlt:i < xs.length
 ·refine .inr ⟨⟨xs,xs[i],q,by simp [hlt]⟩,Pv (i + 1),fun σ' H' p'=>⟨xs.length - (i + 1),by omega,rfl,hlt,p'⟩,fun x H' y=>?_⟩
  obtain ⟨e,y⟩:=y
  subst e
  exact hs i x σ _ (y xs q) p
 ·have e:i=xs.length:=by omega
  subst e
  exact .inl ⟨⟨xs,q,Nat.le_refl _⟩,hd σ H p⟩
theorem zamb {lo:Int}{n:Nat}{g:TG}{tb:TS}{D:Ends}{σ:St}{H:Hp} (Pv:Nat→St→Hp→Prop) (h0:Pv 0 σ H)
  (hs:∀ i σ H,i < n→Pv i σ H→g (.int (lo + i)) σ H fun σ2 H2=>tb { D with nx:=Pv (i + 1),ct:=Pv (i + 1),bk:=D.nx } σ2 H2) (hd:∀ σ H,Pv n σ H→D.nx σ H) :
  ∃ W:Nat→Nat→St→Hp→Prop,(∃ m,W 0 m σ H)∧∀ i m σ H,W i m σ H →
   ((Itr lo n).stop i H∧D.nx σ H)∨((Itr lo n).go i H∧∃ N:St→Hp→Prop,(∀ σ' H',N σ' H'→∃ m',m' < m∧W (i + 1) m' σ' H')∧∀ x H',(Itr lo n).yld i H x H'→g x σ H' fun σ2 H2=>tb { D with nx:=N,ct:=N,bk:=D.nx } σ2 H2):=by
 refine ⟨fun i m σ H=>m=n - i∧i≤n∧Pv i σ H,⟨n,by simp,Nat.zero_le _,h0⟩,?_⟩
 rintro i m σ H ⟨rfl,hi,p⟩
 by_cases hlt:i < n
 ·refine .inr ⟨hlt,Pv (i + 1),fun σ' H' p'=>⟨n - (i + 1),by omega,rfl,hlt,p'⟩,fun x H' y=>?_⟩
  obtain ⟨e,y⟩:=y
  subst e y
  exact hs i σ _ hlt p
 ·have e:i=n:=by omega
  subst e
  exact .inl ⟨Nat.le_refl _,hd σ H p⟩
abbrev R2:=V→V→Hp→VK→Prop
def OpR (X:Cx) (f:Value→Value→Sem Value) (r:R2):Prop :=
 ∀ (pins:List (Addr × Obj)) (s:Shared) (σ:St) (H:Hp) (x y:V) (v u:Value) (Q:VK),Inv X pins σ H s→RelV x v→RelV y u→r x y H Q →
  wpAny (model X.prog X.w) X.A (f v u) (EP X pins σ Q) X.xe s
def UnR (X:Cx) (f:Value→Sem Value) (r:V→Hp→VK→Prop):Prop :=
 ∀ (pins:List (Addr × Obj)) (s:Shared) (σ:St) (H:Hp) (x:V) (v:Value) (Q:VK),Inv X pins σ H s→RelV x v→r x H Q →
  wpAny (model X.prog X.w) X.A (f v) (EP X pins σ Q) X.xe s
def CallR (X:Cx) (f:Value) (r:List V→Hp→VK→Prop):Prop :=
 ∀ (pins:List (Addr × Obj)) (s:Shared) (σ:St) (H:Hp) (xs:List V) (us:List Value) (Q:VK),Inv X pins σ H s→Vals xs us→r xs H Q →
  wpAny (model X.prog X.w) X.A (call f us) (EP X pins σ Q) X.xe s
def tOp (r:R2) (ta tb:TE):TE:=fun σ H Q=>ta σ H fun x H1=>tb σ H1 fun y H2=>r x y H2 Q
def tUn (r:V→Hp→VK→Prop) (ta:TE):TE:=fun σ H Q=>ta σ H fun x H1=>r x H1 Q
def rI (C:Int→Int→Prop) (g:Int→Int→V):R2:=fun x y H Q=>∃ i j,x=.int i∧y=.int j∧C i j∧Q (g i j) H
def rI0 (g:Int→Int→V):R2:=fun x y H Q=>∃ i j,x=.int i∧y=.int j∧Q (g i j) H
def rU (g:Int→V):V→Hp→VK→Prop:=fun x H Q=>∃ i,x=.int i∧Q (g i) H
section
variable {X:Cx}{a b c:Expr}{ta tb tc:TE}{pos:Pos}
theorem binT (ha:PE X a ta) (hb:PE X b tb) {pins:List (Addr × Obj)}{s:Shared}{σ:St}{H:Hp}{R:V→V→Hp→Prop} (I:Inv X pins σ H s)
  (h:ta σ H fun x H1=>tb σ H1 fun y H2=>R x y H2) {Q:Value→Shared→Prop}{f:Value→Value→Sem Value}
  (hf:∀ v u s2 x y H2,Inv X pins σ H2 s2→RelV x v→RelV y u→R x y H2→wpAny (model X.prog X.w) X.A (f v u) Q X.xe s2) :
  wpAny (model X.prog X.w) X.A (eval a X.env) (fun v s₁=>wpAny (model X.prog X.w) X.A (eval b X.env) (fun u s₂=>wpAny (model X.prog X.w) X.A (f v u) Q X.xe s₂) X.xe s₁) X.xe s:=by
 refine thn (ha pins s σ H _ I h) fun v s1 ⟨x,H1,I1,r1,q1⟩=>?_
 refine thn (hb pins s1 σ H1 _ I1 q1) fun u s2 ⟨y,H2,I2,r2,q2⟩=>?_
 exact hf v u s2 x y H2 I2 r1 r2 q2
theorem zawz {op:Operator}{r:R2} (ho:OpR X (binaryOp op) r) (ha:PE X a ta) (hb:PE X b tb):PE X (.BinOp a op b pos) (tOp r ta tb):=by
 intro pins s σ H Q I h
 exact wpAny_BinOp (binT ha hb I h fun v u s2 x y H2 I2 rx ry q=>ho pins s2 σ H2 x y v u Q I2 rx ry q)
theorem zaw0 {op:UnaryOp}{r:V→Hp→VK→Prop} (ho:UnR X (unaryOp op) r) (ha:PE X a ta):PE X (.UnaryOp op a pos) (tUn r ta):=by
 intro pins s σ H Q I h
 exact UnaryOp_ (thn (ha pins s σ H _ I h) fun v s1 ⟨x,H1,I1,r1,q1⟩=>ho pins s1 σ H1 x v Q I1 r1 q1)
theorem opI {f:Value→Value→Sem Value}{C:Int→Int→Prop}{g:Int→Int→Int}
  (rule:∀ (i j:Int) (t u:Tok) (s:Shared) (Q:Value→Shared→Prop) (E:Value→Shared→Prop),C i j→Q (.int (g i j) s.toks) { s with toks:=s.toks + 1 }→wpAny (model X.prog X.w) X.A (f (.int i t) (.int j u)) Q E s) :
  OpR X f (rI C fun i j=>.int (g i j)):=by
 intro pins s σ H x y v u Q I rx ry h
 obtain ⟨i,j,rfl,rfl,hc,q⟩:=h
 obtain ⟨t,rfl⟩:=rx
 obtain ⟨t',rfl⟩:=ry
 exact rule i j t t' s _ _ hc ⟨.int (g i j),H,I.tok _,⟨_,rfl⟩,q⟩
theorem opI0 {f:Value→Value→Sem Value}{g:Int→Int→Int}
  (rule:∀ (i j:Int) (t u:Tok) (s:Shared) (Q:Value→Shared→Prop) (E:Value→Shared→Prop),Q (.int (g i j) s.toks) { s with toks:=s.toks + 1 }→wpAny (model X.prog X.w) X.A (f (.int i t) (.int j u)) Q E s) :
  OpR X f (rI0 fun i j=>.int (g i j)):=by
 intro pins s σ H x y v u Q I rx ry h
 obtain ⟨i,j,rfl,rfl,q⟩:=h
 obtain ⟨t,rfl⟩:=rx
 obtain ⟨t',rfl⟩:=ry
 exact rule i j t t' s _ _ ⟨.int (g i j),H,I.tok _,⟨_,rfl⟩,q⟩
theorem opB0 {f:Value→Value→Sem Value}{g:Int→Int→Bool}
  (rule:∀ (i j:Int) (t u:Tok) (s:Shared) (Q:Value→Shared→Prop) (E:Value→Shared→Prop),Q (.bool (g i j)) s→wpAny (model X.prog X.w) X.A (f (.int i t) (.int j u)) Q E s) :
  OpR X f (rI0 fun i j=>.bl (g i j)):=by
 intro pins s σ H x y v u Q I rx ry h
 obtain ⟨i,j,rfl,rfl,q⟩:=h
 obtain ⟨t,rfl⟩:=rx
 obtain ⟨t',rfl⟩:=ry
 exact rule i j t t' s _ _ ⟨.bl (g i j),H,I,rfl,q⟩
def CPow (i j:Int):Prop:=0≤j∧j≤1000000∧i.natAbs < 2 ^ 64
def CMul (i j:Int):Prop:=(-(2 ^ 64) < i∧i < 2 ^ 64)∨(-(2 ^ 64) < j∧j < 2 ^ 64)
theorem CMul.ok {i j:Int} (h:CMul i j):IntMulOk i j:=by
 rcases h with ⟨h1,h2⟩ | ⟨h1,h2⟩
 ·exact .of_left (intBits_le_64 h1 h2)
 ·exact .of_right (intBits_le_64 h1 h2)
theorem zacc:OpR X (binaryOp .Add) (rI0 fun i j=>.int (i + j)):=opI0 fun _ _ _ _ _ _ _ q=>add_int q
theorem zael:OpR X (binaryOp .Sub) (rI0 fun i j=>.int (i - j)):=opI0 fun _ _ _ _ _ _ _ q=>sub_int q
theorem zaf0:OpR X (binaryOp .Mult) (rI CMul fun i j=>.int (i * j)):=opI fun _ _ _ _ _ _ _ hc q=>mul_int q hc.ok
theorem zaa0:OpR X (binaryOp .Mod) (rI (fun _ j=>0 < j) fun i j=>.int (i % j)):=opI fun i j _ _ _ _ _ hc q=>by
 have h1:(0:Int) < j:=hc
 exact mod_int' (by omega) (by rw [Int.fmod_eq_emod_of_nonneg i (by omega)]; exact q)
theorem zauv:OpR X (binaryOp .Pow) (rI CPow fun i j=>.int (i ^ j.toNat)):=opI fun _ _ _ _ _ _ _ hc q=>pow_int_small hc.1 hc.2.1 hc.2.2 q
theorem unI {f:Value→Sem Value}{g:Int→Int}
  (rule:∀ (i:Int) (t:Tok) (s:Shared) (Q:Value→Shared→Prop) (E:Value→Shared→Prop),Q (.int (g i) s.toks) { s with toks:=s.toks + 1 }→wpAny (model X.prog X.w) X.A (f (.int i t)) Q E s) :
  UnR X f (rU fun i=>.int (g i)):=by
 intro pins s σ H x v Q I rx h
 obtain ⟨i,rfl,q⟩:=h
 obtain ⟨t,rfl⟩:=rx
 exact rule i t s _ _ ⟨.int (g i),H,I.tok _,⟨_,rfl⟩,q⟩
theorem zakn:UnR X (unaryOp .USub) (rU fun i=>.int (-i)):=unI fun _ _ _ _ _ q=>neg_int q
end
def scal:V→V→Bool
 | .non,.non=>true | .non,.int _=>true | .int _,.non=>true | .non,.bl _=>true | .bl _,.non=>true | .non,.str _=>true | .str _,.non=>true
 | .int _,.int _=>true | .bl _,.bl _=>true | .str _,.str _=>true | .byt _,.byt _=>true
 | .int _,.str _=>true | .str _,.int _=>true | .bl _,.str _=>true | .str _,.bl _=>true
 | _,_=>false
def rEq:R2:=fun x y H Q=>scal x y=true∧Q (.bl (decide (x=y))) H
def rNe:R2:=fun x y H Q=>scal x y=true∧Q (.bl (!decide (x=y))) H
theorem zamc {i j:Int}:decide (V.int i=V.int j)=(i == j):=by
 rw [Bool.eq_iff_iff]
 simp
theorem zaqw {i j:Bool}:decide (V.bl i=V.bl j)=(i == j):=by
 rw [Bool.eq_iff_iff]
 simp
theorem zamd {i j:Str}:decide (V.str i=V.str j)=(i == j):=by
 rw [Bool.eq_iff_iff]
 simp
theorem zame {i j:Array UInt8}:decide (V.byt i=V.byt j)=(i.toList == j.toList):=by
 rw [Bool.eq_iff_iff]
 cases i
 cases j
 simp
section
variable {X:Cx}{a b c:Expr}{ta tb tc:TE}{pos:Pos}
theorem zabg {pins:List (Addr × Obj)}{σ:St}{H:Hp}{s:Shared}{Q:VK}{k k':Bool} (I:Inv X pins σ H s) (q:Q (.bl k) H) (e:k=k'):EP X pins σ Q (.bool k') s:=by
 subst e
 exact ⟨.bl k,H,I,rfl,q⟩
theorem zabp:OpR X (compareOp .Eq) rEq:=by
 intro pins s σ H x y v u Q I rx ry h
 obtain ⟨hs,q⟩:=h
 cases x with
 | non =>
  cases rx
  cases y with
  | non=>cases ry; exact PySem.EqNone.eq_none_none (zabg I q (by simp))
  | bl j=>cases ry; exact PySem.EqNone.eq_none_bool (zabg I q (by simp))
  | int j=>obtain ⟨t',rfl⟩:=ry; exact PySem.EqNone.eq_none_int (zabg I q (by simp))
  | str j=>obtain ⟨t',rfl⟩:=ry; exact PySem.EqNone.eq_none_str (zabg I q (by simp))
  | _=>exact absurd (show false=true from hs) Bool.false_ne_true
 | bl i =>
  cases rx
  cases y with
  | non=>cases ry; exact PySem.EqNone.eq_bool_none (zabg I q (by simp))
  | bl j=>cases ry; exact eq_bool (zabg I q zaqw)
  | str j=>obtain ⟨t',rfl⟩:=ry; exact PySem.EqMixed.eq_bool_str (zabg I q (by simp))
  | _=>exact absurd (show false=true from hs) Bool.false_ne_true
 | int i =>
  obtain ⟨t,rfl⟩:=rx
  cases y with
  | non=>cases ry; exact PySem.EqNone.eq_int_none (zabg I q (by simp))
  | int j=>obtain ⟨t',rfl⟩:=ry; exact eq_int (zabg I q zamc)
  | str j=>obtain ⟨t',rfl⟩:=ry; exact PySem.EqMixed.eq_int_str (zabg I q (by simp))
  | _=>exact absurd (show false=true from hs) Bool.false_ne_true
 | str i =>
  obtain ⟨t,rfl⟩:=rx
  cases y with
  | non=>cases ry; exact PySem.EqNone.eq_str_none (zabg I q (by simp))
  | bl j=>cases ry; exact PySem.EqMixed.eq_str_bool (zabg I q (by simp))
  | int j=>obtain ⟨t',rfl⟩:=ry; exact PySem.EqMixed.eq_str_int (zabg I q (by simp))
  | str j=>obtain ⟨t',rfl⟩:=ry; exact eq_str (zabg I q zamd)
  | _=>exact absurd (show false=true from hs) Bool.false_ne_true
 | byt i =>
  obtain ⟨t,rfl⟩:=rx
  cases y with
  | byt j=>obtain ⟨t',rfl⟩:=ry; exact PySem.W.eq_bytes (zabg I q zame)
  | _=>exact absurd (show false=true from hs) Bool.false_ne_true
 | _=>cases y <;> exact absurd (show false=true from hs) Bool.false_ne_true
theorem zahk:OpR X (compareOp .NotEq) rNe:=by
 intro pins s σ H x y v u Q I rx ry h
 obtain ⟨hs,q⟩:=h
 cases x with
 | non =>
  cases rx
  cases y with
  | non=>cases ry; exact PySem.EqNone.ne_none_none (zabg I q (by simp))
  | bl j=>cases ry; exact PySem.EqNone.ne_none_bool (zabg I q (by simp))
  | int j=>obtain ⟨t',rfl⟩:=ry; exact PySem.EqNone.ne_none_int (zabg I q (by simp))
  | str j=>obtain ⟨t',rfl⟩:=ry; exact PySem.EqNone.ne_none_str (zabg I q (by simp))
  | _=>exact absurd (show false=true from hs) Bool.false_ne_true
 | bl i =>
  cases rx
  cases y with
  | non=>cases ry; exact PySem.EqNone.ne_bool_none (zabg I q (by simp))
  | bl j=>cases ry; exact ne_bool (zabg I q (congrArg not zaqw))
  | str j=>obtain ⟨t',rfl⟩:=ry; exact PySem.EqMixed.ne_bool_str (zabg I q (by simp))
  | _=>exact absurd (show false=true from hs) Bool.false_ne_true
 | int i =>
  obtain ⟨t,rfl⟩:=rx
  cases y with
  | non=>cases ry; exact PySem.EqNone.ne_int_none (zabg I q (by simp))
  | int j=>obtain ⟨t',rfl⟩:=ry; exact ne_int (zabg I q (congrArg not zamc))
  | str j=>obtain ⟨t',rfl⟩:=ry; exact PySem.EqMixed.ne_int_str (zabg I q (by simp))
  | _=>exact absurd (show false=true from hs) Bool.false_ne_true
 | str i =>
  obtain ⟨t,rfl⟩:=rx
  cases y with
  | non=>cases ry; exact PySem.EqNone.ne_str_none (zabg I q (by simp))
  | bl j=>cases ry; exact PySem.EqMixed.ne_str_bool (zabg I q (by simp))
  | int j=>obtain ⟨t',rfl⟩:=ry; exact PySem.EqMixed.ne_str_int (zabg I q (by simp))
  | str j=>obtain ⟨t',rfl⟩:=ry; exact ne_str (zabg I q (congrArg not zamd))
  | _=>exact absurd (show false=true from hs) Bool.false_ne_true
 | byt i =>
  obtain ⟨t,rfl⟩:=rx
  cases y with
  | byt j=>obtain ⟨t',rfl⟩:=ry; exact PySem.W.ne_bytes (zabg I q (congrArg not zame))
  | _=>exact absurd (show false=true from hs) Bool.false_ne_true
 | _=>cases y <;> exact absurd (show false=true from hs) Bool.false_ne_true
theorem zao9:OpR X (compareOp .Lt) (rI0 fun i j=>.bl (decide (i < j))):=opB0 fun _ _ _ _ _ _ _ q=>lt_int q
theorem zauw:OpR X (compareOp .LtE) (rI0 fun i j=>.bl (decide (i≤j))):=opB0 fun _ _ _ _ _ _ _ q=>le_int q
theorem zapa:OpR X (compareOp .Gt) (rI0 fun i j=>.bl (decide (j < i))):=opB0 fun _ _ _ _ _ _ _ q=>gt_int q
theorem zain:OpR X (compareOp .In) (fun x y H Q=>∃ i j,x=.str i∧y=.str j∧Q (.bl (!(Builtin.Str.occurrences j i 0 j.length 1).isEmpty)) H):=by
 intro pins s σ H x y v u Q I rx ry h
 obtain ⟨i,j,rfl,rfl,q⟩:=h
 obtain ⟨t,rfl⟩:=rx
 obtain ⟨t',rfl⟩:=ry
 exact in_str (zabg I q rfl)
theorem zamf:OpR X (compareOp .Is) (fun x y H Q=>y=.non∧Q (.bl (decide (x=.non))) H):=by
 intro pins s σ H x y v u Q I rx ry h
 obtain ⟨rfl,q⟩:=h
 cases ry
 refine is_none_gen (zabg I q ?_)
 cases x <;> first
  | (cases rx; rfl)
  | (obtain ⟨t,rfl⟩:=rx; rfl)
theorem zarz:OpR X (compareOp .IsNot) (fun x y H Q=>y=.non∧Q (.bl (!decide (x=.non))) H):=by
 intro pins s σ H x y v u Q I rx ry h
 obtain ⟨rfl,q⟩:=h
 cases ry
 refine isnot_none_gen (zabg I q ?_)
 cases x <;> first
  | (cases rx; rfl)
  | (obtain ⟨t,rfl⟩:=rx; rfl)
theorem nomark (b:Expr) {op:CmpOp} (h:op≠.In:=by decide) (h2:op≠.NotIn:=by decide):behindInMarks op b=false:=by
 have e1:(op == CmpOp.In)=false:=by cases op <;> first | rfl | exact absurd rfl h
 have e2:(op == CmpOp.NotIn)=false:=by cases op <;> first | rfl | exact absurd rfl h2
 cases b <;> simp [behindInMarks,e1,e2]
theorem zar0 {op:CmpOp}{r:R2} (ho:OpR X (compareOp op) r) (ha:PE X a ta) (hb:PE X b tb) (hm:behindInMarks op b=false):PE X (.Compare a [op] [b] pos) (tOp r ta tb):=by
 intro pins s σ H Q I h
 exact wpAny_Compare1 (binT ha hb I h fun v u s2 x y H2 I2 rx ry q=>ho pins s2 σ H2 x y v u Q I2 rx ry q) hm
def tTest (t:TE):TT:=fun σ H Q=>t σ H fun x H'=>∃ k,x=.bl k∧Q k H'
theorem zar1 {op:CmpOp}{r:R2} (ho:OpR X (compareOp op) r) (ha:PE X a ta) (hb:PE X b tb) (hm:behindInMarks op b=false):PT X (.Compare a [op] [b] pos) (tTest (tOp r ta tb)):=by
 intro pins s σ H Q I h
 refine wpAny_isTrue_Compare1 (thn (ha pins s σ H _ I h) fun v s1 ⟨x,H1,I1,r1,q1⟩=>thn (hb pins s1 σ H1 _ I1 q1) fun u s2 ⟨y,H2,I2,r2,q2⟩ =>
  thn (ho pins s2 σ H2 x y v u _ I2 r1 r2 q2) fun c s3 ⟨z,H3,I3,r3,k,e,q3⟩=>?_) hm
 subst e
 cases r3
 exact wpAny_truthy_bool ⟨H3,I3,q3⟩
def tChain (r r':R2) (ta tb tc:TE):TE:=fun σ H Q=>ta σ H fun x H1=>tb σ H1 fun y H2=>r x y H2 fun z H3=>∃ k,z=.bl k ∧
 (if k=true then tc σ H3 fun w' H4=>r' y w' H4 Q else Q (.bl false) H3)
theorem zapb {op op':CmpOp}{r r':R2} (ho:OpR X (compareOp op) r) (ho':OpR X (compareOp op') r') (ha:PE X a ta) (hb:PE X b tb) (hc:PE X c tc)
  (hm:lastMarks [op,op'] [b,c]=false:=by with_unfolding_all rfl):PE X (.Compare a [op,op'] [b,c] pos) (tChain r r' ta tb tc):=by
 intro pins s σ H Q I h
 refine Compare_chain (thn (ha pins s σ H _ I h) fun v s1 ⟨x,H1,I1,r1,q1⟩=>chain_link (thn (hb pins s1 σ H1 _ I1 q1) fun u s2 ⟨y,H2,I2,r2,q2⟩ =>
  thn (ho pins s2 σ H2 x y v u _ I2 r1 r2 q2) fun d s3 ⟨z,H3,I3,r3,k,e,q3⟩=>?_)) hm
 subst e
 cases r3
 refine wpAny_truthy_bool ?_
 cases k with
 | false=>exact ite_ff ⟨.bl false,H3,I3,rfl,q3⟩
 | true=>exact ite_tt (chain_last (thn (hc pins s3 σ H3 _ I3 q3) fun w' s4 ⟨z',H4,I4,r4,q4⟩=>ho' pins s4 σ H4 y z' u w' Q I4 r2 r4 q4))
theorem line63:(sizeLine:Nat) < 2 ^ 63:=by rw [sizeLine_eq]; decide
theorem zaa9:OpR X (binaryOp .Add) (fun x y H Q=>∃ i j,x=.str i∧y=.str j∧i.length + j.length≤sizeLine∧Q (.str (i++j)) H):=by
 intro pins s σ H x y v u Q I rx ry h
 obtain ⟨i,j,rfl,rfl,hz,q⟩:=h
 obtain ⟨t,rfl⟩:=rx
 obtain ⟨t',rfl⟩:=ry
 exact add_str (fun t' tk=>⟨.str (i++j),H,I.tok _,⟨_,rfl⟩,q⟩) hz
theorem vals1 {x:V}{us:List Value} (r:Vals [x] us):∃ u,us=[u]∧RelV x u:=by
 cases r with
 | cons r1 r2=>cases r2; exact ⟨_,rfl,r1⟩
theorem vals2 {x y:V}{us:List Value} (r:Vals [x,y] us):∃ u w',us=[u,w']∧RelV x u∧RelV y w':=by
 cases r with
 | cons r1 r2 =>
  cases r2 with
  | cons r3 r4=>cases r4; exact ⟨_,_,rfl,r1,r3⟩
theorem zaf1:CallR X (.type "int") (fun xs H Q=>(∃ i,xs=[.int i]∧Q (.int i) H)∨∃ k,xs=[.bl k]∧Q (.int (if k then 1 else 0)) H):=by
 intro pins s σ H xs us Q I r h
 rcases h with ⟨i,rfl,q⟩ | ⟨k,rfl,q⟩
 ·obtain ⟨u,rfl,t,rfl⟩:=vals1 r
  exact call_int_int ⟨.int i,H,I,⟨_,rfl⟩,q⟩
 ·obtain ⟨u,rfl,r1⟩:=vals1 r
  cases r1
  exact call_int_bool ⟨.int (if k then 1 else 0),H,I.tok _,⟨_,rfl⟩,q⟩
theorem zacv:CallR X (.type "str") (fun xs H Q=>∃ i,xs=[.int i]∧i.natAbs.log2 < 1920∧Q (.str (toString i)) H):=by
 intro pins s σ H xs us Q I r h
 obtain ⟨i,rfl,hz,q⟩:=h
 obtain ⟨u,rfl,t,rfl⟩:=vals1 r
 exact PySem.P.str_of_int hz ⟨.str _,H,I.tok _,⟨_,rfl⟩,q⟩
end
structure ObjM (h:Heap) (x dx C:Addr) (mA:Str→Option Value):Prop where
 obj:h.get? x=some (PySem.W.instObj C dx)
 ns:h.Ns1 dx mA
 ne:dx≠x
theorem zaio {h:Heap}{dx:Addr}{mA:Str→Option Value} (n:h.Ns1 dx mA):∃ od,h.get? dx=some od∧∀ name,PySem.W.lookIn name od=some (mA name):=by
 obtain ⟨o,es,ep,ho,hd,hk,_,hm⟩:=n
 refine ⟨o,ho,fun name=>?_⟩
 have e:=hm name
 unfold nsFind findBy at e
 rw [← Array.find?_toList] at e
 unfold PySem.W.lookIn
 rw [hd]
 dsimp only
 split
 ·rename_i y q
  rw [q] at e
  exact congrArg some e
 ·rename_i q
  rw [q] at e
  have a:es.toList.any (·.refKey)=false:=by
   rw [List.any_eq_false]
   intro y hy
   obtain ⟨z,t,hkey⟩:=hk y (Array.mem_toList_iff.mp hy)
   simp [DictEntry.refKey,hkey]
  have a':¬ es.toList.any (·.refKey)=true:=by rw [a]; exact Bool.false_ne_true
  rw [if_neg a']
  exact congrArg some e
theorem ObjM.look {h:Heap}{x dx C:Addr}{mA:Str→Option Value} (I:ObjM h x dx C mA):∃ od,PySem.W.InstAt h x (PySem.W.instObj C dx) C (some od)∧∀ name,PySem.W.lookIn name od=some (mA name) :=
 let ⟨od,ho,hl⟩:=zaio I.ns
 ⟨od,⟨I.obj,rfl,rfl,ho⟩,hl⟩
section
variable {prog:Program}{w:World}{A:Around}{E:Value→Shared→Prop}{s:Shared}{K:PySem.W.Frag}{x dx C f:Addr}{mA:Str→Option Value}{name:Str}{v:Value}
theorem zar2 {expr:Bool}{Q:Value→Shared→Prop} (X:K.In s.heap) (I:ObjM s.heap x dx C mA) (hg:PySem.W.plainGet K C name=true) (hh:PySem.W.hasDictIn K C=true)
  (ha:PySem.W.findIn K (.ref C) name=some none) (hv:mA name=some v) (hv':PySem.W.handedIn v=true) (h:Q v { s with toks:=s.toks + 1 }) :
  wpAny (model prog w) A (getAttr (.ref x) name expr) Q E s:=by
 obtain ⟨od,J,hl⟩:=I.look
 exact PySem.W.get_value X J (PySem.W.plainGet_of hg).1 (PySem.W.findObj_own hh ha rfl (by rw [hl,hv])) hv' h
theorem zapc {pl:Sem Bool}{Q:Value × List Value→Shared→Prop} (X:K.In s.heap) (I:ObjM s.heap x dx C mA) (hg:PySem.W.plainGet K C name=true)
  (hf:PySem.W.findIn K (.ref C) name=some (some (.ref f))) (ht:PySem.W.isFn K (.ref f)=true) (hv:mA name=none) (h:Q (.ref f,[.ref x]) s) :
  wpAny (model prog w) A (getMethod (.ref x) name pl) Q E s:=by
 obtain ⟨od,J,hl⟩:=I.look
 exact PySem.W.method_fn X J (PySem.W.plainGet_of hg).1 (PySem.W.plainGet_of hg).2 hf (beq_iff_eq.mp ht) (by show (PySem.W.lookIn name od).map (·.isSome)=some false; rw [hl,hv]; rfl) h
theorem zar3 {ns:List Str}{Q:Unit→Shared→Prop} (X:K.In s.heap) (I:ObjM s.heap x dx C mA)
  (hs:PySem.W.findIn K (.ref C) "__setattr__" = some (some (.builtin "object.__setattr__"))) (hp:PySem.W.plainOver K C=true) (ht:PySem.W.takerIn K C name=some none) (hh:PySem.W.hasDictIn K C=true)
  (hw:PySem.Within mA ns) (hsz:ns.length≤sizeLine)
  (h:∀ h',ObjM h' x dx C (fun y=>if y=name then some v else mA y)→Heap.SameBut dx s.heap h'→Q () { s with heap:=h',toks:=s.toks + 2 }) :
  wpAny (model prog w) A (setAttr (.ref x) name v) Q E s:=by
 obtain ⟨od,J,hl⟩:=I.look
 refine PySem.W.set_plain X J hs (PySem.W.osa_open (s:={ s with toks:=s.toks + 1 }) (r:=none) X J hp ht fun b=>?_)
 obtain ⟨cd,hc,hd'⟩:=PySem.W.any_some hh
 have hx:s.heap.get? x=some ⟨.ref C,some dx,.plain,#[]⟩:=I.obj
 refine wpAny_bind (wpAny_pure (wpAny_bind (wpAny_bind (wpAny_loadPart hx (wpAny_bind (PySem.W.Looks.here (s:={ s with toks:=s.toks + 1 }) (PySem.W.looks_clsIn X hc) ?_))))))
 rw [hd']
 refine wpAny_pure (a:=some dx) (wpAny_bind (wpAny_pure (wpAny_bind ?_)))
 refine wpAny_nsSet1 (s:={ s with toks:=s.toks + 1 }) I.ns fun h' hn2 hs2=>?_
 obtain ⟨oD,esD,epD,hoD,hdD,hcD⟩:=hn2.count (PySem.Within.cons name v hw)
 refine wpAny_bind (wpAny_lookBehind hoD (by rw [hdD]; exact pastItsLine_dict (Nat.le_trans hcD (by rw [List.length_cons]; omega))) ?_)
 exact wpAny_pure (h _ ⟨(hs2.2 _ (Ne.symm I.ne)).trans I.obj,hn2,I.ne⟩ hs2)
theorem zapd {R:Result→Shared→Prop}{vs:List Value}{kw:List (Str × Value)} (X:K.In s.heap) (hm:PySem.W.makesIn K C=true)
  (hi:PySem.W.findIn K (.ref C) "__init__" = some (some (.ref f))) (hf:PySem.W.typeIn K (.ref f)=some (.type "function"))
  (h:codeAny (model prog w) (A.under (.builtin "type.__call__" ⟨.ref C :: vs,kw⟩)) (.call (.ref f) ⟨.ref (s.heap.objs.size + 1) :: vs,kw⟩) (PySem.W.InitBack (s.heap.objs.size + 1) R)
   { s with heap:=(s.heap.push PySem.W.emptyDict).push (PySem.W.instObj C s.heap.objs.size) }) :
  codeAny (model prog w) A (.call (.ref C) ⟨vs,kw⟩) R s:=by
 obtain ⟨hh,g,d,t,os⟩:=s
 exact PySem.W.make_core (PySem.W.makes_of X hm) (PySem.W.looks_findIn X hi) (fun self=>PySem.W.bind_fn X self hf) (.inl rfl) h
end
def putF (f:Str) (v:V):List (Str × V)→List (Str × V)
 | []=>[(f,v)]
 | (g,x) :: r=>if g=f then (g,v) :: r else (g,x) :: putF f v r
theorem zaf2 (f g:Str) (v:V):∀ fs:List (Str × V),(putF f v fs).lookup g=if g=f then some v else fs.lookup g
 | []=>by
  show List.lookup g [(f,v)]=_
  by_cases h:g=f
  ·have hb:(g == f)=true:=beq_iff_eq.mpr h
   simp only [List.lookup,hb,if_pos h]
  ·have hb:(g == f)=false:=beq_eq_false_iff_ne.mpr h
   simp only [List.lookup,hb,if_neg h]
 | (k,x) :: r=>by
  have ih:=zaf2 f g v r
  rw [show putF f v ((k,x) :: r)=(if k=f then (k,v) :: r else (k,x) :: putF f v r) from rfl]
  by_cases hk:k=f
  ·rw [if_pos hk]
   by_cases h:g=k
   ·have hb:(g == k)=true:=beq_iff_eq.mpr h
    simp only [List.lookup,hb,if_pos (h.trans hk)]
   ·have hb:(g == k)=false:=beq_eq_false_iff_ne.mpr h
    simp only [List.lookup,hb,if_neg (fun e:g=f=>h (e.trans hk.symm))]
  ·rw [if_neg hk]
   by_cases h:g=k
   ·have hb:(g == k)=true:=beq_iff_eq.mpr h
    simp only [List.lookup,hb,if_neg (fun e:g=f=>hk (h.symm.trans e))]
   ·have hb:(g == k)=false:=beq_eq_false_iff_ne.mpr h
    simp only [List.lookup,hb]
    exact ih
theorem zaf3 (f:Str) (v:V):∀ fs:List (Str × V),f∈(putF f v fs).map (·.1)∧∀ g,g∈fs.map (·.1)→g∈(putF f v fs).map (·.1)
 | []=>⟨by simp [putF],fun g h=>by simp at h⟩
 | (k,x) :: r=>by
  obtain ⟨i1,i2⟩:=zaf3 f v r
  rw [show putF f v ((k,x) :: r)=(if k=f then (k,v) :: r else (k,x) :: putF f v r) from rfl]
  by_cases hk:k=f
  ·rw [if_pos hk]
   subst hk
   exact ⟨by simp,fun g h=>by simpa using h⟩
  ·rw [if_neg hk]
   refine ⟨?_,fun g h=>?_⟩
   ·rw [List.map_cons]
    exact List.mem_cons_of_mem _ i1
   ·rw [List.map_cons] at h ⊢
    rcases List.mem_cons.mp h with e | e
    ·exact List.mem_cons.mpr (.inl e)
    ·exact List.mem_cons_of_mem _ (i2 g e)
theorem zaf4 (f:Str) (v:V):∀ fs:List (Str × V),(putF f v fs).length≤fs.length + 1
 | []=>by simp [putF]
 | (k,x) :: r=>by
  have ih:=zaf4 f v r
  rw [show putF f v ((k,x) :: r)=(if k=f then (k,v) :: r else (k,x) :: putF f v r) from rfl]
  by_cases hk:k=f
  ·rw [if_pos hk,List.length_cons,List.length_cons]; omega
  ·rw [if_neg hk,List.length_cons,List.length_cons]; omega
theorem RelO.some_of {v:V}{o:Option Value} (r:RelO (some v) o):∃ u,o=some u∧RelV v u:=by
 cases o with
 | none=>exact (show False from r).elim
 | some u=>exact ⟨u,rfl,r⟩
theorem RelO.none_of {o:Option Value} (r:RelO none o):o=none:=by
 cases o with
 | none=>rfl
 | some u=>exact (show False from r).elim
theorem zaip {v:V}{u:Value} (r:RelV v u):PySem.W.handedIn u=true:=by
 cases v with
 | non=>cases (show u=Value.none from r); rfl
 | bl b=>cases (show u=Value.bool b from r); rfl
 | int i=>obtain ⟨t,e⟩:=(show ∃ t,u=Value.int i t from r); cases e; rfl
 | str x=>obtain ⟨t,e⟩:=(show ∃ t,u=Value.str x t from r); cases e; rfl
 | byt b=>obtain ⟨t,e⟩:=(show ∃ t,u=Value.bytes b t from r); cases e; rfl
 | flt b=>obtain ⟨t,e⟩:=(show ∃ t,u=Value.float b t from r); cases e; rfl
 | ref a=>cases (show u=Value.ref a from r); rfl
 | ty n=>cases (show u=Value.type n from r); rfl
section
variable {P:Program}{w:World}{H H':Hp}{h h':Heap}{a C dx:Addr}{fs fs':List (Str × V)}
theorem zaf5 (hok:HOk P w H h) (e:H a=some (.ins C dx fs)):∃ mA,ObjM h a dx C mA∧(∀ f,RelO (fs.lookup f) (mA f))∧PySem.Within mA (fs.map (·.1))∧fs.length≤1000∧H dx=some (.own a):=by
 obtain ⟨d,z,ne,ob,mA,n,r,q⟩:=(show ObjOk P w H h a (.ins C dx fs) from hok a _ e)
 exact ⟨mA,⟨ob,n,ne⟩,r,q,z,d⟩
end
structure Cls (K:PySem.W.Frag) (C:Addr):Prop where
 pg:PySem.W.plainGet K C Str.empty=true
 hd:PySem.W.hasDictIn K C=true
 po:PySem.W.plainOver K C=true
 sa:PySem.W.findIn K (.ref C) "__setattr__" = some (some (.builtin "object.__setattr__"))
theorem Cls.get {K:PySem.W.Frag}{C:Addr} (c:Cls K C) (f:Str):PySem.W.plainGet K C f=true:=c.pg
def NoAttr (K:PySem.W.Frag) (C:Addr) (f:Str):Prop:=PySem.W.findIn K (.ref C) f=some none
theorem NoAttr.taker {K:PySem.W.Frag}{C:Addr}{f:Str} (n:NoAttr K C f):PySem.W.takerIn K C f=some none:=by
 unfold PySem.W.takerIn
 rw [show PySem.W.findIn K (.ref C) f=some none from n]
 rfl
structure Meth (K:PySem.W.Frag) (C:Addr) (m:Str) (f:Addr):Prop where
 at_:PySem.W.findIn K (.ref C) m=some (some (.ref f))
 fn:PySem.W.isFn K (.ref f)=true
 kp:PySem.W.keepIn K (.ref f)=true
section
variable {X:Cx}{pins:List (Addr × Obj)}{σ:St}{H:Hp}{s:Shared}{a C dx:Addr}{fs:List (Str × V)}{f:Str}{v:V}{A:Around}{E:Value→Shared→Prop}
theorem zag4 {b:Bool}{Q:Value→Shared→Prop} (I:Inv X pins σ H s) (e:H a=some (.ins C dx fs)) (c:Cls X.K C) (n:NoAttr X.K C f) (l:fs.lookup f=some v)
  (h:∀ u s',Inv X pins σ H s'→RelV v u→Q u s'):wpAny (model X.prog X.w) A (getAttr (.ref a) f b) Q E s:=by
 obtain ⟨mA,O,r,_,_,_⟩:=zaf5 I.hok e
 obtain ⟨u,hu,ru⟩:=RelO.some_of (v:=v) (o:=mA f) (by rw [← l]; exact r f)
 exact zar2 I.kIn O (c.get f) c.hd n hu (zaip ru) (h u _ (I.tok _) ru)
theorem zag5 {m:Str}{g:Addr}{pl:Sem Bool}{Q:Value × List Value→Shared→Prop} (I:Inv X pins σ H s) (e:H a=some (.ins C dx fs)) (c:Cls X.K C) (k:Meth X.K C m g) (l:fs.lookup m=none)
  (h:Q (.ref g,[.ref a]) s):wpAny (model X.prog X.w) A (getMethod (.ref a) m pl) Q E s:=by
 obtain ⟨mA,O,r,_,_,_⟩:=zaf5 I.hok e
 have hn:mA m=none:=RelO.none_of (by rw [← l]; exact r m)
 exact zapc I.kIn O (c.get m) k.at_ k.fn hn h
theorem zag6 {y:V}{u:Value}{Q:Unit→Shared→Prop} (I:Inv X pins σ H s) (e:H a=some (.ins C dx fs)) (c:Cls X.K C) (n:NoAttr X.K C f) (hl:fs.length < 1000) (ry:RelV y u)
  (h:∀ s',Inv X pins σ (upd H a (.ins C dx (putF f y fs))) s'→Q () s'):wpAny (model X.prog X.w) A (setAttr (.ref a) f u) Q E s:=by
 obtain ⟨mA,O,r,wi,_,ho⟩:=zaf5 I.hok e
 have hz:(fs.map (·.1)).length≤sizeLine:=by rw [List.length_map,sizeLine_eq]; omega
 refine zar3 I.kIn O c.sa c.po n.taker c.hd wi hz fun h' O' sb=>h _ ?_
 have hd:∃ o,h'.get? dx=some o:=let ⟨o,_,_,e',_⟩:=O'.ns; ⟨o,e'⟩
 refine I.write (x:=a) (e:=dx) (by rw [e]; exact True.intro) (.inr ho) (fun b q hb z=>(sb.2 b hb).trans z) hd ?_
 refine ⟨by rw [zaax O.ne]; exact ho,?_,O.ne,O'.obj,_,O'.ns,fun g=>?_,fun g hg=>?_⟩
 ·have:=zaf4 f y fs; omega
 ·show RelO ((putF f y fs).lookup g) (if g=f then some u else mA g)
  rw [zaf2]
  by_cases q:g=f
  ·rw [if_pos q,if_pos q]; exact ry
  ·rw [if_neg q,if_neg q]; exact r g
 ·by_cases q:g=f
  ·rw [q]; exact (zaf3 f y fs).1
  ·refine (zaf3 f y fs).2 g (wi g fun z=>hg ?_)
   show (if g=f then some u else mA g)=none
   rw [if_neg q]; exact z
theorem Inv.made (I:Inv X pins σ H s):Inv X pins σ (upd (upd H s.heap.objs.size (.own (s.heap.objs.size + 1))) (s.heap.objs.size + 1) (.ins C s.heap.objs.size []))
  { s with heap:=(s.heap.push PySem.W.emptyDict).push (PySem.W.instObj C s.heap.objs.size) }:=by
 have e1:(s.heap.push PySem.W.emptyDict).get? s.heap.objs.size=some PySem.W.emptyDict:=Heap.get?_push_size s.heap rfl
 have e2:((s.heap.push PySem.W.emptyDict).push (PySem.W.instObj C s.heap.objs.size)).get? (s.heap.objs.size + 1)=some (PySem.W.instObj C s.heap.objs.size):=by
  have:=Heap.get?_push_size (s.heap.push PySem.W.emptyDict) (o:=PySem.W.instObj C s.heap.objs.size) rfl
  rwa [Heap.size_push] at this
 have e3:(s.heap.push PySem.W.emptyDict).Ns s.heap.objs.size (fun _=>none):=⟨PySem.W.emptyDict,#[],_,e1,rfl,(fun e he=>absurd he (by simp)),fun _=>rfl⟩
 have I1:=I.laid (a:=s.heap.objs.size) (o:=.own (s.heap.objs.size + 1)) (h':=s.heap.push PySem.W.emptyDict) (t':=s.toks) (fun b u q=>Heap.get?_push_of_some _ q) (Nat.le_refl _) ⟨_,e1⟩
 refine I1.laid (a:=s.heap.objs.size + 1) (o:=.ins C s.heap.objs.size []) (t':=s.toks) (fun b u q=>Heap.get?_push_of_some _ q) (Nat.le_of_eq (Heap.size_push _ _)) ?_
 have ne:s.heap.objs.size≠s.heap.objs.size + 1:=Nat.ne_of_lt (Nat.lt_succ_self _)
 refine ⟨by rw [zaax ne,zaai],Nat.zero_le _,ne,e2,fun _=>none,(Heap.Ns1.of_empty e3).at fun o q=>Heap.get?_push_of_some _ q,fun _=>True.intro,fun y hy=>absurd rfl hy⟩
theorem zamg {prog:Program}{w:World}{env:Env}{e:Expr}{f:Str}{pos:Pos}{s:Shared}{Q:Value→Shared→Prop} (hb:attributeBase e f env (eval e env)=eval e env)
  (h:wpAny (model prog w) A (eval e env) (fun o s₁=>wpAny (model prog w) A (getAttr o f true) Q E s₁) E s):wpAny (model prog w) A (eval (.Attribute e f pos) env) Q E s :=
 Attribute_any_ h (by rw [arm_eval_Attribute,hb])
end
def tFld (K:PySem.W.Frag) (ta:TE) (f:Str):TE:=fun σ H Q=>ta σ H fun x H1=>∃ a C dx fs v,x=.ref a∧H1 a=some (.ins C dx fs)∧Cls K C∧NoAttr K C f∧fs.lookup f=some v∧Q v H1
def sFld (K:PySem.W.Frag) (ta tv:TE) (f:Str):TS:=fun D σ H=>tv σ H fun y H1=>ta σ H1 fun x H2=>∃ a C dx fs,x=.ref a∧H2 a=some (.ins C dx fs)∧Cls K C∧NoAttr K C f∧fs.length < 1000 ∧
 D.nx σ (upd H2 a (.ins C dx (putF f y fs)))
def InOp (X:Cx) (op:Operator) (rd:V→V→Hp→VK→Prop):Prop :=
 ∀ (pins:List (Addr × Obj)) (s:Shared) (σ:St) (H:Hp) (x y:V) (u v:Value) (Q:VK),Inv X pins σ H s→RelV x u→RelV y v→rd x y H Q→wpAny (model X.prog X.w) X.A (inplaceOp op u v) (EP X pins σ Q) X.xe s
def sFldAug (K:PySem.W.Frag) (ta tv:TE) (rd:V→V→Hp→VK→Prop) (f:Str):TS:=fun D σ H=>ta σ H fun x H1=>∃ a C dx fs v,x=.ref a∧H1 a=some (.ins C dx fs)∧Cls K C∧NoAttr K C f∧fs.lookup f=some v ∧
 tv σ H1 fun y H2=>rd v y H2 fun z H3=>∃ dx' fs',H3 a=some (.ins C dx' fs')∧fs'.length < 1000∧D.nx σ (upd H3 a (.ins C dx' (putF f z fs')))
section
variable {X:Cx}{o e value:Expr}{f:Str}{pos pos' tpos:Pos}{ta tv:TE}
theorem zaux (he:PE X e ta) (hb:attributeBase e f X.env (eval e X.env)=eval e X.env):PE X (.Attribute e f pos) (tFld X.K ta f):=by
 intro pins s σ H Q I h
 refine zamg hb (thn (he pins s σ H _ I h) fun u s1 ⟨x,H1,I1,rx,a,C,dx,fs,v,ex,ea,c,n,l,q⟩=>?_)
 subst ex
 obtain rfl:u=Value.ref a:=rx
 exact zag4 I1 ea c n l fun u' s2 I2 ru=>⟨v,H1,I2,ru,q⟩
theorem zauy (ha:PE X o ta) (hv:PE X value tv) (hs:swapsWith value (some (.Attribute o f pos')) pos.line X.env=pure false):PS X (.Assign [.Attribute o f pos'] value pos) (sFld X.K ta tv f):=by
 intro pins s σ H D I h
 refine plainObj_wpAny_Assign_Attribute (thn (hv pins s σ H _ I h) fun u s1 ⟨y,H1,I1,ry,q⟩=>thn (ha pins s1 σ H1 _ I1 q) fun ov s2 ⟨x,H2,I2,rx,a,C,dx,fs,ex,ea,c,n,l,q2⟩=>?_) hs
 subst ex
 obtain rfl:ov=Value.ref a:=rx
 exact zag6 I2 ea c n l ry fun s3 I3=>⟨σ,_,I3,q2⟩
theorem zamh {op:Operator}{rd:V→V→Hp→VK→Prop} (ha:PE X o ta) (hv:PE X value tv) (hop:InOp X op rd):PS X (.AugAssign (.Attribute o f tpos) op value pos) (sFldAug X.K ta tv rd f):=by
 intro pins s σ H D I h
 refine wpAny_AugAssign_AttributeAny (thn (ha pins s σ H _ I h) fun ov s1 ⟨x,H1,I1,rx,a,C,dx,fs,v,ex,ea,c,n,l,q⟩=>?_)
 subst ex
 obtain rfl:ov=Value.ref a:=rx
 refine zag4 I1 ea c n l fun u s2 I2 ru=>thn (hv pins s2 σ H1 _ I2 q) fun w3 s3 ⟨y,H2,I3,ry,q3⟩=>thn (hop pins s3 σ H2 v y u w3 _ I3 ru ry q3) fun w4 s4 ⟨z,H3,I4,rz,dx',fs',ea',l',q4⟩=>?_
 exact zag6 I4 ea' c n l' rz fun s5 I5=>⟨σ,_,I5,q4⟩
def rAdd:V→V→Hp→VK→Prop:=fun x y H Q=>∃ i j,x=.int i∧y=.int j∧Q (.int (i + j)) H
theorem zaqx:InOp X .Add rAdd:=by
 rintro pins s σ H x y u v Q I rx ry ⟨i,j,rfl,rfl,q⟩
 obtain ⟨t,rfl⟩:=(show ∃ t,u=Value.int i t from rx)
 obtain ⟨t',rfl⟩:=(show ∃ t',v=Value.int j t' from ry)
 exact PyProof.Rows.iadd_int ⟨.int (i + j),H,I.tok _,⟨_,rfl⟩,q⟩
end
section
variable {X:Cx}{pins:List (Addr × Obj)}{σ:St}{H:Hp}{s:Shared}{A:Around}{E:Value→Shared→Prop}{Q:Value→Shared→Prop}{c:Value}{b:Bool}
inductive TyOf (K:PySem.W.Frag) (H:Hp):V→Value→Prop where
 | non:TyOf K H .non (.type "NoneType")
 | bl (x:Bool):TyOf K H (.bl x) (.type "bool")
 | int (i:Int):TyOf K H (.int i) (.type "int")
 | str (x:Str):TyOf K H (.str x) (.type "str")
 | flt (x:UInt64):TyOf K H (.flt x) (.type "float")
 | lst {a:Addr}{xs:List V} (e:H a=some (.lst xs)):TyOf K H (.ref a) (.type "list")
 | frz {a:Addr}{o:Obj}{xs:List V} (e:H a=some (.frz o (.lst xs))):TyOf K H (.ref a) (.type "list")
 | tup {a:Addr}{xs:List V} (e:H a=some (.tup xs)):TyOf K H (.ref a) (.type "tuple")
 | dK {a:Addr}{kvs:List (Key × V)} (e:H a=some (.dK kvs)):TyOf K H (.ref a) (.type "dict")
 | dT {a:Addr}{kvs:List (List Key × V)} (e:H a=some (.dT kvs)):TyOf K H (.ref a) (.type "dict")
 | ins {a C dx:Addr}{fs:List (Str × V)} (e:H a=some (.ins C dx fs)) (cl:Cls K C) (ha:PySem.W.findIn K (.ref C) "__class__" = some (some (.builtin "object.__class__")))
   (hn:PySem.W.specialIn K (.builtin "object.__class__") "__get__" = some (some (.builtin "getset_descriptor.__get__"))) (htk:PySem.W.takesIn K (.builtin "object.__class__")=some true)
   (hm:PySem.W.mroIn K C (.type "object")=some true):TyOf K H (.ref a) (.ref C)
theorem zami {x:V}{u t:Value} (I:Inv X pins σ H s) (rx:RelV x u) (ty:TyOf X.K H x t) (e:PySem.W.kitOne X.K t c=some b) (h:∀ tk,Q (.bool b) { s with toks:=tk }) :
  wpAny (model X.prog X.w) A (call (.builtin "isinstance") [u,c]) Q E s:=by
 cases ty with
 | non=>cases (show u=Value.none from rx); exact PySem.W.kia_one PySem.W.kitx_none I.kIn True.intro e (fun z=>nomatch z) h
 | bl y=>cases (show u=Value.bool y from rx); exact PySem.W.kia_one PySem.W.kitx_bool I.kIn True.intro e (fun z=>nomatch z) h
 | int i=>obtain ⟨t,q⟩:=(show ∃ t,u=Value.int i t from rx); cases q; exact PySem.W.kia_one PySem.W.kitx_int I.kIn True.intro e (fun z=>nomatch z) h
 | str y=>obtain ⟨t,q⟩:=(show ∃ t,u=Value.str y t from rx); cases q; exact PySem.W.kia_one PySem.W.kitx_str I.kIn True.intro e (fun z=>nomatch z) h
 | flt y=>obtain ⟨t,q⟩:=(show ∃ t,u=Value.float y t from rx); cases q; exact PySem.W.kia_one PySem.W.kitx_float I.kIn True.intro e (fun z=>nomatch z) h
 | @lst a xs ea =>
  cases (show u=Value.ref a from rx)
  obtain ⟨_,_,n,_,h1⟩:=(show ObjOk X.prog X.w H s.heap a (.lst xs) from I.hok a _ ea)
  exact PySem.W.kia_one PySem.W.kitx_list I.kIn ⟨_,h1,rfl⟩ e (fun z=>nomatch z) h
 | @frz a ob xs ea =>
  cases (show u=Value.ref a from rx)
  obtain ⟨_,_,_,n,_,h1⟩:=(show ObjOk X.prog X.w H s.heap a (.frz ob (.lst xs)) from I.hok a _ ea)
  exact PySem.W.kia_one PySem.W.kitx_list I.kIn ⟨_,h1,rfl⟩ e (fun z=>nomatch z) h
 | @tup a xs ea =>
  cases (show u=Value.ref a from rx)
  obtain ⟨_,_,_,p⟩:=(show ObjOk X.prog X.w H s.heap a (.tup xs) from I.hok a _ ea)
  obtain ⟨o,h1,h2,_⟩:=p
  exact PySem.W.kia_one PySem.W.kitx_tuple I.kIn ⟨o,h1,h2⟩ e (fun z=>nomatch z) h
 | @dK a kvs ea =>
  cases (show u=Value.ref a from rx)
  obtain ⟨_,_,vs,_,p⟩:=(show ObjOk X.prog X.w H s.heap a (.dK kvs) from I.hok a _ ea)
  obtain ⟨o,es,ep,h1,h2,_⟩:=p
  exact PySem.W.kia_one PySem.W.kitx_dict I.kIn ⟨o,h1,h2.1⟩ e (fun z=>nomatch z) h
 | @dT a kvs ea =>
  cases (show u=Value.ref a from rx)
  obtain ⟨_,_,xs,_,o,es,ep,h1,h2,_⟩:=(show ObjOk X.prog X.w H s.heap a (.dT kvs) from I.hok a _ ea)
  exact PySem.W.kia_one PySem.W.kitx_dict I.kIn ⟨o,h1,h2.1⟩ e (fun z=>nomatch z) h
 | @ins a C dx fs ea cl ha hn htk hm =>
  cases (show u=Value.ref a from rx)
  obtain ⟨mA,O,_⟩:=zaf5 I.hok ea
  obtain ⟨od,J,_⟩:=O.look
  exact PySem.W.kia_one (PySem.W.kitx_own (cl.get _) cl.hd ha hn htk hm) I.kIn J e (fun z=>nomatch z) h
end
structure Room (k:Nat) (A:Around):Prop where
 hd:A.handled=none
 dp:A.depth + 3 * k + 5 < recursionLimit
 un:A.units + 16 * k + 200 < cLine
theorem Room.mono {j k:Nat}{A:Around} (r:Room k A) (h:j≤k):Room j A:=⟨r.hd,by have:=r.dp; omega,by have:=r.un; omega⟩
theorem Room.deeper {k:Nat}{A:Around} (r:Room (k + 1) A) (env:Env):Room k (A.deeper env) :=
 ⟨r.hd,by have:=r.dp; show A.depth + 1 + 3 * k + 5 < _; omega,by have:=r.un; show A.units + 3 + 16 * k + 200 < _; omega⟩
theorem zaln {A:Around}{C:Addr}{us:List Value}{kw:List (Str × Value)}:(A.under (.builtin "type.__call__" ⟨.ref C :: us,kw⟩)).depth=A.depth + 1:=by
 first | rfl | simp [Around.under,Code.weight,Code.isCreation,Code.isGuard,Code.isCaller,Code.frames,Code.isFrame,guardIds]
theorem zalo {A:Around}{C:Addr}{us:List Value}{kw:List (Str × Value)}:(A.under (.builtin "type.__call__" ⟨.ref C :: us,kw⟩)).units=A.units + 1:=by
 first | rfl | simp [Around.under,Code.cUnits,Code.frames,Code.isFrame]
theorem Room.make {k:Nat}{A:Around} (r:Room (k + 1) A) (C:Addr) (us:List Value) (kw:List (Str × Value)):Room k (A.under (.builtin "type.__call__" ⟨.ref C :: us,kw⟩)) :=
 ⟨r.hd,by have:=r.dp; rw [zaln]; omega,by have:=r.un; rw [zalo]; omega⟩
theorem Room.depth {k:Nat}{A:Around} (r:Room k A):A.depth < recursionLimit:=by have:=r.dp; omega
def tNil:TA:=fun _ H Q=>Q [] H
def tCons (ta:TE) (tr:TA):TA:=fun σ H Q=>ta σ H fun x H1=>tr σ H1 fun xs H2=>Q (x :: xs) H2
section
variable {X:Cx}{e:Expr}{es:List Expr}{te:TE}{t:TA}{pos:Pos}
theorem zauz:PA X [] tNil:=fun _ _ _ _ H Q I h=>Calls.spliced_nil ⟨[],H,I,.nil,h⟩
theorem zar4 (ha:PE X e te) (hr:PA X es t) (hs:starEach (e :: es) X.env=(false,eval e X.env) :: starEach es X.env:=by rfl):PA X (e :: es) (tCons te t):=by
 intro pos pins s σ H Q I h
 rw [hs]
 show wpAny _ _ (spliced ((false,eval e X.env) :: backTo pos (starEach es X.env))) _ _ s
 refine Calls.spliced_cons (thn (ha pins s σ H _ I h) fun u s1 ⟨x,H1,I1,r1,q1⟩=>?_)
 exact thn (hr pos pins s1 σ H1 _ I1 q1) fun us s2 ⟨xs,H2,I2,r2,q2⟩=>⟨x :: xs,H2,I2,.cons r1 r2,q2⟩
def tTup (t:TA):TE:=fun σ H Q=>t σ H fun xs H1=>xs.length≤sizeLine∧∀ p,H1 p=none→Q (.ref p) (upd H1 p (.tup xs))
def tLst (t:TA):TE:=fun σ H Q=>t σ H fun xs H1=>xs.length≤sizeLine∧∀ p,H1 p=none→Q (.ref p) (upd H1 p (.lst xs))
theorem zau0 {x1} (h:PA X es t):PE X (.Tuple es x1 pos) (tTup t):=by
 intro pins s σ H Q I hq
 refine wpAny_Tuple_spliced (thn (h pos pins s σ H _ I hq) fun us s1 ⟨xs,H1,I1,r,z,q⟩=>⟨by rw [← r.length]; exact z,?_⟩)
 have hf:H1 s1.heap.objs.size=none:=I1.hok.fresh (Nat.le_refl _)
 refine ⟨.ref s1.heap.objs.size,upd H1 s1.heap.objs.size (.tup xs),I1.laid (t':=s1.toks) (fun b u e=>Heap.get?_push_of_some _ e) (Nat.le_refl _) ?_,rfl,q _ hf⟩
 exact ⟨z,us,r,⟨_,Heap.get?_push_size _ rfl,rfl,_,rfl⟩⟩
theorem zau1 (h:PA X es t):PE X (.List es pos) (tLst t):=by
 intro pins s σ H Q I hq
 refine wpAny_List_spliced (thn (h pos pins s σ H _ I hq) fun us s1 ⟨xs,H1,I1,r,z,q⟩=>⟨by rw [← r.length]; exact z,?_⟩)
 have hf:H1 s1.heap.objs.size=none:=I1.hok.fresh (Nat.le_refl _)
 refine ⟨.ref s1.heap.objs.size,upd H1 s1.heap.objs.size (.lst xs),I1.laid (t':=s1.toks) (fun b u e=>Heap.get?_push_of_some _ e) (Nat.le_refl _) ?_,rfl,q _ hf⟩
 exact ⟨z,us,0,r,Heap.get?_push_size _ rfl⟩
end
abbrev Sp:=List V→Hp→VK→XK→Prop
abbrev CXT:=List Env→Hp→Shared→XK→Value→Shared→Prop
structure Env0 (P:Program) (w:World) (K:PySem.W.Frag) (mg:Str→Option Value) (base:Heap) (A:Around) (outer:List Env) (s:Shared) (H:Hp):Prop where
 frames:A.frames=some outer
 mod:Mod K mg base
 bs:∀ b o,base.get? b=some o→s.heap.get? b=some o∧H b=none
 bsz:base.objs.size≤s.heap.objs.size
 funs:s.heap.FunFrames base outer
 frf:∀ b∈frs outer,H b=none
 hok:HOk P w H s.heap
 bare:AllBare s.gens
def CE (outer:List Env) (P:Program) (w:World) (H:Hp) (s:Shared) (Q:VK) (u:Value) (s':Shared):Prop :=
 ∃ v H',s'.os=s.os∧AllBare s'.gens∧Un (frs outer) [] H H' s.heap s'.heap∧HOk P w H' s'.heap∧RelV v u∧Q v H'
def CR (CX:CXT) (outer:List Env) (P:Program) (w:World) (H:Hp) (s:Shared) (Q:VK) (E:XK) (r:Result) (s':Shared):Prop :=
 match r with
 | .ok (.ret u)=>CE outer P w H s Q u s'
 | .ok _=>False
 | .error e=>CX outer H s E e s'
structure FnOk (P:Program) (w:World) (K:PySem.W.Frag) (mg:Str→Option Value) (base:Heap) (CX:CXT) (k:Nat) (f:Addr) (fd:FuncData) (ps:List Str) (sp:Sp):Prop where
 len:∀ vs H Q E,sp vs H Q E→vs.length=ps.length
 run:∀ (A:Around) (outer:List Env) (s:Shared) (H:Hp) (args:Args) (us:List Value) (vs:List V) (Q:VK) (E:XK),Room k A→Env0 P w K mg base A outer s H→BindsTo s fd args (ps.zip us)→Vals vs us→sp vs H Q E →
  codeAny (model P w) A (.call (.ref f) args) (CR CX outer P w H s Q E) s
theorem FnOk.mono {P:Program}{w:World}{K:PySem.W.Frag}{mg:Str→Option Value}{base:Heap}{CX:CXT}{j k:Nat}{f:Addr}{fd:FuncData}{ps:List Str}{sp:Sp} (F:FnOk P w K mg base CX j f fd ps sp) (h:j≤k) :
  FnOk P w K mg base CX k f fd ps sp:=⟨F.len,fun A outer s H args us vs Q E hr=>F.run A outer s H args us vs Q E (hr.mono h)⟩
theorem Env0.make {P:Program}{w:World}{K:PySem.W.Frag}{mg:Str→Option Value}{base:Heap}{A:Around}{outer:List Env}{s:Shared}{H:Hp} (e:Env0 P w K mg base A outer s H) (C:Addr) (us:List Value) (kw:List (Str × Value)) :
  Env0 P w K mg base (A.under (.builtin "type.__call__" ⟨.ref C :: us,kw⟩)) outer s H:=⟨by first | exact e.frames | (simpa [Around.under,Code.envs,Code.isFrame,pushEnvs] using e.frames),e.mod,e.bs,e.bsz,e.funs,e.frf,e.hok,e.bare⟩
section
variable {X:Cx}{pins:List (Addr × Obj)}{σ:St}{H:Hp}{s s':Shared}
theorem Inv.env0 (I:Inv X pins σ H s):Env0 X.prog X.w X.K X.mg X.base X.A X.stack s H :=
 ⟨I.ok.frames,I.ok.mod,I.bs,Nat.le_trans I.ok.bsz I.sz,I.stack,I.stkFree,I.hok,I.bare⟩
theorem Inv.after {Q:VK}{u:Value} (I:Inv X pins σ H s) (h:CE X.stack X.prog X.w H s Q u s'):EP X pins σ Q u s':=by
 obtain ⟨v,H',os,bare,un,hok,r,q⟩:=h
 obtain ⟨hh,g,d,t,os'⟩:=s'
 obtain rfl:os'=s.os:=os
 exact ⟨v,H',I.call (h':=hh) (g':=g) (d':=d) (t':=t) (ch:=[]) un hok bare (fun b z=>absurd z (by simp)),r,q⟩
end
def tCall (sp:Sp) (dvs:List V) (E:XK) (t:TA):TE:=fun σ H Q=>t σ H fun vs H1=>sp (vs++dvs) H1 Q E
def tMeth (C:Addr) (m:Str) (sp:Sp) (dvs:List V) (E:XK) (ta:TE) (t:TA):TE:=fun σ H Q=>ta σ H fun x H1=>∃ a dx fs,x=.ref a∧H1 a=some (.ins C dx fs)∧fs.lookup m=none ∧
 t σ H1 fun vs H2=>sp (x :: (vs++dvs)) H2 Q E
def tMake (C:Addr) (sp:Sp) (dvs:List V) (E:XK) (t:TA):TE:=fun σ H Q=>t σ H fun vs H1=>∀ x dx,H1 x=none→H1 dx=none→dx≠x →
 sp (.ref x :: (vs++dvs)) (upd (upd H1 dx (.own x)) x (.ins C dx [])) (fun v H2=>v=.non∧Q (.ref x) H2) E
def Binds (K:PySem.W.Frag) (fd:FuncData) (ps:List Str) (ds:List Value):Prop :=
 ∀ (s:Shared) (us:List Value),K.In s.heap→(us++ds).length=ps.length→BindsTo s fd ⟨us,[]⟩ (ps.zip (us++ds))
theorem Binds.all {K:PySem.W.Frag}{fd:FuncData}{ps:List Str} (h:∀ us:List Value,us.length=ps.length→bindArgs fd ⟨us,[]⟩=pure (ps.zip us)):Binds K fd ps []:=fun s us _ hl=>by
 rw [List.append_nil] at hl ⊢
 exact .of_eq (h us hl)
def Passes (CX:CXT) (X:Cx) (E:XK):Prop:=∀ (pins:List (Addr × Obj)) (σ:St) (H:Hp) (s:Shared) (e:Value) (s':Shared),Inv X pins σ H s→CX X.stack H s E e s'→X.xe e s'
section
variable {X:Cx}{CX:CXT}{k:Nat}{f C:Addr}{fd:FuncData}{ps:List Str}{sp:Sp}{dvs:List V}{ds:List Value}{E:XK}{x m:Str}{p pos apos:Pos}{e o:Expr}{es:List Expr}{ta:TE}{t:TA}
theorem zako {pins:List (Addr × Obj)}{σ:St}{H:Hp}{s:Shared}{Q:VK}{us:List Value}{vs:List V} (F:FnOk X.prog X.w X.K X.mg X.base CX k f fd ps sp) (hr:Room k X.A) (hb:Binds X.K fd ps ds) (hd:Vals dvs ds) (hx:Passes CX X E)
  (I:Inv X pins σ H s) (r:Vals vs us) (h:sp (vs++dvs) H Q E):wpAny (model X.prog X.w) X.A (call (.ref f) us) (EP X pins σ Q) X.xe s:=by
 have r2:Vals (vs++dvs) (us++ds):=r.append hd
 have hl:(us++ds).length=ps.length:=by rw [← r2.length]; exact F.len _ _ _ _ h
 refine wpAny_call (codeAny_mono (F.run X.A X.stack s H ⟨us,[]⟩ (us++ds) (vs++dvs) Q E hr I.env0 (hb s us I.kIn hl) r2 h) fun r s' hq=>?_)
 cases r with
 | error e=>exact hx pins σ H s e s' I hq
 | ok fl =>
  cases fl with
  | ret u=>exact I.after hq
  | next=>exact False.elim hq
  | brk=>exact False.elim hq
  | cont=>exact False.elim hq
theorem zar5 (F:FnOk X.prog X.w X.K X.mg X.base CX k f fd ps sp) (hr:Room k X.A) (hg:Gl X x) (hm:X.mg x=some (.ref f)) (hk:PySem.W.keepIn X.K (.ref f)=true) (hb:Binds X.K fd ps ds) (hd:Vals dvs ds) (hx:Passes CX X E)
  (ha:PA X (e :: es) t) (hdb:(x == ("__debug__" : Str))=false:=by decide) (he:starEach (e :: es) X.env=(false,eval e X.env) :: starEach es X.env:=by rfl) (hpl:(backTo pos (starEach es X.env)).any (·.1)=false:=by rfl) :
  PE X (.Call (.Name x p) (e :: es) [] pos) (tCall sp dvs E t):=by
 intro pins s σ H Q I h
 refine wpAny_Call_Name_kw (zaef I hg hm ?_ hdb)
 refine PySem.W.callWith_K (h₀:=X.base) I.ok.mod.kin hk (thn (ha pos pins s σ H _ I h) fun us s1 ⟨vs,H1,I1,r,q⟩=>⟨I1.kIn,?_⟩) he hpl
 exact zako F hr hb hd hx I1 r q
theorem zape (F:FnOk X.prog X.w X.K X.mg X.base CX k f fd ps sp) (hr:Room k X.A) (hg:Gl X x) (hm:X.mg x=some (.ref f)) (hk:PySem.W.keepIn X.K (.ref f)=true) (hb:Binds X.K fd ps ds) (hd:Vals dvs ds) (hx:Passes CX X E)
  (hdb:(x == ("__debug__" : Str))=false:=by decide):PE X (.Call (.Name x p) [] [] pos) (tCall sp dvs E tNil):=by
 intro pins s σ H Q I h
 refine wpAny_Call_Name_kw (zaef I hg hm ?_ hdb)
 exact PySem.W.callWith_K0 I.kIn hk (zako (us:=[]) F hr hb hd hx I .nil h)
theorem zar6 {pl:Sem Bool} (he:PE X o ta) (c:Cls X.K C) (hm:Meth X.K C m f) (F:FnOk X.prog X.w X.K X.mg X.base CX k f fd ps sp) (hr:Room k X.A) (hb:Binds X.K fd ps ds) (hd:Vals dvs ds) (hx:Passes CX X E) (ha:PA X (e :: es) t)
  (hst:starEach (e :: es) X.env=(false,eval e X.env) :: starEach es X.env:=by rfl) (hpl:(backTo pos (starEach es X.env)).any (·.1)=false:=by rfl)
  (ht:eval (.Call (.Attribute o m apos) (e :: es) [] pos) X.env=(do
   let ov ← eval o X.env
   standAt apos.atName
   let (f,first) ← holding [ov] (getMethod ov m pl)
   callWith pos f first (backTo pos (starEach (e :: es) X.env)) (backToKw pos (keywordEach [] X.env))):=by rfl) :
  PE X (.Call (.Attribute o m apos) (e :: es) [] pos) (tMeth C m sp dvs E ta t):=by
 intro pins s σ H Q I h
 refine PySem.W.methodCall_KW (pl:=pl) (thn (he pins s σ H _ I h) fun u s1 ⟨x,H1,I1,rx,a,dx,fs,ex,ea,l,q⟩=>?_) ht
 subst ex
 obtain rfl:u=Value.ref a:=rx
 refine zag5 I1 ea c hm l ?_
 refine PySem.W.callWith_K (first:=[.ref a]) (h₀:=X.base) I.ok.mod.kin hm.kp (thn (ha pos pins s1 σ H1 _ I1 q) fun us s2 ⟨vs,H2,I2,r,q2⟩=>⟨I2.kIn,?_⟩) hst hpl
 exact zako (us:=.ref a :: us) (vs:=.ref a :: vs) F hr hb hd hx I2 (.cons rfl r) q2
theorem zapf {pl:Sem Bool} (he:PE X o ta) (c:Cls X.K C) (hm:Meth X.K C m f) (F:FnOk X.prog X.w X.K X.mg X.base CX k f fd ps sp) (hr:Room k X.A) (hb:Binds X.K fd ps ds) (hd:Vals dvs ds) (hx:Passes CX X E)
  (ht:eval (.Call (.Attribute o m apos) [] [] pos) X.env=(do
   let ov ← eval o X.env
   standAt apos.atName
   let (f,first) ← holding [ov] (getMethod ov m pl)
   callWith pos f first (backTo pos (starEach [] X.env)) (backToKw pos (keywordEach [] X.env))):=by rfl) :
  PE X (.Call (.Attribute o m apos) [] [] pos) (tMeth C m sp dvs E ta tNil):=by
 intro pins s σ H Q I h
 refine PySem.W.methodCall_KW (pl:=pl) (thn (he pins s σ H _ I h) fun u s1 ⟨x,H1,I1,rx,a,dx,fs,ex,ea,l,q⟩=>?_) ht
 subst ex
 obtain rfl:u=Value.ref a:=rx
 refine zag5 I1 ea c hm l ?_
 exact PySem.W.callWith_K0 (first:=[.ref a]) I1.kIn hm.kp (zako (us:=[.ref a]) (vs:=[.ref a]) F hr hb hd hx I1 (.cons rfl .nil) q)
structure Mk (K:PySem.W.Frag) (C f:Addr):Prop where
 makes:PySem.W.makesIn K C=true
 init:PySem.W.findIn K (.ref C) "__init__" = some (some (.ref f))
 fn:PySem.W.isFn K (.ref f)=true
 kp:PySem.W.keepIn K (.ref C)=true
theorem zapg {pins:List (Addr × Obj)}{σ:St}{H:Hp}{s:Shared}{Q:VK}{us:List Value}{vs:List V} (M:Mk X.K C f) (F:FnOk X.prog X.w X.K X.mg X.base CX k f fd ps sp) (hr:Room (k + 1) X.A) (hb:Binds X.K fd ps ds) (hd:Vals dvs ds)
  (hx:Passes CX X E) (I:Inv X pins σ H s) (r:Vals vs us)
  (h:∀ x dx,H x=none→H dx=none→dx≠x→sp (.ref x :: (vs++dvs)) (upd (upd H dx (.own x)) x (.ins C dx [])) (fun v H2=>v=.non∧Q (.ref x) H2) E) :
  wpAny (model X.prog X.w) X.A (call (.ref C) us) (EP X pins σ Q) X.xe s:=by
 have hq:=h (s.heap.objs.size + 1) s.heap.objs.size (I.hok.fresh (Nat.le_succ _)) (I.hok.fresh (Nat.le_refl _)) (Nat.ne_of_lt (Nat.lt_succ_self _))
 have I2:=Inv.made (C:=C) I
 have r2:Vals (V.ref (s.heap.objs.size + 1) :: (vs++dvs)) (Value.ref (s.heap.objs.size + 1) :: (us++ds)):=.cons rfl (r.append hd)
 have hl:(Value.ref (s.heap.objs.size + 1) :: us++ds).length=ps.length:=by
  have e:=r2.length
  rw [F.len _ _ _ _ hq] at e
  exact e.symm
 refine wpAny_call (zapd (f:=f) I.kIn M.makes M.init (beq_iff_eq.mp M.fn) (codeAny_mono (F.run _ X.stack _ _ ⟨Value.ref (s.heap.objs.size + 1) :: us,[]⟩ (Value.ref (s.heap.objs.size + 1) :: (us++ds)) _ _ E (hr.make C us [])
  (I2.env0.make C us []) (hb _ (Value.ref (s.heap.objs.size + 1) :: us) I2.kIn hl) r2 hq) fun r s' hq'=>?_))
 cases r with
 | error e=>exact hx pins σ _ _ e s' I2 hq'
 | ok fl =>
  cases fl with
  | ret u =>
   obtain ⟨v,H',I3,rv,ev,q3⟩:=I2.after hq'
   subst ev
   exact ⟨rv,⟨V.ref (s.heap.objs.size + 1),H',I3,rfl,q3⟩⟩
  | next=>exact False.elim hq'
  | brk=>exact False.elim hq'
  | cont=>exact False.elim hq'
theorem zar7 (M:Mk X.K C f) (F:FnOk X.prog X.w X.K X.mg X.base CX k f fd ps sp) (hr:Room (k + 1) X.A) (hg:Gl X x) (hm:X.mg x=some (.ref C)) (hb:Binds X.K fd ps ds) (hd:Vals dvs ds) (hx:Passes CX X E)
  (ha:PA X (e :: es) t) (hdb:(x == ("__debug__" : Str))=false:=by decide) (he:starEach (e :: es) X.env=(false,eval e X.env) :: starEach es X.env:=by rfl) (hpl:(backTo pos (starEach es X.env)).any (·.1)=false:=by rfl) :
  PE X (.Call (.Name x p) (e :: es) [] pos) (tMake C sp dvs E t):=by
 intro pins s σ H Q I h
 refine wpAny_Call_Name_kw (zaef I hg hm ?_ hdb)
 refine PySem.W.callWith_K (h₀:=X.base) I.ok.mod.kin M.kp (thn (ha pos pins s σ H _ I h) fun us s1 ⟨vs,H1,I1,r,q⟩=>⟨I1.kIn,?_⟩) he hpl
 exact zapg M F hr hb hd hx I1 r q
end
structure FnScope (N P:List Str) (sc:Scope):Prop where
 kind:sc.kind=.function
 co:sc.isCoroutine=false
 gen:sc.isGenerator=false
 nd:N.Nodup
 pre:N.take P.length=P
 par:∀ x∈P,sc.names.lookup x=some .local∨sc.names.lookup x=some .cell
 nofree:∀ y∈sc.names,y.2≠.free
theorem zaiq {kindOf:Str→Option NameKind}{x:Str}:∀ {binds:List (Str × Value)}{m:Str→Option Value},(∀ v,(x,v) ∉ binds)→bindL kindOf binds m x=m x
 | [],_,_=>rfl
 | (n,v) :: r,m,h=>by
  unfold bindL
  rw [zaiq fun w hw=>h w (List.mem_cons_of_mem _ hw)]
  split
  ·have:x≠n:=by rintro rfl; exact h v List.mem_cons_self
   simp [this]
  ·rfl
theorem zair {kindOf:Str→Option NameKind}{x:Str}:∀ {binds:List (Str × Value)}{m:Str→Option Value},(∀ v,(x,v) ∉ binds)→bindC kindOf binds m x=m x
 | [],_,_=>rfl
 | (n,v) :: r,m,h=>by
  unfold bindC
  rw [zair fun w hw=>h w (List.mem_cons_of_mem _ hw)]
  split
  ·rfl
  ·have:x≠n:=by rintro rfl; exact h v List.mem_cons_self
   simp [this]
theorem zais {kindOf:Str→Option NameKind}{x:Str}{v:Value}:∀ {P:List Str}{vs:List Value}{i:Nat}{m:Str→Option Value},P.Nodup→P[i]?=some x→vs[i]?=some v→kindOf x=some .local →
  bindL kindOf (P.zip vs) m x=some v
 | [],_,_,_,_,h,_,_=>by simp at h
 | _ :: _,[],_,_,_,_,h,_=>by simp at h
 | p :: P,w :: vs,0,m,nd,h1,h2,hk=>by
  simp at h1 h2; subst h1; subst h2
  show bindL kindOf ((p,w) :: P.zip vs) m p=_
  unfold bindL
  rw [zaiq fun v hv=>(List.nodup_cons.mp nd).1 (List.of_mem_zip hv).1,if_pos hk]
  simp
 | p :: P,w :: vs,i + 1,m,nd,h1,h2,hk=>by
  show bindL kindOf ((p,w) :: P.zip vs) m x=_
  unfold bindL
  exact zais (i:=i) (List.nodup_cons.mp nd).2 (by simpa using h1) (by simpa using h2) hk
theorem zait {kindOf:Str→Option NameKind}{x:Str}{v:Value}:∀ {P:List Str}{vs:List Value}{i:Nat}{m:Str→Option Value},P.Nodup→P[i]?=some x→vs[i]?=some v→kindOf x≠some .local →
  bindC kindOf (P.zip vs) m x=some v
 | [],_,_,_,_,h,_,_=>by simp at h
 | _ :: _,[],_,_,_,_,h,_=>by simp at h
 | p :: P,w :: vs,0,m,nd,h1,h2,hk=>by
  simp at h1 h2; subst h1; subst h2
  show bindC kindOf ((p,w) :: P.zip vs) m p=_
  unfold bindC
  rw [zair fun v hv=>(List.nodup_cons.mp nd).1 (List.of_mem_zip hv).1,if_neg hk]
  simp
 | p :: P,w :: vs,i + 1,m,nd,h1,h2,hk=>by
  show bindC kindOf ((p,w) :: P.zip vs) m x=_
  unfold bindC
  exact zait (i:=i) (List.nodup_cons.mp nd).2 (by simpa using h1) (by simpa using h2) hk
def start (N:List Str) (vs:List V):St:=vs.map some++List.replicate (N.length - vs.length) none
def cxOf (CX:CXT) (P:Program) (w:World) (K:PySem.W.Frag) (mg:Str→Option Value) (base:Heap) (N:List Str) (qual:Str) (scope:Scope) (f:Addr) (cd:Value) (A:Around) (outer:List Env) (s:Shared) (H:Hp) (E:XK):Cx where
 prog:=P
 w:=w
 K:=K
 mg:=mg
 base:=base
 A:=A.deeper (envOfC qual scope s.heap.objs.size f cd)
 N:=N
 s₀:=s
 H₀:=H
 env:=envOfC qual scope s.heap.objs.size f cd
 outer:=outer
 stack:=envOfC qual scope s.heap.objs.size f cd :: outer
 ex:=[]
 calm:=true
 fn:=fun _=>true
 pn:=[]
 xe:=fun e s'=>wpAny (model P w) (A.deeper (envOfC qual scope s.heap.objs.size f cd)) (leaving (envOfC qual scope s.heap.objs.size f cd) e) (fun _ s''=>CX outer H s E e s'') (fun e' s''=>CX outer H s E e' s'') s'
theorem zakp {sc:Scope}{n:Nat}{x:Str} (h:sc.names.lookup x=some .cell):∃ c,(cellsFrom n sc.names []).lookup x=some c:=by
 have q:=PySem.W.cellsFrom_some sc.names n [] (.inl h)
 exact Option.isSome_iff_exists.mp q
theorem zamj {CX:CXT}{P:Program}{w:World}{K:PySem.W.Frag}{mg:Str→Option Value}{base:Heap}{N ps:List Str}{qual:Str}{scope:Scope}{f:Addr}{cd:Value}{A:Around}{outer:List Env}{s s1:Shared}{H:Hp}{E:XK}{us:List Value}{vs:List V}
  (S:FnScope N ps scope) (hd:A.handled=none) (e0:Env0 P w K mg base A outer s H) (hl:vs.length=ps.length) (r:Vals vs us)
  (x:InCallC s s.heap.objs.size (bindL (envOfC qual scope s.heap.objs.size f cd).kindOf (ps.zip us) fun _=>none) (cellsFrom (s.heap.objs.size + 1) scope.names []) (bindC (envOfC qual scope s.heap.objs.size f cd).kindOf (ps.zip us) fun _=>none) s1) :
  Inv (cxOf CX P w K mg base N qual scope f cd A outer s H E) [] (start N vs) H s1:=by
 have hpl:ps.length≤N.length:=by have:=congrArg List.length S.pre; rw [List.length_take] at this; omega
 obtain ⟨h1,tk,rfl,hk⟩:=x.done
 have noA:∀ b:Addr,b ∉ (cxOf CX P w K mg base N qual scope f cd A outer s H E).ex:=fun b z=>absurd (show b∈([]:List Addr) from z) (by simp)
 refine ⟨⟨e0.mod,S.kind,rfl,rfl,Nat.le_refl _,fun y z c h1 h2=>?_,fun y hy=>?_,fun y c _ h=>?_,fun _=>hd,Around.frames_deeper e0.frames,.inr ⟨rfl,rfl⟩,fun b z=>absurd z (noA b),e0.bs,e0.bsz,fun b _ _=>noA b,fun b z=>absurd z (noA b),e0.funs,e0.frf⟩,
  rfl,e0.bare,Un.kept hk,⟨_,x.toInCall.ns,fun i y v h1 h2 h3=>?_⟩,fun y c h=>⟨_,x.cell y c h⟩,e0.hok.fresh (Nat.le_refl _),fun y c h=>?_,fun p hp=>absurd (show p∈([]:List (Addr × Obj)) from hp) (by simp),e0.hok.kept hk,?_⟩
 ·exact name_of_addr x.apart (PySem.mem_of_lookup h1) (PySem.mem_of_lookup h2)
 ·have hy:scope.names.lookup y=some .cell∨scope.names.lookup y=some .free:=hy
  rcases hy with hy | hy
  ·exact zakp hy
  ·exact absurd rfl (S.nofree _ (PySem.mem_of_lookup hy))
 ·exact Nat.le_of_lt (x.above y c (PySem.mem_of_lookup h))
 ·have hi:i < vs.length:=by
   unfold start at h2
   by_cases hi:i < vs.length
   ·exact hi
   ·rw [List.getElem?_append_right (by simpa using hi)] at h2
    rw [List.getElem?_replicate] at h2
    split at h2 <;> cases h2
  have ha:vs[i]?=some v:=by
   unfold start at h2
   rw [List.getElem?_append_left (by simpa using hi),List.getElem?_map] at h2
   cases e:vs[i]? with
   | none=>rw [e] at h2; cases h2
   | some a=>rw [e] at h2; cases h2; rfl
  obtain ⟨u,hu,rv⟩:=r.get ha
  have hp:ps[i]?=some y:=by
   rw [← S.pre,List.getElem?_take_of_lt (by omega)]; exact h1
  have ndP:ps.Nodup:=by rw [← S.pre]; exact S.nd.sublist (List.take_sublist _ _)
  refine ⟨u,rv,?_⟩
  rcases S.par y (List.mem_of_getElem? hp) with k | k
  ·exact .inl ⟨k,zais ndP hp hu k⟩
  ·obtain ⟨c,e⟩:=zakp (n:=s.heap.objs.size + 1) k
   refine .inr ⟨.inl k,c,e,?_⟩
   have q:=x.cell y c e
   rw [zait ndP hp hu (by show scope.names.lookup y≠_; rw [k]; decide)] at q
   exact q
 ·exact e0.hok.fresh (Nat.le_of_lt (x.above y c (PySem.mem_of_lookup h)))
 ·unfold start
  show _=N.length
  rw [List.length_append,List.length_map,List.length_replicate]
  omega
theorem zau2 {CX:CXT}{P:Program}{w:World}{K:PySem.W.Frag}{mg:Str→Option Value}{base:Heap}{k:Nat}{f:Addr}{name qual:Str}{params:Arguments}{body:List Stmt}{scope:Scope}{dV kV doc pm cdv ct oc:Value}{an od:Option Addr}
  {osl:Array (Option Value)}{N ps:List Str}{sp:Sp} (lk:K.lookup f=some ⟨oc,od,.func (PySem.W.fnOf name qual params body scope dV kV doc pm an cdv ct),osl⟩) (hcd:PySem.W.codeIn K cdv qual=true) (S:FnScope N ps scope)
  (len:∀ vs H Q E,sp vs H Q E→vs.length=ps.length)
  (hbody:∀ (A:Around) (outer:List Env) (s:Shared) (H:Hp) (vs:List V) (Q:VK) (E:XK),Room k (A.deeper (envOfC qual scope s.heap.objs.size f cdv))→sp vs H Q E →
   ∃ t,PSs (cxOf CX P w K mg base N qual scope f cdv A outer s H E) body t∧t { nx:=fun _ H'=>Q .non H',rt:=Q } (start N vs) H) :
  FnOk P w K mg base CX (k + 1) f (PySem.W.fnOf name qual params body scope dV kV doc pm an cdv ct) ps sp:=by
 refine ⟨len,fun A outer s H args us vs Q E hr e0 hb r hsp=>?_⟩
 have hl:=len _ _ _ _ hsp
 have KX:K.In s.heap:=e0.mod.kin.keeps fun b o e=>(e0.bs b o e).1
 have lim:s.heap.NoLimit:=e0.mod.nolimit.keeps fun b o e=>(e0.bs b o e).1
 have hkind:∀ y∈ps.zip us,scope.names.lookup y.1=some .local∨(scope.names.lookup y.1=some .cell∧((cellsFrom (s.heap.objs.size + 1) scope.names []).lookup y.1).isSome=true):=fun ⟨n,v⟩ hy=>by
  rcases S.par n (List.of_mem_zip hy).1 with q | q
  ·exact .inl q
  ·exact .inr ⟨q,PySem.W.cellsFrom_some _ _ _ (.inl q)⟩
 refine codeAny_call_function hr.depth (KX _ _ lk) rfl S.co S.gen rfl (PySem.W.codeRec_of KX hcd) (hb _ _ _ _ ?_)
 refine wpAny_newFunctionEnv_cells S.kind hkind fun env he s1 x=>?_
 subst he
 refine ⟨lim.keeps x.toInCall.keep,codeAny_func ?_⟩
 obtain ⟨t,ht,hq⟩:=hbody A outer s H vs Q E (hr.deeper _) hsp
 have I:Inv (cxOf CX P w K mg base N qual scope f cdv A outer s H E) [] (start N vs) H s1:=zamj S hr.hd e0 hl r x
 refine wpAny_mono (ht [] s1 (start N vs) H _ I hq) (fun fl s' hs=>?_) fun e s' hs=>hs
 have fin:∀ {σ':St}{H':Hp}{v:V}{u:Value},Inv (cxOf CX P w K mg base N qual scope f cdv A outer s H E) [] σ' H' s'→RelV v u→Q v H'→CE outer P w H s Q u s' :=
  fun {σ' H' v u} J rv q=>⟨v,H',J.os,J.bare,J.base,J.hok,rv,q⟩
 cases fl with
 | ret u =>
  obtain ⟨v,σ',H',J,rv,q⟩:=hs
  exact fin J rv q
 | next =>
  obtain ⟨σ',H',J,q⟩:=hs
  exact fin (v:=V.non) (u:=Value.none) J rfl q
 | brk =>
  obtain ⟨_,_,_,q⟩:=hs
  exact False.elim q
 | cont =>
  obtain ⟨_,_,_,q⟩:=hs
  exact False.elim q
section
variable {X:Cx}{x:Str}{p pos:Pos}{e:Expr}{es:List Expr}{t:TA}{id T:String}{r:List V→Hp→VK→Prop}
def tCB (r:List V→Hp→VK→Prop) (t:TA):TE:=fun σ H Q=>t σ H fun vs H1=>r vs H1 Q
theorem zaph (hc:CallR X (.builtin id) r) (hg:Gl X x) (hm:X.mg x=none) (hv:bootBuiltins x=some (.builtin id)) (ha:PA X (e :: es) t) (hn:x ≠ "__name__" := by decide) (hdb:(x == ("__debug__" : Str))=false:=by decide)
  (he:starEach (e :: es) X.env=(false,eval e X.env) :: starEach es X.env:=by rfl) (hpl:(backTo pos (starEach es X.env)).any (·.1)=false:=by rfl):PE X (.Call (.Name x p) (e :: es) [] pos) (tCB r t):=by
 intro pins s σ H Q I h
 refine wpAny_Call_Name_kw (zag3 I hg hm hv ?_ hn hdb)
 exact PyProof.Rows.callWith_builtin1 (thn (ha pos pins s σ H _ I h) fun us s1 ⟨vs,H1,I1,r1,q1⟩=>hc pins s1 σ H1 vs us Q I1 r1 q1) he hpl
theorem zamk (hc:CallR X (.type T) r) (hg:Gl X x) (hm:X.mg x=none) (hv:bootBuiltins x=some (.type T)) (ha:PA X (e :: es) t) (hn:x ≠ "__name__" := by decide) (hdb:(x == ("__debug__" : Str))=false:=by decide)
  (he:starEach (e :: es) X.env=(false,eval e X.env) :: starEach es X.env:=by rfl) (hpl:(backTo pos (starEach es X.env)).any (·.1)=false:=by rfl):PE X (.Call (.Name x p) (e :: es) [] pos) (tCB r t):=by
 intro pins s σ H Q I h
 refine wpAny_Call_Name_kw (zag3 I hg hm hv ?_ hn hdb)
 exact PyProof.Rows.callWith_type1 (thn (ha pos pins s σ H _ I h) fun us s1 ⟨vs,H1,I1,r1,q1⟩=>hc pins s1 σ H1 vs us Q I1 r1 q1) he hpl
end
end L2
namespace HT
open PySem PyProof.Rows
section
variable {prog:Program}{w:World}{A:Around}{E:Value→Shared→Prop}{s:Shared}
def sIx (n d:Nat):Option Int→Nat
 | none=>d
 | some v=>if v < 0 then (v + (n:Int)).toNat else min v.toNat n
theorem sIx_none (n d:Nat):sIx n d none=d:=rfl
theorem sIx_nat (n d k:Nat):sIx n d (some (k:Int))=min k n:=by
 show (if (k:Int) < 0 then ((k:Int) + (n:Int)).toNat else min (k:Int).toNat n)=min k n
 rw [if_neg (by omega),Int.toNat_natCast]
theorem sIx_le (n d:Nat) (hd:d≤n) (o:Option Int):sIx n d o≤n:=by
 cases o with
 | none=>exact hd
 | some v =>
  show (if v < 0 then (v + (n:Int)).toNat else min v.toNat n)≤n
  by_cases hv:v < 0
  ·rw [if_pos hv]; omega
  ·rw [if_neg hv]; exact Nat.min_le_right _ _
theorem clip_eq (v:Int) (n d:Nat):(if v < 0 then max (v + (n:Int)) 0 else min v (n:Int))=((sIx n d (some v):Nat):Int):=by
 show (if v < 0 then max (v + (n:Int)) 0 else min v (n:Int))=(((if v < 0 then (v + (n:Int)).toNat else min v.toNat n):Nat):Int)
 by_cases hv:v < 0
 ·simp only [if_pos hv]; omega
 ·simp only [if_neg hv]; omega
theorem zalp (lo hi:Option Int) (n:Nat):Builtin.Slice.sliceAdjust lo hi 1 (n:Int)=(((sIx n 0 lo:Nat):Int),((sIx n n hi:Nat):Int)):=by
 have h1:¬ ((1:Int) < 0):=by omega
 unfold Builtin.Slice.sliceAdjust
 simp only [h1,if_false]
 refine Prod.ext ?_ ?_
 ·cases lo with
  | none=>rfl
  | some v=>exact clip_eq v n 0
 ·cases hi with
  | none=>rfl
  | some v=>exact clip_eq v n n
theorem zalq (i j:Nat):Builtin.Slice.slicePlaces (i:Int) (j:Int) 1=j - i:=by
 unfold Builtin.Slice.slicePlaces
 have h1:(1:Int) > 0:=by omega
 simp only [h1,if_true,Int.ediv_one]
 split <;> omega
theorem zag7 {v:Value}{o:Option Int}{Q:Option Int→Shared→Prop} (p:IsPart v o) (h:Q o s):wpAny (model prog w) A (Builtin.Slice.slicePartIndex v) Q E s:=by
 cases p with
 | none=>exact slicePart_none h
 | int i t=>exact slicePart_int h
theorem zafh {sl:Addr}{vl vu:Value}{lo hi:Option Int}{n:Nat}{Q:Int × Int × Nat→Shared→Prop} (hs:s.heap.IsSliceOf sl vl vu .none) (pl:IsPart vl lo) (pu:IsPart vu hi)
  (h:Q (((sIx n 0 lo:Nat):Int),1,sIx n n hi - sIx n 0 lo) s):wpAny (model prog w) A (Builtin.Slice.sliceApplied (.ref sl) (pure (n:Int))) Q E s:=by
 obtain ⟨os,hos,hcs,hds⟩:=id hs
 unfold Builtin.Slice.sliceApplied Builtin.Slice.sliceFields
 refine wpAny_bind (wpAny_bind (wpAny_field hos hds (x:=vl) rfl (wpAny_bind (wpAny_field hos hds (x:=vu) rfl (wpAny_bind (wpAny_field hos hds (x:=.none) rfl (wpAny_pure ?_)))))))
 refine wpAny_bind (slicePart_none ?_)
 show wpAny _ _ (if ((1:Int) == 0)=true then _ else _) _ _ s
 rw [if_neg (by decide)]
 refine wpAny_bind (zag7 pl (wpAny_bind (zag7 pu (wpAny_bind (wpAny_pure ?_)))))
 show wpAny _ _ (match Builtin.Slice.sliceAdjust lo hi 1 (n:Int) with | (lo,hi)=>pure (lo,(1:Int),Builtin.Slice.slicePlaces lo hi 1)) _ _ s
 rw [zalp lo hi n]
 show wpAny _ _ (pure (((sIx n 0 lo:Nat):Int),(1:Int),Builtin.Slice.slicePlaces ((sIx n 0 lo:Nat):Int) ((sIx n n hi:Nat):Int) 1)) _ _ s
 rw [zalq]
 exact wpAny_pure h
theorem zapi (xs:Array Value) (i k:Nat):((List.range k).filterMap fun (m:Nat)=>xs[((i:Int) + (m:Int) * 1).toNat]?).toArray=((xs.toList.drop i).take k).toArray:=by
 have e:(fun (m:Nat)=>xs[((i:Int) + (m:Int) * 1).toNat]?)=fun m=>xs[i + m]?:=by
  funext m
  have:((i:Int) + (m:Int) * 1).toNat=i + m:=by omega
  rw [this]
 rw [e]
 have:=pick_run xs i k
 rw [List.filterMap_map] at this
 have e2:((fun x=>xs[x]?) ∘ fun x=>i + x)=fun m=>xs[i + m]?:=rfl
 rw [e2] at this
 rw [this]
theorem getItem_tuple_cut {t sl:Addr}{items:Array Value}{vl vu:Value}{lo hi:Option Int}{Q:Value→Shared→Prop} (ht:IsTup s.heap t items) (hs:s.heap.IsSliceOf sl vl vu .none) (pl:IsPart vl lo) (pu:IsPart vu hi)
  (hw:¬ (sIx items.size 0 lo=0∧sIx items.size items.size hi=items.size))
  (h:Q (.ref s.heap.objs.size) { s with heap:=s.heap.push { cls:=.type "tuple",data:=.seq ((items.toList.drop (sIx items.size 0 lo)).take (sIx items.size items.size hi - sIx items.size 0 lo)).toArray } })
  (hsz:items.size≤sizeLine):wpAny (model prog w) A (getItem (.ref t) (.ref sl)) Q E s:=by
 have htake:sizeOk (.seq ((items.toList.drop (sIx items.size 0 lo)).take (sIx items.size items.size hi - sIx items.size 0 lo)).toArray):=by
  show ((items.toList.drop (sIx items.size 0 lo)).take (sIx items.size items.size hi - sIx items.size 0 lo)).toArray.size≤sizeLine
  rw [List.size_toArray,List.length_take,List.length_drop,Array.length_toList]
  omega
 have hj:sIx items.size items.size hi≤items.size:=sIx_le _ _ (Nat.le_refl _) hi
 obtain ⟨os,hos,hcs,hds⟩:=id hs
 have hTs:s.TypeIs (.ref sl) "slice" := ⟨os,hos,hcs⟩
 unfold getItem
 try with_reducible refine wpAny_holding ?_
 first | refine wpAny_bind (wpAny_pure ?_) | skip
 refine wpAny_bind (wpAny_sequenceKey ht.typeIs (by decide) ?_)
 refine wpAny_bind (wpAny_callSpecial?_slot (name:=Str.ofString "__getitem__") ht.typeIs PyProof.Rows.slot_tuple_getitem
  (wpAny_call_entry PyProof.Rows.slot_tuple_getitem ht.typeIs entry_tuple_getitem ?_ (args_tuple_getitem _ _)))
 show wpAny _ _ (Builtin.Tuple.tupleItemsOf (.ref t) >>= _) _ _ s
 refine wpAny_bind (tupleItemsOf_ ht ?_)
 refine wpAny_bind (wpAny_typeOf hTs ?_)
 rw [if_pos (by decide)]
 refine wpAny_bind (zafh hs pl pu ?_)
 have hno:¬ ((((sIx items.size 0 lo:Nat):Int) == 0 && (1:Int) == 1 && (sIx items.size items.size hi - sIx items.size 0 lo) == items.size)=true):=by
  intro q
  rw [Bool.and_eq_true,Bool.and_eq_true] at q
  have q1:((sIx items.size 0 lo:Nat):Int)=0:=eq_of_beq q.1.1
  have q2:sIx items.size items.size hi - sIx items.size 0 lo=items.size:=eq_of_beq q.2
  exact hw ⟨by omega,by omega⟩
 show wpAny _ _ (if (((sIx items.size 0 lo:Nat):Int) == 0 && (1:Int) == 1 && (sIx items.size items.size hi - sIx items.size 0 lo) == items.size)=true then _ else _) _ _ s
 rw [if_neg hno,zapi]
 first
  | exact wpAny_bind (m:=Builtin.Tuple.tupleExact _) (wpAny_newObj_type (wpAny_pure ⟨_,rfl,wpAny_pure h⟩) htake)
  | exact wpAny_bind (m:=Builtin.Tuple.tupleExact _) (wpAny_newObj_type (wpAny_bind (wpAny_pure (wpAny_pure ⟨_,rfl,wpAny_pure h⟩))) htake)
  | exact wpAny_bind (wpAny_bind (m:=Builtin.Tuple.tupleExact _) (wpAny_newObj_type (wpAny_pure (wpAny_pure ⟨_,rfl,wpAny_pure h⟩)) htake))
  | exact wpAny_bind (wpAny_bind (m:=Builtin.Tuple.tupleExact _) (wpAny_newObj_type (wpAny_pure ⟨_,rfl,wpAny_pure h⟩) htake))
end
end HT
namespace L2
open PySem PySem.Spec PyProof.Rows
abbrev TO:=St→Hp→(Option Int→Hp→Prop)→Prop
def PO (X:Cx) (e:Option Expr) (t:TO):Prop :=
 ∀ (pins:List (Addr × Obj)) (s:Shared) (σ:St) (H:Hp) (Q:Option Int→Hp→Prop),Inv X pins σ H s→t σ H Q →
  wpAny (model X.prog X.w) X.A (evalPart e X.env) (fun u s'=>∃ o H',Inv X pins σ H' s'∧IsPart u o∧Q o H') X.xe s
def tNoPart:TO:=fun _ H Q=>Q none H
def tPart (t:TE):TO:=fun σ H Q=>t σ H fun x H1=>∃ i,x=.int i∧Q (some i) H1
section
variable {X:Cx}{e:Expr}{te:TE}{lo hi:Option Expr}{tl th:TO}{pos p2:Pos}
theorem zar8:PO X none tNoPart:=by
 intro pins s σ H Q I h
 rw [evalPart_none]
 exact wpAny_pure ⟨none,H,I,.none,h⟩
theorem zar9 (h:PE X e te):PO X (some e) (tPart te):=by
 intro pins s σ H Q I hw
 rw [evalPart_some]
 refine thn (h pins s σ H _ I hw) fun u s1 ⟨x,H1,I1,r1,q1⟩=>?_
 obtain ⟨i,rfl,q⟩:=q1
 obtain ⟨t,rfl⟩:=r1
 exact ⟨some i,H1,I1,.int i t,q⟩
def SlR (X:Cx) (r:V→Option Int→Option Int→Hp→VK→Prop):Prop :=
 ∀ (pins:List (Addr × Obj)) (s:Shared) (σ:St) (H:Hp) (x:V) (v vl vu:Value) (lo hi:Option Int) (sl:Addr) (Q:VK),Inv X pins σ H s→RelV x v→s.heap.IsSliceOf sl vl vu .none→IsPart vl lo→IsPart vu hi→r x lo hi H Q →
  ∃ T id,typeLookup (.type T) "__getitem__" = pure (some (.builtin id))∧s.TypeIs v T∧wpAny (model X.prog X.w) X.A (getItem v (.ref sl)) (EP X pins σ Q) X.xe s
def tSl (r:V→Option Int→Option Int→Hp→VK→Prop) (te:TE) (tl th:TO):TE:=fun σ H Q=>te σ H fun x H1=>tl σ H1 fun l H2=>th σ H2 fun u H3=>r x l u H3 Q
theorem zapj {r:V→Option Int→Option Int→Hp→VK→Prop} (hr:SlR X r) (he:PE X e te) (hl:PO X lo tl) (hu:PO X hi th):PE X (.Subscript e (.Slice lo hi none p2) pos) (tSl r te tl th):=by
 intro pins s σ H Q I h
 refine Subscript_ (thn (he pins s σ H _ I h) fun v s1 ⟨x,H1,I1,r1,q1⟩=>?_)
 refine wpAny_Slice (thn (hl pins s1 σ H1 _ I1 q1) fun vl s2 ⟨l,H2,I2,pl,q2⟩=>thn (hu pins s2 σ H2 _ I2 q2) fun vu s3 ⟨u,H3,I3,pu,q3⟩=>?_)
 rw [evalPart_none]
 refine wpAny_pure ?_
 have I4:Inv X pins σ H3 { s3 with heap:=s3.heap.push { cls:=.type "slice",data:=.fields #[vl,vu,.none] } }:=I3.kept (t':=s3.toks) fun b ob q=>Heap.get?_push_of_some _ q
 obtain ⟨T,id,hT,ht,hg⟩:=hr pins { s3 with heap:=s3.heap.push { cls:=.type "slice",data:=.fields #[vl,vu,.none] } } σ H3 x v vl vu l u s3.heap.objs.size Q I4 r1 (Heap.IsSliceOf.new ..) pl pu q3
 show wpAny (model X.prog X.w) X.A (subscriptTail e (.Slice lo hi none p2) v (.ref s3.heap.objs.size)) (EP X pins σ Q) X.xe { s3 with heap:=s3.heap.push { cls:=.type "slice",data:=.fields #[vl,vu,.none] } }
 exact tail_any (ops:=[.ref s3.heap.objs.size,v]) ht hT hg (by with_unfolding_all rfl)
def cutV (xs:List V) (lo hi:Option Int):List V:=(xs.drop (HT.sIx xs.length 0 lo)).take (HT.sIx xs.length xs.length hi - HT.sIx xs.length 0 lo)
theorem zaf6 (xs:List V) (lo hi:Option Int):(cutV xs lo hi).length≤xs.length:=by
 unfold cutV
 rw [List.length_take,List.length_drop]
 omega
def rSlT (K:PySem.W.Frag):V→Option Int→Option Int→Hp→VK→Prop:=fun x lo hi H Q=>∃ a xs,x=.ref a∧SqT K H a xs ∧
 ¬ (HT.sIx xs.length 0 lo=0∧HT.sIx xs.length xs.length hi=xs.length)∧∀ p,H p=none→Q (.ref p) (upd H p (.tup (cutV xs lo hi)))
theorem zaqy:SlR X (rSlT X.K):=by
 intro pins s σ H x v vl vu lo hi sl Q I rx hs pl pu h
 obtain ⟨a,xs,rfl,hx,hw,q⟩:=h
 cases rx
 obtain ⟨its,r,ht,hz⟩:=I.tuple hx
 have hlen:its.toArray.size=xs.length:=by rw [List.size_toArray]; exact r.length.symm
 refine ⟨"tuple",_,PyProof.Rows.slot_tuple_getitem.lookup,ht.typeIs,?_⟩
 refine HT.getItem_tuple_cut ht hs pl pu (by rw [hlen]; exact hw) ?_ (by rw [hlen]; exact hz)
 rw [hlen]
 refine ⟨.ref s.heap.objs.size,_,I.laid (t':=s.toks) (o:=.tup (cutV xs lo hi)) (fun b ob q=>Heap.get?_push_of_some _ q) (Nat.le_refl _) ?_,rfl,q _ (I.hok.fresh (Nat.le_refl _))⟩
 exact ⟨Nat.le_trans (zaf6 xs lo hi) hz,_,(r.drop (HT.sIx xs.length 0 lo)).take (HT.sIx xs.length xs.length hi - HT.sIx xs.length 0 lo),IsTup.new _ _⟩
end
def ixN (n:Nat) (i:Int):Option Nat:=if 0≤i then (if i < n then some i.toNat else none) else if -(n:Int)≤i then some (i + n).toNat else none
def atI {α:Type} (xs:List α) (i:Int):Option α:=(ixN xs.length i).bind fun j=>xs[j]?
theorem zaml {n:Nat}{i:Int}{j:Nat} (h:ixN n i=some j):seqIndex? i n=some j∧j < n∧-(n:Int)≤i∧i < n:=by
 unfold ixN at h
 by_cases h0:0≤i
 ·rw [if_pos h0] at h
  by_cases h1:i < n
  ·rw [if_pos h1] at h
   have e:i.toNat=j:=Option.some.inj h
   exact ⟨by rw [seqIndex_of h0 h1,e],by omega,by omega,h1⟩
  ·rw [if_neg h1] at h; cases h
 ·rw [if_neg h0] at h
  by_cases h1:-(n:Int)≤i
  ·rw [if_pos h1] at h
   have e:(i + n).toNat=j:=Option.some.inj h
   exact ⟨by rw [seqIndex_neg (by omega) h1,e],by omega,h1,by omega⟩
  ·rw [if_neg h1] at h; cases h
theorem zajs {α:Type}{xs:List α}{i:Int}{v:α} (h:atI xs i=some v):∃ j,seqIndex? i xs.length=some j∧xs[j]?=some v∧j < xs.length∧-(xs.length:Int)≤i∧i < xs.length:=by
 unfold atI at h
 cases e:ixN xs.length i with
 | none=>rw [e] at h; cases h
 | some j =>
  rw [e] at h
  obtain ⟨h1,h2,h3,h4⟩:=zaml e
  exact ⟨j,h1,h,h2,h3,h4⟩
theorem zack {α:Type}{xs:List α}{j:Nat}{v:α} (h:xs[j]?=some v):atI xs (j:Int)=some v:=by
 have hj:j < xs.length:=(List.getElem?_eq_some_iff.mp h).1
 have e:ixN xs.length (j:Int)=some j:=by
  unfold ixN
  rw [if_pos (by omega),if_pos (by omega)]; simp
 unfold atI; rw [e]; exact h
def PlainIx (b:Expr):Prop:=∀ o i,subscripted b false o i=operate [o,i] (getItem o i)
def IxR (X:Cx) (r:R2):Prop :=
 ∀ (value slice:Expr) (pins:List (Addr × Obj)) (s:Shared) (σ:St) (H:Hp) (x y:V) (v u:Value) (Q:VK),Inv X pins σ H s→RelV x v→RelV y u→r x y H Q →
  subscripted slice false v u=operate [v,u] (getItem v u)→wpAny (model X.prog X.w) X.A (subscriptTail value slice v u) (EP X pins σ Q) X.xe s
def MtR (X:Cx) (id:String) (r:V→List V→Hp→VK→Prop):Prop :=
 ∀ (pins:List (Addr × Obj)) (s:Shared) (σ:St) (H:Hp) (x:V) (xs:List V) (v:Value) (us:List Value) (Q:VK),Inv X pins σ H s→RelV x v→Vals xs us→r x xs H Q →
  wpAny (model X.prog X.w) X.A (call (.builtin id) (v :: us)) (EP X pins σ Q) X.xe s
section
variable {X:Cx}{a b:Expr}{ta tb:TE}{pos:Pos}
theorem zaw1 {r:R2} (hr:IxR X r) (ha:PE X a ta) (hb:PE X b tb) (hs:PlainIx b):PE X (.Subscript a b pos) (tOp r ta tb):=by
 intro pins s σ H Q I h
 exact Subscript_ (binT ha hb I h fun v u s2 x y H2 I2 rx ry q=>hr a b pins s2 σ H2 x y v u Q I2 rx ry q (hs _ _))
def rIxL (K:PySem.W.Frag):R2:=fun x y H Q=>∃ p xs i v,x=.ref p∧y=.int i∧SqL K H p xs∧atI xs i=some v∧Q v H
def rIxT (K:PySem.W.Frag):R2:=fun x y H Q=>∃ p xs i v,x=.ref p∧y=.int i∧SqT K H p xs∧atI xs i=some v∧Q v H
def rIxS:R2:=fun x y H Q=>∃ z i c,x=.str z∧y=.int i∧z.length≤sizeLine∧atI z.cps.toList i=some c∧Q (.str ⟨#[c]⟩) H
theorem zasa:IxR X (rIxL X.K):=by
 intro value slice pins s σ H x y v u Q I rx ry h hs
 obtain ⟨p,xs,i,z,rfl,rfl,hq,he,q⟩:=h
 cases rx
 obtain ⟨t,rfl⟩:=ry
 obtain ⟨its,r,pl,hz⟩:=I.list hq
 obtain ⟨j,h1,h2,h3,h4,h5⟩:=zajs he
 obtain ⟨w,ew,rw'⟩:=r.get h2
 have hl:=r.length
 have hn:=line63
 have fin:EP X pins σ Q w s:=⟨z,H,I,rw',q⟩
 by_cases h0:0≤i
 ·have hj:i.toNat=j:=by
   rw [seqIndex_of h0 h5] at h1
   exact Option.some.inj h1
  exact item_listR pl.isList h0 (by omega) (by rw [hj]; simpa using ew) fin hs
 ·have hj:(i + (its.toArray.size:Int)).toNat=j:=by
   rw [seqIndex_neg (by omega) h4] at h1
   rw [List.size_toArray,← hl]
   exact Option.some.inj h1
  exact subscriptTail_builtinR (x:=w) pl.isList.typeIs slot_list_getitem.lookup
   (wpAny_getItem_list_neg (Q:=fun r s'=>r=w∧EP X pins σ Q r s') pl.isList (by omega) (by rw [List.size_toArray] <;> omega) (by omega) (by rw [hj]; simpa using ew) ⟨rfl,fin⟩) hs
theorem zau3:IxR X (rIxT X.K):=by
 intro value slice pins s σ H x y v u Q I rx ry h hs
 obtain ⟨p,xs,i,z,rfl,rfl,hq,he,q⟩:=h
 cases rx
 obtain ⟨t,rfl⟩:=ry
 obtain ⟨its,r,pl,hz⟩:=I.tuple hq
 obtain ⟨j,h1,h2,h3,h4,h5⟩:=zajs he
 obtain ⟨w,ew,rw'⟩:=r.get h2
 have hl:=r.length
 have hn:=line63
 have fin:EP X pins σ Q w s:=⟨z,H,I,rw',q⟩
 exact subscriptTail_builtinR (x:=w) pl.typeIs slot_tuple_getitem.lookup
  (getItem_tuple (j:=j) (Q:=fun r s'=>r=w∧EP X pins σ Q r s') pl (by omega) (by omega) (by rw [List.size_toArray,← hl]; exact h1) (by simpa using ew) ⟨rfl,fin⟩) hs
theorem zau4:IxR X rIxS:=by
 intro value slice pins s σ H x y v u Q I rx ry h hs
 obtain ⟨z,i,c,rfl,rfl,hz,he,q⟩:=h
 obtain ⟨t,rfl⟩:=rx
 obtain ⟨t',rfl⟩:=ry
 obtain ⟨j,h1,h2,h3,h4,h5⟩:=zajs he
 have hl:z.cps.toList.length=z.length:=by simp [Str.length]
 rw [hl] at h1 h4 h5
 have hn:=line63
 exact tail_any (typeIs_str s z t) slot_str_getitem.lookup (getItem_str (c:=c) (by
  have e1:decide (i < -(2 ^ 63:Int))=false:=decide_eq_false (by omega)
  have e2:decide (i ≥ 2 ^ 63)=false:=decide_eq_false (by omega)
  rw [e1,e2,Bool.or_false]) (by rw [h1]; simpa using h2) ⟨.str ⟨#[c]⟩,H,I.tok _,⟨_,rfl⟩,q⟩) hs
theorem zalr (its:List Value) (n j:Nat) (u:Value):Obj.mapSeq (·.setIfInBounds j u) { cls:=.type "list",data:=.seq its.toArray n }={ cls:=.type "list",data:=.seq (its.set j u).toArray n }:=by
 simp [Obj.mapSeq]
theorem Inv.lst {pins:List (Addr × Obj)}{σ:St}{H:Hp}{s:Shared}{p:Addr}{xs:List V} (I:Inv X pins σ H s) (h:H p=some (.lst xs)) :
  ∃ (its:List Value) (n:Nat),Vals xs its∧s.heap.get? p=some { cls:=.type "list",data:=.seq its.toArray n }∧xs.length≤sizeLine:=by
 obtain ⟨z,its,n,r,e⟩:=I.hok p _ h
 exact ⟨its,n,r,e,z⟩
theorem Inv.lstUpd {pins:List (Addr × Obj)}{σ:St}{H:Hp}{s:Shared}{p:Addr}{xs ys:List V}{its its':List Value}{n n':Nat}{f:Obj→Obj} (I:Inv X pins σ H s) (h:H p=some (.lst xs))
  (ho:s.heap.get? p=some { cls:=.type "list",data:=.seq its.toArray n }) (hf:f { cls:=.type "list",data:=.seq its.toArray n }={ cls:=.type "list",data:=.seq its'.toArray n' }) (r:Vals ys its') (hz:ys.length≤sizeLine) (t:Nat) :
  Inv X pins σ (upd H p (.lst ys)) { s with heap:=s.heap.update p f,toks:=t }:=by
 have e:(s.heap.update p f).get? p=some { cls:=.type "list",data:=.seq its'.toArray n' }:=by
  rw [Heap.get?_update_self f ho (by rw [hf] <;> rfl),hf]
 refine I.write (x:=p) (e:=p) (by rw [h]; trivial) (.inl rfl) (fun b u hb q=>(Heap.get?_update_other _ _ (Ne.symm hb)).trans q) ⟨_,e⟩ ?_
 exact ⟨hz,its',n',r,e⟩
def rSetL:V→V→V→Hp→(Hp→Prop)→Prop:=fun o i v H Q=>∃ p xs k j,o=.ref p∧i=.int k∧H p=some (.lst xs)∧ixN xs.length k=some j∧Q (upd H p (.lst (xs.set j v)))
theorem zapk:PSet X rSetL:=by
 intro pins s σ H o i v ov iv u Q I ro ri rv h
 obtain ⟨p,xs,k,j,rfl,rfl,hp,hj,q⟩:=h
 cases ro
 obtain ⟨t,rfl⟩:=ri
 obtain ⟨its,n,r,ho,hz⟩:=I.lst hp
 obtain ⟨h1,h2,h3,h4⟩:=zaml hj
 have hl:=r.length
 have hn:=line63
 have I':Inv X pins σ (upd H p (.lst (xs.set j v))) { s with heap:=s.heap.update p (Obj.mapSeq (·.setIfInBounds j u)) } :=
  I.lstUpd hp ho (zalr its n j u) (r.set rv j) (by rw [List.length_set]; exact hz) s.toks
 by_cases h0:0≤k
 ·have hk:k.toNat=j:=by
   rw [seqIndex_of h0 h4] at h1
   exact Option.some.inj h1
  exact PySem.W.ki_setAt ho h0 (by omega) (by rw [List.size_toArray,← hl]; exact h4) (by rw [hk]; exact ⟨_,I',q⟩)
 ·have hk:(k + (its.toArray.size:Int)).toNat=j:=by
   rw [seqIndex_neg (by omega) h3] at h1
   rw [List.size_toArray,← hl]
   exact Option.some.inj h1
  exact PySem.W.ki_setBack ho (by omega) (by rw [List.size_toArray,← hl]; exact h3) (by omega) (by rw [hk]; exact ⟨_,I',q⟩)
theorem zaiu (lo hi:Option Int) (n:Nat):(sliceBounds lo hi none n).1=((HT.sIx n 0 lo:Nat):Int)∧(sliceBounds lo hi none n).2.1=((HT.sIx n n hi:Nat):Int)∧(sliceBounds lo hi none n).2.2=1:=by
 refine ⟨?_,?_,rfl⟩
 ·cases lo with
  | none=>simp [sliceBounds,HT.sIx]
  | some i =>
   simp only [sliceBounds,HT.sIx,Option.getD_none,show (1:Int) > 0 by decide,if_true]
   by_cases h:i < 0
   ·simp only [h,if_true] <;> omega
   ·simp only [h,if_false] <;> omega
 ·cases hi with
  | none=>simp [sliceBounds,HT.sIx]
  | some i =>
   simp only [sliceBounds,HT.sIx,Option.getD_none,show (1:Int) > 0 by decide,if_true]
   by_cases h:i < 0
   ·simp only [h,if_true] <;> omega
   ·simp only [h,if_false] <;> omega
theorem zahl (its:List Value) (lo hi:Option Int):slicePick its.toArray lo hi none=((its.drop (HT.sIx its.length 0 lo)).take (HT.sIx its.length its.length hi - HT.sIx its.length 0 lo)).toArray:=by
 obtain ⟨h1,h2,h3⟩:=zaiu lo hi its.toArray.size
 unfold slicePick
 rw [h1,h2,h3]
 simp only [sliceRange_one,pick_run,List.size_toArray] <;> rfl
def rSlL (K:PySem.W.Frag):V→Option Int→Option Int→Hp→VK→Prop:=fun x lo hi H Q=>∃ a xs,x=.ref a∧SqL K H a xs∧∀ p,H p=none→Q (.ref p) (upd H p (.lst (cutV xs lo hi)))
theorem zac0:SlR X (rSlL X.K):=by
 intro pins s σ H x v vl vu lo hi sl Q I rx hs pl pu h
 obtain ⟨a,xs,rfl,hx,q⟩:=h
 cases rx
 obtain ⟨its,r,ht,hz⟩:=I.list hx
 have hlen:=r.length
 refine ⟨"list",_,slot_list_getitem.lookup,ht.isList.typeIs,?_⟩
 refine wpAny_getItem_list_slice ht.isList hs pl pu .none (by simp) ?_ (by rw [List.size_toArray] <;> omega)
 rw [zahl,← hlen]
 refine ⟨.ref s.heap.objs.size,_,I.laid (t':=s.toks) (o:=.lst (cutV xs lo hi)) (fun b ob q=>Heap.get?_push_of_some _ q) (Nat.le_refl _) ?_,rfl,q _ (I.hok.fresh (Nat.le_refl _))⟩
 exact ⟨Nat.le_trans (zaf6 xs lo hi) hz,_,0,(r.drop (HT.sIx xs.length 0 lo)).take (HT.sIx xs.length xs.length hi - HT.sIx xs.length 0 lo),Heap.get?_push_size _ rfl⟩
def flatV:V→Bool
 | .non=>true
 | .bl _=>true
 | .int _=>true
 | .str _=>true
 | _=>false
def eqV:V→V→Bool
 | .non,.non=>true
 | .bl a,.bl b=>a == b
 | .bl a,.int b=>(if a then 1 else 0) == b
 | .int a,.bl b=>a == (if b then 1 else 0)
 | .int a,.int b=>a == b
 | .str a,.str b=>a == b
 | _,_=>false
theorem zau5 {A:Around}{s:Shared}{y x:V}{u v:Value} (ry:RelV y u) (rx:RelV x v) (fy:flatV y=true) (fx:flatV x=true):SeqAt.EqAt A s u v (eqV y x):=by
 cases y with
 | non =>
  cases ry
  cases x with
  | non=>cases rx; exact SeqAt.EqAt.same _
  | bl b=>cases rx; exact SeqAt.EqAt.none_bool b
  | int b=>obtain ⟨t,rfl⟩:=rx; exact SeqAt.EqAt.none_int b t
  | str b=>obtain ⟨t,rfl⟩:=rx; exact SeqAt.EqAt.none_str b t
  | _=>exact absurd (show false=true from fx) Bool.false_ne_true
 | bl a =>
  cases ry
  cases x with
  | non=>cases rx; exact SeqAt.EqAt.bool_none a
  | bl b=>cases rx; exact SeqAt.EqAt.bool_bool a b
  | int b=>obtain ⟨t,rfl⟩:=rx; exact SeqAt.EqAt.bool_int a b t
  | str b=>obtain ⟨t,rfl⟩:=rx; exact SeqAt.EqAt.bool_str a b t
  | _=>exact absurd (show false=true from fx) Bool.false_ne_true
 | int a =>
  obtain ⟨t',rfl⟩:=ry
  cases x with
  | non=>cases rx; exact SeqAt.EqAt.int_none a t'
  | bl b=>cases rx; exact SeqAt.EqAt.int_bool a t' b
  | int b=>obtain ⟨t,rfl⟩:=rx; exact SeqAt.EqAt.int_int a t' b t
  | str b=>obtain ⟨t,rfl⟩:=rx; exact SeqAt.EqAt.int_str a t' b t
  | _=>exact absurd (show false=true from fx) Bool.false_ne_true
 | str a =>
  obtain ⟨t',rfl⟩:=ry
  cases x with
  | non=>cases rx; exact SeqAt.EqAt.str_none a t'
  | bl b=>cases rx; exact SeqAt.EqAt.str_bool a t' b
  | int b=>obtain ⟨t,rfl⟩:=rx; exact SeqAt.EqAt.str_int a t' b t
  | str b=>obtain ⟨t,rfl⟩:=rx; exact SeqAt.EqAt.str_str a t' b t
  | _=>exact absurd (show false=true from fx) Bool.false_ne_true
 | _=>exact absurd (show false=true from fy) Bool.false_ne_true
def eqU (x:V) (u:Value):Bool:=match u with
 | .none=>eqV .non x
 | .bool b=>eqV (.bl b) x
 | .int i _=>eqV (.int i) x
 | .str z _=>eqV (.str z) x
 | _=>false
theorem zaqz {x y:V}{u:Value} (r:RelV y u) (f:flatV y=true):eqU x u=eqV y x:=by
 cases y with
 | non=>cases r; rfl
 | bl b=>cases r; rfl
 | int i=>obtain ⟨t,rfl⟩:=r; rfl
 | str z=>obtain ⟨t,rfl⟩:=r; rfl
 | _=>exact absurd (show false=true from f) Bool.false_ne_true
theorem zaf7 {x:V}:∀ {xs:List V}{us:List Value},Vals xs us→xs.all flatV=true→us.any (eqU x)=xs.any fun y=>eqV y x
 | _,_,.nil,_=>rfl
 | y :: xs,u :: us,.cons r t,f=>by
  rw [List.all_cons,Bool.and_eq_true] at f
  rw [List.any_cons,List.any_cons,zaqz r f.1,zaf7 t f.2]
theorem zaem {A:Around}{s:Shared}{x:V}{v:Value} (rx:RelV x v) (fx:flatV x=true):∀ {xs:List V}{us:List Value},Vals xs us→xs.all flatV=true→∀ u∈us,SeqAt.EqAt A s u v (eqU x u)
 | _,_,.nil,_=>fun u hu=>by cases hu
 | y :: xs,u :: us,.cons r t,f=>fun u' hu=>by
  rw [List.all_cons,Bool.and_eq_true] at f
  rcases List.mem_cons.mp hu with rfl | hu
  ·rw [zaqz r f.1]; exact zau5 r rx f.1 fx
  ·exact zaem rx fx t f.2 u' hu
def inV (x:V) (xs:List V):Bool:=xs.any fun y=>eqV y x
def rIn (K:PySem.W.Frag) (neg:Bool):R2:=fun x y H Q=>∃ p xs,y=.ref p∧(SqL K H p xs∨SqT K H p xs)∧flatV x=true∧xs.all flatV=true∧Q (.bl (if neg then !inV x xs else inV x xs)) H
theorem zaen:OpR X (compareOp .In) (rIn X.K false):=by
 intro pins s σ H x y v u Q I rx ry h
 obtain ⟨p,xs,rfl,hq,fx,fs,q⟩:=h
 cases ry
 rcases hq with hq | hq
 ·obtain ⟨its,r,pl,hz⟩:=I.list hq
  refine SeqAt.in_listAt (eqU x) pl.isList (fun w hw=>zaem rx fx r fs w (by simpa using hw)) ⟨.bl _,H,I,rfl,?_⟩
  rw [show its.toArray.any (eqU x)=its.any (eqU x) by simp,zaf7 r fs]
  exact q
 ·obtain ⟨its,r,pl,hz⟩:=I.tuple hq
  refine SeqAt.in_tupleAt (eqU x) pl (fun w hw=>zaem rx fx r fs w (by simpa using hw)) ⟨.bl _,H,I,rfl,?_⟩
  rw [show its.toArray.any (eqU x)=its.any (eqU x) by simp,zaf7 r fs]
  exact q
theorem zaiv:OpR X (compareOp .NotIn) (rIn X.K true):=by
 intro pins s σ H x y v u Q I rx ry h
 obtain ⟨p,xs,rfl,hq,fx,fs,q⟩:=h
 cases ry
 rcases hq with hq | hq
 ·obtain ⟨its,r,pl,hz⟩:=I.list hq
  refine SeqAt.notIn_listAt (eqU x) pl.isList (fun w hw=>zaem rx fx r fs w (by simpa using hw)) ⟨.bl _,H,I,rfl,?_⟩
  rw [show its.toArray.any (eqU x)=its.any (eqU x) by simp,zaf7 r fs]
  exact q
 ·obtain ⟨its,r,pl,hz⟩:=I.tuple hq
  refine SeqAt.notIn_tupleAt (eqU x) pl (fun w hw=>zaem rx fx r fs w (by simpa using hw)) ⟨.bl _,H,I,rfl,?_⟩
  rw [show its.toArray.any (eqU x)=its.any (eqU x) by simp,zaf7 r fs]
  exact q
theorem zaa2:CallR X (.builtin "len") (fun xs H Q=>∃ p ys,xs=[.ref p]∧(SqL X.K H p ys∨SqT X.K H p ys)∧Q (.int ys.length) H):=by
 intro pins s σ H xs us Q I r h
 obtain ⟨p,ys,rfl,hq,q⟩:=h
 obtain ⟨u,rfl,rx⟩:=vals1 r
 cases rx
 have hn:=line63
 rcases hq with hq | hq
 ·obtain ⟨its,r',pl,hz⟩:=I.list hq
  have hlen:=r'.length
  exact Calls.call_len_list pl.isList (by simp only [List.size_toArray] <;> omega) ⟨.int ys.length,H,I.tok _,⟨s.toks + 1,by rw [List.size_toArray,hlen]⟩,q⟩
 ·obtain ⟨its,r',pl,hz⟩:=I.tuple hq
  have hlen:=r'.length
  exact len_tuple pl (by simp only [List.size_toArray] <;> omega) ⟨.int ys.length,H,I.tok _,⟨s.toks + 1,by rw [List.size_toArray,hlen]⟩,q⟩
theorem zabt:CallR X (.builtin "len") (fun xs H Q=>∃ z,xs=[.str z]∧z.length≤sizeLine∧Q (.int z.length) H):=by
 intro pins s σ H xs us Q I r h
 obtain ⟨z,rfl,hz,q⟩:=h
 obtain ⟨u,rfl,t,rfl⟩:=vals1 r
 have hn:=line63
 exact len_str (by omega) ⟨.int z.length,H,I.tok _,⟨_,rfl⟩,q⟩
theorem zabv:CallR X (.type "tuple") (fun xs H Q=>∃ p ys,xs=[.ref p]∧((SqL X.K H p ys∧∀ l,H l=none→Q (.ref l) (upd H l (.tup ys)))∨(SqT X.K H p ys∧Q (.ref p) H))):=by
 intro pins s σ H xs us Q I r h
 obtain ⟨p,ys,rfl,h⟩:=h
 obtain ⟨u,rfl,rx⟩:=vals1 r
 cases rx
 rcases h with ⟨hq,q⟩ | ⟨hq,q⟩
 ·obtain ⟨its,r',pl,hz⟩:=I.list hq
  have hlen:=r'.length
  refine call_tuple_list pl.isList (fun h' kp=>?_) (by simp only [List.size_toArray] <;> omega)
  have I1:Inv X pins σ H { s with heap:=h' }:=I.kept (t':=s.toks) kp
  have I2:Inv X pins σ (upd H h'.objs.size (.tup ys)) { s with heap:=h'.push { cls:=.type "tuple",data:=.seq its.toArray } } :=
   I1.laid (t':=s.toks) (fun b o e=>Heap.get?_push_of_some _ e) (Nat.le_refl _) (show ObjOk X.prog X.w _ _ _ (.tup ys) from ⟨hz,its,r',IsTup.new _ _⟩)
  exact ⟨.ref h'.objs.size,_,I2,rfl,q _ (I1.hok.fresh (Nat.le_refl _))⟩
 ·obtain ⟨its,r',pl,hz⟩:=I.tuple hq
  exact call_tuple_same pl ⟨.ref p,H,I,rfl,q⟩
def tyV (K:PySem.W.Frag) (T:String) (x:V) (H:Hp):Prop:=match x with
 | .str _=>T = "str"
 | .int _=>T = "int"
 | .ref p=>(T = "list" ∧ ∃ xs,SqL K H p xs)∨(T = "tuple" ∧ ∃ o,K.lookup p=some o∧o.cls=.type "tuple" ∧ o.dict=none) ∨
   (T = "dict" ∧ ((∃ kvs,H p=some (.dK kvs))∨∃ kvs,H p=some (.dT kvs)))∨(T = "set" ∧ ∃ S n,H p=some (.set S n))
 | _=>False
theorem zau6 {pins:List (Addr × Obj)}{σ:St}{H:Hp}{s:Shared}{T:String}{x:V}{v:Value} (I:Inv X pins σ H s) (r:RelV x v) (ty:tyV X.K T x H) :
  s.TypeIs v T∧∀ a,v=.ref a→∃ ob,s.heap.get? a=some ob∧ob.dict=none:=by
 cases x with
 | str z =>
  obtain ⟨t,rfl⟩:=r
  cases (show T = "str" from ty)
  exact ⟨typeIs_str s z t,fun _ e=>nomatch e⟩
 | int i =>
  obtain ⟨t,rfl⟩:=r
  cases (show T = "int" from ty)
  exact ⟨typeIs_int s i t,fun _ e=>nomatch e⟩
 | ref p =>
  cases r
  rcases ty with ⟨rfl,xs,hq⟩ | ⟨rfl,o,hk,hc,hd⟩ | ⟨rfl,hk⟩ | ⟨rfl,S,n,hk⟩
  ·obtain ⟨its,_,pl,_⟩:=I.list hq
   refine ⟨pl.isList.typeIs,fun a e=>?_⟩
   cases e
   obtain ⟨o,n,e,c,hd,_⟩:=pl
   exact ⟨o,e,hd⟩
  ·refine ⟨⟨o,I.kIn p o hk,hc⟩,fun a e=>?_⟩
   cases e
   exact ⟨o,I.kIn _ o hk,hd⟩
  ·have z:∃ o,s.heap.get? p=some o∧o.ExactDict:=by
    rcases hk with ⟨kvs,hk⟩ | ⟨kvs,hk⟩
    ·obtain ⟨_,_,_,_,o,_,_,e,ex,_⟩:=I.hok p _ hk
     exact ⟨o,e,ex⟩
    ·obtain ⟨_,_,_,_,o,_,_,e,ex,_⟩:=I.hok p _ hk
     exact ⟨o,e,ex⟩
   obtain ⟨o,e,ex⟩:=z
   refine ⟨⟨o,e,ex.1⟩,fun a e2=>?_⟩
   cases e2
   exact ⟨o,e,ex.2.1⟩
  ·obtain ⟨o,_,_,_,e,ex,_⟩:=I.hok p _ hk
   refine ⟨⟨o,e,ex.1⟩,fun a e2=>?_⟩
   cases e2
   exact ⟨o,e,ex.2.1⟩
 | _=>exact False.elim ty
def tBM (K:PySem.W.Frag) (T:String) (r:V→List V→Hp→VK→Prop) (to:TE) (t:TA):TE:=fun σ H Q=>to σ H fun x H1=>tyV K T x H1∧t σ H1 fun xs H2=>r x xs H2 Q
variable {o e:Expr}{es:List Expr}{to:TE}{t:TA}{name:Str}{apos cpos:Pos}{T id:String}{r:V→List V→Hp→VK→Prop}
theorem zaw2 (pa:PlainAttrs T) (slot:Slot T name id) (hty:typeOf (.builtin id)=pure (.type "method_descriptor")) (hm:MtR X id r) (ho:PE X o to) (ha:PA X (e :: es) t)
  (hbase:attributeBase o name X.env (eval o X.env)=eval o X.env:=by rfl)
  (hfew:((backTo cpos (starEach (e :: es) X.env)).all (fun x=>!x.1) && (backToKw cpos (keywordEach [] X.env)).all (fun x=>x.1.isSome)
   && decide ((e :: es).length + ([]:List Keyword).length + (if ([]:List Keyword).isEmpty then 0 else 1) < 30))=true:=by rfl)
  (hline:(apos.endLine == cpos.line)=true:=by rfl) (hs:starEach (e :: es) X.env=(false,eval e X.env) :: starEach es X.env:=by rfl) (hplain:(backTo cpos (starEach es X.env)).any (·.1)=false:=by rfl) :
  PE X (.Call (.Attribute o name apos) (e :: es) [] cpos) (tBM X.K T r to t):=by
 intro pins s σ H Q I h
 refine wpAny_Call_method_late hbase hfew hline rfl (thn (ho pins s σ H _ I h) fun v s1 ⟨x,H1,I1,r1,ty,q1⟩=>?_)
 obtain ⟨h1,h2⟩:=zau6 I1 r1 ty
 refine ⟨T,id,pa,slot,hty,h1,h2,?_⟩
 have hA:=ha cpos pins s1 σ H1 _ I1 q1
 rw [hs] at hA ⊢
 refine Calls.callWith_builtin (by show (false || (backTo cpos (starEach es X.env)).any (·.1))=false; rw [hplain] <;> rfl) (Calls.evalArgs_plain ?_)
 exact thn hA fun us s2 ⟨vs,H2,I2,r2,q2⟩=>hm pins s2 σ H2 x vs v us Q I2 r1 r2 q2
end
def MtM (X:Cx) (id:String) (r:V→List V→Hp→VK→Prop):Prop :=
 ∀ (pins:List (Addr × Obj)) (s:Shared) (σ:St) (H:Hp) (x:V) (xs:List V) (v:Value) (us:List Value) (Q:VK),Inv X pins σ H s→RelV x v→Vals xs us→r x xs H Q →
  wpAny (model X.prog X.w) X.A (call (.builtin id) (v :: us)) (EP X pins σ Q) X.xe s
theorem Vals.one:∀ {x:V}{us:List Value},Vals [x] us→∃ u,us=[u]∧RelV x u
 | _,_,.cons r .nil=>⟨_,rfl,r⟩
theorem Vals.rep {xs:List V}{us:List Value} (h:Vals xs us):∀ k:Nat,Vals (List.replicate k xs).flatten (List.replicate k us).flatten
 | 0=>.nil
 | k + 1=>by
  rw [List.replicate_succ,List.replicate_succ,List.flatten_cons,List.flatten_cons]
  exact Vals.append h (Vals.rep h k)
theorem zaiw (its:List Value):∀ (k:Nat) (acc:List Value),
  List.foldl (fun x1 x2=>x1++x2) acc.toArray (List.replicate k its.toArray)=(acc++(List.replicate k its).flatten).toArray
 | 0,acc=>by simp
 | k + 1,acc=>by
  have e:acc.toArray++its.toArray=(acc++its).toArray:=by simp
  have e2:(acc++its)++(List.replicate k its).flatten=acc++(List.replicate (k + 1) its).flatten:=by
   rw [List.replicate_succ,List.flatten_cons,List.append_assoc]
  rw [← e2,← zaiw its k (acc++its),← e,List.replicate_succ,List.foldl_cons]
section
variable {X:Cx}{pins:List (Addr × Obj)}{σ:St}{H:Hp}{s:Shared}{l b:Addr}{xs ys zs:List V}
theorem Inv.lset {its its':List Value}{n:Nat}{f:Array Value→Array Value}{t':Nat} (I:Inv X pins σ H s) (hH:H l=some (.lst xs))
  (e:s.heap.get? l=some { cls:=.type "list",data:=.seq its.toArray n }) (hf:f its.toArray=its'.toArray) (hv:Vals ys its') (hz:ys.length≤sizeLine) :
  Inv X pins σ (upd H l (.lst ys)) { s with heap:=s.heap.update l (Obj.mapSeq f),toks:=t' }:=by
 have q:=PySem.IsL.update e f
 rw [hf] at q
 refine I.write (x:=l) (e:=l) (by rw [hH]; exact trivial) (.inl rfl) (fun b' u hb hu=>(Heap.get?_update_other s.heap (Obj.mapSeq f) (Ne.symm hb)).trans hu) ⟨_,q⟩ ?_
 exact ⟨hz,its',_,hv,q⟩
theorem Inv.lnew {its:List Value}{t':Nat} (I:Inv X pins σ H s) (hv:Vals ys its) (hz:ys.length≤sizeLine) :
  Inv X pins σ (upd H s.heap.objs.size (.lst ys)) { s with heap:=s.heap.push { cls:=.type "list",data:=.seq its.toArray },toks:=t' } :=
 I.laid (fun _ _ q=>Heap.get?_push_of_some _ q) (Nat.le_refl _) ⟨hz,its,0,hv,Heap.get?_push_size _ rfl⟩
theorem Inv.fresh (I:Inv X pins σ H s):H s.heap.objs.size=none:=I.hok.fresh (Nat.le_refl _)
theorem Inv.lstM (I:Inv X pins σ H s) (hH:H l=some (.lst xs)):xs.length≤sizeLine∧∃ (its:List Value) (n:Nat),Vals xs its∧xs.length=its.length∧s.heap.get? l=some { cls:=.type "list",data:=.seq its.toArray n }:=by
 obtain ⟨z,its,n,r,e⟩:=I.hok l _ hH
 exact ⟨z,its,n,r,r.length,e⟩
theorem notLongL {n:Nat} (h:n≤sizeLine):Builtin.List.listTooLong n=false:=by
 unfold Builtin.List.listTooLong
 exact decide_eq_false (by omega)
end
section
variable {X:Cx}
def rAppend:V→List V→Hp→VK→Prop:=fun x vs H Q=>∃ l xs y,x=.ref l∧vs=[y]∧H l=some (.lst xs)∧xs.length < sizeLine∧Q .non (upd H l (.lst (xs++[y])))
theorem zaby:MtM X "list.append" rAppend:=by
 intro pins s σ H x vs v us Q I rx rv h
 obtain ⟨l,xs,y,rfl,rfl,hH,hz,q⟩:=h
 cases rx
 obtain ⟨u,rfl,ru⟩:=rv.one
 obtain ⟨z,its,n,r,hl,e⟩:=I.lstM hH
 refine call_meets F.slot_list_append ⟨_,e,rfl⟩ F.entry_list_append (F.args_list_append_2 _ _) (PySem.list_append l its.toArray n u (by rw [List.size_toArray]; omega)) ⟨e,?_⟩
 refine ⟨.non,_,I.lset (its':=its++[u]) hH e (by simp) (r.append (.cons ru .nil)) ?_,rfl,q⟩
 rw [List.length_append,List.length_singleton]
 omega
def rExtend:V→List V→Hp→VK→Prop:=fun x vs H Q=>∃ l b xs zs,x=.ref l∧vs=[.ref b]∧H l=some (.lst xs)∧H b=some (.lst zs)∧xs.length + zs.length≤sizeLine∧Q .non (upd H l (.lst (xs++zs)))
theorem zaeo:MtM X "list.extend" rExtend:=by
 intro pins s σ H x vs v us Q I rx rv h
 obtain ⟨l,b,xs,zs,rfl,rfl,hH,hB,hz,q⟩:=h
 cases rx
 obtain ⟨u,rfl,ru⟩:=rv.one
 cases ru
 obtain ⟨z,its,n,r,hl,e⟩:=I.lstM hH
 obtain ⟨z2,its2,n2,r2,hl2,e2⟩:=I.lstM hB
 have hsz:its.toArray.size + its2.toArray.size≤sizeLine:=by rw [List.size_toArray,List.size_toArray]; omega
 have hlong:¬ (!its.toArray.isEmpty && Builtin.List.listTooLong (its.toArray.size + its2.toArray.size))=true:=by
  rw [notLongL hsz,Bool.and_false]
  exact Bool.false_ne_true
 refine call_meets F.slot_list_extend ⟨_,e,rfl⟩ F.entry_list_extend (F.args_list_extend_2 _ _)
  (AutoSeq1.list_extend_list_list_0 l its.toArray n b its2.toArray n2 hlong (by rw [List.size_toArray]; omega) (by omega)) ⟨e,e2,?_⟩
 refine ⟨.non,_,I.lset (its':=its++its2) hH e (by simp) (r.append r2) ?_,rfl,q⟩
 rw [List.length_append]
 omega
def rCat:R2:=fun x y H Q=>∃ l b xs zs,x=.ref l∧y=.ref b∧H l=some (.lst xs)∧H b=some (.lst zs)∧xs.length + zs.length≤sizeLine∧∀ p,H p=none→Q (.ref p) (upd H p (.lst (xs++zs)))
theorem zac3:OpR X (binaryOp .Add) rCat:=by
 intro pins s σ H x y v u Q I rx ry h
 obtain ⟨l,b,xs,zs,rfl,rfl,hH,hB,hz,q⟩:=h
 cases rx
 cases ry
 obtain ⟨z,its,n,r,hl,e⟩:=I.lstM hH
 obtain ⟨z2,its2,n2,r2,hl2,e2⟩:=I.lstM hB
 refine PySem.P.add_list e e2 ?_ (by rw [List.size_toArray,List.size_toArray]; omega)
 have ea:its.toArray++its2.toArray=(its++its2).toArray:=by simp
 rw [ea]
 exact ⟨.ref _,_,I.lnew (t':=s.toks) (r.append r2) (by rw [List.length_append]; omega),rfl,q _ I.fresh⟩
def rRep:R2:=fun x y H Q=>∃ l k xs,x=.ref l∧y=.int k∧H l=some (.lst xs)∧-(2 ^ 63)≤k∧k < 2 ^ 63∧xs.length * k.toNat≤sizeLine ∧
 ∀ p,H p=none→Q (.ref p) (upd H p (.lst (List.replicate k.toNat xs).flatten))
theorem zamm {α:Type} (xs:List α) (k:Nat):(List.replicate k xs).flatten.length=k * xs.length:=by
 induction k with
 | zero=>simp
 | succ k ih=>rw [List.replicate_succ,List.flatten_cons,List.length_append,ih,Nat.succ_mul,Nat.add_comm]
theorem zau7:OpR X (binaryOp .Mult) rRep:=by
 intro pins s σ H x y v u Q I rx ry h
 obtain ⟨l,k,xs,rfl,rfl,hH,h1,h2,hz,q⟩:=h
 cases rx
 obtain ⟨t,rfl⟩:=ry
 obtain ⟨z,its,n,r,hl,e⟩:=I.lstM hH
 have hlen:its.toArray.size * k.toNat≤sizeLine:=by rw [List.size_toArray,← hl]; exact hz
 have hcap:¬ its.toArray.size * k.toNat > (2 ^ 63 - 1) / 8:=by
  have:(sizeLine:Nat)≤(2 ^ 63 - 1) / 8:=by decide
  omega
 have hfit:¬ (!Builtin.List.listFitsIndex k)=true:=by
  rw [fitsIndex_both h1 h2]
  exact Bool.false_ne_true
 have hlong:¬ Builtin.List.listTooLong (its.toArray.size * k.toNat)=true:=by
  rw [notLongL hlen]
  exact Bool.false_ne_true
 have hnew:List.foldl (fun x1 x2=>x1++x2) #[] (List.replicate (if its.toArray.isEmpty=true then 0 else k.toNat) its.toArray)=(List.replicate k.toNat its).flatten.toArray:=by
  have f0:∀ m:Nat,List.foldl (fun x1 x2=>x1++x2) #[] (List.replicate m its.toArray)=(List.replicate m its).flatten.toArray:=fun m=>by
   have:=zaiw its m []
   rw [List.nil_append] at this
   exact this
  rw [f0]
  cases its with
  | nil=>simp
  | cons a r'=>rw [if_neg (by simp)]
 refine wpAny_binaryOp_repeat_ref (T := "list") (U := "int") (by decide) ⟨_,e,rfl⟩ (fun s'=>typeIs_int s' k t) noFill_list_mul F.fills_int_mul F.slot_int_rmul repeat_list F.slot_int_index.lookup
  (call_meets F.slot_int_rmul (typeIs_int s k t) F.entry_int_rmul (F.args_int_rmul_2 _ _) (int___rmul___int_list k t l its.toArray n)
   ⟨e,rfl,⟨_,e,rfl⟩,call_meets F.slot_list_mul ⟨_,e,rfl⟩ F.entry_list_mul (F.args_list_mul_2 _ _) (AutoListH.list___mul___list_int_3 l its.toArray n k t hfit hcap hlong) ⟨e,?_⟩⟩)
 rw [hnew]
 exact ⟨.ref _,_,I.lnew (t':=s.toks) (r.rep k.toNat) (by rw [zamm,Nat.mul_comm]; exact hz),rfl,q _ I.fresh⟩
end
end L2
namespace Att
open PySem PySem.W PySem.Calls PyProof.Rows
theorem zaf8 {P:Params}{h:Heap}:∀ (ns:List Int) (vs:List Value),WellAll P h vs (ns.map WData.int)→IntsAre vs ns:=by
 intro ns
 induction ns with
 | nil =>
  intro vs w
  rw [List.map_nil] at w
  cases w
  exact .nil
 | cons n ns ih =>
  intro vs w
  rw [List.map_cons] at w
  cases w with
  | cons a b =>
   cases a
   exact .cons _ _ (ih _ b)
theorem zamn {l:OpenLaw}{n:Nat} (hn:l.most=some n) {P:Params}{h:Heap}{args:List WData}{vals:List Value}
  (hpre:l.row.toRowW.claim.pre args=true) (hwl:WellAll P h vals args) :
  ∃ a vs ns,vals=[Value.ref a]∧args=[WData.list (ns.map WData.int)]∧h.get? a=some { cls:=.type "list",data:=.seq vs.toArray }∧IntsAre vs ns∧ns.length≤n:=by
 have hsh:WShape.hasAll [] args [.list .int]=true:=(pre_splitW hpre).1
 have hc:l.pre.holds [] { args:=args }=true:=(pre_splitW hpre).2
 obtain ⟨d,r,rfl,h1,h2⟩:=hasAllW_cons hsh
 obtain rfl:=hasAllW_nil h2
 obtain ⟨xs,rfl,h3⟩:=hasW_list h1
 obtain ⟨ns,rfl⟩:=items_int h3
 have hlen:ns.length≤n:=by
  unfold OpenLaw.pre at hc
  have h4:(WTm.not (.lt (.lit (.int (n:Int))) (.len (.arg 0)))).holds [] { args:=[.list (ns.map .int)] }=true:=by
   have h4:=(holds_andW hc).1
   rw [hn] at h4
   exact h4
  have h5:=condW_of h4 (w_not (w_lt w_lit (w_len_list (w_arg rfl))))
  rw [List.length_map] at h5
  refine Nat.le_of_not_lt fun q=>?_
  have q':(n:Int) < ((ns.length:Nat):Int):=by omega
  first
   | (rw [decide_eq_true q'] at h5; exact absurd h5 (by decide))
   | (simp at h5; omega)
 cases hwl with
 | cons w1 w2 =>
  cases w2
  cases w1 with
  | list ho hall=>exact ⟨_,_,ns,rfl,rfl,ho,zaf8 ns _ hall,hlen⟩
theorem zamo (l:OpenLaw) (args:List WData):l.row.toRowW.claim.post args (.bool true) args=true :=
 postW_of (r:=l.row.toRowW) (X:=(true == true))
  (show WShape.has [] (.bool true) .bool=true by first | rfl | decide | simp [WShape.has,WShape.arms,WShape.armsAll])
  (show (WTm.eq .res (.lit (.bool true))).value [] { args:=args,res:=some (.bool true),after:=args }=some (.bool (true == true)) from w_eq_bool (w_res rfl) w_lit) rfl
theorem attach_call {l:OpenLaw}{n:Nat}{q:Program}{loose:List Str}{XP:(Str→Option Value)→Heap→Prop}{YP:World→Heap→Prop}{d:DefRec}
  (hn:l.most=some n) (hdf:d.params.defaults=[])
  (call:∀ (w:World) (s₀ s₁:Shared) (mg mb:Str→Option Value) (fa:Addr) (o:Obj) (pm cd doc:Value) (a:Addr) (vs:List Value) (ns:List Int),
   Ground q loose [] XP w s₀ mg mb s₁.heap→YP w s₁.heap →
   s₁.heap.get? fa=some o→o.data=.func (docDef d.name d.params d.body d.scope pm cd doc)→s₁.heap.CodeRec cd d.name→mg d.name=some (.ref fa) →
   s₁.heap.get? a=some { cls:=.type "list",data:=.seq vs.toArray }→IntsAre vs ns→ns.length≤n→s₁.gens=#[] →
   codeAny (model l.prog w) callerA (.call (.ref fa) ⟨[.ref a],[]⟩) (fun r s'=>r=.ok (.ret (.bool true))∧OldK s₁.heap s'.heap∧s'.os=s₁.os∧AllBare s'.gens) s₁) :
  WalkO q loose XP YP l.row.toRowW d [] (fun f vs=>PySem.call f vs):=by
 intro w s₀ s₁ mg mb G Y fa o pm cd doc dV kV ho hd hcd hD hmg hg args vals as hpre hlay hrd hwl hlo
 obtain rfl:dV=.none:=Dflts.none hD hdf
 obtain rfl:kV=.none:=Dflts.noKw hD
 obtain ⟨a,vs,ns,rfl,rfl,hobj,hints,hlen⟩:=zamn hn hpre hwl
 refine enter_call (codeAny_mono (call w s₀ s₁ mg mb fa o pm cd doc a vs ns G Y ho (fd_plain hd) hcd hmg hobj hints hlen hg) fun r s' hq=>?_)
 obtain ⟨rfl,h2,h3,h4⟩:=hq
 exact ⟨.inl ⟨.bool true,.bool true,[],rfl,fun _=>rfl,.bool true,zamo l _,fun _=>⟨List.Pairwise.nil,fun _ hm=>(nomatch hm)⟩⟩,h2,h3,h4⟩
end Att
namespace L2
open PySem PySem.Spec PyProof.Rows
theorem zaix:∀ {vs:List Value}{ns:List Int},IntsAre vs ns→Vals (ns.map V.int) vs
 | _,_,.nil=>.nil
 | _,_,.cons n t h=>.cons ⟨t,rfl⟩ (zaix h)
def Only (H:Hp):Prop:=∀ b,H b=none∨∃ o xs,H b=some (.frz o (.lst xs))
theorem zapl {P:Program}{w:World}{K:PySem.W.Frag}{mg mb:Str→Option Value}{CX:CXT}{k:Nat}{fa a:Addr}{fd:FuncData}{x:Str}{sp:Sp}{s₁:Shared}{vs:List Value}{ns:List Int}
  (KX:K.In s₁.heap) (hns:s₁.heap.Ns mainGlobals mg) (hb:s₁.heap.Ns builtinsNs mb) (hbb:∀ x:Str,x ≠ "__name__" → mb x=bootBuiltins x) (hlim:s₁.heap.NoLimit) (hg:s₁.gens=#[])
  (ha:s₁.heap.get? a=some { cls:=.type "list",data:=.seq vs.toArray }) (hi:IntsAre vs ns) (hl:ns.length≤sizeLine) (hr:Room k callerA)
  (F:∀ base:Heap,K.In base→base.Ns mainGlobals mg→FnOk P w K mg base CX k fa fd [x] sp) (hbind:∀ (s:Shared) (u:Value),BindsTo s fd ⟨[u],[]⟩ [(x,u)])
  (hsp:∀ H:Hp,Only H→SqL K H a (ns.map V.int)→sp [.ref a] H (fun v _=>v=.bl true) fun _ _ _=>False)
  (hCX:∀ H e s',CX [] H s₁ (fun _ _ _=>False) e s'→False) :
  codeAny (model P w) callerA (.call (.ref fa) ⟨[.ref a],[]⟩) (fun r s'=>r=.ok (.ret (.bool true))∧OldK s₁.heap s'.heap∧s'.os=s₁.os∧AllBare s'.gens) s₁:=by
 have rv:=zaix hi
 have lenV:=hi.length
 have core:∀ H:Hp,Only H→SqL K H a (ns.map V.int)→HOk P w H s₁.heap→(∀ b,H b≠none→b=a)→(H a≠none→K.lookup a=none) →
   codeAny (model P w) callerA (.call (.ref fa) ⟨[.ref a],[]⟩) (fun r s'=>r=.ok (.ret (.bool true))∧OldK s₁.heap s'.heap∧s'.os=s₁.os∧AllBare s'.gens) s₁:=by
  intro H hO hS hok hA hK
  have base_of:∀ {b:Addr}{o:Obj},s₁.heap.get? b=some o→H b=none→(hidT s₁.heap H).get? b=some o:=fun e n=>zao2 e n
  have noA:∀ {b:Addr}{o:Obj}{es:Array DictEntry}{ep:Nat},s₁.heap.get? b=some o→o.data=.dict es ep→H b=none:=fun {b o es ep} e d=>by
   cases q:H b with
   | none=>rfl
   | some u =>
    have e':b=a:=hA b (by rw [q]; simp)
    subst e'
    rw [ha] at e; cases e
    have d':Data.seq vs.toArray _=Data.dict es ep:=d
    cases d'
  have nsK:∀ {b:Addr}{m:Str→Option Value},s₁.heap.Ns b m→(hidT s₁.heap H).Ns b m:=fun {b m} ⟨o,es,ep,e,d,r⟩=>⟨o,es,ep,base_of e (noA e d),d,r⟩
  have hKb:K.In (hidT s₁.heap H):=fun b o e=>base_of (KX b o e) (by
   cases q:H b with
   | none=>rfl
   | some u =>
    have e':b=a:=hA b (by rw [q]; simp)
    subst e'
    rw [hK (by rw [q]; simp)] at e; cases e)
  have hM:Mod K mg (hidT s₁.heap H):=⟨hKb,nsK hns,⟨mb,nsK hb,hbb⟩,let ⟨mc,h1,h2⟩:=hlim; ⟨mc,nsK h1,h2⟩⟩
  have e0:Env0 P w K mg (hidT s₁.heap H) callerA [] s₁ H:=⟨rfl,hM,fun b o e=>zarp e,Nat.le_of_eq (zal6 _ _),trivial,fun b hb=>absurd (show b∈([]:List Addr) from hb) (by simp),hok,.of_eq hg⟩
  refine codeAny_mono ((F _ hKb (nsK hns)).run callerA [] s₁ H ⟨[.ref a],[]⟩ [.ref a] [.ref a] _ _ hr e0 (hbind s₁ (.ref a)) (.cons rfl .nil) (hsp H hO hS)) fun r s' h=>?_
  cases r with
  | error e=>exact (hCX H e s' h).elim
  | ok fl =>
   cases fl with
   | next=>exact False.elim h
   | brk=>exact False.elim h
   | cont=>exact False.elim h
   | ret u =>
    obtain ⟨v,H',os,bare,un,hok',r',q⟩:=h
    have q':v=.bl true:=q
    subst q'
    obtain rfl:u=Value.bool true:=r'
    refine ⟨rfl,OldK.of_keep fun b o e=>?_,os,bare⟩
    cases q:H b with
    | none=>exact un.keep b o e q (by intro z; exact absurd (show b∈([]:List Addr) from z) (by simp)) (by simp)
    | some u =>
     rcases hO b with z | ⟨ob,xs,z⟩
     ·rw [q] at z; cases z
     ·have z2:=un.frzs b ob _ z
      obtain ⟨e1,_⟩:=hok b _ z
      obtain ⟨e2,_⟩:=hok' b _ z2
      rw [e] at e1; cases e1
      exact e2
 cases hk:K.lookup a with
 | some o =>
  have e:=KX a o hk
  rw [ha] at e
  cases e
  refine core (fun _=>none) (fun _=>.inl rfl) (.inr ⟨_,vs.toArray,_,hk,rfl,rfl,rfl,by rw [List.size_toArray,lenV]; exact hl,by simpa using rv⟩) (fun b u z=>by have z':(none:Option HO)=some u:=z; cases z') (fun b z=>absurd rfl z) fun z=>absurd rfl z
 | none =>
  refine core (fun b=>if b=a then some (.frz { cls:=.type "list",data:=.seq vs.toArray } (.lst (ns.map V.int))) else none) (fun b=>?_) (.inl (.inr ⟨{ cls:=.type "list",data:=.seq vs.toArray },if_pos rfl⟩)) (fun b u z=>?_) (fun b z=>?_) fun _=>hk
  ·by_cases hb:b=a
   ·exact .inr ⟨_,_,if_pos hb⟩
   ·exact .inl (if_neg hb)
  ·by_cases hb:b=a
   ·have z':=(if_pos hb).symm.trans z
    cases z'
    subst hb
    exact ⟨ha,by rw [List.length_map]; exact hl,vs,_,rv,ha⟩
   ·have z':=(if_neg hb).symm.trans z
    cases z'
  ·by_cases hb:b=a
   ·exact hb
   ·exact absurd (if_neg hb) z
theorem zasb {l:PySem.W.OpenLaw}{n k:Nat}{q:Program}{loose:List Str}{XP:(Str→Option Value)→Heap→Prop}{YP:World→Heap→Prop}{d:DefRec}{K:Params→PySem.W.Frag}{CX:World→CXT}{sp:World→Sp}{x:Str}
  (hn:l.most=some n) (hn2:n≤sizeLine) (hdf:d.params.defaults=[]) (hr:Room k callerA)
  (hY:∀ (w:World) (h:Heap),YP w h→(K w.params).In h)
  (F:∀ (w:World) (mg:Str→Option Value) (fa:Addr) (h:Heap),(K w.params).In h→h.Ns mainGlobals mg→mg d.name=some (.ref fa) →
   ∃ fd:FuncData,(∀ (s:Shared) (u:Value),BindsTo s fd ⟨[u],[]⟩ [(x,u)]) ∧
    ∀ base:Heap,(K w.params).In base→base.Ns mainGlobals mg→FnOk l.prog w (K w.params) mg base (CX w) k fa fd [x] (sp w))
  (hsp:∀ (w:World) (H:Hp) (a:Addr) (ns:List Int),ns.length≤n→Only H→SqL (K w.params) H a (ns.map V.int)→sp w [.ref a] H (fun v _=>v=.bl true) fun _ _ _=>False)
  (hCX:∀ (w:World) (H:Hp) (s:Shared) (e:Value) (s':Shared),CX w [] H s (fun _ _ _=>False) e s'→False) :
  PySem.W.WalkO q loose XP YP l.row.toRowW d [] (fun f vs=>PySem.call f vs):=by
 refine Att.attach_call hn hdf fun w s₀ s₁ mg mb fa o pm cd doc a vs ns G Y ho hd hcd hmg hobj hints hlen hg=>?_
 have KX:=hY w _ Y
 obtain ⟨fd,hb,hF⟩:=F w mg fa _ KX G.T.g hmg
 exact zapl KX G.T.g G.T.b G.T.builtins G.T.nolimit hg hobj hints (Nat.le_trans hlen hn2) hr hF hb (fun H hO hS=>hsp w H a ns hlen hO hS) fun H e s'=>hCX w H s₁ e s'
theorem zapm {l:PySem.W.OpenLaw}{n k:Nat}{q:Program}{loose:List Str}{XP:(Str→Option Value)→Heap→Prop}{YP:World→Heap→Prop}{d:DefRec}{K:Params→PySem.W.Frag}{CX:CXT}{sp:PySem.W.Frag→Sp}{x:Str}
  (hn:l.most=some n) (hn2:n≤sizeLine) (hdf:d.params.defaults=[]) (hr:Room k callerA)
  (hY:∀ (w:World) (h:Heap),YP w h→(K w.params).In h)
  (F:∀ (w:World) (mg:Str→Option Value) (fa:Addr) (h:Heap),(K w.params).In h→h.Ns mainGlobals mg→mg d.name=some (.ref fa) →
   ∃ fd:FuncData,(∀ (s:Shared) (u:Value),BindsTo s fd ⟨[u],[]⟩ [(x,u)]) ∧
    ∀ base:Heap,(K w.params).In base→base.Ns mainGlobals mg→FnOk l.prog w (K w.params) mg base CX k fa fd [x] (sp (K w.params)))
  (hsp:∀ (K:PySem.W.Frag) (H:Hp) (a:Addr) (ns:List Int),ns.length≤n→Only H→SqL K H a (ns.map V.int)→sp K [.ref a] H (fun v _=>v=.bl true) fun _ _ _=>False)
  (hCX:∀ (H:Hp) (s:Shared) (e:Value) (s':Shared),CX [] H s (fun _ _ _=>False) e s'→False) :
  PySem.W.WalkO q loose XP YP l.row.toRowW d [] (fun f vs=>PySem.call f vs) :=
 zasb (K:=K) (CX:=fun _=>CX) (sp:=fun w=>sp (K w.params)) hn hn2 hdf hr hY F (fun w H a ns h1 h2 h3=>hsp (K w.params) H a ns h1 h2 h3) fun _ H s e s'=>hCX H s e s'
def inClass (s:Stmt) (j:Nat):Stmt:=match s with
 | .ClassDef _ _ _ body _ _ _ _ _ _ _=>body.getD j (.Pass ⟨0,0,0,0⟩)
 | _=>.Pass ⟨0,0,0,0⟩
def defArgs (s:Stmt):Arguments:=match s with
 | .FunctionDef _ a _ _ _ _ _ _ _ _=>a
 | _=>{ posonlyargs:=[],args:=[],vararg:=none,kwonlyargs:=[],kw_defaults:=[],kwarg:=none,defaults:=[] }
def defBody (s:Stmt):List Stmt:=match s with
 | .FunctionDef _ _ b _ _ _ _ _ _ _=>b
 | _=>[]
def defScope (s:Stmt):Scope:=match s with
 | .FunctionDef _ _ _ _ _ _ sc _ _ _=>sc
 | _=>{ kind:=.function,names:=[],isGenerator:=false,isCoroutine:=false }
abbrev CX0:CXT:=fun _ _ _ _ _ _=>False
abbrev E0:XK:=fun _ _ _=>False
theorem pass0 {X:Cx}:Passes CX0 X E0:=fun _ _ _ _ _ _ _ h=>h.elim
structure Fun (K:PySem.W.Frag) (x qual:Str) (st:Stmt) (f:Addr) (fd:FuncData):Prop where
 ex:∃ (oc:Value) (od:Option Addr) (kV doc pm:Value) (an:Option Addr) (cdv ct:Value) (osl:Array (Option Value)),
  fd=PySem.W.fnOf x qual (defArgs st) (defBody st) (defScope st) .none kV doc pm an cdv ct∧K.lookup f=some ⟨oc,od,.func fd,osl⟩∧PySem.W.codeIn K cdv qual=true
 kp:PySem.W.keepIn K (.ref f)=true
section
variable {P:Program}{w:World}{K:PySem.W.Frag}{mg:Str→Option Value}{base:Heap}
theorem Fun.ok {x qual:Str}{st:Stmt}{f:Addr}{fd:FuncData}{N ps:List Str}{k:Nat}{sp:Sp} (F:Fun K x qual st f fd) (S:FnScope N ps (defScope st)) (len:∀ vs H Q E,sp vs H Q E→vs.length=ps.length)
  (hbody:∀ (cdv:Value) (A:Around) (outer:List Env) (s:Shared) (H:Hp) (vs:List V) (Q:VK) (E:XK),Room k (A.deeper (envOfC qual (defScope st) s.heap.objs.size f cdv))→sp vs H Q E →
   ∃ t,PSs (cxOf CX0 P w K mg base N qual (defScope st) f cdv A outer s H E).nox (defBody st) t∧t { nx:=fun _ H'=>Q .non H',rt:=Q } (start N vs) H):FnOk P w K mg base CX0 (k + 1) f fd ps sp:=by
 obtain ⟨oc,od,kV,doc,pm,an,cdv,ct,osl,rfl,lk,hcd⟩:=F.ex
 refine zau2 lk hcd S len fun A outer s H vs Q E hr hsp=>?_
 obtain ⟨t,h,q⟩:=hbody cdv A outer s H vs Q E hr hsp
 exact ⟨t,h.nox,q⟩
theorem Fun.binds {x qual:Str}{st:Stmt}{f:Addr}{fd:FuncData}{ps:List Str} (F:Fun K x qual st f fd)
  (h:∀ (kV doc pm:Value) (an:Option Addr) (cdv ct:Value) (us:List Value),us.length=ps.length→bindArgs (PySem.W.fnOf x qual (defArgs st) (defBody st) (defScope st) .none kV doc pm an cdv ct) ⟨us,[]⟩=pure (ps.zip us)):Binds K fd ps []:=by
 obtain ⟨oc,od,kV,doc,pm,an,cdv,ct,osl,rfl,lk,hcd⟩:=F.ex
 exact .all (h kV doc pm an cdv ct)
theorem zaa8 {x qual:Str}{st:Stmt}{f:Addr}{oc:Value}{od an:Option Addr}{osl:Array (Option Value)}{kV doc pm cdv ct:Value} (l:K.lookup f=some ⟨oc,od,.func (PySem.W.fnOf x qual (defArgs st) (defBody st) (defScope st) .none kV doc pm an cdv ct),osl⟩)
  (c:PySem.W.codeIn K cdv qual=true) (k:PySem.W.keepIn K (.ref f)=true):Fun K x qual st f (PySem.W.fnOf x qual (defArgs st) (defBody st) (defScope st) .none kV doc pm an cdv ct):=⟨⟨oc,od,kV,doc,pm,an,cdv,ct,osl,rfl,l,c⟩,k⟩
end
theorem iteF {A B:Prop} (h:B):if false=true then A else B:=by
 rw [if_neg Bool.false_ne_true]
 exact h
theorem iteT {A B:Prop} (h:A):if true=true then A else B:=by
 rw [if_pos rfl]
 exact h
theorem ite2 {c A B:Prop} [Decidable c] (h1:c→A) (h2:¬ c→B):if c then A else B:=by
 by_cases h:c
 ·rw [if_pos h]
  exact h1 h
 ·rw [if_neg h]
  exact h2 h
end L2

namespace L2
open PySem PySem.Spec PyProof.Rows
section
variable {κ:Type} [DecidableEq κ]
def valV (kvs:List (κ × V)) (k:κ):Option V:=(kvs.find? fun kv=>decide (kv.1=k)).map (·.2)
theorem zakq {p:κ × V}{r:List (κ × V)}{k:κ} (e:p.1=k):valV (p :: r) k=some p.2:=by simp [valV,List.find?_cons,e]
theorem zakr {p:κ × V}{r:List (κ × V)}{k:κ} (e:¬ p.1=k):valV (p :: r) k=valV r k:=by simp [valV,List.find?_cons,e]
theorem RelO.isSome_eq {o:Option V}{u:Option Value} (r:RelO o u):o.isSome=u.isSome:=by
 cases o with
 | none=>cases u with
  | none=>rfl
  | some _=>exact (show False from r).elim
 | some _=>cases u with
  | none=>exact (show False from r).elim
  | some _=>rfl
theorem KV.val {kvs:List (κ × V)}{vs:List (κ × Value)} (r:KV kvs vs) (k:κ):RelO (valV kvs k) (valueAt vs k):=by
 unfold KV at r
 induction r with
 | nil=>exact True.intro
 | @cons p q ps qs h t ih =>
  obtain ⟨h1,h2⟩:=h
  by_cases e:p.1=k
  ·have e':q.1=k:=h1.symm.trans e
   have b:valueAt (q :: qs) k=some q.2:=by simp [valueAt,List.find?_cons,e']
   rw [zakq e,b]; exact h2
  ·have e':¬ q.1=k:=fun z=>e (h1.trans z)
   have b:valueAt (q :: qs) k=valueAt qs k:=by simp [valueAt,List.find?_cons,e']
   rw [zakr e,b]; exact ih
end
theorem zasc {P:Program}{w:World}{k:Key}{u:Value} (r:RelV (kV k) u):(mixKind P w).is k u=true:=by
 cases k with
 | inl i=>obtain ⟨t,e⟩:=(show ∃ t,u=Value.int i t from r); subst e; exact zajq P w i t
 | inr x=>obtain ⟨t,e⟩:=(show ∃ t,u=Value.str x t from r); subst e; exact zajr P w x t
section
variable {P:Program}{w:World}{H:Hp}{h:Heap}{a:Addr}
theorem zaw3 {u:HO} (ok:HOk P w H h) (e:Rd H a u):ObjOk P w H h a u:=e.ok ok
theorem zaw4 {kvs:List (Key × V)} (ok:HOk P w H h) (e:Rd H a (.dK kvs)):kvs.length≤sizeLine∧(a == sysModules)=false∧∃ vs,KV kvs vs∧h.DictOf (mixKind P w) a vs :=
 show ObjOk P w H h a (.dK kvs) from zaw3 ok e
end
def NoSl (i:Expr):Prop:=∀ ov iv,subscripted i false ov iv=operate [ov,iv] (getItem ov iv)
theorem zasd {prog:Program}{w:World}{A:Around}{E:Value→Shared→Prop}{s:Shared}{env:Env}{value slice:Expr}{pos:Pos}{T id:String}{Q:Value→Shared→Prop}
  (hl:typeLookup (.type T) "__getitem__" = pure (some (.builtin id))) (hs:NoSl slice)
  (h:wpAny (model prog w) A (eval value env) (fun o s₁=>wpAny (model prog w) A (eval slice env) (fun i s₂=>s₂.TypeIs o T∧wpAny (model prog w) A (getItem o i) Q E s₂) E s₁) E s) :
  wpAny (model prog w) A (eval (.Subscript value slice pos) env) Q E s:=by
 refine Subscript_ (wpAny_mono h (fun o s₁ h₁=>wpAny_mono h₁ (fun i s₂ h₂=>?_) fun _ _ x=>x) fun _ _ x=>x)
 obtain ⟨hT,h₂⟩:=h₂
 unfold subscriptTail
 refine wpAny_bind ?_
 rw [getitemInPython_of_ne hT.not_modules]
 refine wpAny_bind (wpAny_specialOf hT hl ?_)
 have fin:wpAny (model prog w) A (subscripted slice false o i) (fun r s₃=>wpAny (model prog w) A (letTemporaryGo value o r >>= fun _=>pure r) Q E s₃) E s₂:=by
  rw [hs o i]
  exact wpAny_operating (wpAny_mono h₂ (fun r s₃ h₃=>wpAny_bind (wpAny_letTemporaryGo (wpAny_pure h₃))) fun _ _ x=>x)
 first
  | exact wpAny_pure (wpAny_bind fin)
  | exact wpAny_bind (wpAny_pure (wpAny_bind fin))
  | exact wpAny_bind fin
end L2

namespace L2
open PySem PySem.Spec PyProof.Rows
structure DefOk (P:Program) (w:World) (K:PySem.W.Frag) (mg:Str→Option Value) (base:Heap) (CX:CXT) (k:Nat) (x:Str) (ps:List Str) (sp:Sp):Prop where
 ex:∃ (f:Addr) (fd:FuncData),FnOk P w K mg base CX k f fd ps sp∧Binds K fd ps []∧PySem.W.keepIn K (.ref f)=true∧mg x=some (.ref f)
theorem DefOk.mono {P:Program}{w:World}{K:PySem.W.Frag}{mg:Str→Option Value}{base:Heap}{CX:CXT}{j k:Nat}{x:Str}{ps:List Str}{sp:Sp} (D:DefOk P w K mg base CX j x ps sp) (h:j≤k):DefOk P w K mg base CX k x ps sp:=by
 obtain ⟨f,fd,F,b⟩:=D.ex
 exact ⟨f,fd,F.mono h,b⟩
section
variable {X:Cx}{CX:CXT}{k:Nat}{ps:List Str}{sp:Sp}{E:XK}{x:Str}{p pos:Pos}{e:Expr}{es:List Expr}{t:TA}
theorem zapn (D:DefOk X.prog X.w X.K X.mg X.base CX k x ps sp) (hr:Room k X.A) (hg:Gl X x) (hx:Passes CX X E) (ha:PA X (e :: es) t) (hdb:(x == ("__debug__" : Str))=false:=by decide)
  (he:starEach (e :: es) X.env=(false,eval e X.env) :: starEach es X.env:=by rfl) (hpl:(backTo pos (starEach es X.env)).any (·.1)=false:=by rfl) :
  PE X (.Call (.Name x p) (e :: es) [] pos) (tCall sp [] E t):=by
 obtain ⟨f,fd,F,b,kp,m⟩:=D.ex
 exact zar5 F hr hg m kp b .nil hx ha hdb he hpl
theorem zamp (D:DefOk X.prog X.w X.K X.mg X.base CX k x ps sp) (hr:Room k X.A) (hg:Gl X x) (hx:Passes CX X E) (hdb:(x == ("__debug__" : Str))=false:=by decide) :
  PE X (.Call (.Name x p) [] [] pos) (tCall sp [] E tNil):=by
 obtain ⟨f,fd,F,b,kp,m⟩:=D.ex
 exact zape F hr hg m kp b .nil hx hdb
end
def CDivW (_ j:Int):Prop:=0 < j∧j < 2 ^ 64
theorem zaa3 {X:Cx}:OpR X (binaryOp .FloorDiv) (rI CDivW fun i j=>.int (i / j)):=opI fun i j _ _ _ _ _ hc q=>by
 have h1:(0:Int) < j:=hc.1
 have h2:j < 2 ^ 64:=hc.2
 have h3:j.natAbs.log2 < 64:=(Nat.log2_lt (by omega)).mpr (by omega)
 exact floordiv_int (by omega) (by rw [Int.fdiv_eq_ediv_of_nonneg i (by omega)]; exact q) (.inl (PyProof.noPylong_of_log2 (by omega)))
def Ch (W:List Addr) (H H':Hp):Prop:=∀ b o,H b=some o→b ∉ W→H' b=some o
theorem Ch.refl (W:List Addr) (H:Hp):Ch W H H:=fun _ _ h _=>h
theorem Ch.trans {W:List Addr}{H H1 H2:Hp} (a:Ch W H H1) (b:Ch W H1 H2):Ch W H H2:=fun c o h n=>b c o (a c o h n) n
theorem Ch.get {W:List Addr}{H H':Hp}{b:Addr}{o:HO} (c:Ch W H H') (h:H b=some o) (n:b ∉ W):H' b=some o:=c b o h n
theorem Ch.mono {W W':List Addr}{H H':Hp} (c:Ch W H H') (h:∀ b∈W,b∈W'):Ch W' H H':=fun b o q n=>c b o q fun z=>n (h b z)
theorem Ch.wk {W:List Addr}{H H':Hp} (c:Ch [] H H'):Ch W H H':=c.mono fun b h=>nomatch h
theorem Ch.new {W:List Addr}{H:Hp}{p:Addr} (h:H p=none) (o:HO):Ch W H (upd H p o):=fun b u q _=>by rw [zaax (zaaw q h)]; exact q
theorem Ch.put {H:Hp}{p:Addr}{o:HO}:Ch [p] H (upd H p o):=fun b u q n=>by rw [zaax (fun z=>n (by simp [z]))]; exact q
def Scr (K:PySem.W.Frag) (H:Hp) (a:Addr) (ns:List Int):Prop :=
 ns.length≤63∧((∃ o,H a=some (.frz o (.lst (ns.map V.int)))) ∨
  ∃ (o:Obj) (its:Array Value) (n:Nat),K.lookup a=some o∧o.cls=.type "list" ∧ o.dict=none∧o.data=.seq its n∧its.size≤sizeLine∧Vals (ns.map V.int) its.toList)
theorem Scr.sq {K:PySem.W.Frag}{H:Hp}{a:Addr}{ns:List Int} (S:Scr K H a ns):SqL K H a (ns.map V.int):=by
 rcases S.2 with ⟨o,h⟩ | h
 ·exact .inl (.inr ⟨o,h⟩)
 ·exact .inr h
theorem Scr.ch {K:PySem.W.Frag}{H H':Hp}{a b:Addr}{ns:List Int}{xs:List V} (S:Scr K H a ns) (hb:H b=some (.lst xs)) (c:Ch [b] H H'):Scr K H' a ns:=by
 refine ⟨S.1,?_⟩
 rcases S.2 with ⟨o,h⟩ | h
 ·exact .inl ⟨o,c.get h (by
   intro z
   have e:a=b:=by simpa using z
   subst e
   rw [h] at hb
   cases hb)⟩
 ·exact .inr h
theorem Scr.same {K:PySem.W.Frag}{H H':Hp}{a:Addr}{ns:List Int} (S:Scr K H a ns) (c:Ch [] H H'):Scr K H' a ns:=by
 refine ⟨S.1,?_⟩
 rcases S.2 with ⟨o,h⟩ | h
 ·exact .inl ⟨o,c.get h (by simp)⟩
 ·exact .inr h
theorem Scr.of {K:PySem.W.Frag}{H:Hp}{a:Addr}{ns:List Int} (h:SqL K H a (ns.map V.int)) (hl:ns.length≤63) (hO:Only H):Scr K H a ns:=by
 refine ⟨hl,?_⟩
 rcases h with (h | ⟨o,h⟩) | h
 ·rcases hO a with z | ⟨o,xs,z⟩
  ·rw [h] at z; cases z
  ·rw [h] at z; cases z
 ·exact .inl ⟨o,h⟩
 ·exact .inr h
theorem zaep {H:Hp}{p q:Addr}{o u:HO} (hq:H q=none) (h:H p=some o):upd H q u p=some o:=by rw [zaax (zaaw h hq)]; exact h
theorem zafi {H:Hp}{p q:Addr}{o u:HO} (n:p≠q) (h:H p=some o):upd H q u p=some o:=by rw [zaax n]; exact h
structure Loop (J:It) (g:TG) (tb:TS) (D:Ends) (σ:St) (H:Hp):Prop where
 ex:∃ W:Nat→Nat→St→Hp→Prop,(∃ m,W 0 m σ H)∧∀ i m σ H,W i m σ H →
  (J.stop i H∧D.nx σ H)∨(J.go i H∧∃ N:St→Hp→Prop,(∀ σ' H',N σ' H'→∃ m',m' < m∧W (i + 1) m' σ' H')∧∀ x H',J.yld i H x H'→g x σ H' fun σ2 H2=>tb { D with nx:=N,ct:=N,bk:=D.nx } σ2 H2)
def tLoop (wi:TI) (g:TG) (tb:TS):TS:=fun D σ H=>wi σ H fun J H1=>Loop J g tb D σ H1
theorem zase {X:Cx}{tg iter:Expr}{body:List Stmt}{wi:TI}{g:TG}{tb:TS}{pos:Pos} (hp:PassesOwn (model X.prog X.w) X.A X.env X.xe) (hc:X.calm=true) (hi:PI X tg iter wi) (hg:PG X tg g) (hb:PSs X body tb)
  (hs:∀ x,foldedSetIterable iter X.env x=pure x:=by intro _; rfl):PS X (.For tg iter body [] pos) (tLoop wi g tb):=by
 have hi':PI X tg iter (fun σ H R=>∃ R0:It→Hp→Prop,wi σ H R0∧∀ J H1,R0 J H1→R J H1):=by
  intro pins s σ H R I ⟨R0,h,m⟩
  refine thn (hi pins s σ H _ I h) fun v s1 h1=>thn h1 fun itv s2 h2=>?_
  obtain ⟨it,fp,tn,J,H2,e,I2,T,st2,f2,r⟩:=h2
  exact ⟨it,fp,tn,J,H2,e,I2,T,st2,f2,m _ _ r⟩
 intro pins s σ H D I h
 exact zauu hp hc hi' hg hb hs pins s σ H D I ⟨_,h,fun J H1 l=>l.ex⟩
theorem zamq {K:PySem.W.Frag}{a:Addr}{xs:List V}{g:TG}{tb:TS}{D:Ends}{σ:St}{H:Hp} (Pv:Nat→St→Hp→Prop) (h0:Pv 0 σ H) (hl:∀ i σ H,i≤xs.length→Pv i σ H→SqL K H a xs)
  (hs:∀ i x σ H,xs[i]?=some x→Pv i σ H→g x σ H fun σ2 H2=>tb { D with nx:=Pv (i + 1),ct:=Pv (i + 1),bk:=D.nx } σ2 H2) (hd:∀ σ H,Pv xs.length σ H→D.nx σ H):Loop (Itl K a) g tb D σ H:=⟨zao8 Pv h0 hl hs hd⟩
theorem zaeq {K:PySem.W.Frag}{a:Addr}{xs:List V}{g:TG}{tb:TS}{D:Ends}{σ:St}{H:Hp} (Pv:Nat→St→Hp→Prop) (h0:Pv 0 σ H) (hl:∀ i σ H,i≤xs.length→Pv i σ H→SqT K H a xs)
  (hs:∀ i x σ H,xs[i]?=some x→Pv i σ H→g x σ H fun σ2 H2=>tb { D with nx:=Pv (i + 1),ct:=Pv (i + 1),bk:=D.nx } σ2 H2) (hd:∀ σ H,Pv xs.length σ H→D.nx σ H):Loop (Itt K a) g tb D σ H:=⟨zary Pv h0 hl hs hd⟩
theorem zad1 {lo:Int}{n:Nat}{g:TG}{tb:TS}{D:Ends}{σ:St}{H:Hp} (Pv:Nat→St→Hp→Prop) (h0:Pv 0 σ H)
  (hs:∀ i σ H,i < n→Pv i σ H→g (.int (lo + i)) σ H fun σ2 H2=>tb { D with nx:=Pv (i + 1),ct:=Pv (i + 1),bk:=D.nx } σ2 H2) (hd:∀ σ H,Pv n σ H→D.nx σ H):Loop (Itr lo n) g tb D σ H:=⟨zamb Pv h0 hs hd⟩
structure Cut (t u:TS) (D:Ends) (σ:St) (H:Hp):Prop where
 ex:∃ P:St→Hp→Prop,t { D with nx:=P } σ H∧∀ σ' H',P σ' H'→u D σ' H'
def tCut (t u:TS):TS:=fun D σ H=>Cut t u D σ H
theorem zasf {X:Cx}{st:Stmt}{rest:List Stmt}{t u:TS} (h1:PS X st t) (h2:PSs X rest u):PSs X (st :: rest) (tCut t u):=by
 intro pins s σ H D I h
 obtain ⟨P,a,b⟩:=h.ex
 have h1':PS X st (fun D' σ' H'=>∃ P:St→Hp→Prop,t { D' with nx:=P } σ' H'∧∀ σ2 H2,P σ2 H2→D'.nx σ2 H2):=by
  intro pins s σ H D I ⟨P,a,b⟩
  refine thn (h1 pins s σ H _ I a) fun f s' q=>?_
  cases f with
  | next=>obtain ⟨σ7,H7,I7,n7⟩:=q; exact ⟨σ7,H7,I7,b _ _ n7⟩
  | cont=>exact q
  | brk=>exact q
  | ret v=>exact q
 exact zakm h1' h2 pins s σ H D I ⟨P,a,b⟩
theorem zacw {t u:TS}{D:Ends}{σ:St}{H:Hp} (P:St→Hp→Prop) (h1:t { D with nx:=P } σ H) (h2:∀ σ' H',P σ' H'→u D σ' H'):Cut t u D σ H:=⟨P,h1,h2⟩
theorem zaks {ns:List Int}{i:Int} (h0:0≤i) (h1:i < (ns.length:Int)):∃ n:Int,atI (ns.map V.int) i=some (.int n):=by
 have hk:i.toNat < ns.length:=by omega
 have ek:i=((i.toNat:Nat):Int):=by omega
 have q:atI (ns.map V.int) ((i.toNat:Nat):Int)=some (.int ns[i.toNat]):=zack (by rw [List.getElem?_map,List.getElem?_eq_getElem hk]; rfl)
 rw [← ek] at q
 exact ⟨_,q⟩
end L2

namespace L2
open PySem PySem.Spec PyProof.Rows
structure Atx {α:Type} (xs:List α) (i:Int) (R:α→Prop):Prop where
 ex:∃ v,atI xs i=some v∧R v
theorem Atx.of {α:Type}{xs:List α}{i:Int}{v:α}{R:α→Prop} (h:atI xs i=some v) (r:R v):Atx xs i R:=⟨v,h,r⟩
theorem zapo {α:Type}{xs:List α}{i:Int} (h0:0≤i) (h1:i < (xs.length:Int)):∃ h:i.toNat < xs.length,atI xs i=some xs[i.toNat]:=by
 have hk:i.toNat < xs.length:=by omega
 have ek:i=((i.toNat:Nat):Int):=by omega
 have q:atI xs ((i.toNat:Nat):Int)=some xs[i.toNat]:=zack (List.getElem?_eq_getElem hk)
 rw [← ek] at q
 exact ⟨hk,q⟩
theorem Atx.any {α:Type}{xs:List α}{i:Int}{R:α→Prop} (h0:0≤i) (h1:i < (xs.length:Int)) (h:∀ v,v∈xs→atI xs i=some v→R v):Atx xs i R:=by
 obtain ⟨hk,q⟩:=zapo h0 h1
 exact ⟨_,q,h _ (List.getElem_mem hk) q⟩
section
variable {X:Cx}
theorem IxR.imp {r r':R2} (h:IxR X r) (f:∀ x y H Q,r' x y H Q→r x y H Q):IxR X r':=fun value slice pins s σ H x y v u Q I rx ry q hs=>h value slice pins s σ H x y v u Q I rx ry (f _ _ _ _ q) hs
def aIxL (K:PySem.W.Frag):R2:=fun x y H Q=>∃ p xs i,x=.ref p∧y=.int i∧SqL K H p xs∧Atx xs i fun v=>Q v H
def aIxT (K:PySem.W.Frag):R2:=fun x y H Q=>∃ p xs i,x=.ref p∧y=.int i∧SqT K H p xs∧Atx xs i fun v=>Q v H
def aIxS:R2:=fun x y H Q=>∃ z i,x=.str z∧y=.int i∧z.length≤sizeLine∧Atx z.cps.toList i fun c=>Q (.str ⟨#[c]⟩) H
theorem zaav:IxR X (aIxL X.K):=zasa.imp fun x y H Q ⟨p,xs,i,e1,e2,h,a⟩=>let ⟨v,hv,q⟩:=a.ex; ⟨p,xs,i,v,e1,e2,h,hv,q⟩
theorem zabw:IxR X (aIxT X.K):=zau3.imp fun x y H Q ⟨p,xs,i,e1,e2,h,a⟩=>let ⟨v,hv,q⟩:=a.ex; ⟨p,xs,i,v,e1,e2,h,hv,q⟩
theorem zacf:IxR X aIxS:=zau4.imp fun x y H Q ⟨z,i,e1,e2,h,a⟩=>let ⟨v,hv,q⟩:=a.ex; ⟨z,i,v,e1,e2,h,hv,q⟩
end
end L2
namespace L2
open PySem
section
variable {es:List Expr}{env:Env}
theorem zaag {x pos}:starEach (.Name x pos :: es) env=(false,eval (.Name x pos) env) :: starEach es env:=rfl
theorem zaab {c k pos}:starEach (.Constant c k pos :: es) env=(false,eval (.Constant c k pos) env) :: starEach es env:=rfl
theorem zabx {a o b pos}:starEach (.BinOp a o b pos :: es) env=(false,eval (.BinOp a o b pos) env) :: starEach es env:=rfl
theorem zals {a o pos}:starEach (.UnaryOp o a pos :: es) env=(false,eval (.UnaryOp o a pos) env) :: starEach es env:=rfl
theorem zaaz {a o b pos}:starEach (.Call a o b pos :: es) env=(false,eval (.Call a o b pos) env) :: starEach es env:=rfl
theorem zapp {a k pos}:starEach (.Tuple a k pos :: es) env=(false,eval (.Tuple a k pos) env) :: starEach es env:=rfl
theorem zamr {a pos}:starEach (.List a pos :: es) env=(false,eval (.List a pos) env) :: starEach es env:=rfl
theorem zaaq {a b pos}:starEach (.Subscript a b pos :: es) env=(false,eval (.Subscript a b pos) env) :: starEach es env:=rfl
theorem zag8 {a b c pos}:starEach (.Compare a b c pos :: es) env=(false,eval (.Compare a b c pos) env) :: starEach es env:=rfl
theorem zapq {a b c pos}:starEach (.IfExp a b c pos :: es) env=(false,eval (.IfExp a b c pos) env) :: starEach es env:=rfl
theorem zams {a b pos}:starEach (.BoolOp a b pos :: es) env=(false,eval (.BoolOp a b pos) env) :: starEach es env:=rfl
theorem zacj {a b pos}:starEach (.Attribute a b pos :: es) env=(false,eval (.Attribute a b pos) env) :: starEach es env:=rfl
theorem zac9 {a b c pos}:starEach (.ListComp a b c pos :: es) env=(false,eval (.ListComp a b c pos) env) :: starEach es env:=rfl
end
end L2
namespace L2
open PySem
theorem Ch.own {W:List Addr}{H H':Hp}{p:Addr}{o:HO} (n:H p=none) (c:Ch W H H'):Ch W H (upd H' p o):=fun b u h k=>by
 rw [zaax (zaaw h n)]
 exact c b u h k
theorem cut1 (x:V) (ys:List V):cutV (x :: ys) (some 1) none=ys:=by
 unfold cutV
 have e:HT.sIx (x :: ys).length 0 (some 1)=1:=by
  have z:=HT.sIx_nat (x :: ys).length 0 1
  rw [List.length_cons] at z ⊢
  refine z.trans ?_
  omega
 rw [e,HT.sIx_none,List.drop_succ_cons,List.drop_zero,List.take_of_length_le]
 simp
theorem zapr (x:V) (ys:List V):¬ (HT.sIx (x :: ys).length 0 (some 1)=0∧HT.sIx (x :: ys).length (x :: ys).length none=(x :: ys).length):=by
 intro h
 have e:HT.sIx (x :: ys).length 0 (some 1)=1:=by
  have z:=HT.sIx_nat (x :: ys).length 0 1
  rw [List.length_cons] at z ⊢
  refine z.trans ?_
  omega
 rw [e] at h
 exact absurd h.1 (by decide)
end L2
namespace L2
open PySem
theorem Atx.head {α:Type}{x:α}{xs:List α}{R:α→Prop} (r:R x):Atx (x :: xs) 0 R:=⟨x,zack (j:=0) rfl,r⟩
end L2

namespace L2
open PySem PySem.Spec PyProof.Rows
inductive SK where
 | list | tuple
def SIt (k:SK) (h:Heap) (it l:Addr) (i:Nat):Prop:=match k with
 | .list=>h.IsListIter it l i
 | .tuple=>h.IsTupleIter it l i
def SIs (k:SK) (h:Heap) (l:Addr) (items:Array Value):Prop:=match k with
 | .list=>h.IsList l items
 | .tuple=>h.IsTuple l items
def Sq (k:SK) (K:PySem.W.Frag) (H:Hp) (a:Addr) (xs:List V):Prop:=match k with
 | .list=>SqL K H a xs
 | .tuple=>SqT K H a xs
theorem SIt.at {k:SK}{h h':Heap}{a l i} (x:SIt k h a l i) (e:∀ o,h.get? a=some o→h'.get? a=some o):SIt k h' a l i:=by
 cases k with
 | list=>exact Heap.IsListIter.at x e
 | tuple=>exact Heap.IsTupleIter.at x e
theorem SIt.obj {k:SK}{h:Heap}{a l i} (x:SIt k h a l i):∃ o,h.get? a=some o∧∀ v,o.data≠.cell v:=by
 cases k with
 | list=>obtain ⟨o,e,c,d⟩:=(show h.IsListIter a l i from x); exact ⟨o,e,fun v z=>by rw [d] at z; cases z⟩
 | tuple=>obtain ⟨o,e,c,d⟩:=(show h.IsTupleIter a l i from x); exact ⟨o,e,fun v z=>by rw [d] at z; cases z⟩
theorem SIs.at {k:SK}{h h':Heap}{a items} (x:SIs k h a items) (e:∀ o,h.get? a=some o→h'.get? a=some o):SIs k h' a items:=by
 cases k with
 | list=>exact Heap.IsList.at x e
 | tuple=>obtain ⟨o,ho,r⟩:=(show h.IsTuple a items from x); exact ⟨o,e _ ho,r⟩
theorem SIs.lt {k:SK}{h:Heap}{a items} (x:SIs k h a items):a < h.objs.size:=by
 cases k with
 | list=>obtain ⟨_,e,_⟩:=(show h.IsList a items from x); exact Heap.lt_size e
 | tuple=>obtain ⟨_,e,_⟩:=(show h.IsTuple a items from x); exact Heap.lt_size e
section
variable {prog:Program}{w:World}{A:Around}{E:Value→Shared→Prop}{s:Shared}
theorem zae5 {it l:Addr}{i:Nat}{items}{x:Value}{Q:Value→Shared→Prop} (hit:s.heap.IsTupleIter it l i)
  (hl:s.heap.IsTuple l items) (hx:items[i]?=some x)
  (hQ:∀ h',h'.IsTupleIter it l (i + 1)→Heap.SameBut it s.heap h'→Q x { s with heap:=h' }) :
  wpAny (model prog w) A (Builtin.SmallTypes.nextOf (.ref it)) Q E s:=by
 obtain ⟨o,ho,hc,hd⟩:=id hit
 obtain ⟨ol,hol,_,nl,hdl⟩:=hl
 unfold Builtin.SmallTypes.nextOf
 refine wpAny_bind (wpAny_callSpecial?_slot (name:=Str.ofString "__next__") hit.typeIs F.slot_tuple_iterator_next
  (wpAny_call_entry F.slot_tuple_iterator_next hit.typeIs F.entry_tuple_iterator_next ?_ (F.args_tuple_iterator_next_1 _)))
 show wpAny _ _ (field (.ref it) 0 >>= _) _ _ s
 refine wpAny_bind (wpAny_field ho hd (x:=.ref l) rfl ?_)
 show wpAny _ _ (if (Value.ref l == Value.none)=true then _ else _) _ _ s
 rw [if_neg (show ¬ ((Value.ref l == Value.none)=true) from Bool.false_ne_true)]
 show wpAny _ _ (field (.ref it) 1 >>= _) _ _ s
 refine wpAny_bind (wpAny_field ho hd (x:=.int i 0) rfl ?_)
 show wpAny _ _ (seqItems? (.ref l) >>= _) _ _ s
 refine wpAny_bind (wpAny_seqItems hol hdl ?_)
 simp only [Int.toNat_natCast,hx]
 refine wpAny_bind (wpAny_setField ho hd (by simp) (wpAny_pure ⟨x,rfl,wpAny_pure (hQ _ ?_ (Heap.SameBut.update ..))⟩))
 exact ⟨_,Heap.get?_update_self _ ho (Obj.isFreed_of_fields (Obj.data_mapFields hd _)),(Obj.cls_mapFields ..).trans hc,by
  rw [Obj.data_mapFields hd]; simp [rawInt]⟩
theorem zafj {it l:Addr}{i:Nat}{items}{Q:Value→Shared→Prop} (hh:A.handled=none)
  (hit:s.heap.IsTupleIter it l i) (hl:s.heap.IsTuple l items) (hx:items[i]?=none)
  (hE:∀ h' e,Heap.ExtBut it s.heap h'→(∃ o,h'.get? e=some o∧o.cls=.type "StopIteration")→E (.ref e) { s with heap:=h' }) :
  wpAny (model prog w) A (Builtin.SmallTypes.nextOf (.ref it)) Q E s:=by
 obtain ⟨o,ho,hc,hd⟩:=id hit
 obtain ⟨ol,hol,_,nl,hdl⟩:=hl
 unfold Builtin.SmallTypes.nextOf
 refine wpAny_bind (wpAny_callSpecial?_slot (name:=Str.ofString "__next__") hit.typeIs F.slot_tuple_iterator_next
  (wpAny_call_entry F.slot_tuple_iterator_next hit.typeIs F.entry_tuple_iterator_next ?_ (F.args_tuple_iterator_next_1 _)))
 show wpAny _ _ (field (.ref it) 0 >>= _) _ _ s
 refine wpAny_bind (wpAny_field ho hd (x:=.ref l) rfl ?_)
 show wpAny _ _ (if (Value.ref l == Value.none)=true then _ else _) _ _ s
 rw [if_neg (show ¬ ((Value.ref l == Value.none)=true) from Bool.false_ne_true)]
 show wpAny _ _ (field (.ref it) 1 >>= _) _ _ s
 refine wpAny_bind (wpAny_field ho hd (x:=.int i 0) rfl ?_)
 show wpAny _ _ (seqItems? (.ref l) >>= _) _ _ s
 refine wpAny_bind (wpAny_seqItems hol hdl ?_)
 simp only [Int.toNat_natCast,hx]
 refine wpAny_bind (wpAny_rule (wpAny_bind (wpAny_setField ho hd (by simp) ?_)))
 show wpAny _ _ (newExc (.type "StopIteration") [] >>= _) _ _ _
 refine wpAny_bind ?_
 simp only [newExc,newTuple]
 refine wpAny_bind (wpAny_newObj_type ?_ (by size_fits))
 refine wpAny_bind (m:=firstArgMember _ _) (wpAny_of_eq (a:=Value.none) (by first | rfl | (simp only [firstArgMember]; rfl)) ?_)
 refine wpAny_newObj_type ?_ (by size_fits)
 simp only [raiseNew]
 refine wpAny_bind (wpAny_handled ?_)
 first | rw [show A.in1.handled=none from hh] | rw [hh]
 refine wpAny_bind (wpAny_pure (wpAny_throw ?_))
 exact hE _ _ (((Heap.SameBut.update ..).extBut.push _).push _) ⟨_,Heap.get?_push_size _ rfl,rfl⟩
theorem zada {k:SK}{it l:Addr}{i:Nat}{items}{x:Value}{Q:Value→Shared→Prop} (hit:SIt k s.heap it l i) (hl:SIs k s.heap l items) (hx:items[i]?=some x)
  (hQ:∀ h',SIt k h' it l (i + 1)→Heap.SameBut it s.heap h'→Q x { s with heap:=h' }):wpAny (model prog w) A (Builtin.SmallTypes.nextOf (.ref it)) Q E s:=by
 cases k with
 | list=>exact wpAny_nextOf_list_item hit hl hx hQ
 | tuple=>exact zae5 hit hl hx hQ
theorem zae6 {k:SK}{it l:Addr}{i:Nat}{items}{Q:Value→Shared→Prop} (hh:A.handled=none) (hit:SIt k s.heap it l i) (hl:SIs k s.heap l items) (hx:items[i]?=none)
  (hE:∀ h' e,Heap.ExtBut it s.heap h'→(∃ o,h'.get? e=some o∧o.cls=.type "StopIteration")→E (.ref e) { s with heap:=h' }) :
  wpAny (model prog w) A (Builtin.SmallTypes.nextOf (.ref it)) Q E s:=by
 cases k with
 | list=>exact wpAny_nextOf_list_end hh hit hl hx hE
 | tuple=>exact zafj hh hit hl hx hE
theorem SIt.ext {k:SK}{h h':Heap}{a b l i} (x:SIt k h a l i) (hs:Heap.ExtBut b h h') (hab:a≠b):SIt k h' a l i:=x.at fun o e=>hs _ _ hab e
theorem SIs.ext {k:SK}{h h':Heap}{a b items} (x:SIs k h a items) (hs:Heap.ExtBut b h h') (hab:a≠b):SIs k h' a items:=x.at fun o e=>hs _ _ hab e
theorem zamt {k1 k2:SK}{z TI TO i1 i2 l1 l2:Addr}{n1 n2:Nat}{xs ys:Array Value}{x y a b:Value}{Q:Value→Shared→Prop} (D:ZipApart z TI TO i1 i2 l1 l2)
  (hz:IsZip s.heap z TI TO .none) (hTI:IsPair s.heap TI (.ref i1) (.ref i2)) (hTO:IsPair s.heap TO a b)
  (h1:SIt k1 s.heap i1 l1 n1) (h2:SIt k2 s.heap i2 l2 n2) (hl1:SIs k1 s.heap l1 xs) (hl2:SIs k2 s.heap l2 ys) (hx:xs[n1]?=some x) (hy:ys[n2]?=some y)
  (hQ:∀ h',IsZip h' z TI TO (rawInt s.heap.objs.size)→IsPair h' TO x y→SIt k1 h' i1 l1 (n1 + 1)→SIt k2 h' i2 l2 (n2 + 1)→IsPair h' s.heap.objs.size x y→h'.objs.size=s.heap.objs.size + 1 →
   (∀ c o,c≠z→c≠TO→c≠i1→c≠i2→s.heap.get? c=some o→h'.get? c=some o)→Q (.ref s.heap.objs.size) { s with heap:=h' }) :
  wpAny (model prog w) A (Builtin.«zip.__next__» ⟨[.ref z],[]⟩) (fun fin s'=>∃ v,fin=.done (.ret v)∧Q v s') E s:=by
 show wpAny _ _ (field (.ref z) 2 >>= _) _ _ _
 refine wpAny_bind (wpAny_field hz rfl (x:=.bool false) rfl ?_)
 show wpAny _ _ (field (.ref z) 3 >>= _) _ _ _
 refine wpAny_bind (wpAny_field hz rfl (x:=.ref TI) rfl ?_)
 refine wpAny_bind (wpAny_seqItems hTI rfl ?_)
 show wpAny _ _ (Builtin.SmallTypes.ownedTupleIsFree (.ref z) >>= _) _ _ _
 refine wpAny_bind ?_
 unfold Builtin.SmallTypes.ownedTupleIsFree
 refine wpAny_bind (wpAny_field hz rfl (x:=.none) rfl (wpAny_pure ?_))
 simp only [if_true]
 refine wpAny_bind (wpAny_rule ?_)
 refine wpAny_bind (wpAny_field hz rfl (x:=.ref TO) rfl ?_)
 refine wpAny_bind (wpAny_setField_rec hz (by simp) fun h₁ hz₁ hs₁=>?_)
 replace hz₁:IsZip h₁ z TI TO .ellipsis:=hz₁
 refine wpAny_bind ?_
 simp only [List.zipIdx_cons,List.zipIdx_nil,List.forIn_cons,List.forIn_nil]
 refine wpAny_bind (wpAny_bind (wpAny_onRaise ?_))
 show wpAny _ _ (Builtin.SmallTypes.nextOf (.ref i1) >>= _) _ _ _
 refine wpAny_bind (zada (h1.ext hs₁.extBut D.i1z) (hl1.ext hs₁.extBut D.l1z) hx fun h₂ h1₂ hs₂=>wpAny_pure ?_)
 have hTO₂:IsPair h₂ TO a b:=hs₂.extBut _ _ D.TOi1 (hs₁.extBut _ _ D.TOz hTO)
 refine wpAny_bind (wpAny_seqItems hTO₂ rfl ?_)
 refine wpAny_bind (wpAny_updateSeq_pair hTO₂ fun h₃ hTO₃ hs₃=>?_)
 replace hTO₃:IsPair h₃ TO x b:=hTO₃
 refine wpAny_bind (wpAny_letGo (wpAny_pure ?_))
 refine wpAny_bind (wpAny_bind (wpAny_onRaise ?_))
 show wpAny _ _ (Builtin.SmallTypes.nextOf (.ref i2) >>= _) _ _ _
 refine wpAny_bind (zada (((h2.ext hs₁.extBut D.i2z).ext hs₂.extBut D.i12.symm).ext hs₃.extBut D.TOi2.symm)
  (((hl2.ext hs₁.extBut D.l2z).ext hs₂.extBut D.l2i1).ext hs₃.extBut D.l2TO) hy fun h₄ h2₄ hs₄=>wpAny_pure ?_)
 have hTO₄:IsPair h₄ TO x b:=hs₄.extBut _ _ D.TOi2 hTO₃
 refine wpAny_bind (wpAny_seqItems hTO₄ rfl ?_)
 refine wpAny_bind (wpAny_updateSeq_pair hTO₄ fun h₅ hTO₅ hs₅=>?_)
 replace hTO₅:IsPair h₅ TO x y:=hTO₅
 refine wpAny_bind (wpAny_letGo (wpAny_pure (wpAny_pure ?_)))
 refine wpAny_bind (wpAny_seqItems hTO₅ rfl ?_)
 refine wpAny_bind (wpAny_newTuple ?_)
 have hsz:h₅.objs.size=s.heap.objs.size:=by rw [hs₅.1,hs₄.1,hs₃.1,hs₂.1,hs₁.1]
 have hz₅:IsZip h₅ z TI TO .ellipsis:=hs₅.extBut _ _ D.TOz.symm (hs₄.extBut _ _ D.i2z.symm (hs₃.extBut _ _ D.TOz.symm (hs₂.extBut _ _ D.i1z.symm hz₁)))
 have hk₅:∀ c o,c≠z→c≠TO→c≠i1→c≠i2→s.heap.get? c=some o→h₅.get? c=some o:=fun c o c1 c2 c3 c4 e =>
  hs₅.extBut _ _ c2 (hs₄.extBut _ _ c4 (hs₃.extBut _ _ c2 (hs₂.extBut _ _ c3 (hs₁.extBut _ _ c1 e))))
 have h1₅:SIt k1 h₅ i1 l1 (n1 + 1):=((h1₂.ext hs₃.extBut D.TOi1.symm).ext hs₄.extBut D.i12).ext hs₅.extBut D.TOi1.symm
 have h2₅:SIt k2 h₅ i2 l2 (n2 + 1):=h2₄.ext hs₅.extBut D.TOi2.symm
 have hzlt:z < h₅.objs.size:=Heap.lt_size hz₅
 show wpAny _ _ (Builtin.SmallTypes.ownedTupleHandOut (.ref z) (.ref h₅.objs.size) >>= _) _ _ _
 refine wpAny_bind ?_
 unfold Builtin.SmallTypes.ownedTupleHandOut
 have hz₆:IsZip (h₅.push { cls:=.type "tuple",data:=.seq #[x,y] }) z TI TO .ellipsis:=Heap.get?_push_of_some _ hz₅
 refine wpAny_bind (wpAny_setField_rec hz₆ (by simp) fun h₇ hz₇ hs₇=>?_)
 replace hz₇:IsZip h₇ z TI TO (rawInt h₅.objs.size):=hz₇
 refine wpAny_setField_rec hz₇ (by simp) fun h₈ hz₈ hs₈=>?_
 replace hz₈:IsZip h₈ z TI TO (rawInt h₅.objs.size):=hz₈
 have up:∀ c o,c≠z→h₅.get? c=some o→h₈.get? c=some o:=fun c o c1 e=>hs₈.extBut _ _ c1 (hs₇.extBut _ _ c1 (Heap.get?_push_of_some _ e))
 have hT₈:IsPair h₈ h₅.objs.size x y:=hs₈.extBut _ _ (Nat.ne_of_gt hzlt) (hs₇.extBut _ _ (Nat.ne_of_gt hzlt) (Heap.get?_push_size _ rfl))
 have hz8:h₈.objs.size=h₅.objs.size + 1:=by rw [hs₈.1,hs₇.1,Heap.size_push]
 rw [hsz] at hz₈ hT₈ hz8
 refine wpAny_pure ⟨_,rfl,?_⟩
 show Q (.ref h₅.objs.size) _
 rw [hsz]
 exact hQ h₈ hz₈ (up _ _ D.TOz hTO₅) (h1₅.at fun o e=>up _ o D.i1z e) (h2₅.at fun o e=>up _ o D.i2z e) hT₈ hz8 fun c o c1 c2 c3 c4 e=>up c o c1 (hk₅ c o c1 c2 c3 c4 e)
theorem zaps {k1 k2:SK}{z TI TO i1 i2 l1 l2:Addr}{n1 n2:Nat}{xs ys:Array Value}{a b:Value}{Q:Fin→Shared→Prop} (hh:A.handled=none) (D:ZipApart z TI TO i1 i2 l1 l2)
  (hz:IsZip s.heap z TI TO .none) (hTI:IsPair s.heap TI (.ref i1) (.ref i2)) (hTO:IsPair s.heap TO a b)
  (h1:SIt k1 s.heap i1 l1 n1) (h2:SIt k2 s.heap i2 l2 n2) (hl1:SIs k1 s.heap l1 xs) (hl2:SIs k2 s.heap l2 ys) (hend:xs[n1]?=none∨ys[n2]?=none)
  (hE:∀ h' e,(∀ c o,c≠z→c≠TO→c≠i1→c≠i2→s.heap.get? c=some o→h'.get? c=some o)→(∃ o,h'.get? e=some o∧o.cls=.type "StopIteration")→E (.ref e) { s with heap:=h' }) :
  wpAny (model prog w) A (Builtin.«zip.__next__» ⟨[.ref z],[]⟩) Q E s:=by
 show wpAny _ _ (field (.ref z) 2 >>= _) _ _ _
 refine wpAny_bind (wpAny_field hz rfl (x:=.bool false) rfl ?_)
 show wpAny _ _ (field (.ref z) 3 >>= _) _ _ _
 refine wpAny_bind (wpAny_field hz rfl (x:=.ref TI) rfl ?_)
 refine wpAny_bind (wpAny_seqItems hTI rfl ?_)
 show wpAny _ _ (Builtin.SmallTypes.ownedTupleIsFree (.ref z) >>= _) _ _ _
 refine wpAny_bind ?_
 unfold Builtin.SmallTypes.ownedTupleIsFree
 refine wpAny_bind (wpAny_field hz rfl (x:=.none) rfl (wpAny_pure ?_))
 simp only [if_true]
 refine wpAny_bind (wpAny_rule ?_)
 refine wpAny_bind (wpAny_field hz rfl (x:=.ref TO) rfl ?_)
 refine wpAny_bind (wpAny_setField_rec hz (by simp) fun h₁ hz₁ hs₁=>?_)
 replace hz₁:IsZip h₁ z TI TO .ellipsis:=hz₁
 refine wpAny_bind ?_
 simp only [List.zipIdx_cons,List.zipIdx_nil,List.forIn_cons,List.forIn_nil]
 refine wpAny_bind (wpAny_bind (wpAny_onRaise ?_))
 show wpAny _ _ (Builtin.SmallTypes.nextOf (.ref i1) >>= _) _ _ _
 cases hx:xs[n1]? with
 | none =>
  refine wpAny_bind (zae6 hh (h1.ext hs₁.extBut D.i1z) (hl1.ext hs₁.extBut D.l1z) hx fun h₂ e hs₂ he=>?_)
  obtain ⟨oe,hoe,hce⟩:=he
  have hz₂:IsZip h₂ z TI TO .ellipsis:=hs₂ _ _ D.i1z.symm hz₁
  have hez:e≠z:=fun x=>by subst x; rw [hz₂] at hoe; cases hoe; simp at hce
  refine wpAny_setField_rec hz₂ (by simp) fun h₃ _ hs₃=>hE h₃ e (fun c o c1 _ c3 _ x=>hs₃.extBut _ _ c1 (hs₂ _ _ c3 (hs₁.extBut _ _ c1 x))) ⟨oe,hs₃.extBut _ _ hez hoe,hce⟩
 | some x =>
  have hy:ys[n2]?=none:=by rcases hend with h | h; rw [hx] at h; cases h; exact h
  refine wpAny_bind (zada (h1.ext hs₁.extBut D.i1z) (hl1.ext hs₁.extBut D.l1z) hx fun h₂ h1₂ hs₂=>wpAny_pure ?_)
  have hTO₂:IsPair h₂ TO a b:=hs₂.extBut _ _ D.TOi1 (hs₁.extBut _ _ D.TOz hTO)
  refine wpAny_bind (wpAny_seqItems hTO₂ rfl ?_)
  refine wpAny_bind (wpAny_updateSeq_pair hTO₂ fun h₃ hTO₃ hs₃=>?_)
  refine wpAny_bind (wpAny_letGo (wpAny_pure ?_))
  refine wpAny_bind (wpAny_bind (wpAny_onRaise ?_))
  show wpAny _ _ (Builtin.SmallTypes.nextOf (.ref i2) >>= _) _ _ _
  refine wpAny_bind (zae6 hh (((h2.ext hs₁.extBut D.i2z).ext hs₂.extBut D.i12.symm).ext hs₃.extBut D.TOi2.symm)
   (((hl2.ext hs₁.extBut D.l2z).ext hs₂.extBut D.l2i1).ext hs₃.extBut D.l2TO) hy fun h₄ e hs₄ he=>?_)
  obtain ⟨oe,hoe,hce⟩:=he
  have hz₄:IsZip h₄ z TI TO .ellipsis:=hs₄ _ _ D.i2z.symm (hs₃.extBut _ _ D.TOz.symm (hs₂.extBut _ _ D.i1z.symm hz₁))
  have hez:e≠z:=fun x=>by subst x; rw [hz₄] at hoe; cases hoe; simp at hce
  refine wpAny_setField_rec hz₄ (by simp) fun h₅ _ hs₅=>hE h₅ e (fun c o c1 c2 c3 c4 x=>hs₅.extBut _ _ c1 (hs₄ _ _ c4 (hs₃.extBut _ _ c2 (hs₂.extBut _ _ c3 (hs₁.extBut _ _ c1 x))))) ⟨oe,hs₅.extBut _ _ hez hoe,hce⟩
end
section
variable {X:Cx}{pins:List (Addr × Obj)}{σ:List (Option V)}{H H':Hp}{s:Shared}{h':Heap}
theorem Inv.turnedL {t':Nat}{its:List Addr} (I:Inv X pins σ H s) (k:∀ b o,b ∉ its→s.heap.get? b=some o→h'.get? b=some o) (hf:∀ b∈its,FpOk X pins H b):Inv X pins σ H { s with heap:=h',toks:=t' }:=by
 have nit:∀ b u,H b=some u→b ∉ its:=fun b u e z=>by rw [(hf b z).1] at e; cases e
 refine I.step (g':=s.gens) (d':=s.drawn) (ch:=its) (fun b hb=>?_) (fun b o _ _ hc e _=>k b o hc e) (fun b o _ _ hc e _=>⟨o.slots,k b o hc e⟩) (fun _ _ _ _ n=>n)
  (fun b o hc e=>⟨o,k b o hc e⟩) (fun _ _ e=>e) (fun _ _ _ e=>e) (fun b ps e=>⟨#[],by rw [e]; simp⟩) (fun m hm=>?_) (fun b u e=>?_) I.bare
 ·obtain ⟨f0,f1,f2,f3,f4,f5⟩:=hf b hb
  exact ⟨f3,f1,f4,f5⟩
 ·obtain ⟨o,es,ep,ho,r⟩:=hm
  exact ⟨o,es,ep,k _ o (fun z=>(hf _ z).2.1 rfl) ho,r⟩
 ·refine (I.hok b u e).stay (fun c v hc q=>k c v ?_ q) (fun _ q=>q) fun _ _ q=>q
  rcases hc with z | z
  ·rw [z]; exact nit b u e
  ·exact nit c _ z
theorem Inv.turnedNew {t':Nat}{its:List Addr}{T:Addr}{o:HO} (I:Inv X pins σ H s) (k:∀ b ob,b ∉ its→s.heap.get? b=some ob→h'.get? b=some ob) (hf:∀ b∈its,FpOk X pins H b)
  (hT:s.heap.objs.size≤T) (new:ObjOk X.prog X.w (upd H T o) h' T o):Inv X pins σ (upd H T o) { s with heap:=h',toks:=t' }:=by
 have nit:∀ b u,H b=some u→b ∉ its:=fun b u e z=>by rw [(hf b z).1] at e; cases e
 have hn:H T=none:=I.hok.fresh hT
 have neT:∀ b ob,s.heap.get? b=some ob→b≠T:=fun b ob e=>Nat.ne_of_lt (Nat.lt_of_lt_of_le (Heap.lt_size e) hT)
 have up:∀ b u,H b=some u→upd H T o b=some u:=fun b u e=>by rw [zaax (zaaw e hn)]; exact e
 refine I.step (g':=s.gens) (d':=s.drawn) (ch:=its) (fun b hb=>?_) (fun b ob _ _ hc e _=>k b ob hc e) (fun b ob _ _ hc e _=>⟨ob.slots,k b ob hc e⟩) (fun b ob _ e n=>by rw [zaax (neT b ob e)]; exact n)
  (fun b ob hc e=>⟨ob,k b ob hc e⟩) (fun b _ e=>up b _ e) (fun b _ _ e=>up b _ e) (fun b ps e=>⟨#[],by rw [up b _ e]; simp⟩) (fun m hm=>?_) (fun b u e=>?_) I.bare
 ·obtain ⟨f0,f1,f2,f3,f4,f5⟩:=hf b hb
  exact ⟨f3,f1,f4,f5⟩
 ·obtain ⟨ob,es,ep,ho,r⟩:=hm
  exact ⟨ob,es,ep,k _ ob (fun z=>(hf _ z).2.1 rfl) ho,r⟩
 ·by_cases hb:b=T
  ·subst hb; rw [zaai] at e; cases e; exact new
  ·rw [zaax hb] at e
   refine (I.hok b u e).stay (fun c v hc q=>k c v ?_ q) (fun c q=>up c _ q) fun c xs q=>up c _ q
   rcases hc with z | z
   ·rw [z]; exact nit b u e
   ·exact nit c _ z
end
theorem Inv.sis {X:Cx}{pins:List (Addr × Obj)}{σ:St}{H:Hp}{s:Shared}{k:SK}{a:Addr}{xs:List V} (I:Inv X pins σ H s) (h:Sq k X.K H a xs):∃ its:List Value,Vals xs its∧SIs k s.heap a its.toArray:=by
 cases k with
 | list=>obtain ⟨its,r,p,_⟩:=I.list h; exact ⟨its,r,p.isList⟩
 | tuple=>obtain ⟨its,r,p,_⟩:=I.tuple h; exact ⟨its,r,(show s.heap.IsTuple a its.toArray from p)⟩
theorem Inv.sq_inj {X:Cx}{pins:List (Addr × Obj)}{σ:St}{H:Hp}{s:Shared}{k:SK}{a:Addr}{xs ys:List V} (I:Inv X pins σ H s) (h:Sq k X.K H a xs) (h':Sq k X.K H a ys):xs=ys:=by
 cases k with
 | list=>exact I.list_inj h h'
 | tuple=>exact I.tuple_inj h h'
def Itz (K:PySem.W.Frag) (k1 k2:SK) (a b:Addr):It :=
 ⟨fun i H=>∃ xs ys x y,Sq k1 K H a xs∧Sq k2 K H b ys∧xs[i]?=some x∧ys[i]?=some y,
  fun i H v H'=>∃ T,H T=none∧v=.ref T∧∀ xs ys,Sq k1 K H a xs→Sq k2 K H b ys→∃ x y,xs[i]?=some x∧ys[i]?=some y∧H'=upd H T (.tup [x,y]),
  fun i H=>∃ xs ys,Sq k1 K H a xs∧Sq k2 K H b ys∧(xs.length≤i∨ys.length≤i)⟩
theorem zapt {P:Program}{w:World}{K:PySem.W.Frag}{elts:List Expr}{kk:Nat}{tpos:Pos}{k1 k2:SK}{z TI TO i1 i2 a b:Addr} (D:ZipApart z TI TO i1 i2 a b) :
  Turn P w K (.Tuple elts kk tpos) (Itz K k1 k2 a b) [z,TI,TO,i1,i2] z (fun i h=>IsZip h z TI TO .none∧IsPair h TI (.ref i1) (.ref i2)∧(∃ c d,IsPair h TO c d)∧SIt k1 h i1 a i∧SIt k2 h i2 b i) where
 mem:=by simp
 obj:=fun i h st b hb=>by
  obtain ⟨hz,hTI,⟨c,d,hTO⟩,h1,h2⟩:=st
  simp only [List.mem_cons,List.not_mem_nil,or_false] at hb
  rcases hb with rfl | rfl | rfl | rfl | rfl
  ·exact ⟨_,hz,fun v q=>nomatch q⟩
  ·exact ⟨_,hTI,fun v q=>nomatch q⟩
  ·exact ⟨_,hTO,fun v q=>nomatch q⟩
  ·exact h1.obj
  ·exact h2.obj
 keep:=fun i h h' st k=>by
  obtain ⟨hz,hTI,⟨c,d,hTO⟩,h1,h2⟩:=st
  exact ⟨k _ (by simp) _ hz,k _ (by simp) _ hTI,⟨c,d,k _ (by simp) _ hTO⟩,h1.at fun o e=>k _ (by simp) o e,h2.at fun o e=>k _ (by simp) o e⟩
 item:=by
  intro X hP hw hK hc i pins s σ H E I hf st hg
  subst hP hw hK
  obtain ⟨hz,hTI,⟨c,d,hTO⟩,h1,h2⟩:=st
  obtain ⟨xs,ys,x,y,q1,q2,hx,hy⟩:=hg
  obtain ⟨ix,rx,px⟩:=I.sis q1
  obtain ⟨iy,ry,py⟩:=I.sis q2
  obtain ⟨u,hu,ru⟩:=rx.get hx
  obtain ⟨v,hv,rv⟩:=ry.get hy
  have hT:s.TypeIs (.ref z) "zip" := ⟨_,hz,rfl⟩
  unfold pyNext
  refine wpAny_bind (wpAny_attempt (wpAny_callSpecial?_slot (name:=Str.ofString "__next__") hT F.slot_zip_next
   (wpAny_call_entry F.slot_zip_next hT F.entry_zip_next
    (zamt D hz hTI hTO h1 h2 px py (x:=u) (y:=v) (by simpa using hu) (by simpa using hv) fun h' a1 a2 a3 a4 a5 a6 a7=>wpAny_pure ?_) (F.args_zip_next_1 _))))
  refine ⟨_,rfl,wpAny_letOwnedTupleGo_zip (s:={ s with heap:=h' }) a1 fun h'' b1 b2=>?_⟩
  have zlt:z < s.heap.objs.size:=Heap.lt_size hz
  have k2:∀ c o,c ∉ [z,TI,TO,i1,i2]→s.heap.get? c=some o→h''.get? c=some o:=fun c o hc e=>by
   simp only [List.mem_cons,List.not_mem_nil,or_false,not_or] at hc
   exact b2.extBut _ _ hc.1 (a7 c o hc.1 hc.2.2.1 hc.2.2.2.1 hc.2.2.2.2 e)
  have hT2:IsPair h'' s.heap.objs.size u v:=b2.extBut _ _ (Nat.ne_of_gt zlt) a5
  refine ⟨.ref s.heap.objs.size,upd H s.heap.objs.size (.tup [x,y]),I.turnedNew (t':=s.toks) (o:=.tup [x,y]) k2 hf (Nat.le_refl _) ⟨by show 2≤sizeLine; decide,[u,v],.cons ru (.cons rv .nil),⟨_,hT2,rfl,_,rfl⟩⟩,rfl,
   ⟨_,I.hok.fresh (Nat.le_refl _),rfl,fun xs' ys' e1 e2=>?_⟩,⟨b1,?_,⟨_,_,b2.extBut _ _ D.TOz a2⟩,a3.at fun o e=>b2.extBut _ _ D.i1z e,a4.at fun o e=>b2.extBut _ _ D.i2z e⟩,fun b hb=>?_⟩
  ·rw [I.sq_inj e1 q1,I.sq_inj e2 q2]
   exact ⟨x,y,hx,hy,rfl⟩
  ·exact b2.extBut _ _ D.TIz (a7 _ _ D.TIz D.TITO D.TIi1 D.TIi2 hTI)
  ·have blt:b < s.heap.objs.size:=by
    simp only [List.mem_cons,List.not_mem_nil,or_false] at hb
    rcases hb with rfl | rfl | rfl | rfl | rfl
    ·exact zlt
    ·exact Heap.lt_size hTI
    ·exact Heap.lt_size hTO
    ·obtain ⟨o,e,_⟩:=h1.obj; exact Heap.lt_size e
    ·obtain ⟨o,e,_⟩:=h2.obj; exact Heap.lt_size e
   rw [zaax (Nat.ne_of_lt blt)]
   exact (hf b hb).1
 done:=by
  intro X hP hw hK hc i pins s σ H E I hf st hg
  subst hP hw hK
  obtain ⟨hz,hTI,⟨c,d,hTO⟩,h1,h2⟩:=st
  obtain ⟨xs,ys,q1,q2,hl⟩:=hg
  obtain ⟨ix,rx,px⟩:=I.sis q1
  obtain ⟨iy,ry,py⟩:=I.sis q2
  have l1:=rx.length
  have l2:=ry.length
  have hend:ix.toArray[i]?=none∨iy.toArray[i]?=none:=by
   rcases hl with h | h
   ·exact .inl (by simp; omega)
   ·exact .inr (by simp; omega)
  have hT:s.TypeIs (.ref z) "zip" := ⟨_,hz,rfl⟩
  unfold pyNext
  refine wpAny_bind (wpAny_attempt (wpAny_callSpecial?_slot (name:=Str.ofString "__next__") hT F.slot_zip_next
   (wpAny_call_entry F.slot_zip_next hT F.entry_zip_next (zaps (I.ok.hd hc) D hz hTI hTO h1 h2 px py hend fun h' e hk he=>?_) (F.args_zip_next_1 _))))
  obtain ⟨o,ho,hc'⟩:=he
  refine wpAny_bind (wpAny_isInstance (T := "StopIteration") (b:=true) ⟨o,ho,hc'⟩ isSubtype_stop ?_)
  refine wpAny_pure ⟨rfl,I.turnedL (t':=s.toks) (its:=[z,TI,TO,i1,i2]) (fun b o hb e=>?_) hf⟩
  simp only [List.mem_cons,List.not_mem_nil,or_false,not_or] at hb
  exact hk b o hb.1 hb.2.2.1 hb.2.2.2.1 hb.2.2.2.2 e
 self:=fun _ _ _ _ _ st h=>wpAny_pyIter_zip st.1 h
def itObj (k:SK) (l:Addr):Obj:=match k with
 | .list=>{ cls:=.type "list_iterator",data:=.fields #[.ref l,.int 0 0] }
 | .tuple=>{ cls:=.type "tuple_iterator",data:=.fields #[.ref l,.int 0 0] }
theorem zahm {k:SK}{l it:Addr}{h:Heap} (e:h.get? it=some (itObj k l)):SIt k h it l 0:=by
 cases k with
 | list=>exact ⟨_,e,rfl,rfl⟩
 | tuple=>exact ⟨_,e,rfl,rfl⟩
abbrev zS1 (h:Heap) (k1:SK) (l1:Addr):Heap:=h.push (itObj k1 l1)
abbrev zS2 (h:Heap) (k1 k2:SK) (l1 l2:Addr):Heap:=(zS1 h k1 l1).push (itObj k2 l2)
abbrev zS3 (h:Heap) (k1 k2:SK) (l1 l2:Addr):Heap:=(zS2 h k1 k2 l1 l2).push { cls:=.type "tuple",data:=.seq #[.ref h.objs.size,.ref (zS1 h k1 l1).objs.size] }
abbrev zS4 (h:Heap) (k1 k2:SK) (l1 l2:Addr):Heap:=(zS3 h k1 k2 l1 l2).push { cls:=.type "tuple",data:=.seq #[.none,.none] }
abbrev zS5 (h:Heap) (k1 k2:SK) (l1 l2:Addr):Heap:=(zS4 h k1 k2 l1 l2).push { cls:=.type "zip",data:=.fields #[.none,.bool false,.bool false,.ref (zS2 h k1 k2 l1 l2).objs.size,.ref (zS3 h k1 k2 l1 l2).objs.size] }
set_option maxHeartbeats 4000000 in
theorem zag0 (k1 k2:SK) (l1 l2:Addr) (xs ys:Array Value) :
  Meets (Builtin.«zip.__new__» ⟨[.type "zip",.ref l1,.ref l2],[]⟩) (fun _ R s=>SIs k1 s.heap l1 xs∧SIs k2 s.heap l2 ys ∧
   R (.ok (.ret (.ref (zS4 s.heap k1 k2 l1 l2).objs.size))) { s with heap:=zS5 s.heap k1 k2 l1 l2 }):=by
 cases k1 with
 | list =>
  cases k2 with
  | list =>
   exact .of_wp fun prog w A R s h=>by
    obtain ⟨hp,g,d,tk,os⟩:=s; obtain ⟨hl1,hl2,h⟩:=h
    have hsub:=sub_zip
    have hL1:Heap.IsList (Shared.heap ⟨hp,g,d,tk,os⟩) l1 xs:=hl1
    have hL2:Heap.IsList (Shared.heap ⟨hp.push { cls:=.type "list_iterator",data:=.fields #[.ref l1,.int 0 0] },g,d,tk,os⟩) l2 ys:=Heap.IsList.push hl2 _
    wp_walk using wpAny_pyIter_list hL1,wpAny_pyIter_list hL2
    exact ⟨_,rfl,h⟩
  | tuple =>
   exact .of_wp fun prog w A R s h=>by
    obtain ⟨hp,g,d,tk,os⟩:=s; obtain ⟨hl1,hl2,h⟩:=h
    have hsub:=sub_zip
    have hL1:Heap.IsList (Shared.heap ⟨hp,g,d,tk,os⟩) l1 xs:=hl1
    have hL2:Heap.IsTuple (Shared.heap ⟨hp.push { cls:=.type "list_iterator",data:=.fields #[.ref l1,.int 0 0] },g,d,tk,os⟩) l2 ys:=SIs.at (k:=.tuple) hl2 fun o e=>Heap.get?_push_of_some _ e
    wp_walk using wpAny_pyIter_list hL1,wpAny_pyIter_tuple hL2
    exact ⟨_,rfl,h⟩
 | tuple =>
  cases k2 with
  | list =>
   exact .of_wp fun prog w A R s h=>by
    obtain ⟨hp,g,d,tk,os⟩:=s; obtain ⟨hl1,hl2,h⟩:=h
    have hsub:=sub_zip
    have hL1:Heap.IsTuple (Shared.heap ⟨hp,g,d,tk,os⟩) l1 xs:=hl1
    have hL2:Heap.IsList (Shared.heap ⟨hp.push { cls:=.type "tuple_iterator",data:=.fields #[.ref l1,.int 0 0] },g,d,tk,os⟩) l2 ys:=SIs.at (k:=.list) hl2 fun o e=>Heap.get?_push_of_some _ e
    wp_walk using wpAny_pyIter_tuple hL1,wpAny_pyIter_list hL2
    exact ⟨_,rfl,h⟩
  | tuple =>
   exact .of_wp fun prog w A R s h=>by
    obtain ⟨hp,g,d,tk,os⟩:=s; obtain ⟨hl1,hl2,h⟩:=h
    have hsub:=sub_zip
    have hL1:Heap.IsTuple (Shared.heap ⟨hp,g,d,tk,os⟩) l1 xs:=hl1
    have hL2:Heap.IsTuple (Shared.heap ⟨hp.push { cls:=.type "tuple_iterator",data:=.fields #[.ref l1,.int 0 0] },g,d,tk,os⟩) l2 ys:=SIs.at (k:=.tuple) hl2 fun o e=>Heap.get?_push_of_some _ e
    wp_walk using wpAny_pyIter_tuple hL1,wpAny_pyIter_tuple hL2
    exact ⟨_,rfl,h⟩
section
variable {prog:Program}{w:World}{A:Around}{E:Value→Shared→Prop}{s:Shared}
theorem zamu {k1 k2:SK}{l1 l2:Addr}{xs ys:Array Value}{Q:Value→Shared→Prop} (hl1:SIs k1 s.heap l1 xs) (hl2:SIs k2 s.heap l2 ys)
  (h:∀ h',IsZip h' (s.heap.objs.size + 4) (s.heap.objs.size + 2) (s.heap.objs.size + 3) .none→IsPair h' (s.heap.objs.size + 2) (.ref s.heap.objs.size) (.ref (s.heap.objs.size + 1)) →
   IsPair h' (s.heap.objs.size + 3) .none .none→SIt k1 h' s.heap.objs.size l1 0→SIt k2 h' (s.heap.objs.size + 1) l2 0 →
   (∀ c o,s.heap.get? c=some o→h'.get? c=some o)→Q (.ref (s.heap.objs.size + 4)) { s with heap:=h' }) :
  wpAny (model prog w) A (call (.type "zip") [.ref l1,.ref l2]) Q E s:=by
 refine callType_new F.called_zip (by decide) (F.typeCall_zip_2 _ _) (F.newCall_zip_2 _ _) (fun obj=>F.args_object_init_3 obj _ _) F.entry_zip_new
  (zag0 k1 k2 l1 l2 xs ys) ⟨hl1,hl2,?_⟩
 have z1:(zS1 s.heap k1 l1).objs.size=s.heap.objs.size + 1:=Heap.size_push ..
 have z2:(zS2 s.heap k1 k2 l1 l2).objs.size=s.heap.objs.size + 2:=by rw [Heap.size_push,z1]
 have z3:(zS3 s.heap k1 k2 l1 l2).objs.size=s.heap.objs.size + 3:=by rw [Heap.size_push,z2]
 have z4:(zS4 s.heap k1 k2 l1 l2).objs.size=s.heap.objs.size + 4:=by rw [Heap.size_push,z3]
 have r1:(itObj k1 l1).isFreed=false:=by cases k1 <;> rfl
 have r2:(itObj k2 l2).isFreed=false:=by cases k2 <;> rfl
 have g5:(zS5 s.heap k1 k2 l1 l2).get? (zS4 s.heap k1 k2 l1 l2).objs.size=some _:=Heap.get?_push_size _ rfl
 have g4:(zS5 s.heap k1 k2 l1 l2).get? (zS3 s.heap k1 k2 l1 l2).objs.size=some _:=Heap.get?_push_of_some _ (Heap.get?_push_size _ rfl)
 have g3:(zS5 s.heap k1 k2 l1 l2).get? (zS2 s.heap k1 k2 l1 l2).objs.size=some _:=Heap.get?_push_of_some _ (Heap.get?_push_of_some _ (Heap.get?_push_size _ rfl))
 have g2:(zS5 s.heap k1 k2 l1 l2).get? (zS1 s.heap k1 l1).objs.size=some _:=Heap.get?_push_of_some _ (Heap.get?_push_of_some _ (Heap.get?_push_of_some _ (Heap.get?_push_size _ r2)))
 have g1:(zS5 s.heap k1 k2 l1 l2).get? s.heap.objs.size=some _:=Heap.get?_push_of_some _ (Heap.get?_push_of_some _ (Heap.get?_push_of_some _ (Heap.get?_push_of_some _ (Heap.get?_push_size _ r1))))
 show _∧_
 rw [z2,z3,z4] at g5
 rw [z1,z2] at g3
 rw [z3] at g4
 rw [z1] at g2
 rw [z4]
 exact ⟨⟨_,g5,rfl⟩,h _ g5 g3 g4 (zahm g1) (zahm g2) fun c o x =>
  Heap.get?_push_of_some _ (Heap.get?_push_of_some _ (Heap.get?_push_of_some _ (Heap.get?_push_of_some _ (Heap.get?_push_of_some _ x))))⟩
end
section
variable {X:Cx}{elts:List Expr}{kk:Nat}{tpos:Pos}
def iZip (K:PySem.W.Frag) (k1 k2:SK) (ta:TA):TI:=fun σ H R=>ta σ H fun vs H1=>∃ a b,vs=[.ref a,.ref b]∧(∃ xs,Sq k1 K H1 a xs)∧(∃ ys,Sq k2 K H1 b ys)∧R (Itz K k1 k2 a b) H1
theorem zau8 (k1 k2:SK) {a b:Expr}{ta:TA}{p pos:Pos} (hg:Gl X "zip") (hm:X.mg "zip" = none) (ha:PA X [a,b] ta) (hs:starEach [a,b] X.env=[(false,eval a X.env),(false,eval b X.env)]:=by rfl) (hs2:starEach [b] X.env=[(false,eval b X.env)]:=by rfl) :
  PI X (.Tuple elts kk tpos) (.Call (.Name "zip" p) [a,b] [] pos) (iZip X.K k1 k2 ta):=by
 intro pins s σ H R I h
 refine Call_ (zag3 I hg hm boot_zip (PyProof.Rows.callWith_type1 (thn (ha pos pins s σ H _ I h) fun us s1 ⟨vs,H1,I1,r1,q1⟩=>?_) (by rw [hs,hs2]) (by rw [hs2]; rfl)))
 obtain ⟨a',b',e,⟨xs,qx⟩,⟨ys,qy⟩,q⟩:=q1
 subst e
 obtain ⟨u,v,rfl,ru,rv⟩:=vals2 r1
 cases ru
 cases rv
 obtain ⟨ix,rx,px⟩:=I1.sis qx
 obtain ⟨iy,ry,py⟩:=I1.sis qy
 refine zamu px py fun h' b1 b2 b3 b4 b5 b6=>wpAny_pyIter_zip (s:={ s1 with heap:=h' }) b1 ?_
 have nn:∀ b,s1.heap.objs.size≤b→FpOk X pins H1 b:=fun b hb=>I1.fpOk hb (I1.hok.fresh hb)
 refine ⟨_,[s1.heap.objs.size + 4,s1.heap.objs.size + 2,s1.heap.objs.size + 3,s1.heap.objs.size,s1.heap.objs.size + 1],_,_,H1,rfl,I1.kept (t':=s1.toks) b6,zapt (k1:=k1) (k2:=k2) (zipApart_new px.lt py.lt),⟨b1,b2,⟨_,_,b3⟩,b4,b5⟩,fun b hb=>?_,q⟩
 simp only [List.mem_cons,List.not_mem_nil,or_false] at hb
 rcases hb with rfl | rfl | rfl | rfl | rfl
 ·exact nn _ (Nat.le_add_right _ _)
 ·exact nn _ (Nat.le_add_right _ _)
 ·exact nn _ (Nat.le_add_right _ _)
 ·exact nn _ (Nat.le_refl _)
 ·exact nn _ (Nat.le_add_right _ _)
theorem zapu {K:PySem.W.Frag}{k1 k2:SK}{a b:Addr}{xs ys:List V}{g:TG}{tb:TS}{D:Ends}{σ:St}{H:Hp} (Pv:Nat→St→Hp→Prop) (h0:Pv 0 σ H)
  (hl:∀ i σ H,i≤min xs.length ys.length→Pv i σ H→Sq k1 K H a xs∧Sq k2 K H b ys)
  (hs:∀ i x y σ H T,xs[i]?=some x→ys[i]?=some y→Pv i σ H→H T=none→g (.ref T) σ (upd H T (.tup [x,y])) fun σ2 H2=>tb { D with nx:=Pv (i + 1),ct:=Pv (i + 1),bk:=D.nx } σ2 H2)
  (hd:∀ σ H,Pv (min xs.length ys.length) σ H→D.nx σ H):Loop (Itz K k1 k2 a b) g tb D σ H:=by
 refine ⟨fun i m σ H=>m=min xs.length ys.length - i∧i≤min xs.length ys.length∧Pv i σ H,⟨min xs.length ys.length,by simp,Nat.zero_le _,h0⟩,?_⟩
 rintro i m σ H ⟨rfl,hi,p⟩
 obtain ⟨q1,q2⟩:=hl i σ H hi p
 by_cases hlt:i < min xs.length ys.length
 ·have l1:i < xs.length:=by omega
  have l2:i < ys.length:=by omega
  refine .inr ⟨⟨xs,ys,xs[i],ys[i],q1,q2,by simp [l1],by simp [l2]⟩,Pv (i + 1),fun σ' H' p'=>⟨min xs.length ys.length - (i + 1),by omega,rfl,hlt,p'⟩,fun x H' y=>?_⟩
  obtain ⟨T,hT,rfl,y⟩:=y
  obtain ⟨u,v,e1,e2,rfl⟩:=y xs ys q1 q2
  exact hs i u v σ H T e1 e2 p hT
 ·have e:i=min xs.length ys.length:=by omega
  refine .inl ⟨⟨xs,ys,q1,q2,by omega⟩,?_⟩
  subst e
  exact hd σ H p
end
end L2

namespace L2
open PySem PySem.Spec PyProof.Rows PySem.Builtin PySem.Builtin.Str
theorem Strl (x:Str):x.cps.toList.length=x.length:=by simp [Str.length]
theorem clipS (n d:Nat) (v:Int):max (0:Int) (min (if v < 0 then v + (n:Int) else v) (n:Int))=((HT.sIx n d (some v):Nat):Int):=by
 rw [← HT.clip_eq v n d]
 split <;> omega
theorem zaiy (lo hi:Option Int) (n:Nat):strSliceIndices lo hi 1 n=strSliceIndices (some ((HT.sIx n 0 lo:Nat):Int)) (some ((HT.sIx n n hi:Nat):Int)) 1 n:=by
 have l1:=HT.sIx_le n 0 (Nat.zero_le _) lo
 have l2:=HT.sIx_le n n (Nat.le_refl _) hi
 have c1:¬ ((HT.sIx n 0 lo:Nat):Int) < 0:=by omega
 have c2:¬ ((HT.sIx n n hi:Nat):Int) < 0:=by omega
 have m1:max (0:Int) (min ((HT.sIx n 0 lo:Nat):Int) (n:Int))=((HT.sIx n 0 lo:Nat):Int):=by omega
 have m2:max (0:Int) (min ((HT.sIx n n hi:Nat):Int) (n:Int))=((HT.sIx n n hi:Nat):Int):=by omega
 have p:((1:Int) > 0)=True:=by simp
 unfold strSliceIndices
 simp only [p,if_true,c1,c2,if_false,m1,m2]
 cases lo with
 | none =>
  cases hi with
  | none=>rfl
  | some v=>simp only [clipS n n v]; rfl
 | some u =>
  cases hi with
  | none=>simp only [clipS n 0 u]; rfl
  | some v=>simp only [clipS n 0 u,clipS n n v]
theorem zaer (x:Str) (lo hi:Option Int):(Txt.slice x lo hi).cps.toList=(x.cps.toList.drop (HT.sIx x.length 0 lo)).take (HT.sIx x.length x.length hi - HT.sIx x.length 0 lo):=by
 have l1:=HT.sIx_le x.length 0 (Nat.zero_le _) lo
 have l2:=HT.sIx_le x.length x.length (Nat.le_refl _) hi
 have hl:=Strl x
 unfold Txt.slice
 rw [zaiy]
 generalize HT.sIx x.length 0 lo=a at *
 generalize HT.sIx x.length x.length hi=b at *
 by_cases hab:a≤b
 ·rw [StrLaws.sliced_plain x hab l2]
  split
  ·rename_i h
   rw [StrLaws.strSliceIndices_plain hab l2] at h
   have h':b - a=x.length:=by simpa using h
   have ea:a=0:=by omega
   subst ea
   rw [List.drop_zero,List.take_of_length_le (by omega)]
  ·rfl
 ·have e:strSliceIndices (some (a:Int)) (some (b:Int)) 1 x.length=[]:=by
   have c1:¬ (a:Int) < 0:=by omega
   have c2:¬ (b:Int) < 0:=by omega
   have m1:max (0:Int) (min (a:Int) (x.length:Int))=(a:Int):=by omega
   have m2:max (0:Int) (min (b:Int) (x.length:Int))=(b:Int):=by omega
   have p:((1:Int) > 0)=True:=by simp
   have q:¬ (a:Int) < b:=by omega
   unfold strSliceIndices sliceRange
   simp only [p,if_true,c1,c2,if_false,m1,m2,q]
   rfl
  rw [e]
  have z:b - a=0:=by omega
  rw [z,List.take_zero]
  split
  ·rename_i h
   have h':0=x.length:=by simpa using h
   omega
  ·rfl
section
variable {X:Cx}
def rSlS:V→Option Int→Option Int→Hp→VK→Prop:=fun x lo hi H Q=>∃ z,x=.str z∧z.length≤sizeLine∧Q (.str (Txt.slice z lo hi)) H
theorem zaee:SlR X rSlS:=by
 intro pins s σ H x v vl vu lo hi sl Q I rx hs pl pu h
 obtain ⟨z,rfl,hz,q⟩:=h
 obtain ⟨t,rfl⟩:=rx
 refine ⟨"str",_,F.slot_str_getitem.lookup,typeIs_str _ _ _,?_⟩
 have fin:∀ t' k,EP X pins σ Q (.str (Txt.slice z lo hi) t') { s with toks:=k }:=fun t' k=>⟨.str (Txt.slice z lo hi),H,I.tok _,⟨_,rfl⟩,q⟩
 cases pl with
 | none =>
  cases pu with
  | none=>exact wpAny_getItem_str_slice (l:=none) (u:=none) (st:=none) hs rfl (post_val_or_str ⟨Nat.le_trans (Txt.slice_le z _ _) hz,fin⟩)
  | int j uj=>exact wpAny_getItem_str_slice (l:=none) (u:=some (j,uj)) (st:=none) hs rfl (post_val_or_str ⟨Nat.le_trans (Txt.slice_le z _ _) hz,fin⟩)
 | int i ui =>
  cases pu with
  | none=>exact wpAny_getItem_str_slice (l:=some (i,ui)) (u:=none) (st:=none) hs rfl (post_val_or_str ⟨Nat.le_trans (Txt.slice_le z _ _) hz,fin⟩)
  | int j uj=>exact wpAny_getItem_str_slice (l:=some (i,ui)) (u:=some (j,uj)) (st:=none) hs rfl (post_val_or_str ⟨Nat.le_trans (Txt.slice_le z _ _) hz,fin⟩)
def rMulS:R2:=fun x y H Q=>∃ c n,x=.str ⟨#[c]⟩∧y=.int n∧1≤n∧n≤1000∧∀ z:Str,z.cps.toList=List.replicate n.toNat c→Q (.str z) H
theorem zag9:OpR X (binaryOp .Mult) rMulS:=by
 intro pins s σ H x y v u Q I rx ry h
 obtain ⟨c,n,rfl,rfl,h1,h2,q⟩:=h
 obtain ⟨t,rfl⟩:=rx
 obtain ⟨t',rfl⟩:=ry
 have l1:(⟨#[c]⟩:Str).length=1:=rfl
 refine P.mul_str (by
  have a:decide (n < -(2 ^ 63:Int))=false:=decide_eq_false (by omega)
  have b:decide (n ≥ 2 ^ 63)=false:=decide_eq_false (by omega)
  rw [a,b]; rfl) (fun _ _=>by
   rw [l1]
   have h3:(1:Int)≤(2 ^ 63 - 1) / n:=(Int.le_ediv_iff_mul_le (by omega)).mpr (by omega)
   omega) (fun _ _=>by
   rw [l1,Nat.one_mul]
   unfold tooLong
   rw [decide_eq_false]
   rw [sizeLine_eq]
   omega) ?_
 rw [if_neg (show ¬ n < 1 by omega)]
 split
 ·rename_i hc
  have e:n=1:=by
   rcases Bool.or_eq_true_iff.mp hc with z | z
   ·exact eq_of_beq z
   ·rw [l1] at z; cases z
  subst e
  exact ⟨.str ⟨#[c]⟩,H,I,⟨_,rfl⟩,q _ rfl⟩
 ·have e:∀ (k:Nat) (acc:Array Nat),((List.replicate k (#[c]:Array Nat)).foldl (·++·) acc).toList=acc.toList++List.replicate k c:=by
   intro k
   induction k with
   | zero=>intro acc; simp
   | succ k ih =>
    intro acc
    rw [List.replicate_succ,List.foldl_cons,ih,List.replicate_succ]
    simp
  refine ⟨?_,⟨.str _,H,I.tok _,⟨_,rfl⟩,q _ ?_⟩⟩
  ·show ((List.replicate n.toNat (#[c]:Array Nat)).foldl (·++·) #[]).size≤sizeLine
   rw [← Array.length_toList,e,sizeLine_eq]
   simp
   omega
  ·rw [e]; simp
theorem zadp:∀ {ys:List Str}{us:List Value},Vals (ys.map V.str) us→StrsAre us ys
 | [],_,.nil=>.nil
 | y :: ys,_,.cons ⟨t,e⟩ r=>by subst e; exact .cons y t (zadp r)
theorem zac4:∀ l:List (Str × Tok),Vals ((l.map (·.1)).map V.str) (strValues l)
 | []=>.nil
 | p :: r=>.cons ⟨p.2,rfl⟩ (zac4 r)
def rJoin (K:PySem.W.Frag):V→List V→Hp→VK→Prop:=fun x vs H Q=>∃ sep p ys,x=.str sep∧vs=[.ref p]∧SqL K H p (ys.map V.str)∧(ys.map (·.length)).sum + ys.length * sep.length≤16777216∧Q (.str (Str.join sep ys)) H
theorem zaf9:MtR X "str.join" (rJoin X.K):=by
 intro pins s σ H x vs v us Q I rx rv h
 obtain ⟨sep,p,ys,rfl,rfl,hq,hz,q⟩:=h
 obtain ⟨t,rfl⟩:=rx
 obtain ⟨u,rfl,ru⟩:=rv.one
 cases ru
 obtain ⟨its,r,pl,_⟩:=I.list hq
 refine join_list pl.isList (by simpa using zadp r) hz fun t' k=>⟨.str (Str.join sep ys),H,I.tok _,⟨t',?_⟩,q⟩
 show Value.str (Txt.join sep ys) t'=_
 rw [show Txt.join sep ys=Str.join sep ys from StrLaws.glued_eq_join sep ys]
def rSplit:V→List V→Hp→VK→Prop:=fun x vs H Q=>∃ z y,x=.str z∧vs=[.str y]∧y.length≠0∧z.length + 2≤sizeLine∧∀ p,H p=none→Q (.ref p) (upd H p (.lst ((Txt.split z y).map V.str)))
theorem zahn:MtR X "str.split" rSplit:=by
 intro pins s σ H x vs v us Q I rx rv h
 obtain ⟨z,y,rfl,rfl,hy,hz,q⟩:=h
 obtain ⟨t,rfl⟩:=rx
 obtain ⟨u,rfl,ru⟩:=rv.one
 obtain ⟨t',rfl⟩:=ru
 have hn:(partsBetween z (occurrences z y 0 z.length (z.length + 1)) y.length).length≤sizeLine:=by
  have e1:=StrLaws.occ_length_le z y 0 z.length (z.length + 1)
  rw [length_partsBetween]; omega
 have hy':(y.length == 0)=false:=by simpa using hy
 have fin:∀ (l:List (Str × Tok)) (k:Nat),l.map (·.1)=Txt.split z y→(Txt.split z y).length≤sizeLine→EP X pins σ Q (.ref s.heap.objs.size) { s with heap:=s.heap.push { cls:=.type "list",data:=.seq (strValues l).toArray },toks:=k }:=fun l k e hl=>by
  have r:=zac4 l
  rw [e] at r
  exact ⟨.ref s.heap.objs.size,_,I.lnew (t':=k) r (by rw [List.length_map]; exact hl),rfl,q _ I.fresh⟩
 cases h1:(decide (z.length < y.length) || decide (strKind z < strKind y))
 ·cases hf:(occurrences z y 0 z.length (z.length + 1)).isEmpty
  ·have e:Txt.split z y=partsBetween z (occurrences z y 0 z.length (z.length + 1)) y.length:=(if_neg (ne_true_of_eq_false h1)).trans (if_neg (ne_true_of_eq_false hf))
   refine call_meets F.slot_str_split (typeIs_str _ _ _) F.entry_str_split (F.args_str_split_2 _ _) (meets_str_split_sep z y t t' h1 hy' hf (by omega) hn) ?_
   show wants _ _ _ { s with toks:=_,heap:=s.heap.push { cls:=.type "list",data:=.seq (strsFrom s.toks (partsBetween z (occurrences z y 0 z.length (z.length + 1)) y.length)).toArray } }
   rw [strsFrom_eq]
   exact fin (numbered s.toks _) _ ((numbered_texts _ _).trans e.symm) (by rw [e]; exact hn)
  ·have e:Txt.split z y=[z]:=(if_neg (ne_true_of_eq_false h1)).trans (if_pos hf)
   exact call_meets F.slot_str_split (typeIs_str _ _ _) F.entry_str_split (F.args_str_split_2 _ _) (meets_str_split_not_found z y t t' h1 hy' hf)
    (fin [(z,t)] s.toks e.symm (by rw [e]; show 1≤sizeLine; decide))
 ·have e:Txt.split z y=[z]:=if_pos h1
  exact call_meets F.slot_str_split (typeIs_str _ _ _) F.entry_str_split (F.args_str_split_2 _ _) (meets_str_split_cannot_occur z y t t' h1)
   (fin [(z,t)] s.toks e.symm (by rw [e]; show 1≤sizeLine; decide))
def rIsT (K:PySem.W.Frag):List V→Hp→VK→Prop:=fun xs H Q=>∃ x T t b,xs=[x,.ty T]∧TyOf K H x t∧PySem.W.kitOne K t (.type T)=some b∧Q (.bl b) H
theorem zaes:CallR X (.builtin "isinstance") (rIsT X.K):=by
 intro pins s σ H xs us Q I r h
 obtain ⟨x,T,t,b,rfl,ty,e,q⟩:=h
 obtain ⟨u,v,rfl,ru,rv⟩:=vals2 r
 cases rv
 exact zami I ru ty e fun tk=>⟨.bl b,H,I.tok _,rfl,q⟩
example (K:PySem.W.Frag):PySem.W.kitOne K (.type "int") (.type "int")=some true:=rfl
example (K:PySem.W.Frag):PySem.W.kitOne K (.type "str") (.type "int")=some false:=rfl
example (K:PySem.W.Frag):PySem.W.kitOne K (.type "tuple") (.type "int")=some false:=rfl
example (K:PySem.W.Frag):PySem.W.kitOne K (.type "bool") (.type "int")=some true:=rfl
end
theorem zajt (x y:Str):(x++y).length=x.length + y.length:=by show (x.cps++y.cps).size=_; simp [Str.length]
theorem zamv {x:Str}{lo hi:Option Int}{m:Nat} (h:x.length≤m):(Txt.slice x lo hi).length≤m:=Nat.le_trans (Txt.slice_le x lo hi) h
theorem zasg {x y:Str}{m n:Nat} (hx:x.length≤m) (hy:y.length≤n):(x++y).length≤m + n:=by rw [zajt]; omega
theorem zash {c:Nat}:(⟨#[c]⟩:Str).length≤1:=Nat.le_refl 1
theorem zasi {x y:Str}{m n:Nat} (hx:x.length≤m) (hy:y.length≤n) (h:m + n≤sizeLine):x.length + y.length≤sizeLine:=by omega
theorem zasj {x:Str}{m:Nat} (hx:x.length≤m) (h:m≤sizeLine):x.length≤sizeLine:=by omega
end L2

namespace L2
open PySem PySem.Spec PyProof.Rows
def ent (w:World) (x:Str × Tok × Value):DictEntry:=⟨hashStr w x.1,.str x.1 x.2.1,x.2.2⟩
structure KD (P:Program) (w:World) (K:PySem.W.Frag) (a:Addr) (kvs:List (Key × V)):Prop where
 ex:∃ (o:Obj) (es:Array DictEntry) (ep:Nat) (vs:List (Key × Value)),K.lookup a=some o∧o.ExactDict∧o.data=.dict es ep∧KeysOf (mixKind P w) es∧Pairs (mixKind P w) es.toList vs∧(vs.map (·.1)).Nodup∧KV kvs vs
 ns:(a == sysModules)=false
def DK (P:Program) (w:World) (K:PySem.W.Frag) (H:Hp) (a:Addr) (kvs:List (Key × V)):Prop:=Rd H a (.dK kvs)∨KD P w K a kvs
theorem Inv.dict {X:Cx}{pins:List (Addr × Obj)}{σ:St}{H:Hp}{s:Shared}{a:Addr}{kvs:List (Key × V)} (I:Inv X pins σ H s) (h:DK X.prog X.w X.K H a kvs) :
  (a == sysModules)=false∧∃ vs,KV kvs vs∧s.heap.DictOf (mixKind X.prog X.w) a vs:=by
 rcases h with h | h
 ·obtain ⟨_,b,c⟩:=zaw4 I.hok h
  exact ⟨b,c⟩
 ·obtain ⟨o,es,ep,vs,h1,h2,h3,h4,h5,h6,h7⟩:=h.ex
  exact ⟨h.ns,vs,h7,o,es,ep,I.kIn a o h1,h2,h3,h4,h5,h6⟩
theorem zaju {P:Program}{w:World}{s:Shared}{a:Addr}{vs:List (Key × Value)} (d:s.heap.DictOf (mixKind P w) a vs):s.TypeIs (.ref a) "dict" := by
 obtain ⟨o,es,ep,h1,h2,_⟩:=d
 exact ⟨o,h1,h2.1⟩
section
variable {X:Cx}
def rIxD (X:Cx):R2:=fun x y H Q=>∃ a kvs k v,x=.ref a∧y=kV k∧DK X.prog X.w X.K H a kvs∧valV kvs k=some v∧Q v H
theorem zau9 {o i:Expr}{td ty:TE}{pos:Pos} (ho:PE X o td) (hi:PE X i ty) (hs:NoSl i):PE X (.Subscript o i pos) (tOp (rIxD X) td ty):=by
 intro pins s σ H Q I h
 refine zasd PySem.F.slot_dict_getitem.lookup hs (thn (ho pins s σ H _ I h) fun u s1 ⟨x,H1,I1,rx,q1⟩=>thn (hi pins s1 σ H1 _ I1 q1) fun iv s2 ⟨y,H2,I2,ry,q2⟩=>?_)
 obtain ⟨a,kvs,k,v,rfl,rfl,dk,hv,q⟩:=q2
 obtain rfl:u=Value.ref a:=rx
 obtain ⟨_,vs,rel,dd⟩:=I2.dict dk
 obtain ⟨w',hw,rw'⟩:=RelO.some_of (v:=v) (o:=valueAt vs k) (by rw [← hv]; exact rel.val k)
 exact ⟨zaju dd,wpAny_getItem_of (zasc ry) dd.mapOf hw ⟨v,H2,I2.tok _,rw',q⟩⟩
def rInD (X:Cx) (neg:Bool):R2:=fun x y H Q=>∃ a kvs k,y=.ref a∧x=kV k∧DK X.prog X.w X.K H a kvs∧Q (.bl (if neg then !(valV kvs k).isSome else (valV kvs k).isSome)) H
theorem zaha:OpR X (compareOp .In) (rInD X false):=by
 intro pins s σ H x y v u Q I rx ry h
 obtain ⟨a,kvs,k,rfl,rfl,dk,q⟩:=h
 obtain rfl:u=Value.ref a:=ry
 obtain ⟨hd,vs,rel,dd⟩:=I.dict dk
 refine wpAny_in_of (zasc rx) hd dd.mapOf ?_
 rw [← (rel.val k).isSome_eq]
 exact ⟨.bl (valV kvs k).isSome,H,I.tok _,rfl,q⟩
theorem zaet:OpR X (compareOp .NotIn) (rInD X true):=by
 intro pins s σ H x y v u Q I rx ry h
 obtain ⟨a,kvs,k,rfl,rfl,dk,q⟩:=h
 obtain rfl:u=Value.ref a:=ry
 obtain ⟨hd,vs,rel,dd⟩:=I.dict dk
 refine wpAny_notIn_of (zasc rx) hd dd.mapOf ?_
 rw [← (rel.val k).isSome_eq]
 exact ⟨.bl (!(valV kvs k).isSome),H,I.tok _,rfl,q⟩
end
theorem zava {P:Program}{w:World}{K:PySem.W.Frag}{a:Addr}{od:Option Addr}{ep:Nat}{sl:Array (Option Value)}{es:Array DictEntry} (xs:List (Str × Tok × Value)) (vs:List V)
  (l:K.lookup a=some ⟨.type "dict",od,.dict es ep,sl⟩) (he:es.toList=xs.map (ent w)) (hx:(⟨.type "dict",od,.dict es ep,sl⟩:Obj).ExactDict) (ns:(a == sysModules)=false)
  (nd:(xs.map (·.1)).Nodup) (hv:Vals vs (xs.map (·.2.2))):KD P w K a ((xs.map fun x=>(Sum.inr x.1:Key)).zip vs):=by
 refine ⟨⟨_,es,ep,xs.map fun x=>(Sum.inr x.1,x.2.2),l,hx,rfl,?_,?_,?_,?_⟩,ns⟩
 ·intro e h
  rw [← Array.mem_toList_iff,he] at h
  obtain ⟨x,hx,rfl⟩:=List.mem_map.mp h
  exact ⟨Sum.inr x.1,zafz x.1 x.2.1,rfl⟩
 ·rw [he]
  clear he nd hv l hx
  induction xs with
  | nil=>exact .nil
  | cons x xs ih=>exact .cons (zafz x.1 x.2.1) rfl ih
 ·rw [List.map_map]
  have e:(xs.map (fun x=>(Sum.inr x.1:Key)))=(xs.map (·.1)).map Sum.inr:=by rw [List.map_map]; rfl
  show (xs.map (fun x=>(Sum.inr x.1:Key))).Nodup
  rw [e]
  exact List.Pairwise.map _ (fun a b h z=>h (Sum.inr.inj z)) nd
 ·clear he nd l hx
  induction xs generalizing vs with
  | nil=>cases hv; exact .nil
  | cons x xs ih =>
   cases hv with
   | cons r rr=>exact .cons ⟨rfl,r⟩ (ih _ rr)
end L2

namespace L2
open PySem PySem.Spec PyProof.Rows
structure Pr (p:Prop):Prop where
 h:p
section
variable {X:Cx}
theorem zamw {i:Nat}{x:Str}{pos:Pos} (hN:X.N[i]?=some x) (hv:Vis X.env.scope x) (hd:(x == ("__debug__" : Str))=false:=by decide) (hcd:(x == ("__classdict__" : Str))=false:=by decide):Pr (PE X (.Name x pos) (tVar i)):=⟨zaue hN hv hd hcd⟩
theorem zaae {i j pos}:Pr (PE X (.Constant (.int i) j pos) (tC (.int i))):=⟨zauf⟩
theorem zavb {b j pos}:Pr (PE X (.Constant (.bool b) j pos) (tC (.bl b))):=⟨zaww⟩
theorem zacq {j pos}:Pr (PE X (.Constant .none j pos) (tC .non)):=⟨zaug⟩
theorem zaaf {x j pos}:Pr (PE X (.Constant (.str x) j pos) (tC (.str x))):=⟨zauh⟩
theorem zabh {x:Str}{v:V}{u:Value}{pos:Pos} (hg:Gl X x) (hm:X.mg x=some u) (r:RelV v u) (hd:(x == ("__debug__" : Str))=false:=by decide):Pr (PE X (.Name x pos) (tC v)):=⟨zal7 hg hm r hd⟩
theorem zaci {x:Str}{v:V}{u:Value}{pos:Pos} (hg:Gl X x) (hm:X.mg x=none) (hv:bootBuiltins x=some u) (r:RelV v u) (hn:x ≠ "__name__" := by decide) (hd:(x == ("__debug__" : Str))=false:=by decide):Pr (PE X (.Name x pos) (tC v)):=⟨zarq hg hm hv r hn hd⟩
end
section
variable {X:Cx}{a b c:Expr}{ta tb tc:TE}{pos:Pos}
theorem zaaj {op:Operator}{r:R2} (ho:OpR X (binaryOp op) r) (ha:Pr (PE X a ta)) (hb:Pr (PE X b tb)):Pr (PE X (.BinOp a op b pos) (tOp r ta tb)):=⟨zawz ho ha.h hb.h⟩
theorem zakt {op:UnaryOp}{r:V→Hp→VK→Prop} (ho:UnR X (unaryOp op) r) (ha:Pr (PE X a ta)):Pr (PE X (.UnaryOp op a pos) (tUn r ta)):=⟨zaw0 ho ha.h⟩
theorem zadb {op:CmpOp}{r:R2} (ho:OpR X (compareOp op) r) (ha:Pr (PE X a ta)) (hb:Pr (PE X b tb)) (hm:behindInMarks op b=false):Pr (PE X (.Compare a [op] [b] pos) (tOp r ta tb)):=⟨zar0 ho ha.h hb.h hm⟩
theorem zaiz {op op':CmpOp}{r r':R2} (ho:OpR X (compareOp op) r) (ho':OpR X (compareOp op') r') (ha:Pr (PE X a ta)) (hb:Pr (PE X b tb)) (hc:Pr (PE X c tc)) (hm:lastMarks [op,op'] [b,c]=false:=by with_unfolding_all rfl):Pr (PE X (.Compare a [op,op'] [b,c] pos) (tChain r r' ta tb tc)):=⟨zapb ho ho' ha.h hb.h hc.h hm⟩
end
section
variable {X:Cx}
variable {a b:Expr}{ta tb:TE}{pos:Pos}
variable {tA tB':TT}{rest:List Expr}
theorem zask (ha:Pr (PE X a ta)) (hb:Pr (PE X (.BoolOp .And (b :: rest) pos) tb)):Pr (PE X (.BoolOp .And (a :: b :: rest) pos) (tAndV ta tb)):=⟨zaun ha.h hb.h⟩
end
section
variable {X:Cx}
variable {a b:Expr}{ta tb:TE}{pos:Pos}
variable {tA tB':TT}{rest:List Expr}
theorem zasl {op}{t:TE} (h:Pr (PE X a t)):Pr (PE X (.BoolOp op [a] pos) t):=⟨zaum h.h⟩
end
section
variable {X:Cx}
variable {a b:Expr}{ta tb:TE}{pos:Pos}
variable {tA tB':TT}{rest:List Expr}
theorem zamx {c:Expr} (hc:Pr (PT X c tA)) (ha:Pr (PE X a ta)) (hb:Pr (PE X b tb)):Pr (PE X (.IfExp c a b pos) (tIf tA ta tb)):=⟨zao3 hc.h ha.h hb.h⟩
end
section
variable {X:Cx}{e:Expr}{es:List Expr}{te:TE}{t:TA}{pos:Pos}
theorem zabl {x1} (h:Pr (PA X es t)):Pr (PE X (.Tuple es x1 pos) (tTup t)):=⟨zau0 h.h⟩
theorem zaay (h:Pr (PA X es t)):Pr (PE X (.List es pos) (tLst t)):=⟨zau1 h.h⟩
end
section
variable {X:Cx}{e:Expr}{te:TE}{lo hi:Option Expr}{tl th:TO}{pos p2:Pos}
theorem zaa1 {r:V→Option Int→Option Int→Hp→VK→Prop} (hr:SlR X r) (he:Pr (PE X e te)) (hl:Pr (PO X lo tl)) (hu:Pr (PO X hi th)):Pr (PE X (.Subscript e (.Slice lo hi none p2) pos) (tSl r te tl th)):=⟨zapj hr he.h hl.h hu.h⟩
end
section
variable {X:Cx}{a b:Expr}{ta tb:TE}{pos:Pos}
theorem zaar {r:R2} (hr:IxR X r) (ha:Pr (PE X a ta)) (hb:Pr (PE X b tb)) (hs:PlainIx b):Pr (PE X (.Subscript a b pos) (tOp r ta tb)):=⟨zaw1 hr ha.h hb.h hs⟩
end
section
variable {X:Cx}
theorem zamy {o i:Expr}{td ty:TE}{pos:Pos} (ho:Pr (PE X o td)) (hi:Pr (PE X i ty)) (hs:NoSl i):Pr (PE X (.Subscript o i pos) (tOp (rIxD X) td ty)):=⟨zau9 ho.h hi.h hs⟩
end
section
variable {X:Cx}{o e value:Expr}{f:Str}{pos pos' tpos:Pos}{ta tv:TE}
theorem zacg (he:Pr (PE X e ta)) (hb:attributeBase e f X.env (eval e X.env)=eval e X.env):Pr (PE X (.Attribute e f pos) (tFld X.K ta f)):=⟨zaux he.h hb⟩
end
section
variable {X:Cx}{CX:CXT}{k:Nat}{ps:List Str}{sp:Sp}{E:XK}{x:Str}{p pos:Pos}{e:Expr}{es:List Expr}{t:TA}
theorem zaak (D:DefOk X.prog X.w X.K X.mg X.base CX k x ps sp) (hr:Room k X.A) (hg:Gl X x) (hx:Passes CX X E) (ha:Pr (PA X (e :: es) t)) (hdb:(x == ("__debug__" : Str))=false:=by decide) (he:starEach (e :: es) X.env=(false,eval e X.env) :: starEach es X.env:=by rfl) (hpl:(backTo pos (starEach es X.env)).any (·.1)=false:=by rfl):Pr (PE X (.Call (.Name x p) (e :: es) [] pos) (tCall sp [] E t)):=⟨zapn D hr hg hx ha.h hdb he hpl⟩
theorem zae7 (D:DefOk X.prog X.w X.K X.mg X.base CX k x ps sp) (hr:Room k X.A) (hg:Gl X x) (hx:Passes CX X E) (hdb:(x == ("__debug__" : Str))=false:=by decide):Pr (PE X (.Call (.Name x p) [] [] pos) (tCall sp [] E tNil)):=⟨zamp D hr hg hx hdb⟩
end
section
variable {X:Cx}{x:Str}{p pos:Pos}{e:Expr}{es:List Expr}{t:TA}{id T:String}{r:List V→Hp→VK→Prop}
theorem zaas (hc:CallR X (.builtin id) r) (hg:Gl X x) (hm:X.mg x=none) (hv:bootBuiltins x=some (.builtin id)) (ha:Pr (PA X (e :: es) t)) (hn:x ≠ "__name__" := by decide) (hdb:(x == ("__debug__" : Str))=false:=by decide) (he:starEach (e :: es) X.env=(false,eval e X.env) :: starEach es X.env:=by rfl) (hpl:(backTo pos (starEach es X.env)).any (·.1)=false:=by rfl):Pr (PE X (.Call (.Name x p) (e :: es) [] pos) (tCB r t)):=⟨zaph hc hg hm hv ha.h hn hdb he hpl⟩
theorem zaba (hc:CallR X (.type T) r) (hg:Gl X x) (hm:X.mg x=none) (hv:bootBuiltins x=some (.type T)) (ha:Pr (PA X (e :: es) t)) (hn:x ≠ "__name__" := by decide) (hdb:(x == ("__debug__" : Str))=false:=by decide) (he:starEach (e :: es) X.env=(false,eval e X.env) :: starEach es X.env:=by rfl) (hpl:(backTo pos (starEach es X.env)).any (·.1)=false:=by rfl):Pr (PE X (.Call (.Name x p) (e :: es) [] pos) (tCB r t)):=⟨zamk hc hg hm hv ha.h hn hdb he hpl⟩
end
section
variable {X:Cx}{a b:Expr}{ta tb:TE}{pos:Pos}
variable {o e:Expr}{es:List Expr}{to:TE}{t:TA}{name:Str}{apos cpos:Pos}{T id:String}{r:V→List V→Hp→VK→Prop}
theorem zabz (pa:PlainAttrs T) (slot:Slot T name id) (hty:typeOf (.builtin id)=pure (.type "method_descriptor")) (hm:MtR X id r) (ho:Pr (PE X o to)) (ha:Pr (PA X (e :: es) t)) (hbase:attributeBase o name X.env (eval o X.env)=eval o X.env:=by rfl) (hfew:((backTo cpos (starEach (e :: es) X.env)).all (fun x=>!x.1) && (backToKw cpos (keywordEach [] X.env)).all (fun x=>x.1.isSome)
   && decide ((e :: es).length + ([]:List Keyword).length + (if ([]:List Keyword).isEmpty then 0 else 1) < 30))=true:=by rfl) (hline:(apos.endLine == cpos.line)=true:=by rfl) (hs:starEach (e :: es) X.env=(false,eval e X.env) :: starEach es X.env:=by rfl) (hplain:(backTo cpos (starEach es X.env)).any (·.1)=false:=by rfl):Pr (PE X (.Call (.Attribute o name apos) (e :: es) [] cpos) (tBM X.K T r to t)):=⟨zaw2 pa slot hty hm ho.h ha.h hbase hfew hline hs hplain⟩
end
section
variable {X:Cx}{a b c:Expr}{ta tb tc:TE}{pos:Pos}
theorem zaam {op:CmpOp}{r:R2} (ho:OpR X (compareOp op) r) (ha:Pr (PE X a ta)) (hb:Pr (PE X b tb)) (hm:behindInMarks op b=false):Pr (PT X (.Compare a [op] [b] pos) (tTest (tOp r ta tb))):=⟨zar1 ho ha.h hb.h hm⟩
end
section
variable {X:Cx}
variable {a b:Expr}{ta tb:TE}{pos:Pos}
variable {tA tB':TT}{rest:List Expr}
theorem zajv (ha:Pr (PT X a tA)):Pr (PT X (.UnaryOp .Not a pos) (tNot tA)):=⟨zaul ha.h⟩
end
section
variable {X:Cx}
variable {a b:Expr}{ta tb:TE}{pos:Pos}
theorem zab5 {e:Expr}{t:TE} (h:Pr (PE X e t)) (he:∀ whole,isTrue e X.env whole=(do let v ← whole; standAt e.pos; holding [v] (truthy v)):=by intro _; rfl):Pr (PT X e (tB t)):=⟨zaui h.h he⟩
end
section
theorem zacx {X:Cx}{e:Expr}{t:TT} (h:Pr (PW X e t)):Pr (PT X e t):=⟨PW.pt h.h⟩
end
section
variable {X:Cx}
variable {a b:Expr}{ta tb:TE}{pos:Pos}
variable {tA tB':TT}{rest:List Expr}
theorem zadc (ha:Pr (PT X a tA)) (hb:Pr (PW X (.BoolOp .And (b :: rest) pos) tB')):Pr (PW X (.BoolOp .And (a :: b :: rest) pos) (tAnd tA tB')):=⟨zauk ha.h hb.h⟩
end
section
variable {X:Cx}
variable {a b:Expr}{ta tb:TE}{pos:Pos}
variable {tA tB':TT}{rest:List Expr}
theorem zadd (ha:Pr (PT X a tA)):Pr (PW X (.BoolOp .And [a] pos) tA):=⟨zarr ha.h⟩
end
section
variable {X:Cx}
variable {a b:Expr}{ta tb:TE}{pos:Pos}
variable {tA tB':TT}{rest:List Expr}
theorem zaeu (ha:Pr (PT X a tA)) (hb:Pr (PW X (.BoolOp .Or (b :: rest) pos) tB')):Pr (PW X (.BoolOp .Or (a :: b :: rest) pos) (tOr tA tB')):=⟨zawx ha.h hb.h⟩
end
section
variable {X:Cx}
variable {a b:Expr}{ta tb:TE}{pos:Pos}
variable {tA tB':TT}{rest:List Expr}
theorem zaeg (ha:Pr (PT X a tA)):Pr (PW X (.BoolOp .Or [a] pos) tA):=⟨zauj ha.h⟩
end
section
variable {X:Cx}{e:Expr}{es:List Expr}{te:TE}{t:TA}{pos:Pos}
theorem zaac  : Pr (PA X [] tNil):=⟨zauz⟩
theorem zaaa (ha:Pr (PE X e te)) (hr:Pr (PA X es t)) (hs:starEach (e :: es) X.env=(false,eval e X.env) :: starEach es X.env:=by rfl):Pr (PA X (e :: es) (tCons te t)):=⟨zar4 ha.h hr.h hs⟩
end
section
variable {X:Cx}{e:Expr}{te:TE}{lo hi:Option Expr}{tl th:TO}{pos p2:Pos}
theorem zabb  : Pr (PO X none tNoPart):=⟨zar8⟩
theorem zaa4 (h:Pr (PE X e te)):Pr (PO X (some e) (tPart te)):=⟨zar9 h.h⟩
end
section
variable {X:Cx}{tg:Expr}
theorem zaho {l:Expr}{tl:TE} (hl:Pr (PE X l tl)):Pr (PI X tg l (iList X.K tl)):=⟨zal9 hl.h⟩
theorem zae8 {l:Expr}{tl:TE} (hl:Pr (PE X l tl)):Pr (PI X tg l (iTup X.K tl)):=⟨zaqv hl.h⟩
theorem zacp {a:Expr}{ta:TA}{p pos:Pos} (hg:Gl X "range") (hm:X.mg "range" = none) (ha:Pr (PA X [a] ta)) (hs:starEach [a] X.env=[(false,eval a X.env)]:=by rfl):Pr (PI X tg (.Call (.Name "range" p) [a] [] pos) (iRng1 ta)):=⟨zama hg hm ha.h hs⟩
end
section
variable {X:Cx}{elts:List Expr}{kk:Nat}{tpos:Pos}
theorem zasm (k1 k2:SK) {a b:Expr}{ta:TA}{p pos:Pos} (hg:Gl X "zip") (hm:X.mg "zip" = none) (ha:Pr (PA X [a,b] ta)) (hs:starEach [a,b] X.env=[(false,eval a X.env),(false,eval b X.env)]:=by rfl) (hs2:starEach [b] X.env=[(false,eval b X.env)]:=by rfl):Pr (PI X (.Tuple elts kk tpos) (.Call (.Name "zip" p) [a,b] [] pos) (iZip X.K k1 k2 ta)):=⟨zau8 k1 k2 hg hm ha.h hs hs2⟩
end
section
variable {X:Cx}{pos:Pos}
theorem zabc {i:Nat}{x:Str} (hN:X.N.Nodup) (hi:X.N[i]?=some x) (hx:Loc X.env.scope x) (hf:X.fn x=true∨X.env.scope.names.lookup x=some .local:=by first | exact .inl rfl | exact .inr rfl | assumption):Pr (PG X (.Name x pos) (gName i)):=⟨zarv hN hi hx hf⟩
theorem zahp  : Pr (PGs X [] gNil):=⟨zarw⟩
theorem zac5 {e:Expr}{es:List Expr}{t:TG}{u:TGs} (h1:Pr (PG X e t)) (h2:Pr (PGs X es u)) (hs:(assignEach (e :: es) X.env).map (·.2)=assign e X.env :: (assignEach es X.env).map (·.2):=by rfl):Pr (PGs X (e :: es) (gCons t u)):=⟨zao5 h1.h h2.h hs⟩
theorem zajw {es:List Expr}{k:Nat}{t:TGs}{n:Nat} (hc:X.calm=true) (h:Pr (PGs X es t)) (hn:(assignEach es X.env).length=n:=by rfl) (hst:(assignEach es X.env).findIdx? (·.1)=none:=by rfl):Pr (PG X (.Tuple es k pos) (gTup X.K n t)):=⟨zaup hc h.h hn hst⟩
theorem zasn {o i:Expr}{to ti:TE}{t:TSet} (ho:Pr (PE X o to)) (hi:Pr (PE X i ti)) (hs:PSet X t) (ha:∀ v,assign (.Subscript o i pos) X.env v=(do
   let ov ← holding [v] (eval o X.env)
   let iv ← holding [v,ov] (eval i X.env)
   standAt pos
   holding [v,ov,iv] (setItem ov iv v)
   release [v,ov,iv] []):=by intro _; rfl):Pr (PG X (.Subscript o i pos) (gSub to ti t)):=⟨zauq ho.h hi.h hs ha⟩
end
section
variable {X:Cx}{st:Stmt}{rest:List Stmt}{t u:TS}{e:Expr}{te:TE}{pos:Pos}
theorem zaao (he:Pr (PE X e te)):Pr (PS X (.Return (some e) pos) (tRet te)):=⟨zauo he.h⟩
end
section
variable {X:Cx}{pos:Pos}
theorem zaan {i:Nat}{x:Str}{e:Expr}{te:TE}{pos':Pos} (hN:X.N.Nodup) (hi:X.N[i]?=some x) (hx:Loc X.env.scope x) (he:Pr (PE X e te)) (hs:swapsWith e (some (.Name x pos')) pos.line X.env=pure false:=by rfl) (hf:X.fn x=true∨X.env.scope.names.lookup x=some .local:=by first | exact .inl rfl | exact .inr rfl | assumption):Pr (PS X (.Assign [.Name x pos'] e pos) (tAsg te (gName i))):=⟨zaus hN hi hx he.h hs hf⟩
theorem zaso {tg e:Expr}{te:TE}{g:TG} (he:Pr (PE X e te)) (hg:Pr (PG X tg g)) (hs:swapsWithSole [tg] e pos.line X.env=pure false:=by rfl) (hw:swappedStores [tg] e X.env=pure none:=by rfl) (h1:(assignEach [tg] X.env).map (·.2)=[assign tg X.env]:=by rfl):Pr (PS X (.Assign [tg] e pos) (tAsg te g)):=⟨zaur he.h hg.h hs hw h1⟩
theorem zamz {i:Nat}{x:Str}{e:Expr}{te:TE}{op:Operator}{ti:TIp}{pos':Pos} (hN:X.N.Nodup) (hi:X.N[i]?=some x) (hx:Loc X.env.scope x) (he:Pr (PE X e te)) (ho:PIp X op ti) (hf:X.fn x=true∨X.env.scope.names.lookup x=some .local:=by first | exact .inl rfl | exact .inr rfl | assumption):Pr (PS X (.AugAssign (.Name x pos') op e pos) (tAug i te ti)):=⟨zaut hN hi hx he.h ho hf⟩
end
section
variable {X:Cx}{st:Stmt}{rest:List Stmt}{t u:TS}{e:Expr}{te:TE}{pos:Pos}
theorem zaat {c:Expr}{a b:List Stmt}{tc:TT} (hc:Pr (PT X c tc)) (ha:Pr (PSs X a t)) (hb:Pr (PSs X b u)):Pr (PS X (.If c a b pos) (tIfS tc t u)):=⟨zawy hc.h ha.h hb.h⟩
end
section
theorem zab7 {X:Cx}{tg iter:Expr}{body:List Stmt}{wi:TI}{g:TG}{tb:TS}{pos:Pos} (hp:PassesOwn (model X.prog X.w) X.A X.env X.xe) (hc:X.calm=true) (hi:Pr (PI X tg iter wi)) (hg:Pr (PG X tg g)) (hb:Pr (PSs X body tb)) (hs:∀ x,foldedSetIterable iter X.env x=pure x:=by intro _; rfl):Pr (PS X (.For tg iter body [] pos) (tLoop wi g tb)):=⟨zase hp hc hi.h hg.h hb.h hs⟩
end
section
variable {X:Cx}{pos:Pos}
theorem zaev {c:Expr}{body:List Stmt}{tc:TT}{tb:TS} (hp:PassesOwn (model X.prog X.w) X.A X.env X.xe) (hc:Pr (PT X c tc)) (hb:Pr (PSs X body tb)):Pr (PS X (.While c body [] pos) (tWhile tc tb)):=⟨zao6 hp hc.h hb.h⟩
end
section
variable {X:Cx}{st:Stmt}{rest:List Stmt}{t u:TS}{e:Expr}{te:TE}{pos:Pos}
theorem zaa7 (he:Pr (PE X e te)) (hs:swapsWith e none pos.line X.env=pure false:=by rfl):Pr (PS X (.Expr e pos) (tDrop te)):=⟨zaru he.h hs⟩
theorem zaap  : Pr (PSs X [] tNext):=⟨zars⟩
theorem zaah (h1:Pr (PS X st t)):Pr (PSs X [st] t):=⟨zart h1.h⟩
theorem zaad (h1:Pr (PS X st t)) (h2:Pr (PSs X rest u)):Pr (PSs X (st :: rest) (tSeq t u)):=⟨zakm h1.h h2.h⟩
end
section
theorem zab0 {X:Cx}{st:Stmt}{rest:List Stmt}{t u:TS} (h1:Pr (PS X st t)) (h2:Pr (PSs X rest u)):Pr (PSs X (st :: rest) (tCut t u)):=⟨zasf h1.h h2.h⟩
end
section
variable {X:Cx}{o e value:Expr}{f:Str}{pos pos' tpos:Pos}{ta tv:TE}
theorem zaga (ha:Pr (PE X o ta)) (hv:Pr (PE X value tv)) (hs:swapsWith value (some (.Attribute o f pos')) pos.line X.env=pure false):Pr (PS X (.Assign [.Attribute o f pos'] value pos) (sFld X.K ta tv f)):=⟨zauy ha.h hv.h hs⟩
end
end L2

namespace L2
open PySem PySem.Spec PyProof.Rows
def relab (sc outer:Scope):Scope :=
 { sc with names:=sc.names.map fun (n,k)=>if (k == .free && outer.kind == .function && outer.names.lookup n == some .cell) then (n,.cell) else (n,k) }
structure CompOk (sc outer:Scope) (own:List Str) (N:List Str) (fr:List Nat) (N':List Str):Prop where
 kind:sc.kind=.function
 nocell:∀ y∈sc.names,y.2≠.cell
 loc:∀ y∈sc.names,y.2=.local→sc.names.lookup y.1=some .local
 fre:∀ y∈sc.names,y.2=.free→outer.names.lookup y.1=some .cell∨outer.names.lookup y.1=some .free
 nd:N'.Nodup
 all:N'.map some=own.map some++fr.map fun j=>N[j]?
 frk:∀ j∈fr,∀ x,N[j]?=some x→sc.names.lookup x=some .free∧(outer.names.lookup x=some .cell∨outer.names.lookup x=some .free)
def cst (n:Nat) (fr:List Nat) (σ:St):St:=List.replicate n none++fr.map fun j=>(σ[j]?).join
theorem zagb {env:Env}{sc:Scope} (h:∀ y∈sc.names,y.2=.free→∃ c,env.cells.lookup y.1=some c) :
  ∃ cl,closureFor sc env=pure cl∧(∀ x c,cl.lookup x=some c→env.cells.lookup x=some c)∧∀ y∈sc.names,y.2=.free→∃ c,cl.lookup y.1=some c:=by
 have key:∀ (l:List (Str × NameKind)) (cs:List (Str × Addr)),(∀ y∈l,y.2=.free→∃ c,env.cells.lookup y.1=some c)→(∀ x c,cs.lookup x=some c→env.cells.lookup x=some c) →
   ∃ cl,(forIn l cs fun x r=>if (x.2 == NameKind.free)=true then do let a ← cellOf env x.1; pure (ForInStep.yield ((x.1,a) :: r)) else pure (ForInStep.yield r))=(pure cl:Sem _)∧(∀ x c,cl.lookup x=some c→env.cells.lookup x=some c) ∧
    (∀ x,(∃ c,cs.lookup x=some c)→∃ c,cl.lookup x=some c)∧∀ y∈l,y.2=.free→∃ c,cl.lookup y.1=some c:=by
  intro l
  induction l with
  | nil=>intro cs _ h2; exact ⟨cs,rfl,h2,fun _ z=>z,fun y hy=>nomatch hy⟩
  | cons y l ih =>
   intro cs h1 h2
   obtain ⟨n,k⟩:=y
   by_cases hk:k=.free
   ·subst hk
    obtain ⟨c,hc⟩:=h1 (n,.free) List.mem_cons_self rfl
    obtain ⟨cl,e,a,b,d⟩:=ih ((n,c) :: cs) (fun y hy=>h1 y (List.mem_cons_of_mem _ hy)) (fun x c' hx=>by
     rw [List.lookup_cons] at hx
     split at hx
     ·rename_i q
      have:x=n:=by simpa using q
      cases hx; subst this; exact hc
     ·exact h2 x c' hx)
    refine ⟨cl,?_,a,fun x ⟨c',hx⟩=>b x ?_,fun y hy hf=>?_⟩
    ·rw [List.forIn_cons]
     have e1:cellOf env n=pure c:=by unfold cellOf; rw [hc]
     simp only [beq_self_eq_true,if_true,e1,pure_bind]
     exact e
    ·rw [List.lookup_cons]
     split
     ·exact ⟨_,rfl⟩
     ·exact ⟨c',hx⟩
    ·rcases List.mem_cons.mp hy with rfl | hy
     ·exact b n ⟨c,by simp [List.lookup_cons]⟩
     ·exact d y hy hf
   ·obtain ⟨cl,e,a,b,d⟩:=ih cs (fun y hy=>h1 y (List.mem_cons_of_mem _ hy)) h2
    refine ⟨cl,?_,a,b,fun y hy hf=>?_⟩
    ·rw [List.forIn_cons]
     have hb:(k == NameKind.free)=false:=by simpa using hk
     simp only [hb,Bool.false_eq_true,if_false,pure_bind]
     exact e
    ·rcases List.mem_cons.mp hy with rfl | hy
     ·exact absurd hf hk
     ·exact d y hy hf
 obtain ⟨cl,e,a,_,d⟩:=key sc.names [] h (fun x c hx=>by simp at hx)
 refine ⟨cl,?_,a,d⟩
 unfold closureFor
 simp only [e,pure_bind]
def cxC (X:Cx) (sc:Scope) (cl:List (Str × Addr)) (N':List Str) (C:Addr) (s:Shared) (H:Hp) (fp:List Addr):Cx :=
 { X with N:=N',s₀:=s,H₀:=H,env:=compEnvC sc cl C X.env,outer:=X.stack,stack:=X.stack,ex:=fp,fn:=fun _=>false,pn:=[],xe:=fun _ _=>False }
theorem zacy {outer:Scope}:∀ {names:List (Str × NameKind)}{x:Str}{k:NameKind},
  (names.map fun (n,k)=>if (k == NameKind.free && outer.kind == .function && outer.names.lookup n == some .cell) then (n,NameKind.cell) else (n,k)).lookup x=some k →
   names.lookup x=some k∨(names.lookup x=some .free∧k=.cell)
 | [],x,k,h=>by simp at h
 | (n,k') :: r,x,k,h=>by
  rw [List.map_cons] at h
  by_cases hc:(k' == NameKind.free && outer.kind == .function && outer.names.lookup n == some .cell)=true
  ·simp only [hc,if_true] at h
   rw [List.lookup_cons] at h ⊢
   cases hx:x == n with
   | true =>
    rw [hx] at h
    simp only [Option.some.injEq] at h
    have hf:k'=.free:=by
     have:=(Bool.and_eq_true_iff.mp (Bool.and_eq_true_iff.mp hc).1).1
     simpa using this
    exact .inr ⟨by simp [hf],h.symm⟩
   | false=>rw [hx] at h; exact zacy h
  ·simp only [hc,Bool.false_eq_true,if_false] at h
   rw [List.lookup_cons] at h ⊢
   cases hx:x == n with
   | true=>rw [hx] at h; exact .inl (by simpa using h)
   | false=>rw [hx] at h; exact zacy h
theorem zae9 {outer:Scope}:∀ {names:List (Str × NameKind)}{x:Str},names.lookup x=some .free →
  (names.map fun (n,k)=>if (k == NameKind.free && outer.kind == .function && outer.names.lookup n == some .cell) then (n,NameKind.cell) else (n,k)).lookup x=some .cell ∨
  (names.map fun (n,k)=>if (k == NameKind.free && outer.kind == .function && outer.names.lookup n == some .cell) then (n,NameKind.cell) else (n,k)).lookup x=some .free
 | [],x,h=>by simp at h
 | (n,k') :: r,x,h=>by
  rw [List.lookup_cons] at h
  rw [List.map_cons]
  by_cases hc:(k' == NameKind.free && outer.kind == .function && outer.names.lookup n == some .cell)=true
  ·simp only [hc,if_true]
   rw [List.lookup_cons]
   cases hx:x == n with
   | true=>exact .inl rfl
   | false=>rw [hx] at h; exact zae9 h
  ·simp only [hc,Bool.false_eq_true,if_false]
   rw [List.lookup_cons]
   cases hx:x == n with
   | true=>rw [hx] at h; exact .inr h
   | false=>rw [hx] at h; exact zae9 h
theorem zade {α:Type}:∀ {l:List (Str × α)}{x:Str}{k:α},l.lookup x=some k→(x,k)∈l
 | [],_,_,h=>by simp at h
 | (n,k') :: r,x,k,h=>by
  rw [List.lookup_cons] at h
  cases hx:x == n with
  | true =>
   rw [hx] at h
   have e:x=n:=by simpa using hx
   have e2:k'=k:=by simpa using h
   rw [e,e2]; exact List.mem_cons_self
  | false=>rw [hx] at h; exact List.mem_cons_of_mem _ (zade h)
section
variable {X:Cx}{pins:List (Addr × Obj)}{σ:St}{H:Hp}{s:Shared}{sc:Scope}{own:List Str}{fr:List Nat}{N':List Str}{cl:List (Str × Addr)}
theorem zajx (I:Inv X pins σ H s) (cs:CompOk sc X.env.scope own X.N fr N') (h1:∀ x c,cl.lookup x=some c→X.env.cells.lookup x=some c) (h2:∀ y∈sc.names,y.2=.free→∃ c,cl.lookup y.1=some c)
  {fp:List Addr} (hf:∀ b∈fp,FpOk X pins H b∧∃ o,s.heap.get? b=some o) {h':Heap}{t':Nat}{C D:Addr}{o:Obj} (hC:s.heap.objs.size≤C) (hD:s.heap.objs.size≤D) (hDC:D≠C)
  (k:∀ b u,s.heap.get? b=some u→h'.get? b=some u) (hn:h'.Ns C fun _=>none) (hDo:h'.get? D=some o) (hd:∀ v,o.data≠.cell v) :
  Inv (cxC X sc cl N' C s H fp) [(D,o)] (cst own.length fr σ) H { s with heap:=h',toks:=t' }:=by
 have lt:∀ b u,s.heap.get? b=some u→b < s.heap.objs.size:=fun b u e=>Heap.lt_size e
 have fpC:∀ b∈fp,b≠C:=fun b hb z=>by
  obtain ⟨_,o,e⟩:=hf b hb
  have:=lt b o e
  rw [z] at this
  exact absurd (Nat.lt_of_lt_of_le this hC) (Nat.lt_irrefl _)
 have lenN:N'.length=own.length + fr.length:=by
  have:=congrArg List.length cs.all
  simpa using this
 refine ⟨⟨I.ok.mod,cs.kind,I.ok.glob,I.ok.blt,hC,fun x y c e1 e2=>I.ok.inj x y c (h1 x c e1) (h1 y c e2),fun x hx=>?_,fun x c z=>absurd z Bool.false_ne_true,I.ok.hd,I.ok.frames,.inl rfl,fun b hb=>⟨fpC b hb,fun x c e=>(hf b hb).1.2.2.2.2.1 x c (h1 x c e)⟩,
   I.bs,Nat.le_trans I.ok.bsz I.sz,fun b o' e hb=>?_,fun b hb z=>?_,I.stack,I.stkFree⟩,
  rfl,I.bare,Un.kept k,⟨_,hn,fun i x v e1 e2 e3=>?_⟩,fun x c e=>?_,I.hok.fresh hC,fun x c e=>I.freeC x c (h1 x c e),fun p hp=>?_,I.hok.kept k,?_⟩
 ·have hx':(relab sc X.env.scope).names.lookup x=some .cell∨(relab sc X.env.scope).names.lookup x=some .free:=hx
  have hfree:sc.names.lookup x=some .free:=by
   rcases hx' with z | z
   ·rcases zacy z with q | q
    ·exact absurd rfl (cs.nocell _ (zade q))
    ·exact q.1
   ·rcases zacy z with q | q
    ·exact q
    ·exact q.1
  exact h2 (x,.free) (zade hfree) rfl
 ·have q:=(hf b hb).1.2.2.2.1
  rcases q with q | q
  ·exact I.ok.noex b o' e q
  ·exact absurd (Nat.lt_of_lt_of_le (Heap.lt_size (I.ok.bs b o' e).1) q) (Nat.lt_irrefl _)
 ·have z':b∈frs X.stack:=z
  rcases List.mem_cons.mp (I.stkSub b z') with q | q
  ·exact (hf b hb).1.2.1 q
  ·exact (hf b hb).1.2.2.1 q
 ·-- a name of the block at its entry is one of the def's
  have hi:own.length≤i:=by
   by_cases hi:i < own.length
   ·have e2':(cst own.length fr σ)[i]?=some none:=by
     unfold cst
     rw [List.getElem?_append_left (by simpa using hi),List.getElem?_replicate,if_pos hi]
    rw [e2'] at e2; cases e2
   ·omega
  have e2':(fr.map fun j=>(σ[j]?).join)[i - own.length]?=some (some v):=by
   unfold cst at e2
   rwa [List.getElem?_append_right (by simpa using hi),List.length_replicate] at e2
  rw [List.getElem?_map] at e2'
  have e1a:(N'.map some)[i]?=some (some x):=by
   have e1:N'[i]?=some x:=e1
   rw [List.getElem?_map,e1]; rfl
  rw [cs.all,List.getElem?_append_right (by simpa using hi),List.length_map,List.getElem?_map] at e1a
  cases ej:fr[i - own.length]? with
  | none=>rw [ej] at e2'; cases e2'
  | some j =>
   rw [ej] at e2' e1a
   have hj:j∈fr:=List.mem_of_getElem? ej
   have nj:X.N[j]?=some x:=by simpa using e1a
   have sj:σ[j]?=some (some v):=by
    have:(σ[j]?).join=some v:=by simpa using e2'
    cases q:σ[j]? with
    | none=>rw [q] at this; cases this
    | some y=>rw [q] at this; simp at this; rw [this]
   obtain ⟨kf,ko⟩:=cs.frk j hj x nj
   obtain ⟨m,hm,hl⟩:=I.loc
   obtain ⟨u,r,l⟩:=hl j x v nj sj (.inr ko)
   refine ⟨u,r,.inr ?_⟩
   have lk:X.env.kindOf x=some .cell∨X.env.kindOf x=some .free:=ko
   rcases l with ⟨z,_⟩ | ⟨_,c,ec,ic⟩
   ·rcases lk with q | q <;> rw [z] at q <;> cases q
   ·obtain ⟨c',hc'⟩:=h2 (x,.free) (zade kf) rfl
    have:c'=c:=by
     have:=h1 x c' hc'
     rw [ec] at this; exact (Option.some.inj this).symm
    subst this
    refine ⟨zae9 kf,c',hc',?_⟩
    obtain ⟨oc,hoc,hcd⟩:=ic
    exact ⟨oc,k c' oc hoc,hcd⟩
 ·obtain ⟨v,oc,hoc,hcd⟩:=I.cell x c (h1 x c e)
  exact ⟨v,oc,k c oc hoc,hcd⟩
 ·have hp':p∈[(D,o)]:=hp
  have e:p=(D,o):=by simpa using hp'
  subst e
  refine ⟨hDo,I.hok.fresh hD,hDC,fun z=>?_,hd⟩
  have z':D∈frs X.stack:=z
  obtain ⟨_,o2,ho2,_⟩:=I.stack.mem z'
  exact absurd (Nat.lt_of_lt_of_le (Heap.lt_size ho2) hD) (Nat.lt_irrefl _)
 ·show (cst own.length fr σ).length=N'.length
  unfold cst
  rw [List.length_append,List.length_replicate,List.length_map,lenN]
theorem zam0 (I:Inv X pins σ H s) {fp:List Addr} (hf:∀ b∈fp,FpOk X pins H b∧∃ o,s.heap.get? b=some o) {C D:Addr}{its:List Value}{ys:List V}{n:Nat}{σ':St}{H':Hp}{s':Shared}
  (hD:s.heap.objs.size≤D) (J:Inv (cxC X sc cl N' C s H fp) [(D,{ cls:=.type "list",data:=.seq its.toArray n })] σ' H' s') (r:Vals ys its) (hz:ys.length≤sizeLine):Inv X pins σ (upd H' D (.lst ys)) s':=by
 obtain ⟨hDo,hDn,hDC,hDf,hDc⟩:=J.pin (D,{ cls:=.type "list",data:=.seq its.toArray n }) (List.mem_append_right _ List.mem_cons_self)
 have u:Un (frs X.stack) fp H H' s.heap s'.heap:=J.base
 have os:s'.os=s.os:=J.os
 have lt:∀ b ob,s.heap.get? b=some ob→b≠D:=fun b ob e z=>by
  have:=Heap.lt_size e
  rw [z] at this
  exact absurd (Nat.lt_of_lt_of_le this hD) (Nat.lt_irrefl _)
 refine I.call' (ch:=fp) os ⟨u.keep,u.slot,fun b ob e n hx=>?_,u.there,fun b xs e=>?_,fun b ob x e=>?_,fun b ps e=>?_⟩ ?_ J.bare (fun b hb=>?_)
 ·rw [zaax (lt b ob e)]; exact u.free b ob e n hx
 ·have:=u.tups b xs e
  rw [zaax (zaaw this hDn)]; exact this
 ·have:=u.frzs b ob x e
  rw [zaax (zaaw this hDn)]; exact this
 ·obtain ⟨m,q⟩:=u.tbls b ps e
  exact ⟨m,by rw [zaax (zaaw q hDn)]; exact q⟩
 ·intro b ob e
  by_cases hb:b=D
  ·subst hb
   rw [zaai] at e; cases e
   exact ⟨hz,its,n,r,hDo⟩
  ·rw [zaax hb] at e
   exact (J.hok b ob e).stay (fun c v _ q=>q) (fun c q=>by rw [zaax (zaaw q hDn)]; exact q) fun c xs q=>by rw [zaax (zaaw q hDn)]; exact q
 ·obtain ⟨_,f1,_,f3,f4,f5⟩:=(hf b hb).1
  exact ⟨f3,f1,f4,f5⟩
end
def PIf (X:Cx) (ifs:List Expr) (t:TT):Prop :=
 ∀ (pins:List (Addr × Obj)) (s:Shared) (σ:St) (H:Hp) (Q:Bool→Hp→Prop),Inv X pins σ H s→t σ H Q →
  wpAny (model X.prog X.w) X.A (forIn ifs true fun c r=>if r=true then do let ok ← isTrue c X.env (eval c X.env); pure (ForInStep.yield ok) else pure (ForInStep.yield r)) (TP X pins σ Q) X.xe s
def tYes:TT:=fun _ H Q=>Q true H
theorem zasp {X:Cx}:PIf X [] tYes:=fun _ _ _ H _ I h=>wpAny_tests_nil ⟨H,I,h⟩
structure Comp (J:It) (g:TG) (tt:TT) (te:TE) (Q:List V→Hp→Prop) (σ:St) (H:Hp):Prop where
 ex:∃ W:Nat→Nat→List V→St→Hp→Prop,(∃ m,W 0 m [] σ H)∧∀ i m ys σ H,W i m ys σ H→ys.length < sizeLine ∧
  ((J.stop i H∧Q ys H)∨(J.go i H∧∃ N:List V→St→Hp→Prop,(∀ ys' σ' H',N ys' σ' H'→∃ m',m' < m∧W (i + 1) m' ys' σ' H') ∧
    ∀ x H',J.yld i H x H'→g x σ H' fun σ2 H2=>tt σ2 H2 fun b H3=>if b=true then te σ2 H3 fun y H4=>N (ys++[y]) σ2 H4 else N ys σ2 H3))
section
variable {prog:Program}{w:World}{A:Around}{R:Result→Shared→Prop}{s:Shared}
theorem zai0 {elt target iter:Expr}{ifs:List Expr}{scope:Scope}{pos:Pos}{it acc:Value}{env:Env} (I:Nat→Shared→Prop)
  (turn:∀ n s,I n s→wpAny (model prog w) A (pyNext it) (fun r s₁=>match r with
   | none=>R (.ok .next) s₁
   | some v=>wpAny (model prog w) A (letOwnedTupleGo target it v) (fun _ s₁=>wpAny (model prog w) A (assign target env v) (fun _ s₂ =>
     wpAny (model prog w) A (forIn ifs true fun c r=>if r=true then do let ok ← isTrue c env (eval c env); pure (ForInStep.yield ok) else pure (ForInStep.yield r)) (fun ok s₃ =>
      if ok=true then wpAny (model prog w) A (eval elt env) (fun x s₄ =>
       wpAny (model prog w) A (call (.builtin "list.append") [acc,x]) (fun _ s₅=>∃ m,m < n∧I m s₅) (fun _ _=>False) s₄) (fun _ _=>False) s₃
      else ∃ m,m < n∧I m s₃) (fun _ _=>False) s₂) (fun _ _=>False) s₁) (fun _ _=>False) s₁) (fun _ _=>False) s)
  (n:Nat) (h:I n s):codeAny (model prog w) A (.compLoop (.ListComp elt [⟨target,iter,ifs,0⟩] scope pos) 0 it acc env) R s:=by
 refine codeAny_loop rfl I (fun n s hI=>?_) n h
 show wpAny _ A ((compTurn (.ListComp elt [⟨target,iter,ifs,0⟩] scope pos) 0 it acc env).onRaise (fun x=>do noteFrame x env; theTreesLotGoes x)) _ _ s
 refine wpAny_noted (wpAny_noRaise ?_)
 rw [compTurn_list]
 refine wpAny_bind (wpAny_standAt (wpAny_bind (wpAny_mono (turn n s hI) (fun r s₁ h₁=>?_) fun _ _ h'=>h')))
 cases r with
 | none=>exact wpAny_pure h₁
 | some v =>
  refine wpAny_bind (wpAny_mono h₁ (fun _ s₁ h₁=>?_) fun _ _ h'=>h')
  refine wpAny_bind (wpAny_mono h₁ (fun _ s₂ h₂=>wpAny_bind (wpAny_mono h₂ (fun ok s₃ h₃=>?_) fun _ _ h'=>h')) fun _ _ h'=>h')
  cases ok with
  | false=>exact wpAny_pure ⟨rfl,h₃⟩
  | true =>
   exact wpAny_bind (wpAny_bind (wpAny_mono h₃ (fun x s₄ h₄=>wpAny_bind (wpAny_mono h₄ (fun _ s₅ h₅=>wpAny_pure (wpAny_pure ⟨rfl,h₅⟩)) fun _ _ h'=>h')) fun _ _ h'=>h'))
end
end L2

namespace L2
open PySem PySem.Spec PyProof.Rows
structure TurnX (G:Cx→Prop) (P:Program) (w:World) (K:PySem.W.Frag) (tg:Expr) (J:It) (fp:List Addr) (it:Addr) (tn:Nat→Heap→Prop):Prop where
 obj:∀ i h,tn i h→∀ b∈fp,∃ o,h.get? b=some o∧∀ v,o.data≠.cell v
 keep:∀ i h h',tn i h→(∀ b∈fp,∀ o,h.get? b=some o→h'.get? b=some o)→tn i h'
 item:∀ (X:Cx),X.prog=P→X.w=w→X.K=K→G X→∀ (i:Nat) (pins:List (Addr × Obj)) (s:Shared) (σ:St) (H:Hp) (E:Value→Shared→Prop),Inv X pins σ H s→(∀ b∈fp,FpOk X pins H b)→tn i s.heap→J.go i H →
  wpAny (model P w) X.A (pyNext (.ref it)) (fun r s1=>∃ u,r=some u ∧
   wpAny (model P w) X.A (letOwnedTupleGo tg (.ref it) u) (fun _ s2=>∃ x H',Inv X pins σ H' s2∧RelV x u∧J.yld i H x H'∧tn (i + 1) s2.heap∧∀ b∈fp,H' b=none) E s1) E s
 done:∀ (X:Cx),X.prog=P→X.w=w→X.K=K→G X→∀ (i:Nat) (pins:List (Addr × Obj)) (s:Shared) (σ:St) (H:Hp) (E:Value→Shared→Prop),Inv X pins σ H s→(∀ b∈fp,FpOk X pins H b)→tn i s.heap→J.stop i H →
  wpAny (model P w) X.A (pyNext (.ref it)) (fun r s1=>r=none∧Inv X pins σ H s1) E s
 self:∀ (A:Around) (i:Nat) (s:Shared) (Q:Value→Shared→Prop) (E:Value→Shared→Prop),tn i s.heap→Q (.ref it) s→wpAny (model P w) A (pyIter (.ref it)) Q E s
theorem Turn.x {P:Program}{w:World}{K:PySem.W.Frag}{tg:Expr}{J:It}{fp:List Addr}{it:Addr}{tn:Nat→Heap→Prop} (T:Turn P w K tg J fp it tn):TurnX (fun X=>X.calm=true) P w K tg J fp it tn:=⟨T.obj,T.keep,T.item,T.done,T.self⟩
section
variable {X:Cx}{sc:Scope}{own:List Str}{fr:List Nat}{N':List Str}{tg elt iter:Expr}{ifs:List Expr}{g:TG}{tt:TT}{te:TE}{wi:TI}{pos:Pos}
theorem zahb {G:Cx→Prop}{pins:List (Addr × Obj)}{σ:St}{H:Hp}{s2:Shared}{it:Addr}{fp:List Addr}{tn:Nat→Heap→Prop}{J:It}{QQ:List V→Hp→Prop}{cl:List (Str × Addr)}{RR:Value→Addr→Result→Shared→Prop}{E:Value→Shared→Prop}
  (I2:Inv X pins σ H s2) (hc:∀ cl C s H fp,G (cxC X sc cl N' C s H fp)) (T:TurnX G X.prog X.w X.K tg J fp it tn) (st:tn 0 s2.heap) (f2:∀ b∈fp,FpOk X pins H b) (cs:CompOk sc X.env.scope own X.N fr N')
  (h1:∀ x c,cl.lookup x=some c→X.env.cells.lookup x=some c) (h2:∀ y∈sc.names,y.2=.free→∃ c,cl.lookup y.1=some c)
  (hg:∀ cl C s H fp,PG (cxC X sc cl N' C s H fp) tg g) (hif:∀ cl C s H fp,PIf (cxC X sc cl N' C s H fp) ifs tt) (he:∀ cl C s H fp,PE (cxC X sc cl N' C s H fp) elt te)
  (KK:Comp J g tt te QQ (cst own.length fr σ) H)
  (hRR:∀ D C m H' ys s',s2.heap.objs.size≤C→s'.heap.Ns C m→H' D=none→(upd H' D (.lst ys)) C=none→QQ ys H'→Inv X pins σ (upd H' D (.lst ys)) s'→RR (.ref D) C (.ok .next) s') :
  wpAny (model X.prog X.w) X.A (newList []) (fun acc s₃=>wpAny (model X.prog X.w) X.A (newFunctionEnv sc X.env.globals cl [] X.env.qual none .none (some X.env)) (fun cenv s₄ =>
   codeAny (model X.prog X.w) X.A (.compStart (.ListComp elt [⟨tg,iter,ifs,0⟩] sc pos) 0 (.ref it) acc { cenv with scope:=relabel sc X.env }) (RR acc cenv.locals) s₄) E s₃) E s2:=by
 refine wpAny_newObj_type (wpAny_newFunctionEnv cs.nocell (by intro y hy; simp at hy) (fun h₁ hns₁ hsb₁=>?_) cs.kind)
 dsimp only at hns₁ hsb₁ ⊢
 generalize hH2:s2.heap.push { cls:=.type "list",dict:=none,data:=.seq ([]:List Value).toArray }=H2 at hns₁ hsb₁ ⊢
 have hC:H2.objs.size=s2.heap.objs.size + 1:=by rw [← hH2,Heap.size_push]
 have hDC:s2.heap.objs.size≠H2.objs.size:=by rw [hC]; exact Nat.ne_of_lt (Nat.lt_succ_self _)
 have hCle:s2.heap.objs.size≤H2.objs.size:=by rw [hC]; exact Nat.le_succ _
 have below:∀ b,b < s2.heap.objs.size→b≠H2.objs.size∧b≠s2.heap.objs.size:=fun b hb=>⟨by rw [hC]; exact Nat.ne_of_lt (Nat.lt_succ_of_lt hb),Nat.ne_of_lt hb⟩
 have old:∀ b o,s2.heap.get? b=some o→h₁.get? b=some o:=fun b o e=>hsb₁.extBut b o (below b (Heap.lt_size e)).1 (Heap.get?_push_of_some _ (hH2 ▸ Heap.get?_push_of_some _ e))
 have hacc:h₁.get? s2.heap.objs.size=some { cls:=.type "list",data:=.seq ([]:List Value).toArray 0 }:=hsb₁.extBut _ _ hDC (Heap.get?_push_of_some _ (hH2 ▸ Heap.get?_push_size _ rfl))
 have fpo:∀ b∈fp,FpOk X pins H b∧∃ o,s2.heap.get? b=some o:=fun b hb=>⟨f2 b hb,let ⟨o,e,_⟩:=T.obj 0 _ st b hb; ⟨o,e⟩⟩
 have st1:tn 0 h₁:=T.keep _ _ _ st fun b hb o e=>old b o e
 have hns:h₁.Ns H2.objs.size fun _=>none:=by simpa using hns₁
 obtain ⟨W,⟨m0,w0⟩,turn⟩:=KK.ex
 have loop:∀ s₃:Shared,s₃={ s2 with heap:=h₁,toks:=s2.toks + ([]:List (Str × Value)).length } →
   codeAny (model X.prog X.w) X.A (.compLoop (.ListComp elt [⟨tg,iter,ifs,0⟩] sc pos) 0 (.ref it) (.ref s2.heap.objs.size) (compEnvC sc cl H2.objs.size X.env)) (RR (.ref s2.heap.objs.size) H2.objs.size) s₃:=by
  rintro s₃ rfl
  have J0:Inv (cxC X sc cl N' H2.objs.size s2 H fp) [(s2.heap.objs.size,{ cls:=.type "list",data:=.seq ([]:List Value).toArray 0 })] (cst own.length fr σ) H { s2 with heap:=h₁,toks:=s2.toks + ([]:List (Str × Value)).length } :=
   zajx I2 cs h1 h2 fpo hCle (Nat.le_refl _) hDC old hns hacc (fun v z=>by cases z)
  have stat:∀ {pl:List (Addr × Obj)}{H':Hp},(∀ p∈pl,p.1=s2.heap.objs.size)→(∀ b∈fp,H' b=none)→∀ b∈fp,FpOk (cxC X sc cl N' H2.objs.size s2 H fp) pl H' b:=fun {pl H'} hpl hn b hb=>by
   obtain ⟨f,ob,e⟩:=fpo b hb
   refine ⟨hn b hb,(below b (Heap.lt_size e)).1,fun z=>?_,.inl hb,fun x c ec=>f.2.2.2.2.1 x c (h1 x c ec),fun p hp=>?_⟩
   ·have z':b∈frs X.stack:=z
    rcases List.mem_cons.mp (I2.stkSub b z') with q | q
    ·exact f.2.1 q
    ·exact f.2.2.1 q
   ·have hp':p∈pl:=hp
    rw [hpl p hp']
    exact Ne.symm (below b (Heap.lt_size e)).2
  have one:∀ (o:Obj),∀ p∈[(s2.heap.objs.size,o)],p.1=s2.heap.objs.size:=fun o p hp=>by
   have:p=(s2.heap.objs.size,o):=by simpa using hp
   rw [this]
  refine zai0 (env:=compEnvC sc cl H2.objs.size X.env) (fun n s'=>∃ i ys its k σ' H',Inv (cxC X sc cl N' H2.objs.size s2 H fp) [(s2.heap.objs.size,{ cls:=.type "list",data:=.seq (its:List Value).toArray k })] σ' H' s'∧tn i s'.heap∧(∀ b∈fp,H' b=none)∧Vals ys its∧W i n ys σ' H')
   ?_ m0 ⟨0,[],[],0,_,H,J0,st1,fun b hb=>(f2 b hb).1,.nil,w0⟩
  rintro n s3 ⟨i,ys,its,k,σ3,H3,I3,st3,fr3,rv,w3⟩
  obtain ⟨hlen,alt⟩:=turn i n ys σ3 H3 w3
  rcases alt with ⟨stop,qn⟩ | ⟨go,N,hN,step⟩
  ·refine wpAny_mono (T.done (cxC X sc cl N' H2.objs.size s2 H fp) rfl rfl rfl (hc _ _ _ _ _) i _ s3 σ3 H3 (fun _ _=>False) I3 (stat (one _) fr3) st3 stop) (fun r s4 ⟨hr,I4⟩=>?_) fun _ _ z=>z
   subst hr
   obtain ⟨m,hm,_⟩:=I4.loc
   have hDn:H3 s2.heap.objs.size=none:=(I4.pin (s2.heap.objs.size,{ cls:=.type "list",data:=.seq its.toArray k }) (List.mem_append_right _ List.mem_cons_self)).2.1
   exact hRR _ _ m H3 ys s4 hCle hm hDn (by rw [zaax (Ne.symm hDC)]; exact I4.free) qn (zam0 I2 fpo (Nat.le_refl _) I4 rv (Nat.le_of_lt hlen))
  ·refine wpAny_mono (T.item (cxC X sc cl N' H2.objs.size s2 H fp) rfl rfl rfl (hc _ _ _ _ _) i _ s3 σ3 H3 (fun _ _=>False) I3 (stat (one _) fr3) st3 go) (fun r s4 ⟨u,hr,h4⟩=>?_) fun _ _ z=>z
   subst hr
   refine wpAny_mono h4 (fun _ s5 ⟨x,H5,I5,r5,y5,st5,fr5⟩=>?_) fun _ _ z=>z
   have I5':=I5.pinned (stat (one _) fr5) (T.obj _ _ st5)
   refine wpAny_mono (hg cl H2.objs.size s2 H fp _ s5 σ3 H5 x u _ I5' r5 (step x H5 y5)) (fun _ s6 ⟨σ6,H6,I6,q6⟩=>?_) fun _ _ z=>z
   refine wpAny_mono (hif cl H2.objs.size s2 H fp _ s6 σ6 H6 _ I6 q6) (fun b s7 ⟨H7,I7,q7⟩=>?_) fun _ _ z=>z
   have fps:∀ {σ8:St}{H8:Hp}{s8:Shared},Inv (cxC X sc cl N' H2.objs.size s2 H fp) ([(s2.heap.objs.size,{ cls:=.type "list",data:=.seq its.toArray k })]++pinsAt fp s5.heap) σ8 H8 s8 →
     tn (i + 1) s8.heap∧∀ b∈fp,H8 b=none:=fun {σ8 H8 s8} I8=>by
    refine ⟨T.keep _ _ _ st5 fun b hb o e=>(I8.pin (b,o) (List.mem_append_right _ (List.mem_append_right _ (zad0 hb e)))).1,fun b hb=>?_⟩
    obtain ⟨o,e,d⟩:=T.obj _ _ st5 b hb
    exact (I8.pin (b,o) (List.mem_append_right _ (List.mem_append_right _ (zad0 hb e)))).2.1
   cases b with
   | false =>
    obtain ⟨m',hm,w7⟩:=hN ys σ6 H7 q7
    exact ⟨m',hm,i + 1,ys,its,k,σ6,H7,I7.unpinned,(fps I7).1,(fps I7).2,rv,w7⟩
   | true =>
    have q7':te σ6 H7 fun y H4=>N (ys++[y]) σ6 H4:=q7
    refine wpAny_mono (he cl H2.objs.size s2 H fp _ s7 σ6 H7 _ I7 q7') (fun uy s8 ⟨y,H8,I8,r8,n8⟩=>?_) fun _ _ z=>z
    obtain ⟨m',hm,w8⟩:=hN _ _ _ n8
    obtain ⟨hDo,hDn,hDL,hDf,_⟩:=I8.pin (s2.heap.objs.size,{ cls:=.type "list",data:=.seq its.toArray k }) (List.mem_append_right _ (List.mem_append_left _ List.mem_cons_self))
    have hys:its.toArray.size≤sizeLine:=by rw [List.size_toArray,← rv.length]; exact Nat.le_of_lt hlen
    refine wpAny_list_append_plain (hsz:=hys) (⟨k,hDo⟩:s8.heap.PlainList s2.heap.objs.size its.toArray) fun h9 ⟨k',hl9⟩ hs9=>?_
    have hDp:∀ p∈(cxC X sc cl N' H2.objs.size s2 H fp).pn++pinsAt fp s5.heap,p.1≠s2.heap.objs.size:=fun p hp=>by
     have hp':p∈pinsAt fp s5.heap:=by
      have hp2:p∈([]:List (Addr × Obj))++pinsAt fp s5.heap:=hp
      simpa using hp2
     obtain ⟨hb,_⟩:=zaim hp'
     obtain ⟨_,ob,e⟩:=fpo p.1 hb
     exact (below p.1 (Heap.lt_size e)).2
    have I8':Inv (cxC X sc cl N' H2.objs.size s2 H fp) (pinsAt fp s5.heap) σ6 H8 s8:=I8.pins_of fun p hp=>I8.pin p (List.mem_append_right _ (List.mem_append_right _ hp))
    have I9:Inv (cxC X sc cl N' H2.objs.size s2 H fp) (pinsAt fp s5.heap) σ6 H8 { s8 with heap:=h9 }:=I8'.turned (t':=s8.toks) (it:=s2.heap.objs.size) (fun b o hb e=>(hs9.2 b hb).trans e) hDn hDL (.inr (Nat.le_refl _))
     (fun x c e z=>by
      obtain ⟨v,q⟩:=I2.cell x c (h1 x c e)
      have:=q.lt
      rw [z] at this
      exact absurd this (Nat.lt_irrefl _)) hDp
    have key:=fps I8
    refine ⟨m',hm,i + 1,ys++[y],its++[uy],k',σ6,H8,I9.pins_of fun p hp=>?_,T.keep _ _ _ key.1 fun b hb o e=>?_,key.2,rv.append (.cons r8 .nil),w8⟩
    ·have e:p=(s2.heap.objs.size,{ cls:=.type "list",data:=.seq (its++[uy]).toArray k' }):=by simpa using hp
     subst e
     refine ⟨?_,hDn,hDL,hDf,fun v z=>by cases z⟩
     have:(its++[uy]).toArray=its.toArray.push uy:=by simp
     rw [this]; exact hl9
    ·obtain ⟨_,ob,e2⟩:=fpo b hb
     exact (hs9.2 b (below b (Heap.lt_size e2)).2).trans e
 exact codeAny_compStart_list (loop _ rfl) (wpAny_mono (T.self X.A 0 _ (fun it' s'=>it'=.ref it∧s'={ s2 with heap:=h₁,toks:=s2.toks + ([]:List (Str × Value)).length }) _ st1 ⟨rfl,rfl⟩) (fun it' s' ⟨e1,e2⟩=>by subst e1 e2; exact loop _ rfl) fun _ _ z=>z)
def tComp (n:Nat) (fr:List Nat) (wi:TI) (g:TG) (tt:TT) (te:TE):TE:=fun σ H Q=>wi σ H fun J H1=>Comp J g tt te (fun ys H2=>∀ D,H2 D=none→Q (.ref D) (upd H2 D (.lst ys))) (cst n fr σ) H1
theorem zasq (hc:X.calm=true) (cs:CompOk sc X.env.scope own X.N fr N') (hi:PI X tg iter wi) (hg:∀ cl C s H fp,PG (cxC X sc cl N' C s H fp) tg g) (hif:∀ cl C s H fp,PIf (cxC X sc cl N' C s H fp) ifs tt)
  (he:∀ cl C s H fp,PE (cxC X sc cl N' C s H fp) elt te) (hs:∀ x,foldedSetIterable iter X.env x=pure x:=by intro _; rfl):PE X (.ListComp elt [⟨tg,iter,ifs,0⟩] sc pos) (tComp own.length fr wi g tt te):=by
 intro pins s σ H Q I h
 obtain ⟨cl,ecl,h1,h2⟩:=zagb (env:=X.env) (sc:=sc) fun y hy hf=>I.ok.has y.1 (cs.fre y hy hf)
 rw [eval_ListComp]
 refine wpAny_comprehension_free (use:=none) rfl hs ecl cs.kind cs.loc (thn (hi pins s σ H _ I h) fun v s1 q1=>thn q1 fun itv s2 q2=>?_)
 obtain ⟨it,fp,tn,J,H2,rfl,I2,T,st,f2,KK⟩:=q2
 refine zahb (RR:=fun acc C=>compPost (model X.prog X.w) X.A X.xe none (EP X pins σ Q) acc C) I2 (fun _ _ _ _ _=>hc) T.x st f2 cs h1 h2 hg hif he KK fun D C m H' ys s' hC hn hD hCn hq I'=>?_
 refine ⟨m,hn,fun h' hs'=>⟨.ref D,upd H' D (.lst ys),?_,rfl,hq D hD⟩⟩
 obtain ⟨f0,f1,f2,f3,f4,f5⟩:=I2.fpOk hC hCn
 exact I'.turned (t':=s'.toks) (it:=C) (fun b o hb e=>(hs'.2 b hb).trans e) f0 (Ne.symm (Ne.symm f1)) f3 f4 f5
def tSetC (i n:Nat) (fr:List Nat) (wi:TI) (g:TG) (tt:TT) (te:TE):TS:=fun D σ H=>wi σ H fun J H1=>Comp J g tt te (fun ys H2=>∀ p,H2 p=none→D.nx (σ.set i (some (.ref p))) (upd H2 p (.lst ys))) (cst n fr σ) H1
theorem zasr {i:Nat}{y:Str}{py spos:Pos} (hN:X.N.Nodup) (hy:X.N[i]?=some y) (hx:Loc X.env.scope y) (hc:X.calm=true) (cs:CompOk sc X.env.scope own X.N fr N') (hi:PI X tg iter wi)
  (hg:∀ cl C s H fp,PG (cxC X sc cl N' C s H fp) tg g) (hif:∀ cl C s H fp,PIf (cxC X sc cl N' C s H fp) ifs tt) (he:∀ cl C s H fp,PE (cxC X sc cl N' C s H fp) elt te)
  (hsw:swapsWith (.ListComp elt [⟨tg,iter,ifs,0⟩] sc pos) (some (.Name y py)) spos.line X.env=pure true) (hfn:X.fn y=true∨X.env.scope.names.lookup y=some .local:=by first | exact .inl rfl | exact .inr rfl | assumption) (hs:∀ x,foldedSetIterable iter X.env x=pure x:=by intro _; rfl) :
  PS X (.Assign [.Name y py] (.ListComp elt [⟨tg,iter,ifs,0⟩] sc pos) spos) (tSetC i own.length fr wi g tt te):=by
 intro pins s σ H D I h
 obtain ⟨cl,ecl,h1,h2⟩:=zagb (env:=X.env) (sc:=sc) fun y hy hf=>I.ok.has y.1 (cs.fre y hy hf)
 rw [exec_Assign_Name_used _ _ _ _ hsw]
 refine wpAny_bind (wpAny_standAt (wpAny_bind ?_))
 show wpAny _ X.A (do let _ ← comprehension (.ListComp elt [⟨tg,iter,ifs,0⟩] sc pos) sc X.env _ (newList []) false (eval iter X.env) (some (assign (.Name y py) X.env))) _ _ s
 refine wpAny_bind (wpAny_mono (wpAny_comprehension_free (use:=some (assign (.Name y py) X.env)) (Q:=fun _ s'=>∃ σ' H',Inv X pins σ' H' s'∧D.nx σ' H') rfl hs ecl cs.kind cs.loc (thn (hi pins s σ H _ I h) fun v s1 q1=>thn q1 fun itv s2 q2=>?_))
  (fun _ s' hq=>wpAny_pure (wpAny_pure hq)) fun _ _ e=>e)
 obtain ⟨it,fp,tn,J,H2,rfl,I2,T,st,f2,KK⟩:=q2
 refine zahb (RR:=fun acc C=>compPost (model X.prog X.w) X.A X.xe (some (assign (.Name y py) X.env)) (fun _ s'=>∃ σ' H',Inv X pins σ' H' s'∧D.nx σ' H') acc C) I2 (fun _ _ _ _ _=>hc) T.x st f2 cs h1 h2 hg hif he KK fun p C m H' ys s' hC hn hD hCn hq I'=>?_
 obtain ⟨f0,f1,f2,f3,f4,f5⟩:=I2.fpOk hC hCn
 show wpAny _ X.A (assign (.Name y py) X.env (.ref p)) _ _ _
 refine wpAny_assign_Name (zail (v:=.ref p) I' hN hy hx rfl (fun s'' I'' ⟨a,hsa,ha⟩=>?_) hfn)
 have hCa:C≠a:=by
  rcases ha with z | z
  ·rw [z]; exact f1
  ·exact Ne.symm (f4 y a z)
 refine ⟨m,hn.sameBut hsa hCa,fun h' hs'=>⟨_,_,?_,hq p hD⟩⟩
 exact I''.turned (t':=s''.toks) (it:=C) (fun b o hb e=>(hs'.2 b hb).trans e) f0 f1 f3 f4 f5
end
theorem zajy {J:It}{g:TG}{tt:TT}{te:TE}{Q:List V→Hp→Prop}{σ:St}{H:Hp} (n:Nat) (Pv:Nat→List V→St→Hp→Prop) (h0:Pv 0 [] σ H) (hl:∀ i ys σ H,i≤n→Pv i ys σ H→ys.length < sizeLine)
  (go:∀ i ys σ H,i < n→Pv i ys σ H→J.go i H) (stop:∀ ys σ H,Pv n ys σ H→J.stop n H)
  (turn:∀ i ys σ H,i < n→Pv i ys σ H→∀ x H',J.yld i H x H'→g x σ H' fun σ2 H2=>tt σ2 H2 fun b H3=>if b=true then te σ2 H3 fun y H4=>Pv (i + 1) (ys++[y]) σ2 H4 else Pv (i + 1) ys σ2 H3)
  (after:∀ ys σ H,Pv n ys σ H→Q ys H):Comp J g tt te Q σ H:=by
 refine ⟨fun i m ys σ H=>i≤n∧m=n - i∧Pv i ys σ H,⟨n,Nat.zero_le _,rfl,h0⟩,fun i m ys σ H ⟨hi,hm,p⟩=>⟨hl i ys σ H hi p,?_⟩⟩
 rcases Nat.lt_or_ge i n with h | h
 ·exact .inr ⟨go i ys σ H h p,Pv (i + 1),fun ys' σ' H' q=>⟨n - (i + 1),by omega,h,rfl,q⟩,turn i ys σ H h p⟩
 ·have e:i=n:=Nat.le_antisymm hi h
  subst e
  exact .inl ⟨stop ys σ H p,after ys σ H p⟩
theorem zahc {lo:Int}{n:Nat}{g:TG}{tt:TT}{te:TE}{Q:List V→Hp→Prop}{σ:St}{H:Hp} (Pv:Nat→List V→St→Hp→Prop) (hn:n < sizeLine) (h0:Pv 0 [] σ H) (hl:∀ i ys σ H,i≤n→Pv i ys σ H→ys.length≤i)
  (turn:∀ i ys σ H,i < n→Pv i ys σ H→g (.int (lo + i)) σ H fun σ2 H2=>tt σ2 H2 fun b H3=>if b=true then te σ2 H3 fun y H4=>Pv (i + 1) (ys++[y]) σ2 H4 else Pv (i + 1) ys σ2 H3)
  (after:∀ ys σ H,Pv n ys σ H→Q ys H):Comp (Itr lo n) g tt te Q σ H :=
 zajy n Pv h0 (fun i ys σ H hi p=>Nat.lt_of_le_of_lt (Nat.le_trans (hl i ys σ H hi p) hi) hn) (fun i _ _ _ hi _=>hi) (fun _ _ _ _=>Nat.le_refl _) (fun i ys σ H hi p x H' y=>by obtain ⟨rfl,rfl⟩:=y; exact turn i ys σ _ hi p) after
theorem zai1 {K:PySem.W.Frag}{a:Addr} (xs:List V) {g:TG}{tt:TT}{te:TE}{Q:List V→Hp→Prop}{σ:St}{H:Hp} (Pv:Nat→List V→St→Hp→Prop) (hn:xs.length < sizeLine) (h0:Pv 0 [] σ H) (hl:∀ i ys σ H,i≤xs.length→Pv i ys σ H→ys.length≤i∧SqL K H a xs)
  (turn:∀ i ys σ H x,xs[i]?=some x→Pv i ys σ H→g x σ H fun σ2 H2=>tt σ2 H2 fun b H3=>if b=true then te σ2 H3 fun y H4=>Pv (i + 1) (ys++[y]) σ2 H4 else Pv (i + 1) ys σ2 H3)
  (after:∀ ys σ H,Pv xs.length ys σ H→Q ys H):Comp (Itl K a) g tt te Q σ H :=
 zajy xs.length Pv h0 (fun i ys σ H hi p=>Nat.lt_of_le_of_lt (Nat.le_trans (hl i ys σ H hi p).1 hi) hn) (fun i ys σ H hi p=>⟨xs,xs[i],(hl i ys σ H (Nat.le_of_lt hi) p).2,List.getElem?_eq_getElem hi⟩)
  (fun ys σ H p=>⟨xs,(hl _ ys σ H (Nat.le_refl _) p).2,Nat.le_refl _⟩) (fun i ys σ H hi p x H' y=>by obtain ⟨rfl,y⟩:=y; exact turn i ys σ _ x (y xs (hl i ys σ _ (Nat.le_of_lt hi) p).2) p) after
theorem zaku {K:PySem.W.Frag}{a:Addr} (xs:List V) {g:TG}{tt:TT}{te:TE}{Q:List V→Hp→Prop}{σ:St}{H:Hp} (Pv:Nat→List V→St→Hp→Prop) (hn:xs.length < sizeLine) (h0:Pv 0 [] σ H) (hl:∀ i ys σ H,i≤xs.length→Pv i ys σ H→ys.length≤i∧SqT K H a xs)
  (turn:∀ i ys σ H x,xs[i]?=some x→Pv i ys σ H→g x σ H fun σ2 H2=>tt σ2 H2 fun b H3=>if b=true then te σ2 H3 fun y H4=>Pv (i + 1) (ys++[y]) σ2 H4 else Pv (i + 1) ys σ2 H3)
  (after:∀ ys σ H,Pv xs.length ys σ H→Q ys H):Comp (Itt K a) g tt te Q σ H :=
 zajy xs.length Pv h0 (fun i ys σ H hi p=>Nat.lt_of_le_of_lt (Nat.le_trans (hl i ys σ H hi p).1 hi) hn) (fun i ys σ H hi p=>⟨xs,xs[i],(hl i ys σ H (Nat.le_of_lt hi) p).2,List.getElem?_eq_getElem hi⟩)
  (fun ys σ H p=>⟨xs,(hl _ ys σ H (Nat.le_refl _) p).2,Nat.le_refl _⟩) (fun i ys σ H hi p x H' y=>by obtain ⟨rfl,y⟩:=y; exact turn i ys σ _ x (y xs (hl i ys σ _ (Nat.le_of_lt hi) p).2) p) after
end L2

namespace L2
open PySem PySem.Spec PyProof.Rows
open AutoSeq1 (wpAny_loadPart') in
set_option maxHeartbeats 4000000 in
theorem zagc (k:SK) (l:Addr) (xs:Array Value) :
  Meets (Builtin.«enumerate.__new__» ⟨[.type "enumerate",.ref l],[]⟩) (fun _ R s=>SIs k s.heap l xs ∧
   R (.ok (.ret (.ref (s.heap.push (itObj k l)).objs.size))) { s with heap:=(s.heap.push (itObj k l)).push { cls:=.type "enumerate",data:=.fields #[.none,.bool false,.ref s.heap.objs.size,rawInt 0,.none,.none] } }):=by
 cases k with
 | list =>
  exact .of_wp fun prog w A R s h=>by
   obtain ⟨hp,g,d,tk,os⟩:=s; obtain ⟨hL,h⟩:=h
   have hsub:=sub_enumerate
   have hL:Heap.IsList (Shared.heap ⟨hp,g,d,tk,os⟩) l xs:=hL
   obtain ⟨ol,hl,hlc,nl,hld⟩:=id hL
   wp_walk using wpAny_loadPart' hl
   refine wpAny_stack_any fun st=>wpAny_pure ?_
   split
   ·rename_i c _ _ _ _ _
    cases (c == Value.type "enumerate")
    ·wp_walk using wpAny_loadPart' hl,wpAny_pyIter_list hL
     exact ⟨_,rfl,h⟩
    ·wp_walk using wpAny_loadPart' hl,wpAny_pyIter_list hL
     exact ⟨_,rfl,h⟩
   ·wp_walk using wpAny_loadPart' hl,wpAny_pyIter_list hL
    exact ⟨_,rfl,h⟩
 | tuple =>
  exact .of_wp fun prog w A R s h=>by
   obtain ⟨hp,g,d,tk,os⟩:=s; obtain ⟨hL,h⟩:=h
   have hsub:=sub_enumerate
   have hL:Heap.IsTuple (Shared.heap ⟨hp,g,d,tk,os⟩) l xs:=hL
   obtain ⟨ol,hl,hlc,nl,hld⟩:=id hL
   wp_walk using wpAny_loadPart' hl
   refine wpAny_stack_any fun st=>wpAny_pure ?_
   split
   ·rename_i c _ _ _ _ _
    cases (c == Value.type "enumerate")
    ·wp_walk using wpAny_loadPart' hl,wpAny_pyIter_tuple hL
     exact ⟨_,rfl,h⟩
    ·wp_walk using wpAny_loadPart' hl,wpAny_pyIter_tuple hL
     exact ⟨_,rfl,h⟩
   ·wp_walk using wpAny_loadPart' hl,wpAny_pyIter_tuple hL
    exact ⟨_,rfl,h⟩
section
variable {prog:Program}{w:World}{A:Around}{E:Value→Shared→Prop}{s:Shared}
theorem zalt {k:SK}{l:Addr}{xs:Array Value}{Q:Value→Shared→Prop} (hL:SIs k s.heap l xs)
  (h:∀ h',IsEnum h' (s.heap.objs.size + 1) s.heap.objs.size 0 .none→SIt k h' s.heap.objs.size l 0→(∀ b o,s.heap.get? b=some o→h'.get? b=some o)→Q (.ref (s.heap.objs.size + 1)) { s with heap:=h' }) :
  wpAny (model prog w) A (call (.type "enumerate") [.ref l]) Q E s:=by
 refine callType_new F.called_enumerate (by decide) (F.typeCall_enumerate_1 _) (F.newCall_enumerate_1 _) (fun obj=>F.args_object_init_2 obj _) F.entry_enumerate_new (zagc k l xs) ⟨hL,?_⟩
 have hz:(s.heap.push (itObj k l)).objs.size=s.heap.objs.size + 1:=Heap.size_push ..
 have r1:(itObj k l).isFreed=false:=by cases k <;> rfl
 have he:=Heap.get?_push_size (s.heap.push (itObj k l)) (o:={ cls:=.type "enumerate",data:=.fields #[.none,.bool false,.ref s.heap.objs.size,rawInt 0,.none,.none] }) rfl
 rw [hz] at he
 show _∧_
 rw [hz]
 exact ⟨⟨_,he,rfl⟩,h _ he (zahm (Heap.get?_push_of_some _ (Heap.get?_push_size _ r1))) fun b o x=>Heap.get?_push_of_some _ (Heap.get?_push_of_some _ x)⟩
theorem zalu {k:SK}{e it l:Addr}{i:Nat}{items:Array Value}{x old:Value}{Q:Value→Shared→Prop}
  (he:IsEnum s.heap e it i old) (hit:SIt k s.heap it l i) (hl:SIs k s.heap l items) (hx:items[i]?=some x) (hne:e≠it)
  (hQ:∀ h',IsEnumOut h' e it ((i:Int) + 1) x s.heap.objs.size→SIt k h' it l (i + 1) →
   h'.get? s.heap.objs.size=some { cls:=.type "tuple",data:=.seq #[.int i s.toks,x] }→h'.objs.size=s.heap.objs.size + 1 →
   (∀ b o,b≠e→b≠it→s.heap.get? b=some o→h'.get? b=some o)→Q (.ref s.heap.objs.size) { s with heap:=h',toks:=s.toks + 1 }) :
  wpAny (model prog w) A (Builtin.«enumerate.__next__» ⟨[.ref e],[]⟩) (fun fin s'=>∃ v,fin=.done (.ret v)∧Q v s') E s:=by
 obtain ⟨hp,g,d,tk,os⟩:=s
 show wpAny _ _ (field (.ref e) 2 >>= _) _ _ _
 refine wpAny_bind (wpAny_field he rfl (x:=.ref it) rfl ?_)
 refine wpAny_bind (zada hit hl hx fun h₁ hit₁ hs₁=>?_)
 replace hs₁:Heap.SameBut it hp h₁:=hs₁
 have he₁:IsEnum h₁ e it i old:=(hs₁.2 e hne).trans he
 show wpAny _ _ (field (.ref e) 3 >>= _) _ _ ⟨h₁,g,d,tk,os⟩
 refine wpAny_bind (wpAny_field he₁ rfl (x:=rawInt i) rfl ?_)
 show wpAny _ _ (field (.ref e) 4 >>= _) _ _ ⟨h₁,g,d,tk,os⟩
 refine wpAny_bind (wpAny_field he₁ rfl (x:=.none) rfl ?_)
 show wpAny _ _ (mkInt i >>= _) _ _ ⟨h₁,g,d,tk,os⟩
 refine wpAny_bind (wpAny_mkInt ?_)
 show wpAny _ _ (setField (.ref e) 3 (rawInt ((i:Int) + 1)) >>= _) _ _ ⟨h₁,g,d,tk + 1,os⟩
 refine wpAny_bind (wpAny_setField_rec he₁ (by simp) fun h₂ he₂ hs₂=>?_)
 replace hs₂:Heap.SameBut e h₁ h₂:=hs₂
 replace he₂:IsEnum h₂ e it ((i:Int) + 1) old:=he₂
 show wpAny _ _ (setField (.ref e) 4 .none >>= _) _ _ ⟨h₂,g,d,tk + 1,os⟩
 refine wpAny_bind (wpAny_setField_rec he₂ (by simp) fun h₃ he₃ hs₃=>?_)
 replace hs₃:Heap.SameBut e h₂ h₃:=hs₃
 replace he₃:IsEnum h₃ e it ((i:Int) + 1) old:=he₃
 show wpAny _ _ (newTuple [.int i tk,x] >>= _) _ _ ⟨h₃,g,d,tk + 1,os⟩
 refine wpAny_bind (wpAny_newTuple ?_)
 have he₄:IsEnum (h₃.push { cls:=.type "tuple",data:=.seq #[.int i tk,x] }) e it ((i:Int) + 1) old:=Heap.get?_push_of_some _ he₃
 generalize hh₄:h₃.push { cls:=.type "tuple",data:=.seq #[.int i tk,x] }=h₄ at he₄
 have hsz:h₃.objs.size=hp.objs.size:=by rw [hs₃.1,hs₂.1,hs₁.1]
 have hel:e < hp.objs.size:=Heap.lt_size he
 have ht₄:h₄.get? hp.objs.size=some { cls:=.type "tuple",data:=.seq #[.int i tk,x] }:=by rw [← hh₄,← hsz]; exact Heap.get?_push_size _ rfl
 have hz₄:h₄.objs.size=hp.objs.size + 1:=by rw [← hh₄,Heap.size_push,hsz]
 have hk₄:∀ b o,b≠e→b≠it→hp.get? b=some o→h₄.get? b=some o:=fun b o hbe hbi hb=>by
  rw [← hh₄]; exact Heap.get?_push_of_some _ (hs₃.extBut b o hbe (hs₂.extBut b o hbe (hs₁.extBut b o hbi hb)))
 have hit₄:SIt k h₄ it l (i + 1):=by
  rw [← hh₄]; exact ((hit₁.ext hs₂.extBut (Ne.symm hne)).ext hs₃.extBut (Ne.symm hne)).at fun o ho=>Heap.get?_push_of_some _ ho
 show wpAny _ _ (Builtin.SmallTypes.ownedTupleIsFree (.ref e) >>= _) _ _ ⟨h₄,g,d,tk + 1,os⟩
 rw [hsz]
 clear hh₄ he₃ hs₃ he₂ hs₂ he₁ hs₁ hit₁ hsz h₃ h₂ h₁
 refine wpAny_bind ?_
 ·unfold Builtin.SmallTypes.ownedTupleIsFree
  refine wpAny_bind (wpAny_field he₄ rfl (x:=.none) rfl (wpAny_pure ?_))
  simp only [if_true]
  refine wpAny_bind (wpAny_rule ?_)
  refine wpAny_bind (wpAny_field he₄ rfl (x:=old) rfl ?_)
  refine wpAny_bind (wpAny_setField_rec he₄ (by simp) fun h₅ he₅ hs₅=>?_)
  replace hs₅:Heap.SameBut e h₄ h₅:=hs₅
  replace he₅:IsEnum h₅ e it ((i:Int) + 1) x:=he₅
  show wpAny _ _ (Builtin.SmallTypes.ownedTupleHandOut (.ref e) (.ref hp.objs.size) >>= _) _ _ ⟨h₅,g,d,tk + 1,os⟩
  refine wpAny_bind ?_
  ·unfold Builtin.SmallTypes.ownedTupleHandOut
   refine wpAny_bind (wpAny_setField_rec he₅ (by simp) fun h₆ he₆ hs₆=>?_)
   replace hs₆:Heap.SameBut e h₅ h₆:=hs₆
   replace he₆:IsEnumOut h₆ e it ((i:Int) + 1) x hp.objs.size:=he₆
   refine wpAny_setField_rec he₆ (by simp) fun h₇ he₇ hs₇=>?_
   replace hs₇:Heap.SameBut e h₆ h₇:=hs₇
   replace he₇:IsEnumOut h₇ e it ((i:Int) + 1) x hp.objs.size:=he₇
   refine wpAny_bind (wpAny_letGo (wpAny_pure ⟨_,rfl,hQ h₇ he₇ ?_ ?_ ?_ ?_⟩))
   ·exact ((hit₄.ext hs₅.extBut (Ne.symm hne)).ext hs₆.extBut (Ne.symm hne)).ext hs₇.extBut (Ne.symm hne)
   ·exact hs₇.extBut _ _ (Nat.ne_of_gt hel) (hs₆.extBut _ _ (Nat.ne_of_gt hel) (hs₅.extBut _ _ (Nat.ne_of_gt hel) ht₄))
   ·rw [hs₇.1,hs₆.1,hs₅.1,hz₄]
   ·exact fun b o hbe hbi hb=>hs₇.extBut b o hbe (hs₆.extBut b o hbe (hs₅.extBut b o hbe (hk₄ b o hbe hbi hb)))
theorem zafa {k:SK}{e it l:Addr}{i:Nat}{items:Array Value}{x old:Value}{Q:Option Value→Shared→Prop}
  (he:IsEnum s.heap e it i old) (hit:SIt k s.heap it l i) (hl:SIs k s.heap l items) (hx:items[i]?=some x) (hne:e≠it)
  (hQ:∀ h',IsEnumOut h' e it ((i:Int) + 1) x s.heap.objs.size→SIt k h' it l (i + 1) →
   h'.get? s.heap.objs.size=some { cls:=.type "tuple",data:=.seq #[.int i s.toks,x] }→h'.objs.size=s.heap.objs.size + 1 →
   (∀ b o,b≠e→b≠it→s.heap.get? b=some o→h'.get? b=some o)→Q (some (.ref s.heap.objs.size)) { s with heap:=h',toks:=s.toks + 1 }) :
  wpAny (model prog w) A (pyNext (.ref e)) Q E s:=by
 have hT:s.TypeIs (.ref e) "enumerate" := ⟨_,he,rfl⟩
 unfold pyNext
 exact wpAny_bind (wpAny_attempt (wpAny_callSpecial?_slot (name:=Str.ofString "__next__") hT F.slot_enumerate_next
  (wpAny_call_entry F.slot_enumerate_next hT F.entry_enumerate_next
   (zalu he hit hl hx hne fun h' a b c d k=>wpAny_pure (hQ h' a b c d k)) (F.args_enumerate_next_1 _))))
theorem zafk {k:SK}{e it l:Addr}{i:Nat}{items:Array Value}{old:Value}{Q:Option Value→Shared→Prop} (hh:A.handled=none)
  (he:IsEnum s.heap e it i old) (hit:SIt k s.heap it l i) (hl:SIs k s.heap l items) (hx:items[i]?=none)
  (hQ:∀ h',Heap.ExtBut it s.heap h'→Q none { s with heap:=h' }):wpAny (model prog w) A (pyNext (.ref e)) Q E s:=by
 have hT:s.TypeIs (.ref e) "enumerate" := ⟨_,he,rfl⟩
 unfold pyNext
 refine wpAny_bind (wpAny_attempt (wpAny_callSpecial?_slot (name:=Str.ofString "__next__") hT F.slot_enumerate_next
  (wpAny_call_entry F.slot_enumerate_next hT F.entry_enumerate_next ?_ (F.args_enumerate_next_1 _))))
 show wpAny _ _ (field (.ref e) 2 >>= _) _ _ _
 refine wpAny_bind (wpAny_field he rfl (x:=.ref it) rfl ?_)
 refine wpAny_bind (zae6 hh hit hl hx fun h' x he' hx'=>?_)
 obtain ⟨o,ho,hc⟩:=hx'
 refine wpAny_bind (wpAny_isInstance (T := "StopIteration") (b:=true) ⟨o,ho,hc⟩ isSubtype_stop ?_)
 exact wpAny_pure (hQ _ he')
end
def Itn (K:PySem.W.Frag) (k:SK) (a:Addr):It :=
 ⟨fun i H=>∃ xs x,Sq k K H a xs∧xs[i]?=some x,
  fun i H v H'=>∃ T,H T=none∧v=.ref T∧∀ xs,Sq k K H a xs→∃ x,xs[i]?=some x∧H'=upd H T (.tup [.int i,x]),
  fun i H=>∃ xs,Sq k K H a xs∧xs.length≤i⟩
theorem zam1 {P:Program}{w:World}{K:PySem.W.Frag}{elts:List Expr}{kk:Nat}{tpos:Pos}{k:SK}{e it a:Addr} (hne:e≠it) :
  Turn P w K (.Tuple elts kk tpos) (Itn K k a) [e,it] e (fun i h=>(∃ old,IsEnum h e it i old)∧SIt k h it a i) where
 mem:=by simp
 obj:=fun i h st b hb=>by
  obtain ⟨⟨old,he⟩,h1⟩:=st
  simp only [List.mem_cons,List.not_mem_nil,or_false] at hb
  rcases hb with rfl | rfl
  ·exact ⟨_,he,fun v q=>nomatch q⟩
  ·exact h1.obj
 keep:=fun i h h' st k=>by
  obtain ⟨⟨old,he⟩,h1⟩:=st
  exact ⟨⟨old,k _ (by simp) _ he⟩,h1.at fun o e=>k _ (by simp) o e⟩
 item:=by
  intro X hP hw hK hc i pins s σ H E I hf st hg
  subst hP hw hK
  obtain ⟨⟨old,he⟩,h1⟩:=st
  obtain ⟨xs,x,q1,hx⟩:=hg
  obtain ⟨ix,rx,px⟩:=I.sis q1
  obtain ⟨u,hu,ru⟩:=rx.get hx
  refine zafa he h1 px (x:=u) (by simpa using hu) hne fun h' a1 a2 a3 a4 a5=>?_
  refine ⟨_,rfl,wpAny_letOwnedTupleGo_enum (s:={ s with heap:=h',toks:=s.toks + 1 }) a1 fun h'' b1 b2=>?_⟩
  have elt:e < s.heap.objs.size:=Heap.lt_size he
  have ilt:it < s.heap.objs.size:=by obtain ⟨o,ho,_⟩:=h1.obj; exact Heap.lt_size ho
  have k2:∀ c o,c ∉ [e,it]→s.heap.get? c=some o→h''.get? c=some o:=fun c o hc ec=>by
   simp only [List.mem_cons,List.not_mem_nil,or_false,not_or] at hc
   exact b2.extBut _ _ hc.1 (a5 c o hc.1 hc.2 ec)
  have hT2:h''.get? s.heap.objs.size=some { cls:=.type "tuple",data:=.seq #[.int i s.toks,u] }:=b2.extBut _ _ (Nat.ne_of_gt elt) a3
  refine ⟨.ref s.heap.objs.size,upd H s.heap.objs.size (.tup [.int i,x]),I.turnedNew (t':=s.toks + 1) (o:=.tup [.int i,x]) k2 hf (Nat.le_refl _)
   ⟨by show 2≤sizeLine; decide,[.int i s.toks,u],.cons ⟨_,rfl⟩ (.cons ru .nil),⟨_,hT2,rfl,_,rfl⟩⟩,rfl,
   ⟨_,I.hok.fresh (Nat.le_refl _),rfl,fun xs' e1=>?_⟩,⟨⟨u,by simpa using b1⟩,a2.at fun o eo=>b2.extBut _ _ (Ne.symm hne) eo⟩,fun b hb=>?_⟩
  ·rw [I.sq_inj e1 q1]
   exact ⟨x,hx,rfl⟩
  ·have blt:b < s.heap.objs.size:=by
    simp only [List.mem_cons,List.not_mem_nil,or_false] at hb
    rcases hb with rfl | rfl
    ·exact elt
    ·exact ilt
   rw [zaax (Nat.ne_of_lt blt)]
   exact (hf b hb).1
 done:=by
  intro X hP hw hK hc i pins s σ H E I hf st hg
  subst hP hw hK
  obtain ⟨⟨old,he⟩,h1⟩:=st
  obtain ⟨xs,q1,hl⟩:=hg
  obtain ⟨ix,rx,px⟩:=I.sis q1
  have l1:=rx.length
  refine zafk (I.ok.hd hc) he h1 px (by simp; omega) fun h' hk=>⟨rfl,I.turnedL (t':=s.toks) (its:=[e,it]) (fun b o hb eb=>?_) hf⟩
  simp only [List.mem_cons,List.not_mem_nil,or_false,not_or] at hb
  exact hk b o hb.2 eb
 self:=fun _ _ _ _ _ st h=>by
  obtain ⟨⟨old,he⟩,_⟩:=st
  exact wpAny_pyIter_enum he h
section
variable {X:Cx}{elts:List Expr}{kk:Nat}{tpos:Pos}
def iEnum (K:PySem.W.Frag) (k:SK) (ta:TA):TI:=fun σ H R=>ta σ H fun vs H1=>∃ a,vs=[.ref a]∧(∃ xs,Sq k K H1 a xs)∧R (Itn K k a) H1
theorem zass (k:SK) {a:Expr}{ta:TA}{p pos:Pos} (hg:Gl X "enumerate") (hm:X.mg "enumerate" = none) (ha:PA X [a] ta) (hs:starEach [a] X.env=[(false,eval a X.env)]:=by rfl) :
  PI X (.Tuple elts kk tpos) (.Call (.Name "enumerate" p) [a] [] pos) (iEnum X.K k ta):=by
 intro pins s σ H R I h
 refine Call_ (zag3 I hg hm PyProof.Rows.Boot.«enumerate» (PyProof.Rows.callWith_type1 (thn (ha pos pins s σ H _ I h) fun us s1 ⟨vs,H1,I1,r1,q1⟩=>?_) hs rfl))
 obtain ⟨a',e,⟨xs,qx⟩,q⟩:=q1
 subst e
 cases r1 with
 | cons r rr =>
  cases rr
  cases r
  obtain ⟨ix,rx,px⟩:=I1.sis qx
  refine zalt px fun h' b1 b2 b3=>wpAny_pyIter_enum (s:={ s1 with heap:=h' }) b1 ?_
  have nn:∀ b,s1.heap.objs.size≤b→FpOk X pins H1 b:=fun b hb=>I1.fpOk hb (I1.hok.fresh hb)
  refine ⟨_,[s1.heap.objs.size + 1,s1.heap.objs.size],_,_,H1,rfl,I1.kept (t':=s1.toks) b3,zam1 (k:=k) (Nat.ne_of_gt (Nat.lt_succ_self _)),⟨⟨_,b1⟩,b2⟩,fun b hb=>?_,q⟩
  simp only [List.mem_cons,List.not_mem_nil,or_false] at hb
  rcases hb with rfl | rfl
  ·exact nn _ (Nat.le_succ _)
  ·exact nn _ (Nat.le_refl _)
end
theorem zam2 {K:PySem.W.Frag}{k:SK}{a:Addr}{xs:List V}{g:TG}{tb:TS}{D:Ends}{σ:St}{H:Hp} (Pv:Nat→St→Hp→Prop) (h0:Pv 0 σ H)
  (hl:∀ i σ H,i≤xs.length→Pv i σ H→Sq k K H a xs)
  (hs:∀ i x σ H T,xs[i]?=some x→Pv i σ H→H T=none→g (.ref T) σ (upd H T (.tup [.int i,x])) fun σ2 H2=>tb { D with nx:=Pv (i + 1),ct:=Pv (i + 1),bk:=D.nx } σ2 H2)
  (hd:∀ σ H,Pv xs.length σ H→D.nx σ H):Loop (Itn K k a) g tb D σ H:=by
 refine ⟨fun i m σ H=>m=xs.length - i∧i≤xs.length∧Pv i σ H,⟨xs.length,by simp,Nat.zero_le _,h0⟩,?_⟩
 rintro i m σ H ⟨rfl,hi,p⟩
 have q1:=hl i σ H hi p
 by_cases hlt:i < xs.length
 ·refine .inr ⟨⟨xs,xs[i],q1,by simp [hlt]⟩,Pv (i + 1),fun σ' H' p'=>⟨xs.length - (i + 1),by omega,rfl,hlt,p'⟩,fun x H' y=>?_⟩
  obtain ⟨T,hT,rfl,y⟩:=y
  obtain ⟨u,e1,rfl⟩:=y xs q1
  exact hs i u σ H T e1 p hT
 ·have e:i=xs.length:=by omega
  refine .inl ⟨⟨xs,q1,by omega⟩,?_⟩
  subst e
  exact hd σ H p
end L2

namespace L2
open PySem PySem.Spec PyProof.Rows
theorem ObjOk.has {P:Program}{w:World}{H:Hp}{h:Heap}{a:Addr}:∀ {o:HO},ObjOk P w H h a o→∃ ob,h.get? a=some ob
 | .lst _,⟨_,_,_,_,e⟩=>⟨_,e⟩
 | .tup _,⟨_,_,_,o,e,_⟩=>⟨o,e⟩
 | .dK _,⟨_,_,_,_,o,_,_,e,_⟩=>⟨o,e⟩
 | .dT _,⟨_,_,_,_,o,_,_,e,_⟩=>⟨o,e⟩
 | .set _ _,⟨o,_,_,_,e,_⟩=>⟨o,e⟩
 | .ins _ _ _,⟨_,_,_,e,_⟩=>⟨_,e⟩
 | .own _,x=>x
 | .xd _,⟨_,⟨o,_,_,e,_⟩,_⟩=>⟨o,e⟩
 | .rng _ _,⟨_,_,_,e⟩=>⟨_,e⟩
 | .frz _ _,⟨e,_⟩=>⟨_,e⟩
 | .tbl _,e=>⟨_,e⟩
 | .met _ _,e=>⟨_,e⟩
 | .ext _,⟨_,e,_⟩=>e
theorem HOk.has {P:Program}{w:World}{H:Hp}{h:Heap}{a:Addr}{o:HO} (x:HOk P w H h) (e:H a=some o):∃ ob,h.get? a=some ob:=(x a o e).has
end L2

namespace L2
open PySem PySem.Spec PyProof.Rows
section
variable {X:Cx}{pins:List (Addr × Obj)}{σ:St}{H:Hp}{s:Shared}{A:Around}{E:Value→Shared→Prop}{Q:Value→Shared→Prop}{b:Bool}
theorem zalv {x:V}{u t:Value}{tp:Addr}{its:List Value}{o:Obj}{n:Nat} (I:Inv X pins σ H s) (rx:RelV x u) (ty:TyOf X.K H x t) (ho:s.heap.get? tp=some o) (hoc:o.cls=.type "tuple") (hod:o.data=.seq its.toArray n)
  (e:PySem.W.kitAny X.K t its=some b) (h:∀ tk,Q (.bool b) { s with toks:=tk }) :
  wpAny (model X.prog X.w) A (call (.builtin "isinstance") [u,.ref tp]) Q E s:=by
 obtain ⟨c0,d0,t0,l0⟩:=o
 replace hoc:c0=.type "tuple" := hoc
 replace hod:t0=.seq its.toArray n:=hod
 subst hoc hod
 cases ty with
 | non=>cases (show u=Value.none from rx); exact PySem.W.kia_tup PySem.W.kitx_none I.kIn True.intro ho e (fun z=>nomatch z) h
 | bl y=>cases (show u=Value.bool y from rx); exact PySem.W.kia_tup PySem.W.kitx_bool I.kIn True.intro ho e (fun z=>nomatch z) h
 | int i=>obtain ⟨t,q⟩:=(show ∃ t,u=Value.int i t from rx); cases q; exact PySem.W.kia_tup PySem.W.kitx_int I.kIn True.intro ho e (fun z=>nomatch z) h
 | str y=>obtain ⟨t,q⟩:=(show ∃ t,u=Value.str y t from rx); cases q; exact PySem.W.kia_tup PySem.W.kitx_str I.kIn True.intro ho e (fun z=>nomatch z) h
 | flt y=>obtain ⟨t,q⟩:=(show ∃ t,u=Value.float y t from rx); cases q; exact PySem.W.kia_tup PySem.W.kitx_float I.kIn True.intro ho e (fun z=>nomatch z) h
 | @lst a xs ea =>
  cases (show u=Value.ref a from rx)
  obtain ⟨_,_,n,_,h1⟩:=(show ObjOk X.prog X.w H s.heap a (.lst xs) from I.hok a _ ea)
  exact PySem.W.kia_tup PySem.W.kitx_list I.kIn ⟨_,h1,rfl⟩ ho e (fun z=>nomatch z) h
 | @frz a ob xs ea =>
  cases (show u=Value.ref a from rx)
  obtain ⟨_,_,_,n,_,h1⟩:=(show ObjOk X.prog X.w H s.heap a (.frz ob (.lst xs)) from I.hok a _ ea)
  exact PySem.W.kia_tup PySem.W.kitx_list I.kIn ⟨_,h1,rfl⟩ ho e (fun z=>nomatch z) h
 | @tup a xs ea =>
  cases (show u=Value.ref a from rx)
  obtain ⟨_,_,_,p⟩:=(show ObjOk X.prog X.w H s.heap a (.tup xs) from I.hok a _ ea)
  obtain ⟨o,h1,h2,_⟩:=p
  exact PySem.W.kia_tup PySem.W.kitx_tuple I.kIn ⟨o,h1,h2⟩ ho e (fun z=>nomatch z) h
 | @dK a kvs ea =>
  cases (show u=Value.ref a from rx)
  obtain ⟨_,_,vs,_,p⟩:=(show ObjOk X.prog X.w H s.heap a (.dK kvs) from I.hok a _ ea)
  obtain ⟨o,es,ep,h1,h2,_⟩:=p
  exact PySem.W.kia_tup PySem.W.kitx_dict I.kIn ⟨o,h1,h2.1⟩ ho e (fun z=>nomatch z) h
 | @dT a kvs ea =>
  cases (show u=Value.ref a from rx)
  obtain ⟨_,_,xs,_,o,es,ep,h1,h2,_⟩:=(show ObjOk X.prog X.w H s.heap a (.dT kvs) from I.hok a _ ea)
  exact PySem.W.kia_tup PySem.W.kitx_dict I.kIn ⟨o,h1,h2.1⟩ ho e (fun z=>nomatch z) h
 | @ins a C dx fs ea cl ha hn htk hm =>
  cases (show u=Value.ref a from rx)
  obtain ⟨mA,O,_⟩:=zaf5 I.hok ea
  obtain ⟨od,J,_⟩:=O.look
  exact PySem.W.kia_tup (PySem.W.kitx_own (cl.get _) cl.hd ha hn htk hm) I.kIn J ho e (fun z=>nomatch z) h
end
def rIsTs (K:PySem.W.Frag):List V→Hp→VK→Prop:=fun xs H Q=>∃ (x:V) (p:Addr) (Ts:List String) (t:Value) (b:Bool),xs=[x,.ref p]∧H p=some (.tup (Ts.map V.ty))∧TyOf K H x t∧PySem.W.kitAny K t (Ts.map Value.type)=some b∧Q (.bl b) H
theorem zakv:∀ {Ts:List String}{us:List Value},Vals (Ts.map V.ty) us→us=Ts.map Value.type
 | [],_,.nil=>rfl
 | T :: Ts,_,.cons r t=>by rw [List.map_cons,zakv t]; cases r; rfl
theorem zam3 {X:Cx}:CallR X (.builtin "isinstance") (rIsTs X.K):=by
 intro pins s σ H xs us Q I r h
 obtain ⟨x,p,Ts,t,b,rfl,hp,ty,e,q⟩:=h
 obtain ⟨u,v,rfl,ru,rv⟩:=vals2 r
 cases rv
 obtain ⟨_,its,rt,o,ho,hoc,n,hod⟩:=I.hok p _ hp
 have:=zakv rt
 subst this
 exact zalv I ru ty ho hoc hod e fun tk=>⟨.bl b,H,I.tok _,rfl,q⟩
example (K:PySem.W.Frag):PySem.W.kitAny K (.type "list") [.type "list",.type "tuple"]=some true:=rfl
example (K:PySem.W.Frag):PySem.W.kitAny K (.type "tuple") [.type "list",.type "tuple"]=some true:=rfl
example (K:PySem.W.Frag):PySem.W.kitAny K (.type "int") [.type "list",.type "tuple"]=some false:=rfl
end L2

namespace L2
open PySem PySem.Spec PyProof.Rows
structure MethOk (P:Program) (w:World) (K:PySem.W.Frag) (mg:Str→Option Value) (base:Heap) (CX:CXT) (k:Nat) (C:Addr) (m:Str) (ps:List Str) (sp:Sp):Prop where
 cl:Cls K C
 ex:∃ (f:Addr) (fd:FuncData),FnOk P w K mg base CX k f fd ps sp∧Binds K fd ps []∧Meth K C m f
theorem MethOk.mono {P:Program}{w:World}{K:PySem.W.Frag}{mg:Str→Option Value}{base:Heap}{CX:CXT}{j k:Nat}{C:Addr}{m:Str}{ps:List Str}{sp:Sp} (D:MethOk P w K mg base CX j C m ps sp) (h:j≤k):MethOk P w K mg base CX k C m ps sp:=by
 obtain ⟨f,fd,F,b⟩:=D.ex
 exact ⟨D.cl,f,fd,F.mono h,b⟩
structure MakeOk (P:Program) (w:World) (K:PySem.W.Frag) (mg:Str→Option Value) (base:Heap) (CX:CXT) (k:Nat) (C:Addr) (x:Str) (ps:List Str) (sp:Sp):Prop where
 ex:∃ (f:Addr) (fd:FuncData),FnOk P w K mg base CX k f fd ps sp∧Binds K fd ps []∧Mk K C f∧mg x=some (.ref C)
theorem MakeOk.mono {P:Program}{w:World}{K:PySem.W.Frag}{mg:Str→Option Value}{base:Heap}{CX:CXT}{j k:Nat}{C:Addr}{x:Str}{ps:List Str}{sp:Sp} (D:MakeOk P w K mg base CX j C x ps sp) (h:j≤k):MakeOk P w K mg base CX k C x ps sp:=by
 obtain ⟨f,fd,F,b⟩:=D.ex
 exact ⟨f,fd,F.mono h,b⟩
section
variable {X:Cx}{CX:CXT}{k:Nat}{C:Addr}{ps:List Str}{sp:Sp}{E:XK}{x m:Str}{p pos apos:Pos}{e o:Expr}{es:List Expr}{ta:TE}{t:TA}
theorem zabq {pl:Sem Bool} (he:Pr (PE X o ta)) (D:MethOk X.prog X.w X.K X.mg X.base CX k C m ps sp) (hr:Room k X.A) (hx:Passes CX X E) (ha:Pr (PA X (e :: es) t))
  (hst:starEach (e :: es) X.env=(false,eval e X.env) :: starEach es X.env:=by rfl) (hpl:(backTo pos (starEach es X.env)).any (·.1)=false:=by rfl)
  (ht:eval (.Call (.Attribute o m apos) (e :: es) [] pos) X.env=(do
   let ov ← eval o X.env
   standAt apos.atName
   let (f,first) ← holding [ov] (getMethod ov m pl)
   callWith pos f first (backTo pos (starEach (e :: es) X.env)) (backToKw pos (keywordEach [] X.env))):=by rfl) :
  Pr (PE X (.Call (.Attribute o m apos) (e :: es) [] pos) (tMeth C m sp [] E ta t)):=by
 obtain ⟨f,fd,F,b,hm⟩:=D.ex
 exact ⟨zar6 he.h D.cl hm F hr b .nil hx ha.h hst hpl ht⟩
theorem zabk {pl:Sem Bool} (he:Pr (PE X o ta)) (D:MethOk X.prog X.w X.K X.mg X.base CX k C m ps sp) (hr:Room k X.A) (hx:Passes CX X E)
  (ht:eval (.Call (.Attribute o m apos) [] [] pos) X.env=(do
   let ov ← eval o X.env
   standAt apos.atName
   let (f,first) ← holding [ov] (getMethod ov m pl)
   callWith pos f first (backTo pos (starEach [] X.env)) (backToKw pos (keywordEach [] X.env))):=by rfl) :
  Pr (PE X (.Call (.Attribute o m apos) [] [] pos) (tMeth C m sp [] E ta tNil)):=by
 obtain ⟨f,fd,F,b,hm⟩:=D.ex
 exact ⟨zapf he.h D.cl hm F hr b .nil hx ht⟩
theorem zai2 (D:MakeOk X.prog X.w X.K X.mg X.base CX k C x ps sp) (hr:Room (k + 1) X.A) (hg:Gl X x) (hx:Passes CX X E)
  (ha:Pr (PA X (e :: es) t)) (hdb:(x == ("__debug__" : Str))=false:=by decide) (he:starEach (e :: es) X.env=(false,eval e X.env) :: starEach es X.env:=by rfl) (hpl:(backTo pos (starEach es X.env)).any (·.1)=false:=by rfl) :
  Pr (PE X (.Call (.Name x p) (e :: es) [] pos) (tMake C sp [] E t)):=by
 obtain ⟨f,fd,F,b,M,hm⟩:=D.ex
 exact ⟨zar7 M F hr hg hm b .nil hx ha.h hdb he hpl⟩
end
section
variable {X:Cx}{sc:Scope}{own:List Str}{fr:List Nat}{N':List Str}{tg elt iter:Expr}{ifs:List Expr}{g:TG}{tt:TT}{te:TE}{wi:TI}{pos:Pos}
theorem zad2:Pr (PIf X [] tYes):=⟨zasp⟩
theorem zafs (hc:X.calm=true) (cs:CompOk sc X.env.scope own X.N fr N') (hi:Pr (PI X tg iter wi)) (hg:∀ cl C s H fp,Pr (PG (cxC X sc cl N' C s H fp) tg g)) (hif:∀ cl C s H fp,Pr (PIf (cxC X sc cl N' C s H fp) ifs tt))
  (he:∀ cl C s H fp,Pr (PE (cxC X sc cl N' C s H fp) elt te)) (hs:∀ x,foldedSetIterable iter X.env x=pure x:=by intro _; rfl):Pr (PE X (.ListComp elt [⟨tg,iter,ifs,0⟩] sc pos) (tComp own.length fr wi g tt te)) :=
 ⟨zasq hc cs hi.h (fun a b c d e=>(hg a b c d e).h) (fun a b c d e=>(hif a b c d e).h) (fun a b c d e=>(he a b c d e).h) hs⟩
theorem zakw {i:Nat}{y:Str}{py spos:Pos} (hN:X.N.Nodup) (hy:X.N[i]?=some y) (hx:Loc X.env.scope y) (hc:X.calm=true) (cs:CompOk sc X.env.scope own X.N fr N') (hi:Pr (PI X tg iter wi))
  (hg:∀ cl C s H fp,Pr (PG (cxC X sc cl N' C s H fp) tg g)) (hif:∀ cl C s H fp,Pr (PIf (cxC X sc cl N' C s H fp) ifs tt)) (he:∀ cl C s H fp,Pr (PE (cxC X sc cl N' C s H fp) elt te))
  (hsw:swapsWith (.ListComp elt [⟨tg,iter,ifs,0⟩] sc pos) (some (.Name y py)) spos.line X.env=pure true) (hfn:X.fn y=true∨X.env.scope.names.lookup y=some .local:=by first | exact .inl rfl | exact .inr rfl | assumption) (hs:∀ x,foldedSetIterable iter X.env x=pure x:=by intro _; rfl) :
  Pr (PS X (.Assign [.Name y py] (.ListComp elt [⟨tg,iter,ifs,0⟩] sc pos) spos) (tSetC i own.length fr wi g tt te)) :=
 ⟨zasr hN hy hx hc cs hi.h (fun a b c d e=>(hg a b c d e).h) (fun a b c d e=>(hif a b c d e).h) (fun a b c d e=>(he a b c d e).h) hsw hfn hs⟩
theorem zapv (k:SK) {elts:List Expr}{kk:Nat}{tpos:Pos}{a:Expr}{ta:TA}{p pos:Pos} (hg:Gl X "enumerate") (hm:X.mg "enumerate" = none) (ha:Pr (PA X [a] ta)) (hs:starEach [a] X.env=[(false,eval a X.env)]:=by rfl) :
  Pr (PI X (.Tuple elts kk tpos) (.Call (.Name "enumerate" p) [a] [] pos) (iEnum X.K k ta)):=⟨zass k hg hm ha.h hs⟩
theorem zam4 {st:Stmt}:Pr (PS X st tNever):=⟨zao4⟩
theorem compOk {sc outer:Scope}{own N:List Str}{fr:List Nat}{N':List Str} (h1:sc.kind=.function) (h2:∀ y∈sc.names,y.2≠.cell) (h3:∀ y∈sc.names,y.2=.local→sc.names.lookup y.1=some .local)
  (h4:∀ y∈sc.names,y.2=.free→outer.names.lookup y.1=some .cell∨outer.names.lookup y.1=some .free) (h5:N'.Nodup) (h6:N'.map some=own.map some++fr.map fun j=>N[j]?)
  (h7:∀ x∈fr.filterMap (fun j=>N[j]?),sc.names.lookup x=some .free∧(outer.names.lookup x=some .cell∨outer.names.lookup x=some .free)):CompOk sc outer own N fr N' :=
 ⟨h1,h2,h3,h4,h5,h6,fun j hj x hx=>h7 x (List.mem_filterMap.mpr ⟨j,hj,hx⟩)⟩
end
def rIsT2 (K:PySem.W.Frag):List V→Hp→VK→Prop:=fun xs H Q=>∃ (x:V) (p:Addr) (T1 T2:String) (t:Value) (b:Bool),xs=[x,.ref p]∧H p=some (.tup [.ty T1,.ty T2])∧TyOf K H x t∧PySem.W.kitAny K t [.type T1,.type T2]=some b∧Q (.bl b) H
theorem zai3 {X:Cx}:CallR X (.builtin "isinstance") (rIsT2 X.K):=fun pins s σ H xs us Q I r h=>by
 obtain ⟨x,p,T1,T2,t,b,e,hp,ty,k,q⟩:=h
 exact zam3 pins s σ H xs us Q I r ⟨x,p,[T1,T2],t,b,e,hp,ty,k,q⟩
def Tu (H H':Hp):Prop:=∀ b xs,H b=some (.tup xs)→H' b=some (.tup xs)
theorem Tu.trans {H H1 H2:Hp} (a:Tu H H1) (b:Tu H1 H2):Tu H H2:=fun c xs h=>b c xs (a c xs h)
theorem Tu.same {H H':Hp} (c:Ch [] H H'):Tu H H':=fun b xs h=>c b _ h (by simp)
theorem Tu.ch {H H':Hp}{b:Addr}{o:HO} (c:Ch [b] H H') (hb:H b=some o) (ho:∀ xs,o≠.tup xs):Tu H H':=fun d xs h=>c d _ h (by
 intro z
 have e:d=b:=by simpa using z
 subst e
 rw [hb] at h
 exact ho xs (Option.some.inj h))
theorem Tu.lst {H H':Hp}{b:Addr}{ys:List V} (c:Ch [b] H H') (hb:H b=some (.lst ys)):Tu H H':=Tu.ch c hb (fun xs z=>by cases z)
theorem Tu.new {H:Hp}{p:Addr} (o:HO) (h:H p=none):Tu H (upd H p o):=Tu.same (Ch.new h o)
end L2

namespace L2
open PySem PySem.Spec PyProof.Rows
section
variable {X:Cx}{a b o e value:Expr}{es:List Expr}{f:Str}{ta tb te:TE}{pos:Pos}{tg l:Expr}
theorem zam5 (K:PySem.W.Frag) (hK:X.K=K) {tl:TE} (hl:Pr (PE X l tl)):Pr (PI X tg l (iList K tl)):=hK ▸ ⟨zal9 hl.h⟩
theorem zapw (K:PySem.W.Frag) (hK:X.K=K) {tl:TE} (hl:Pr (PE X l tl)):Pr (PI X tg l (iTup K tl)):=hK ▸ ⟨zaqv hl.h⟩
end
end L2

namespace L2
open PySem PySem.Spec PyProof.Rows
theorem zam6 (f:Array Value→Array Value) (o:Obj):(o.mapFields f).dict=o.dict:=by
 obtain ⟨_,_,d,_⟩:=o
 cases d <;> rfl
structure Fl (h:Heap) (e C:Addr) (dx:Option Addr) (T:Addr) (fl:Value):Prop where
 ob:∃ oe vs,h.get? e=some oe∧(oe.cls=.ref C∧oe.dict=dx)∧oe.data=.fields vs∧vs[1]?=some (.ref T)∧vs[2]?=some .none
 tb:∃ oT ts,h.get? T=some oT∧oT.data=.fields ts∧ts[3]?=some fl
 ne:T≠e
def KB (ex fs:List Addr) (h h':Heap):Prop:=∀ b o,h.get? b=some o→b ∉ ex→(b ∉ fs→h'.get? b=some o)∧∃ sl,h'.get? b=some { o with slots:=sl }
theorem KB.trans {ex ex' fs:List Addr}{h h1 h2:Heap} (a:KB ex fs h h1) (b:KB ex' fs h1 h2):KB (ex++ex') fs h h2:=fun c o e n=>by
 simp only [List.mem_append,not_or] at n
 obtain ⟨k1,sl,k2⟩:=a c o e n.1
 refine ⟨fun hf=>(b c o (k1 hf) n.2).1 hf,?_⟩
 obtain ⟨_,sl',k3⟩:=b c _ k2 n.2
 exact ⟨sl',k3⟩
section
variable {M:Model}{A:Around}{E:Value→Shared→Prop}{s:Shared}{base:Heap}{env:Env}{outer:List Env}{L e C T:Addr}{dx:Option Addr}{Q:Unit→Shared→Prop}
theorem zakx {oe:Obj}{vs:Array Value}{head:Value}{hn:Bool} (hfr:A.frames=some (env :: outer)) (hl:s.heap.FunFrames base (env :: outer)) (hf:env.frame=some L)
  (ge:s.heap.get? e=some oe) (gc:oe.cls=.ref C∧oe.dict=dx) (gd:oe.data=.fields vs) (g1:1 < vs.size) (g2:vs[2]?=some .none)
  (k:∀ h' T,KB [e] (frs (env :: outer)) s.heap h'→Fl h' e C dx T (rawInt L)→s.heap.get? T=none→Q () { s with heap:=h' }) :
  wpAny M A (do
   let fo ← frameOf env
   let pl ← entryPlaceOf L hn
   let en ← EntryCells.newEntry head fo .none (rawInt L) .none pl
   setField (.ref e) 1 en) Q E s:=by
 have nf:e ∉ frs (env :: outer):=fun z=>by
  obtain ⟨_,o,ho,no⟩:=hl.mem z
  rw [ge] at ho
  cases ho
  exact no vs gd
 refine wpAny_bind (wpAny_frameOf_fun hfr hl hf fun ha so=>?_)
 refine wpAny_bind (wpAny_entryPlaceOf fun pl ip=>?_)
 unfold EntryCells.newEntry newFields
 refine wpAny_bind (wpAny_newObj_type ?_ (ip.sizeOk5 _ _ _ _ _))
 have ea:ha.get? e=some oe:=by rw [so.2.1 e nf]; exact ge
 have neT:ha.objs.size≠e:=Nat.ne_of_gt (Heap.lt_size ea)
 refine wpAny_setField (Heap.get?_push_of_some _ ea) gd g1 (k _ ha.objs.size (fun b o hb hbe=>?_) ⟨⟨_,_,Heap.get?_update_self _ (Heap.get?_push_of_some _ ea) (Obj.isFreed_of_fields (Obj.data_mapFields gd _)),?_,Obj.data_mapFields gd _,?_,?_⟩,?_,neT⟩ ?_)
 ·have n1:e≠b:=fun z=>hbe (by simp [z])
  obtain ⟨sl,q⟩:=so.2.2 b o hb
  refine ⟨fun nb=>?_,sl,?_⟩
  ·rw [Heap.get?_update_other _ _ n1]
   refine Heap.get?_push_of_some _ ?_
   rw [so.2.1 b nb]
   exact hb
  ·rw [Heap.get?_update_other _ _ n1]
   exact Heap.get?_push_of_some _ q
 ·rw [Obj.cls_mapFields,zam6]; exact gc
 ·simp [g1]
 ·rw [Array.getElem?_setIfInBounds_ne (by decide)]; exact g2
 ·have q:=(Heap.get?_update_other (ha.push { cls:=.type "traceback",dict:=none,data:=.fields ([head,.ref L,.none,rawInt L,.none]++(if pl.isEmpty then List.replicate 6 Value.none else pl)).toArray }) (Obj.mapFields (·.setIfInBounds 1 (Value.ref ha.objs.size))) (Ne.symm neT)).trans (Heap.get?_push_size ha rfl)
  refine ⟨_,_,q,rfl,?_⟩
  rcases ip with rfl | ⟨_,_,_,_,_,_,_,rfl⟩ <;> simp
 ·exact Heap.get?_none_of_le (by rw [so.1]; exact Nat.le_refl _)
theorem zahq {fl:Value} (f:Fl s.heap e C dx T fl) (k:∀ h',KB [T] [] s.heap h'→Fl h' e C dx T .none→Q () { s with heap:=h' }):wpAny M A (setFlight (.ref e) none) Q E s:=by
 obtain ⟨⟨oe,vs,a1,a2,a3,a4,a5⟩,⟨oT,ts,b1,b2,b3⟩,nT⟩:=f
 have sz:3 < ts.size:=(Array.getElem?_eq_some_iff.mp b3).1
 unfold setFlight
 refine wpAny_bind (wpAny_field a1 a3 a4 ?_)
 rw [if_pos (by simp:(Value.ref T != Value.none)=true)]
 refine wpAny_setField b1 b2 sz (k _ (fun b o hb nb=>?_) ⟨⟨oe,vs,?_,a2,a3,a4,a5⟩,⟨_,_,Heap.get?_update_self _ b1 (Obj.isFreed_of_fields (Obj.data_mapFields b2 _)),Obj.data_mapFields b2 _,?_⟩,nT⟩)
 ·have n1:T≠b:=fun z=>nb (by simp [z])
  rw [Heap.get?_update_other _ _ n1]
  exact ⟨fun _=>hb,o.slots,hb⟩
 ·rw [Heap.get?_update_other _ _ nT]
  exact a1
 ·simp [sz]
theorem zapx {oe:Obj}{vs:Array Value} (hfr:A.frames=some (env :: outer)) (hl:s.heap.FunFrames base (env :: outer)) (hf:env.frame=some L)
  (ge:s.heap.get? e=some oe) (gc:oe.cls=.ref C∧oe.dict=dx) (gd:oe.data=.fields vs) (g1:vs[1]?=some .none) (g2:vs[2]?=some .none)
  (k:∀ h' T,KB [e] (frs (env :: outer)) s.heap h'→Fl h' e C dx T (rawInt L)→s.heap.get? T=none→Q () { s with heap:=h' }):wpAny M A (noteFrame (.ref e) env) Q E s:=by
 unfold noteFrame
 simp only [hf]
 refine wpAny_bind (wpAny_field ge gd g1 ?_)
 rw [if_neg (by decide)]
 exact zakx hfr hl hf ge gc gd (Array.getElem?_eq_some_iff.mp g1).1 g2 k
theorem zam7 {T0:Addr} (hfr:A.frames=some (env :: outer)) (hl:s.heap.FunFrames base (env :: outer)) (hf:env.frame=some L) (f:Fl s.heap e C dx T0 .none)
  (k:∀ h' T,KB [T0,e] (frs (env :: outer)) s.heap h'→Fl h' e C dx T (rawInt L)→s.heap.get? T=none→Q () { s with heap:=h' }):wpAny M A (noteFrame (.ref e) env) Q E s:=by
 obtain ⟨⟨oe,vs,a1,a2,a3,a4,a5⟩,⟨oT,ts,b1,b2,b3⟩,nT⟩:=f
 unfold noteFrame
 simp only [hf]
 refine wpAny_bind (wpAny_field a1 a3 a4 ?_)
 rw [if_pos (by simp:(Value.ref T0 != Value.none)=true)]
 refine wpAny_bind (wpAny_field b1 b2 b3 ?_)
 rw [if_neg (by simp [rawInt]:¬ ((Value.none == rawInt L)=true))]
 refine wpAny_bind (wpAny_setField b1 b2 (Array.getElem?_eq_some_iff.mp b3).1 ?_)
 have nfT:∀ b o,s.heap.get? b=some o→(∀ ws,o.data≠.fields ws)→T0≠b:=fun b o hb hn z=>by
  rw [← z,b1] at hb
  cases hb
  exact hn ts b2
 have same:∀ b,T0≠b→(s.heap.update T0 (Obj.mapFields (·.setIfInBounds 3 Value.none))).get? b=s.heap.get? b:=fun b n=>Heap.get?_update_other _ _ n
 have kb:KB [T0] (frs (env :: outer)) s.heap (s.heap.update T0 (Obj.mapFields (·.setIfInBounds 3 Value.none))):=fun b o hb nb=>by
  have n1:T0≠b:=fun z=>nb (by simp [z])
  rw [same b n1]
  exact ⟨fun _=>hb,o.slots,hb⟩
 refine zakx hfr (hl.of_keeps fun b o hb hn=>⟨o,by rw [same b (nfT b o hb hn)]; exact hb,rfl⟩) hf (by rw [same e nT]; exact a1) a2 a3 (Array.getElem?_eq_some_iff.mp a4).1 a5 fun h' T kb' f' n'=>k h' T (kb.trans kb') f' ?_
 cases q:s.heap.get? T with
 | none=>rfl
 | some o =>
  by_cases z:T0=T
  ·have:=Heap.get?_update_self (Obj.mapFields (·.setIfInBounds 3 Value.none)) b1 (Obj.isFreed_of_fields (Obj.data_mapFields b2 _))
   rw [z] at this
   rw [← z] at n'
   rw [z] at n'
   rw [this] at n'
   cases n'
  ·rw [same T z] at n'
   rw [n'] at q
   cases q
end
end L2

namespace L2
open PySem PySem.Spec PyProof.Rows
def CXE (P:Program) (w:World):CXT:=fun outer H s E e s'=>∃ (ea C T:Addr) (dx:Option Addr) (H':Hp),e=.ref ea∧s'.os=s.os∧AllBare s'.gens∧Un (frs outer) [] H H' s.heap s'.heap∧HOk P w H' s'.heap∧Fl s'.heap ea C dx T .none ∧
 s.heap.get? ea=none∧s.heap.get? T=none∧H' ea=none∧H' T=none∧E (.ref C) dx H'
theorem KB.fs {ex fs:List Addr}{h h':Heap} (a:KB ex [] h h'):KB ex fs h h':=fun b o e n=>⟨fun _=>(a b o e n).1 (by simp),(a b o e n).2⟩
theorem Un.fly {fs ex xs gs:List Addr}{H H1:Hp}{h h1 h2:Heap} (u:Un fs ex H H1 h h1) (kb:KB xs gs h1 h2) (hx:∀ b∈xs,h.get? b=none) (hg:∀ b∈gs,(∃ o,h.get? b=some o)→b∈fs):Un fs ex H H1 h h2 where
 keep:=fun b o e n hf hx'=>(kb b o (u.keep b o e n hf hx') fun z=>by rw [hx b z] at e; cases e).1 fun z=>hf (hg b z ⟨o,e⟩)
 slot:=fun b o e n hf hx'=>by
  obtain ⟨sl,q⟩:=u.slot b o e n hf hx'
  obtain ⟨_,sl',q'⟩:=kb b _ q fun z=>by rw [hx b z] at e; cases e
  exact ⟨sl',q'⟩
 free:=u.free
 there:=fun b o e hx'=>by
  obtain ⟨o',q⟩:=u.there b o e hx'
  obtain ⟨_,sl',q'⟩:=kb b _ q fun z=>by rw [hx b z] at e; cases e
  exact ⟨_,q'⟩
 tups:=u.tups
 frzs:=u.frzs
 tbls:=u.tbls
theorem HOk.fly {P:Program}{w:World}{H:Hp}{h h':Heap}{xs gs:List Addr} (x:HOk P w H h) (kb:KB xs gs h h') (hx:∀ b∈xs,H b=none) (hg:∀ b∈gs,H b=none):HOk P w H h':=fun a o e =>
 (x a o e).stay (fun b u hb q=>by
  have t:H b≠none:=by
   rcases hb with rfl | hb
   ·rw [e]; intro z; cases z
   ·rw [hb]; intro z; cases z
  exact (kb b u q fun z=>t (hx b z)).1 fun z=>t (hg b z)) (fun _ q=>q) fun _ _ q=>q
section
variable {X:Cx}{pins:List (Addr × Obj)}{σ:St}{H H':Hp}{s s':Shared}
theorem Inv.fly {h':Heap}{ex:List Addr} (I:Inv X pins σ H s) (kb:KB ex (frs X.stack) s.heap h')
  (hx:∀ b∈ex,X.s₀.heap.get? b=none∧H b=none∧b≠X.env.locals∧(∀ x c,X.env.cells.lookup x=some c→c≠b)∧∀ p∈X.pn++pins,p.1≠b):Inv X pins σ H { s with heap:=h' }:=by
 have cellK:∀ x c v,X.env.cells.lookup x=some c→s.heap.IsCell c v→h'.IsCell c v:=fun x c v e ⟨o,ho,hd⟩=>by
  obtain ⟨_,sl,q⟩:=kb c o ho fun z=>(hx c z).2.2.2.1 x c e rfl
  exact ⟨_,q,hd⟩
 refine ⟨I.ok,I.os,I.bare,I.base.fly kb (fun b z=>(hx b z).1) (fun b z ⟨o,e⟩=>?_),?_,fun x c e=>?_,I.free,I.freeC,fun p hp=>?_,I.hok.fly kb (fun b z=>(hx b z).2.1) I.stkFree,I.len⟩
 ·rcases List.mem_cons.mp (I.stkSub b z) with y | y
  ·rw [y] at e
   exact absurd (Heap.lt_size e) (Nat.not_lt.mpr I.ok.above)
  ·exact y
 ·obtain ⟨m,⟨o,es,ep,ho,r⟩,l⟩:=I.loc
  obtain ⟨_,sl,q⟩:=kb _ o ho fun z=>(hx _ z).2.2.1 rfl
  refine ⟨m,⟨_,es,ep,q,r⟩,fun i x v h1 h2 h3=>?_⟩
  obtain ⟨u,ru,lk⟩:=l i x v h1 h2 h3
  refine ⟨u,ru,?_⟩
  rcases lk with a | ⟨a,c,b1,b2⟩
  ·exact .inl a
  ·exact .inr ⟨a,c,b1,cellK x c _ b1 b2⟩
 ·obtain ⟨v,q⟩:=I.cell x c e
  exact ⟨v,cellK x c v e q⟩
 ·obtain ⟨a,b,c,d,e⟩:=I.pin p hp
  exact ⟨(kb _ _ a fun z=>(hx _ z).2.2.2.2 p hp rfl).1 fun z=>(List.mem_cons.mp (I.stkSub _ z)).elim c d,b,c,d,e⟩
theorem Inv.alien (I:Inv X pins σ H s) {b:Addr} (n:s.heap.get? b=none):b≠X.env.locals∧(∀ x c,X.env.cells.lookup x=some c→c≠b)∧∀ p∈X.pn++pins,p.1≠b:=by
 refine ⟨fun z=>?_,fun x c e z=>?_,fun p hp z=>?_⟩
 ·obtain ⟨m,⟨o,es,ep,ho,r⟩,l⟩:=I.loc
  rw [← z,n] at ho
  cases ho
 ·obtain ⟨v,o,ho,_⟩:=I.cell x c e
  rw [z,n] at ho
  cases ho
 ·have:=(I.pin p hp).1
  rw [z,n] at this
  cases this
theorem Inv.alien0 (I:Inv X pins σ H s) (hex:X.ex=[]) {b:Addr} (n:s.heap.get? b=none):X.s₀.heap.get? b=none:=by
 cases q:X.s₀.heap.get? b with
 | none=>rfl
 | some o =>
  obtain ⟨o',z⟩:=I.base.there b o q (by rw [hex]; simp)
  rw [n] at z
  cases z
theorem HOk.alien {P:Program}{w:World}{H:Hp}{h:Heap}{b:Addr} (x:HOk P w H h) (n:h.get? b=none):H b=none:=by
 cases q:H b with
 | none=>rfl
 | some o =>
  obtain ⟨o',z⟩:=x.has q
  rw [n] at z
  cases z
end
section
variable {P:Program}{w:World}{K:PySem.W.Frag}{mg:Str→Option Value}{base:Heap}{N:List Str}{qual:Str}{scope:Scope}{f:Addr}{cd:Value}{A:Around}{outer:List Env}{s₀:Shared}{H₀:Hp}{E:XK}
abbrev cxE (P:Program) (w:World) (K:PySem.W.Frag) (mg:Str→Option Value) (base:Heap) (N:List Str) (qual:Str) (scope:Scope) (f:Addr) (cd:Value) (A:Around) (outer:List Env) (s₀:Shared) (H₀:Hp) (E:XK):Cx :=
 cxOf (CXE P w) P w K mg base N qual scope f cd A outer s₀ H₀ E
theorem zaq0 {X:Cx}{pins:List (Addr × Obj)}{σ:St}{H:Hp}{s:Shared} (I:Inv X pins σ H s):∀ b∈frs X.stack,(∃ o,X.s₀.heap.get? b=some o)→b∈X.fs:=fun b z ⟨o,e⟩=>by
 rcases List.mem_cons.mp (I.stkSub b z) with y | y
 ·rw [y] at e
  exact absurd (Heap.lt_size e) (Nat.not_lt.mpr I.ok.above)
 ·exact y
theorem passE:Passes (CXE P w) (cxE P w K mg base N qual scope f cd A outer s₀ H₀ E) E:=by
 rintro pins σ H s e s' I ⟨ea,C,T,dx,H',rfl,os,bare,un,hok,fl,n1,n2,t1,t2,q⟩
 have J:Inv (cxE P w K mg base N qual scope f cd A outer s₀ H₀ E) pins σ H' s':=I.call' (ch:=[]) os un hok bare (fun b z=>absurd z (by simp))
 show wpAny (model P w) _ (leaving _ (.ref ea)) _ _ _
 unfold leaving
 refine wpAny_bind (zam7 J.ok.frames J.stack rfl fl fun h2 T1 kb fl2 nT=>zahq fl2 fun h3 kb3 fl3=>?_)
 have k3:KB [T,ea,T1] (frs (envOfC qual scope s₀.heap.objs.size f cd :: outer)) s'.heap h3:=kb.trans kb3.fs
 have n0:∀ b∈[T,ea,T1],s₀.heap.get? b=none:=fun b hb=>by
  simp only [List.mem_cons,List.not_mem_nil,or_false] at hb
  rcases hb with rfl | rfl | rfl
  ·exact I.alien0 rfl n2
  ·exact I.alien0 rfl n1
  ·exact J.alien0 rfl nT
 have nH:∀ b∈[T,ea,T1],H' b=none:=fun b hb=>by
  simp only [List.mem_cons,List.not_mem_nil,or_false] at hb
  rcases hb with rfl | rfl | rfl
  ·exact t2
  ·exact t1
  ·exact J.hok.alien nT
 exact ⟨ea,C,T1,dx,H',rfl,J.os,J.bare,J.base.fly k3 n0 (zaq0 J),J.hok.fly k3 nH J.stkFree,fl3,n0 ea (by simp),n0 T1 (by simp),nH ea (by simp),nH T1 (by simp),q⟩
end
end L2

namespace L2
open PySem PySem.Spec PyProof.Rows
abbrev bmV:List Value:=[.type "ValueError",.type "Exception",.type "BaseException",.type "object"]
def XC (K:PySem.W.Frag) (C:Addr):Prop:=PySem.W.excIn K C bmV "ValueError.__new__" = true
theorem XC.obj {K:PySem.W.Frag}{h:Heap}{C:Addr} (q:XC K C) (X:K.In h):∃ bm N nm qn bs hdct sn sub ab col dd k0 k1 k2 k3 k5 mN,
  h.get? C=some (excClassObj nm qn C N bs bm hdct sn sub ab col dd k0 k1 k2 k3 k5 "ValueError.__new__")∧h.Ns N mN∧mN "__init__" = none∧OwnTail h bmV bm:=by
 have q:PySem.W.excIn K C bmV "ValueError.__new__" = true:=q
 unfold PySem.W.excIn at q
 split at q
 case h_2=>cases q
 case h_1 dd cd sl ho =>
  split at q
  case h_2=>cases q
  case h_1 C' bm k0 k1 k2 k3 n k5 hm hs =>
   simp only [Bool.and_eq_true,beq_iff_eq,Bool.not_eq_true'] at q
   obtain ⟨⟨⟨⟨⟨rfl,rfl⟩,dl⟩,ht⟩,ok⟩,ni⟩:=q
   obtain ⟨nm,bs,mro,ns,qn,hd,sn,sub,ab,col,del⟩:=cd
   dsimp only at hm dl ok ni
   subst hm dl
   obtain ⟨l⟩:=sl
   simp only at hs
   subst hs
   exact ⟨bm,ns,nm,qn,bs,hd,sn,sub,ab,col,dd,k0,k1,k2,k3,k5,_,X _ _ ho,.of_isNs (PySem.W.isNs_of_in X ok),PySem.W.nsMap_none_of_in X ok ni,PySem.W.tail_of_in X ht⟩
def XB (K:PySem.W.Frag) (C:Addr):Prop:=(match K.lookup C with
 | some ⟨.type "type",_,.cls cd,sl⟩=>(match cd.mro,sl.toList with
  | .ref C' :: bm,[_,_,_,_,some (.builtin n),_]=>C' == C && n == "ValueError.__new__" && !cd.hasDel && PySem.W.tailIn K bmV bm && PySem.W.nsOkIn K cd.ns
  | _,_=>false)
 | _=>false)=true
theorem XB.obj {K:PySem.W.Frag}{h:Heap}{C:Addr} (q:XB K C) (X:K.In h):∃ bm N nm qn bs hdct sn sub ab col dd k0 k1 k2 k3 k5 mN,
  h.get? C=some (excClassObj nm qn C N bs bm hdct sn sub ab col dd k0 k1 k2 k3 k5 "ValueError.__new__")∧h.Ns N mN∧OwnTail h bmV bm:=by
 unfold XB at q
 split at q
 case h_2=>cases q
 case h_1 dd cd sl ho =>
  split at q
  case h_2=>cases q
  case h_1 C' bm k0 k1 k2 k3 n k5 hm hs =>
   simp only [Bool.and_eq_true,beq_iff_eq,Bool.not_eq_true'] at q
   obtain ⟨⟨⟨⟨rfl,rfl⟩,dl⟩,ht⟩,ok⟩:=q
   obtain ⟨nm,bs,mro,ns,qn,hd,sn,sub,ab,col,del⟩:=cd
   dsimp only at hm dl ok
   subst hm dl
   obtain ⟨l⟩:=sl
   simp only at hs
   subst hs
   exact ⟨bm,ns,nm,qn,bs,hd,sn,sub,ab,col,dd,k0,k1,k2,k3,k5,_,X _ _ ho,.of_isNs (PySem.W.isNs_of_in X ok),PySem.W.tail_of_in X ht⟩
theorem XC.b {K:PySem.W.Frag}{C:Addr} (q:XC K C):XB K C:=by
 have q:PySem.W.excIn K C bmV "ValueError.__new__" = true:=q
 unfold PySem.W.excIn at q
 unfold XB
 split at q
 case h_2=>cases q
 case h_1 dd cd sl ho =>
  split at q
  case h_2=>cases q
  case h_1 C' bm k0 k1 k2 k3 n k5 hm hs =>
   rw [Bool.and_eq_true] at q
   rw [ho]
   show (match cd.mro,sl.toList with
    | .ref C' :: bm,[_,_,_,_,some (.builtin n),_]=>C' == C && n == "ValueError.__new__" && !cd.hasDel && PySem.W.tailIn K bmV bm && PySem.W.nsOkIn K cd.ns
    | _,_=>false)=true
   rw [hm,hs]
   exact q.1
section
variable {P:Program}{w:World}{K:PySem.W.Frag}{mg:Str→Option Value}{base:Heap}{N:List Str}{qual:Str}{scope:Scope}{f:Addr}{cd:Value}{A:Around}{outer:List Env}{s₀:Shared}{H₀:Hp}{E:XK}
theorem powE:PassesOwn (model P w) (cxE P w K mg base N qual scope f cd A outer s₀ H₀ E).A (cxE P w K mg base N qual scope f cd A outer s₀ H₀ E).env (cxE P w K mg base N qual scope f cd A outer s₀ H₀ E).xe:=PassesOwn.leaving
end
section
variable {P:Program}{w:World}{K:PySem.W.Frag}{mg:Str→Option Value}{base:Heap}
theorem Fun.okE {x qual:Str}{st:Stmt}{f:Addr}{fd:FuncData}{N ps:List Str}{k:Nat}{sp:Sp} (F:Fun K x qual st f fd) (S:FnScope N ps (defScope st)) (len:∀ vs H Q E,sp vs H Q E→vs.length=ps.length)
  (hbody:∀ (cdv:Value) (A:Around) (outer:List Env) (s:Shared) (H:Hp) (vs:List V) (Q:VK) (E:XK),Room k (A.deeper (envOfC qual (defScope st) s.heap.objs.size f cdv))→sp vs H Q E →
   ∃ t,PSs (cxE P w K mg base N qual (defScope st) f cdv A outer s H E) (defBody st) t∧t { nx:=fun _ H'=>Q .non H',rt:=Q } (start N vs) H):FnOk P w K mg base (CXE P w) (k + 1) f fd ps sp:=by
 obtain ⟨oc,od,kV,doc,pm,an,cdv,ct,osl,rfl,lk,hcd⟩:=F.ex
 exact zau2 lk hcd S len fun A outer s H vs Q E hr hsp=>hbody cdv A outer s H vs Q E hr hsp
theorem FnOk.calm {k:Nat}{f:Addr}{fd:FuncData}{ps:List Str}{sp sp':Sp} (F:FnOk P w K mg base (CXE P w) k f fd ps sp) (h:∀ vs H Q E,sp' vs H Q E→sp vs H Q E0):FnOk P w K mg base CX0 k f fd ps sp' :=
 ⟨fun vs H Q E q=>F.len vs H Q E0 (h _ _ _ _ q),fun A outer s H args us vs Q E hr he hb hv hs=>codeAny_mono (F.run A outer s H args us vs Q E0 hr he hb hv (h _ _ _ _ hs)) fun r s' hq=>by
  cases r with
  | ok fl=>cases fl <;> exact hq
  | error e =>
   obtain ⟨ea,C,T,dx,H',_,_,_,_,_,_,_,_,_,_,z⟩:=(show CXE P w outer H s E0 e s' from hq)
   exact z.elim⟩
end
end L2

namespace L2
open PySem PySem.Spec PyProof.Rows
def Cx.hand (X:Cx) (v:Value):Cx:={ X with A:=X.A.mark (some v),calm:=false }
section
variable {X:Cx}{pins:List (Addr × Obj)}{σ:St}{H H':Hp}{s s':Shared}{v:Value}
theorem Inv.hand (I:Inv X pins σ H s) (v:Value):Inv (X.hand v) pins σ H s :=
 ⟨⟨I.ok.mod,I.ok.kind,I.ok.glob,I.ok.blt,I.ok.above,I.ok.inj,I.ok.has,I.ok.cab,(fun z=>by cases z),I.ok.frames,I.ok.stk,I.ok.exf,I.ok.bs,I.ok.bsz,I.ok.noex,I.ok.exfs,I.ok.funs,I.ok.frf⟩,I.os,I.bare,I.base,I.loc,I.cell,I.free,I.freeC,I.pin,I.hok,I.len⟩
theorem Inv.unhand (J:X.Ok) (I:Inv (X.hand v) pins σ H s):Inv X pins σ H s:=⟨J,I.os,I.bare,I.base,I.loc,I.cell,I.free,I.freeC,I.pin,I.hok,I.len⟩
theorem Inv.track {a:Addr}{o:HO} (I:Inv X pins σ H s) (hn:H a=none) (n0:X.s₀.heap.get? a=none) (nl:a≠X.env.locals) (nc:∀ x c,X.env.cells.lookup x=some c→c≠a) (np:∀ p∈X.pn++pins,p.1≠a)
  (new:ObjOk X.prog X.w (upd H a o) s.heap a o):Inv X pins σ (upd H a o) s:=by
 have ne:∀ b u,H b=some u→b≠a:=fun b u e z=>by rw [z,hn] at e; cases e
 refine ⟨I.ok,I.os,I.bare,⟨I.base.keep,I.base.slot,fun b o' e n hx=>?_,I.base.there,fun b xs e=>?_,fun b o' u e=>?_,fun b ps e=>?_⟩,I.loc,I.cell,?_,fun x c e=>?_,fun p hp=>?_,fun b u e=>?_,I.len⟩
 ·rw [zaax (fun z=>by rw [z,n0] at e; cases e)]
  exact I.base.free b o' e n hx
 ·have q:=I.base.tups b xs e
  rw [zaax (ne b _ q)]
  exact q
 ·have q:=I.base.frzs b o' u e
  rw [zaax (ne b _ q)]
  exact q
 ·obtain ⟨more,q⟩:=I.base.tbls b ps e
  exact ⟨more,by rw [zaax (ne b _ q)]; exact q⟩
 ·rw [zaax (Ne.symm nl)]
  exact I.free
 ·rw [zaax (nc x c e)]
  exact I.freeC x c e
 ·obtain ⟨q1,q2,q3⟩:=I.pin p hp
  exact ⟨q1,by rw [zaax (np p hp)]; exact q2,q3⟩
 ·by_cases hb:b=a
  ·subst hb
   rw [zaai] at e
   cases e
   exact new
  ·rw [zaax hb] at e
   exact (I.hok b u e).stay (fun _ _ _ q=>q) (fun c q=>by rw [zaax (ne c _ q)]; exact q) fun c xs q=>by rw [zaax (ne c _ q)]; exact q
def exO (a C:Addr) (dx:Option Addr:=none):HO:=.ext fun h=>∃ o vs,h.get? a=some o∧(o.cls=.ref C∧o.dict=dx)∧o.data=.fields vs∧vs[2]?=some .none
theorem zavc {P:Program}{w:World}{H:Hp}{h:Heap}{a C T:Addr}{dx:Option Addr}{fl:Value} (f:Fl h a C dx T fl):ObjOk P w H h a (exO a C dx):=by
 obtain ⟨oe,vs,h1,h2,h3,_,h5⟩:=f.ob
 exact ⟨⟨oe,vs,h1,h2,h3,h5⟩,⟨oe,h1⟩,fun g1 g2 ⟨o,ws,q1,q2⟩ k=>⟨o,ws,k o q1,q2⟩⟩
theorem zam8 {P:Program}{w:World}{H:Hp}{h:Heap}{a C:Addr}{dx:Option Addr} (ok:HOk P w H h) (e:H a=some (exO a C dx)):∃ o vs,h.get? a=some o∧(o.cls=.ref C∧o.dict=dx)∧o.data=.fields vs∧vs[2]?=some .none:=(ok a _ e).1
theorem zahr {M:Model}{A:Around}{E:Value→Shared→Prop}{i:Nat}{x:Str}{pos:Pos}{Q:Unit→Shared→Prop} (I:Inv X pins σ H s) (hN:X.N.Nodup) (hi:X.N[i]?=some x) (hk:X.env.scope.names.lookup x=some .local)
  (h:∀ s',Inv X pins (σ.set i none) H s'→Q () s'):wpAny M A (do bindName X.env x .none; unbindBehindTheSuite X.env x pos) Q E s:=by
 obtain ⟨m,hn,hl⟩:=id I.loc
 have hcls:(X.env.scope.kind == .class || (X.env.scope.kind == .module && X.env.locals != X.env.globals))=false:=by rw [I.ok.kind]; rfl
 refine wpAny_nameGoes_keeps hk hn hcls fun h' v hn' hs=>h _ ?_
 have nb:∀ b,(∃ o,X.s₀.heap.get? b=some o)→b≠X.env.locals:=fun b ⟨o,e⟩=>Nat.ne_of_lt (Nat.lt_of_lt_of_le (Heap.lt_size e) I.ok.above)
 refine ⟨I.ok,I.os,I.bare,⟨fun b o e n hb hx=>?_,fun b o e n hb hx=>?_,I.base.free,fun b o e hx=>?_,I.base.tups,I.base.frzs,I.base.tbls⟩,⟨_,hn',fun j y v' e1 e2 e3=>?_⟩,fun y c e=>?_,I.free,I.freeC,fun p hp=>?_,fun b ob e=>?_,by rw [List.length_set]; exact I.len⟩
 ·exact (hs.2 b (nb b ⟨o,e⟩)).trans (I.base.keep b o e n hb hx)
 ·obtain ⟨sl,e1⟩:=I.base.slot b o e n hb hx
  exact ⟨sl,(hs.2 b (nb b ⟨o,e⟩)).trans e1⟩
 ·obtain ⟨o',e1⟩:=I.base.there b o e hx
  exact ⟨o',(hs.2 b (nb b ⟨o,e⟩)).trans e1⟩
 ·have hj:j≠i:=fun z=>by
   subst z
   rw [List.getElem?_set_self (by rw [I.len]; exact (List.getElem?_eq_some_iff.mp hi).1)] at e2
   cases e2
  rw [List.getElem?_set_ne (Ne.symm hj)] at e2
  obtain ⟨u',r',q⟩:=hl j y v' e1 e2 e3
  refine ⟨u',r',?_⟩
  rcases q with ⟨k,e⟩ | ⟨k,c,e,z⟩
  ·have ny:y≠x:=fun e=>hj (zahj hN e1 (e ▸ hi))
   exact .inl ⟨k,by simp [ny,e]⟩
  ·exact .inr ⟨k,c,e,z.sameBut hs (I.cne y c e)⟩
 ·obtain ⟨w',z⟩:=I.cell y c e
  exact ⟨w',z.sameBut hs (I.cne y c e)⟩
 ·obtain ⟨e,n,ne,nf,d⟩:=I.pin p hp
  exact ⟨(hs.2 p.1 ne).trans e,n,ne,nf,d⟩
 ·refine (I.hok b ob e).stay (fun c w' hc q=>(hs.2 c fun z=>?_).trans q) (fun _ q=>q) fun _ _ q=>q
  have f:=I.free
  rcases hc with hc | hc
  ·rw [← z,hc,e] at f; cases f
  ·rw [← z,hc] at f; cases f
end
def XSub (K:PySem.W.Frag) (C CF:Addr):Prop:=(match K.lookup C with
 | some ⟨_,_,.cls cd,_⟩=>cd.mro.contains (.ref CF)
 | _=>false)=true
section
variable {M:Model}{A:Around}{E:Value→Shared→Prop}{s:Shared}{K:PySem.W.Frag}{C CF e:Addr}
theorem zapy {oe:Obj}{Q:Bool→Shared→Prop} (X:K.In s.heap) (c1:XB K C) (c2:XB K CF) (sb:XSub K C CF) (ge:s.heap.get? e=some oe) (gc:oe.cls=.ref C) (k:Q true s):wpAny M A (excMatches (.ref e) (.ref CF)) Q E s:=by
 obtain ⟨bm,N,nm,qn,bs,hdct,sn,sub,ab,col,dd,k0,k1,k2,k3,k5,mN,hC,_,T⟩:=c1.obj X
 obtain ⟨bm',N',nm',qn',bs',hdct',sn',sub',ab',col',dd',k0',k1',k2',k3',k5',mN',hF,_,T'⟩:=c2.obj X
 have z1:(Value.ref CF :: bm').contains (.type "BaseException")=true:=by rw [List.contains_cons,T'.hasType PySem.F.excBase_ValueError.hasBase,Bool.or_true]
 have z2:(Value.ref C :: bm).contains (.ref CF)=true:=by
  have sb:(match K.lookup C with
   | some ⟨_,_,.cls cd,_⟩=>cd.mro.contains (.ref CF)
   | _=>false)=true:=sb
  split at sb
  case h_2=>cases sb
  case h_1 cl di cd sl ho =>
   have q:=X _ _ ho
   rw [hC] at q
   cases q
   exact sb
 have ft:=tc_notTuple
 obtain ⟨h,g,d,t,os⟩:=s
 unfold excMatches
 repeat (first
  | (with_reducible refine wpAny_loadPart_at ge ?_; rw [gc])
  | with_reducible refine wpAny_loadPart_at hF ?_
  | (with_reducible refine wpAny_isSubtype_exc hF ?_; rw [z1])
  | (with_reducible refine wpAny_isSubtype_exc hC ?_; rw [z2])
  | wp_step)
 exact k
end
end L2

namespace L2
open PySem PySem.Spec PyProof.Rows
abbrev XW:=XK
abbrev XD:=St→XK
def XE (X:Cx) (pins:List (Addr × Obj)) (σ:St) (Ew:XW) (e:Value) (s':Shared):Prop:=∃ H1 s1,Inv X pins σ H1 s1∧CXE X.prog X.w X.stack H1 s1 Ew e s'
def XPs (X:Cx) (pins:List (Addr × Obj)) (Dx:XD) (e:Value) (s':Shared):Prop:=∃ σ1,XE X pins σ1 (Dx σ1) e s'
abbrev TEX:=St→Hp→VK→XW→Prop
abbrev TSX:=Ends→XD→St→Hp→Prop
def PEX (X:Cx) (e:Expr) (t:TEX):Prop :=
 ∀ (pins:List (Addr × Obj)) (s:Shared) (σ:St) (H:Hp) (Q:VK) (Ew:XW),Inv X pins σ H s→t σ H Q Ew→wpAny (model X.prog X.w) X.A (eval e X.env) (EP X pins σ Q) (XE X pins σ Ew) s
def PSX (X:Cx) (st:Stmt) (t:TSX):Prop :=
 ∀ (pins:List (Addr × Obj)) (s:Shared) (σ:St) (H:Hp) (D:Ends) (Dx:XD),Inv X pins σ H s→t D Dx σ H→wpAny (model X.prog X.w) X.A (exec st X.env) (SP X pins D) (XPs X pins Dx) s
def PSXs (X:Cx) (st:List Stmt) (t:TSX):Prop :=
 ∀ (pins:List (Addr × Obj)) (s:Shared) (σ:St) (H:Hp) (D:Ends) (Dx:XD),Inv X pins σ H s→t D Dx σ H→wpAny (model X.prog X.w) X.A (execs st X.env) (SP X pins D) (XPs X pins Dx) s
def Nox (X:Cx):Prop:=∀ e s,X.xe e s→False
def tCallX (sp:Sp) (t:TA):TEX:=fun σ H Q Ew=>t σ H fun vs H1=>sp vs H1 Q Ew
def tDropX (t:TEX):TSX:=fun D Dx σ H=>t σ H (fun _ H1=>D.nx σ H1) (Dx σ)
section
variable {X:Cx}{k:Nat}{f C:Addr}{fd:FuncData}{ps:List Str}{sp:Sp}{x m:Str}{p pos apos:Pos}{e o:Expr}{es:List Expr}{ta:TE}{t:TA}
theorem zast {pins:List (Addr × Obj)}{σ:St}{H:Hp}{s:Shared}{Q:VK}{Ew:XW}{us:List Value}{vs:List V} (F:FnOk X.prog X.w X.K X.mg X.base (CXE X.prog X.w) k f fd ps sp) (hr:Room k X.A) (hb:Binds X.K fd ps [])
  (I:Inv X pins σ H s) (r:Vals vs us) (h:sp vs H Q Ew):wpAny (model X.prog X.w) X.A (call (.ref f) us) (EP X pins σ Q) (XE X pins σ Ew) s:=by
 have hl:us.length=ps.length:=by rw [← r.length]; exact F.len _ _ _ _ h
 have bt:=hb s us I.kIn (by rw [List.append_nil]; exact hl)
 rw [List.append_nil] at bt
 refine wpAny_call (codeAny_mono (F.run X.A X.stack s H ⟨us,[]⟩ us vs Q _ hr I.env0 bt r h) fun r s' hq=>?_)
 cases r with
 | error e=>exact ⟨H,s,I,hq⟩
 | ok fl =>
  cases fl with
  | ret u=>exact I.after hq
  | next=>exact False.elim hq
  | brk=>exact False.elim hq
  | cont=>exact False.elim hq
theorem zapz (hx:Nox X) (D:DefOk X.prog X.w X.K X.mg X.base (CXE X.prog X.w) k x ps sp) (hr:Room k X.A) (hg:Gl X x) (ha:Pr (PA X (e :: es) t)) (hdb:(x == ("__debug__" : Str))=false:=by decide)
  (he:starEach (e :: es) X.env=(false,eval e X.env) :: starEach es X.env:=by rfl) (hpl:(backTo pos (starEach es X.env)).any (·.1)=false:=by rfl):PEX X (.Call (.Name x p) (e :: es) [] pos) (tCallX sp t):=by
 obtain ⟨f,fd,F,b,kp,m⟩:=D.ex
 intro pins s σ H Q Ew I h
 refine wpAny_Call_Name_kw (zaef I hg m ?_ hdb)
 refine PySem.W.callWith_K (h₀:=X.base) I.ok.mod.kin kp (wpAny_mono (ha.h pos pins s σ H _ I h) (fun us s1 ⟨vs,H1,I1,r,q⟩=>⟨I1.kIn,?_⟩) fun _ _ z=>(hx _ _ z).elim) he hpl
 exact zast F hr b I1 r q
theorem zap0 {te:TEX} (he:PEX X e te) (hs:swapsWith e none pos.line X.env=pure false:=by rfl):PSX X (.Expr e pos) (tDropX te):=by
 intro pins s σ H D Dx I h
 exact wpAny_Expr_any (wpAny_mono (he pins s σ H _ _ I h) (fun v s1 ⟨x,H1,I1,r1,q1⟩=>⟨σ,H1,I1,q1⟩) fun e s' q=>⟨σ,q⟩) I.quiet hs
theorem zap1 {st:Stmt}{t:TSX} (h1:PSX X st t):PSXs X [st] t:=by
 intro pins s σ H D Dx I h
 refine wpAny_execs_cons (thn (h1 pins s σ H D Dx I h) fun f s1 q=>?_)
 cases f with
 | next=>exact wpAny_execs_nil q
 | ret v=>exact q
 | brk=>exact q
 | cont=>exact q
end
def tTry (K:PySem.W.Frag) (CF:Addr) (i:Nat) (tb:TSX) (ts:Addr→TS):TS:=fun D σ H=>tb D (fun σ1 c dx H'=>∃ C,c=.ref C∧XB K C∧XSub K C CF∧∀ ea,H' ea=none →
 ts ea { nx:=fun σ2 H2=>D.nx (σ2.set i none) H2,rt:=D.rt,bk:=fun σ2 H2=>D.bk (σ2.set i none) H2,ct:=fun σ2 H2=>D.ct (σ2.set i none) H2 } (σ1.set i (some (.ref ea))) (upd H' ea (exO ea C dx))) σ H
section
variable {X:Cx}
theorem zavd {x n:Str}{CF:Addr}{i:Nat}{body suite:List Stmt}{b₀:Stmt}{tb:TSX}{ts:Addr→TS}{np hpos pos:Pos} (hx:Nox X) (hst:X.stack=X.env :: X.outer) (hfr:X.env.frame=some X.env.locals) (hex:X.ex=[]) (hN:X.N.Nodup) (hi:X.N[i]?=some n)
  (hk:X.env.scope.names.lookup n=some .local) (hg:Gl X x) (hm:X.mg x=some (.ref CF)) (xf:XB X.K CF) (hb:PSXs X body tb) (hs:∀ ea,PSs (X.hand (.ref ea)) (b₀ :: suite) (ts ea)) (hdb:(x == ("__debug__" : Str))=false:=by decide) :
  PS X (.Try body [.ExceptHandler (some (.Name x np)) (some n) (b₀ :: suite) hpos] [] [] pos) (tTry X.K CF i tb ts):=by
 intro pins s σ H D I h
 refine wpAny_Try_except (wpAny_mono (hb pins s σ H D _ I h) (fun f s1 q=>?_) fun e s1 q=>?_)
 ·cases f with
  | next=>exact wpAny_execs_nil q
  | ret v=>exact q
  | brk=>exact q
  | cont=>exact q
 ·obtain ⟨σ1,H1,s2,I2,ea,C,T,dx,H',rfl,os,bare,un,hok,fl,n1,n2,t1,t2,C',ec,xc,sb,q⟩:=q
  obtain rfl:C=C':=by cases ec; rfl
  have J:Inv X pins σ1 H' s1:=I2.call' (ch:=[]) os un hok bare (fun b z=>absurd z (by simp))
  have fr:X.A.frames=some (X.env :: X.outer):=by rw [← hst]; exact J.ok.frames
  have ff:s1.heap.FunFrames X.base (X.env :: X.outer):=by rw [← hst]; exact J.stack
  refine zam7 fr ff hfr fl fun h2 T1 kb fl2 nT=>zahq fl2 fun h3 kb3 fl3=>?_
  have k3:KB [T,ea,T1] (frs X.stack) s1.heap h3:=by rw [hst]; exact kb.trans kb3.fs
  have hA:∀ b∈[T,ea,T1],X.s₀.heap.get? b=none∧H' b=none∧b≠X.env.locals∧(∀ x c,X.env.cells.lookup x=some c→c≠b)∧∀ p∈X.pn++pins,p.1≠b:=fun b hb=>by
   simp only [List.mem_cons,List.not_mem_nil,or_false] at hb
   rcases hb with rfl | rfl | rfl
   ·exact ⟨I2.alien0 hex n2,t2,I2.alien n2⟩
   ·exact ⟨I2.alien0 hex n1,t1,I2.alien n1⟩
   ·exact ⟨J.alien0 hex nT,J.hok.alien nT,J.alien nT⟩
  have J3:Inv X pins σ1 H' { s1 with heap:=h3 }:=J.fly k3 hA
  have J3h:=J3.hand (.ref ea)
  obtain ⟨oe,vs,g1,⟨g2,_⟩,_⟩:=fl3.ob
  refine wpAny_handleBy_cons (codeAny_handlers_test (zaef (X:=X.hand (.ref ea)) J3h hg hm (zapy J3.kIn xc xf sb g1 g2 ?_) hdb)) (by intro z; cases z)
  refine codeAny_handlers_suite_as ?_
  refine zahq fl3 fun h4 kb4 fl4=>?_
  have J4:Inv X pins σ1 H' { s1 with heap:=h4 }:=J3.fly kb4.fs fun b hb=>hA b (by simp only [List.mem_cons,List.not_mem_nil,or_false] at hb ⊢; exact .inr (.inr hb))
  obtain ⟨a0,a1,a2,a3,a4⟩:=hA ea (by simp)
  have J5:=(J4.track (o:=exO ea C dx) a1 a0 a2 a3 a4 (zavc fl4)).hand (.ref ea)
  refine zafr (X:=X.hand (.ref ea)) (v:=V.ref ea) J5 hN hi (.inl hk) (show RelV (V.ref ea) (Value.ref ea) from rfl) (fun s5 J6=>?_) (.inr hk)
  refine wpAny_mono (hs ea pins s5 _ _ _ J6 (q ea a1)) (fun f s6 q6=>?_) fun _ _ z=>(hx _ _ z).elim
  cases f with
  | next =>
   obtain ⟨σ7,H7,J7,q7⟩:=q6
   exact zahr (J7.unhand J.ok) hN hi hk fun s' J8=>⟨_,H7,J8,q7⟩
  | brk =>
   obtain ⟨σ7,H7,J7,q7⟩:=q6
   exact zahr (J7.unhand J.ok) hN hi hk fun s' J8=>⟨_,H7,J8,q7⟩
  | cont =>
   obtain ⟨σ7,H7,J7,q7⟩:=q6
   exact zahr (J7.unhand J.ok) hN hi hk fun s' J8=>⟨_,H7,J8,q7⟩
  | ret u =>
   obtain ⟨v,σ7,H7,J7,rv,q7⟩:=q6
   exact zahr (J7.unhand J.ok) hN hi hk fun s' J8=>⟨v,_,H7,J8,rv,q7⟩
end
end L2

namespace L2
open PySem PySem.Spec PyProof.Rows PySem.W
structure XA (K:PySem.W.Frag) (C:Addr):Prop where
 xc:XB K C
 ga:findIn K (.ref C) "__getattribute__" = some (some (.builtin "BaseException.__getattribute__"))
 gt:findIn K (.ref C) "__getattr__" = some none
 cl:findIn K (.ref C) "__class__" = some (some (.builtin "object.__class__"))
 sg:specialIn K (.builtin "object.__class__") "__get__" = some (some (.builtin "getset_descriptor.__get__"))
 tk:takesIn K (.builtin "object.__class__")=some true
 mo:mroIn K C (.type "object")=some true
 cs:(clsIn K C).isSome=true
theorem zahs {K:Frag}{C:Addr}{od:Option Obj}{name:Str}{a g:Value} (hc:(clsIn K C).isSome=true) (ha:findIn K (.ref C) name=some (some a)) (hg:specialIn K a "__get__" = some (some g)) (ht:takesIn K a=some true):findObj K C od name=some (.bind g a):=by
 obtain ⟨cd,hc⟩:=Option.isSome_iff_exists.mp hc
 unfold findObj
 rw [hc,Option.bind_some,ha,Option.bind_some]
 simp [hg,ht]
section
variable {prog:Program}{w:World}{A:Around}{E:Value→Shared→Prop}{s:Shared}{K:Frag}{x C:Addr}{ox:Obj}{od:Option Obj}
theorem zam9 {Q:Option Value→Shared→Prop} (X:K.In s.heap) (xa:XA K C) (I:InstAt s.heap x ox C od) (h:Q (some (.ref C)) { s with toks:=s.toks + 1 }):wpAny (model prog w) A (getAttr? (.ref x) "__class__") Q E s:=by
 obtain ⟨bm,N,nm,qn,bs,hdct,sn,sub,ab,col,dd,k0,k1,k2,k3,k5,mN,hC,hN,T⟩:=xa.xc.obj X
 obtain ⟨hh,g,d,t,os⟩:=s
 have L0:=I.type (M:=model prog w)
 have L1:=looks_findIn (M:=model prog w) X xa.ga
 have L2:=looks_findIn (M:=model prog w) X xa.gt
 have L3:=looks_find (M:=model prog w) X I (zahs xa.cs xa.cl xa.sg xa.tk)
 have f3:=PySem.F.attr_ValueError.ga.bind (.ref x)
 unfold getAttr? getAttrBy? getAttrBy
 refine wpAny_bind (wpAny_mkText (wpAny_bind (wpAny_attempt (wpAny_holding (wpAny_bind (L0.at (wpAny_bind (L1.at ?_))))))))
 dsimp only
 have b0:(Value.builtin "BaseException.__getattribute__" == Value.builtin "object.__getattribute__")=false:=by decide +kernel
 rw [if_neg (by rw [b0,Bool.and_false]; exact Bool.false_ne_true)]
 unfold getAttrByItsOwn hookBefore
 rw [if_pos (show onTheHeap (Value.ref C)=true from rfl)]
 refine wpAny_bind (L2.at (wpAny_bind (wpAny_attempt (wpAny_holding ?_))))
 unfold callGetattribute
 rw [if_neg (by decide +kernel)]
 unfold boundAndCalled
 refine wpAny_bind (wpAny_of_eq f3 ?_)
 refine wpAny_call (codeAny_call_builtin PySem.F.attr_ValueError.ga.plain PySem.F.entry_bexc_ga ?_)
 have y1:builtinKind "BaseException.__getattribute__" = some .slot:=by decide +kernel
 have y2:splitId "BaseException.__getattribute__" = some ("BaseException", "__getattribute__"):=by decide +kernel
 have y3:(Value.ref C :: bm).contains (.type "BaseException")=true:=by rw [List.contains_cons,T.hasType PySem.F.excBase_ValueError.hasBase,Bool.or_true]
 have y4:=PySem.F.args_bexc_ga (.ref x) (.str "__class__" t)
 have gx:=I.at_
 have gc:=I.cls
 simp only [checkBuiltinCall,y1,y2]
 refine wpAny_bind ?_
 unfold isInstance
 repeat (first
  | with_reducible refine wpAny_bind (L3.at ?_)
  | with_reducible refine L3.at ?_
  | (with_reducible refine wpAny_loadPart_at gx ?_; rw [gc])
  | (with_reducible refine wpAny_isSubtype_exc hC ?_; rw [y3])
  | wp_step)
 refine class_get (s:=⟨hh,g,d,t + 1,os⟩) X I xa.mo ?_
 unfold ret
 refine wpAny_pure ?_
 exact handed_on rfl (wpAny_pure h)
theorem zaht (xa:XA K C):KitX K (.ref x) (.ref C) (fun h=>∃ ox od,InstAt h x ox C od) where
 ty:=fun _ _ _ ⟨_,_,I⟩=>I.type
 it:=fun _ _ X _=>by
  obtain ⟨cd,hcd⟩:=Option.isSome_iff_exists.mp xa.cs
  unfold clsIn at hcd
  split at hcd
  case h_1 c' d' cd' sl' ho =>
   intro A' Q' E' s' k q
   unfold isType loadHead
   exact wpAny_bind (wpAny_loadPart (k _ _ (X _ _ ho)) (wpAny_pure q))
  case h_2=>cases hcd
 ne:=fun h tp dd its n sl X htp=>by
  obtain ⟨cd,hcd⟩:=Option.isSome_iff_exists.mp xa.cs
  refine Bool.eq_false_iff.mpr fun q=>?_
  have e:C=tp:=Value.ref.inj (beq_iff_eq.mp q)
  subst e
  unfold clsIn at hcd
  split at hcd
  case h_1 c' d' cd' sl' ho =>
   have z:=(X _ _ ho).symm.trans htp
   cases z
  case h_2=>cases hcd
 ca:=fun X ⟨_,_,I⟩ k=>zam9 X xa I k
end
def XDx (H:Hp) (dx:Option Addr):Prop:=∀ d,dx=some d→∃ fs,H d=some (.xd fs)
theorem zaky {P:Program}{w:World}{H:Hp}{h:Heap}{a C:Addr}{dx:Option Addr} (ok:HOk P w H h) (e:H a=some (exO a C dx)) (hd:XDx H dx):∃ ox od,InstAt h a ox C od:=by
 obtain ⟨o,vs,g1,⟨g2,g3⟩,g4,_⟩:=zam8 ok e
 have n:notCls o=true:=by unfold notCls; rw [g4]
 cases dx with
 | none=>exact ⟨o,none,g1,g2,n,by rw [g3]; trivial⟩
 | some d =>
  obtain ⟨fs,hf⟩:=hd d rfl
  obtain ⟨od,g⟩:=ok.has hf
  exact ⟨o,some od,g1,g2,n,by rw [g3]; exact g⟩
def rIsX (K:Frag):List V→Hp→VK→Prop:=fun xs H Q=>∃ (ea C:Addr) (dx:Option Addr) (c:V) (b:Bool),xs=[.ref ea,c]∧H ea=some (exO ea C dx)∧XDx H dx∧XA K C∧((∃ CF,c=.ref CF∧kitOne K (.ref C) (.ref CF)=some b)∨∃ T,c=.ty T∧kitOne K (.ref C) (.type T)=some b)∧Q (.bl b) H
theorem zakz {X:Cx}:CallR X (.builtin "isinstance") (rIsX X.K):=by
 intro pins s σ H xs us Q I r h
 obtain ⟨ea,C,dx,c,b,rfl,he,hd,xa,hc,q⟩:=h
 obtain ⟨u,v,rfl,ru,rv⟩:=vals2 r
 obtain rfl:u=Value.ref ea:=ru
 have J:=zaky I.hok he hd
 rcases hc with ⟨CF,rfl,e⟩ | ⟨T,rfl,e⟩
 ·obtain rfl:v=Value.ref CF:=rv
  exact kia_one (zaht xa) I.kIn J e (fun z=>by cases z) fun tk=>⟨.bl b,H,I.tok _,rfl,q⟩
 ·obtain rfl:v=Value.type T:=rv
  exact kia_one (zaht xa) I.kIn J e (fun z=>by cases z) fun tk=>⟨.bl b,H,I.tok _,rfl,q⟩
end L2

namespace L2
open PySem PySem.Spec PyProof.Rows
section
variable {X:Cx}
theorem zasu {x n:Str}{CF:Addr}{i:Nat}{body suite:List Stmt}{b₀:Stmt}{tb:TSX}{ts:Addr→TS}{np hpos pos:Pos} (hx:Nox X) (hst:X.stack=X.env :: X.outer) (hfr:X.env.frame=some X.env.locals) (hex:X.ex=[]) (hN:X.N.Nodup) (hi:X.N[i]?=some n)
  (hk:X.env.scope.names.lookup n=some .local) (hg:Gl X x) (hm:X.mg x=some (.ref CF)) (xf:XB X.K CF) (hb:PSXs X body tb) (hs:∀ ea,Pr (PSs (X.hand (.ref ea)) (b₀ :: suite) (ts ea))) (hdb:(x == ("__debug__" : Str))=false:=by decide) :
  Pr (PS X (.Try body [.ExceptHandler (some (.Name x np)) (some n) (b₀ :: suite) hpos] [] [] pos) (tTry X.K CF i tb ts)):=⟨zavd hx hst hfr hex hN hi hk hg hm xf hb (fun ea=>(hs ea).h) hdb⟩
end
end L2

namespace L2
open PySem PySem.W PyProof.Rows
def sqO (k:SK) (xs:List V):HO:=match k with
 | .list=>.lst xs
 | .tuple=>.tup xs
def ItK (K:PySem.W.Frag) (k:SK) (a:Addr):It:=match k with
 | .list=>Itl K a
 | .tuple=>Itt K a
def iSq (K:PySem.W.Frag) (k:SK) (tl:TE):TI:=fun σ H R=>tl σ H fun x H1=>∃ a,x=.ref a∧(∃ xs,Sq k K H1 a xs)∧R (ItK K k a) H1
section
variable {X:Cx}{tg l:Expr}
theorem zasv (K:PySem.W.Frag) (hK:X.K=K) (k:SK) {tl:TE} (hl:Pr (PE X l tl)):Pr (PI X tg l (iSq K k tl)):=by
 cases k with
 | list=>exact zam5 K hK hl
 | tuple=>exact zapw K hK hl
end
end L2

namespace L2
open PySem
structure AF (sc:Scope) (N:List Str):Prop where
 h:∀ x∈N,(sc.names.lookup x=some .local∨sc.names.lookup x=some .cell)∧(x == ("__debug__" : Str))=false∧(x == ("__classdict__" : Str))=false
structure AV (sc:Scope) (N:List Str):Prop where
 h:∀ x∈N,(sc.names.lookup x=some .local∨sc.names.lookup x=some .cell∨sc.names.lookup x=some .free)∧(x == ("__debug__" : Str))=false∧(x == ("__classdict__" : Str))=false
structure AK (sc:Scope) (N:List Str):Prop where
 h:∀ x∈N,sc.names.lookup x=some .local
structure AG (sc:Scope) (N:List Str):Prop where
 h:∀ x∈N,sc.names.lookup x=some .globalImplicit
theorem AF.l {sc:Scope}{N:List Str} (A:AF sc N) (i:Nat) {x:Str} (e:N[i]?=some x):sc.names.lookup x=some .local∨sc.names.lookup x=some .cell:=(A.h x (List.mem_of_getElem? e)).1
theorem AK.k {sc:Scope}{N:List Str} (A:AK sc N) (i:Nat) {x:Str} (e:N[i]?=some x):sc.names.lookup x=some .local:=A.h x (List.mem_of_getElem? e)
theorem AG.g {sc:Scope}{N:List Str} (A:AG sc N) (i:Nat) {x:Str} (e:N[i]?=some x):sc.names.lookup x=some .globalImplicit:=A.h x (List.mem_of_getElem? e)
theorem qv {X:Cx}{x:Str}{pos:Pos} (A:AF X.env.scope X.N) (i:Nat) (e:X.N[i]?=some x):Pr (PE X (.Name x pos) (tVar i)) :=
 have a:=A.h x (List.mem_of_getElem? e)
 zamw e (a.1.elim .inl fun h=>.inr (.inl h)) a.2.1 a.2.2
theorem qw {X:Cx}{x:Str}{pos:Pos} (A:AV X.env.scope X.N) (i:Nat) (e:X.N[i]?=some x):Pr (PE X (.Name x pos) (tVar i)) :=
 have a:=A.h x (List.mem_of_getElem? e)
 zamw e a.1 a.2.1 a.2.2
end L2

namespace L2
open PySem PySem.Spec PyProof.Rows
section
variable {X:Cx}
theorem zak0:OpR X (compareOp .LtE) (fun x y H Q=>∃ i j,x=.str i∧y=.str j∧Q (.bl (!decide (j.cps.toList < i.cps.toList))) H):=by
 intro pins s σ H x y v u Q I rx ry h
 obtain ⟨i,j,rfl,rfl,q⟩:=h
 obtain ⟨t,rfl⟩:=rx
 obtain ⟨t',rfl⟩:=ry
 exact PySem.P.le_str (zabg I q rfl)
theorem zana:CallR X (.type "int") (fun xs H Q=>∃ x n,xs=[.str x]∧PySem.intText? x=some n∧x.length≤640∧Q (.int n) H):=by
 intro pins s σ H xs us Q I r h
 obtain ⟨x,n,rfl,hn,hl,q⟩:=h
 obtain ⟨u,rfl,t,rfl⟩:=vals1 r
 exact PySem.W.KIN.call_text hn hl ⟨.int n,H,I.tok _,⟨_,rfl⟩,q⟩
def rMulS0:R2:=fun x y H Q=>∃ c n,x=.str ⟨#[c]⟩∧y=.int n∧0≤n∧n≤1000∧∀ z:Str,z.cps.toList=List.replicate n.toNat c→Q (.str z) H
theorem zap2:OpR X (binaryOp .Mult) rMulS0:=by
 intro pins s σ H x y v u Q I rx ry h
 obtain ⟨c,n,rfl,rfl,h1,h2,q⟩:=h
 by_cases z:1≤n
 ·exact zag9 pins s σ H _ _ v u Q I rx ry ⟨c,n,rfl,rfl,z,h2,q⟩
 ·have e:n=0:=by omega
  subst e
  obtain ⟨t,rfl⟩:=rx
  obtain ⟨t',rfl⟩:=ry
  exact P.mul_str_none (by omega) (by omega) ⟨.str Str.empty,H,I.tok _,⟨_,rfl⟩,q _ rfl⟩
variable {o value:Expr}{f:Str}{ta tv:TE}{tpos pos:Pos}
theorem zahd {op:Operator}{rd:V→V→Hp→VK→Prop} (ha:Pr (PE X o ta)) (hv:Pr (PE X value tv)) (hop:InOp X op rd):Pr (PS X (.AugAssign (.Attribute o f tpos) op value pos) (sFldAug X.K ta tv rd f)):=⟨zamh ha.h hv.h hop⟩
end
end L2

namespace L2
open PySem PySem.Spec PyProof.Rows
def rIsXs (K:PySem.W.Frag):List V→Hp→VK→Prop:=fun xs H Q=>∃ (ea C:Addr) (dx:Option Addr) (p:Addr) (cs:List V) (b:Bool),xs=[.ref ea,.ref p]∧H ea=some (exO ea C dx)∧XDx H dx∧H p=some (.tup cs)∧(∃ as:List Addr,cs=as.map V.ref∧XA K C∧PySem.W.kitAny K (.ref C) (as.map Value.ref)=some b)∧Q (.bl b) H
theorem zai4:∀ {as:List Addr}{us:List Value},Vals (as.map V.ref) us→us=as.map Value.ref
 | [],_,.nil=>rfl
 | T :: as,_,.cons r t=>by rw [List.map_cons,zai4 t]; cases r; rfl
theorem zanb {X:Cx}:CallR X (.builtin "isinstance") (rIsXs X.K):=by
 intro pins s σ H xs us Q I r h
 obtain ⟨ea,C,dx,p,cs,b,rfl,he,hd,hp,⟨as,rfl,xa,e⟩,q⟩:=h
 obtain ⟨u,v,rfl,ru,rv⟩:=vals2 r
 obtain rfl:u=Value.ref ea:=ru
 obtain rfl:v=Value.ref p:=rv
 have J:=zaky I.hok he hd
 obtain ⟨_,its,rt,⟨cl,di,da,sl⟩,ho,hoc,n,hod⟩:=I.hok p _ hp
 obtain rfl:=zai4 rt
 cases hoc
 cases hod
 exact PySem.W.kia_tup (zaht xa) I.kIn J ho e (fun z=>by cases z) fun tk=>⟨.bl b,H,I.tok _,rfl,q⟩
theorem kany {K:PySem.W.Frag}{t:Value}:∀ {as:List Addr},(∀ c∈as,PySem.W.kitOne K t (.ref c)=some false)→PySem.W.kitAny K t (as.map Value.ref)=some false
 | [],_=>rfl
 | c :: as,h=>by
  rw [List.map_cons,PySem.W.kitAny,h c (by simp)]
  exact kany fun x hx=>h x (by simp [hx])
structure WK (K:PySem.W.Frag) (CR:Addr) (cs:List Addr) (co:Addr):Prop where
 xa:XA K CR
 kr:PySem.W.kitOne K (.ref CR) (.ref CR)=some true
 kv:PySem.W.kitOne K (.ref CR) (.type "ValueError")=some true
 ks:PySem.W.kitAny K (.ref CR) (cs.map Value.ref)=some false
 ko:PySem.W.kitOne K (.ref CR) (.ref co)=some false
end L2

namespace L2
open PySem PySem.Spec PyProof.Rows
def exN (a C:Addr):HO:=.ext fun h=>∃ t:Addr,h.get? a=some { cls:=.ref C,data:=.fields #[.ref t,.none,.none,.none,.bool false,.none] }
theorem zaq1 {P:Program}{w:World}{H:Hp}{h:Heap}{a C t:Addr} (g:h.get? a=some { cls:=.ref C,data:=.fields #[.ref t,.none,.none,.none,.bool false,.none] }):ObjOk P w H h a (exN a C) :=
 ⟨⟨t,g⟩,⟨_,g⟩,fun g1 g2 ⟨ws,q1⟩ k=>⟨ws,k _ q1⟩⟩
structure XI (K:PySem.W.Frag) (C f:Addr):Prop where
 xb:XB K C
 kp:PySem.W.keepIn K (.ref C)=true
 ini:PySem.W.findIn K (.ref C) "__init__" = some (some (.ref f))
 fn:PySem.W.typeIn K (.ref f)=some (.type "function")
 hd:PySem.W.hasDictIn K C=true
 mo:PySem.W.mroIn K C (.type "object")=some true
 sa:PySem.W.findIn K (.ref C) "__setattr__" = some (some (.builtin "object.__setattr__"))
section
variable {prog:Program}{w:World}{A:Around}{E:Value→Shared→Prop}{h:Heap}{g:Array GenState}{d:Drawn}{t:Nat}{os:OsState}{K:PySem.W.Frag}
variable {nm qn:Str}{C N f:Addr}{bs bm bmB:List Value}{hdct:Bool}{sn:List Str}{sub:List Value}{ab:Bool}{col:Option Bool}{dd:Option Addr}{k0 k1 k2 k3 k5:Option Value}{B nw ini:String}
theorem zasw (F:ExcBaseFacts B nw ini bmB) (T:OwnTail h bmB bm) {us:List Value}{Q:Fin→Shared→Prop} (X:K.In h)
  (hC:h.get? C=some (excClassObj nm qn C N bs bm hdct sn sub ab col dd k0 k1 k2 k3 k5 nw)) (hi:PySem.W.findIn K (.ref C) "__init__" = some (some (.ref f))) (hf:PySem.W.typeIn K (.ref f)=some (.type "function"))
  (k:∀ h' e,Heap.MadeExcOf h h' e (.ref C) us→wpAny (model prog w) A (call (.ref f) (.ref e :: us)) (fun r s'=>r=.none∧Q (.done (.ret (.ref e))) s') E ⟨h',g,d,t,os⟩) (sz:us.length≤sizeLine) :
  wpAny (model prog w) A (Builtin.«type.__call__» ⟨.ref C :: us,[]⟩) Q E ⟨h,g,d,t,os⟩:=by
 repeat (first | with_reducible refine wpAny_madeBy_exc hC ?_ | with_reducible refine wpAny_loadPart_at hC ?_ | wp_step)
 refine codeAny_call_builtin_code (Code.quiet_builtin _ F.quiet) (wpAny_check_new_subT F T hC (codeAny_exc_new_subT F T hC ?_ sz))
 let ht:=h.push { cls:=.type "tuple",data:=.seq us.toArray }
 let oe:Obj:={ cls:=.ref C,data:=.fields #[.ref h.objs.size,.none,.none,.none,.bool false,.none] }
 have kp:∀ b o,h.get? b=some o→(ht.push oe).get? b=some o:=fun b o q=>Heap.get?_push_of_some _ (Heap.get?_push_of_some _ q)
 have X1:K.In (ht.push oe):=X.keeps kp
 have ge:(ht.push oe).get? (h.objs.size + 1)=some oe:=by
  have:=Heap.get?_push_size ht (o:=oe) rfl
  rwa [show ht.objs.size=h.objs.size + 1 from Heap.size_push _ _] at this
 have cc:(Value.ref C :: bm).contains (.ref C)=true:=by simp
 have hC1:=kp _ _ hC
 show wpAny (model prog w) _ _ _ _ ⟨ht.push oe,g,d,t,os⟩
 unfold isInstance
 repeat (first | with_reducible refine wpAny_loadPart_at ge ?_ | (with_reducible refine wpAny_isSubtype_exc hC1 ?_; rw [cc]) | wp_step)
 show wpAny _ _ (typeLookup (.ref C) _) _ _ _
 refine (PySem.W.looks_findIn X1 hi).here ?_
 refine wpAny_holding (wpAny_bind ((PySem.W.bind_fn X1 (.ref (h.objs.size + 1)) hf).here ?_))
 refine wpAny_bind (wpAny_mono (k _ (h.objs.size + 1) ⟨kp,Heap.get?_none_of_le (Nat.le_succ _),h.objs.size,ge,Heap.get?_none_of_le (Nat.le_refl _),?_⟩) (fun r s' ⟨e1,q1⟩=>?_) fun _ _ x=>x)
 ·exact Heap.get?_push_of_some _ (Heap.get?_push_size h rfl)
 ·subst e1
  wp_walk
  exact q1
theorem zanc (F:ExcBaseFacts B nw ini bmB) (T:OwnTail h bmB bm) {us:List Value}{Q:Value→Shared→Prop} (X:K.In h)
  (hC:h.get? C=some (excClassObj nm qn C N bs bm hdct sn sub ab col dd k0 k1 k2 k3 k5 nw)) (hi:PySem.W.findIn K (.ref C) "__init__" = some (some (.ref f))) (hf:PySem.W.typeIn K (.ref f)=some (.type "function"))
  (k:∀ h' e,Heap.MadeExcOf h h' e (.ref C) us→wpAny (model prog w) (A.under (.builtin "type.__call__" ⟨.ref C :: us,[]⟩)) (call (.ref f) (.ref e :: us)) (fun r s'=>r=.none∧Q (.ref e) s') E ⟨h',g,d,t,os⟩) (sz:us.length≤sizeLine) :
  wpAny (model prog w) A (call (.ref C) us) Q E ⟨h,g,d,t,os⟩:=by
 have l1:=tc_lookup
 have l2:=tc_bind (.ref C)
 have ty:(⟨h,g,d,t,os⟩:Shared).TypeIs (.ref C) "type" := ⟨_,hC,rfl⟩
 refine wpAny_call (codeAny_of_tree ?_)
 show wpAny _ _ (callAny (.ref C) _) _ _ _
 repeat (any_goals (first | assumption | with_reducible refine wpAny_loadPart_at hC ?_ | wp_step))
 exact ⟨rfl,codeAny_call_builtin_at (Code.quiet_builtin _ (by decide +kernel)) entry_typeCall (wpAny_check_type_call_sub hC (zasw F T X hC hi hf (fun h' e m=>k h' e m) sz))⟩
theorem zalw {env:Env}{s:Shared}{x:Sem Value}{Q:Flow→Shared→Prop} (hb:bm.contains (.type "BaseException")=true) (hh:A.handled=none)
  (k:wpAny (model prog w) A x (fun v s₁=>∃ (e:Addr) (dx:Option Addr) (vs:Array Value) (sl:Array (Option Value)),v=.ref e∧s₁.heap.get? C=some (excClassObj nm qn C N bs bm hdct sn sub ab col dd k0 k1 k2 k3 k5 nw)∧s₁.heap.get? e=some ⟨.ref C,dx,.fields vs,sl⟩∧vs[1]?=some .none∧E (.ref e) s₁) E s) :
  wpAny (model prog w) A (raiseStmt env (some x) none) Q E s:=by
 have cB:(Value.ref C :: bm).contains (.type "BaseException")=true:=by rw [List.contains_cons,hb,Bool.or_true]
 unfold raiseStmt
 refine wpAny_bind (wpAny_mono k (fun v s₁ ⟨e,dx,vs,sl,e1,hC,he,hv,hE⟩=>?_) fun _ _ x=>x)
 subst e1
 obtain ⟨hp,g,d,tk,os⟩:=s₁
 repeat (first | with_reducible refine wpAny_loadPart_at he ?_ | with_reducible refine wpAny_loadPart_at hC ?_ | (with_reducible refine wpAny_isSubtype_exc hC ?_; rw [cB]) | with_reducible refine wpAny_field he rfl hv ?_ | wp_step)
 exact wpAny_raiseNew_none hh hE
end
end L2

namespace L2
open PySem PySem.Spec PyProof.Rows
open Builtin Builtin.ObjectAttr
def exM (a C dx:Addr):HO:=.ext fun h=>∃ (vs:Array Value) (sl:Array (Option Value)),h.get? a=some ⟨.ref C,some dx,.fields vs,sl⟩∧vs[1]?=some .none∧vs[2]?=some .none
theorem zave {H:Hp}{a:Addr}{o:HO} (h:H a=some o):upd H a o=H:=by
 funext b; unfold upd; split
 ·rename_i e; rw [e,h]
 ·rfl
theorem zalx {h:Heap}{bmB bm:List Value} (T:OwnTail h bmB bm) (self:Value) (what:Str):refuseLoop self what bm=refuseLoop self what bmB:=by
 induction T with
 | base=>rfl
 | own _ _ _ _ ih=>rw [refuseLoop_ref,ih]
section
variable {X:Cx}{pins:List (Addr × Obj)}{σ:St}{H:Hp}{s:Shared}{ea C f:Addr}
theorem zand {P:Program}{w:World}{h:Heap} (ok:HOk P w H h) (e:H ea=some (exN ea C)):∃ t:Addr,h.get? ea=some { cls:=.ref C,data:=.fields #[.ref t,.none,.none,.none,.bool false,.none] }:=(ok ea _ e).1
theorem zap3 {A:Around}{E:Value→Shared→Prop}{u:Value}{Q:Value→Shared→Prop} (I:Inv X pins σ H s) (he:H ea=some (exN ea C)) (xb:XB X.K C) (q:∀ s',Inv X pins σ H s'→Q .none s') :
  wpAny (model X.prog X.w) A (call (.builtin "ValueError.__init__") [.ref ea,u]) Q E s:=by
 have F:=PySem.F.excBase_ValueError
 obtain ⟨t0,g1⟩:=zand I.hok he
 obtain ⟨bm,N,nm,qn,bs,hdct,sn,sub,ab,col,dd,k0,k1,k2,k3,k5,mN,hC,hN,T⟩:=xb.obj I.kIn
 obtain ⟨h,g,d,t,os⟩:=s
 refine wpAny_call (codeAny_call_builtin F.init.plain F.initEntry (wpAny_check_init_subT F T hC g1 rfl ?_))
 wp_walk
 let hq:=(h.push { cls:=.type "tuple",data:=.seq #[u] }).update ea (Obj.mapFields fun x=>x.setIfInBounds 0 (Value.ref h.objs.size))
 have gn:hq.get? ea=some { cls:=.ref C,data:=.fields #[.ref h.objs.size,.none,.none,.none,.bool false,.none] }:=Heap.get?_update_self _ (Heap.get?_push_of_some _ g1) rfl
 have I':=I.write (x:=ea) (e:=ea) (o:=exN ea C) (t':=t) (h':=hq) (by rw [he]; trivial) (.inl rfl) (fun b o n q=>(Heap.get?_update_other _ _ (Ne.symm n)).trans (Heap.get?_push_of_some _ q)) ⟨_,gn⟩ (zaq1 gn)
 rw [zave he] at I'
 exact q _ I'
theorem zasx {A:Around}{E:Value→Shared→Prop}{fl:Str}{y:V}{u:Value}{Q:Unit→Shared→Prop} (hex:X.ex=[]) (I:Inv X pins σ H s) (he:H ea=some (exN ea C)) (xi:XI X.K C f) (na:NoAttr X.K C fl) (ry:RelV y u)
  (q:∀ dx s',H dx=none→dx≠ea→Inv X pins σ (upd (upd H ea (exM ea C dx)) dx (.xd [(fl,y)])) s'→Q () s'):wpAny (model X.prog X.w) A (setAttr (.ref ea) fl u) Q E s:=by
 obtain ⟨t0,g1⟩:=zand I.hok he
 obtain ⟨bm,N,nm,qn,bs,hdct,sn,sub,ab,col,dd,k0,k1,k2,k3,k5,mN,hC,hN,T⟩:=xi.xb.obj I.kIn
 have hdt:hdct=true:=by
  obtain ⟨cd,hc,hd⟩:=PySem.W.any_some xi.hd
  unfold PySem.W.clsIn at hc
  split at hc
  case h_1 ho =>
   cases hc
   have z:=(I.kIn _ _ ho).symm.trans hC
   cases z
   exact hd
  case h_2=>cases hc
 subst hdt
 have J:PySem.W.InstAt s.heap ea _ C none:=⟨g1,rfl,rfl,trivial⟩
 have SF:=PySem.F.store_ValueError
 refine PySem.W.set_plain I.kIn J xi.sa ?_
 have hm:=PySem.W.looks_mroIn (M:=model X.prog X.w) I.kIn xi.mo
 refine codeAny_call_builtin SF.slot.plain SF.entry (@PySem.W.check_slot (model X.prog X.w) _ _ _ "object.__setattr__" "object" "__setattr__" (.ref ea) [.str fl s.toks,u] [] _ SF.kind SF.split (J.type.andThen hm) (SF.args (.ref ea) (.str fl s.toks) u) ?_)
 have L1:=PySem.W.looks_findIn (M:=model X.prog X.w) I.kIn na
 have hp:=SF.passes (.ref ea)
 unfold Builtin.«object.__setattr__»
 clear J
 obtain ⟨ox,eox⟩:∃ ox:Obj,ox={ cls:=.ref C,data:=.fields #[.ref t0,.none,.none,.none,.bool false,.none] }:=⟨_,rfl⟩
 rw [← eox] at g1
 have hc:ox.cls=.ref C:=by rw [eox]
 have hdn:ox.dict=none:=by rw [eox]
 obtain ⟨h,g,d,t,os⟩:=s
 repeat (first | rw [refuse_eq] | (rw [refuseLoop_ref,zalx T,hp]) | (with_reducible refine wpAny_loadPart_at g1 ?_; rw [hc]) | with_reducible refine wpAny_mroOf_exc hC ?_ | with_reducible refine L1.at ?_ | wp_step)
 have hdt:ox.data=.fields #[.ref t0,.none,.none,.none,.bool false,.none]:=by rw [eox]
 rw [hdn,hdt]
 dsimp only
 rw [if_neg (by simp [typeHasDict])]
 let h1:=h.push { cls:=.type "dict",data:=.dict #[] }
 let h2:=h1.update ea fun o=>{ cls:=o.cls,dict:=some h.objs.size,data:=o.data,slots:=o.slots }
 have nx:ea≠h.objs.size:=Nat.ne_of_lt (Heap.lt_size g1)
 have g2:h1.get? ea=some ox:=Heap.get?_push_of_some _ g1
 refine wpAny_bind (wpAny_alloc' (wpAny_bind (wpAny_update' g2 (wpAny_pure ?_))))
 have g3:h2.get? ea=some { cls:=.ref C,dict:=some h.objs.size,data:=.fields #[.ref t0,.none,.none,.none,.bool false,.none] }:=by
  rw [show h2.get? ea=_ from Heap.get?_update_self _ g2 (by rw [eox]; rfl),eox]
 have g4:h2.get? h.objs.size=some { cls:=.type "dict",data:=.dict #[] }:=(Heap.get?_update_other _ _ nx).trans (Heap.get?_push_at rfl rfl)
 have n2:h2.Ns h.objs.size (fun _=>none):=⟨_,#[],_,g4,rfl,fun e he=>absurd he (by simp),fun _=>rfl⟩
 show wpAny _ _ (storeInDict h.objs.size _ fl u) _ _ ⟨h2,g,d,t + 1,os⟩
 unfold storeInDict newKeyGuard
 refine wpAny_bind (wpAny_pure (wpAny_bind (wpAny_nsSet1 (Heap.Ns1.of_empty n2) fun h' n' sb=>?_)))
 obtain ⟨oD,esD,epD,hoD,hdD,hcD⟩:=n'.count (Within.cons fl u Within.nil)
 refine wpAny_bind (wpAny_lookBehind hoD (by rw [hdD]; exact pastItsLine_dict (Nat.le_trans hcD (by rw [List.length_cons,List.length_nil,sizeLine_eq]; omega))) ?_)
 wp_walk
 have I1:Inv X pins σ H ⟨h1,g,d,t,os⟩:=I.kept (t':=t) fun b o q=>Heap.get?_push_of_some _ q
 have I2:=I1.write (x:=ea) (e:=ea) (o:=exM ea C h.objs.size) (t':=t) (h':=h2) (by rw [he]; trivial) (.inl rfl) (fun b o n q=>(Heap.get?_update_other _ _ (Ne.symm n)).trans q) ⟨_,g3⟩ ⟨⟨_,_,g3,rfl,rfl⟩,⟨_,g3⟩,fun a1 a2 ⟨ws,sl,q1,q2⟩ k=>⟨ws,sl,k _ q1,q2⟩⟩
 have fr:H h.objs.size=none:=I.hok.fresh (Nat.le_refl _)
 have fr2:(upd H ea (exM ea C h.objs.size)) h.objs.size=none:=by rw [zaax (Ne.symm nx)]; exact fr
 obtain ⟨f0,f1,f2,f3,f4,f5⟩:=I.fpOk (H':=upd H ea (exM ea C h.objs.size)) (b:=h.objs.size) (Nat.le_refl _) fr2
 have I3:=I2.turned (it:=h.objs.size) (h':=h') (t':=t + 1 + 1) (fun b o hb e=>(sb.2 b hb).trans e) f0 f1 f3 f4 f5
 have I4:=I3.track (a:=h.objs.size) (o:=.xd [(fl,y)]) f0 (I.alien0 hex (Heap.get?_none_of_le (Nat.le_refl _))) f1 f4 f5 ⟨_,n',fun z=>by
  show RelO (List.lookup z [(fl,y)]) (if z=fl then some u else none)
  by_cases e:z=fl
  ·subst e; simp only [List.lookup,beq_self_eq_true,if_true]; exact ry
  ·have e':(z == fl)=false:=beq_eq_false_iff_ne.mpr e
   simp only [List.lookup,e',if_neg e]; trivial⟩
 exact q _ _ fr (Ne.symm nx) I4
end
end L2

namespace L2
open PySem PySem.Spec PyProof.Rows
structure ClsIni (K:PySem.W.Frag) (C:Addr):Prop where
 hg:PySem.W.specialIn K (.ref C) "__getattribute__" = some (some (.builtin "type.__getattribute__"))
 rd:PySem.W.readsIn K C (.type "type")=true
 fd:PySem.W.findCls K (.ref C) (.type "type") "__init__" = some (.val (.builtin "ValueError.__init__"))
def tBinit (K:PySem.W.Frag) (t:TA):TE:=fun σ H Q=>t σ H fun vs H1=>∃ ea C v,vs=[.ref ea,v]∧H1 ea=some (exN ea C)∧XB K C∧Q .non H1
def sFldX (K:PySem.W.Frag) (ta tv:TE) (fl:Str):TS:=fun D σ H=>tv σ H fun y H1=>ta σ H1 fun x H2=>∃ ea C f,x=.ref ea∧H2 ea=some (exN ea C)∧XI K C f∧NoAttr K C fl ∧
 ∀ dx,H2 dx=none→dx≠ea→D.nx σ (upd (upd H2 ea (exM ea C dx)) dx (.xd [(fl,y)]))
section
variable {X:Cx}{x:Str}{p pos apos pos':Pos}{e o value:Expr}{es:List Expr}{t:TA}{ta tv:TE}{fl:Str}
theorem zane {CB:Addr}{pl:Sem Bool} (hm:X.mg x=some (.ref CB)) (ci:ClsIni X.K CB) (hg:Gl X x) (ha:Pr (PA X (e :: es) t)) (hdb:(x == ("__debug__" : Str))=false:=by decide)
  (hst:starEach (e :: es) X.env=(false,eval e X.env) :: starEach es X.env:=by rfl) (hpl:(backTo pos (starEach es X.env)).any (·.1)=false:=by rfl)
  (ht:eval (.Call (.Attribute (.Name x p) "__init__" apos) (e :: es) [] pos) X.env=(do
   let ov ← eval (.Name x p) X.env
   standAt apos.atName
   let (f,first) ← holding [ov] (getMethod ov "__init__" pl)
   callWith pos f first (backTo pos (starEach (e :: es) X.env)) (backToKw pos (keywordEach [] X.env))):=by rfl) :
  Pr (PE X (.Call (.Attribute (.Name x p) "__init__" apos) (e :: es) [] pos) (tBinit X.K t)):=by
 refine ⟨?_⟩
 intro pins s σ H Q I h
 have hn:PE X (.Name x p) (fun σ H Q=>Q (.ref CB) H):=zal7 (v:=.ref CB) hg hm rfl hdb
 refine PySem.W.methodCall_KW (pl:=pl) (thn (hn pins s σ H (fun v H'=>v=.ref CB∧H'=H) I ⟨rfl,rfl⟩) fun u s1 ⟨v,H1,I1,rx,e1,e2⟩=>?_) ht
 subst e1
 subst e2
 obtain rfl:u=Value.ref CB:=rx
 refine PySem.W.method_cls I1.kIn ci.hg (PySem.W.cls_value I1.kIn ci.rd ci.fd rfl ?_)
 refine PyProof.Rows.callWith_builtin1 (thn (ha.h pos pins _ σ H1 _ (I1.tok _) h) fun us s2 ⟨vs,H2,I2,r,ea,C,v,e2,he,xb,q2⟩=>?_) hst hpl
 subst e2
 obtain ⟨u1,u2,rfl,r1,r2⟩:=vals2 r
 obtain rfl:u1=Value.ref ea:=r1
 exact zap3 I2 he xb fun s' I'=>⟨.non,H2,I',rfl,q2⟩
theorem zap4 (hex:X.ex=[]) (ha:Pr (PE X o ta)) (hv:Pr (PE X value tv)) (hs:swapsWith value (some (.Attribute o fl pos')) pos.line X.env=pure false:=by rfl):Pr (PS X (.Assign [.Attribute o fl pos'] value pos) (sFldX X.K ta tv fl)):=by
 refine ⟨?_⟩
 intro pins s σ H D I h
 refine plainObj_wpAny_Assign_Attribute (thn (hv.h pins s σ H _ I h) fun u s1 ⟨y,H1,I1,ry,q⟩=>thn (ha.h pins s1 σ H1 _ I1 q) fun ov s2 ⟨x,H2,I2,rx,ea,C,f,ex,he,xi,na,q2⟩=>?_) hs
 subst ex
 obtain rfl:ov=Value.ref ea:=rx
 exact zasx hex I2 he xi na ry fun dx s' n1 n2 I'=>⟨σ,_,I',q2 dx n1 n2⟩
end
def rmv (H:Hp) (a:Addr):Hp:=fun b=>if b=a then none else H b
theorem zagd {H:Hp}{a b:Addr} (h:b≠a):rmv H a b=H b:=by unfold rmv; rw [if_neg h]
section
variable {X:Cx}{pins:List (Addr × Obj)}{σ:St}{H:Hp}{s:Shared}
theorem Inv.untrack {a:Addr}{φ:Heap→Prop} (I:Inv X pins σ H s) (ha:H a=some (.ext φ)) (n0:X.s₀.heap.get? a=none):Inv X pins σ (rmv H a) s:=by
 have nt:∀ b xs,H b=some (.tup xs)→b≠a:=fun b xs e z=>by rw [z,ha] at e; cases e
 have no:∀ b y,H b=some (.own y)→b≠a:=fun b xs e z=>by rw [z,ha] at e; cases e
 refine ⟨I.ok,I.os,I.bare,⟨I.base.keep,I.base.slot,fun b o' e n hx=>?_,I.base.there,fun b xs e=>?_,fun b o' u e=>?_,fun b ps e=>?_⟩,I.loc,I.cell,?_,fun x c e=>?_,fun p hp=>?_,fun b u e=>?_,I.len⟩
 ·unfold rmv; split
  ·rfl
  ·exact I.base.free b o' e n hx
 ·have q:=I.base.tups b xs e
  rw [zagd (nt b xs q)]; exact q
 ·have q:=I.base.frzs b o' u e
  rw [zagd (fun z=>by rw [z,ha] at q; cases q)]; exact q
 ·obtain ⟨more,q⟩:=I.base.tbls b ps e
  exact ⟨more,by rw [zagd (fun z=>by rw [z,ha] at q; cases q)]; exact q⟩
 ·unfold rmv; split
  ·rfl
  ·exact I.free
 ·unfold rmv; split
  ·rfl
  ·exact I.freeC x c e
 ·obtain ⟨q1,q2,q3⟩:=I.pin p hp
  refine ⟨q1,?_,q3⟩
  unfold rmv; split
  ·rfl
  ·exact q2
 ·have hb:b≠a:=fun z=>by rw [z] at e; unfold rmv at e; rw [if_pos rfl] at e; cases e
  rw [zagd hb] at e
  exact (I.hok b u e).stay (fun _ _ _ q=>q) (fun c q=>by rw [zagd (no c _ q)]; exact q) fun c xs q=>by rw [zagd (nt c _ q)]; exact q
end
section
variable {P:Program}{w:World}{K:PySem.W.Frag}{mg:Str→Option Value}{base:Heap}{N:List Str}{qual:Str}{scope:Scope}{f:Addr}{cd:Value}{A:Around}{outer:List Env}{s₀:Shared}{H₀:Hp}{E:XK}
theorem zaw5 {pins:List (Addr × Obj)}{σ:St}{H:Hp}{s:Shared}{e C:Addr}{dx:Option Addr}{vs:Array Value}{sl:Array (Option Value)} (I:Inv (cxE P w K mg base N qual scope f cd A outer s₀ H₀ E) pins σ H s) (ge:s.heap.get? e=some ⟨.ref C,dx,.fields vs,sl⟩) (v1:vs[1]?=some .none) (v2:vs[2]?=some .none)
  (n0:s₀.heap.get? e=none) (nH:H e=none) (q:E (.ref C) dx H):(cxE P w K mg base N qual scope f cd A outer s₀ H₀ E).xe (.ref e) s:=by
 show wpAny (model P w) _ (leaving _ (.ref e)) _ _ _
 unfold leaving
 refine wpAny_bind (zapx I.ok.frames I.stack rfl ge ⟨rfl,rfl⟩ rfl v1 v2 fun h2 T kb fl nT=>zahq fl fun h3 kb3 fl3=>?_)
 have k3:KB [e,T] (frs (envOfC qual scope s₀.heap.objs.size f cd :: outer)) s.heap h3:=kb.trans kb3.fs
 have m0:∀ b∈[e,T],s₀.heap.get? b=none:=fun b hb=>by
  simp only [List.mem_cons,List.not_mem_nil,or_false] at hb
  rcases hb with rfl | rfl
  ·exact n0
  ·exact I.alien0 rfl nT
 have mH:∀ b∈[e,T],H b=none:=fun b hb=>by
  simp only [List.mem_cons,List.not_mem_nil,or_false] at hb
  rcases hb with rfl | rfl
  ·exact nH
  ·exact I.hok.alien nT
 exact ⟨e,C,T,dx,H,rfl,I.os,I.bare,I.base.fly k3 m0 (zaq0 I),I.hok.fly k3 mH I.stkFree,fl3,n0,m0 T (by simp),nH,mH T (by simp),q⟩
end
def spXI (C:Addr) (fl:Str):Sp:=fun vs H Q _=>∃ ea v,vs=[.ref ea,v]∧H ea=some (exN ea C)∧∀ dx,H dx=none→dx≠ea→Q .non (upd (upd H ea (exM ea C dx)) dx (.xd [(fl,v)]))
structure RaiseOk (P:Program) (w:World) (K:PySem.W.Frag) (mg:Str→Option Value) (base:Heap) (k:Nat) (x:Str) (C:Addr) (fl:Str):Prop where
 ex:∃ (f:Addr) (fd:FuncData) (ps:List Str),FnOk P w K mg base CX0 k f fd ps (spXI C fl)∧Binds K fd ps []∧XI K C f∧mg x=some (.ref C)
theorem RaiseOk.mono {P:Program}{w:World}{K:PySem.W.Frag}{mg:Str→Option Value}{base:Heap}{j k:Nat}{x:Str}{C:Addr}{fl:Str} (D:RaiseOk P w K mg base j x C fl) (h:j≤k):RaiseOk P w K mg base k x C fl:=by
 obtain ⟨f,fd,ps,F,b⟩:=D.ex
 exact ⟨f,fd,ps,F.mono h,b⟩
def tRaiseI (C:Addr) (fl:Str) (E:XK) (t:TA):TS:=fun _ σ H=>t σ H fun vs H1=>∃ v,vs=[v]∧∀ dx,H1 dx=none→E (.ref C) (some dx) (upd H1 dx (.xd [(fl,v)]))
section
variable {P:Program}{w:World}{K:PySem.W.Frag}{mg:Str→Option Value}{base:Heap}{N:List Str}{qual:Str}{scope:Scope}{f:Addr}{cd:Value}{A:Around}{outer:List Env}{s₀:Shared}{H₀:Hp}{E:XK}
theorem zach {x fl:Str}{C:Addr}{k:Nat}{np cpos pos:Pos}{e₀:Expr}{ta:TA} (D:RaiseOk P w K mg base k x C fl) (hr:Room (k + 1) (cxE P w K mg base N qual scope f cd A outer s₀ H₀ E).A) (hg:Gl (cxE P w K mg base N qual scope f cd A outer s₀ H₀ E) x)
  (ha:Pr (PA (cxE P w K mg base N qual scope f cd A outer s₀ H₀ E) [e₀] ta)) (hdb:(x == ("__debug__" : Str))=false:=by decide)
  (he:starEach [e₀] (cxE P w K mg base N qual scope f cd A outer s₀ H₀ E).env=[(false,eval e₀ (cxE P w K mg base N qual scope f cd A outer s₀ H₀ E).env)]:=by rfl) :
  Pr (PS (cxE P w K mg base N qual scope f cd A outer s₀ H₀ E) (.Raise (some (.Call (.Name x np) [e₀] [] cpos)) none pos) (tRaiseI C fl E ta)):=by
 refine ⟨?_⟩
 intro pins s σ H D' I h
 obtain ⟨fi,fd,ps,Fi,hb,xi,hm⟩:=D.ex
 have F:=PySem.F.excBase_ValueError
 obtain ⟨bm,Nc,nm,qn,bs,hdct,sn,sub,ab,col,dd,k0,k1,k2,k3,k5,mN,hC,hN,T⟩:=xi.xb.obj I.mod.kin
 rw [arm_exec_Raise]
 refine wpAny_bind (wpAny_standAt (zalw (C:=C) (nm:=nm) (qn:=qn) (N:=Nc) (bs:=bs) (bm:=bm) (hdct:=hdct) (sn:=sn) (sub:=sub) (ab:=ab) (col:=col) (dd:=dd) (k0:=k0) (k1:=k1) (k2:=k2) (k3:=k3) (k5:=k5) (nw := "ValueError.__new__") (T.hasType F.hasBase) (I.ok.hd rfl) ?_))
 refine wpAny_bind (wpAny_mono (wpAny_Call_ofName (zaef I hg hm ?_ hdb)) (fun v s₃ h₃=>wpAny_bind (wpAny_standAt (wpAny_pure h₃))) fun _ _ x=>x)
 refine PySem.W.callWith_K (h₀:=base) I.mod.kin xi.kp (thn (ha.h cpos pins s σ H _ I h) fun us s1 ⟨vs,H1,I1,r,v,e1,q1⟩=>⟨I1.kIn,?_⟩) he rfl
 subst e1
 obtain ⟨u,rfl,ru⟩:=vals1 r
 obtain ⟨hp,g,d,tk,os⟩:=s1
 refine zanc F (T.keeps I1.bk) I1.kIn (I1.bk _ _ hC) xi.ini xi.fn (fun h' e m=>?_) (by show 1≤sizeLine; rw [sizeLine_eq]; decide)
 have I2:Inv (cxE P w K mg base N qual scope f cd A outer s₀ H₀ E) pins σ H1 ⟨h',g,d,tk,os⟩:=I1.kept (t':=tk) m.keeps
 have n1:H1 e=none:=I1.hok.alien m.new
 have n0:s₀.heap.get? e=none:=I1.alien0 rfl m.new
 obtain ⟨a1,a2,a3⟩:=I1.alien m.new
 obtain ⟨t,ge,_,_⟩:=m.there
 have I3:=I2.track (a:=e) (o:=exN e C) n1 n0 a1 a2 a3 (zaq1 ge)
 have hq:spXI C fl [.ref e,v] (upd H1 e (exN e C)) (fun y H2=>y=.non∧∃ dx,H1 dx=none∧dx≠e∧H2=upd (upd (upd H1 e (exN e C)) e (exM e C dx)) dx (.xd [(fl,v)])) E0 :=
  ⟨e,v,rfl,zaai,fun dx n ne=>⟨rfl,dx,by rwa [zaax ne] at n,ne,rfl⟩⟩
 have r2:Vals [V.ref e,v] [Value.ref e,u]:=.cons rfl (.cons ru .nil)
 have hl:([Value.ref e,u]++[]).length=ps.length:=Fi.len _ _ _ _ hq
 have bt:=hb _ [Value.ref e,u] I3.kIn hl
 rw [List.append_nil] at bt
 refine wpAny_call (codeAny_mono (Fi.run _ (cxE P w K mg base N qual scope f cd A outer s₀ H₀ E).stack _ _ ⟨[Value.ref e,u],[]⟩ [Value.ref e,u] _ _ _ (hr.make C [u] []) (I3.env0.make C [u] []) bt r2 hq) fun r s' hq'=>?_)
 cases r with
 | error z=>exact False.elim hq'
 | ok z =>
  cases z with
  | ret u' =>
   obtain ⟨y,H',I4,ry,ey,dx,nd,ne,eH⟩:=I3.after hq'
   subst ey
   obtain rfl:u'=Value.none:=ry
   have hE:H' e=some (exM e C dx):=by rw [eH,zaax (Ne.symm ne),zaai]
   obtain ⟨vs',sl,ge',v1,v2⟩:=(I4.hok e _ hE).1
   have I5:=I4.untrack hE n0
   have e5:rmv H' e=upd H1 dx (.xd [(fl,v)]):=by
    funext b
    by_cases hb:b=e
    ·subst hb
     unfold rmv
     rw [if_pos rfl,zaax (Ne.symm ne),n1]
    ·rw [zagd hb,eH]
     by_cases hd:b=dx
     ·subst hd; rw [zaai,zaai]
     ·rw [zaax hd,zaax hd,zaax hb,zaax hb]
   rw [e5] at I5
   exact ⟨rfl,⟨e,some dx,vs',sl,rfl,I4.bk _ _ hC,ge',v1,zaw5 I5 ge' v1 v2 n0 (by rw [zaax (Ne.symm ne)]; exact n1) (q1 dx nd)⟩⟩
  | next=>exact False.elim hq'
  | brk=>exact False.elim hq'
  | cont=>exact False.elim hq'
end
end L2

namespace L2
open PySem PySem.Spec PyProof.Rows PySem.W
section
variable {prog:Program}{w:World}{A:Around}{E:Value→Shared→Prop}{s:Shared}{K:Frag}{x C:Addr}{ox:Obj}{od:Option Obj}{fl:Str}
theorem zanf {v:Value}{Q:Value→Shared→Prop} (X:K.In s.heap) (xa:XA K C) (I:InstAt s.heap x ox C od) (hf:findObj K C od fl=some (.value v)) (hv:handedIn v=true) (h:Q v { s with toks:=s.toks + 1 }):wpAny (model prog w) A (getAttr (.ref x) fl true) Q E s:=by
 obtain ⟨bm,N,nm,qn,bs,hdct,sn,sub,ab,col,dd,k0,k1,k2,k3,k5,mN,hC,hN,T⟩:=xa.xc.obj X
 obtain ⟨hh,g,d,t,os⟩:=s
 have L0:=I.type (M:=model prog w)
 have L1:=looks_findIn (M:=model prog w) X xa.ga
 have L2:=looks_findIn (M:=model prog w) X xa.gt
 have L3:=looks_find (M:=model prog w) X I hf
 have f3:=PySem.F.attr_ValueError.ga.bind (.ref x)
 unfold getAttr getAttrBy
 refine wpAny_bind (wpAny_mkText (wpAny_holding (wpAny_bind (L0.at (wpAny_bind (L1.at ?_))))))
 dsimp only
 have b0:(Value.builtin "BaseException.__getattribute__" == Value.builtin "object.__getattribute__")=false:=by decide +kernel
 rw [if_neg (by rw [b0,Bool.and_false]; exact Bool.false_ne_true)]
 unfold getAttrByItsOwn hookBefore
 rw [if_pos (show onTheHeap (Value.ref C)=true from rfl)]
 refine wpAny_bind (L2.at (wpAny_bind (wpAny_attempt (wpAny_holding ?_))))
 unfold callGetattribute
 rw [if_neg (by decide +kernel)]
 unfold boundAndCalled
 refine wpAny_bind (wpAny_of_eq f3 ?_)
 refine wpAny_call (codeAny_call_builtin PySem.F.attr_ValueError.ga.plain PySem.F.entry_bexc_ga ?_)
 have y1:builtinKind "BaseException.__getattribute__" = some .slot:=by decide +kernel
 have y2:splitId "BaseException.__getattribute__" = some ("BaseException", "__getattribute__"):=by decide +kernel
 have y3:(Value.ref C :: bm).contains (.type "BaseException")=true:=by rw [List.contains_cons,T.hasType PySem.F.excBase_ValueError.hasBase,Bool.or_true]
 have y4:=PySem.F.args_bexc_ga (.ref x) (.str fl t)
 have gx:=I.at_
 have gc:=I.cls
 simp only [checkBuiltinCall,y1,y2]
 refine wpAny_bind ?_
 unfold isInstance
 repeat (first
  | with_reducible refine wpAny_bind (L3.at ?_)
  | with_reducible refine L3.at ?_
  | (with_reducible refine wpAny_loadPart_at gx ?_; rw [gc])
  | (with_reducible refine wpAny_isSubtype_exc hC ?_; rw [y3])
  | wp_step)
 exact handed_on hv h
end
def tFldX (K:PySem.W.Frag) (ta:TE) (f:Str):TE:=fun σ H Q=>ta σ H fun x H1=>∃ ea C dx fs v,x=.ref ea∧H1 ea=some (exO ea C (some dx))∧H1 dx=some (.xd fs)∧XA K C∧hasDictIn K C=true∧NoAttr K C f∧fs.lookup f=some v∧Q v H1
theorem zahu {X:Cx}{e:Expr}{f:Str}{pos:Pos}{ta:TE} (he:Pr (PE X e ta)) (hb:attributeBase e f X.env (eval e X.env)=eval e X.env:=by rfl):Pr (PE X (.Attribute e f pos) (tFldX X.K ta f)):=by
 refine ⟨?_⟩
 intro pins s σ H Q I h
 refine zamg hb (thn (he.h pins s σ H _ I h) fun u s1 ⟨x,H1,I1,rx,ea,C,dx,fs,v,ex,ea1,hd,xa,hh,na,l,q⟩=>?_)
 subst ex
 obtain rfl:u=Value.ref ea:=rx
 obtain ⟨o,vs,g1,⟨g2,g3⟩,g4,_⟩:=zam8 I1.hok ea1
 obtain ⟨mA,ns,rel⟩:=(I1.hok dx _ hd:ObjOk X.prog X.w H1 s1.heap dx (.xd fs))
 obtain ⟨od,go,hl⟩:=zaio ns
 have J:InstAt s1.heap ea o C (some od):=⟨g1,g2,by unfold notCls; rw [g4],by rw [g3]; exact go⟩
 have r1:=rel f
 rw [l] at r1
 cases hv:mA f with
 | none=>rw [hv] at r1; exact r1.elim
 | some u' =>
  rw [hv] at r1
  exact zanf I1.kIn xa J (findObj_own hh na rfl (by rw [hl,hv])) (zaip r1) ⟨v,H1,I1.tok _,r1,q⟩
end L2

set_option maxHeartbeats 4000000
namespace B17
open PySem L2
abbrev Vs (sc:Scope) (x:Str):Prop:=sc.names.lookup x=some NameKind.local∨sc.names.lookup x=some NameKind.cell∨sc.names.lookup x=some NameKind.free
abbrev Lc (sc:Scope) (x:Str):Prop:=sc.names.lookup x=some NameKind.local∨sc.names.lookup x=some NameKind.cell
abbrev Gi (sc:Scope) (x:Str):Prop:=sc.names.lookup x=some NameKind.globalImplicit
abbrev Nd (x:Str):Prop:=(x == ("__debug__" : Str))=false
abbrev Nc (x:Str):Prop:=(x == ("__classdict__" : Str))=false
local macro_rules | `(tactic| walk_at "few")=>`(tactic| (with_reducible show (List.length (α:=Str × V) _) < 1000); first | exact (by decide:0 < 1000) | exact (by decide:1 < 1000) | exact (by decide:2 < 1000) | exact (by decide:3 < 1000) | exact (by decide:4 < 1000) | exact (by decide:5 < 1000) | exact (by decide:6 < 1000))
local macro_rules | `(tactic| walk_at "get")=>`(tactic| first
 | with_reducible assumption
 | exact zaai
 | (apply zaep; (focus with_reducible assumption); (focus walk_at "get"))
 | (apply zafi; (focus walk_at "ne"); (focus walk_at "get"))
 | (apply Ch.get; (focus with_reducible assumption); (focus walk_at "get"); (focus walk_at "notin")))
local macro_rules | `(tactic| walk_at "ne")=>`(tactic| first | with_reducible assumption | (apply Ne.symm; with_reducible assumption) | (apply zae4; (focus with_reducible assumption); (focus with_reducible assumption); (focus (intro z; cases z))))
local macro_rules | `(tactic| walk_at "notin")=>`(tactic| first | exact List.not_mem_nil | (simp only [List.mem_cons,List.not_mem_nil,or_false,not_or,not_false_eq_true]; first | walk_at "ne" | trivial))
local macro_rules | `(tactic| walk_at "scr")=>`(tactic| first
 | with_reducible assumption
 | (apply Scr.ch; (focus with_reducible assumption); (focus with_reducible assumption); (focus walk_at "ch"))
 | (apply Scr.same; (focus with_reducible assumption); (focus walk_at "ch")))
local macro_rules | `(tactic| walk_at "ch")=>`(tactic| first
 | with_reducible assumption
 | exact Ch.refl _ _
 | exact Ch.put
 | (apply Ch.new; with_reducible assumption)
 | (apply Ch.wk; with_reducible assumption)
 | (apply Ch.own; (focus with_reducible assumption); (focus walk_at "ch"))
 | (apply Ch.trans; (rotate_left; focus with_reducible assumption); (focus walk_at "ch"))
 | (apply Ch.trans; (rotate_left; focus (apply Ch.wk; with_reducible assumption)); (focus walk_at "ch"))
 | (apply Ch.trans; (rotate_left; focus exact Ch.put); (focus walk_at "ch"))
 | (apply Ch.trans; (rotate_left; focus (apply Ch.new; with_reducible assumption)); (focus walk_at "ch")))
local macro_rules | `(tactic| walk_at "sq")=>`(tactic| first
 | (apply Scr.sq; walk_at "scr")
 | (apply Exists.intro; walk_at "sq")
 | (refine (‹∀ H:Hp,SqT _ H _ _›) _)
 | (apply SqL.of; walk_at "get")
 | (apply SqT.of; walk_at "get")
 | (apply Or.inl; apply Scr.sq; walk_at "scr")
 | (apply Or.inl; apply SqL.of; walk_at "get")
 | (apply Or.inr; apply SqT.of; walk_at "get"))
local macro_rules | `(tactic| walk_at "arith")=>`(tactic| first
 | omega
 | (simp only [List.length_map,List.length_cons,List.length_nil,List.length_append,List.length_singleton,List.length_replicate]; done)
 | ((try dsimp only); (try simp only [List.length_map,List.length_cons,List.length_nil,List.length_append,List.length_singleton,List.length_replicate,sizeLine_eq]); omega)
 | ((try dsimp only); (try simp only [List.length_map,List.length_cons,List.length_nil,List.length_append,List.length_singleton,List.length_replicate,sizeLine_eq] at *); omega))
local macro_rules | `(tactic| walk_at "cond")=>`(tactic| first
 | (refine Or.inl (And.intro ?_ ?_) <;> walk_at "arith")
 | (refine Or.inr (And.intro ?_ ?_) <;> walk_at "arith")
 | (refine And.intro ?_ (And.intro ?_ ?_) <;> walk_at "arith")
 | (refine And.intro ?_ ?_ <;> walk_at "arith"))
local macro_rules | `(tactic| walk_at "len")=>`(tactic| first
 | with_reducible assumption
 | exact zash
 | (apply zamv; walk_at "len")
 | (apply zasg; (focus walk_at "len"); (focus walk_at "len"))
 | exact Nat.le_refl _)
local macro_rules | `(tactic| walk_at "lens")=>`(tactic| first
 | (apply zasi; (focus walk_at "len"); (focus walk_at "len"); (focus first | decide +kernel | walk_at "arith"))
 | (apply zasj; (focus walk_at "len"); (focus first | decide +kernel | walk_at "arith")))
local macro_rules | `(tactic| walk_at "side")=>`(tactic| first
 | with_reducible rfl | with_reducible assumption | walk_at "sq" | walk_at "get" | walk_at "scr" | walk_at "ch" | walk_at "ty" | exact TyOf.int _ | exact TyOf.str _ | (apply TyOf.tup; walk_at "get") | (apply TyOf.lst; walk_at "get") | exact TyOf.bl _ | exact TyOf.non | walk_at "few" | decide | omega | walk_at "arith" | walk_at "cond" | ((try simp only [List.length_map]); with_reducible assumption) | walk_at "lens" | (apply Or.inr; with_reducible assumption) | walk_at "user" | exact rfl | assumption)
local macro_rules | `(tactic| walk_at "ty")=>`(tactic| (refine Or.inl (And.intro rfl ?_); apply Exists.intro; walk_at "sq"))
local macro_rules | `(tactic| walk_at "user")=>`(tactic| fail)
local macro_rules | `(tactic| walk_at "rd1")=>`(tactic| first
 | apply Exists.intro
 | (refine And.intro rfl ?_)
 | (refine And.intro (show V.str _=L2.kV (Sum.inr _) from rfl) ?_)
 | (refine And.intro (show V.int _=L2.kV (Sum.inl _) from rfl) ?_)
 | (refine And.intro (L2.zapr _ _) ?_)
 | (apply And.intro; (focus (walk_at "side"; done)))
 | apply Atx.head
 | (apply Atx.of; (focus first | exact rfl | with_reducible assumption | ((try simp only [List.length_map]); with_reducible assumption)))
 | (apply Or.inl; apply Exists.intro; (refine And.intro rfl ?_))
 | (apply Or.inr; apply Exists.intro; (refine And.intro rfl ?_))
 | (apply Or.inl; apply And.intro; (focus walk_at "sq"))
 | (apply Or.inr; apply And.intro; (focus walk_at "sq"))
 | (intro _)
 | walk_at "fin")
local macro_rules | `(tactic| walk_at "fin")=>`(tactic| first | exact rfl | (walk_at "get"; done))
local macro_rules | `(tactic| walk_at "rd")=>`(tactic| repeat walk_at "rd1")
section
def top (i:Nat):Stmt:=PySem.Challenge.pw_bitfloor_k05_rows_refused.main.body.getD i (.Pass ⟨0,0,0,0⟩)
structure Lt (x:Str):Prop where
 al:∀ c∈x.cps.toList,97≤c∧c≤122
theorem Lt.app {x y:Str} (hx:Lt x) (hy:Lt y):Lt (x++y):=.mk fun c h=>by
 have e:(x++y).cps.toList=x.cps.toList++y.cps.toList:=by show (x.cps++y.cps).toList=_; simp
 rw [e] at h
 exact (List.mem_append.mp h).elim (hx.al c) (hy.al c)
theorem Lt.slice {x:Str} (hx:Lt x) (lo hi:Option Int):Lt (Txt.slice x lo hi):=.mk fun c h=>by
 rw [zaer] at h
 exact hx.al c (List.mem_of_mem_drop (List.mem_of_mem_take h))
theorem Lt.one {c:Nat} (h:97≤c∧c≤122):Lt ⟨#[c]⟩:=.mk fun d hd=>by
 have e:d=c:=by simpa using hd
 rw [e]; exact h
theorem Lt.rep {z:Str}{c n:Nat} (e:z.cps.toList=List.replicate n c) (h:97≤c∧c≤122):Lt z:=.mk fun d hd=>by
 rw [e] at hd
 rw [(List.mem_replicate.mp hd).2]; exact h
theorem zabm (x y:Str):(x++y).length=x.length + y.length:=by show (x.cps++y.cps).size=_; simp [Str.length]
theorem zavf {z:Str}{l:List Nat} (e:z.cps.toList=l):z.length=l.length:=by rw [← e]; exact (Strl z).symm
theorem zac6 (x:Str) (lo hi:Option Int):(Txt.slice x lo hi).length=min (HT.sIx x.length x.length hi - HT.sIx x.length 0 lo) (x.length - HT.sIx x.length 0 lo):=by
 rw [← Strl,zaer,List.length_take,List.length_drop,Strl]
theorem zadq {n d:Nat}{v:Int} (h:0≤v):HT.sIx n d (some v)=min v.toNat n:=by
 show (if v < 0 then _ else _)=_
 rw [if_neg (by omega)]
theorem zad3:∀ c∈(Str.ofString "abcdefghijklmnopqrstuvwxyz").cps.toList,97≤c∧c≤122:=by decide +kernel
theorem zajz:(Str.ofString "abcdefghijklmnopqrstuvwxyz").cps.toList.length=26:=by decide +kernel
theorem zai5:(Str.ofString "abcdefghijklmnopqrstuvwxyz").length=26:=by decide +kernel
abbrev WORDS:List Str:=Txt.split "module in keep let use next out end not and or xor plus less same pick part join" " "
theorem zai6:∀ x∈WORDS,(∀ c∈x.cps.toList,97≤c∧c≤122)∧2≤x.length∧x.length≤6:=by decide +kernel
theorem zap5:∀ x∈WORDS,Lt x∧2≤x.length∧x.length≤6:=fun x h=>⟨⟨(zai6 x h).1⟩,(zai6 x h).2⟩
theorem zai7:WORDS.length=18:=by decide +kernel
theorem zai8 (l:List Str):(l.map V.str).all flatV=true:=by
 induction l with
 | nil=>rfl
 | cons x l ih=>rw [List.map_cons,List.all_cons,ih]; rfl
structure Nm0 (x:Str):Prop where
 l1:1≤x.length
 l8:x.length≤8
 lt:Lt x
structure Nm (x:Str):Prop extends Nm0 x where
 nw:x ∉ WORDS
theorem zasy:∀ x∈WORDS,x.cps.toList.head?≠some 113:=by decide +kernel
theorem zage (x:Str):∀ l:List Str,inV (.str x) (l.map V.str)=decide (x∈l)
 | []=>rfl
 | y :: l=>by
  have ih:=zage x l
  unfold inV at ih ⊢
  rw [List.map_cons,List.any_cons,ih]
  have e:eqV (.str y) (.str x)=decide (x=y):=by
   show (y == x)=_
   by_cases h:x=y
   ·subst h; simp
   ·rw [decide_eq_false h]; simpa using fun z=>h z.symm
  rw [e]
  by_cases h1:x=y <;> by_cases h2:x∈l <;> simp [h1,h2]
def spNext (K:PySem.W.Frag):Sp:=fun vs H Q _=>∃ (a b:Addr) (ns:List Int) (c:Int),vs=[.ref a,.ref b]∧Scr K H a ns∧H b=some (.lst [.int c])∧0≤c∧c < 2 ^ 60 ∧
 ∀ (n:Int) (H':Hp),0≤n→n < 2147483629→Ch [b] H H'→H' b=some (.lst [.int (c + 1)])→Q (.int n) H'
def spWords:Sp:=fun vs H Q _=>vs=[]∧∀ (p:Addr) (H':Hp) (ws:List Str),(∀ x∈ws,Lt x∧2≤x.length∧x.length≤6)→ws.length=18→(∀ x∈WORDS,x∈ws)→Ch [] H H'→H' p=some (.lst (ws.map V.str))→H p=none→Q (.ref p) H'
section
variable {P:Program}{w:World}{K:PySem.W.Frag}{mg:Str→Option Value}{base:Heap}{f:Addr}{fd:FuncData}{k:Nat}
theorem zab3:("len" : Str) ≠ "__name__" := by decide +kernel
theorem zab4:Nd "len" := by decide +kernel
theorem zabj:Nd "_law_next" := by decide +kernel
theorem av33:AF (defScope (top 33)) ["_law_script", "_law_at", "_law_cell", "_law_figures", "_law_k", "_law_m"]:=⟨by decide +kernel⟩
theorem gl33:AG (defScope (top 33)) ["len", "range"]:=⟨by decide +kernel⟩
theorem scNext:FnScope ["_law_script", "_law_at", "_law_cell", "_law_figures", "_law_k", "_law_m"] ["_law_script", "_law_at"] (defScope (top 33)):=⟨rfl,rfl,rfl,by decide +kernel,rfl,by decide +kernel,by decide +kernel⟩
theorem zasz (F:Fun K "_law_next" "_law_next" (top 33) f fd) (z_len:mg "len" = none) (z_range:mg "range" = none) :
  FnOk P w K mg base CX0 (k + 1) f fd ["_law_script", "_law_at"] (spNext K):=by
 have nd:=scNext.nd
 refine F.ok scNext (fun vs H Q E h=>?_) (fun cdv A outer s H vs Q E hr h=>?_)
 ·obtain ⟨a,b,ns,c,rfl,_⟩:=h
  rfl
 obtain ⟨a,b,ns,c,rfl,hS,hb,h0,h1,q⟩:=h
 refine ⟨_,(Pr.h (zaad (zaso (zaaj zacc (zaar zaav (qv av33 1 rfl) zaae (fun _ _=>rfl)) zaae) (zasn (qv av33 1 rfl) zaae zapk)) (zaad (zaan (i:=2) nd rfl (av33.l 2 rfl) zaae) (zab0 (zaat (zaam zapa (zaas zaa2 (gl33.g 0 rfl) z_len PySem.boot_len (zaaa (qv av33 0 rfl) zaac zaag) zab3 zab4) zaae (nomark _)) (zaah (zaan (i:=2) nd rfl (av33.l 2 rfl) (zaar zaav (qv av33 0 rfl) (zaaj zaa0 (zaar zaav (qv av33 1 rfl) zaae (fun _ _=>rfl)) (zaas zaa2 (gl33.g 0 rfl) z_len PySem.boot_len (zaaa (qv av33 0 rfl) zaac zaag) zab3 zab4)) (fun _ _=>rfl)))) zaap) (zab0 (zaat (zacx (zadc (zaam zapa (zaas zaa2 (gl33.g 0 rfl) z_len PySem.boot_len (zaaa (qv av33 0 rfl) zaac zaag) zab3 zab4) zaae (nomark _)) (zadd (zaam zabp (zaaj zaa0 (zaar zaav (qv av33 0 rfl) zaae (fun _ _=>rfl)) zaae) zaae (nomark _))))) (zaad (zaan (i:=3) nd rfl (av33.l 3 rfl) (qv av33 2 rfl)) (zaad (zab7 PassesOwn.never rfl (zacp (gl33.g 1 rfl) z_range (zaaa (zaaj zaa0 (zaaj zaa3 (zaar zaav (qv av33 1 rfl) zaae (fun _ _=>rfl)) (zaas zaa2 (gl33.g 0 rfl) z_len PySem.boot_len (zaaa (qv av33 0 rfl) zaac zaag) zab3 zab4)) zaae) zaac zabx)) (zabc (i:=4) nd rfl (av33.l 4 rfl)) (zaah (zaan (i:=3) nd rfl (av33.l 3 rfl) (zaaj zaa3 (qv av33 3 rfl) zaae)))) (zaah (zaat (zacx (zaeu (zaam zaiv (qv av33 3 rfl) (zabl (zaaa zaae (zaaa (zakt zakn zaae) zaac zals) zaab)) rfl) (zaeg (zaam zao9 (zaar zaav (qv av33 1 rfl) zaae (fun _ _=>rfl)) (zaas zaa2 (gl33.g 0 rfl) z_len PySem.boot_len (zaaa (qv av33 0 rfl) zaac zaag) zab3 zab4) (nomark _))))) (zaah (zaao (zaaj zaa0 (qv av33 3 rfl) zaae))) zaap)))) zaap) (zaad (zaan (i:=5) nd rfl (av33.l 5 rfl) (zaaj zaa0 (zaaj zaf0 (zaaj zacc (zaaj zacc (zaaj zaa0 (qv av33 2 rfl) zaae) (zaaj zaf0 (zaaj zaf0 (zaar zaav (qv av33 1 rfl) zaae (fun _ _=>rfl)) (zaar zaav (qv av33 1 rfl) zaae (fun _ _=>rfl))) zaae)) zaae) zaae) zaae)) (zaad (zaan (i:=5) nd rfl (av33.l 5 rfl) (zaaj zaa0 (zaaj zaf0 (qv av33 5 rfl) (qv av33 5 rfl)) zaae)) (zaah (zaao (zaaj zaa0 (zaaj zaf0 (zaaj zacc (qv av33 5 rfl) (zaaj zaf0 (zaar zaav (qv av33 1 rfl) zaae (fun _ _=>rfl)) zaae)) zaae) zaae)))))))))),?_⟩
 have h63:ns.length≤63:=hS.1
 (try dsimp only [cxOf])
 walk_at "rd"
 refine zacw (fun σ H'=>∃ n:Int,σ=[some (.ref a),some (.ref b),some (.int n),none,none,none]∧Ch [b] H H'∧H' b=some (.lst [.int (c + 1)])) ?_ ?_
 ·walk_at "rd"
  refine ite2 (fun hc=>?_) (fun hc=>?_)
  ·have hc':0 < (ns.length:Int):=by simpa using hc
   have e1:0≤(c + 1) % (ns.length:Int):=Int.emod_nonneg _ (by omega)
   have e2:(c + 1) % (ns.length:Int) < (ns.length:Int):=Int.emod_lt_of_pos _ hc'
   obtain ⟨n,hn⟩:=zaks e1 e2
   walk_at "rd"
  ·walk_at "rd"
 ·rintro σ H1 ⟨n,rfl,c1,b1⟩
  have hS1:Scr K H1 a ns:=hS.ch hb c1
  refine zacw (fun σ H'=>∃ u v w,σ=[some (.ref a),some (.ref b),some (.int n),u,v,w]∧Ch [b] H H'∧H' b=some (.lst [.int (c + 1)])) ?_ ?_
  ·walk_at "rd"
   refine ite2 (fun hc=>?_) (fun hc=>iteF ?_)
   ·have hc':0 < (ns.length:Int):=by simpa using hc
    obtain ⟨n0,hn0⟩:=zaks (ns:=ns) (i:=0) (by omega) hc'
    walk_at "rd"
    refine ite2 (fun hd=>?_) (fun hd=>?_)
    ·walk_at "rd"
     refine zad1 (fun i σ H'=>H'=H1∧∃ g kk,σ=[some (.ref a),some (.ref b),some (.int n),some (.int g),kk,none]) ⟨rfl,_,_,rfl⟩ ?_ ?_
     ·rintro i σ H' hi ⟨rfl,g,kk,rfl⟩
      walk_at "rd"
     ·rintro σ H' ⟨rfl,g,kk,rfl⟩
      walk_at "rd"
      refine ite2 (fun hd=>iteT ?_) (fun hd=>?_)
      ·walk_at "rd"
       exact q _ _ (Int.emod_nonneg _ (by decide)) (Int.lt_of_lt_of_le (Int.emod_lt_of_pos _ (by decide)) (by decide)) (c1.trans (Ch.new (by assumption) _)) (by walk_at "get")
      ·walk_at "rd"
       refine ite2 (fun he=>?_) (fun he=>?_)
       ·walk_at "rd"
        exact q _ _ (Int.emod_nonneg _ (by decide)) (Int.lt_of_lt_of_le (Int.emod_lt_of_pos _ (by decide)) (by decide)) (c1.trans (Ch.new (by assumption) _)) (by walk_at "get")
       ·walk_at "rd"
    ·walk_at "rd"
   ·walk_at "rd"
  ·rintro σ H2 ⟨u,v,w,rfl,c2,b2⟩
   walk_at "rd"
   exact q _ _ (Int.emod_nonneg _ (by decide)) (Int.emod_lt_of_pos _ (by decide)) c2 b2
theorem scWords:FnScope [] [] (defScope (top 34)):=⟨rfl,rfl,rfl,by decide +kernel,rfl,by decide +kernel,by decide +kernel⟩
theorem zap6 (F:Fun K "_law_words" "_law_words" (top 34) f fd):FnOk P w K mg base CX0 (k + 1) f fd [] spWords:=by
 have nd:=scWords.nd
 refine F.ok scWords (fun vs H Q E h=>by obtain ⟨rfl,_⟩:=h; rfl) (fun cdv A outer s H vs Q E hr h=>?_)
 obtain ⟨rfl,q⟩:=h
 refine ⟨_,(Pr.h (zaah (zaao (zabz PySem.F.plainAttrs_str PySem.F.slot_str_split PySem.F.type_str_split zahn zaaf (zaaa zaaf zaac zaab))))),?_⟩
 (try dsimp only [cxOf])
 walk_at "rd"
 exact q _ _ _ zap5 zai7 (fun _ h=>h) (by walk_at "ch") zaai (by assumption)
def spNumber (K:PySem.W.Frag):Sp:=fun vs H Q _=>∃ (a b:Addr) (ns:List Int) (c:Int),vs=[.ref a,.ref b]∧Scr K H a ns∧H b=some (.lst [.int c])∧0≤c∧c < 2 ^ 59 ∧
 ∀ (n:Int) (H':Hp),0≤n→n≤999999999→Ch [b] H H'→H' b=some (.lst [.int (c + 1)])→Q (.int n) H'
theorem av36:AF (defScope (top 36)) ["_law_script", "_law_at", "_law_n"]:=⟨by decide +kernel⟩
theorem gl36:AG (defScope (top 36)) ["_law_next"]:=⟨by decide +kernel⟩
theorem scNumber:FnScope ["_law_script", "_law_at", "_law_n"] ["_law_script", "_law_at"] (defScope (top 36)):=⟨rfl,rfl,rfl,by decide +kernel,rfl,by decide +kernel,by decide +kernel⟩
theorem zang (F:Fun K "_law_number" "_law_number" (top 36) f fd) (D_law_next:DefOk P w K mg base CX0 k "_law_next" ["_law_script", "_law_at"] (spNext K)):FnOk P w K mg base CX0 (k + 1) f fd ["_law_script", "_law_at"] (spNumber K):=by
 have nd:=scNumber.nd
 refine F.ok scNumber (fun vs H Q E h=>by obtain ⟨a,b,ns,c,rfl,_⟩:=h; rfl) (fun cdv A outer s H vs Q E hr h=>?_)
 obtain ⟨a,b,ns,c,rfl,hS,hb,h0,h1,q⟩:=h
 refine ⟨_,(Pr.h (zaad (zaan (i:=2) nd rfl (av36.l 2 rfl) (zaak D_law_next hr (gl36.g 0 rfl) pass0 (zaaa (qv av36 0 rfl) (zaaa (qv av36 1 rfl) zaac zaag) zaag) zabj)) (zaah (zaao (zaar zaav (zaay (zaaa (zaaj zaa0 (zaaj zaa3 (qv av36 2 rfl) zaae) zaae) (zaaa zaae (zaaa zaae (zaaa (zaaj zaa0 (zaaj zaa3 (qv av36 2 rfl) zaae) zaae) (zaaa (zaaj zacc (zaaj zauv zaae zaae) (zaaj zaa0 (zaaj zaa3 (qv av36 2 rfl) zaae) zaae)) zaac zabx) zabx) zaab) zaab) zabx)) (zaaj zaa0 (qv av36 2 rfl) zaae) (fun _ _=>rfl)))))),?_⟩
 (try dsimp only [cxOf])
 walk_at "rd"
 rename_i n H' n0 n1 c1 b1 p hp
 refine Atx.any (by omega) (by walk_at "arith") fun v hv _=>?_
 have hv':∃ m:Int,v=.int m∧0≤m∧m≤999999999:=by
  simp only [List.mem_cons,List.not_mem_nil,or_false] at hv
  rcases hv with rfl | rfl | rfl | rfl | rfl
  ·exact ⟨_,rfl,by omega,by omega⟩
  ·exact ⟨_,rfl,by omega,by omega⟩
  ·exact ⟨_,rfl,by omega,by omega⟩
  ·exact ⟨_,rfl,by omega,by omega⟩
  ·exact ⟨_,rfl,by have:(10:Int) ^ Int.toNat 8=100000000:=(by decide); omega,by have:(10:Int) ^ Int.toNat 8=100000000:=(by decide); omega⟩
 obtain ⟨m,rfl,m0,m1⟩:=hv'
 exact q _ _ m0 m1 (by walk_at "ch") (by walk_at "get")
end
end

section
def spName (K:PySem.W.Frag):Sp:=fun vs H Q _=>∃ (a b:Addr) (ns:List Int) (c:Int),vs=[.ref a,.ref b]∧Scr K H a ns∧H b=some (.lst [.int c])∧0≤c∧c < 2 ^ 59 ∧
 ∀ (x:Str) (H':Hp) (c':Int),Nm x→c≤c'→c'≤c + 2→Ch [b] H H'→H' b=some (.lst [.int c'])→Q (.str x) H'
section
variable {P:Program}{w:World}{K:PySem.W.Frag}{mg:Str→Option Value}{base:Heap}{f:Addr}{fd:FuncData}{k:Nat}
theorem zadf:Nd "_law_words" := by decide +kernel
theorem zagf:bootBuiltins "int" = some (.type "int"):=by decide +kernel
theorem zagg:("int" : Str) ≠ "__name__" := by decide +kernel
theorem zagh:Nd "int" := by decide +kernel
theorem av35:AF (defScope (top 35)) ["_law_script", "_law_at", "_law_letters", "_law_n", "_law_size", "_law_spot", "_law_stem", "_law_name_here", "_law_m", "_law_k"]:=⟨by decide +kernel⟩
theorem gl35:AG (defScope (top 35)) ["_law_next", "_law_words", "range", "int"]:=⟨by decide +kernel⟩
theorem scName:FnScope ["_law_script", "_law_at", "_law_letters", "_law_n", "_law_size", "_law_spot", "_law_stem", "_law_name_here", "_law_m", "_law_k"] ["_law_script", "_law_at"] (defScope (top 35)):=⟨rfl,rfl,rfl,by decide +kernel,rfl,by decide +kernel,by decide +kernel⟩
theorem zas0 (F:Fun K "_law_name" "_law_name" (top 35) f fd) (D_law_next:DefOk P w K mg base CX0 k "_law_next" ["_law_script", "_law_at"] (spNext K)) (D_law_words:DefOk P w K mg base CX0 k "_law_words" [] spWords)
  (z_range:mg "range" = none) (z_int:mg "int" = none):FnOk P w K mg base CX0 (k + 1) f fd ["_law_script", "_law_at"] (spName K):=by
 have nd:=scName.nd
 refine F.ok scName (fun vs H Q E h=>by obtain ⟨a,b,ns,c,rfl,_⟩:=h; rfl) (fun cdv A outer s H vs Q E hr h=>?_)
 obtain ⟨a,b,ns,c,rfl,hS,hb,h0,h1,q⟩:=h
 refine ⟨_,(Pr.h (zaad (zaan (i:=2) nd rfl (av35.l 2 rfl) zaaf) (zaad (zaan (i:=3) nd rfl (av35.l 3 rfl) (zaak D_law_next hr (gl35.g 0 rfl) pass0 (zaaa (qv av35 0 rfl) (zaaa (qv av35 1 rfl) zaac zaag) zaag) zabj)) (zaad (zaan (i:=4) nd rfl (av35.l 4 rfl) (zaaj zacc zaae (zaaj zaa0 (qv av35 3 rfl) zaae))) (zab0 (zaat (zaam zabp (zaaj zaa0 (zaaj zaa3 (qv av35 3 rfl) zaae) zaae) zaae (nomark _)) (zaad (zaan (i:=5) nd rfl (av35.l 5 rfl) (zaaj zaa0 (zaaj zaa3 (qv av35 3 rfl) zaae) (qv av35 4 rfl))) (zaad (zaan (i:=6) nd rfl (av35.l 6 rfl) (zaaj zag9 (zaar zacf (qv av35 2 rfl) (zaaj zaa0 (zaaj zaa3 (qv av35 3 rfl) zaae) zaae) (fun _ _=>rfl)) (qv av35 4 rfl))) (zaah (zaan (i:=7) nd rfl (av35.l 7 rfl) (zaaj zaa9 (zaaj zaa9 (zaa1 zaee (qv av35 6 rfl) zabb (zaa4 (qv av35 5 rfl))) (zaar zacf (qv av35 2 rfl) (zaaj zaa0 (zaaj zaa3 (qv av35 3 rfl) zaae) zaae) (fun _ _=>rfl))) (zaa1 zaee (qv av35 6 rfl) (zaa4 (zaaj zacc (qv av35 5 rfl) zaae)) zabb)))))) (zaah (zaat (zaam zabp (zaaj zaa0 (zaaj zaa3 (qv av35 3 rfl) zaae) zaae) zaae (nomark _)) (zaad (zaan (i:=7) nd rfl (av35.l 7 rfl) (zaaj zaa9 (zaa1 zaee (zaar zaav (zaaj zau7 (zae7 D_law_words hr (gl35.g 1 rfl) pass0 zadf) zaae) (zaaj zaa0 (zaaj zaa3 (qv av35 3 rfl) zaae) zaae) (fun _ _=>rfl)) zabb (zaa4 zaae)) (zaar zacf (qv av35 2 rfl) (zaaj zaa0 (zaaj zaa3 (qv av35 3 rfl) zaae) zaae) (fun _ _=>rfl)))) (zaah (zaan (i:=7) nd rfl (av35.l 7 rfl) (zaa1 zaee (zaa1 zaee (qv av35 7 rfl) (zaa4 (zaaj zaa0 (zaaj zaa3 (qv av35 3 rfl) zaae) zaae)) zabb) zabb (zaa4 zaae))))) (zaad (zaan (i:=8) nd rfl (av35.l 8 rfl) (zaak D_law_next hr (gl35.g 0 rfl) pass0 (zaaa (qv av35 0 rfl) (zaaa (qv av35 1 rfl) zaac zaag) zaag) zabj)) (zaad (zaan (i:=7) nd rfl (av35.l 7 rfl) zaaf) (zaah (zab7 PassesOwn.never rfl (zacp (gl35.g 2 rfl) z_range (zaaa (qv av35 4 rfl) zaac zaag)) (zabc (i:=9) nd rfl (av35.l 9 rfl)) (zaad (zaan (i:=8) nd rfl (av35.l 8 rfl) (zaaj zacc (qv av35 8 rfl) (zaaj zaf0 (zaaj zaa3 (qv av35 3 rfl) zaae) (zaba zaf1 (gl35.g 3 rfl) z_int zagf (zaaa (zadb zabp (qv av35 9 rfl) zaae (nomark _)) zaac zag8) zagg zagh)))) (zaad (zaan (i:=7) nd rfl (av35.l 7 rfl) (zaaj zaa9 (qv av35 7 rfl) (zaar zacf (qv av35 2 rfl) (zaaj zaa0 (qv av35 8 rfl) zaae) (fun _ _=>rfl)))) (zaah (zaan (i:=8) nd rfl (av35.l 8 rfl) (zaaj zaa3 (qv av35 8 rfl) zaae)))))))))))) (zab0 (zaat (zaam zaen (qv av35 7 rfl) (zae7 D_law_words hr (gl35.g 1 rfl) pass0 zadf) rfl) (zaah (zaan (i:=7) nd rfl (av35.l 7 rfl) (zaaj zaa9 zaaf (zaa1 zaee (qv av35 7 rfl) zabb (zaa4 zaae))))) zaap) (zaah (zaao (qv av35 7 rfl))))))))),?_⟩
 have l26:=zajz
 have l26':=zai5
 (try dsimp only [cxOf])
 walk_at "rd"
 rename_i n H1 n0 n1 c1 b1
 have hS1:Scr K H1 a ns:=hS.ch hb c1
 refine zacw (fun σ H'=>∃ (x:Str) (c':Int) (u4 u5 u6 u8 u9:Option V),σ=[some (.ref a),some (.ref b),some (.str "abcdefghijklmnopqrstuvwxyz"),some (.int n),u4,u5,u6,some (.str x),u8,u9]∧H' b=some (.lst [.int c'])∧c≤c'∧c'≤c + 2∧Ch [b] H H'∧Nm0 x) ?_ ?_
 ·walk_at "rd"
  refine ite2 (fun hc=>?_) (fun hc=>?_)
  ·walk_at "rd"
   refine Atx.any (by omega) (by rw [l26]; omega) fun v hv _=>?_
   have hv':=zad3 v hv
   walk_at "rd"
   rename_i z hz
   have zl:=zavf hz
   rw [List.length_replicate] at zl
   have zlt:Lt z:=Lt.rep hz hv'
   have z8:z.length≤8:=by omega
   walk_at "rd"
   refine Atx.any (by omega) (by rw [l26]; omega) fun v2 hv2 _=>?_
   have hv2':=zad3 v2 hv2
   have sp0:0≤n / 24 % (1 + n % 8):=Int.emod_nonneg _ (by omega)
   have sp1:n / 24 % (1 + n % 8) < 1 + n % 8:=Int.emod_lt_of_pos _ (by omega)
   have nm:∀ sp:Int,0≤sp→sp < 1 + n % 8→Nm0 (Txt.slice z none (some sp)++⟨#[v2]⟩++Txt.slice z (some (sp + 1)) none):=fun sp sp0 sp1=>by
    have e:(Txt.slice z none (some sp)++⟨#[v2]⟩++Txt.slice z (some (sp + 1)) none).length=z.length:=by
     rw [zabm,zabm,zac6,zac6,HT.sIx_none,HT.sIx_none,zadq sp0,zadq (show 0≤sp + 1 by omega)]
     show min (min sp.toNat z.length - 0) (z.length - 0) + 1 + _=_
     omega
    exact ⟨by rw [e]; omega,by rw [e]; omega,((zlt.slice _ _).app (Lt.one hv2')).app (zlt.slice _ _)⟩
   walk_at "rd"
   exact nm _ sp0 sp1
  ·walk_at "rd"
   refine ite2 (fun hd=>?_) (fun hd=>?_)
   ·walk_at "rd"
    rename_i p H2 ws wok wl wall c2 hp np
    apply And.intro
    ·rw [List.length_map,wl]; decide
    walk_at "rd"
    rename_i p2 np2
    refine Atx.any (by omega) ?_ fun v hv _=>?_
    ·rw [zamm,List.length_map,wl]; show _ < ((2 * 18:Nat):Int); omega
    have hv':∃ y,v=.str y∧Lt y∧2≤y.length∧y.length≤6:=by
     obtain ⟨l,hl,hv⟩:=List.mem_flatten.mp hv
     rw [(List.mem_replicate.mp hl).2] at hv
     obtain ⟨y,hy,rfl⟩:=List.mem_map.mp hv
     exact ⟨y,rfl,wok y hy⟩
    obtain ⟨y,rfl,yl,y2,y6⟩:=hv'
    walk_at "rd"
    refine Atx.any (by omega) (by rw [l26]; omega) fun v2 hv2 _=>?_
    have hv2':=zad3 v2 hv2
    have e1:(Txt.slice y none (some 8)).length=y.length:=by
     rw [zac6,HT.sIx_none,zadq (by omega)]
     show min (min 8 y.length - 0) (y.length - 0)=_
     omega
    have nm:∀ k:Int,0≤k→k < 2→Nm0 (Txt.slice (Txt.slice (Txt.slice y none (some 8)++⟨#[v2]⟩) (some k) none) none (some 8)):=fun k k0 k1=>by
     have e2:(Txt.slice y none (some 8)++⟨#[v2]⟩).length=y.length + 1:=by rw [zabm,e1]; rfl
     have e3:(Txt.slice (Txt.slice y none (some 8)++⟨#[v2]⟩) (some k) none).length=y.length + 1 - k.toNat:=by
      rw [zac6,HT.sIx_none,zadq k0,e2]
      omega
     have e4:(Txt.slice (Txt.slice (Txt.slice y none (some 8)++⟨#[v2]⟩) (some k) none) none (some 8)).length=min 8 (y.length + 1 - k.toNat):=by
      rw [zac6,HT.sIx_none,zadq (by omega),e3]
      show min (min 8 (y.length + 1 - k.toNat) - 0) (y.length + 1 - k.toNat - 0)=_
      omega
     exact ⟨by rw [e4]; omega,by rw [e4]; omega,(((yl.slice _ _).app (Lt.one hv2')).slice _ _).slice _ _⟩
    walk_at "rd"
    refine nm _ ?_ ?_ <;> omega
   ·walk_at "rd"
    refine zad1 (fun i σ H'=>∃ (x:Str) (m:Int) (u4 u5 u6 u9:Option V),σ=[some (.ref a),some (.ref b),some (.str "abcdefghijklmnopqrstuvwxyz"),some (.int n),u4,u5,u6,some (.str x),some (.int m),u9]∧H' b=some (.lst [.int (c + 1 + 1)])∧Ch [b] H H'∧x.length=i∧Lt x) ?_ ?_ ?_
    ·walk_at "rd"
     exact ⟨fun c h=>nomatch h⟩
    ·rintro i σ H' hi ⟨x,m,u4,u5,u6,u9,rfl,b3,c3,xi,xl⟩
     have x8:x.length≤8:=by omega
     walk_at "rd"
     refine Atx.any (by omega) (by rw [l26]; omega) fun v hv _=>?_
     have hv':=zad3 v hv
     walk_at "rd"
     refine And.intro (by rw [zabm,xi]; rfl) ?_
     exact xl.app (Lt.one hv')
    ·rintro σ H' ⟨x,m,u4,u5,u6,u9,rfl,b3,c3,xi,xl⟩
     walk_at "rd"
     exact ⟨by omega,by omega,xl⟩
 ·rintro σ H2 ⟨x,c',u4,u5,u6,u8,u9,rfl,b2,cc0,cc1,c2,nx⟩
  refine zacw (fun σ H'=>∃ (x:Str) (u4 u5 u6 u8 u9:Option V),σ=[some (.ref a),some (.ref b),some (.str "abcdefghijklmnopqrstuvwxyz"),some (.int n),u4,u5,u6,some (.str x),u8,u9]∧H' b=some (.lst [.int c'])∧Ch [b] H H'∧Nm x) ?_ ?_
  ·walk_at "rd"
   rename_i p H3 ws wok wl wall c3 hp np
   refine And.intro (zai8 ws) ?_
   walk_at "rd"
   have x8:x.length≤8:=nx.l8
   refine ite2 (fun hd=>?_) (fun hd=>?_)
   ·walk_at "rd"
    have e1:(Txt.slice x none (some 7)).length=min 7 x.length:=by
     rw [zac6,HT.sIx_none,zadq (by omega)]
     show min (min 7 x.length - 0) (x.length - 0)=_
     omega
    have e2:(Str.ofString "q").length=1:=by decide +kernel
    have e3:Lt (Str.ofString "q"):=⟨by decide +kernel⟩
    refine ⟨⟨by rw [zabm,e1,e2]; omega,by rw [zabm,e1,e2]; omega,Lt.app e3 (Lt.slice nx.lt _ _)⟩,fun z=>zasy _ z ?_⟩
    show ((Str.ofString "q").cps++(Txt.slice x none (some 7)).cps).toList.head?=_
    rw [Array.toList_append]
    rfl
   ·have hx:x ∉ WORDS:=fun z=>hd (by rw [show (if false=true then _ else inV (V.str x) (ws.map V.str))=inV (V.str x) (ws.map V.str) from rfl,zage]; exact decide_eq_true (wall x z))
    have nx2:Nm x:=⟨nx,hx⟩
    walk_at "rd"
  ·rintro σ H3 ⟨x,u4,u5,u6,u8,u9,rfl,b3,c3,nx⟩
   walk_at "rd"
   exact q _ _ _ nx cc0 cc1 c3 b3
end
end

section
inductive Ex where
 | nm (x:Str) | of (x y:Str) | val (a b:Int) | un (a:Ex) | bi (w:Str) (a b:Ex) | pick (a b c:Ex) | part (a:Ex) (l w:Int)
def IsE (H:Hp):Ex→V→Prop
 | .nm x,v=>∃ p,v=.ref p∧H p=some (.tup [.str "name",.str x])
 | .of x y,v=>∃ p,v=.ref p∧H p=some (.tup [.str "of",.str x,.str y])
 | .val a b,v=>∃ p,v=.ref p∧H p=some (.tup [.str "value",.int a,.int b])
 | .un e,v=>∃ p u,v=.ref p∧H p=some (.tup [.str "not",u])∧IsE H e u
 | .bi w e g,v=>∃ p u t,v=.ref p∧H p=some (.tup [.str w,u,t])∧IsE H e u∧IsE H g t
 | .pick e g h,v=>∃ p u t r,v=.ref p∧H p=some (.tup [.str "pick",u,t,r])∧IsE H e u∧IsE H g t∧IsE H h r
 | .part e l w,v=>∃ p u,v=.ref p∧H p=some (.tup [.str "part",u,.int l,.int w])∧IsE H e u
def KT (H H':Hp):Prop:=∀ p xs,H p=some (.tup xs)→H' p=some (.tup xs)
theorem IsE.kt {H H':Hp} (k:KT H H'):∀ {e:Ex}{v:V},IsE H e v→IsE H' e v
 | .nm _,_,⟨p,h,q⟩=>⟨p,h,k _ _ q⟩
 | .of _ _,_,⟨p,h,q⟩=>⟨p,h,k _ _ q⟩
 | .val _ _,_,⟨p,h,q⟩=>⟨p,h,k _ _ q⟩
 | .un _,_,⟨p,u,h,q,a⟩=>⟨p,u,h,k _ _ q,IsE.kt k a⟩
 | .bi _ _ _,_,⟨p,u,t,h,q,a,b⟩=>⟨p,u,t,h,k _ _ q,IsE.kt k a,IsE.kt k b⟩
 | .pick _ _ _,_,⟨p,u,t,r,h,q,a,b,c⟩=>⟨p,u,t,r,h,k _ _ q,IsE.kt k a,IsE.kt k b,IsE.kt k c⟩
 | .part _ _ _,_,⟨p,u,h,q,a⟩=>⟨p,u,h,k _ _ q,IsE.kt k a⟩
theorem KT.ch {H H':Hp}{b:Addr}{xs:List V} (c:Ch [b] H H') (hb:H b=some (.lst xs)):KT H H':=fun p ys h=>c.get h (by
 intro z
 have e:p=b:=by simpa using z
 subst e; rw [h] at hb; cases hb)
theorem KT.same {H H':Hp} (c:Ch [] H H'):KT H H':=fun p ys h=>c.get h (by simp)
theorem KT.new {H:Hp}{p:Addr}{o:HO} (h:H p=none):KT H (upd H p o):=fun q ys e=>zaep h e
theorem KT.trans {H H1 H2:Hp} (a:KT H H1) (b:KT H1 H2):KT H H2:=fun p xs h=>b p xs (a p xs h)
structure Num (n:Int):Prop where
 n0:0≤n
 n9:n≤999999999
def BIW:List Str:=["and", "or", "xor", "plus", "less", "same", "join"]
inductive Ok:Ex→Prop
 | nm {x:Str} (h:Nm x):Ok (.nm x)
 | of {x y:Str} (h:Nm x) (g:Nm y):Ok (.of x y)
 | val {a b:Int} (h:Num a) (g:Num b):Ok (.val a b)
 | un {a:Ex} (h:Ok a):Ok (.un a)
 | bi {w:Str}{a b:Ex} (hw:w∈BIW) (h:Ok a) (g:Ok b):Ok (.bi w a b)
 | pick {a b c:Ex} (h:Ok a) (g:Ok b) (i:Ok c):Ok (.pick a b c)
 | part {a:Ex}{l w:Int} (h:Ok a) (g:Num l) (i:Num w):Ok (.part a l w)
def Ex.size:Ex→Nat
 | .nm _=>1 | .of _ _=>1 | .val _ _=>1 | .un a=>1 + a.size | .bi _ a b=>1 + a.size + b.size | .pick a b c=>1 + a.size + b.size + c.size | .part a _ _=>1 + a.size
def Ex.deep:Ex→Nat
 | .nm _=>0 | .of _ _=>0 | .val _ _=>0 | .un a=>1 + a.deep | .bi _ a b=>1 + max a.deep b.deep | .pick a b c=>1 + max a.deep (max b.deep c.deep) | .part a _ _=>1 + a.deep
structure Made (H:Hp) (e:Ex) (v:V) (s d:Nat):Prop where
 is:IsE H e v
 ok:Ok e
 sz:e.size≤s
 dp:e.deep≤d
local macro_rules | `(tactic| walk_at "kt")=>`(tactic| first
 | exact KT.refl
 | (apply KT.new; assumption)
 | (apply KT.same; assumption)
 | (apply KT.ch; (focus assumption); (focus assumption))
 | (apply KT.trans; (rotate_left; focus (apply KT.new; assumption)); (focus walk_at "kt"))
 | (apply KT.trans; (rotate_left; focus (apply KT.ch; (focus assumption); (focus assumption))); (focus walk_at "kt"))
 | (apply KT.trans; (rotate_left; focus (apply KT.same; assumption)); (focus walk_at "kt")))
def spLeaf (K:PySem.W.Frag):Sp:=fun vs H Q _=>∃ (a b:Addr) (m:Int) (ns:List Int) (c:Int),vs=[.ref a,.ref b,.int m]∧Scr K H a ns∧H b=some (.lst [.int c])∧0≤c∧c < 2 ^ 58 ∧
 ∀ (v:V) (e:Ex) (H':Hp) (c':Int),Made H' e v 1 0→c≤c'→c'≤c + 4→Ch [b] H H'→H' b=some (.lst [.int c'])→Q v H'
section
variable {P:Program}{w:World}{K:PySem.W.Frag}{mg:Str→Option Value}{base:Heap}{f:Addr}{fd:FuncData}{k:Nat}
theorem zacb:Nd "_law_name" := by decide +kernel
theorem zabo:Nd "_law_number" := by decide +kernel
theorem av37:AF (defScope (top 37)) ["_law_script", "_law_at", "_law_n"]:=⟨by decide +kernel⟩
theorem gl37:AG (defScope (top 37)) ["_law_name", "_law_number"]:=⟨by decide +kernel⟩
theorem scLeaf:FnScope ["_law_script", "_law_at", "_law_n"] ["_law_script", "_law_at", "_law_n"] (defScope (top 37)):=⟨rfl,rfl,rfl,by decide +kernel,rfl,by decide +kernel,by decide +kernel⟩
theorem zas1 (F:Fun K "_law_leaf" "_law_leaf" (top 37) f fd) (D_law_name:DefOk P w K mg base CX0 k "_law_name" ["_law_script", "_law_at"] (spName K)) (D_law_number:DefOk P w K mg base CX0 k "_law_number" ["_law_script", "_law_at"] (spNumber K)) :
  FnOk P w K mg base CX0 (k + 1) f fd ["_law_script", "_law_at", "_law_n"] (spLeaf K):=by
 have nd:=scLeaf.nd
 refine F.ok scLeaf (fun vs H Q E h=>by obtain ⟨a,b,m,ns,c,rfl,_⟩:=h; rfl) (fun cdv A outer s H vs Q E hr h=>?_)
 obtain ⟨a,b,m,ns,c,rfl,hS,hb,h0,h1,q⟩:=h
 refine ⟨_,(Pr.h (zaad (zaat (zaam zabp (zaaj zaa0 (qv av37 2 rfl) zaae) zaae (nomark _)) (zaah (zaao (zabl (zaaa zaaf (zaaa (zaak D_law_name hr (gl37.g 0 rfl) pass0 (zaaa (qv av37 0 rfl) (zaaa (qv av37 1 rfl) zaac zaag) zaag) zacb) (zaaa (zaak D_law_name hr (gl37.g 0 rfl) pass0 (zaaa (qv av37 0 rfl) (zaaa (qv av37 1 rfl) zaac zaag) zaag) zacb) zaac zaaz) zaaz) zaab)))) zaap) (zaad (zaat (zaam zabp (zaaj zaa0 (qv av37 2 rfl) zaae) zaae (nomark _)) (zaah (zaao (zabl (zaaa zaaf (zaaa (zaak D_law_number hr (gl37.g 1 rfl) pass0 (zaaa (qv av37 0 rfl) (zaaa (qv av37 1 rfl) zaac zaag) zaag) zabo) (zaaa (zaak D_law_number hr (gl37.g 1 rfl) pass0 (zaaa (qv av37 0 rfl) (zaaa (qv av37 1 rfl) zaac zaag) zaag) zabo) zaac zaaz) zaaz) zaab)))) zaap) (zaah (zaao (zabl (zaaa zaaf (zaaa (zaak D_law_name hr (gl37.g 0 rfl) pass0 (zaaa (qv av37 0 rfl) (zaaa (qv av37 1 rfl) zaac zaag) zaag) zacb) zaac zaaz) zaab))))))),?_⟩
 (try dsimp only [cxOf])
 walk_at "rd"
 refine ite2 (fun hc=>?_) (fun hc=>?_)
 ·walk_at "rd"
  rename_i x H1 c1 nx i1 i2 ch1 b1 y H2 c2 ny i3 i4 ch2 b2 p hp
  exact q _ (.of x y) _ c2 ⟨⟨p,rfl,zaai⟩,.of nx ny,Nat.le_refl _,Nat.le_refl _⟩ (by omega) (by omega) (by walk_at "ch") (by walk_at "get")
 ·walk_at "rd"
  refine ite2 (fun hd=>?_) (fun hd=>?_)
  ·walk_at "rd"
   rename_i x H1 i1 i2 ch1 b1 y H2 i3 i4 ch2 b2 p hp
   exact q _ (.val x y) _ (c + 1 + 1) ⟨⟨p,rfl,zaai⟩,.val ⟨i1,i2⟩ ⟨i3,i4⟩,Nat.le_refl _,Nat.le_refl _⟩ (by omega) (by omega) (by walk_at "ch") (by walk_at "get")
  ·walk_at "rd"
   rename_i x H1 c1 nx i1 i2 ch1 b1 p hp
   exact q _ (.nm x) _ _ ⟨⟨p,rfl,zaai⟩,.nm nx,Nat.le_refl _,Nat.le_refl _⟩ (by omega) (by omega) (by walk_at "ch") (by walk_at "get")
end
end

section
local macro_rules | `(tactic| walk_at "kt")=>`(tactic| first
 | exact KT.refl
 | (apply KT.new; assumption)
 | (apply KT.same; assumption)
 | (apply KT.ch; (focus assumption); (focus assumption))
 | (apply KT.trans; (rotate_left; focus (apply KT.new; assumption)); (focus walk_at "kt"))
 | (apply KT.trans; (rotate_left; focus (apply KT.ch; (focus assumption); (focus assumption))); (focus walk_at "kt"))
 | (apply KT.trans; (rotate_left; focus (apply KT.same; assumption)); (focus walk_at "kt")))
theorem zaeh {w u:Str}{A B:Prop} (h:w≠u) (b:B):if decide (V.str w=V.str u)=true then A else B:=by
 rw [decide_eq_false (fun z=>h (V.str.inj z))]
 exact iteF b
theorem zavg {w u:Str}{A B:Prop} (h:w=u) (a:A):if decide (V.str w=V.str u)=true then A else B:=by
 rw [decide_eq_true (congrArg V.str h)]
 exact iteT a
theorem zavh:∀ w∈BIW,w ≠ "not" ∧ w ≠ "part" ∧ w ≠ "pick" := by decide +kernel
def spExpr (K:PySem.W.Frag) (N:Nat):Sp:=fun vs H Q _=>∃ (a b:Addr) (d:Int) (ns:List Int) (c:Int),vs=[.ref a,.ref b,.int d]∧Scr K H a ns∧H b=some (.lst [.int c])∧0≤c∧c + 8 * 4 ^ d.toNat≤2 ^ 50∧d.toNat < N∧d≤3 ∧
 ∀ (v:V) (e:Ex) (H':Hp) (c':Int),Made H' e v (4 ^ d.toNat) d.toNat→c≤c'→c'≤c + 8 * 4 ^ d.toNat→Ch [b] H H'→H' b=some (.lst [.int c'])→Q v H'
section
variable {P:Program}{w:World}{K:PySem.W.Frag}{mg:Str→Option Value}{base:Heap}{f:Addr}{fd:FuncData}{k:Nat}
theorem zai9:Nd "_law_leaf" := by decide +kernel
theorem zab1:Nd "_law_expr" := by decide +kernel
theorem av38:AF (defScope (top 38)) ["_law_script", "_law_at", "_law_deep", "_law_n", "_law_word", "_law_one", "_law_other"]:=⟨by decide +kernel⟩
theorem gl38:AG (defScope (top 38)) ["_law_next", "_law_leaf", "_law_expr", "_law_number"]:=⟨by decide +kernel⟩
theorem scExpr:FnScope ["_law_script", "_law_at", "_law_deep", "_law_n", "_law_word", "_law_one", "_law_other"] ["_law_script", "_law_at", "_law_deep"] (defScope (top 38)):=⟨rfl,rfl,rfl,by decide +kernel,rfl,by decide +kernel,by decide +kernel⟩
theorem zas2 {N:Nat} (F:Fun K "_law_expr" "_law_expr" (top 38) f fd) (D_law_next:DefOk P w K mg base CX0 k "_law_next" ["_law_script", "_law_at"] (spNext K)) (D_law_leaf:DefOk P w K mg base CX0 k "_law_leaf" ["_law_script", "_law_at", "_law_n"] (spLeaf K))
  (D_law_number:DefOk P w K mg base CX0 k "_law_number" ["_law_script", "_law_at"] (spNumber K)) (D_law_expr:DefOk P w K mg base CX0 k "_law_expr" ["_law_script", "_law_at", "_law_deep"] (spExpr K N)) :
  FnOk P w K mg base CX0 (k + 1) f fd ["_law_script", "_law_at", "_law_deep"] (spExpr K (N + 1)):=by
 have nd:=scExpr.nd
 refine F.ok scExpr (fun vs H Q E h=>by obtain ⟨a,b,m,ns,c,rfl,_⟩:=h; rfl) (fun cdv A outer s H vs Q E hr h=>?_)
 obtain ⟨a,b,d,ns,c,rfl,hS,hb,h0,h1,hN,h3,q⟩:=h
 have p1:(1:Nat)≤4 ^ d.toNat:=Nat.one_le_pow _ _ (by omega)
 have p2:(4:Nat) ^ d.toNat≤64:=Nat.pow_le_pow_right (by omega) (show d.toNat≤3 by omega)
 have p3:((4 ^ d.toNat:Nat):Int)=4 ^ d.toNat:=by simp
 refine ⟨_,(Pr.h (zaad (zaan (i:=3) nd rfl (av38.l 3 rfl) (zaak D_law_next hr (gl38.g 0 rfl) pass0 (zaaa (qv av38 0 rfl) (zaaa (qv av38 1 rfl) zaac zaag) zaag) zabj)) (zaad (zaat (zacx (zaeu (zaam zauw (qv av38 2 rfl) zaae (nomark _)) (zaeg (zaam zabp (zaaj zaa0 (qv av38 3 rfl) zaae) zaae (nomark _))))) (zaah (zaao (zaak D_law_leaf hr (gl38.g 1 rfl) pass0 (zaaa (qv av38 0 rfl) (zaaa (qv av38 1 rfl) (zaaa (zaaj zaa3 (qv av38 3 rfl) zaae) zaac zabx) zaag) zaag) zai9))) zaap) (zaad (zaan (i:=4) nd rfl (av38.l 4 rfl) (zaar zaav (zaay (zaaa zaaf (zaaa zaaf (zaaa zaaf (zaaa zaaf (zaaa zaaf (zaaa zaaf (zaaa zaaf (zaaa zaaf (zaaa zaaf (zaaa zaaf zaac zaab) zaab) zaab) zaab) zaab) zaab) zaab) zaab) zaab) zaab)) (zaaj zaa0 (zaaj zaa3 (qv av38 3 rfl) zaae) zaae) (fun _ _=>rfl))) (zaad (zaat (zaam zabp (qv av38 4 rfl) zaaf (nomark _)) (zaah (zaao (zabl (zaaa (qv av38 4 rfl) (zaaa (zaak D_law_expr hr (gl38.g 2 rfl) pass0 (zaaa (qv av38 0 rfl) (zaaa (qv av38 1 rfl) (zaaa (zaaj zael (qv av38 2 rfl) zaae) zaac zabx) zaag) zaag) zab1) zaac zaaz) zaag)))) zaap) (zaad (zaat (zaam zabp (qv av38 4 rfl) zaaf (nomark _)) (zaah (zaao (zabl (zaaa (qv av38 4 rfl) (zaaa (zaak D_law_expr hr (gl38.g 2 rfl) pass0 (zaaa (qv av38 0 rfl) (zaaa (qv av38 1 rfl) (zaaa (zaaj zael (qv av38 2 rfl) zaae) zaac zabx) zaag) zaag) zab1) (zaaa (zaak D_law_number hr (gl38.g 3 rfl) pass0 (zaaa (qv av38 0 rfl) (zaaa (qv av38 1 rfl) zaac zaag) zaag) zabo) (zaaa (zaak D_law_number hr (gl38.g 3 rfl) pass0 (zaaa (qv av38 0 rfl) (zaaa (qv av38 1 rfl) zaac zaag) zaag) zabo) zaac zaaz) zaaz) zaaz) zaag)))) zaap) (zaad (zaan (i:=5) nd rfl (av38.l 5 rfl) (zaak D_law_expr hr (gl38.g 2 rfl) pass0 (zaaa (qv av38 0 rfl) (zaaa (qv av38 1 rfl) (zaaa (zaaj zael (qv av38 2 rfl) zaae) zaac zabx) zaag) zaag) zab1)) (zaad (zaan (i:=6) nd rfl (av38.l 6 rfl) (zaak D_law_expr hr (gl38.g 2 rfl) pass0 (zaaa (qv av38 0 rfl) (zaaa (qv av38 1 rfl) (zaaa (zaaj zael (qv av38 2 rfl) zaae) zaac zabx) zaag) zaag) zab1)) (zaad (zaat (zaam zabp (qv av38 4 rfl) zaaf (nomark _)) (zaah (zaao (zabl (zaaa (qv av38 4 rfl) (zaaa (qv av38 5 rfl) (zaaa (qv av38 6 rfl) (zaaa (zaak D_law_expr hr (gl38.g 2 rfl) pass0 (zaaa (qv av38 0 rfl) (zaaa (qv av38 1 rfl) (zaaa (zaaj zael (qv av38 2 rfl) zaae) zaac zabx) zaag) zaag) zab1) zaac zaaz) zaag) zaag) zaag)))) zaap) (zaah (zaao (zabl (zaaa (qv av38 4 rfl) (zaaa (qv av38 5 rfl) (zaaa (qv av38 6 rfl) zaac zaag) zaag) zaag))))))))))))),?_⟩
 (try dsimp only [cxOf])
 walk_at "rd"
 rename_i n H1 n0 n1 ch1 b1
 have hS1:Scr K H1 a ns:=hS.ch hb ch1
 have leaf:∀ (v:V) (e:Ex) (H':Hp) (c':Int),Made H' e v 1 0→c + 1≤c'→c'≤c + 1 + 4→Ch [b] H1 H'→H' b=some (.lst [.int c'])→Q v H':=fun v e H' c' m i1 i2 ch2 b2 =>
  q v e H' c' ⟨m.is,m.ok,Nat.le_trans m.sz p1,Nat.le_trans m.dp (Nat.zero_le _)⟩ (by omega) (by rw [← p3]; omega) (ch1.trans ch2) b2
 have lo:c + 1 + 100≤2 ^ 58:=by omega
 have node:1≤d→∃ X:Nat,1≤X∧4 ^ d.toNat=4 * X∧(4:Nat) ^ (d - 1).toNat=X∧(4:Nat) ^ (d - 2).toNat≤X∧(4:Int) ^ (d - 1).toNat=(X:Int)∧(4:Int) ^ (d - 2).toNat≤(X:Int)∧(4:Int) ^ d.toNat=4 * (X:Int)∧0≤(4:Int) ^ (d - 2).toNat:=fun hd=>by
  have e1:d.toNat=(d - 1).toNat + 1:=by omega
  have e2:(4:Nat) ^ (d - 2).toNat≤4 ^ (d - 1).toNat:=Nat.pow_le_pow_right (by omega) (by omega)
  refine ⟨4 ^ (d - 1).toNat,Nat.one_le_pow _ _ (by omega),by rw [e1,Nat.pow_succ]; omega,rfl,e2,by simp,?_,?_,?_⟩
  ·have z:((4 ^ (d - 2).toNat:Nat):Int)=(4:Int) ^ (d - 2).toNat:=by simp
   rw [← z]; omega
  ·have z:((4 ^ d.toNat:Nat):Int)=(4:Int) ^ d.toNat:=by simp
   rw [← z,e1,Nat.pow_succ]; omega
  ·have z:((4 ^ (d - 2).toNat:Nat):Int)=(4:Int) ^ (d - 2).toNat:=by simp
   rw [← z]; exact Int.natCast_nonneg _
 refine ite2 (fun hc=>iteT ?_) (fun hc=>?_)
 ·walk_at "rd"
  exact leaf _ _ _ _ (by assumption) (by omega) (by omega) (by assumption) (by assumption)
 walk_at "rd"
 refine ite2 (fun hd=>?_) (fun hd=>?_)
 ·walk_at "rd"
  exact leaf _ _ _ _ (by assumption) (by omega) (by omega) (by assumption) (by assumption)
 have hd1:1≤d:=by
  have:¬ d≤0:=by simpa using hc
  omega
 obtain ⟨X,x1,x2,x3,x4,x5,x6,x7,x8⟩:=node hd1
 clear node
 rw [x7] at h1
 have nn1:(d - 1).toNat < N:=by omega
 have nn2:(d - 2).toNat < N:=by omega
 walk_at "rd"
 refine Atx.any (by omega) (by walk_at "arith") fun v hv _=>?_
 have hv':∃ w:Str,v=.str w∧(w∈BIW∨w = "not" ∨ w = "part" ∨ w = "pick"):=by
  simp only [List.mem_cons,List.not_mem_nil,or_false] at hv
  rcases hv with rfl | rfl | rfl | rfl | rfl | rfl | rfl | rfl | rfl | rfl
  ·exact ⟨_,rfl,.inr (.inl rfl)⟩
  ·exact ⟨_,rfl,.inl (by decide +kernel)⟩
  ·exact ⟨_,rfl,.inl (by decide +kernel)⟩
  ·exact ⟨_,rfl,.inl (by decide +kernel)⟩
  ·exact ⟨_,rfl,.inl (by decide +kernel)⟩
  ·exact ⟨_,rfl,.inl (by decide +kernel)⟩
  ·exact ⟨_,rfl,.inl (by decide +kernel)⟩
  ·exact ⟨_,rfl,.inr (.inr (.inr rfl))⟩
  ·exact ⟨_,rfl,.inr (.inr (.inl rfl))⟩
  ·exact ⟨_,rfl,.inl (by decide +kernel)⟩
 obtain ⟨wd,rfl,hw⟩:=hv'
 walk_at "rd"
 rcases hw with hw | rfl | rfl | rfl
 ·obtain ⟨w1,w2,w3⟩:=zavh wd hw
  refine zaeh w1 ?_
  walk_at "rd"
  refine zaeh w2 ?_
  walk_at "rd"
  refine zaeh w3 ?_
  walk_at "rd"
  rename_i pl hpl v1 e1 H2 c2 m1 i1 i2 ch2 b2 v2 e2 H3 c3 m2 i3 i4 ch3 b3 p hp
  obtain ⟨s1,s2,s3,s4⟩:=m1
  obtain ⟨t1,t2,t3,t4⟩:=m2
  rw [x3] at s3 t3
  rw [x5] at i2 i4
  have s1':IsE (upd H3 p (.tup [.str wd,v1,v2])) e1 v1:=s1.kt (by walk_at "kt")
  have t1':IsE (upd H3 p (.tup [.str wd,v1,v2])) e2 v2:=t1.kt (by walk_at "kt")
  exact q _ (.bi wd e1 e2) _ c3 ⟨⟨p,v1,v2,rfl,zaai,s1',t1'⟩,.bi hw s2 t2,by show 1 + _ + _≤_; omega,by show 1 + max _ _≤_; omega⟩ (by omega) (by rw [x7]; omega) (by walk_at "ch") (by walk_at "get")
 ·walk_at "rd"
  rename_i pl hpl v1 e1 H2 c2 m1 i1 i2 ch2 b2 p hp
  obtain ⟨s1,s2,s3,s4⟩:=m1
  rw [x3] at s3
  rw [x5] at i2
  have s1':IsE (upd H2 p (.tup [.str "not",v1])) e1 v1:=s1.kt (by walk_at "kt")
  exact q _ (.un e1) _ c2 ⟨⟨p,v1,rfl,zaai,s1'⟩,.un s2,by show 1 + _≤_; omega,by show 1 + _≤_; omega⟩ (by omega) (by rw [x7]; omega) (by walk_at "ch") (by walk_at "get")
 ·walk_at "rd"
  rename_i pl hpl v1 e1 H2 c2 m1 i1 i2 ch2 b2 n2 H3 i3 i4 ch3 b3 n3 H4 i5 i6 ch4 b4 p hp
  obtain ⟨s1,s2,s3,s4⟩:=m1
  rw [x3] at s3
  rw [x5] at i2
  have s1':IsE (upd H4 p (.tup [.str "part",v1,.int n2,.int n3])) e1 v1:=s1.kt (by walk_at "kt")
  exact q _ (.part e1 n2 n3) _ (c2 + 1 + 1) ⟨⟨p,v1,rfl,zaai,s1'⟩,.part s2 ⟨i3,i4⟩ ⟨i5,i6⟩,by show 1 + _≤_; omega,by show 1 + _≤_; omega⟩ (by omega) (by rw [x7]; omega) (by walk_at "ch") (by walk_at "get")
 ·walk_at "rd"
  rename_i pl hpl v1 e1 H2 c2 m1 i1 i2 ch2 b2 v2 e2 H3 c3 m2 i3 i4 ch3 b3 v3 e3 H4 c4 m3 i5 i6 ch4 b4 p hp
  obtain ⟨s1,s2,s3,s4⟩:=m1
  obtain ⟨t1,t2,t3,t4⟩:=m2
  obtain ⟨r1,r2,r3,r4⟩:=m3
  rw [x3] at s3 t3
  rw [x5] at i2 i4
  have s1':IsE (upd H4 p (.tup [.str "pick",v1,v2,v3])) e1 v1:=s1.kt (by walk_at "kt")
  have t1':IsE (upd H4 p (.tup [.str "pick",v1,v2,v3])) e2 v2:=t1.kt (by walk_at "kt")
  have r1':IsE (upd H4 p (.tup [.str "pick",v1,v2,v3])) e3 v3:=r1.kt (by walk_at "kt")
  exact q _ (.pick e1 e2 e3) _ c4 ⟨⟨p,v1,v2,v3,rfl,zaai,s1',t1',r1'⟩,.pick s2 t2 r2,by show 1 + _ + _ + _≤_; omega,by show 1 + max _ (max _ _)≤_; omega⟩ (by omega) (by rw [x7]; omega) (by walk_at "ch") (by walk_at "get")
end
end

section
abbrev num (n:Int):Str:=Str.ofString (toString n)
def wr:Ex→Str
 | .nm x=>x
 | .of x y=>x ++ "." ++ y
 | .val a b=>num a ++ ":" ++ num b
 | .un a => "(" ++ Str.join " " ["not",wr a] ++ ")"
 | .bi w a b => "(" ++ Str.join " " [w,wr a,wr b] ++ ")"
 | .pick a b c => "(" ++ Str.join " " ["pick",wr a,wr b,wr c] ++ ")"
 | .part a l w => "(" ++ Str.join " " ["part",wr a,num l,num w] ++ ")"
def pcs:Ex→List Str
 | .nm x=>[x]
 | .of x y=>[x, ".",y]
 | .val a b=>[num a, ":",num b]
 | .un a=>(["(", "not"]:List Str)++[pcs a].flatten++([")"]:List Str)
 | .bi w a b=>(["(",w]:List Str)++[pcs a,pcs b].flatten++([")"]:List Str)
 | .pick a b c=>(["(", "pick"]:List Str)++[pcs a,pcs b,pcs c].flatten++([")"]:List Str)
 | .part a l w=>(["(", "part"]:List Str)++[pcs a,[num l],[num w]].flatten++([")"]:List Str)
theorem zanh {n:Int} (h:Num n):(num n).length≤9:=PyProof.Rows.toString_length_le h.n0 (by decide) (by have:=h.n9; omega)
theorem zahv {n:Int} (h:Num n):n.natAbs.log2 < 1920:=by
 have a:=h.n0
 have b:=h.n9
 by_cases z:n.natAbs=0
 ·rw [z]; decide
 ·exact Nat.lt_trans ((Nat.log2_lt z).mpr (show n.natAbs < 2 ^ 30 by omega)) (by decide)
theorem zaft (sep:Str):∀ l:List Str,(Str.join sep l).length≤(l.map (·.length)).sum + l.length * sep.length
 | []=>by simp [Str.join]; rfl
 | [x]=>by simp [Str.join]
 | x :: y :: r=>by
  have ih:=zaft sep (y :: r)
  show (x++sep++Str.join sep (y :: r)).length≤_
  rw [zabm,zabm]
  simp only [List.map_cons,List.sum_cons,List.length_cons,Nat.add_mul,Nat.one_mul] at *
  omega
def FORMS:List (Str × List Str):=[("not",["expr"]),("and",["expr", "expr"]),("or",["expr", "expr"]),("xor",["expr", "expr"]),("plus",["expr", "expr"]),("less",["expr", "expr"]),("same",["expr", "expr"]),("pick",["expr", "expr", "expr"]),("part",["expr", "number", "number"]),("join",["expr", "expr"])]
theorem zap7:∀ p∈FORMS,p.1 ≠ "name" ∧ p.1 ≠ "of" ∧ p.1 ≠ "value" ∧ p.1.length≤4:=by decide +kernel
theorem zak1:∀ w∈BIW,(w,(["expr", "expr"]:List Str))∈FORMS:=by decide +kernel
inductive Prt (H:Hp) (N:Nat):Str→V→Str→List Str→Prop
 | ex {e:Ex}{y:V} (h:IsE H e y) (o:Ok e) (d:e.deep < N) (s:e.size≤100):Prt H N "expr" y (wr e) (pcs e)
 | nu {n:Int} (h:Num n):Prt H N "number" (.int n) (num n) [num n]
inductive Prts (H:Hp) (N:Nat):List Str→List V→List Str→List (List Str)→Prop
 | nil:Prts H N [] [] [] []
 | cons {k:Str}{y:V}{t:Str}{o:List Str}{ks:List Str}{ys:List V}{ts:List Str}{os:List (List Str)}:Prt H N k y t o→Prts H N ks ys ts os→Prts H N (k :: ks) (y :: ys) (t :: ts) (o :: os)
theorem Prts.len {H:Hp}{N:Nat}:∀ {ks ys ts os},Prts H N ks ys ts os→ks.length=ys.length∧ts.length=ys.length∧os.length=ys.length
 | _,_,_,_,.nil=>⟨rfl,rfl,rfl⟩
 | _,_,_,_,.cons p r=>by obtain ⟨a,b,c⟩:=Prts.len r; simp [a,b,c]
structure Node (H:Hp) (N:Nat) (e:Ex) (v:V) (w:Str) (ys:List V) (ks ts:List Str) (os:List (List Str)):Prop where
 plc:∃ p,v=.ref p∧H p=some (.tup (.str w :: ys))
 wr:wr e = "(" ++ Str.join " " (w :: ts) ++ ")"
 pc:pcs e=(["(",w]:List Str)++os.flatten++([")"]:List Str)
 form:(w,ks)∈FORMS
 prt:Prts H N ks ys ts os
 few:ys.length≤3
inductive Leaf (H:Hp) (v:V):Ex→Prop
 | nm {x:Str} (h:Nm x) (p:Addr) (e:v=.ref p) (q:H p=some (.tup [.str "name",.str x])):Leaf H v (.nm x)
 | of {x y:Str} (h:Nm x) (g:Nm y) (p:Addr) (e:v=.ref p) (q:H p=some (.tup [.str "of",.str x,.str y])):Leaf H v (.of x y)
 | val {a b:Int} (h:Num a) (g:Num b) (p:Addr) (e:v=.ref p) (q:H p=some (.tup [.str "value",.int a,.int b])):Leaf H v (.val a b)
theorem shape {H:Hp}{N:Nat}{v:V}:∀ {e:Ex},IsE H e v→Ok e→e.deep < N + 1→e.size≤100→Leaf H v e∨∃ w ys ks ts os,Node H N e v w ys ks ts os
 | .nm x,⟨p,e,q⟩,.nm h,_,_=>.inl (.nm h p e q)
 | .of x y,⟨p,e,q⟩,.of h g,_,_=>.inl (.of h g p e q)
 | .val a b,⟨p,e,q⟩,.val h g,_,_=>.inl (.val h g p e q)
 | .un a,⟨p,u,e,q,i⟩,.un h,d,s=>.inr ⟨"not",[u],["expr"],[wr a],[pcs a],⟨p,e,q⟩,rfl,rfl,by decide +kernel,
   .cons (.ex i h (by have d:1 + a.deep < N + 1:=d; omega) (by have s:1 + a.size≤100:=s; omega)) .nil,by show 1≤3; decide⟩
 | .bi w a b,⟨p,u,t,e,q,i,j⟩,.bi hw h g,d,s=>.inr ⟨w,[u,t],["expr", "expr"],[wr a,wr b],[pcs a,pcs b],⟨p,e,q⟩,rfl,rfl,zak1 w hw,
   .cons (.ex i h (by have d:1 + max a.deep b.deep < N + 1:=d; omega) (by have s:1 + a.size + b.size≤100:=s; omega)) (.cons (.ex j g (by have d:1 + max a.deep b.deep < N + 1:=d; omega) (by have s:1 + a.size + b.size≤100:=s; omega)) .nil),by show 2≤3; decide⟩
 | .pick a b c,⟨p,u,t,r,e,q,i,j,l⟩,.pick h g k,d,s=>.inr ⟨"pick",[u,t,r],["expr", "expr", "expr"],[wr a,wr b,wr c],[pcs a,pcs b,pcs c],⟨p,e,q⟩,rfl,rfl,by decide +kernel,by
   have d:1 + max a.deep (max b.deep c.deep) < N + 1:=d
   have s:1 + a.size + b.size + c.size≤100:=s
   exact .cons (.ex i h (by omega) (by omega)) (.cons (.ex j g (by omega) (by omega)) (.cons (.ex l k (by omega) (by omega)) .nil)),by show 3≤3; decide⟩
 | .part a n m,⟨p,u,e,q,i⟩,.part h g k,d,s=>.inr ⟨"part",[u,.int n,.int m],["expr", "number", "number"],[wr a,num n,num m],[pcs a,[num n],[num m]],⟨p,e,q⟩,rfl,rfl,by decide +kernel,by
   have d:1 + a.deep < N + 1:=d
   have s:1 + a.size≤100:=s
   exact .cons (.ex i h (by omega) (by omega)) (.cons (.nu g) (.cons (.nu k) .nil)),by show 3≤3; decide⟩
end

section
theorem IsE.tup {H:Hp}:∀ {e:Ex}{v:V},IsE H e v→∃ p xs,v=.ref p∧H p=some (.tup xs)
 | .nm _,_,⟨p,h,q⟩=>⟨p,_,h,q⟩
 | .of _ _,_,⟨p,h,q⟩=>⟨p,_,h,q⟩
 | .val _ _,_,⟨p,h,q⟩=>⟨p,_,h,q⟩
 | .un _,_,⟨p,u,h,q,a⟩=>⟨p,_,h,q⟩
 | .bi _ _ _,_,⟨p,u,t,h,q,a,b⟩=>⟨p,_,h,q⟩
 | .pick _ _ _,_,⟨p,u,t,r,h,q,a,b,c⟩=>⟨p,_,h,q⟩
 | .part _ _ _,_,⟨p,u,h,q,a⟩=>⟨p,_,h,q⟩
theorem zacr:∀ e:Ex,(pcs e).length≤8 * e.size
 | .nm _=>by simp [pcs,Ex.size]
 | .of _ _=>by simp [pcs,Ex.size]
 | .val _ _=>by simp [pcs,Ex.size]
 | .un a=>by have:=zacr a; simp [pcs,Ex.size]; omega
 | .bi w a b=>by have:=zacr a; have:=zacr b; simp [pcs,Ex.size]; omega
 | .pick a b c=>by have:=zacr a; have:=zacr b; have:=zacr c; simp [pcs,Ex.size]; omega
 | .part a _ _=>by have:=zacr a; simp [pcs,Ex.size]; omega
theorem Prt.olen {H:Hp}{N:Nat}{k y t o}:Prt H N k y t o→o.length≤800
 | .ex (e:=e) h a b c=>Nat.le_trans (zacr e) (by omega)
 | .nu h=>by simp
theorem Prts.olen {H:Hp}{N:Nat}:∀ {ks ys ts os},Prts H N ks ys ts os→∀ i,(os.take i).flatten.length≤800 * os.length
 | _,_,_,_,.nil,i=>by simp
 | _,_,_,_,.cons p r,0=>by simp
 | _,_,_,_,.cons p r,i + 1=>by
  have a:=Prts.olen r i
  have b:=Prt.olen p
  simp only [List.take_succ_cons,List.flatten_cons,List.length_append,List.length_cons]
  omega
theorem Prts.get' {H:Hp}{N:Nat}:∀ {ks ys ts os},Prts H N ks ys ts os→∀ {i:Nat}{y:V},ys[i]?=some y→∃ k t o,ts[i]?=some t∧os[i]?=some o∧Prt H N k y t o
 | _,_,_,_,.nil,i,y,g=>by simp at g
 | _,_,_,_,.cons p r,0,y,g=>by
  simp at g; subst g; exact ⟨_,_,_,rfl,rfl,p⟩
 | _,_,_,_,.cons p r,i + 1,y,g=>by
  obtain ⟨k,t,o,a,b,c⟩:=Prts.get' r (i:=i) (by simpa using g)
  exact ⟨k,t,o,by simpa using a,by simpa using b,c⟩
def spPc (N:Nat):Sp:=fun vs H Q _=>∃ (v:V) (e:Ex),vs=[v]∧IsE H e v∧Ok e∧e.deep < N∧e.size≤100∧∀ r H',Ch [] H H'→H' r=some (.lst ((pcs e).map V.str))→Q (.ref r) H'
section
variable {P:Program}{w:World}{K:PySem.W.Frag}{mg:Str→Option Value}{base:Heap}{f:Addr}{fd:FuncData}{k:Nat}
theorem zaja:bootBuiltins "str" = some (.type "str"):=by decide +kernel
theorem zajb:("str" : Str) ≠ "__name__" := by decide +kernel
theorem zajc:Nd "str" := by decide +kernel
theorem zabd:bootBuiltins "isinstance" = some (.builtin "isinstance"):=by decide +kernel
theorem zabe:("isinstance" : Str) ≠ "__name__" := by decide +kernel
theorem zabf:Nd "isinstance" := by decide +kernel
theorem zac1:Nd "_law_pieces" := by decide +kernel
theorem av40:AF (defScope (top 40)) ["_law_expr_here", "_law_pieces_here", "_law_part"]:=⟨by decide +kernel⟩
theorem gl40:AG (defScope (top 40)) ["str", "isinstance", "int", "_law_pieces"]:=⟨by decide +kernel⟩
theorem scPc:FnScope ["_law_expr_here", "_law_pieces_here", "_law_part"] ["_law_expr_here"] (defScope (top 40)):=⟨rfl,rfl,rfl,by decide +kernel,rfl,by decide +kernel,by decide +kernel⟩
theorem zaw6 {N:Nat} (F:Fun K "_law_pieces" "_law_pieces" (top 40) f fd) (D_law_pieces:DefOk P w K mg base CX0 k "_law_pieces" ["_law_expr_here"] (spPc N))
  (z_isinstance:mg "isinstance" = none) (z_int:mg "int" = none) (z_str:mg "str" = none) :
  FnOk P w K mg base CX0 (k + 1) f fd ["_law_expr_here"] (spPc (N + 1)):=by
 have nd:=scPc.nd
 refine F.ok scPc (fun vs H Q E h=>by obtain ⟨v,e,rfl,_⟩:=h; rfl) (fun cdv A outer s H vs Q E hr h=>?_)
 obtain ⟨v,e,rfl,hi,hok,hd,hs,q⟩:=h
 refine ⟨_,(Pr.h (zaad (zaat (zaam zabp (zaar zabw (qv av40 0 rfl) zaae (fun _ _=>rfl)) zaaf (nomark _)) (zaah (zaao (zaay (zaaa (zaar zabw (qv av40 0 rfl) zaae (fun _ _=>rfl)) zaac zaaq)))) zaap) (zaad (zaat (zaam zabp (zaar zabw (qv av40 0 rfl) zaae (fun _ _=>rfl)) zaaf (nomark _)) (zaah (zaao (zaay (zaaa (zaar zabw (qv av40 0 rfl) zaae (fun _ _=>rfl)) (zaaa zaaf (zaaa (zaar zabw (qv av40 0 rfl) zaae (fun _ _=>rfl)) zaac zaaq) zaab) zaaq)))) zaap) (zaad (zaat (zaam zabp (zaar zabw (qv av40 0 rfl) zaae (fun _ _=>rfl)) zaaf (nomark _)) (zaah (zaao (zaay (zaaa (zaba zacv (gl40.g 0 rfl) z_str zaja (zaaa (zaar zabw (qv av40 0 rfl) zaae (fun _ _=>rfl)) zaac zaaq) zajb zajc) (zaaa zaaf (zaaa (zaba zacv (gl40.g 0 rfl) z_str zaja (zaaa (zaar zabw (qv av40 0 rfl) zaae (fun _ _=>rfl)) zaac zaaq) zajb zajc) zaac zaaz) zaab) zaaz)))) zaap) (zaad (zaan (i:=1) nd rfl (av40.l 1 rfl) (zaay (zaaa zaaf (zaaa (zaar zabw (qv av40 0 rfl) zaae (fun _ _=>rfl)) zaac zaaq) zaab))) (zaad (zab7 PassesOwn.never rfl (zae8 (zaa1 zaqy (qv av40 0 rfl) (zaa4 zaae) zabb)) (zabc (i:=2) nd rfl (av40.l 2 rfl)) (zaah (zaat (zab5 (zaas zaes (gl40.g 1 rfl) z_isinstance zabd (zaaa (qv av40 2 rfl) (zaaa (zaci (v:=.ty "int") (gl40.g 2 rfl) z_int zagf rfl zagg zagh) zaac)) zabe zabf)) (zaah (zaa7 (zabz PySem.F.plainAttrs_list PySem.F.slot_list_append PySem.F.type_list_append zaby (qv av40 1 rfl) (zaaa (zaba zacv (gl40.g 0 rfl) z_str zaja (zaaa (qv av40 2 rfl) zaac zaag) zajb zajc) zaac zaaz)))) (zaah (zaa7 (zabz PySem.F.plainAttrs_list PySem.F.slot_list_extend PySem.F.type_list_extend zaeo (qv av40 1 rfl) (zaaa (zaak D_law_pieces hr (gl40.g 3 rfl) pass0 (zaaa (qv av40 2 rfl) zaac zaag) zac1) zaac zaaz))))))) (zaah (zaao (zaaj zac3 (qv av40 1 rfl) (zaay (zaaa zaaf zaac zaab))))))))))),?_⟩
 (try dsimp only [cxOf])
 rcases shape hi hok hd hs with lf | ⟨wd,ys,ks,ts,os,nod⟩
 ·cases lf with
  | nm h p ev hp =>
   subst ev
   walk_at "rd"
   exact q _ _ (by walk_at "ch") zaai
  | of h g p ev hp =>
   subst ev
   walk_at "rd"
   exact q _ _ (by walk_at "ch") zaai
  | val h g p ev hp =>
   subst ev
   have:=zahv h
   have:=zahv g
   walk_at "rd"
   exact q _ _ (by walk_at "ch") zaai
 ·obtain ⟨p,rfl,hp⟩:=nod.plc
  obtain ⟨w1,w2,w3,w4⟩:=zap7 _ nod.form
  walk_at "rd"
  refine zaeh w1 ?_
  walk_at "rd"
  refine zaeh w2 ?_
  walk_at "rd"
  refine zaeh w3 ?_
  walk_at "rd"
  rename_i pl hpl pt hpt
  obtain ⟨le1,le2,le3⟩:=nod.prt.len
  have fw:=nod.few
  refine zaeq (xs:=ys) (fun i σ H'=>∃ u2,σ=[some (.ref p),some (.ref pl),u2]∧H' pl=some (.lst (((["(",wd]:List Str)++(os.take i).flatten).map V.str))∧H' pt=some (.tup ys)∧Ch [] H H') ?_ ?_ ?_ ?_
  ·exact ⟨_,rfl,by walk_at "get",by rw [zaai,cut1],by walk_at "ch"⟩
  ·rintro i σ H' hi ⟨u2,rfl,b1,b2,c1⟩
   exact SqT.of b2
  ·rintro i y σ H' hy ⟨u2,rfl,b1,b2,c1⟩
   obtain ⟨kd,t,o,ht,ho,pr⟩:=nod.prt.get' hy
   have ol:=nod.prt.olen i
   have pol:=pr.olen
   have tk:((["(",wd]:List Str)++(os.take i).flatten).map V.str++o.map V.str=((["(",wd]:List Str)++(os.take (i + 1)).flatten).map V.str:=by
    rw [List.take_succ,ho]; simp
   have l1:(((["(",wd]:List Str)++(os.take i).flatten).map V.str).length≤3000:=by
    rw [List.length_map,List.length_append]
    simp only [List.length_cons,List.length_nil]
    omega
   have l2:(o.map V.str).length≤800:=by rw [List.length_map]; exact pol
   cases pr with
   | ex h a b c =>
    have hi':=h.kt (KT.same c1)
    obtain ⟨py,xs,rfl,hxs⟩:=hi'.tup
    walk_at "rd"
    exact ⟨by rw [zaai,tk],by walk_at "get",by walk_at "ch"⟩
   | nu h =>
    have lg:=zahv h
    walk_at "rd"
    exact ⟨by rw [zaai,← tk]; rfl,by walk_at "get",by walk_at "ch"⟩
  ·rintro σ H' ⟨u2,rfl,b1,b2,c1⟩
   have e:os.take ys.length=os:=List.take_of_length_le (by omega)
   have ol:=nod.prt.olen ys.length
   rw [e] at b1 ol
   have l1:(((["(",wd]:List Str)++os.flatten).map V.str).length≤3000:=by
    rw [List.length_map,List.length_append]
    simp only [List.length_cons,List.length_nil]
    omega
   walk_at "rd"
   refine q _ _ (by walk_at "ch") ?_
   rw [zaai,nod.pc]
   simp
end
end

section
theorem zadg {x y:Str} (h:x.cps.toList=y.cps.toList):x=y:=by
 cases x; cases y
 exact congrArg Str.mk (Array.toList_inj.mp h)
theorem zaa5 (x y:Str):(x++y).cps.toList=x.cps.toList++y.cps.toList:=by show (x.cps++y.cps).toList=_; simp
theorem zak2 {c:Nat}:∀ {X Y R S:List Nat},c ∉ X→c ∉ Y→X++c :: R=Y++c :: S→X=Y∧R=S
 | [],[],_,_,_,_,h=>by simpa using h
 | [],y :: Y,_,_,_,hy,h=>by simp at h; exact absurd h.1 (by intro z; exact hy (by simp [z]))
 | x :: X,[],_,_,hx,_,h=>by simp at h; exact absurd h.1 (by intro z; exact hx (by simp [z]))
 | x :: X,y :: Y,R,S,hx,hy,h=>by
  simp at h
  obtain ⟨a,b⟩:=zak2 (X:=X) (Y:=Y) (fun z=>hx (by simp [z])) (fun z=>hy (by simp [z])) h.2
  exact ⟨by rw [h.1,a],b⟩
theorem zad4 (c:Nat) (x y:Str) (r:List Str):(Str.join ⟨#[c]⟩ (x :: y :: r)).cps.toList=x.cps.toList++c :: (Str.join ⟨#[c]⟩ (y :: r)).cps.toList:=by
 show ((x++⟨#[c]⟩)++Str.join ⟨#[c]⟩ (y :: r)).cps.toList=_
 rw [zaa5,zaa5]
 simp
theorem zajd (c:Nat):∀ (a b:List Str),a≠[]→b≠[]→(∀ x∈a,c ∉ x.cps.toList)→(∀ x∈b,c ∉ x.cps.toList)→Str.join ⟨#[c]⟩ a=Str.join ⟨#[c]⟩ b→a=b
 | [],_,h,_,_,_,_=>absurd rfl h
 | _,[],_,h,_,_,_=>absurd rfl h
 | [x],[y],_,_,_,_,h=>by have h:x=y:=h; rw [h]
 | [x],y :: z :: r,_,_,hx,_,h=>by
  have h:x=Str.join ⟨#[c]⟩ (y :: z :: r):=h
  have:=congrArg (fun t:Str=>t.cps.toList) h
  try dsimp only at this
  rw [zad4] at this
  exact absurd (by rw [this]; simp) (hx x (by simp))
 | x :: w :: q,[y],_,_,_,hy,h=>by
  have h:Str.join ⟨#[c]⟩ (x :: w :: q)=y:=h
  have:=congrArg (fun t:Str=>t.cps.toList) h
  try dsimp only at this
  rw [zad4] at this
  exact absurd (by rw [← this]; simp) (hy y (by simp))
 | x :: w :: q,y :: z :: r,_,_,hx,hy,h=>by
  have:=congrArg (fun t:Str=>t.cps.toList) h
  try dsimp only at this
  rw [zad4,zad4] at this
  obtain ⟨a,b⟩:=zak2 (hx x (by simp)) (hy y (by simp)) this
  have i:=zajd c (w :: q) (z :: r) (by simp) (by simp) (fun t ht=>hx t (by simp [ht])) (fun t ht=>hy t (by simp [ht])) (zadg b)
  rw [zadg a,i]
def isL (c:Nat):Bool:=decide (97≤c) && decide (c≤122)
def isF (c:Nat):Bool:=decide (48≤c) && decide (c≤57)
theorem zaj0 {c:Nat}:isL c=true↔97≤c∧c≤122:=by unfold isL; simp
theorem zagi {c:Nat}:isF c=true↔48≤c∧c≤57:=by unfold isF; simp
theorem LF {c:Nat} (h:isL c=true):isF c=false:=by
 have:=zaj0.mp h
 cases e:isF c with
 | false=>rfl
 | true=>have:=zagi.mp e; omega
inductive Run:List Nat→List Nat→Prop
 | l {B C:List Nat} (n:B≠[]) (h:∀ c∈B,isL c=true) (s:∀ c,C.head?=some c→isL c=false):Run B C
 | f {B C:List Nat} (n:B≠[]) (h:∀ c∈B,isF c=true) (s:∀ c,C.head?=some c→isF c=false):Run B C
 | s {c:Nat}{C:List Nat} (h:isL c=false) (g:isF c=false):Run [c] C
theorem Run.ne {B C:List Nat} (r:Run B C):B≠[]:=by
 cases r with
 | l n _ _=>exact n
 | f n _ _=>exact n
 | s _ _=>simp
inductive Tk where
 | nm (x:Str) | wd (x:Str) | nu (n:Int) | sg (x:Str)
 deriving DecidableEq
def Tk.t:Tk→Str
 | .nm x=>x | .wd x=>x | .nu n=>num n | .sg x=>x
def Tk.k:Tk→Str
 | .nm _ => "name" | .wd _ => "word" | .nu _ => "number" | .sg x=>x
def Tk.v:Tk→V
 | .nm x=>.str x | .wd x=>.str x | .nu n=>.int n | .sg x=>.str x
def SIGS:List Str:=["(", ")", ".", ":"]
def Tk.ok:Tk→Prop
 | .nm x=>Nm x | .wd x=>x∈WORDS | .nu n=>Num n | .sg x=>x∈SIGS
def Tk.s:Tk→Nat
 | .nm _=>2 | .wd _=>2 | .nu _=>1 | .sg _=>0
abbrev TkAt (H:Hp) (t:Tk) (p:Addr):Prop:=H p=some (.tup [.str t.k,t.v])
def tks:Ex→List Tk
 | .nm x=>[.nm x]
 | .of x y=>[.nm x,.sg ".",.nm y]
 | .val a b=>[.nu a,.sg ":",.nu b]
 | .un a=>[.sg "(",.wd "not"]++[tks a].flatten++[.sg ")"]
 | .bi w a b=>[.sg "(",.wd w]++[tks a,tks b].flatten++[.sg ")"]
 | .pick a b c=>[.sg "(",.wd "pick"]++[tks a,tks b,tks c].flatten++[.sg ")"]
 | .part a l w=>[.sg "(",.wd "part"]++[tks a,[.nu l],[.nu w]].flatten++[.sg ")"]
theorem zagj:∀ e:Ex,(tks e).map Tk.t=pcs e
 | .nm x=>rfl
 | .of x y=>rfl
 | .val a b=>rfl
 | .un a=>by have:=zagj a; simp [tks,pcs,this,Tk.t]
 | .bi w a b=>by have:=zagj a; have:=zagj b; simp [tks,pcs, *,Tk.t]
 | .pick a b c=>by have:=zagj a; have:=zagj b; have:=zagj c; simp [tks,pcs, *,Tk.t]
 | .part a l w=>by have:=zagj a; simp [tks,pcs, *,Tk.t]
theorem zani (e:Ex):(tks e).length≤8 * e.size:=by
 have:=zacr e
 rw [← zagj,List.length_map] at this
 exact this
theorem zacd:Str.ofString "(" ∈ SIGS∧Str.ofString ")" ∈ SIGS∧Str.ofString "." ∈ SIGS∧Str.ofString ":" ∈ SIGS:=by decide +kernel
theorem zanj:∀ w∈BIW,w∈WORDS:=by decide +kernel
theorem zagk:Str.ofString "not" ∈ WORDS∧Str.ofString "pick" ∈ WORDS∧Str.ofString "part" ∈ WORDS:=by decide +kernel
theorem zaew:∀ {e:Ex},Ok e→∀ t∈tks e,t.ok
 | _,.nm h,t,ht=>by simp [tks] at ht; subst ht; exact h
 | _,.of h g,t,ht=>by simp [tks] at ht; rcases ht with rfl | rfl | rfl <;> first | exact h | exact g | exact zacd.2.2.1
 | _,.val h g,t,ht=>by simp [tks] at ht; rcases ht with rfl | rfl | rfl <;> first | exact h | exact g | exact zacd.2.2.2
 | _,.un h,t,ht=>by
  simp [tks] at ht
  rcases ht with rfl | rfl | ht | rfl
  ·exact zacd.1
  ·exact zagk.1
  ·exact zaew h t ht
  ·exact zacd.2.1
 | _,.bi hw h g,t,ht=>by
  simp [tks] at ht
  rcases ht with rfl | rfl | ht | ht | rfl
  ·exact zacd.1
  ·exact zanj _ hw
  ·exact zaew h t ht
  ·exact zaew g t ht
  ·exact zacd.2.1
 | _,.pick h g i,t,ht=>by
  simp [tks] at ht
  rcases ht with rfl | rfl | ht | ht | ht | rfl
  ·exact zacd.1
  ·exact zagk.2.1
  ·exact zaew h t ht
  ·exact zaew g t ht
  ·exact zaew i t ht
  ·exact zacd.2.1
 | _,.part h g i,t,ht=>by
  simp [tks] at ht
  rcases ht with rfl | rfl | ht | rfl | rfl | rfl
  ·exact zacd.1
  ·exact zagk.2.2
  ·exact zaew h t ht
  ·exact g
  ·exact i
  ·exact zacd.2.1
def cT:Option Tk→List Nat
 | none=>[32]
 | some t=>t.t.cps.toList
def ctx (cs:List (Option Tk)):List Nat:=cs.flatMap cT
theorem zank (a b:List (Option Tk)):ctx (a++b)=ctx a++ctx b:=by unfold ctx; rw [List.flatMap_append]
theorem zahw (a:Option Tk) (b:List (Option Tk)):ctx (a :: b)=cT a++ctx b:=by unfold ctx; rw [List.flatMap_cons]
def Sep:List (Option Tk)→Prop
 | some a :: some b :: r=>(a.s=b.s→a.s=0)∧Sep (some b :: r)
 | _ :: r=>Sep r
 | []=>True
theorem zagl {n:Int} (h:Num n):(num n).cps.toList=(Nat.toDigits 10 n.toNat).map Char.toNat:=by
 have:=PySem.W.KIN.signs_num n.toNat
 rw [Int.toNat_of_nonneg h.n0] at this
 exact this
theorem zaj1 {n:Int} (h:Num n):∀ c∈(num n).cps.toList,isF c=true:=by
 rw [zagl h]
 intro c hc
 obtain ⟨ch,hch,rfl⟩:=List.mem_map.mp hc
 have r:=PyProof.Rows.digit_range (Nat.isDigit_of_mem_toDigits (by decide) (by decide) hch)
 exact zagi.mpr r
theorem zaq2 {n:Int} (h:Num n):(num n).cps.toList≠[]:=by
 rw [zagl h]
 intro z
 exact Nat.toDigits_ne_nil (List.map_eq_nil_iff.mp z)
theorem zadr:∀ x∈WORDS,x.cps.toList≠[]∧∀ c∈x.cps.toList,isL c=true:=by decide +kernel
theorem zak3:∀ x∈SIGS,∃ c,x.cps.toList=[c]∧isL c=false∧isF c=false∧c≠32:=by
 intro x hx
 simp only [SIGS,List.mem_cons,List.not_mem_nil,or_false] at hx
 rcases hx with rfl | rfl | rfl | rfl
 ·exact ⟨40,by decide +kernel⟩
 ·exact ⟨41,by decide +kernel⟩
 ·exact ⟨46,by decide +kernel⟩
 ·exact ⟨58,by decide +kernel⟩
theorem Nm.cps {x:Str} (h:Nm x):x.cps.toList≠[]∧∀ c∈x.cps.toList,isL c=true:=⟨fun z=>by
 have:=h.l1
 rw [← Strl,z] at this
 simp at this,fun c hc=>zaj0.mpr (h.lt.al c hc)⟩
theorem zaq3 {t:Tk} (h:t.ok) {C:List Nat} (n:∀ c,C.head?=some c→(t.s=2→isL c=false)∧(t.s=1→isF c=false)):Run t.t.cps.toList C:=by
 cases t with
 | nm x=>exact .l (Nm.cps h).1 (Nm.cps h).2 fun c hc=>(n c hc).1 rfl
 | wd x=>exact .l (zadr x h).1 (zadr x h).2 fun c hc=>(n c hc).1 rfl
 | nu m=>exact .f (zaq2 h) (zaj1 h) fun c hc=>(n c hc).2 rfl
 | sg x =>
  obtain ⟨c,e,a,b,_⟩:=zak3 x h
  show Run x.cps.toList C
  rw [e]
  exact .s a b
theorem zagm {t:Tk} (h:t.ok):∃ c r,t.t.cps.toList=c :: r∧c≠32∧(isL c=true↔t.s=2)∧(isF c=true↔t.s=1):=by
 have key:∀ (l:List Nat),l≠[]→∃ c r,l=c :: r:=fun l hl=>by
  cases l with
  | nil=>exact absurd rfl hl
  | cons c r=>exact ⟨c,r,rfl⟩
 cases t with
 | nm x =>
  obtain ⟨c,r,e⟩:=key _ (Nm.cps h).1
  have hc:=(Nm.cps h).2 c (by rw [e]; simp)
  exact ⟨c,r,e,fun z=>by rw [z] at hc; exact absurd hc (by decide),⟨fun _=>rfl,fun _=>hc⟩,⟨fun z=>(by rw [LF hc] at z; cases z),fun z=>(by cases z)⟩⟩
 | wd x =>
  obtain ⟨c,r,e⟩:=key _ (zadr x h).1
  have hc:=(zadr x h).2 c (by rw [e]; simp)
  exact ⟨c,r,e,fun z=>by rw [z] at hc; exact absurd hc (by decide),⟨fun _=>rfl,fun _=>hc⟩,⟨fun z=>(by rw [LF hc] at z; cases z),fun z=>(by cases z)⟩⟩
 | nu m =>
  obtain ⟨c,r,e⟩:=key _ (zaq2 h)
  have hc:=zaj1 h c (by rw [e]; simp)
  exact ⟨c,r,e,fun z=>by rw [z] at hc; exact absurd hc (by decide),⟨fun z=>(by rw [LF z] at hc; cases hc),fun z=>(by cases z)⟩,⟨fun _=>rfl,fun _=>hc⟩⟩
 | sg x =>
  obtain ⟨c,e,a,b,n⟩:=zak3 x h
  exact ⟨c,[],e,n,⟨fun z=>(by rw [a] at z; cases z),fun z=>(by cases z)⟩,⟨fun z=>(by rw [b] at z; cases z),fun z=>(by cases z)⟩⟩
theorem Sep.tail {a:Option Tk}{r:List (Option Tk)} (h:Sep (a :: r)):Sep r:=by
 cases a with
 | none=>exact h
 | some a =>
  cases r with
  | nil=>trivial
  | cons b r =>
   cases b with
   | none=>exact h
   | some b=>exact h.2
theorem zas3 {a:Option Tk}{r:List (Option Tk)} (h:Sep (a :: r)) (ok:∀ t,some t∈a :: r→t.ok):Run (cT a) (ctx r):=by
 cases a with
 | none=>exact .s (by decide) (by decide)
 | some t =>
  refine zaq3 (ok t (by simp)) fun c hc=>?_
  cases r with
  | nil=>cases hc
  | cons b r =>
   rw [zahw] at hc
   cases b with
   | none =>
    have:c=32:=by simpa [cT] using hc.symm
    subst this
    exact ⟨fun _=>by decide,fun _=>by decide⟩
   | some b =>
    obtain ⟨d,q,e,_,h1,h2⟩:=zagm (ok b (by simp))
    have hd:c=d:=by
     simp only [cT,e] at hc
     simpa using hc.symm
    subst hd
    have hs:=h.1
    refine ⟨fun z=>?_,fun z=>?_⟩
    ·cases e2:isL c with
     | false=>rfl
     | true =>
      have:=h1.mp e2
      have:=hs (by omega)
      omega
    ·cases e2:isF c with
     | false=>rfl
     | true =>
      have:=h2.mp e2
      have:=hs (by omega)
      omega
end

section
theorem zak4 {a b:Nat}:decide ((⟨#[a]⟩:Str).cps.toList < (⟨#[b]⟩:Str).cps.toList)=decide (a < b):=by
 show decide ([a] < [b])=_
 by_cases h:a < b
 ·rw [decide_eq_true h]; exact decide_eq_true (List.cons_lt_cons_iff.mpr (.inl h))
 ·rw [decide_eq_false h]
  refine decide_eq_false fun z=>?_
  rcases List.cons_lt_cons_iff.mp z with z | ⟨_,z⟩
  ·exact h z
  ·exact absurd z (List.not_lt_nil [])
theorem ofS1:Str.ofString "a" = ⟨#[97]⟩∧Str.ofString "z" = ⟨#[122]⟩∧Str.ofString "0" = ⟨#[48]⟩∧Str.ofString "9" = ⟨#[57]⟩∧Str.ofString " " = ⟨#[32]⟩:=by decide +kernel
section
variable {P:Program}{w:World}{K:PySem.W.Frag}{mg:Str→Option Value}{base:Heap}{f:Addr}{fd:FuncData}{k:Nat}
theorem zads:Nd "is_letter" := by decide +kernel
theorem zadt:Nd "is_figure" := by decide +kernel
theorem av22:AF (defScope (top 22)) ["sign"]:=⟨by decide +kernel⟩
def spIsL:Sp:=fun vs H Q _=>∃ c:Nat,vs=[.str ⟨#[c]⟩]∧Q (.bl (isL c)) H
theorem scIsL:FnScope ["sign"] ["sign"] (defScope (top 22)):=⟨rfl,rfl,rfl,by decide +kernel,rfl,by decide +kernel,by decide +kernel⟩
theorem zavi (F:Fun K "is_letter" "is_letter" (top 22) f fd):FnOk P w K mg base CX0 (k + 1) f fd ["sign"] spIsL:=by
 have nd:=scIsL.nd
 refine F.ok scIsL (fun vs H Q E h=>by obtain ⟨c,rfl,_⟩:=h; rfl) (fun cdv A outer s H vs Q E hr h=>?_)
 obtain ⟨c,rfl,q⟩:=h
 refine ⟨_,(Pr.h (zaah (zaao (zaiz zak0 zak0 zaaf (qv av22 0 rfl) zaaf)))),?_⟩
 (try dsimp only [cxOf])
 walk_at "rd"
 obtain ⟨e1,e2,e3,e4,_⟩:=ofS1
 rw [e1,zak4]
 refine ite2 (fun hc=>?_) (fun hc=>?_)
 ·have hc:¬ c < 97:=by simpa using hc
  walk_at "rd"
  rw [e2,zak4]
  have e:isL c=!decide (122 < c):=by
   unfold isL
   rw [decide_eq_true (show 97≤c by omega),Bool.true_and]
   by_cases z:c≤122
   ·rw [decide_eq_true z,decide_eq_false (by omega)]; rfl
   ·rw [decide_eq_false z,decide_eq_true (by omega)]; rfl
  rw [e] at q
  exact q
 ·have hc:c < 97:=by simpa using hc
  have e:isL c=false:=by
   unfold isL
   rw [decide_eq_false (show ¬ 97≤c by omega)]; rfl
  rw [e] at q
  exact q
theorem av23:AF (defScope (top 23)) ["sign"]:=⟨by decide +kernel⟩
def spIsF:Sp:=fun vs H Q _=>∃ c:Nat,vs=[.str ⟨#[c]⟩]∧Q (.bl (isF c)) H
theorem scIsF:FnScope ["sign"] ["sign"] (defScope (top 23)):=⟨rfl,rfl,rfl,by decide +kernel,rfl,by decide +kernel,by decide +kernel⟩
theorem zavj (F:Fun K "is_figure" "is_figure" (top 23) f fd):FnOk P w K mg base CX0 (k + 1) f fd ["sign"] spIsF:=by
 have nd:=scIsF.nd
 refine F.ok scIsF (fun vs H Q E h=>by obtain ⟨c,rfl,_⟩:=h; rfl) (fun cdv A outer s H vs Q E hr h=>?_)
 obtain ⟨c,rfl,q⟩:=h
 refine ⟨_,(Pr.h (zaah (zaao (zaiz zak0 zak0 zaaf (qv av23 0 rfl) zaaf)))),?_⟩
 (try dsimp only [cxOf])
 walk_at "rd"
 obtain ⟨e1,e2,e3,e4,_⟩:=ofS1
 rw [e3,zak4]
 refine ite2 (fun hc=>?_) (fun hc=>?_)
 ·have hc:¬ c < 48:=by simpa using hc
  walk_at "rd"
  rw [e4,zak4]
  have e:isF c=!decide (57 < c):=by
   unfold isF
   rw [decide_eq_true (show 48≤c by omega),Bool.true_and]
   by_cases z:c≤57
   ·rw [decide_eq_true z,decide_eq_false (by omega)]; rfl
   ·rw [decide_eq_false z,decide_eq_true (by omega)]; rfl
  rw [e] at q
  exact q
 ·have hc:c < 48:=by simpa using hc
  have e:isF c=false:=by
   unfold isF
   rw [decide_eq_false (show ¬ 48≤c by omega)]; rfl
  rw [e] at q
  exact q
theorem av24:AF (defScope (top 24)) ["row", "at", "end"]:=⟨by decide +kernel⟩
theorem gl24:AG (defScope (top 24)) ["is_letter", "len", "is_figure"]:=⟨by decide +kernel⟩
def spRE:Sp:=fun vs H Q _=>∃ (x:Str) (A B C:List Nat),vs=[.str x,.int (A.length:Int)]∧x.cps.toList=A++(B++C)∧Run B C∧x.length≤20000∧Q (.int ((A.length + B.length:Nat):Int)) H
theorem scRE:FnScope ["row", "at", "end"] ["row", "at"] (defScope (top 24)):=⟨rfl,rfl,rfl,by decide +kernel,rfl,by decide +kernel,by decide +kernel⟩
theorem zaw7 (F:Fun K "run_end" "run_end" (top 24) f fd) (Dis_letter:DefOk P w K mg base CX0 k "is_letter" ["sign"] spIsL) (Dis_figure:DefOk P w K mg base CX0 k "is_figure" ["sign"] spIsF) (z_len:mg "len" = none):FnOk P w K mg base CX0 (k + 1) f fd ["row", "at"] spRE:=by
 have nd:=scRE.nd
 refine F.ok scRE (fun vs H Q E h=>by obtain ⟨x,A,B,C,rfl,_⟩:=h; rfl) (fun cdv A outer s H vs Q E hr h=>?_)
 obtain ⟨x,A,B,C,rfl,ex,rn,lx,q⟩:=h
 refine ⟨_,(Pr.h (zab0 (zaan (i:=2) nd rfl (av24.l 2 rfl) (zaaj zacc (qv av24 1 rfl) zaae)) (zab0 (zaev PassesOwn.never (zacx (zadc (zaam zao9 (qv av24 2 rfl) (zaas zabt (gl24.g 1 rfl) z_len PySem.boot_len (zaaa (qv av24 0 rfl) zaac zaag) zab3 zab4) (nomark _)) (zadc (zab5 (zaak Dis_letter hr (gl24.g 0 rfl) pass0 (zaaa (zaar zacf (qv av24 0 rfl) (qv av24 1 rfl) (fun _ _=>rfl)) zaac zaaq) zads)) (zadd (zab5 (zaak Dis_letter hr (gl24.g 0 rfl) pass0 (zaaa (zaar zacf (qv av24 0 rfl) (qv av24 2 rfl) (fun _ _=>rfl)) zaac zaaq) zads)))))) (zaah (zamz (i:=2) nd rfl (av24.l 2 rfl) zaae zaqu))) (zab0 (zaev PassesOwn.never (zacx (zadc (zaam zao9 (qv av24 2 rfl) (zaas zabt (gl24.g 1 rfl) z_len PySem.boot_len (zaaa (qv av24 0 rfl) zaac zaag) zab3 zab4) (nomark _)) (zadc (zab5 (zaak Dis_figure hr (gl24.g 2 rfl) pass0 (zaaa (zaar zacf (qv av24 0 rfl) (qv av24 1 rfl) (fun _ _=>rfl)) zaac zaaq) zadt)) (zadd (zab5 (zaak Dis_figure hr (gl24.g 2 rfl) pass0 (zaaa (zaar zacf (qv av24 0 rfl) (qv av24 2 rfl) (fun _ _=>rfl)) zaac zaaq) zadt)))))) (zaah (zamz (i:=2) nd rfl (av24.l 2 rfl) zaae zaqu))) (zaah (zaao (qv av24 2 rfl))))))),?_⟩
 (try dsimp only [cxOf])
 have lx2:x.length=A.length + (B.length + C.length):=by rw [← Strl,ex,List.length_append,List.length_append]
 have bn:0 < B.length:=List.length_pos_iff.mpr rn.ne
 obtain ⟨b0,B',eB⟩:∃ b0 B',B=b0 :: B':=by
  cases B with
  | nil=>exact absurd rfl rn.ne
  | cons b r=>exact ⟨b,r,rfl⟩
 have at0:atI x.cps.toList (A.length:Int)=some b0:=zack (by rw [ex,List.getElem?_append_right (Nat.le_refl _),Nat.sub_self,eB]; rfl)
 have atE:∀ i c,(B++C)[i]?=some c→atI x.cps.toList ((A.length + i:Nat):Int)=some c:=fun i c h=>zack (by rw [ex,List.getElem?_append_right (by omega),Nat.add_sub_cancel_left]; exact h)
 have sz:x.length≤sizeLine:=by rw [sizeLine_eq]; omega
 walk_at "rd"
 refine zacw (fun σ H'=>H'=H∧σ=[some (.str x),some (.int (A.length:Int)),some (.int ((A.length + 1:Nat):Int))]) ?_ ?_
 ·walk_at "rd"
 rintro σ H1 ⟨rfl,rfl⟩
 have runL:isL b0=true→(∀ c∈B,isL c=true)∧∀ c,C.head?=some c→isL c=false:=fun h=>by
  cases rn with
  | l _ a s=>exact ⟨a,s⟩
  | f _ a _=>have:=a b0 (by rw [eB]; simp); rw [LF h] at this; cases this
  | s a _ =>
   have:b0=_:=(List.cons.inj eB).1.symm
   rw [this,a] at h; cases h
 have runF:isF b0=true→(∀ c∈B,isF c=true)∧∀ c,C.head?=some c→isF c=false:=fun h=>by
  cases rn with
  | l _ a _=>have:=a b0 (by rw [eB]; simp); rw [LF this] at h; cases h
  | f _ a s=>exact ⟨a,s⟩
  | s _ g =>
   have:b0=_:=(List.cons.inj eB).1.symm
   rw [this,g] at h; cases h
 have stop:∀ (p:Nat→Bool),(∀ c∈B,p c=true)→(∀ c,C.head?=some c→p c=false)→∀ i c,i≤B.length→(B++C)[i]?=some c→(p c=true↔i < B.length):=fun p h1 h2 i c hi hc=>by
  by_cases z:i < B.length
  ·rw [List.getElem?_append_left z] at hc
   exact ⟨fun _=>z,fun _=>h1 c (List.mem_of_getElem? hc)⟩
  ·have e:i=B.length:=by omega
   rw [e,List.getElem?_append_right (Nat.le_refl _),Nat.sub_self] at hc
   have:=h2 c (by rw [List.head?_eq_getElem?]; exact hc)
   exact ⟨fun w=>(by rw [this] at w; cases w),fun w=>absurd w z⟩
 have key:∀ i,i≤B.length→A.length + i < x.length→∃ c,(B++C)[i]?=some c:=fun i _ h=>⟨_,List.getElem?_eq_getElem (by rw [List.length_append]; omega)⟩
 refine zacw (fun σ H'=>H'=H1∧∃ i:Nat,σ=[some (.str x),some (.int (A.length:Int)),some (.int ((A.length + i:Nat):Int))]∧((isL b0=true∧i=B.length)∨(isL b0=false∧i=1))) ?_ ?_
 ·refine ⟨(fun m σ H'=>H'=H1∧∃ i:Nat,σ=[some (.str x),some (.int (A.length:Int)),some (.int ((A.length + i:Nat):Int))]∧1≤i∧i≤B.length∧(isL b0=false→i=1)∧m=B.length - i),⟨_,rfl,1,rfl,Nat.le_refl _,bn,fun _=>rfl,rfl⟩,?_⟩
  ·rintro m σ H' ⟨rfl,i,rfl,i1,iB,i0,rfl⟩
   walk_at "rd"
   refine ite2 (fun hc=>?_) (fun hc=>?_)
   ·have hc:A.length + i < x.length:=by
     have:((A.length + i:Nat):Int) < (x.length:Int):=of_decide_eq_true hc
     omega
    obtain ⟨c,ec⟩:=key i iB hc
    have ate:=atE i c ec
    walk_at "rd"
    refine ite2 (fun hl=>?_) (fun hl=>?_)
    ·have st:=stop isL (runL hl).1 (runL hl).2 i c iB ec
     walk_at "rd"
     refine ite2 (fun hm=>?_) (fun hm=>?_)
     ·have:=st.mp hm
      refine ⟨_,fun σ' H' z=>z,?_⟩
      walk_at "rd"
      refine ⟨?_,rfl,i + 1,rfl,by omega,by omega,fun z=>(by rw [hl] at z; cases z),rfl⟩
      omega
     ·exact ⟨rfl,i,rfl,.inl ⟨hl,Nat.le_antisymm iB (Nat.le_of_not_lt fun z=>hm (st.mpr z))⟩⟩
    ·have hl:isL b0=false:=by simpa using hl
     exact ⟨rfl,i,rfl,.inr ⟨hl,i0 hl⟩⟩
   ·have hc:¬ A.length + i < x.length:=fun z=>hc (decide_eq_true (by omega))
    refine ⟨rfl,i,rfl,?_⟩
    cases e:isL b0 with
    | true=>exact .inl ⟨rfl,by omega⟩
    | false=>exact .inr ⟨rfl,i0 e⟩
 rintro σ H2 ⟨rfl,i,rfl,hi⟩
 refine zacw (fun σ H'=>H'=H2∧σ=[some (.str x),some (.int (A.length:Int)),some (.int ((A.length + B.length:Nat):Int))]) ?_ ?_
 ·have iB:1≤i∧i≤B.length:=by
   rcases hi with ⟨_,rfl⟩ | ⟨_,rfl⟩
   ·exact ⟨bn,Nat.le_refl _⟩
   ·exact ⟨Nat.le_refl _,bn⟩
  have iE:isF b0=false→i=B.length:=fun h=>by
   rcases hi with ⟨_,rfl⟩ | ⟨hl,rfl⟩
   ·rfl
   ·cases rn with
    | l _ a _=>rw [a b0 (by rw [eB]; simp)] at hl; cases hl
    | f _ a _=>rw [a b0 (by rw [eB]; simp)] at h; cases h
    | s _ _=>rfl
  refine ⟨(fun m σ H'=>H'=H2∧∃ i:Nat,σ=[some (.str x),some (.int (A.length:Int)),some (.int ((A.length + i:Nat):Int))]∧1≤i∧i≤B.length∧(isF b0=false→i=B.length)∧m=B.length - i),⟨_,rfl,i,rfl,iB.1,iB.2,iE,rfl⟩,?_⟩
  ·clear iB iE hi i
   rintro m σ H' ⟨rfl,i,rfl,i1,iB,i0,rfl⟩
   walk_at "rd"
   refine ite2 (fun hc=>?_) (fun hc=>?_)
   ·have hc:A.length + i < x.length:=by
     have:((A.length + i:Nat):Int) < (x.length:Int):=of_decide_eq_true hc
     omega
    obtain ⟨c,ec⟩:=key i iB hc
    have ate:=atE i c ec
    walk_at "rd"
    refine ite2 (fun hl=>?_) (fun hl=>?_)
    ·have st:=stop isF (runF hl).1 (runF hl).2 i c iB ec
     walk_at "rd"
     refine ite2 (fun hm=>?_) (fun hm=>?_)
     ·have:=st.mp hm
      refine ⟨_,fun σ' H' z=>z,?_⟩
      walk_at "rd"
      refine ⟨?_,rfl,i + 1,rfl,by omega,by omega,fun z=>(by rw [hl] at z; cases z),rfl⟩
      omega
     ·have e:=Nat.le_antisymm iB (Nat.le_of_not_lt fun z=>hm (st.mpr z))
      subst e
      exact ⟨rfl,rfl⟩
    ·have hl:isF b0=false:=by simpa using hl
     have e:=i0 hl
     subst e
     exact ⟨rfl,rfl⟩
   ·have hc:¬ A.length + i < x.length:=fun z=>hc (decide_eq_true (by omega))
    have e:i=B.length:=by omega
    subst e
    exact ⟨rfl,rfl⟩
 rintro σ H3 ⟨rfl,rfl⟩
 walk_at "rd"
end
end

section
theorem chFree {H H':Hp} (c:Ch [] H H') {r:Addr} (h:H' r=none):H r=none:=by
 cases e:H r with
 | none=>rfl
 | some o=>rw [c r o e (by simp)] at h; cases h
theorem zaal {α β:Type}{R S:α→β→Prop} (h:∀ x y,R x y→S x y):∀ {xs:List α}{ys:List β},Paired R xs ys→Paired S xs ys
 | _,_,.nil=>.nil
 | _,_,.cons a t=>.cons (h _ _ a) (zaal h t)
theorem zaa6 {α β:Type}{R:α→β→Prop}{x:α}{y:β} (h:R x y):∀ {xs:List α}{ys:List β},Paired R xs ys→Paired R (xs++[x]) (ys++[y])
 | _,_,.nil=>.cons h .nil
 | _,_,.cons a t=>.cons a (zaa6 h t)
structure Forms (P:Program) (w:World) (K:PySem.W.Frag) (ra ea:Addr) (rk ek:List (Key × V)):Prop where
 r:KD P w K ra rk
 e:KD P w K ea ek
 hw:∀ x:Str,((valV rk (.inr x)).isSome || (valV ek (.inr x)).isSome)=decide (x∈WORDS)
theorem zap8 {n:Int} (h:Num n) (z:(num n).cps.toList.head?=some 48):num n = "0" := by
 by_cases e:n=0
 ·subst e; decide +kernel
 ·exfalso
  rw [zagl h] at z
  have n0:=h.n0
  obtain ⟨m,rfl⟩:=Int.eq_ofNat_of_zero_le n0
  have hm:m≠0:=fun z=>e (by rw [z]; rfl)
  rw [Int.toNat_natCast] at z
  have key:∀ k:Nat,k≠0→((Nat.toDigits 10 k).map Char.toNat).head?≠some 48:=by
   intro k
   induction k using Nat.strongRecOn with
   | _ k ih =>
    intro hk
    by_cases h:k < 10
    ·rw [Nat.toDigits_of_lt_base h]
     have:∀ d:Nat,d < 10→d≠0→[(Nat.digitChar d).toNat].head?≠some 48:=by decide
     exact this k h hk
    ·have t:Nat.toDigits 10 (k / 10)++Nat.toDigits 10 (k % 10)=Nat.toDigits 10 (10 * (k / 10) + k % 10):=Nat.toDigits_append_toDigits (by decide) (by omega) (Nat.mod_lt k (by decide))
     rw [show 10 * (k / 10) + k % 10=k by omega] at t
     rw [← t,List.map_append]
     have i:=ih (k / 10) (by omega) (by omega)
     cases e:(Nat.toDigits 10 (k / 10)).map Char.toNat with
     | nil=>exact absurd (List.map_eq_nil_iff.mp e) Nat.toDigits_ne_nil
     | cons c r=>rw [e] at i; simpa using i
  exact key m hm z
theorem zak5 {n:Int} (h:Num n):PySem.intText? (num n)=some n:=PySem.W.KIN.num_reads h.n0 (by have:=h.n9; omega)
section
variable {P:Program}{w:World}{K:PySem.W.Frag}{mg:Str→Option Value}{base:Heap}{f:Addr}{fd:FuncData}{k:Nat}
local macro_rules | `(tactic| walk_at "user")=>`(tactic| (refine Or.inr ?_; with_reducible assumption))
theorem zadh:Nd "EXPR_FORMS" := by decide +kernel
theorem zadu:Nd "ROW_FORMS" := by decide +kernel
theorem zagn:Nd "LONGEST_NAME" := by decide +kernel
theorem zafb:Nd "LONGEST_NUMBER" := by decide +kernel
theorem zafl:Nd "letters_piece" := by decide +kernel
theorem zafm:Nd "figures_piece" := by decide +kernel
theorem zap9:Nd "SIGNS" := by decide +kernel
theorem zaly:Nd "run_end" := by decide +kernel
theorem zaj2:Nd "piece_of" := by decide +kernel
theorem av25:AF (defScope (top 25)) ["run"]:=⟨by decide +kernel⟩
theorem gl25:AG (defScope (top 25)) ["EXPR_FORMS", "ROW_FORMS", "len", "LONGEST_NAME"]:=⟨by decide +kernel⟩
theorem scLP:FnScope ["run"] ["run"] (defScope (top 25)):=⟨rfl,rfl,rfl,by decide +kernel,rfl,by decide +kernel,by decide +kernel⟩
theorem av26:AF (defScope (top 26)) ["run"]:=⟨by decide +kernel⟩
theorem gl26:AG (defScope (top 26)) ["len", "LONGEST_NUMBER", "int"]:=⟨by decide +kernel⟩
theorem scFP:FnScope ["run"] ["run"] (defScope (top 26)):=⟨rfl,rfl,rfl,by decide +kernel,rfl,by decide +kernel,by decide +kernel⟩
theorem gl27:AG (defScope (top 27)) ["is_letter", "letters_piece", "is_figure", "figures_piece", "SIGNS"]:=⟨by decide +kernel⟩
theorem av27:AF (defScope (top 27)) ["run"]:=⟨by decide +kernel⟩
theorem scPO:FnScope ["run"] ["run"] (defScope (top 27)):=⟨rfl,rfl,rfl,by decide +kernel,rfl,by decide +kernel,by decide +kernel⟩
theorem zalz:∀ x∈WORDS,x.length≤8:=by decide +kernel
theorem zanl:∀ x∈SIGS,x.length=1:=by decide +kernel
theorem av28:AF (defScope (top 28)) ["row", "pieces", "at", "end", "piece"]:=⟨by decide +kernel⟩
theorem gl28:AG (defScope (top 28)) ["len", "run_end", "piece_of"]:=⟨by decide +kernel⟩
structure PC (H H':Hp) (pl:Addr) (ts:List Tk) (ps:List Addr):Prop where
 ch:Ch [] H H'
 f:H pl=none
 g:H' pl=some (.lst (ps.map V.ref))
 a:Paired (TkAt H') ts ps
theorem scPcs:FnScope ["row", "pieces", "at", "end", "piece"] ["row"] (defScope (top 28)):=⟨rfl,rfl,rfl,by decide +kernel,rfl,by decide +kernel,by decide +kernel⟩
theorem zanm {x:Str}{A B C:List Nat} (e:x.cps.toList=A++(B++C)):(Txt.slice x (some (A.length:Int)) (some ((A.length + B.length:Nat):Int))).cps.toList=B:=by
 have lx:x.length=A.length + (B.length + C.length):=by rw [← Strl,e,List.length_append,List.length_append]
 rw [zaer,zadq (by omega),zadq (by omega),Int.toNat_natCast,Int.toNat_natCast,lx,Nat.min_eq_left (by omega),Nat.min_eq_left (by omega),e,List.drop_left,Nat.add_sub_cancel_left,List.take_left]
end
end

section
structure Box (Pd:Prop):Prop where
 h:Pd
def fldsR (ln sp:Nat) (pl:Addr):List (Str × V):=[("line",.int (ln:Int)),("spot",.int (sp:Int)),("pieces",.ref pl)]
section
variable {ln sp:Nat}{pl:Addr}
theorem fr_l:List.lookup (Str.ofString "line") (fldsR ln sp pl)=some (.int (ln:Int)):=rfl
theorem fr_s:List.lookup (Str.ofString "spot") (fldsR ln sp pl)=some (.int (sp:Int)):=rfl
theorem fr_p:List.lookup (Str.ofString "pieces") (fldsR ln sp pl)=some (.ref pl):=rfl
theorem zavk:putF "spot" (.int ((sp:Int) + 1)) (fldsR ln sp pl)=fldsR ln (sp + 1) pl:=rfl
end
structure RdAt (C:Addr) (H:Hp) (y dx:Addr) (ln sp:Nat) (pl:Addr) (ts:List Tk) (ps:List Addr):Prop where
 ob:H y=some (.ins C dx (fldsR ln sp pl))
 pl:H pl=some (.lst (ps.map V.ref))
 a:Paired (TkAt H) ts ps
 le:ts.length≤20000
theorem RdAt.tu {C:Addr}{H H':Hp}{y dx:Addr}{ln sp sp':Nat}{pl:Addr}{ts:List Tk}{ps:List Addr} (s:RdAt C H y dx ln sp pl ts ps) (o:H' y=some (.ins C dx (fldsR ln sp' pl))) (p:H' pl=some (.lst (ps.map V.ref))) (t:Tu H H'):RdAt C H' y dx ln sp' pl ts ps:=⟨o,p,zaal (fun _ _ e=>t _ _ e) s.a,s.le⟩
theorem RdAt.ch {C:Addr}{H H':Hp}{y dx:Addr}{ln sp:Nat}{pl:Addr}{ts:List Tk}{ps:List Addr} (s:RdAt C H y dx ln sp pl ts ps) (c:Ch [] H H'):RdAt C H' y dx ln sp pl ts ps:=s.tu (c.get s.ob (by simp)) (c.get s.pl (by simp)) (Tu.same c)
theorem RdAt.own {C:Addr}{H:Hp}{y dx q:Addr}{ln sp:Nat}{pl:Addr}{ts:List Tk}{ps:List Addr}{xs zs:List V} (s:RdAt C H y dx ln sp pl ts ps) (hq:H q=some (.lst xs)) (n:pl≠q):RdAt C (upd H q (.lst zs)) y dx ln sp pl ts ps:=s.tu (zafi (zae4 s.ob hq (by intro z; cases z)) s.ob) (zafi n s.pl) (Tu.lst Ch.put hq)
def kA (ts:List Tk) (n:Nat):Str:=match ts[n]? with
 | some t=>t.k
 | none => ""
theorem zann {H:Hp}:∀ {ts:List Tk}{ps:List Addr},Paired (TkAt H) ts ps→∀ {i:Nat}{t:Tk},ts[i]?=some t→∃ p,(ps.map V.ref)[i]?=some (.ref p)∧TkAt H t p
 | _,_,.nil,i,t,h=>by simp at h
 | a :: ts,p :: ps,.cons e r,0,t,h=>by simp at h; subst h; exact ⟨p,rfl,e⟩
 | a :: ts,p :: ps,.cons e r,i + 1,t,h=>by
  obtain ⟨q,e1,e2⟩:=zann r (i:=i) (by simpa using h)
  exact ⟨q,by simpa using e1,e2⟩
section
variable {P:Program}{w:World}{K:PySem.W.Frag}{mg:Str→Option Value}{base:Heap}{f:Addr}{fd:FuncData}{k:Nat}
theorem zaje:Nd "pieces_of" := by decide +kernel
theorem av30m0:AF (defScope (inClass (top 30) 0)) ["self", "text", "line"]:=⟨by decide +kernel⟩
theorem scRI:FnScope ["self", "text", "line"] ["self", "text", "line"] (defScope (inClass (top 30) 0)):=⟨rfl,rfl,rfl,by decide +kernel,rfl,by decide +kernel,by decide +kernel⟩
theorem av30m1:AF (defScope (inClass (top 30) 1)) ["self"]:=⟨by decide +kernel⟩
theorem gl30m1:AG (defScope (inClass (top 30) 1)) ["len"]:=⟨by decide +kernel⟩
def spKA (C:Addr):Sp:=fun vs H Q _=>∃ (y dx:Addr) (ln sp:Nat) (pl:Addr) (ts:List Tk) (ps:List Addr),vs=[.ref y]∧RdAt C H y dx ln sp pl ts ps∧sp≤ts.length∧Q (.str (kA ts sp)) H
theorem scKA:FnScope ["self"] ["self"] (defScope (inClass (top 30) 1)):=⟨rfl,rfl,rfl,by decide +kernel,rfl,by decide +kernel,by decide +kernel⟩
theorem zaw8 {C:Addr} (F:Fun K "kind_ahead" "RowReader.kind_ahead" (inClass (top 30) 1) f fd) (cl:Cls K C) (nS:NoAttr K C "spot") (nP:NoAttr K C "pieces") (z_len:mg "len" = none):FnOk P w K mg base CX0 (k + 1) f fd ["self"] (spKA C):=by
 have nd:=scKA.nd
 refine F.ok scKA (fun vs H Q E h=>by obtain ⟨y,dx,ln,sp,pl,ts,ps,rfl,_⟩:=h; rfl) (fun cdv A outer s H vs Q E hr h=>?_)
 obtain ⟨y,dx,ln,sp,pl,ts,ps,rfl,⟨hy,hp,ha,hl⟩,le,q⟩:=h
 refine ⟨_,(Pr.h (zaad (zaat (zaam zabp (zacg (qv av30m1 0 rfl) rfl) (zaas zaa2 (gl30m1.g 0 rfl) z_len PySem.boot_len (zaaa (zacg (qv av30m1 0 rfl) rfl) zaac zacj) zab3 zab4) (nomark _)) (zaah (zaao zaaf)) zaap) (zaah (zaao (zaar zabw (zaar zaav (zacg (qv av30m1 0 rfl) rfl) (zacg (qv av30m1 0 rfl) rfl) (fun _ _=>rfl)) zaae (fun _ _=>rfl)))))),?_⟩
 (try dsimp only [cxOf])
 have f2:=@fr_s ln sp pl
 have f3:=@fr_p ln sp pl
 have lp:=Paired.length ha
 walk_at "rd"
 refine ite2 (fun hc=>?_) (fun hc=>?_)
 ·have hc:(sp:Int)=((ps.map V.ref).length:Int):=by simpa using hc
  rw [List.length_map] at hc
  have e:kA ts sp = "" := by unfold kA; rw [List.getElem?_eq_none (by omega)]
  rw [e] at q
  walk_at "rd"
  exact q
 ·have hc:¬ (sp:Int)=((ps.map V.ref).length:Int):=by simpa using hc
  rw [List.length_map] at hc
  obtain ⟨t,et⟩:∃ t,ts[sp]?=some t:=⟨_,List.getElem?_eq_getElem (by omega)⟩
  obtain ⟨p,ep,tp⟩:=zann ha et
  have ai:atI (ps.map V.ref) (sp:Int)=some (.ref p):=zack ep
  have e:kA ts sp=t.k:=by unfold kA; rw [et]
  rw [e] at q
  walk_at "rd"
theorem av30m2:AF (defScope (inClass (top 30) 2)) ["self", "kind"]:=⟨by decide +kernel⟩
def spTk (C:Addr):Sp:=fun vs H Q _=>∃ (y dx:Addr) (ln sp:Nat) (pl:Addr) (ts:List Tk) (ps:List Addr) (t:Tk) (kd:Str),vs=[.ref y,.str kd]∧RdAt C H y dx ln sp pl ts ps∧ts[sp]?=some t∧kd=t.k∧∀ H',Ch [y] H H'→RdAt C H' y dx ln (sp + 1) pl ts ps→Q t.v H'
theorem scTk:FnScope ["self", "kind"] ["self", "kind"] (defScope (inClass (top 30) 2)):=⟨rfl,rfl,rfl,by decide +kernel,rfl,by decide +kernel,by decide +kernel⟩
theorem zaw9 {C:Addr} (F:Fun K "take" "RowReader.take" (inClass (top 30) 2) f fd) (cl:Cls K C) (nL:NoAttr K C "line") (nS:NoAttr K C "spot") (nP:NoAttr K C "pieces") (MRowReader_kind_ahead:MethOk P w K mg base CX0 k C "kind_ahead" ["self"] (spKA C)):FnOk P w K mg base CX0 (k + 1) f fd ["self", "kind"] (spTk C):=by
 have nd:=scTk.nd
 refine F.ok scTk (fun vs H Q E h=>by obtain ⟨y,dx,ln,sp,pl,ts,ps,t,kd,rfl,_⟩:=h; rfl) (fun cdv A outer s H vs Q E hr h=>?_)
 obtain ⟨y,dx,ln,sp,pl,ts,ps,t,kd,rfl,rd,et,rfl,q⟩:=h
 refine ⟨_,(Pr.h (zaad (zaat (zaam zahk (zabk (qv av30m2 0 rfl) MRowReader_kind_ahead hr pass0) (qv av30m2 1 rfl) (nomark _)) (zaah zam4) zaap) (zaad (zahd (qv av30m2 0 rfl) zaae zaqx) (zaah (zaao (zaar zabw (zaar zaav (zacg (qv av30m2 0 rfl) rfl) (zaaj zael (zacg (qv av30m2 0 rfl) rfl) zaae) (fun _ _=>rfl)) zaae (fun _ _=>rfl))))))),?_⟩
 (try dsimp only [cxOf])
 have f2:=@fr_s ln sp pl
 have f3:=@fr_p ln sp pl
 have hy:=rd.ob
 have nk:List.lookup (Str.ofString "kind_ahead") (fldsR ln sp pl)=none:=rfl
 have lt:=(List.getElem?_eq_some_iff.mp et).1
 have le:sp≤ts.length:=by omega
 have ek:kA ts sp=t.k:=by unfold kA; rw [et]
 obtain ⟨p,ep,tp⟩:=zann rd.a et
 have ai:atI (ps.map V.ref) ((sp:Int) + 1 - 1)=some (.ref p):=by rw [show (sp:Int) + 1 - 1=(sp:Int) by omega]; exact zack ep
 walk_at "rd"
 rw [ek]
 refine ite2 (fun h=>absurd h (by rw [decide_eq_true rfl]; decide)) (fun _=>?_)
 have hp:=rd.pl
 walk_at "rd"
 rw [zavk]
 exact q _ Ch.put (rd.tu zaai (zafi (zae4 hp hy (by intro z; cases z)) hp) (Tu.ch Ch.put hy (fun _ z=>by cases z)))
end
end

section
inductive Pt where
 | ex (e:Ex) | nu (n:Int)
def Pt.k:Pt→Str
 | .ex _ => "expr" | .nu _ => "number"
def Pt.At (H:Hp):Pt→V→Prop
 | .ex e,v=>IsE H e v
 | .nu n,v=>v=.int n
theorem Pt.At.kt {H H':Hp} (k:KT H H'):∀ {p:Pt}{v:V},p.At H v→p.At H' v
 | .ex _,_,h=>IsE.kt k h
 | .nu _,_,h=>h
def ND (l:List Tk):Prop:=∀ t,l.head?=some t→t.k ≠ "."
theorem zag1:Str.ofString "name" ≠ "." ∧ Str.ofString "word" ≠ "." ∧ Str.ofString "number" ≠ "." ∧ Str.ofString "(" ≠ "." ∧ Str.ofString ")" ≠ "." ∧ Str.ofString "" ≠ "." ∧ Str.ofString "name" ≠ "number" ∧ Str.ofString "(" ≠ "number" ∧ Str.ofString "(" ≠ "name" := by decide +kernel
theorem zajf:∀ (e:Ex) (r:List Tk),ND (tks e++r)
 | .nm _,r,t,h=>by simp [tks] at h; subst h; exact zag1.1
 | .of _ _,r,t,h=>by simp [tks] at h; subst h; exact zag1.1
 | .val _ _,r,t,h=>by simp [tks] at h; subst h; exact zag1.2.2.1
 | .un _,r,t,h=>by simp [tks] at h; subst h; exact zag1.2.2.2.1
 | .bi _ _ _,r,t,h=>by simp [tks] at h; subst h; exact zag1.2.2.2.1
 | .pick _ _ _,r,t,h=>by simp [tks] at h; subst h; exact zag1.2.2.2.1
 | .part _ _ _,r,t,h=>by simp [tks] at h; subst h; exact zag1.2.2.2.1
theorem zaxa {ts:List Tk}{n:Nat} (h:ND (ts.drop n)):kA ts n ≠ "." := by
 unfold kA
 cases e:ts[n]? with
 | none=>exact zag1.2.2.2.2.2.1
 | some t=>exact h t (by rw [List.head?_drop]; exact e)
theorem zab2 {ts:List Tk}{n:Nat}{t:Tk}{r:List Tk} (h:ts.drop n=t :: r):ts[n]?=some t∧ts.drop (n + 1)=r:=by
 refine ⟨?_,?_⟩
 ·rw [← List.head?_drop,h]; rfl
 ·rw [← List.drop_drop,h]; rfl
section
variable {P:Program}{w:World}{K:PySem.W.Frag}{mg:Str→Option Value}{base:Heap}{f:Addr}{fd:FuncData}{k:Nat}
theorem zacm:bootBuiltins "tuple" = some (.type "tuple"):=by decide +kernel
theorem zacn:("tuple" : Str) ≠ "__name__" := by decide +kernel
theorem zaco:Nd "tuple" := by decide +kernel
theorem av30m4:AF (defScope (inClass (top 30) 4)) ["self", "name"]:=⟨by decide +kernel⟩
theorem scTN:FnScope ["self", "name"] ["self"] (defScope (inClass (top 30) 4)):=⟨rfl,rfl,rfl,by decide +kernel,rfl,by decide +kernel,by decide +kernel⟩
theorem av30m5:AF (defScope (inClass (top 30) 5)) ["self", "word", "parts", "kind"]:=⟨by decide +kernel⟩
theorem scTB:FnScope ["self", "word", "parts", "kind"] ["self"] (defScope (inClass (top 30) 5)):=⟨rfl,rfl,rfl,by decide +kernel,rfl,by decide +kernel,by decide +kernel⟩
theorem av30m3:AF (defScope (inClass (top 30) 3)) ["self", "kind", "value"]:=⟨by decide +kernel⟩
theorem scTE:FnScope ["self", "kind", "value"] ["self"] (defScope (inClass (top 30) 3)):=⟨rfl,rfl,rfl,by decide +kernel,rfl,by decide +kernel,by decide +kernel⟩
end
end

section
inductive RP where
 | nm (x:Str) | nu (n:Int) | ex (e:Ex) | exs (es:List Ex)
def RP.k:RP→Str
 | .nm _ => "name" | .nu _ => "number" | .ex _ => "expr" | .exs _ => "exprs"
def RP.ts:RP→List Tk
 | .nm x=>[.nm x] | .nu n=>[.nu n] | .ex e=>tks e | .exs es=>(es.map tks).flatten
def RP.At (H:Hp):RP→V→Prop
 | .nm x,v=>v=.str x
 | .nu n,v=>v=.int n
 | .ex e,v=>IsE H e v
 | .exs es,v=>∃ p vs,v=.ref p∧H p=some (.tup vs)∧Paired (IsE H) es vs
theorem RP.At.kt {H H':Hp} (k:KT H H'):∀ {p:RP}{v:V},p.At H v→p.At H' v
 | .nm _,_,h=>h
 | .nu _,_,h=>h
 | .ex _,_,h=>IsE.kt k h
 | .exs _,_,⟨p,vs,e,h,w⟩=>⟨p,vs,e,k _ _ h,zaal (fun _ _ z=>IsE.kt k z) w⟩
structure OkE (e:Ex):Prop where
 o:Ok e
 d:e.deep < 21
 s:e.size≤100
def RP.ok:RP→Prop
 | .nm x=>Nm x | .nu n=>Num n | .ex e=>OkE e | .exs es=>(∀ e∈es,OkE e)∧es.length≤30
structure Rw where
 w:Str
 ps:List RP
def RFORMS:List (Str × List Str):=[("module",["name"]),("in",["name", "number"]),("keep",["name", "number", "number"]),("let",["name", "expr"]),("use",["name", "name", "exprs"]),("next",["name", "expr"]),("out",["name", "expr"]),("end",[])]
def Rw.ts (r:Rw):List Tk:=.wd r.w :: (r.ps.map RP.ts).flatten
structure Rw.ok (r:Rw):Prop where
 fo:(r.w,r.ps.map RP.k)∈RFORMS
 ps:∀ p∈r.ps,p.ok
def Rw.At (H:Hp) (r:Rw) (p:Addr):Prop:=∃ vs,H p=some (.tup (.str r.w :: vs))∧Paired (RP.At H) r.ps vs
theorem Rw.At.kt {H H':Hp} (k:KT H H') {r:Rw}{p:Addr} (h:r.At H p):r.At H' p:=let ⟨vs,a,b⟩:=h; ⟨vs,k _ _ a,zaal (fun _ _ z=>RP.At.kt k z) b⟩
theorem zaq4:∀ q∈RFORMS,q.2.length≤3:=by decide +kernel
theorem zavl (es:List Ex):ND ((es.map tks).flatten):=by
 cases es with
 | nil=>intro t h; simp at h
 | cons e es=>rw [List.map_cons,List.flatten_cons]; exact zajf e _
section
variable {P:Program}{w:World}{K:PySem.W.Frag}{mg:Str→Option Value}{base:Heap}{f:Addr}{fd:FuncData}{k:Nat}
theorem av30m6:AF (defScope (inClass (top 30) 6)) ["self", "exprs"]:=⟨by decide +kernel⟩
theorem scTR:FnScope ["self", "exprs"] ["self"] (defScope (inClass (top 30) 6)):=⟨rfl,rfl,rfl,by decide +kernel,rfl,by decide +kernel,by decide +kernel⟩
theorem av30m7:AF (defScope (inClass (top 30) 7)) ["self", "kind"]:=⟨by decide +kernel⟩
theorem scTP:FnScope ["self", "kind"] ["self", "kind"] (defScope (inClass (top 30) 7)):=⟨rfl,rfl,rfl,by decide +kernel,rfl,by decide +kernel,by decide +kernel⟩
theorem av30m8:AF (defScope (inClass (top 30) 8)) ["self", "word", "parts", "kind"]:=⟨by decide +kernel⟩
theorem scRow:FnScope ["self", "word", "parts", "kind"] ["self"] (defScope (inClass (top 30) 8)):=⟨rfl,rfl,rfl,by decide +kernel,rfl,by decide +kernel,by decide +kernel⟩
end
end

section
def SqX (k:SK) (H:Hp) (a:Addr) (xs:List V):Prop:=match k with
 | .list=>H a=some (.lst xs)
 | .tuple=>H a=some (.tup xs)
theorem SqX.ch {kd:SK}{H H':Hp}{a:Addr}{xs:List V} (h:SqX kd H a xs) (c:Ch [] H H'):SqX kd H' a xs:=by
 cases kd with
 | list=>exact c.get h (by simp)
 | tuple=>exact c.get h (by simp)
theorem SqX.or {kd:SK}{K:PySem.W.Frag}{H:Hp}{a:Addr}{xs:List V} (h:SqX kd H a xs):SqL K H a xs∨SqT K H a xs:=by
 cases kd with
 | list=>exact .inl (SqL.of h)
 | tuple=>exact .inr (SqT.of h)
inductive Dt
 | sc (k:Key)
 | seq (l:List Dt)
def DAt (tp:Bool):Nat→Hp→Dt→V→Prop
 | 0,_,_,_=>False
 | n + 1,H,d,v=>(∃ k:Key,d=.sc k∧v=kV k)∨∃ (ds:List Dt) (p:Addr) (xs:List V) (kd:SK),d=.seq ds∧v=.ref p∧(tp=true→kd=.tuple)∧SqX kd H p xs∧Paired (DAt tp n H) ds xs∧xs.length≤300
theorem DAt.ch {tp:Bool}{H H':Hp} (c:Ch [] H H'):∀ {n:Nat}{d:Dt}{v:V},DAt tp n H d v→DAt tp n H' d v
 | 0,_,_,h=>h
 | n + 1,d,v,h=>by
  rcases h with h | ⟨ds,p,xs,kd,e1,e2,t,s,pr,l⟩
  ·exact .inl h
  ·exact .inr ⟨ds,p,xs,kd,e1,e2,t,s.ch c,zaal (fun _ _=>DAt.ch c) pr,l⟩
theorem DAt.tu {H H':Hp} (c:Tu H H'):∀ {n:Nat}{d:Dt}{v:V},DAt true n H d v→DAt true n H' d v
 | 0,_,_,h=>h
 | n + 1,d,v,h=>by
  rcases h with h | ⟨ds,p,xs,kd,e1,e2,t,s,pr,l⟩
  ·exact .inl h
  ·cases t rfl
   exact .inr ⟨ds,p,xs,.tuple,e1,e2,t,c _ _ s,zaal (fun _ _=>DAt.tu c) pr,l⟩
section
variable {P:Program}{w:World}{K:PySem.W.Frag}{mg:Str→Option Value}{base:Heap}{f:Addr}{fd:FuncData}{k:Nat}
theorem zano:bootBuiltins "list" = some (.type "list"):=by decide +kernel
theorem zanp:("list" : Str) ≠ "__name__" := by decide +kernel
theorem zanq:Nd "list" := by decide +kernel
theorem zago:Nd "frozen" := by decide +kernel
theorem gl14:AG (defScope (top 14)) ["tuple", "list", "isinstance"]:=⟨by decide +kernel⟩
theorem av14:AF (defScope (top 14)) ["thing"]:=⟨by decide +kernel⟩
def zahx:Scope:={ kind:=PySem.ScopeKind.function,names:=[ (PySem.Str.ofString ".0",PySem.NameKind.local),(PySem.Str.ofString "inner",PySem.NameKind.local),(PySem.Str.ofString "frozen",PySem.NameKind.globalImplicit)],isGenerator:=false,isCoroutine:=false,more:=[]:PySem.Scope }
theorem zahy:CompOk zahx (defScope (top 14)) (["inner"]:List Str) (["thing"]:List Str) [] (["inner"]:List Str):=compOk rfl (by decide +kernel) (by decide +kernel) (by decide +kernel) (by decide +kernel) rfl (by decide +kernel)
theorem zahz:AK (relab zahx (defScope (top 14))) ["inner"]:=⟨by decide +kernel⟩
theorem zanr:AG (relab zahx (defScope (top 14))) ["frozen"]:=⟨by decide +kernel⟩
theorem zans:AV (relab zahx (defScope (top 14))) ["inner"]:=⟨by decide +kernel⟩
theorem zabn {α β:Type}{R:α→β→Prop}:∀ {xs:List α}{ys:List β},Paired R xs ys→∀ {i:Nat}{y:β},ys[i]?=some y→∃ x,xs[i]?=some x∧R x y
 | _,_,.nil,i,y,h=>by simp at h
 | a :: xs,b :: ys,.cons e r,0,y,h=>by simp at h; subst h; exact ⟨a,rfl,e⟩
 | a :: xs,b :: ys,.cons e r,i + 1,y,h=>by
  obtain ⟨x,e1,e2⟩:=zabn r (i:=i) (by simpa using h)
  exact ⟨x,by simpa using e1,e2⟩
theorem DAt.weak {H:Hp}:∀ {n:Nat}{d:Dt}{v:V},DAt true n H d v→DAt false n H d v
 | 0,_,_,h=>h
 | n + 1,d,v,h=>by
  rcases h with h | ⟨ds,p,xs,kd,e1,e2,t,s,pr,l⟩
  ·exact .inl h
  ·exact .inr ⟨ds,p,xs,kd,e1,e2,fun z=>(by cases z),s,zaal (fun _ _=>DAt.weak) pr,l⟩
theorem DAt.kp {tp:Bool}{H H':Hp} (h:∀ p xs kd,SqX kd H p xs→SqX kd H' p xs):∀ {n:Nat}{d:Dt}{v:V},DAt tp n H d v→DAt tp n H' d v
 | 0,_,_,z=>z
 | n + 1,d,v,z=>by
  rcases z with z | ⟨ds,p,xs,kd,e1,e2,t,s,pr,l⟩
  ·exact .inl z
  ·exact .inr ⟨ds,p,xs,kd,e1,e2,t,h _ _ _ s,zaal (fun _ _=>DAt.kp h) pr,l⟩
theorem SqX.ins {H H':Hp}{x C dx:Addr}{fs:List (Str × V)} (c:Ch [x] H H') (hx:H x=some (.ins C dx fs)):∀ p xs kd,SqX kd H p xs→SqX kd H' p xs:=fun p xs kd h=>by
 cases kd with
 | list =>
  have h:H p=some (.lst xs):=h
  exact c.get h (by have:=zae4 h hx (by intro z; cases z); simpa using this)
 | tuple =>
  have h:H p=some (.tup xs):=h
  exact c.get h (by have:=zae4 h hx (by intro z; cases z); simpa using this)
structure FD (n:Nat) (H:Hp) (d:Dt) (v:V):Prop where
 h:DAt false n H d v
def spFz (n:Nat):Sp:=fun vs H Q _=>∃ (v:V) (d:Dt),vs=[v]∧FD n H d v∧∀ v' H',Ch [] H H'→DAt true n H' d v'→Q v' H'
theorem scFz:FnScope ["thing"] ["thing"] (defScope (top 14)):=⟨rfl,rfl,rfl,by decide +kernel,rfl,by decide +kernel,by decide +kernel⟩
theorem zavm (F:Fun K "frozen" "frozen" (top 14) f fd):FnOk P w K mg base CX0 (k + 1) f fd ["thing"] (spFz 0) :=
 F.ok scFz (fun vs H Q E h=>by obtain ⟨x,y,rfl,_⟩:=h; rfl) (fun cdv A outer s H vs Q E hr h=>by obtain ⟨_,_,_,e,_⟩:=h; exact e.h.elim)
theorem zaxb (n:Nat) (F:Fun K "frozen" "frozen" (top 14) f fd) (Dfrozen:DefOk P w K mg base CX0 k "frozen" ["thing"] (spFz n)) (z_isinstance:mg "isinstance" = none) (z_list:mg "list" = none) (z_tuple:mg "tuple" = none):FnOk P w K mg base CX0 (k + 1) f fd ["thing"] (spFz (n + 1)):=by
 have nd:=scFz.nd
 refine F.ok scFz (fun vs H Q E h=>by obtain ⟨x,y,rfl,_⟩:=h; rfl) (fun cdv A outer s H vs Q E hr h=>?_)
 obtain ⟨v,d,rfl,⟨e⟩,q⟩:=h
 rcases e with ⟨kk,rfl,rfl⟩ | ⟨ds,p,xs,kd,rfl,rfl,_,sx,pr,l⟩
 ·refine ⟨_,(Pr.h (zaad (zaat (zab5 (zaas zai3 (gl14.g 2 rfl) z_isinstance zabd (zaaa (qv av14 0 rfl) (zaaa (zabl (zaaa (zaci (v:=.ty "list") (gl14.g 1 rfl) z_list zano rfl zanp zanq) (zaaa (zaci (v:=.ty "tuple") (gl14.g 0 rfl) z_tuple zacm rfl zacn zaco) zaac zaag) zaag)) zaac)) zabe zabf)) (zaah (zaao (zaba zabv (gl14.g 0 rfl) z_tuple zacm (zaaa (zafs rfl zahy (zaho (qv av14 0 rfl)) (fun _ _ _ _ _=>(zabc (i:=0) zahy.nd rfl (Or.inl (zahz.k 0 rfl)) (Or.inr (zahz.k 0 rfl)))) (fun _ _ _ _ _=>zad2) (fun _ _ _ _ _=>(zaak Dfrozen hr (zanr.g 0 rfl) pass0 (zaaa (qw zans 0 rfl) zaac zaag) zago))) zaac zac9) zacn zaco))) zaap) (zaah (zaao (qv av14 0 rfl))))),?_⟩
  (try dsimp only [cxOf])
  cases kk with
  | inl b =>
   dsimp only [kV]
   walk_at "rd"
   exact q _ _ (Ch.new (by assumption) _) (.inl ⟨.inl b,rfl,rfl⟩)
  | inr b =>
   dsimp only [kV]
   walk_at "rd"
   exact q _ _ (Ch.new (by assumption) _) (.inl ⟨.inr b,rfl,rfl⟩)
 ·have el:=Paired.length pr
  refine ⟨_,(Pr.h (zaad (zaat (zab5 (zaas zai3 (gl14.g 2 rfl) z_isinstance zabd (zaaa (qv av14 0 rfl) (zaaa (zabl (zaaa (zaci (v:=.ty "list") (gl14.g 1 rfl) z_list zano rfl zanp zanq) (zaaa (zaci (v:=.ty "tuple") (gl14.g 0 rfl) z_tuple zacm rfl zacn zaco) zaac zaag) zaag)) zaac)) zabe zabf)) (zaah (zaao (zaba zabv (gl14.g 0 rfl) z_tuple zacm (zaaa (zafs rfl zahy (zasv K rfl kd (qv av14 0 rfl)) (fun _ _ _ _ _=>(zabc (i:=0) zahy.nd rfl (Or.inl (zahz.k 0 rfl)) (Or.inr (zahz.k 0 rfl)))) (fun _ _ _ _ _=>zad2) (fun _ _ _ _ _=>(zaak Dfrozen hr (zanr.g 0 rfl) pass0 (zaaa (qw zans 0 rfl) zaac zaag) zago))) zaac zac9) zacn zaco))) zaap) (zaah (zaao (qv av14 0 rfl))))),?_⟩
  (try dsimp only [cxOf])
  have sxo:=sx.or (K:=K)
  cases kd with
  | list =>
   have sx:H p=some (.lst xs):=sx
   walk_at "rd"
   rename_i T hT
   have c0:Ch [] H (upd H T (.tup [.ty "list",.ty "tuple"])):=Ch.new hT _
   generalize upd H T (.tup [.ty "list",.ty "tuple"])=H1 at c0 ⊢
   refine zai1 xs (fun i ys σ H'=>Ch [] H1 H'∧Paired (DAt true n H') (ds.take i) ys∧∃ u,σ=[u]) (by rw [sizeLine_eq]; omega) ⟨Ch.refl _ _,.nil,_,rfl⟩ ?_ ?_ ?_
   ·rintro i ys σ H' hi ⟨c,w,_⟩
    refine ⟨?_,SqL.of ((c0.trans c).get sx (by simp))⟩
    have:=Paired.length w
    rw [List.length_take] at this
    omega
   ·rintro i ys σ H' x hx ⟨c,w,u,rfl⟩
    obtain ⟨d,ed,dx⟩:=zabn pr hx
    have fd:FD n H' d x:=⟨DAt.ch (c0.trans c) dx⟩
    walk_at "rd"
    rename_i v' H2 c2 dv
    refine ⟨?_,_,rfl⟩
    rw [List.take_add_one,ed]
    exact zaa6 (R:=DAt true n H2) dv (zaal (fun _ _=>DAt.ch c2) w)
   ·rintro ys σ H2 ⟨c,w,_⟩
    rw [← el,List.take_length] at w
    have lw:=Paired.length w
    intro D hD
    walk_at "rd"
    rename_i T2 hT2
    have cT:Ch [] H2 (upd (upd H2 D (.lst ys)) T2 (.tup ys)):=(Ch.new hD _).trans (Ch.new hT2 _)
    exact q _ _ ((c0.trans c).trans cT) (.inr ⟨ds,T2,ys,.tuple,rfl,rfl,fun _=>rfl,zaai,zaal (fun _ _=>DAt.ch cT) w,by omega⟩)
  | tuple =>
   have sx:H p=some (.tup xs):=sx
   walk_at "rd"
   rename_i T hT
   have c0:Ch [] H (upd H T (.tup [.ty "list",.ty "tuple"])):=Ch.new hT _
   generalize upd H T (.tup [.ty "list",.ty "tuple"])=H1 at c0 ⊢
   refine zaku xs (fun i ys σ H'=>Ch [] H1 H'∧Paired (DAt true n H') (ds.take i) ys∧∃ u,σ=[u]) (by rw [sizeLine_eq]; omega) ⟨Ch.refl _ _,.nil,_,rfl⟩ ?_ ?_ ?_
   ·rintro i ys σ H' hi ⟨c,w,_⟩
    refine ⟨?_,SqT.of ((c0.trans c).get sx (by simp))⟩
    have:=Paired.length w
    rw [List.length_take] at this
    omega
   ·rintro i ys σ H' x hx ⟨c,w,u,rfl⟩
    obtain ⟨d,ed,dx⟩:=zabn pr hx
    have fd:FD n H' d x:=⟨DAt.ch (c0.trans c) dx⟩
    walk_at "rd"
    rename_i v' H2 c2 dv
    refine ⟨?_,_,rfl⟩
    rw [List.take_add_one,ed]
    exact zaa6 (R:=DAt true n H2) dv (zaal (fun _ _=>DAt.ch c2) w)
   ·rintro ys σ H2 ⟨c,w,_⟩
    rw [← el,List.take_length] at w
    have lw:=Paired.length w
    intro D hD
    walk_at "rd"
    rename_i T2 hT2
    have cT:Ch [] H2 (upd (upd H2 D (.lst ys)) T2 (.tup ys)):=(Ch.new hD _).trans (Ch.new hT2 _)
    exact q _ _ ((c0.trans c).trans cT) (.inr ⟨ds,T2,ys,.tuple,rfl,rfl,fun _=>rfl,zaai,zaal (fun _ _=>DAt.ch cT) w,by omega⟩)
theorem av15m0:AF (defScope (inClass (top 15) 0)) ["self", "name", "rows"]:=⟨by decide +kernel⟩
theorem gl15m0:AG (defScope (inClass (top 15) 0)) ["frozen"]:=⟨by decide +kernel⟩
def fldsM (nm:Str) (rp:V):List (Str × V):=[("name",.str nm),("rows",rp)]
def spMo (C:Addr) (n:Nat):Sp:=fun vs H Q _=>∃ (x dx:Addr) (nm:Str) (v:V) (d:Dt),vs=[.ref x,.str nm,v]∧H x=some (.ins C dx [])∧FD n H d v∧∀ rp H',Ch [x] H H'→H' x=some (.ins C dx (fldsM nm rp))→DAt true n H' d rp→Q .non H'
theorem scMo:FnScope ["self", "name", "rows"] ["self", "name", "rows"] (defScope (inClass (top 15) 0)):=⟨rfl,rfl,rfl,by decide +kernel,rfl,by decide +kernel,by decide +kernel⟩
theorem zaxc {C:Addr}{n:Nat} (F:Fun K "__init__" "Module.__init__" (inClass (top 15) 0) f fd) (cl:Cls K C) (nN:NoAttr K C "name") (nR:NoAttr K C "rows") (Dfrozen:DefOk P w K mg base CX0 k "frozen" ["thing"] (spFz n)):FnOk P w K mg base CX0 (k + 1) f fd ["self", "name", "rows"] (spMo C n):=by
 have nd:=scMo.nd
 refine F.ok scMo (fun vs H Q E h=>by obtain ⟨x,dx,nm,v,d,rfl,_⟩:=h; rfl) (fun cdv A outer s H vs Q E hr h=>?_)
 obtain ⟨x,dx,nm,v,d,rfl,hx,fd,q⟩:=h
 refine ⟨_,(Pr.h (zaad (zaga (qv av15m0 0 rfl) (qv av15m0 1 rfl) rfl) (zaah (zaga (qv av15m0 0 rfl) (zaak Dfrozen hr (gl15m0.g 0 rfl) pass0 (zaaa (qv av15m0 2 rfl) zaac zaag) zago) rfl)))),?_⟩
 (try dsimp only [cxOf])
 obtain ⟨H1,e1⟩:∃ H1,upd H x (.ins C dx (putF "name" (.str nm) []))=H1:=⟨_,rfl⟩
 have c1:Ch [x] H H1:=by rw [← e1]; exact Ch.put
 have x1:H1 x=some (.ins C dx (putF "name" (.str nm) [])):=by rw [← e1]; exact zaai
 have fd1:FD n H1 d v:=⟨DAt.kp (SqX.ins c1 hx) fd.h⟩
 walk_at "rd"
 rw [e1]
 refine ⟨fd1,fun v' H2 c2 dv=>?_⟩
 have x2:=c2.get x1 (by simp)
 walk_at "rd"
 exact q v' _ ((c1.trans c2.wk).trans Ch.put) zaai (DAt.kp (SqX.ins Ch.put x2) dv)
end
end

section
def exD:Ex→Dt
 | .nm x=>.seq [.sc (.inr "name"),.sc (.inr x)]
 | .of x y=>.seq [.sc (.inr "of"),.sc (.inr x),.sc (.inr y)]
 | .val a b=>.seq [.sc (.inr "value"),.sc (.inl a),.sc (.inl b)]
 | .un a=>.seq [.sc (.inr "not"),exD a]
 | .bi w a b=>.seq [.sc (.inr w),exD a,exD b]
 | .pick a b c=>.seq [.sc (.inr "pick"),exD a,exD b,exD c]
 | .part a l w=>.seq [.sc (.inr "part"),exD a,.sc (.inl l),.sc (.inl w)]
def rpD:RP→Dt
 | .nm x=>.sc (.inr x) | .nu n=>.sc (.inl n) | .ex e=>exD e | .exs es=>.seq (es.map exD)
def rwD (r:Rw):Dt:=.seq (.sc (.inr r.w) :: r.ps.map rpD)
theorem zafn {tp:Bool}{n:Nat}{H:Hp} (x:Str):DAt tp (n + 1) H (.sc (.inr x)) (.str x):=.inl ⟨.inr x,rfl,rfl⟩
theorem zant {tp:Bool}{n:Nat}{H:Hp} (x:Int):DAt tp (n + 1) H (.sc (.inl x)) (.int x):=.inl ⟨.inl x,rfl,rfl⟩
theorem zah0 {n:Nat}{H:Hp}{ds:List Dt}{p:Addr}{xs:List V} (s:H p=some (.tup xs)) (pr:Paired (DAt true n H) ds xs) (l:xs.length≤300):DAt true (n + 1) H (.seq ds) (.ref p):=.inr ⟨ds,p,xs,.tuple,rfl,rfl,fun _=>rfl,s,pr,l⟩
theorem zadi {H:Hp}:∀ {e:Ex}{v:V}{n:Nat},IsE H e v→e.deep + 2≤n→DAt true n H (exD e) v
 | .nm x,_,n + 2,⟨p,rfl,h⟩,_=>zah0 h (.cons (zafn _) (.cons (zafn _) .nil)) (by show 2≤300; decide)
 | .of x y,_,n + 2,⟨p,rfl,h⟩,_=>zah0 h (.cons (zafn _) (.cons (zafn _) (.cons (zafn _) .nil))) (by show 3≤300; decide)
 | .val a b,_,n + 2,⟨p,rfl,h⟩,_=>zah0 h (.cons (zafn _) (.cons (zant _) (.cons (zant _) .nil))) (by show 3≤300; decide)
 | .un a,_,n + 2,⟨p,u,rfl,h,i⟩,l=>zah0 h (.cons (zafn _) (.cons (zadi i (by have l:1 + a.deep + 2≤n + 2:=l; omega)) .nil)) (by show 2≤300; decide)
 | .bi w a b,_,n + 2,⟨p,u,t,rfl,h,i,j⟩,l=>zah0 h (.cons (zafn _) (.cons (zadi i (by have l:1 + max a.deep b.deep + 2≤n + 2:=l; omega)) (.cons (zadi j (by have l:1 + max a.deep b.deep + 2≤n + 2:=l; omega)) .nil))) (by show 3≤300; decide)
 | .pick a b c,_,n + 2,⟨p,u,t,r,rfl,h,i,j,k⟩,l=>by
  have l:1 + max a.deep (max b.deep c.deep) + 2≤n + 2:=l
  exact zah0 h (.cons (zafn _) (.cons (zadi i (by omega)) (.cons (zadi j (by omega)) (.cons (zadi k (by omega)) .nil)))) (by show 4≤300; decide)
 | .part a x y,_,n + 2,⟨p,u,rfl,h,i⟩,l=>zah0 h (.cons (zafn _) (.cons (zadi i (by have l:1 + a.deep + 2≤n + 2:=l; omega)) (.cons (zant _) (.cons (zant _) .nil)))) (by show 4≤300; decide)
 | .nm _,_,0,_,l=>by omega
 | .nm _,_,1,_,l=>by omega
 | .of _ _,_,0,_,l=>by omega
 | .of _ _,_,1,_,l=>by omega
 | .val _ _,_,0,_,l=>by omega
 | .val _ _,_,1,_,l=>by omega
 | .un _,_,0,_,l=>by omega
 | .un _,_,1,_,l=>by omega
 | .bi _ _ _,_,0,_,l=>by omega
 | .bi _ _ _,_,1,_,l=>by omega
 | .pick _ _ _,_,0,_,l=>by omega
 | .pick _ _ _,_,1,_,l=>by omega
 | .part _ _ _,_,0,_,l=>by omega
 | .part _ _ _,_,1,_,l=>by omega
theorem zaei {α β γ:Type}{R:α→γ→Prop}{S:β→γ→Prop}{g:α→β}{Pd:α→Prop} (h:∀ x y,Pd x→R x y→S (g x) y):∀ {xs:List α}{ys:List γ},(∀ x∈xs,Pd x)→Paired R xs ys→Paired S (xs.map g) ys
 | _,_,_,.nil=>.nil
 | _,_,o,.cons a t=>.cons (h _ _ (o _ (by simp)) a) (zaei h (fun x hx=>o x (by simp [hx])) t)
theorem zavn {H:Hp}:∀ {p:RP}{v:V},p.ok→p.At H v→DAt true 23 H (rpD p) v
 | .nm x,_,_,h=>by have h:_=V.str x:=h; subst h; exact zafn x
 | .nu n,_,_,h=>by have h:_=V.int n:=h; subst h; exact zant n
 | .ex e,_,o,h=>zadi h (by have:=(show OkE e from o).d; omega)
 | .exs es,_,o,⟨p,vs,rfl,h,w⟩=>zah0 h (zaei (Pd:=OkE) (fun e v oe z=>zadi z (by have:=oe.d; omega)) (show (∀ e∈es,OkE e)∧es.length≤30 from o).1 w) (by have:=Paired.length w; have:=(show (∀ e∈es,OkE e)∧es.length≤30 from o).2; omega)
theorem zavo {H:Hp}{r:Rw}{p:Addr} (o:r.ok) (h:r.At H p):DAt true 24 H (rwD r) (.ref p):=by
 obtain ⟨vs,a,w⟩:=h
 have l3:=zaq4 _ o.fo
 rw [List.length_map] at l3
 have lw:=Paired.length w
 exact zah0 a (.cons (zafn _) (zaei (Pd:=RP.ok) (g:=rpD) (fun p v z y=>zavn z y) o.ps w)) (by rw [List.length_cons]; omega)
structure Ln (x:Str) (r:Rw):Prop where
 ex:∃ cs,x.cps.toList=ctx cs∧Sep cs∧(∀ t,some t∈cs→t.ok)∧cs.filterMap id=r.ts
 l:x.length≤20000
 ok:r.ok
theorem zavp {c:Option Tk} (h:∀ t,c=some t→t.ok):10 ∉ cT c:=by
 cases c with
 | none=>decide
 | some t =>
  have ht:=h t rfl
  intro z
  have z:10∈t.t.cps.toList:=z
  cases t with
  | nm x=>have:=(Nm.cps ht).2 10 z; exact absurd this (by decide)
  | wd x=>have:=(zadr x ht).2 10 z; exact absurd this (by decide)
  | nu n=>have:=zaj1 (show Num n from ht) 10 z; exact absurd this (by decide)
  | sg x =>
   have:∀ x∈SIGS,10 ∉ x.cps.toList:=by decide +kernel
   exact this x ht z
theorem Ln.no10 {x:Str}{r:Rw} (h:Ln x r):10 ∉ x.cps.toList:=by
 obtain ⟨cs,e,_,ok,_⟩:=h.ex
 rw [e]
 intro z
 obtain ⟨c,hc,hz⟩:=List.mem_flatMap.mp z
 exact zavp (fun t e=>ok t (by rw [← e]; exact hc)) hz
abbrev Mod:=Str × List Rw
abbrev MSt:=List Mod × Option Mod
def nmOf (r:Rw):Str:=match r.ps with
 | .nm x :: _=>x
 | _ => ""
def mstep (s:MSt) (r:Rw):MSt :=
 if r.w = "module" then (s.1,some (nmOf r,[]))
 else match s.2 with
  | none=>s
  | some m=>if r.w = "end" then (s.1++[m],none) else (s.1,some (m.1,m.2++[r]))
structure MVal (rws:List Rw) (ms:List Mod):Prop where
 st:∀ i r,rws[i]?=some r→(r.w=Str.ofString "module" ↔ ((rws.take i).foldl mstep ([],none)).2=none)
 fin:rws.foldl mstep ([],none)=(ms,none)
def MoAt (C:Addr) (H:Hp) (m:Mod) (p:Addr):Prop:=∃ dx rp,H p=some (.ins C dx (fldsM m.1 rp))∧DAt true 25 H (.seq (m.2.map rwD)) rp
structure Ko (H H':Hp):Prop where
 t:Tu H H'
 o:∀ p C dx fs,H p=some (.ins C dx fs)→H' p=some (.ins C dx fs)
theorem Ko.new {H H':Hp} (c:Ch [] H H'):Ko H H':=⟨Tu.same c,fun p C dx fs h=>c.get h (by simp)⟩
theorem Ko.own {H:Hp}{q:Addr}{xs zs:List V} (h:H q=some (.lst xs)):Ko H (upd H q (.lst zs)):=⟨Tu.lst Ch.put h,fun p C dx fs e=>zafi (zae4 e h (by intro z; cases z)) e⟩
theorem MoAt.ko {C:Addr}{H H':Hp} (k:Ko H H') {m:Mod}{p:Addr} (h:MoAt C H m p):MoAt C H' m p:=let ⟨dx,rp,a,b⟩:=h; ⟨dx,rp,k.o _ _ _ _ a,DAt.tu k.t b⟩
theorem Ch.inst {H:Hp}{x dx C:Addr} (hx:H x=none) (hd:H dx=none) (n:dx≠x):Ch [] H (upd (upd H dx (.own x)) x (.ins C dx [])):=(Ch.new hd _).trans (Ch.new (by rw [zaax n.symm]; exact hx) _)
theorem Ch.forget {W:List Addr}{H H':Hp} (c:Ch W H H') (h:∀ w∈W,H w=none):Ch [] H H':=fun a o e _=>c a o e fun z=>by rw [h a z] at e; cases e
theorem Ch.made {H H':Hp}{x dx C:Addr} (hx:H x=none) (hd:H dx=none) (n:dx≠x) (c:Ch [x] (upd (upd H dx (.own x)) x (.ins C dx [])) H'):Ch [] H H' :=
 Ch.forget ((Ch.inst (C:=C) hx hd n).wk.trans c) (fun w hw=>by rw [List.mem_singleton.mp hw]; exact hx)
theorem zavq {r:Rw} (o:r.ok) (h:r.w=Str.ofString "module"):∃ x,r.ps=[.nm x]:=by
 have fo:=o.fo
 rw [h] at fo
 have key:∀ q∈RFORMS,q.1=Str.ofString "module" → q.2=[Str.ofString "name"]:=by decide +kernel
 have e:r.ps.map RP.k=[Str.ofString "name"]:=key _ fo rfl
 obtain ⟨p,hp,ep⟩:=List.map_eq_singleton_iff.mp e
 cases p with
 | nm x=>exact ⟨x,hp⟩
 | nu n=>exact absurd ep (by show ¬ Str.ofString "number" = Str.ofString "name"; decide +kernel)
 | ex _=>exact absurd ep (by show ¬ Str.ofString "expr" = Str.ofString "name"; decide +kernel)
 | exs _=>exact absurd ep (by show ¬ Str.ofString "exprs" = Str.ofString "name"; decide +kernel)
theorem zafe {α β:Type}{R:α→Addr→Prop}{S:β→V→Prop}{g:α→β}{Pd:α→Prop} (h:∀ x p,Pd x→R x p→S (g x) (.ref p)):∀ {xs:List α}{ps:List Addr},(∀ x∈xs,Pd x)→Paired R xs ps→Paired S (xs.map g) (ps.map V.ref)
 | _,_,_,.nil=>.nil
 | _,_,o,.cons a t=>.cons (h _ _ (o _ (by simp)) a) (zafe h (fun x hx=>o x (by simp [hx])) t)
theorem zaej {α β:Type}{R:α→β→Prop}:∀ {xs:List α}{ys:List β},Paired R xs ys→Paired (fun y x=>R x y) ys xs
 | _,_,.nil=>.nil
 | _,_,.cons a t=>.cons a (zaej t)
section
variable {P:Program}{w:World}{K:PySem.W.Frag}{mg:Str→Option Value}{base:Heap}{f:Addr}{fd:FuncData}{k:Nat}
theorem zajg:Nd "RowReader" := by decide +kernel
theorem zanu:Nd "Module" := by decide +kernel
theorem av31:AF (defScope (top 31)) ["text", "modules", "heading", "rows", "lines", "line", "row_text", "row"]:=⟨by decide +kernel⟩
structure LM (C:Addr) (H H':Hp) (ml ll:Addr) (ls:List Str) (i:Nat) (hd rv:V) (s:MSt):Prop where
 ch:Ch [] H H'
 f:H ml=none
 l:H' ll=some (.lst (ls.map V.str))
 nl:ll≠ml
 g:∃ ps,H' ml=some (.lst (ps.map V.ref))∧Paired (MoAt C H') s.1 ps
 n:s.2=none→hd=.non
 c:∀ m,s.2=some m→hd=.str m.1∧∃ rl rps,rv=.ref rl∧rl≠ml∧rl≠ll∧H rl=none∧H' rl=some (.lst (rps.map V.ref))∧Paired (Rw.At H') m.2 rps
 b:s.1.length≤i∧∀ m,s.2=some m→(∀ r∈m.2,r.ok)∧m.2.length≤i
theorem LM.new {C:Addr}{H H1 H2:Hp}{ml ll:Addr}{ls:List Str}{i:Nat}{hd rv:V}{s:MSt} (m:LM C H H1 ml ll ls i hd rv s) (c:Ch [] H1 H2):LM C H H2 ml ll ls i hd rv s :=
 ⟨m.ch.trans c,m.f,c.get m.l (by simp),m.nl,(let ⟨ps,a,b⟩:=m.g; ⟨ps,c.get a (by simp),zaal (fun _ _=>MoAt.ko (Ko.new c)) b⟩),m.n,(fun x hx=>let ⟨a,rl,rps,b1,b2,b3,b4,b5,b6⟩:=m.c x hx; ⟨a,rl,rps,b1,b2,b3,b4,c.get b5 (by simp),zaal (fun _ _ e=>Rw.At.kt (Tu.same c) e) b6⟩),m.b⟩
def spRM (C:Addr):Sp:=fun vs H Q _=>∃ (ls:List Str) (rws:List Rw) (ms:List Mod),vs=[.str (Str.join "\n" ls)]∧Paired Ln ls rws∧2≤ls.length∧ls.length≤200∧(Str.join "\n" ls).length≤1000000∧MVal rws ms∧∀ ml ps H',Ch [] H H'→H' ml=some (.lst (ps.map V.ref))→Paired (MoAt C H') ms ps→Q (.ref ml) H'
theorem scRM:FnScope ["text", "modules", "heading", "rows", "lines", "line", "row_text", "row"] ["text"] (defScope (top 31)):=⟨rfl,rfl,rfl,by decide +kernel,rfl,by decide +kernel,by decide +kernel⟩
end
end

section
theorem zaj3:∀ {l m:List (Option Tk)},Sep l→Sep m→(∀ a b,l.getLast?=some (some a)→m.head?=some (some b)→a.s=b.s→a.s=0)→Sep (l++m)
 | [],m,_,h,_=>h
 | [c],m,_,h,g=>by
  cases c with
  | none=>exact h
  | some a =>
   cases m with
   | nil=>exact h
   | cons d m =>
    cases d with
    | none=>exact h
    | some b=>exact ⟨g a b rfl rfl,h⟩
 | c :: d :: l,m,s,h,g=>by
  have ih:=zaj3 (l:=d :: l) (m:=m) s.tail h (fun a b e1 e2=>g a b (by rw [List.getLast?_cons_cons]; exact e1) e2)
  cases c with
  | none=>exact ih
  | some a =>
   cases d with
   | none=>exact ih
   | some b=>exact ⟨s.1,ih⟩
theorem zac2 (t:Option Tk):Sep [t]:=by cases t <;> trivial
theorem zadv {t:Tk} (h:t.ok):t.t.length≤9:=by
 cases t with
 | nm x=>have:=(show Nm x from h).l8; show x.length≤9; omega
 | wd x=>have:=zalz x h; show x.length≤9; omega
 | nu n=>exact zanh (show Num n from h)
 | sg x=>have:=zanl x h; show x.length≤9; omega
theorem zagp {r:Rw} (o:r.ok):∀ t∈r.ts,t.ok:=by
 intro t ht
 rcases List.mem_cons.mp ht with rfl | ht
 ·have:∀ q∈RFORMS,q.1∈WORDS:=by decide +kernel
  exact this _ o.fo
 ·obtain ⟨l,hl,ht⟩:=List.mem_flatten.mp ht
  obtain ⟨p,hp,rfl⟩:=List.mem_map.mp hl
  have op:=o.ps p hp
  cases p with
  | nm x =>
   have ht:t=.nm x:=by simpa [RP.ts] using ht
   subst ht; exact op
  | nu n =>
   have ht:t=.nu n:=by simpa [RP.ts] using ht
   subst ht; exact op
  | ex e=>exact zaew (show OkE e from op).o t ht
  | exs es =>
   obtain ⟨l,hl,ht⟩:=List.mem_flatten.mp ht
   obtain ⟨e,he,rfl⟩:=List.mem_map.mp hl
   exact zaew ((show (∀ e∈es,OkE e)∧es.length≤30 from op).1 e he).o t ht
def glue:List (List (Option Tk))→List (Option Tk)
 | []=>[]
 | [a]=>a
 | a :: b :: r=>a++none :: glue (b :: r)
def ech:Ex→List (Option Tk)
 | .nm x=>[some (.nm x)]
 | .of x y=>[some (.nm x),some (.sg "."),some (.nm y)]
 | .val a b=>[some (.nu a),some (.sg ":"),some (.nu b)]
 | .un a=>some (.sg "(") :: (glue [[some (.wd "not")],ech a]++[some (.sg ")")])
 | .bi w a b=>some (.sg "(") :: (glue [[some (.wd w)],ech a,ech b]++[some (.sg ")")])
 | .pick a b c=>some (.sg "(") :: (glue [[some (.wd "pick")],ech a,ech b,ech c]++[some (.sg ")")])
 | .part a l w=>some (.sg "(") :: (glue [[some (.wd "part")],ech a,[some (.nu l)],[some (.nu w)]]++[some (.sg ")")])
theorem zad5:∀ {l:List (List (Option Tk))},(∀ a∈l,Sep a)→Sep (glue l)
 | [],_=>trivial
 | [a],h=>h a (by simp)
 | a :: b :: r,h=>by
  show Sep (a++none :: glue (b :: r))
  refine zaj3 (h a (by simp)) (show Sep (none :: glue (b :: r)) from zad5 (l:=b :: r) fun x hx=>h x (by simp at hx ⊢; rcases hx with e | e <;> simp [e])) fun _ _ _ e=>?_
  cases e
theorem zak6 {l:List (Option Tk)} (h:Sep l):Sep (some (.sg "(") :: (l++[some (.sg ")")])):=by
 have h2:Sep (l++[some (.sg ")")]):=zaj3 h (zac2 _) fun a b _ e z=>by cases e; exact z
 cases hl:l++[some (Tk.sg ")")] with
 | nil=>trivial
 | cons c r =>
  rw [hl] at h2
  cases c with
  | none=>exact h2
  | some b=>exact ⟨fun _=>rfl,h2⟩
theorem zadj:∀ e:Ex,Sep (ech e)
 | .nm x=>trivial
 | .of x y=>⟨fun z=>(by cases z),fun _=>rfl,trivial⟩
 | .val a b=>⟨fun z=>(by cases z),fun _=>rfl,trivial⟩
 | .un a=>zak6 (zad5 fun x hx=>by
   simp at hx
   rcases hx with rfl | rfl
   ·exact zac2 _
   ·exact zadj a)
 | .bi w a b=>zak6 (zad5 fun x hx=>by
   simp at hx
   rcases hx with rfl | rfl | rfl
   ·exact zac2 _
   ·exact zadj a
   ·exact zadj b)
 | .pick a b c=>zak6 (zad5 fun x hx=>by
   simp at hx
   rcases hx with rfl | rfl | rfl | rfl
   ·exact zac2 _
   ·exact zadj a
   ·exact zadj b
   ·exact zadj c)
 | .part a l w=>zak6 (zad5 fun x hx=>by
   simp at hx
   rcases hx with rfl | rfl | rfl | rfl
   ·exact zac2 _
   ·exact zadj a
   ·exact zac2 _
   ·exact zac2 _)
theorem bl1:(Str.ofString " ").cps.toList=[32]∧(Str.ofString "(").cps.toList=[40]∧(Str.ofString ")").cps.toList=[41]:=by decide +kernel
theorem zah1:∀ l:List (List (Option Tk)),∀ xs:List Str,xs.map (fun x=>x.cps.toList)=l.map ctx→(Str.join " " xs).cps.toList=ctx (glue l)
 | [],[],_=>rfl
 | [a],[x],h=>by show x.cps.toList=ctx a; simpa using h
 | a :: b :: r,x :: y :: q,h=>by
  have ih:=zah1 (b :: r) (y :: q) (by simp at h ⊢; exact h.2)
  show ((x ++ " ")++Str.join " " (y :: q)).cps.toList=ctx (a++none :: glue (b :: r))
  rw [zaa5,zaa5,ih,zank,zahw]
  simp at h
  rw [h.1,bl1.1,List.append_assoc]
  rfl
 | [],_ :: _,h=>by simp at h
 | _ :: _,[],h=>by simp at h
 | [_],_ :: _ :: _,h=>by simp at h
 | _ :: _ :: _,[_],h=>by simp at h
theorem zak7 {l:List (List (Option Tk))}{xs:List Str} (h:xs.map (fun x=>x.cps.toList)=l.map ctx):("(" ++ Str.join " " xs ++ ")" : Str).cps.toList=ctx (some (.sg "(") :: (glue l++[some (.sg ")")])):=by
 rw [zaa5,zaa5,zah1 l xs h,zahw,zank]
 simp [ctx,cT,Tk.t]
theorem zadk:∀ e:Ex,(wr e).cps.toList=ctx (ech e)
 | .nm x=>by simp [wr,ech,ctx,cT,Tk.t]
 | .of x y=>by simp [wr,ech,ctx,cT,Tk.t,zaa5]
 | .val a b=>by simp [wr,ech,ctx,cT,Tk.t,zaa5]
 | .un a=>zak7 (by have:=zadk a; simp [this]; simp [ctx,cT,Tk.t])
 | .bi w a b=>zak7 (by have:=zadk a; have:=zadk b; simp [*]; simp [ctx,cT,Tk.t])
 | .pick a b c=>zak7 (by have:=zadk a; have:=zadk b; have:=zadk c; simp [*]; simp [ctx,cT,Tk.t])
 | .part a l w=>zak7 (by have:=zadk a; simp [*]; simp [ctx,cT,Tk.t])
theorem zafc:∀ l:List (List (Option Tk)),(glue l).filterMap id=(l.map fun a=>a.filterMap id).flatten
 | []=>rfl
 | [a]=>by simp [glue]
 | a :: b :: r=>by
  have ih:=zafc (b :: r)
  show (a++none :: glue (b :: r)).filterMap id=_
  rw [List.filterMap_append,List.filterMap_cons_none rfl,ih]
  simp
theorem zaex:∀ e:Ex,(ech e).filterMap id=tks e
 | .nm x=>rfl
 | .of x y=>rfl
 | .val a b=>rfl
 | .un a=>by have:=zaex a; simp [ech,tks,zafc,this]
 | .bi w a b=>by have:=zaex a; have:=zaex b; simp [ech,tks,zafc, *]
 | .pick a b c=>by have:=zaex a; have:=zaex b; have:=zaex c; simp [ech,tks,zafc, *]
 | .part a l w=>by have:=zaex a; simp [ech,tks,zafc, *]
theorem zaxd {cs:List (Option Tk)}{ts:List Tk} (h:cs.filterMap id=ts) (ok:∀ t∈ts,t.ok):∀ t,some t∈cs→t.ok:=fun t ht=>ok t (by rw [← h]; exact List.mem_filterMap.mpr ⟨some t,ht,rfl⟩)
end

section
theorem zak8 (e:Ex):(pcs e).map V.str=(tks e).map fun t=>V.str t.t:=by rw [← zagj,List.map_map]; rfl
theorem zas4:∀ q∈RFORMS,q.1≠Str.ofString "end" → q.2.head?=some (Str.ofString "name"):=by decide +kernel
theorem zavr:∀ q∈RFORMS,Str.ofString "expr" ∈ q.2→q.1≠Str.ofString "use" := by decide +kernel
theorem zas5:∀ q∈RFORMS,Str.ofString "exprs" ∈ q.2→q.1=Str.ofString "use" := by decide +kernel
theorem zavs {r:Rw} (o:r.ok) (h:r.w≠Str.ofString "end"):∃ x qs,r.ps=.nm x :: qs:=by
 have e:=zas4 _ o.fo h
 rw [List.head?_map] at e
 cases hp:r.ps with
 | nil=>rw [hp] at e; cases e
 | cons p qs =>
  rw [hp] at e
  have e:p.k=Str.ofString "name" := by simpa using e
  cases p with
  | nm x=>exact ⟨x,qs,rfl⟩
  | nu n=>exact absurd e (by show ¬ Str.ofString "number" = Str.ofString "name"; decide +kernel)
  | ex _=>exact absurd e (by show ¬ Str.ofString "expr" = Str.ofString "name"; decide +kernel)
  | exs _=>exact absurd e (by show ¬ Str.ofString "exprs" = Str.ofString "name"; decide +kernel)
theorem cut2 (x y:V) (ys:List V):cutV (x :: y :: ys) (some 2) none=ys:=by
 unfold cutV
 have e:HT.sIx (x :: y :: ys).length 0 (some 2)=2:=by
  have z:=HT.sIx_nat (x :: y :: ys).length 0 2
  rw [List.length_cons,List.length_cons] at z ⊢
  refine z.trans ?_
  omega
 rw [e,HT.sIx_none]
 simp
theorem zaqa (x y:V) (ys:List V):¬ (HT.sIx (x :: y :: ys).length 0 (some 2)=0∧HT.sIx (x :: y :: ys).length (x :: y :: ys).length none=(x :: y :: ys).length):=by
 intro h
 have e:HT.sIx (x :: y :: ys).length 0 (some 2)=2:=by
  have z:=HT.sIx_nat (x :: y :: ys).length 0 2
  rw [List.length_cons,List.length_cons] at z ⊢
  refine z.trans ?_
  omega
 omega
section
variable {P:Program}{w:World}{K:PySem.W.Frag}{mg:Str→Option Value}{base:Heap}{f:Addr}{fd:FuncData}{k:Nat}
theorem av41:AF (defScope (top 41)) ["_law_row_here", "_law_pieces_here", "_law_part", "_law_expr_here"]:=⟨by decide +kernel⟩
theorem gl41:AG (defScope (top 41)) ["isinstance", "int", "str", "_law_pieces"]:=⟨by decide +kernel⟩
def spRwP:Sp:=fun vs H Q _=>∃ (p:Addr) (r:Rw),vs=[.ref p]∧r.At H p∧r.ok∧r.w≠Str.ofString "end" ∧ r.ts.length≤400∧∀ l H',Ch [] H H'→H l=none→H' l=some (.lst (r.ts.map fun t=>V.str t.t))→Q (.ref l) H'
theorem scRwP:FnScope ["_law_row_here", "_law_pieces_here", "_law_part", "_law_expr_here"] ["_law_row_here"] (defScope (top 41)):=⟨rfl,rfl,rfl,by decide +kernel,rfl,by decide +kernel,by decide +kernel⟩
theorem zavt (F:Fun K "_law_row_pieces" "_law_row_pieces" (top 41) f fd) (D_law_pieces:DefOk P w K mg base CX0 k "_law_pieces" ["_law_expr_here"] (spPc 21)) (z_isinstance:mg "isinstance" = none) (z_int:mg "int" = none) (z_str:mg "str" = none):FnOk P w K mg base CX0 (k + 1) f fd ["_law_row_here"] spRwP:=by
 have nd:=scRwP.nd
 refine F.ok scRwP (fun vs H Q E h=>by obtain ⟨p,r,rfl,_⟩:=h; rfl) (fun cdv A outer s H vs Q E hr h=>?_)
 obtain ⟨p,r,rfl,⟨vs,hp,pv⟩,ok,ne,lt,q⟩:=h
 obtain ⟨x,qs,eq⟩:=zavs ok ne
 rw [eq] at pv
 cases pv with
 | cons e1 pv =>
  rename_i v0 vs
  have e1:v0=V.str x:=e1
  subst e1
  refine ⟨_,(Pr.h (zaad (zaan (i:=1) nd rfl (av41.l 1 rfl) (zaay (zaaa (zaar zabw (qv av41 0 rfl) zaae (fun _ _=>rfl)) (zaaa (zaar zabw (qv av41 0 rfl) zaae (fun _ _=>rfl)) zaac zaaq) zaaq))) (zaad (zab7 PassesOwn.never rfl (zae8 (zaa1 zaqy (qv av41 0 rfl) (zaa4 zaae) zabb)) (zabc (i:=2) nd rfl (av41.l 2 rfl)) (zaah (zaat (zab5 (zaas zaes (gl41.g 0 rfl) z_isinstance zabd (zaaa (qv av41 2 rfl) (zaaa (zaci (v:=.ty "int") (gl41.g 1 rfl) z_int zagf rfl zagg zagh) zaac)) zabe zabf)) (zaah (zaa7 (zabz PySem.F.plainAttrs_list PySem.F.slot_list_append PySem.F.type_list_append zaby (qv av41 1 rfl) (zaaa (zaba zacv (gl41.g 2 rfl) z_str zaja (zaaa (qv av41 2 rfl) zaac zaag) zajb zajc) zaac zaaz)))) (zaah (zaat (zab5 (zaas zaes (gl41.g 0 rfl) z_isinstance zabd (zaaa (qv av41 2 rfl) (zaaa (zaci (v:=.ty "str") (gl41.g 2 rfl) z_str zaja rfl zajb zajc) zaac)) zabe zabf)) (zaah (zaa7 (zabz PySem.F.plainAttrs_list PySem.F.slot_list_append PySem.F.type_list_append zaby (qv av41 1 rfl) (zaaa (qv av41 2 rfl) zaac zaag)))) (zaah (zaat (zaam zabp (zaar zabw (qv av41 0 rfl) zaae (fun _ _=>rfl)) zaaf (nomark _)) (zaah (zab7 PassesOwn.never rfl (zae8 (qv av41 2 rfl)) (zabc (i:=3) nd rfl (av41.l 3 rfl)) (zaah (zaa7 (zabz PySem.F.plainAttrs_list PySem.F.slot_list_extend PySem.F.type_list_extend zaeo (qv av41 1 rfl) (zaaa (zaak D_law_pieces hr (gl41.g 3 rfl) pass0 (zaaa (qv av41 3 rfl) zaac zaag) zac1) zaac zaaz)))))) (zaah (zaa7 (zabz PySem.F.plainAttrs_list PySem.F.slot_list_extend PySem.F.type_list_extend zaeo (qv av41 1 rfl) (zaaa (zaak D_law_pieces hr (gl41.g 3 rfl) pass0 (zaaa (qv av41 2 rfl) zaac zaag) zac1) zaac zaaz))))))))))) (zaah (zaao (qv av41 1 rfl)))))),?_⟩
  (try dsimp only [cxOf])
  have a1:atI (V.str r.w :: V.str x :: vs) 1=some (.str x):=zack (j:=1) rfl
  walk_at "rd"
  rename_i l hl
  refine ⟨zaqa _ _ _,fun T hT=>?_⟩
  walk_at "rd"
  rw [cut2]
  have c0:Ch [] H (upd (upd H l (.lst [.str r.w,.str x])) T (.tup vs)):=(Ch.new hl _).trans (Ch.new hT _)
  have g0:(upd (upd H l (.lst [.str r.w,.str x])) T (.tup vs)) l=some (.lst ((r.ts.take 2).map fun t=>V.str t.t)):=by
   rw [zaep hT zaai]
   show _=some (HO.lst (((Tk.wd r.w :: (r.ps.map RP.ts).flatten).take 2).map fun t=>V.str t.t))
   rw [eq]
   rfl
  have gT:(upd (upd H l (.lst [.str r.w,.str x])) T (.tup vs)) T=some (.tup vs):=zaai
  generalize upd (upd H l (.lst [.str r.w,.str x])) T (.tup vs)=H1 at c0 g0 gT ⊢
  have lr:=Paired.length pv
  have ets:r.ts=.wd r.w :: .nm x :: (qs.map RP.ts).flatten:=by
   show Tk.wd r.w :: (r.ps.map RP.ts).flatten=_
   rw [eq]; rfl
  have q3:=zaq4 _ ok.fo
  rw [List.length_map,eq,List.length_cons] at q3
  refine zaeq (xs:=vs) (fun i σ H'=>∃ (u2 u3:Option V),σ=[some (.ref p),some (.ref l),u2,u3]∧Ch [] H H'∧H' T=some (.tup vs)∧H' l=some (.lst ((Tk.wd r.w :: Tk.nm x :: ((qs.take i).map RP.ts).flatten).map fun t=>V.str t.t))) ⟨_,_,rfl,c0,gT,by rw [g0,ets]; rfl⟩ ?_ ?_ ?_
  ·rintro i σ H' hi ⟨u2,u3,rfl,_,g,_⟩
   exact SqT.of g
  ·clear c0 g0 gT
   rintro i v σ H' hv ⟨u2,u3,rfl,ch,gT,g⟩
   obtain ⟨pt,ep,av⟩:=zabn pv hv
   have av:pt.At H' v:=RP.At.kt (KT.same ch) av
   have et:qs.take (i + 1)=qs.take i++[pt]:=by rw [List.take_add_one,ep]; rfl
   have nTl:T≠l:=zae4 gT g (by intro z; cases z)
   have mem:pt∈r.ps:=by rw [eq]; exact List.mem_cons_of_mem _ (List.mem_of_getElem? ep)
   have okp:=ok.ps pt mem
   have hpr:=ch.get hp (by simp)
   have llt:((qs.take i).map RP.ts).flatten.length + pt.ts.length≤400:=by
    have e0:qs=qs.take i++pt :: qs.drop (i + 1):=by
     have:=(List.getElem?_eq_some_iff.mp ep)
     rw [← this.2,← List.drop_eq_getElem_cons this.1,List.take_append_drop]
    rw [ets,e0] at lt
    simp only [List.length_cons,List.map_append,List.flatten_append,List.length_append,List.map_cons,List.flatten_cons] at lt
    omega
   have lg:((Tk.wd r.w :: Tk.nm x :: ((qs.take i).map RP.ts).flatten).map fun t=>V.str t.t).length≤410:=by rw [List.length_map,List.length_cons,List.length_cons]; omega
   have nxt:∀ zs:List V,zs=pt.ts.map (fun t=>V.str t.t)→((Tk.wd r.w :: Tk.nm x :: ((qs.take i).map RP.ts).flatten).map fun t=>V.str t.t)++zs=(Tk.wd r.w :: Tk.nm x :: ((qs.take (i + 1)).map RP.ts).flatten).map fun t=>V.str t.t:=fun zs ez=>by
    rw [et,ez]
    simp
   cases pt with
   | nm y =>
    have av:v=.str y:=av
    subst av
    walk_at "rd"
    rw [zaai]
    exact congrArg (fun z=>some (HO.lst z)) (nxt _ rfl)
   | nu n =>
    have av:v=.int n:=av
    subst av
    have lg2:=zahv (show Num n from okp)
    walk_at "rd"
    rw [zaai]
    exact congrArg (fun z=>some (HO.lst z)) (nxt _ rfl)
   | ex e =>
    have oe:OkE e:=okp
    have wu:=zavr _ ok.fo (by rw [← show RP.k (.ex e)=Str.ofString "expr" from rfl]; exact List.mem_map_of_mem mem)
    have av:IsE H' e v:=av
    obtain ⟨pe,xe,rfl,hpe⟩:=av.tup
    have bxE:Box (IsE H' e (.ref pe)):=⟨av⟩
    clear av
    have lpc:((pcs e).map V.str).length≤800:=by rw [List.length_map]; have:=zacr e; have:=oe.s; omega
    walk_at "rd"
    refine zaeh wu ?_
    walk_at "rd"
    refine ⟨oe.o,oe.d,oe.s,fun r2 H2 c2 g2=>?_⟩
    have g3:=c2.get g (by simp)
    have gT3:=c2.get gT (by simp)
    have ch3:=ch.trans c2
    clear g gT hpr
    walk_at "rd"
    rw [zaai]
    exact congrArg (fun z=>some (HO.lst z)) (nxt _ (zak8 e))
   | exs es =>
    obtain ⟨pe,us,rfl,hpe,pus⟩:=av
    obtain ⟨oes,l30⟩:=(show (∀ e∈es,OkE e)∧es.length≤30 from okp)
    have wu:=zas5 _ ok.fo (by rw [← show RP.k (.exs es)=Str.ofString "exprs" from rfl]; exact List.mem_map_of_mem mem)
    walk_at "rd"
    refine zavg wu ?_
    have lus:=Paired.length pus
    walk_at "rd"
    refine zaeq (xs:=us) (fun j σ H2=>∃ u3:Option V,σ=[some (.ref p),some (.ref l),some (.ref pe),u3]∧Ch [] H H2∧H2 T=some (.tup vs)∧H2 pe=some (.tup us)∧Paired (IsE H2) es us∧H2 l=some (.lst (((Tk.wd r.w :: Tk.nm x :: ((qs.take i).map RP.ts).flatten).map fun t=>V.str t.t)++(((es.take j).map tks).flatten.map fun t=>V.str t.t)))) ⟨_,rfl,ch,gT,hpe,pus,by rw [g]; simp⟩ ?_ ?_ ?_
    ·rintro j σ H2 hj ⟨u3,rfl,_,_,g,_⟩
     exact SqT.of g
    ·clear g gT hpe pus ch hpr
     rintro j v σ H2 hv ⟨u3,rfl,ch2,gT2,hpe2,pus2,g2⟩
     obtain ⟨e,ee,ie⟩:=zabn pus2 hv
     have oe:=oes e (List.mem_of_getElem? ee)
     obtain ⟨pp,xe,rfl,hpp⟩:=ie.tup
     have bxE:Box (IsE H2 e (.ref pp)):=⟨ie⟩
     clear ie
     have e2:es.take (j + 1)=es.take j++[e]:=by rw [List.take_add_one,ee]; rfl
     have lpc:((pcs e).map V.str).length≤800:=by rw [List.length_map]; have:=zacr e; have:=oe.s; omega
     have lex:((es.take j).map tks).flatten.length≤400:=by
      have h1:((es.take j).map tks).flatten.length≤(es.map tks).flatten.length:=by
       conv=>rhs; rw [← List.take_append_drop j es]
       rw [List.map_append,List.flatten_append,List.length_append]; omega
      have h2:(es.map tks).flatten.length≤400:=Nat.le_trans (Nat.le_add_left _ _) llt
      omega
     have lg3:(((Tk.wd r.w :: Tk.nm x :: ((qs.take i).map RP.ts).flatten).map fun t=>V.str t.t)++(((es.take j).map tks).flatten.map fun t=>V.str t.t)).length≤1000:=by rw [List.length_append,List.length_map _ (as:=((es.take j).map tks).flatten)]; omega
     walk_at "rd"
     refine ⟨bxE.h,oe.o,oe.d,oe.s,fun r3 H3 c3 g3=>?_⟩
     have g4:=c3.get g2 (by simp)
     walk_at "rd"
     refine ⟨zaal (fun _ _ z=>IsE.kt ((KT.same c3).trans (Tu.lst Ch.put g4)) z) pus2,?_⟩
     rw [zaai,e2,zak8]
     simp
    ·rintro σ H2 ⟨u3,rfl,ch2,gT2,hpe2,pus2,g2⟩
     rw [← lus,List.take_length] at g2
     exact ⟨_,_,rfl,ch2,gT2,by rw [g2]; exact congrArg (fun z=>some (HO.lst z)) (nxt _ rfl)⟩
  ·rintro σ H' ⟨u2,u3,rfl,ch,_,g⟩
   rw [← lr,List.take_length,← ets] at g
   walk_at "rd"
   exact q l _ ch hl g
end
end

section
structure DQ (K:PySem.W.Frag) (H H':Hp) (a b:Addr) (ns:List Int) (c:Int):Prop where
 ch:Ch [b] H H'
 hS:Scr K H' a ns
 hb:H' b=some (.lst [.int c])
section
variable {K:PySem.W.Frag}{H H' H'':Hp}{a b q:Addr}{ns:List Int}{c c':Int}
theorem DQ.next (d:DQ K H H' a b ns c) (e:Ch [b] H' H'') (h:H'' b=some (.lst [.int c'])):DQ K H H'' a b ns c':=⟨d.ch.trans e,d.hS.ch d.hb e,h⟩
theorem DQ.new (d:DQ K H H' a b ns c) (e:Ch [] H' H''):DQ K H H'' a b ns c:=⟨d.ch.trans e.wk,d.hS.same e,e.get d.hb (by simp)⟩
theorem DQ.own {xs zs:List V} (d:DQ K H H' a b ns c) (h0:H q=none) (hq:H' q=some (.lst xs)) (nb:b≠q):DQ K H (upd H' q (.lst zs)) a b ns c:=⟨Ch.own h0 d.ch,d.hS.ch hq Ch.put,zafi nb d.hb⟩
end
structure Rw.go (r:Rw):Prop where
 ok:r.ok
 w1:r.w≠Str.ofString "module"
 w2:r.w≠Str.ofString "end"
 l:r.ts.length≤300
theorem zaxe (n:Int):∃ wd:Str,atI [V.str "in",V.str "keep",V.str "let",V.str "use",V.str "next",V.str "out"] (n % 6)=some (.str wd)∧wd≠Str.ofString "module" ∧ wd≠Str.ofString "end" ∧ (wd=Str.ofString "in" ∨ wd=Str.ofString "keep" ∨ wd=Str.ofString "use" ∨ (wd≠Str.ofString "in" ∧ wd≠Str.ofString "keep" ∧ wd≠Str.ofString "use" ∧ (wd,[Str.ofString "name",Str.ofString "expr"])∈RFORMS)):=by
 have:n % 6=0∨n % 6=1∨n % 6=2∨n % 6=3∨n % 6=4∨n % 6=5:=by omega
 rcases this with h | h | h | h | h | h <;> rw [h]
 ·exact ⟨"in",rfl,by decide +kernel⟩
 ·exact ⟨"keep",rfl,by decide +kernel⟩
 ·exact ⟨"let",rfl,by decide +kernel⟩
 ·exact ⟨"use",rfl,by decide +kernel⟩
 ·exact ⟨"next",rfl,by decide +kernel⟩
 ·exact ⟨"out",rfl,by decide +kernel⟩
structure SmE (e:Ex):Prop where
 o:Ok e
 s:e.size≤4
 d:e.deep≤1
theorem zaq5:∀ es:List Ex,(∀ e∈es,SmE e)→((es.map tks).flatten).length≤32 * es.length
 | [],_=>by simp
 | e :: es,h=>by
  have h1:=zaq5 es fun y hy=>h y (List.mem_cons_of_mem _ hy)
  have h2:=zani e
  have h3:=(h e (by simp)).s
  rw [List.map_cons,List.flatten_cons,List.length_append,List.length_cons]
  omega
theorem zas6:(Str.ofString "in",[Str.ofString "name",Str.ofString "number"])∈RFORMS∧(Str.ofString "keep",[Str.ofString "name",Str.ofString "number",Str.ofString "number"])∈RFORMS∧(Str.ofString "use",[Str.ofString "name",Str.ofString "name",Str.ofString "exprs"])∈RFORMS:=by decide +kernel
section
variable {P:Program}{w:World}{K:PySem.W.Frag}{mg:Str→Option Value}{base:Heap}{f:Addr}{fd:FuncData}{k:Nat}
theorem av43:AF (defScope (top 43)) ["_law_script", "_law_at", "_law_most", "_law_n", "_law_word", "_law_name_here", "_law_exprs"]:=⟨by decide +kernel⟩
theorem gl43:AG (defScope (top 43)) ["_law_next", "_law_name", "_law_number", "range", "tuple", "_law_expr"]:=⟨by decide +kernel⟩
def zah2:Scope:={ kind:=PySem.ScopeKind.function,names:=[ (PySem.Str.ofString ".0",PySem.NameKind.local),(PySem.Str.ofString "_law_k",PySem.NameKind.local),(PySem.Str.ofString "_law_expr",PySem.NameKind.globalImplicit),(PySem.Str.ofString "_law_at",PySem.NameKind.free),(PySem.Str.ofString "_law_script",PySem.NameKind.free)],isGenerator:=false,isCoroutine:=false,more:=[]:PySem.Scope }
theorem zanv:CompOk zah2 (defScope (top 43)) (["_law_k"]:List Str) (["_law_script", "_law_at", "_law_most", "_law_n", "_law_word", "_law_name_here", "_law_exprs"]:List Str) [0,1] (["_law_k", "_law_script", "_law_at"]:List Str):=compOk rfl (by decide +kernel) (by decide +kernel) (by decide +kernel) (by decide +kernel) rfl (by decide +kernel)
theorem zanw:AK (relab zah2 (defScope (top 43))) ["_law_k"]:=⟨by decide +kernel⟩
theorem zas7:AG (relab zah2 (defScope (top 43))) ["_law_expr"]:=⟨by decide +kernel⟩
theorem zanx:AV (relab zah2 (defScope (top 43))) ["_law_k", "_law_script", "_law_at"]:=⟨by decide +kernel⟩
def spRow3 (K:PySem.W.Frag):Sp:=fun vs H Q _=>∃ (a b:Addr) (ns:List Int) (c:Int),vs=[.ref a,.ref b,.int 2]∧Scr K H a ns∧H b=some (.lst [.int c])∧0≤c∧c≤2 ^ 45 ∧
 ∀ (T:Addr) (r:Rw) (H':Hp) (c':Int),r.At H' T→r.go→c≤c'→c'≤c + 200→Ch [b] H H'→H' b=some (.lst [.int c'])→Q (.ref T) H'
theorem scRow3:FnScope ["_law_script", "_law_at", "_law_most", "_law_n", "_law_word", "_law_name_here", "_law_exprs"] ["_law_script", "_law_at", "_law_most"] (defScope (top 43)):=⟨rfl,rfl,rfl,by decide +kernel,rfl,by decide +kernel,by decide +kernel⟩
theorem zah3 {K:PySem.W.Frag}{H H4:Hp}{a b T:Addr}{ns:List Int}{c c':Int}{Q:VK}{wd:Str}{vs:List V} (q:∀ (T:Addr) (r:Rw) (H':Hp) (c':Int),r.At H' T→r.go→c≤c'→c'≤c + 200→Ch [b] H H'→H' b=some (.lst [.int c'])→Q (.ref T) H')
  (d:DQ K H H4 a b ns c') (hT:H4 T=none) (ps:List RP) (pv:Paired (RP.At H4) ps vs) (go:Rw.go ⟨wd,ps⟩) (l1:c≤c') (l2:c'≤c + 200):Q (.ref T) (upd H4 T (.tup (.str wd :: vs))) :=
 have d5:=d.new (Ch.new hT (.tup (.str wd :: vs)))
 q T ⟨wd,ps⟩ _ c' ⟨vs,zaai,zaal (fun _ _ z=>RP.At.kt (KT.same (Ch.new hT _)) z) pv⟩ go l1 l2 d5.ch d5.hb
theorem zas8 (F:Fun K "_law_row" "_law_row" (top 43) f fd) (D_law_next:DefOk P w K mg base CX0 k "_law_next" ["_law_script", "_law_at"] (spNext K)) (D_law_name:DefOk P w K mg base CX0 k "_law_name" ["_law_script", "_law_at"] (spName K)) (D_law_number:DefOk P w K mg base CX0 k "_law_number" ["_law_script", "_law_at"] (spNumber K)) (D_law_expr:DefOk P w K mg base CX0 k "_law_expr" ["_law_script", "_law_at", "_law_deep"] (spExpr K 4)) (z_range:mg "range" = none) (z_tuple:mg "tuple" = none):FnOk P w K mg base CX0 (k + 1) f fd ["_law_script", "_law_at", "_law_most"] (spRow3 K):=by
 have nd:=scRow3.nd
 refine F.ok scRow3 (fun vs H Q E h=>by obtain ⟨a,b,ns,c,rfl,_⟩:=h; rfl) (fun cdv A outer s H vs Q E hr h=>?_)
 obtain ⟨a,b,ns,c,rfl,hS,hb,h0,h1,q⟩:=h
 refine ⟨_,(Pr.h (zaad (zaan (i:=3) nd rfl (av43.l 3 rfl) (zaak D_law_next hr (gl43.g 0 rfl) pass0 (zaaa (qv av43 0 rfl) (zaaa (qv av43 1 rfl) zaac zaag) zaag) zabj)) (zaad (zaan (i:=4) nd rfl (av43.l 4 rfl) (zaar zaav (zaay (zaaa zaaf (zaaa zaaf (zaaa zaaf (zaaa zaaf (zaaa zaaf (zaaa zaaf zaac zaab) zaab) zaab) zaab) zaab) zaab)) (zaaj zaa0 (qv av43 3 rfl) zaae) (fun _ _=>rfl))) (zaad (zaan (i:=5) nd rfl (av43.l 5 rfl) (zaak D_law_name hr (gl43.g 1 rfl) pass0 (zaaa (qv av43 0 rfl) (zaaa (qv av43 1 rfl) zaac zaag) zaag) zacb)) (zaad (zaat (zaam zabp (qv av43 4 rfl) zaaf (nomark _)) (zaah (zaao (zabl (zaaa (qv av43 4 rfl) (zaaa (qv av43 5 rfl) (zaaa (zaak D_law_number hr (gl43.g 2 rfl) pass0 (zaaa (qv av43 0 rfl) (zaaa (qv av43 1 rfl) zaac zaag) zaag) zabo) zaac zaaz) zaag) zaag)))) zaap) (zaad (zaat (zaam zabp (qv av43 4 rfl) zaaf (nomark _)) (zaah (zaao (zabl (zaaa (qv av43 4 rfl) (zaaa (qv av43 5 rfl) (zaaa (zaak D_law_number hr (gl43.g 2 rfl) pass0 (zaaa (qv av43 0 rfl) (zaaa (qv av43 1 rfl) zaac zaag) zaag) zabo) (zaaa (zaak D_law_number hr (gl43.g 2 rfl) pass0 (zaaa (qv av43 0 rfl) (zaaa (qv av43 1 rfl) zaac zaag) zaag) zabo) zaac zaaz) zaaz) zaag) zaag)))) zaap) (zaad (zaat (zaam zabp (qv av43 4 rfl) zaaf (nomark _)) (zaad (zakw (i:=6) nd rfl (av43.l 6 rfl) rfl zanv (zacp (gl43.g 3 rfl) z_range (zaaa (zaaj zaa0 (zaaj zaa3 (qv av43 3 rfl) zaae) zaae) zaac zabx)) (fun _ _ _ _ _=>(zabc (i:=0) zanv.nd rfl (Or.inl (zanw.k 0 rfl)) (Or.inr (zanw.k 0 rfl)))) (fun _ _ _ _ _=>zad2) (fun _ _ _ _ _=>(zaak D_law_expr hr (zas7.g 0 rfl) pass0 (zaaa (qw zanx 1 rfl) (zaaa (qw zanx 2 rfl) (zaaa zaae zaac zaab) zaag) zaag) zab1)) rfl) (zaah (zaao (zabl (zaaa (qv av43 4 rfl) (zaaa (qv av43 5 rfl) (zaaa (zaak D_law_name hr (gl43.g 1 rfl) pass0 (zaaa (qv av43 0 rfl) (zaaa (qv av43 1 rfl) zaac zaag) zaag) zacb) (zaaa (zaba zabv (gl43.g 4 rfl) z_tuple zacm (zaaa (qv av43 6 rfl) zaac zaag) zacn zaco) zaac zaaz) zaaz) zaag) zaag))))) zaap) (zaah (zaao (zabl (zaaa (qv av43 4 rfl) (zaaa (qv av43 5 rfl) (zaaa (zaak D_law_expr hr (gl43.g 5 rfl) pass0 (zaaa (qv av43 0 rfl) (zaaa (qv av43 1 rfl) (zaaa (qv av43 2 rfl) zaac zaag) zaag) zaag) zab1) zaac zaaz) zaag) zaag))))))))))),?_⟩
 (try dsimp only [cxOf])
 have bx:Box (Scr K H a ns):=⟨hS⟩
 clear hS
 walk_at "rd"
 refine ⟨bx.h,hb,by omega,by omega,fun n H1 n0 n1 c1 b1=>?_⟩
 have d1:DQ K H H1 a b ns (c + 1):=⟨c1,bx.h.ch hb c1,b1⟩
 obtain ⟨wd,ew,wm,we,wf⟩:=zaxe n
 walk_at "rd"
 rename_i l6 hl6
 have d2:=d1.new (Ch.new hl6 (.lst [V.str "in",V.str "keep",V.str "let",V.str "use",V.str "next",V.str "out"]))
 generalize upd H1 l6 (.lst [V.str "in",V.str "keep",V.str "let",V.str "use",V.str "next",V.str "out"])=H2 at d2 ⊢
 refine ⟨d2.hS,d2.hb,by omega,by omega,fun x H3 c3 nmx ca cb ch3 b3=>?_⟩
 have d3:=d2.next ch3 b3
 clear d1 d2 hl6 bx c1 b1 ch3 b3
 have okx:RP.ok (.nm x):=nmx
 rcases wf with rfl | rfl | rfl | ⟨m1,m2,m3,fo⟩
 ·walk_at "rd"
  refine ⟨d3.hS,d3.hb,by omega,by omega,fun m H4 m0 m9 c4 b4=>?_⟩
  have d4:=d3.next c4 b4
  clear c4 b4 d3
  have okm:RP.ok (.nu m):=⟨m0,m9⟩
  refine And.intro (by rw [sizeLine_eq]; simp) fun T hT=>?_
  exact zah3 q d4 hT [.nm x,.nu m] (.cons rfl (.cons rfl .nil)) ⟨⟨zas6.1,by simp [okx,okm]⟩,wm,we,by simp [Rw.ts,RP.ts]⟩ (by omega) (by omega)
 ·walk_at "rd"
  refine ⟨d3.hS,d3.hb,by omega,by omega,fun m H4 m0 m9 c4 b4=>?_⟩
  have d4:=d3.next c4 b4
  clear c4 b4 d3
  have okm:RP.ok (.nu m):=⟨m0,m9⟩
  walk_at "rd"
  refine ⟨d4.hS,d4.hb,by omega,by omega,fun m2 H5 m0 m9 c4 b4=>?_⟩
  have d5:=d4.next c4 b4
  clear c4 b4 d4
  have okm2:RP.ok (.nu m2):=⟨m0,m9⟩
  refine And.intro (by rw [sizeLine_eq]; simp) fun T hT=>?_
  exact zah3 q d5 hT [.nm x,.nu m,.nu m2] (.cons rfl (.cons rfl (.cons rfl .nil))) ⟨⟨zas6.2.1,by simp [okx,okm,okm2]⟩,wm,we,by simp [Rw.ts,RP.ts]⟩ (by omega) (by omega)
 ·walk_at "rd"
  have hn:(n / 6 % 4).toNat≤3:=by omega
  generalize (n / 6 % 4).toNat=m at hn ⊢
  refine zahc (fun j ys σ H'=>∃ (c':Int) (es:List Ex),DQ K H H' a b ns c'∧Paired (IsE H') es ys∧(∀ e∈es,SmE e)∧es.length=j∧c3≤c'∧c'≤c3 + 32 * j∧∃ u,σ=[u,some (.ref a),some (.ref b)]) (by rw [sizeLine_eq]; omega) ⟨c3,[],d3,.nil,by simp,rfl,by omega,by omega,_,rfl⟩ ?_ ?_ ?_
  ·rintro j ys σ H' hj ⟨c',es,_,pv,_,le,_⟩
   have:=Paired.length pv
   omega
  ·clear d3
   rintro j ys σ H' hj ⟨c',es,d,pv,sm,le,l1,l2,u,rfl⟩
   walk_at "rd"
   refine ⟨d.hS,d.hb,by omega,by show c' + 8 * 4≤2 ^ 50; omega,by decide,by decide,fun v e H4 c4 me z1 z2 ch4 b4=>?_⟩
   have me:Made H4 e v 4 1:=me
   have z2:c4≤c' + 8 * 4:=z2
   refine ⟨c4,es++[e],d.next ch4 b4,zaa6 me.is (zaal (fun _ _ z=>IsE.kt (KT.ch ch4 d.hb) z) pv),fun y hy=>?_,by simp [le],by omega,by omega,_,rfl⟩
   rcases List.mem_append.mp hy with z | z
   ·exact sm y z
   ·rw [List.mem_singleton.mp z]; exact ⟨me.ok,me.sz,me.dp⟩
  clear d3
  rintro ys σ H4 ⟨c4,es,d4,pv,sm,le,l1,l2,_⟩
  intro p hp
  have d5:=d4.new (Ch.new hp (.lst ys))
  have gp:(upd H4 p (.lst ys)) p=some (.lst ys):=zaai
  have pv:=zaal (fun _ _ z=>IsE.kt (KT.same (Ch.new hp (.lst ys))) z) pv
  generalize upd H4 p (.lst ys)=H5 at d5 gp pv ⊢
  have npb:b≠p:=zaaw d4.hb hp
  clear d4 hp
  walk_at "rd"
  refine ⟨d5.hS,d5.hb,by omega,by omega,fun y H6 c6 nmy z1 z2 ch6 b6=>?_⟩
  have d6:=d5.next ch6 b6
  have gp6:=ch6.get gp (by simpa using npb.symm)
  have pv:=zaal (fun _ _ z=>IsE.kt (KT.ch ch6 d5.hb) z) pv
  clear ch6 b6 d5 gp
  have okes:RP.ok (.exs es):=⟨fun e he=>⟨(sm e he).o,by have:=(sm e he).d; omega,by have:=(sm e he).s; omega⟩,by omega⟩
  have oky:RP.ok (.nm y):=nmy
  have fl:=zaq5 es sm
  refine ⟨_,rfl,p,ys,rfl,.inl ⟨SqL.of gp6,fun l hl=>?_⟩⟩
  have d7:=d6.new (Ch.new hl (.tup ys))
  have pv:=zaal (fun _ _ z=>IsE.kt (KT.same (Ch.new hl (.tup ys))) z) pv
  refine And.intro (by rw [sizeLine_eq]; simp) fun T hT=>?_
  exact zah3 q d7 hT [.nm x,.nm y,.exs es] (.cons rfl (.cons rfl (.cons ⟨l,ys,rfl,zaai,pv⟩ .nil))) ⟨⟨zas6.2.2,by simp [okx,oky,okes]⟩,wm,we,by simp only [Rw.ts,RP.ts,List.map_cons,List.map_nil,List.flatten_cons,List.flatten_nil,List.length_cons,List.length_append,List.length_nil]; omega⟩ (by omega) (by omega)
 ·walk_at "rd"
  refine zaeh m1 ?_
  walk_at "rd"
  refine zaeh m2 ?_
  walk_at "rd"
  refine zaeh m3 ?_
  walk_at "rd"
  refine ⟨d3.hS,d3.hb,by omega,by show c3 + 8 * 16≤2 ^ 50; omega,by decide,by decide,fun v e H4 c4 me l1 l2 ch4 b4=>?_⟩
  have d4:=d3.next ch4 b4
  clear ch4 b4 d3
  have me:Made H4 e v 16 2:=me
  have l2:c4≤c3 + 8 * 16:=l2
  have oke:RP.ok (.ex e):=⟨me.ok,by have:=me.dp; omega,by have:=me.sz; omega⟩
  refine And.intro (by rw [sizeLine_eq]; simp) fun T hT=>?_
  exact zah3 q d4 hT [.nm x,.ex e] (.cons rfl (.cons me.is .nil)) ⟨⟨fo,by simp [okx,oke]⟩,wm,we,by have:=zani e; have:=me.sz; simp [Rw.ts,RP.ts]; omega⟩ (by omega) (by omega)
end
end

section
def MdAt (H:Hp) (m:Mod) (p:Addr):Prop:=∃ rp rps,H p=some (.tup [.str m.1,.ref rp])∧H rp=some (.tup (rps.map V.ref))∧Paired (Rw.At H) m.2 rps
theorem MdAt.kt {H H':Hp} (k:KT H H') {m:Mod}{p:Addr} (h:MdAt H m p):MdAt H' m p:=let ⟨rp,rps,a,b,c⟩:=h; ⟨rp,rps,k _ _ a,k _ _ b,zaal (fun _ _ z=>Rw.At.kt k z) c⟩
structure MOk (N:Nat) (m:Mod):Prop where
 n:Nm m.1
 r:∀ r∈m.2,r.go
 l:m.2.length≤N
structure DM (N:Nat) (H':Hp) (ms:List Mod) (ps:List Addr):Prop where
 p:Paired (MdAt H') ms ps
 o:∀ m∈ms,MOk N m
section
variable {P:Program}{w:World}{K:PySem.W.Frag}{mg:Str→Option Value}{base:Heap}{f:Addr}{fd:FuncData}{k:Nat}
theorem zaj4:Nd "_law_row" := by decide +kernel
theorem av44:AF (defScope (top 44)) ["_law_script", "_law_at", "_law_many", "_law_most", "_law_drawn", "_law_k", "_law_name_here"]:=⟨by decide +kernel⟩
theorem gl44:AG (defScope (top 44)) ["range", "_law_next", "_law_name", "tuple"]:=⟨by decide +kernel⟩
def zah4:Scope:={ kind:=PySem.ScopeKind.function,names:=[ (PySem.Str.ofString ".0",PySem.NameKind.local),(PySem.Str.ofString "_law_row_here",PySem.NameKind.local),(PySem.Str.ofString "_law_row",PySem.NameKind.globalImplicit),(PySem.Str.ofString "_law_at",PySem.NameKind.free),(PySem.Str.ofString "_law_script",PySem.NameKind.free)],isGenerator:=false,isCoroutine:=false,more:=[]:PySem.Scope }
theorem zany:CompOk zah4 (defScope (top 44)) (["_law_row_here"]:List Str) (["_law_script", "_law_at", "_law_many", "_law_most", "_law_drawn", "_law_k", "_law_name_here"]:List Str) [0,1] (["_law_row_here", "_law_script", "_law_at"]:List Str):=compOk rfl (by decide +kernel) (by decide +kernel) (by decide +kernel) (by decide +kernel) rfl (by decide +kernel)
theorem zanz:AK (relab zah4 (defScope (top 44))) ["_law_row_here"]:=⟨by decide +kernel⟩
theorem zas9:AG (relab zah4 (defScope (top 44))) ["_law_row"]:=⟨by decide +kernel⟩
theorem zan0:AV (relab zah4 (defScope (top 44))) ["_law_row_here", "_law_script", "_law_at"]:=⟨by decide +kernel⟩
def spDM (K:PySem.W.Frag):Sp:=fun vs H Q _=>∃ (a b:Addr) (ns:List Int) (c:Int),vs=[.ref a,.ref b,.int 3,.int 6]∧Scr K H a ns∧H b=some (.lst [.int c])∧0≤c∧c≤2 ^ 40 ∧
 ∀ (l:Addr) (ms:List Mod) (ps:List Addr) (H':Hp) (c':Int),H' l=some (.lst (ps.map V.ref))→DM 5 H' ms ps→1≤ms.length→ms.length≤3→l≠b→c≤c'→c'≤c + 5000→Ch [b] H H'→H' b=some (.lst [.int c'])→Q (.ref l) H'
theorem scDM:FnScope ["_law_script", "_law_at", "_law_many", "_law_most", "_law_drawn", "_law_k", "_law_name_here"] ["_law_script", "_law_at", "_law_many", "_law_most"] (defScope (top 44)):=⟨rfl,rfl,rfl,by decide +kernel,rfl,by decide +kernel,by decide +kernel⟩
theorem zaxf (F:Fun K "_law_drawn_modules" "_law_drawn_modules" (top 44) f fd) (D_law_next:DefOk P w K mg base CX0 k "_law_next" ["_law_script", "_law_at"] (spNext K)) (D_law_name:DefOk P w K mg base CX0 k "_law_name" ["_law_script", "_law_at"] (spName K)) (D_law_row:DefOk P w K mg base CX0 k "_law_row" ["_law_script", "_law_at", "_law_most"] (spRow3 K)) (z_range:mg "range" = none) (z_tuple:mg "tuple" = none):FnOk P w K mg base CX0 (k + 1) f fd ["_law_script", "_law_at", "_law_many", "_law_most"] (spDM K):=by
 have nd:=scDM.nd
 refine F.ok scDM (fun vs H Q E h=>by obtain ⟨a,b,ns,c,rfl,_⟩:=h; rfl) (fun cdv A outer s H vs Q E hr h=>?_)
 obtain ⟨a,b,ns,c,rfl,hS,hb,h0,h1,q⟩:=h
 refine ⟨_,(Pr.h (zaad (zaan (i:=4) nd rfl (av44.l 4 rfl) (zaay zaac)) (zaad (zab7 PassesOwn.never rfl (zacp (gl44.g 0 rfl) z_range (zaaa (zaaj zacc zaae (zaaj zaa0 (zaak D_law_next hr (gl44.g 1 rfl) pass0 (zaaa (qv av44 0 rfl) (zaaa (qv av44 1 rfl) zaac zaag) zaag) zabj) (qv av44 2 rfl))) zaac zabx)) (zabc (i:=5) nd rfl (av44.l 5 rfl)) (zaad (zaan (i:=6) nd rfl (av44.l 6 rfl) (zaak D_law_name hr (gl44.g 2 rfl) pass0 (zaaa (qv av44 0 rfl) (zaaa (qv av44 1 rfl) zaac zaag) zaag) zacb)) (zaah (zaa7 (zabz PySem.F.plainAttrs_list PySem.F.slot_list_append PySem.F.type_list_append zaby (qv av44 4 rfl) (zaaa (zabl (zaaa (qv av44 6 rfl) (zaaa (zaba zabv (gl44.g 3 rfl) z_tuple zacm (zaaa (zafs rfl zany (zacp (gl44.g 0 rfl) z_range (zaaa (zaaj zaa0 (zaak D_law_next hr (gl44.g 1 rfl) pass0 (zaaa (qv av44 0 rfl) (zaaa (qv av44 1 rfl) zaac zaag) zaag) zabj) (qv av44 3 rfl)) zaac zabx)) (fun _ _ _ _ _=>(zabc (i:=0) zany.nd rfl (Or.inl (zanz.k 0 rfl)) (Or.inr (zanz.k 0 rfl)))) (fun _ _ _ _ _=>zad2) (fun _ _ _ _ _=>(zaak D_law_row hr (zas9.g 0 rfl) pass0 (zaaa (qw zan0 1 rfl) (zaaa (qw zan0 2 rfl) (zaaa zaae zaac zaab) zaag) zaag) zaj4))) zaac zac9) zacn zaco) zaac zaaz) zaag)) zaac zapp)))))) (zaah (zaao (qv av44 4 rfl)))))),?_⟩
 (try dsimp only [cxOf])
 have bx:Box (Scr K H a ns):=⟨hS⟩
 clear hS
 walk_at "rd"
 rename_i dl hdl
 have nbl:b≠dl:=zaaw hb hdl
 have d0:DQ K H (upd H dl (.lst [])) a b ns c:=DQ.new ⟨Ch.refl _ _,bx.h,hb⟩ (Ch.new hdl _)
 have gd0:(upd H dl (.lst [])) dl=some (.lst []):=zaai
 generalize upd H dl (.lst [])=H0 at d0 gd0 ⊢
 refine ⟨d0.hS,d0.hb,by omega,by omega,fun n H1 n0 n1 c1 b1=>?_⟩
 clear bx
 have d1:=d0.next c1 b1
 have gd1:=c1.get gd0 (by simpa using nbl.symm)
 clear d0 gd0 c1 b1
 have hm1:1≤(1 + n % 3).toNat∧(1 + n % 3).toNat≤3:=by omega
 walk_at "rd"
 generalize (1 + n % 3).toNat=m at hm1 ⊢
 refine zad1 (fun i σ H'=>∃ (c':Int) (ms:List Mod) (ps:List Addr) (u5 u6:Option V),σ=[some (.ref a),some (.ref b),some (.int 3),some (.int 6),some (.ref dl),u5,u6]∧DQ K H H' a b ns c'∧H' dl=some (.lst (ps.map V.ref))∧DM 5 H' ms ps∧ms.length=i∧c≤c'∧c'≤c + 1 + 1100 * i) ⟨c + 1,[],[],_,_,rfl,d1,gd1,⟨.nil,by simp⟩,rfl,by omega,by omega⟩ ?_ ?_
 ·clear d1 gd1
  rintro i σ H' hi ⟨c',ms,ps,u5,u6,rfl,d,gd,dm,lm,l1,l2⟩
  have hi:i < m:=by simpa using hi
  have lp:=Paired.length dm.p
  walk_at "rd"
  refine ⟨d.hS,d.hb,by omega,by omega,fun x H2 c2 nmx z1 z2 ch2 b2=>?_⟩
  have e2:=d.next ch2 b2
  have gd2:=ch2.get gd (by simpa using nbl.symm)
  have dm2:Paired (MdAt H2) ms ps:=zaal (fun _ _ z=>MdAt.kt (KT.ch ch2 d.hb) z) dm.p
  have mo:=dm.o
  clear d gd dm ch2 b2
  walk_at "rd"
  refine ⟨e2.hS,e2.hb,by omega,by omega,fun n3 H3 n30 n31 ch3 b3=>?_⟩
  have e3:=e2.next ch3 b3
  have gd3:=ch3.get gd2 (by simpa using nbl.symm)
  have dm3:Paired (MdAt H3) ms ps:=zaal (fun _ _ z=>MdAt.kt (KT.ch ch3 e2.hb) z) dm2
  clear e2 gd2 dm2 ch3 b3
  have hr5:(n3 % 6).toNat≤5:=by omega
  walk_at "rd"
  generalize (n3 % 6).toNat=r at hr5 ⊢
  refine zahc (fun j ys σ H'=>∃ (c4:Int) (rs:List Rw) (qs:List Addr),ys=qs.map V.ref∧DQ K H H' a b ns c4∧H' dl=some (.lst (ps.map V.ref))∧Paired (MdAt H') ms ps∧Paired (Rw.At H') rs qs∧(∀ r∈rs,r.go)∧rs.length=j∧c2 + 1≤c4∧c4≤c2 + 1 + 200 * j∧∃ u,σ=[u,some (.ref a),some (.ref b)]) (by rw [sizeLine_eq]; omega) ⟨c2 + 1,[],[],rfl,e3,gd3,dm3,.nil,by simp,rfl,by omega,by omega,_,rfl⟩ ?_ ?_ ?_
  ·rintro j ys σ H' hj ⟨c4,rs,qs,rfl,_,_,_,pq,_,lr,_⟩
   have:=Paired.length pq
   rw [List.length_map]
   omega
  ·clear e3 gd3 dm3
   rintro j ys σ H' hj ⟨c4,rs,qs,rfl,d,gd,dm,pq,go,lr,k1,k2,u,rfl⟩
   walk_at "rd"
   refine ⟨d.hS,d.hb,by omega,by omega,fun T r1 H5 c5 at5 go5 y1 y2 ch5 b5=>?_⟩
   have kt:=KT.ch ch5 d.hb
   refine ⟨c5,rs++[r1],qs++[T],by simp,d.next ch5 b5,ch5.get gd (by simpa using nbl.symm),zaal (fun _ _ z=>MdAt.kt kt z) dm,zaa6 at5 (zaal (fun _ _ z=>Rw.At.kt kt z) pq),fun y hy=>?_,by simp [lr],by omega,by omega,_,rfl⟩
   rcases List.mem_append.mp hy with z | z
   ·exact go y z
   ·rw [List.mem_singleton.mp z]; exact go5
  clear e3 gd3 dm3
  rintro ys σ H5 ⟨c4,rs,qs,rfl,d,gd,dm,pq,go,lr,k1,k2,_⟩
  intro D hD
  have lr:rs.length=r:=by simpa using lr
  have lq:=Paired.length pq
  have d6:=d.new (Ch.new hD (.lst (qs.map V.ref)))
  have gd6:(upd H5 D (.lst (qs.map V.ref))) dl=_:=zaep hD gd
  have gD6:(upd H5 D (.lst (qs.map V.ref))) D=_:=zaai
  have k6:KT H5 (upd H5 D (.lst (qs.map V.ref))):=KT.same (Ch.new hD _)
  generalize upd H5 D (.lst (qs.map V.ref))=H6 at d6 gd6 gD6 k6 ⊢
  have dm6:Paired (MdAt H6) ms ps:=zaal (fun _ _ z=>MdAt.kt k6 z) dm
  have pq6:Paired (Rw.At H6) rs qs:=zaal (fun _ _ z=>Rw.At.kt k6 z) pq
  clear d gd dm pq hD k6
  have lps:(ps.map V.ref).length≤3:=by rw [List.length_map]; omega
  walk_at "rd"
  rename_i L hL T hT
  have c8:Ch [] H6 (upd (upd H6 L (.tup (qs.map V.ref))) T (.tup [.str x,.ref L])):=(Ch.new hL _).trans (Ch.new hT _)
  have d8:=d6.new c8
  have gL8:(upd (upd H6 L (.tup (qs.map V.ref))) T (.tup [.str x,.ref L])) L=some (.tup (qs.map V.ref)):=zaep hT zaai
  have gT8:(upd (upd H6 L (.tup (qs.map V.ref))) T (.tup [.str x,.ref L])) T=some (.tup [.str x,.ref L]):=zaai
  generalize upd (upd H6 L (.tup (qs.map V.ref))) T (.tup [.str x,.ref L])=H8 at c8 d8 gL8 gT8 ⊢
  have gd8:=c8.get gd6 (by simp)
  have k9:KT H8 (upd H8 dl (.lst (ps.map V.ref++[V.ref T]))):=KT.ch Ch.put gd8
  have k6:KT H6 (upd H8 dl (.lst (ps.map V.ref++[V.ref T]))):=fun p xs h=>k9 p xs (KT.same c8 p xs h)
  have dm9:DM 5 (upd H8 dl (.lst (ps.map V.ref++[V.ref T]))) (ms++[(x,rs)]) (ps++[T]):=by
   refine ⟨zaa6 ⟨L,qs,k9 _ _ gT8,k9 _ _ gL8,zaal (fun _ _ z=>Rw.At.kt k6 z) pq6⟩ (zaal (fun _ _ z=>MdAt.kt k6 z) dm6),fun y hy=>?_⟩
   rcases List.mem_append.mp hy with z | z
   ·exact mo y z
   ·rw [List.mem_singleton.mp z]; exact ⟨nmx,go,by show rs.length≤5; omega⟩
  exact ⟨d8.own hdl gd8 nbl,by rw [zaai,List.map_append]; rfl,dm9,by simp [lm],by omega,by omega⟩
 ·rintro σ H' ⟨c',ms,ps,u5,u6,rfl,d,gd,dm,lm,l1,l2⟩
  have lm:ms.length=m:=by simpa using lm
  have hl:=l2
  walk_at "rd"
  exact q dl ms ps H' c' gd dm (by omega) (by omega) nbl.symm l1 (by omega) d.ch d.hb
end
end

section
def rwM (x:Str):Rw:=⟨"module",[.nm x]⟩
def rwE:Rw:=⟨"end",[]⟩
def modR (m:Mod):List Rw:=rwM m.1 :: (m.2++[rwE])
def rowsOf (ms:List Mod):List Rw:=(ms.map modR).flatten
structure RlAt (H:Hp) (r:Rw) (q:Addr):Prop where
 h:H q=some (.lst (r.ts.map fun t=>V.str t.t))
theorem RlAt.ne {H:Hp}{r:Rw}{q rl:Addr}{qs:List Addr} (a:RlAt H r q) (h:H rl=some (.lst (qs.map V.ref))):q≠rl:=fun z=>by
 subst z
 have e:=a.h
 rw [h] at e
 have e:qs.map V.ref=r.ts.map fun t=>V.str t.t:=by simpa using e
 cases qs with
 | nil=>exact absurd e (by simp [Rw.ts])
 | cons x xs=>simp [Rw.ts] at e
theorem RlAt.put {H:Hp}{r:Rw}{q rl:Addr}{qs:List Addr}{o:HO} (h:H rl=some (.lst (qs.map V.ref))) (a:RlAt H r q):RlAt (upd H rl o) r q:=⟨zafi (a.ne h) a.h⟩
theorem RlAt.ch {H H':Hp}{r:Rw}{q:Addr} (c:Ch [] H H') (a:RlAt H r q):RlAt H' r q:=⟨c.get a.h (by simp)⟩
theorem MOk.lt {N:Nat}{m:Mod} (o:MOk N m) {r:Rw} (h:r∈m.2):r.ts.length≤400:=by have:=(o.r r h).l; omega
theorem zahe {α β:Type}{R:α→β→Prop}:∀ {xs:List α}{ys:List β}{xs':List α}{ys':List β},Paired R xs ys→Paired R xs' ys'→Paired R (xs++xs') (ys++ys')
 | _,_,_,_,.nil,h=>h
 | _,_,_,_,.cons a r,h=>.cons a (zahe r h)
structure RS (H H':Hp) (rl:Addr) (rws:List Rw) (qs:List Addr):Prop where
 c:Ch [] H H'
 g:H' rl=some (.lst (qs.map V.ref))
 p:Paired (RlAt H') rws qs
theorem RS.ch {H H' H'':Hp}{rl:Addr}{rws:List Rw}{qs:List Addr} (h:RS H H' rl rws qs) (c:Ch [] H' H''):RS H H'' rl rws qs:=⟨h.c.trans c,c.get h.g (by simp),zaal (fun _ _ z=>z.ch c) h.p⟩
theorem RS.app {H H':Hp}{rl:Addr}{rws rs:List Rw}{qs ts:List Addr} (h:RS H H' rl rws qs) (f:H rl=none) (t:Paired (RlAt H') rs ts):RS H (upd H' rl (.lst (qs.map V.ref++ts.map V.ref))) rl (rws++rs) (qs++ts) :=
 ⟨Ch.own f h.c,by rw [zaai,List.map_append],zahe (zaal (fun _ _ z=>z.put h.g) h.p) (zaal (fun _ _ z=>z.put h.g) t)⟩
theorem zah5 (N:Nat):∀ ms:List Mod,(∀ m∈ms,m.2.length≤N)→(rowsOf ms).length≤(N + 2) * ms.length
 | [],_=>by simp [rowsOf]
 | m :: ms,h=>by
  have h1:=zah5 N ms fun y hy=>h y (List.mem_cons_of_mem _ hy)
  have h2:=h m (by simp)
  show (modR m++rowsOf ms).length≤_
  rw [List.length_append,List.length_cons]
  simp only [modR,List.length_cons,List.length_append,List.length_nil,Nat.mul_add,Nat.mul_one]
  omega
section
variable {P:Program}{w:World}{K:PySem.W.Frag}{mg:Str→Option Value}{base:Heap}{f:Addr}{fd:FuncData}{k:Nat}
theorem zaey:Nd "_law_row_pieces" := by decide +kernel
theorem av45:AF (defScope (top 45)) ["_law_modules", "_law_rows", "_law_name_here", "_law_inner"]:=⟨by decide +kernel⟩
def zah6:Scope:={ kind:=PySem.ScopeKind.function,names:=[ (PySem.Str.ofString ".0",PySem.NameKind.local),(PySem.Str.ofString "_law_row_here",PySem.NameKind.local),(PySem.Str.ofString "_law_row_pieces",PySem.NameKind.globalImplicit)],isGenerator:=false,isCoroutine:=false,more:=[]:PySem.Scope }
theorem zan1:CompOk zah6 (defScope (top 45)) (["_law_row_here"]:List Str) (["_law_modules", "_law_rows", "_law_name_here", "_law_inner"]:List Str) [] (["_law_row_here"]:List Str):=compOk rfl (by decide +kernel) (by decide +kernel) (by decide +kernel) (by decide +kernel) rfl (by decide +kernel)
theorem zan2:AK (relab zah6 (defScope (top 45))) ["_law_row_here"]:=⟨by decide +kernel⟩
theorem zata:AG (relab zah6 (defScope (top 45))) ["_law_row_pieces"]:=⟨by decide +kernel⟩
theorem zatb:AV (relab zah6 (defScope (top 45))) ["_law_row_here"]:=⟨by decide +kernel⟩
def spRO:Sp:=fun vs H Q _=>∃ (N:Nat) (l:Addr) (ms:List Mod) (ps:List Addr),vs=[.ref l]∧H l=some (.lst (ps.map V.ref))∧DM N H ms ps∧N≤24∧ms.length≤3 ∧
 ∀ (rl:Addr) (qs:List Addr) (H':Hp),Ch [] H H'→H rl=none→H' rl=some (.lst (qs.map V.ref))→Paired (RlAt H') (rowsOf ms) qs→Q (.ref rl) H'
theorem scRO:FnScope ["_law_modules", "_law_rows", "_law_name_here", "_law_inner"] ["_law_modules"] (defScope (top 45)):=⟨rfl,rfl,rfl,by decide +kernel,rfl,by decide +kernel,by decide +kernel⟩
theorem zaxg (F:Fun K "_law_rows_of" "_law_rows_of" (top 45) f fd) (D_law_row_pieces:DefOk P w K mg base CX0 k "_law_row_pieces" ["_law_row_here"] spRwP):FnOk P w K mg base CX0 (k + 1) f fd ["_law_modules"] spRO:=by
 have nd:=scRO.nd
 refine F.ok scRO (fun vs H Q E h=>by obtain ⟨N,l,ms,ps,rfl,_⟩:=h; rfl) (fun cdv A outer s H vs Q E hr h=>?_)
 obtain ⟨N,l,ms,ps,rfl,hl,dm,N24,l3,q⟩:=h
 have lp:=Paired.length dm.p
 refine ⟨_,(Pr.h (zaad (zaan (i:=1) nd rfl (av45.l 1 rfl) (zaay zaac)) (zaad (zab7 PassesOwn.never rfl (zaho (qv av45 0 rfl)) (zajw rfl (zac5 (zabc (i:=2) nd rfl (av45.l 2 rfl)) (zac5 (zabc (i:=3) nd rfl (av45.l 3 rfl)) zahp))) (zaad (zaa7 (zabz PySem.F.plainAttrs_list PySem.F.slot_list_append PySem.F.type_list_append zaby (qv av45 1 rfl) (zaaa (zaay (zaaa zaaf (zaaa (qv av45 2 rfl) zaac zaag) zaab)) zaac zamr))) (zaad (zaa7 (zabz PySem.F.plainAttrs_list PySem.F.slot_list_extend PySem.F.type_list_extend zaeo (qv av45 1 rfl) (zaaa (zafs rfl zan1 (zae8 (qv av45 3 rfl)) (fun _ _ _ _ _=>(zabc (i:=0) zan1.nd rfl (Or.inl (zan2.k 0 rfl)) (Or.inr (zan2.k 0 rfl)))) (fun _ _ _ _ _=>zad2) (fun _ _ _ _ _=>(zaak D_law_row_pieces hr (zata.g 0 rfl) pass0 (zaaa (qw zatb 0 rfl) zaac zaag) zaey))) zaac zac9))) (zaah (zaa7 (zabz PySem.F.plainAttrs_list PySem.F.slot_list_append PySem.F.type_list_append zaby (qv av45 1 rfl) (zaaa (zaay (zaaa zaaf zaac zaab)) zaac zamr))))))) (zaah (zaao (qv av45 1 rfl)))))),?_⟩
 (try dsimp only [cxOf])
 walk_at "rd"
 rename_i rl hrl
 have nl:l≠rl:=zaaw hl hrl
 have c0:Ch [] H (upd H rl (.lst [])):=Ch.new hrl _
 refine zamq (xs:=ps.map V.ref) (fun i σ H'=>∃ (qs:List Addr) (u2 u3:Option V),σ=[some (.ref l),some (.ref rl),u2,u3]∧Ch [] H H'∧H' rl=some (.lst (qs.map V.ref))∧Paired (RlAt H') (rowsOf (ms.take i)) qs) ⟨[],_,_,rfl,c0,zaai,.nil⟩ ?_ ?_ ?_
 ·rintro i σ H' hi ⟨qs,u2,u3,rfl,ch,_⟩
  exact SqL.of (ch.get hl (by simp))
 ·clear c0
  rintro i v σ H' hv ⟨qs,u2,u3,rfl,ch,gr,pq⟩
  rw [List.getElem?_map] at hv
  obtain ⟨p,hp,rfl⟩:=Option.map_eq_some_iff.mp hv
  obtain ⟨m,em,rp,rps,g1,g2,pr⟩:=zabn dm.p hp
  have om:=dm.o m (List.mem_of_getElem? em)
  have et:ms.take (i + 1)=ms.take i++[m]:=by rw [List.take_add_one,em]; rfl
  have lr:=zah5 24 (ms.take i) fun y hy=>Nat.le_trans (dm.o y (List.mem_of_mem_take hy)).l N24
  have li:(ms.take i).length≤3:=by rw [List.length_take]; omega
  have lq:=Paired.length pq
  have lqs:(qs.map V.ref).length≤78:=by rw [List.length_map]; omega
  have gp:=ch.get g1 (by simp)
  have gi:=ch.get g2 (by simp)
  have rs:RS H H' rl (rowsOf (ms.take i)) qs:=⟨ch,gr,pq⟩
  walk_at "rd"
  rename_i T hT
  have rs1:RS H (upd (upd H' T (.lst [V.str "module",V.str m.1])) rl (.lst (qs.map V.ref++[V.ref T]))) rl (rowsOf (ms.take i)++[rwM m.1]) (qs++[T]):=(rs.ch (Ch.new hT (.lst [V.str "module",V.str m.1]))).app hrl (rs:=[rwM m.1]) (ts:=[T]) (.cons ⟨zaai⟩ .nil)
  have gi1:(upd (upd H' T (.lst [V.str "module",V.str m.1])) rl (.lst (qs.map V.ref++[V.ref T]))) rp=some (.tup (rps.map V.ref)):=zafi (zae4 gi gr (by intro z; cases z)) (zaep hT gi)
  clear rs gr pq ch gp gi
  generalize upd (upd H' T (.lst [V.str "module",V.str m.1])) rl (.lst (qs.map V.ref++[V.ref T]))=H1 at rs1 gi1 ⊢
  refine zaku (rps.map V.ref) (fun j ys σ H2=>∃ qs2:List Addr,ys=qs2.map V.ref∧Ch [] H1 H2∧Paired (RlAt H2) (m.2.take j) qs2∧∃ u,σ=[u]) (by rw [sizeLine_eq]; have:=om.l; have:=Paired.length pr; rw [List.length_map]; omega) ⟨[],rfl,Ch.refl _ _,.nil,_,rfl⟩ ?_ ?_ ?_
  ·rintro j ys σ H2 hj ⟨qs2,rfl,c2,p2,_⟩
   have:=Paired.length p2
   rw [List.length_take] at this
   refine ⟨by rw [List.length_map]; omega,SqT.of (c2.get gi1 (by simp))⟩
  ·rintro j ys σ H2 v hv ⟨qs2,rfl,c2,p2,u,rfl⟩
   rw [List.getElem?_map] at hv
   obtain ⟨pj,hpj,rfl⟩:=Option.map_eq_some_iff.mp hv
   obtain ⟨r,er,ra⟩:=zabn pr hpj
   have mr:=List.mem_of_getElem? er
   have go:=om.r r mr
   have l4:=om.lt mr
   have ra:r.At H2 pj:=Rw.At.kt (KT.same (rs1.c.trans c2)) ra
   have okr:=go.ok
   have wr:=go.w2
   walk_at "rd"
   rename_i l5 H5 c5 n5 g5
   have e5:qs2.map V.ref++[V.ref l5]=(qs2++[l5]).map V.ref:=by simp
   have p5:Paired (RlAt H5) (m.2.take (j + 1)) (qs2++[l5]):=by rw [List.take_add_one,er]; exact zaa6 ⟨g5⟩ (zaal (fun _ _ z=>z.ch c5) p2)
   exact ⟨e5,c2.trans c5,p5,_,rfl⟩
  rintro ys σ H3 ⟨qs2,rfl,c3,p3,_⟩
  intro D hD
  have lm:=Paired.length pr
  rw [List.length_map,← lm,List.take_length] at p3
  have l2:=Paired.length p3
  have ol:=om.l
  have rs3:=(rs1.ch c3).ch (Ch.new hD (.lst (qs2.map V.ref)))
  have gD:(upd H3 D (.lst (qs2.map V.ref))) D=some (.lst (qs2.map V.ref)):=zaai
  have p4:=zaal (fun _ _ z=>RlAt.ch (Ch.new hD (.lst (qs2.map V.ref))) z) p3
  generalize upd H3 D (.lst (qs2.map V.ref))=H4 at rs3 gD p4 ⊢
  have gr:=rs3.g
  have la:((qs++[T]).map V.ref).length≤79:=by rw [List.map_append,List.length_append]; show _ + 1≤79; omega
  have lb:(qs2.map V.ref).length≤24:=by rw [List.length_map]; omega
  have er:rowsOf (ms.take (i + 1))=rowsOf (ms.take i)++[rwM m.1]++m.2++[rwE]:=by rw [et]; simp [rowsOf,modR]
  have rs5:=rs3.app hrl p4
  walk_at "rd"
  rename_i T2 hT2
  have rs6:=(rs5.ch (Ch.new hT2 (.lst [V.str "end"]))).app hrl (rs:=[rwE]) (ts:=[T2]) (.cons ⟨zaai⟩ .nil)
  rw [show (qs++[T]++qs2).map V.ref=(qs++[T]).map V.ref++qs2.map V.ref by rw [List.map_append]] at rs6
  rw [er]
  exact ⟨rs6.c,rs6.g,rs6.p⟩
 ·rintro σ H' ⟨qs,u2,u3,rfl,ch,gr,pq⟩
  rw [List.length_map,← lp,List.take_length] at pq
  walk_at "rd"
  exact q rl qs H' ch hrl gr pq
end
end

section
def inS (a:Str):Bool:=!(Builtin.Str.occurrences ".:" a 0 (Str.ofString ".:").length 1).isEmpty
def nosep (a b:Str):Bool:=decide (V.str a=V.str "(") || (decide (V.str b=V.str ")") || (inS a || inS b))
def step (acc a b:Str):Str:=if nosep a b=true then acc++b else acc ++ " " ++ b
def glueF (acc prev:Str):List Str→Str
 | []=>acc
 | y :: ys=>glueF (step acc prev y) y ys
def lastD (prev:Str):List Str→Str
 | []=>prev
 | y :: ys=>lastD y ys
theorem zahf:∀ (l:List Str) (acc prev y:Str),glueF acc prev (l++[y])=step (glueF acc prev l) (lastD prev l) y
 | [],acc,prev,y=>rfl
 | x :: l,acc,prev,y=>zahf l (step acc prev x) x y
theorem zahg:∀ (xs:List Str) (x:Str) (i:Nat) (a:Str),(x :: xs)[i]?=some a→lastD x (xs.take i)=a
 | xs,x,0,a,h=>by simp at h; simp [lastD,h]
 | [],x,i + 1,a,h=>by simp at h
 | y :: xs,x,i + 1,a,h=>by
  have h':(y :: xs)[i]?=some a:=by simpa using h
  exact zahg xs y i a h'
theorem zaqb (acc a b:Str):(step acc a b).length≤acc.length + 1 + b.length:=by
 unfold step
 have e3:(Str.ofString " ").length=1:=by decide +kernel
 split
 ·rw [zabm]; omega
 ·rw [zabm,zabm,e3]; exact Nat.le_refl _
theorem zafu:∀ (l:List Str) (acc prev:Str),(glueF acc prev l).length≤acc.length + (l.map (·.length)).sum + l.length
 | [],acc,prev=>by simp [glueF]
 | y :: l,acc,prev=>by
  have a:=zafu l (step acc prev y) y
  have b:=zaqb acc prev y
  simp only [glueF,List.map_cons,List.sum_cons,List.length_cons]
  omega
theorem zahh:∀ {l:List Nat}{n:Nat},n∈l→n≤l.sum
 | x :: l,n,h=>by
  rcases List.mem_cons.mp h with rfl | h
  ·simp
  ·have:=zahh h; simp; omega
theorem zak9:∀ (l:List Nat) (i:Nat),(l.take i).sum≤l.sum
 | [],i=>by simp
 | x :: l,0=>by simp
 | x :: l,i + 1=>by have:=zak9 l i; simp; omega
theorem sassoc (a b c:Str):a++b++c=a++(b++c):=by
 show (⟨(a.cps++b.cps)++c.cps⟩:Str)=⟨a.cps++(b.cps++c.cps)⟩
 rw [Array.append_assoc]
theorem semp:(Str.ofString "")=⟨#[]⟩:=by decide +kernel
theorem snil (a:Str):a++(Str.ofString "")=a:=by
 rw [semp]
 show (⟨a.cps++#[]⟩:Str)=a
 simp
theorem zan3 {x:Str} (h:inS x=true):∀ c∈x.cps.toList,c=46∨c=58:=by
 unfold inS at h
 cases e:Builtin.Str.occurrences ".:" x 0 (Str.ofString ".:").length 1 with
 | nil=>rw [e] at h; simp at h
 | cons i l =>
  have s:=StrLaws.occ_spec ".:" x 0 (Str.ofString ".:").length 1 i (by rw [e]; simp)
  have s2:=s.2
  unfold Builtin.Str.subAt at s2
  have s3:=eq_of_beq s2
  intro c hc
  rw [← s3,Array.toList_extract] at hc
  have hc2:c∈(Str.ofString ".:").cps.toList:=List.mem_of_mem_drop (List.mem_of_mem_take hc)
  have f:∀ d∈(Str.ofString ".:").cps.toList,d=46∨d=58:=by decide +kernel
  exact f c hc2
theorem zala {x:Str} (h:1≤x.length):∃ c,c∈x.cps.toList:=by
 have l:=Strl x
 match e:x.cps.toList with
 | []=>rw [e] at l; simp at l; omega
 | c :: r=>exact ⟨c,by simp⟩
theorem zaq6 {x:Str} (h:Nm x):inS x=false:=by
 cases e:inS x with
 | false=>rfl
 | true =>
  obtain ⟨c,hc⟩:=zala h.l1
  have a:=zan3 e c hc
  have b:=h.lt.al c hc
  omega
theorem zagq {n:Int} (h:Num n):∀ c∈(num n).cps.toList,48≤c∧c≤57:=by
 obtain ⟨m,rfl⟩:=Int.eq_ofNat_of_zero_le h.n0
 intro c hc
 rw [show (num ((m:Nat):Int)).cps.toList=(Nat.toDigits 10 m).map Char.toNat from PySem.W.KIN.signs_num m] at hc
 obtain ⟨d,hd,rfl⟩:=List.mem_map.mp hc
 have:=Nat.isDigit_of_mem_toDigits (by omega) (by omega) hd
 simp [Char.isDigit] at this
 exact ⟨this.1,this.2⟩
theorem zan4 {n:Int} (h:Num n):1≤(num n).length:=PySem.W.KLn.one_le h.n0
theorem zan5 {n:Int} (h:Num n):inS (num n)=false:=by
 cases e:inS (num n) with
 | false=>rfl
 | true =>
  obtain ⟨c,hc⟩:=zala (zan4 h)
  have a:=zan3 e c hc
  have b:=zagq h c hc
  omega
theorem zadl {x y:Str} (d:Nat) (hy:d∈y.cps.toList) (hx:d ∉ x.cps.toList):x≠y:=fun z=>hx (by rw [z]; exact hy)
theorem zaq7:40∈(Str.ofString "(").cps.toList:=by decide +kernel
theorem zan6:41∈(Str.ofString ")").cps.toList:=by decide +kernel
structure Plain (x:Str):Prop where
 c:x ≠ ")"
 i:inS x=false
structure Stop (x:Str):Prop where
 o:x ≠ "("
 i:inS x=false
theorem zadm {x:Str} (h:Nm x):Plain x:=⟨zadl 41 zan6 fun z=>by have:=h.lt.al _ z; omega,zaq6 h⟩
theorem zah7 {x:Str} (h:Nm x):Stop x:=⟨zadl 40 zaq7 fun z=>by have:=h.lt.al _ z; omega,zaq6 h⟩
theorem zac7 {n:Int} (h:Num n):Plain (num n):=⟨zadl 41 zan6 fun z=>by have:=zagq h _ z; omega,zan5 h⟩
theorem zah8 {n:Int} (h:Num n):Stop (num n):=⟨zadl 40 zaq7 fun z=>by have:=zagq h _ z; omega,zan5 h⟩
theorem zad6:Stop ")" := ⟨by decide +kernel,by decide +kernel⟩
theorem zad7:Plain "(" := ⟨by decide +kernel,by decide +kernel⟩
theorem zal0:∀ p∈FORMS,(p.1 ≠ "(" ∧ inS p.1=false):=by decide +kernel
def sep (prev:Str):Str:=if (decide (V.str prev=V.str "(") || inS prev)=true then "" else " "
theorem zab8 {x:Str} (h:Stop x):sep x = " " := by
 unfold sep
 rw [decide_eq_false (fun z=>h.o (V.str.inj z)),h.i]
 rfl
theorem zabr {acc prev y:Str} (h:Plain y):step acc prev y=acc++sep prev++y:=by
 unfold step nosep sep
 rw [decide_eq_false (fun z=>h.c (V.str.inj z)),h.i]
 cases decide (V.str prev=V.str "(") <;> cases inS prev <;> simp [snil]
theorem zaez {acc y:Str}:step acc "(" y=acc++y:=by
 unfold step nosep
 rw [decide_eq_true rfl]
 rfl
theorem zad8 {acc prev:Str}:step acc prev ")" = acc ++ ")" := by
 unfold step nosep
 rw [decide_eq_true (show V.str (Str.ofString ")")=V.str (Str.ofString ")") from rfl)]
 cases decide (V.str prev=V.str "(") <;> rfl
theorem zan7 {acc prev y:Str} (h:inS y=true):step acc prev y=acc++y:=by
 unfold step nosep
 rw [h]
 cases decide (V.str prev=V.str "(") <;> cases decide (V.str y=V.str ")") <;> cases inS prev <;> rfl
theorem zalb {acc prev y:Str} (h:inS prev=true):step acc prev y=acc++y:=by
 unfold step nosep
 rw [h]
 cases decide (V.str prev=V.str "(") <;> cases decide (V.str y=V.str ")") <;> rfl
theorem zaq8:inS "." = true:=by decide +kernel
theorem zaq9:inS ":" = true:=by decide +kernel
def lst:Ex→Str
 | .nm x=>x | .of _ y=>y | .val _ b=>num b | .un _ => ")" | .bi _ _ _ => ")" | .pick _ _ _ => ")" | .part _ _ _ => ")"
theorem zae0:∀ {e:Ex},Ok e→Stop (lst e)
 | _,.nm h=>zah7 h
 | _,.of h g=>zah7 g
 | _,.val h g=>zah8 g
 | _,.un h=>zad6
 | _,.bi hw h g=>zad6
 | _,.pick h g i=>zad6
 | _,.part h g i=>zad6
theorem zae1 {w:Str}{ks:List Str} (h:(w,ks)∈FORMS):Stop w:=let z:=zal0 _ h; ⟨z.1,z.2⟩
theorem zaff:∀ {e:Ex},Ok e→∀ (acc prev:Str) (rest:List Str),glueF acc prev (pcs e++rest)=glueF (acc++sep prev++wr e) (lst e) rest
 | _,.nm h,acc,prev,rest=>by
  show glueF (step acc prev _) _ rest=_
  rw [zabr (zadm h)]
  rfl
 | _,.of h g,acc,prev,rest=>by
  show glueF (step (step (step acc prev _) _ ".") "." _) _ rest=_
  rw [zabr (zadm h),zan7 zaq8,zalb zaq8]
  simp only [wr,sassoc]
  rfl
 | _,.val h g,acc,prev,rest=>by
  show glueF (step (step (step acc prev _) _ ":") ":" _) _ rest=_
  rw [zabr (zac7 h),zan7 zaq9,zalb zaq9]
  simp only [wr,sassoc]
  rfl
 | _,.un (a:=a) h,acc,prev,rest=>by
  have e:pcs (.un a)++rest=Str.ofString "(" :: Str.ofString "not" :: (pcs a++(Str.ofString ")" :: rest)):=by simp [pcs]
  rw [e]
  show glueF (step (step acc prev "(") "(" "not") "not" (pcs a++(Str.ofString ")" :: rest))=_
  rw [zaff h,zabr zad7,zaez]
  show glueF (step _ (lst a) ")") ")" rest=_
  rw [zad8,zab8 (zae1 (w := "not") (ks:=["expr"]) (by decide +kernel))]
  simp only [wr,Str.join,sassoc]
  rfl
 | _,.bi (w:=w) (a:=a) (b:=b) hw h g,acc,prev,rest=>by
  have e:pcs (.bi w a b)++rest=Str.ofString "(" :: w :: (pcs a++(pcs b++(Str.ofString ")" :: rest))):=by simp [pcs]
  rw [e]
  show glueF (step (step acc prev "(") "(" w) w (pcs a++(pcs b++(Str.ofString ")" :: rest)))=_
  rw [zaff h,zaff g,zabr zad7,zaez]
  show glueF (step _ (lst b) ")") ")" rest=_
  rw [zad8,zab8 (zae1 (zak1 w hw)),zab8 (zae0 h)]
  simp only [wr,Str.join,sassoc]
  rfl
 | _,.pick (a:=a) (b:=b) (c:=c) h g i,acc,prev,rest=>by
  have e:pcs (.pick a b c)++rest=Str.ofString "(" :: Str.ofString "pick" :: (pcs a++(pcs b++(pcs c++(Str.ofString ")" :: rest)))):=by simp [pcs]
  rw [e]
  show glueF (step (step acc prev "(") "(" "pick") "pick" (pcs a++(pcs b++(pcs c++(Str.ofString ")" :: rest))))=_
  rw [zaff h,zaff g,zaff i,zabr zad7,zaez]
  show glueF (step _ (lst c) ")") ")" rest=_
  rw [zad8,zab8 (zae1 (w := "pick") (ks:=["expr", "expr", "expr"]) (by decide +kernel)),zab8 (zae0 h),zab8 (zae0 g)]
  simp only [wr,Str.join,sassoc]
  rfl
 | _,.part (a:=a) (l:=l) (w:=w) h g i,acc,prev,rest=>by
  have e:pcs (.part a l w)++rest=Str.ofString "(" :: Str.ofString "part" :: (pcs a++(num l :: num w :: Str.ofString ")" :: rest)):=by simp [pcs]
  rw [e]
  show glueF (step (step acc prev "(") "(" "part") "part" (pcs a++(num l :: num w :: Str.ofString ")" :: rest))=_
  rw [zaff h,zabr zad7,zaez]
  show glueF (step (step (step _ (lst a) (num l)) (num l) (num w)) (num w) ")") ")" rest=_
  rw [zad8,zabr (zac7 g),zabr (zac7 i),zab8 (zae1 (w := "part") (ks:=["expr", "number", "number"]) (by decide +kernel)),zab8 (zae0 h),zab8 (zah8 g)]
  simp only [wr,Str.join,sassoc]
  rfl
structure Un (ss:List Str) (x:Str):Prop where
 ex:∃ l,Stop l∧∀ acc prev rest,Stop prev→glueF acc prev (ss++rest)=glueF (acc ++ " " ++ x) l rest
theorem zaxh {x:Str} (h:Nm x):Un [x] x:=⟨x,zah7 h,fun acc prev rest s=>by
 show glueF (step acc prev x) x rest=_
 rw [zabr (zadm h),zab8 s]⟩
theorem zaxi {n:Int} (h:Num n):Un [num n] (num n):=⟨num n,zah8 h,fun acc prev rest s=>by
 show glueF (step acc prev (num n)) (num n) rest=_
 rw [zabr (zac7 h),zab8 s]⟩
theorem un_e {e:Ex} (h:Ok e):Un (pcs e) (wr e):=⟨lst e,zae0 h,fun acc prev rest s=>by rw [zaff h,zab8 s]⟩
theorem zal1 (s a x:Str):∀ xs:List Str,Str.join s ((a++s++x) :: xs)=a++s++Str.join s (x :: xs)
 | []=>rfl
 | y :: xs=>by
  show (a++s++x)++s++Str.join s (y :: xs)=a++s++(x++s++Str.join s (y :: xs))
  simp only [sassoc]
theorem zan8:∀ {sss:List (List Str)}{xs:List Str},Paired Un sss xs→∀ {acc prev:Str},Stop prev→glueF acc prev sss.flatten=Str.join " " (acc :: xs)
 | _,_,.nil,acc,prev,_=>rfl
 | ss :: sss,x :: xs,.cons u r,acc,prev,h=>by
  obtain ⟨l,hl,e⟩:=u.ex
  rw [List.flatten_cons,e _ _ _ h,zan8 r hl,zal1]
  rfl
def RP.us:RP→List (List Str)
 | .nm x=>[[x]] | .nu n=>[[num n]] | .ex e=>[pcs e] | .exs es=>es.map pcs
def RP.tx:RP→List Str
 | .nm x=>[x] | .nu n=>[num n] | .ex e=>[wr e] | .exs es=>es.map wr
theorem zajh {α β:Type}{R:α→β→Prop}:∀ {xs:List α}{ys:List β}{xs':List α}{ys':List β},Paired R xs ys→Paired R xs' ys'→Paired R (xs++xs') (ys++ys')
 | _,_,_,_,.nil,h=>h
 | _,_,_,_,.cons a r,h=>.cons a (zajh r h)
theorem zavu:∀ {es:List Ex},(∀ e∈es,OkE e)→Paired Un (es.map pcs) (es.map wr)
 | [],_=>.nil
 | e :: es,h=>.cons (un_e (h e (by simp)).o) (zavu fun y hy=>h y (List.mem_cons_of_mem _ hy))
theorem un_p:∀ {p:RP},p.ok→Paired Un p.us p.tx
 | .nm _,h=>.cons (zaxh h) .nil
 | .nu _,h=>.cons (zaxi h) .nil
 | .ex _,h=>.cons (un_e (show OkE _ from h).o) .nil
 | .exs es,h=>zavu (show (∀ e∈es,OkE e)∧es.length≤30 from h).1
theorem zavv:∀ {ps:List RP},(∀ p∈ps,p.ok)→Paired Un (ps.map RP.us).flatten (ps.map RP.tx).flatten
 | [],_=>.nil
 | p :: ps,h=>by
  rw [List.map_cons,List.map_cons,List.flatten_cons,List.flatten_cons]
  exact zajh (un_p (h p (by simp))) (zavv fun y hy=>h y (List.mem_cons_of_mem _ hy))
theorem zaxj:∀ p:RP,p.us.flatten=p.ts.map Tk.t
 | .nm _=>rfl
 | .nu _=>rfl
 | .ex e=>by show (pcs e)++[]=_; rw [List.append_nil]; exact (zagj e).symm
 | .exs es=>by
  show (es.map pcs).flatten=((es.map tks).flatten).map Tk.t
  induction es with
  | nil=>rfl
  | cons e es ih=>rw [List.map_cons,List.map_cons,List.flatten_cons,List.flatten_cons,List.map_append,ih,← zagj e]
theorem zavw:∀ ps:List RP,(ps.map RP.us).flatten.flatten=((ps.map RP.ts).flatten).map Tk.t
 | []=>rfl
 | p :: ps=>by
  rw [List.map_cons,List.map_cons,List.flatten_cons,List.flatten_cons,List.flatten_append,List.map_append,zaxj,zavw ps]
def rtx (r:Rw):Str:=Str.join " " (r.w :: (r.ps.map RP.tx).flatten)
theorem zatc:∀ q∈RFORMS,q.1≠Str.ofString "(" ∧ inS q.1=false:=by decide +kernel
theorem zafv {r:Rw} (o:r.ok):glueF r.w r.w (((r.ps.map RP.ts).flatten).map Tk.t)=rtx r:=by
 have s:=zatc _ o.fo
 rw [← zavw]
 exact zan8 (zavv o.ps) ⟨s.1,s.2⟩
def RP.ch:RP→List (List (Option Tk))
 | .nm x=>[[some (.nm x)]] | .nu n=>[[some (.nu n)]] | .ex e=>[ech e] | .exs es=>es.map ech
def rch (r:Rw):List (List (Option Tk)):=[some (.wd r.w)] :: (r.ps.map RP.ch).flatten
theorem zaxk:∀ p:RP,p.tx.map (fun x=>x.cps.toList)=p.ch.map ctx
 | .nm x=>by simp [RP.tx,RP.ch,ctx,cT,Tk.t]
 | .nu n=>by simp [RP.tx,RP.ch,ctx,cT,Tk.t]
 | .ex e=>by simp [RP.tx,RP.ch,zadk]
 | .exs es=>by simp [RP.tx,RP.ch,zadk]
theorem zavx:∀ p:RP,∀ a∈p.ch,Sep a
 | .nm x,a,h=>by rw [List.mem_singleton.mp h]; exact zac2 _
 | .nu x,a,h=>by rw [List.mem_singleton.mp h]; exact zac2 _
 | .ex e,a,h=>by rw [List.mem_singleton.mp h]; exact zadj e
 | .exs es,a,h=>by obtain ⟨e,_,rfl⟩:=List.mem_map.mp h; exact zadj e
theorem zaxl:∀ p:RP,(p.ch.map fun a=>a.filterMap id).flatten=p.ts
 | .nm x=>rfl
 | .nu x=>rfl
 | .ex e=>by simp [RP.ch,RP.ts,zaex]
 | .exs es=>by
  show ((es.map ech).map fun a=>a.filterMap id).flatten=(es.map tks).flatten
  rw [List.map_map,show ((fun a:List (Option Tk)=>a.filterMap id) ∘ ech)=tks from funext zaex]
theorem zara:∀ ps:List RP,(ps.map RP.tx).flatten.map (fun x=>x.cps.toList)=(ps.map RP.ch).flatten.map ctx
 | []=>rfl
 | p :: ps=>by rw [List.map_cons,List.map_cons,List.flatten_cons,List.flatten_cons,List.map_append,List.map_append,zaxk,zara ps]
theorem zarb:∀ ps:List RP,((ps.map RP.ch).flatten.map fun a=>a.filterMap id).flatten=(ps.map RP.ts).flatten
 | []=>rfl
 | p :: ps=>by rw [List.map_cons,List.map_cons,List.flatten_cons,List.flatten_cons,List.map_append,List.flatten_append,zaxl,zarb ps]
theorem zan9 {r:Rw} (o:r.ok) (l:(rtx r).length≤20000):Ln (rtx r) r:=by
 have f:(glue (rch r)).filterMap id=r.ts:=by
  rw [zafc]
  show ([some (Tk.wd r.w)].filterMap id)++((r.ps.map RP.ch).flatten.map fun a=>a.filterMap id).flatten=_
  rw [zarb]
  rfl
 refine ⟨⟨glue (rch r),?_,zad5 fun a h=>?_,zaxd f (zagp o),f⟩,l,o⟩
 ·refine zah1 (rch r) _ ?_
  show _ :: _=_ :: _
  rw [zara]
  simp [ctx,cT,Tk.t]
 ·rcases List.mem_cons.mp h with rfl | h
  ·exact zac2 _
  ·obtain ⟨l,hl,h⟩:=List.mem_flatten.mp h
   obtain ⟨p,_,rfl⟩:=List.mem_map.mp hl
   exact zavx p a h
def spGl:Sp:=fun vs H Q _=>∃ (p:Addr) (ps:List Str) (x:Str) (xs:List Str),vs=[.ref p]∧H p=some (.lst (ps.map V.str))∧ps=x :: xs∧x.length + (xs.map (·.length)).sum≤100000∧xs.length≤10000∧∀ H',Ch [] H H'→Q (.str (glueF x x xs)) H'
section
variable {P:Program}{w:World}{K:PySem.W.Frag}{mg:Str→Option Value}{base:Heap}{f:Addr}{fd:FuncData}{k:Nat}
theorem av42:AF (defScope (top 42)) ["_law_pieces_here", "_law_text", "_law_one", "_law_other"]:=⟨by decide +kernel⟩
theorem gl42:AG (defScope (top 42)) ["zip"]:=⟨by decide +kernel⟩
theorem scGl:FnScope ["_law_pieces_here", "_law_text", "_law_one", "_law_other"] ["_law_pieces_here"] (defScope (top 42)):=⟨rfl,rfl,rfl,by decide +kernel,rfl,by decide +kernel,by decide +kernel⟩
theorem zaxm (F:Fun K "_law_glued" "_law_glued" (top 42) f fd) (z_zip:mg "zip" = none):FnOk P w K mg base CX0 (k + 1) f fd ["_law_pieces_here"] spGl:=by
 have nd:=scGl.nd
 refine F.ok scGl (fun vs H Q E h=>by obtain ⟨p,ps,x,xs,rfl,_⟩:=h; rfl) (fun cdv A outer s H vs Q E hr h=>?_)
 obtain ⟨p,ps,x,xs,rfl,hp,rfl,hl,hm,q⟩:=h
 refine ⟨_,(Pr.h (zaad (zaan (i:=1) nd rfl (av42.l 1 rfl) (zaar zaav (qv av42 0 rfl) zaae (fun _ _=>rfl))) (zaad (zab7 PassesOwn.never rfl (zasm .list .list (gl42.g 0 rfl) z_zip (zaaa (qv av42 0 rfl) (zaaa (zaa1 zac0 (qv av42 0 rfl) (zaa4 zaae) zabb) zaac zaaq) zaag)) (zajw rfl (zac5 (zabc (i:=2) nd rfl (av42.l 2 rfl)) (zac5 (zabc (i:=3) nd rfl (av42.l 3 rfl)) zahp))) (zaah (zaat (zacx (zaeu (zaam zabp (qv av42 2 rfl) zaaf (nomark _)) (zaeu (zaam zabp (qv av42 3 rfl) zaaf (nomark _)) (zaeu (zaam zain (qv av42 2 rfl) zaaf rfl) (zaeg (zaam zain (qv av42 3 rfl) zaaf rfl)))))) (zaah (zaan (i:=1) nd rfl (av42.l 1 rfl) (zaaj zaa9 (qv av42 1 rfl) (qv av42 3 rfl)))) (zaah (zaan (i:=1) nd rfl (av42.l 1 rfl) (zaaj zaa9 (zaaj zaa9 (qv av42 1 rfl) zaaf) (qv av42 3 rfl))))))) (zaah (zaao (qv av42 1 rfl)))))),?_⟩
 (try dsimp only [cxOf])
 have cutl:cutV ((x :: xs).map V.str) (some 1) none=xs.map V.str:=cut1 (.str x) (xs.map V.str)
 walk_at "rd"
 rename_i p2 hp2
 refine zapu (xs:=(x :: xs).map V.str) (ys:=xs.map V.str) (fun i σ H'=>∃ u2 u3,σ=[some (.ref p),some (.str (glueF x x (xs.take i))),u2,u3]∧H' p=some (.lst ((x :: xs).map V.str))∧H' p2=some (.lst (xs.map V.str))∧Ch [] H H') ?_ ?_ ?_ ?_
 ·exact ⟨_,_,rfl,by walk_at "get",by rw [zaai,cutl],by walk_at "ch"⟩
 ·rintro i σ H' hi ⟨u2,u3,rfl,b1,b2,c1⟩
  exact ⟨SqL.of b1,SqL.of b2⟩
 ·rintro i a b σ H' T ha hb ⟨u2,u3,rfl,b1,b2,c1⟩ hT
  obtain ⟨a',ha',rfl⟩:∃ a',(x :: xs)[i]?=some a'∧a=.str a':=by
   rw [List.getElem?_map] at ha
   obtain ⟨kd,h1,h2⟩:=Option.map_eq_some_iff.mp ha
   exact ⟨kd,h1,h2.symm⟩
  obtain ⟨b',hb',rfl⟩:∃ b',xs[i]?=some b'∧b=.str b':=by
   rw [List.getElem?_map] at hb
   obtain ⟨kd,h1,h2⟩:=Option.map_eq_some_iff.mp hb
   exact ⟨kd,h1,h2.symm⟩
  have tk:glueF x x (xs.take (i + 1))=step (glueF x x (xs.take i)) a' b':=by
   rw [List.take_succ,hb']
   show glueF x x (xs.take i++[b'])=_
   rw [zahf,zahg xs x i a' ha']
  have gl:(glueF x x (xs.take i)).length≤300000:=by
   have z:=zafu (xs.take i) x x
   have z2:=zak9 (xs.map (·.length)) i
   rw [List.map_take] at z
   have z3:(xs.take i).length≤xs.length:=by rw [List.length_take]; omega
   omega
  have bl:b'.length≤100000:=by
   have m:b'.length∈xs.map (·.length):=List.mem_map.mpr ⟨b',List.mem_of_getElem? hb',rfl⟩
   have:=zahh m
   omega
  have nt:∀ (e:nosep a' b'=true) ,(glueF x x (xs.take i))++b'=glueF x x (xs.take (i + 1)):=fun e=>by rw [tk]; unfold step; rw [if_pos e]
  have nf:∀ (e:nosep a' b'=false) ,(glueF x x (xs.take i)) ++ " " ++ b'=glueF x x (xs.take (i + 1)):=fun e=>by rw [tk]; unfold step; rw [if_neg (by rw [e]; decide)]
  walk_at "rd"
  refine ite2 (fun h1=>iteT ?_) (fun h1=>?_)
  ·rw [← nt (by unfold nosep; rw [h1]; rfl)]
   walk_at "rd"
  have h1':=Bool.eq_false_iff.mpr h1
  walk_at "rd"
  refine ite2 (fun h2=>iteT ?_) (fun h2=>?_)
  ·rw [← nt (by unfold nosep; rw [h1',h2]; rfl)]
   walk_at "rd"
  have h2':=Bool.eq_false_iff.mpr h2
  walk_at "rd"
  refine ite2 (fun h3=>iteT ?_) (fun h3=>?_)
  ·have h3':inS a'=true:=h3
   rw [← nt (by unfold nosep; rw [h1',h2',h3']; rfl)]
   walk_at "rd"
  have h3':inS a'=false:=Bool.eq_false_iff.mpr h3
  walk_at "rd"
  refine ite2 (fun h4=>?_) (fun h4=>?_)
  ·have h4':inS b'=true:=h4
   rw [← nt (by unfold nosep; rw [h1',h2',h3',h4']; rfl)]
   walk_at "rd"
  have h4':inS b'=false:=Bool.eq_false_iff.mpr h4
  rw [← nf (by unfold nosep; rw [h1',h2',h3',h4']; rfl)]
  walk_at "rd"
 ·rintro σ H' ⟨u2,u3,rfl,b1,b2,c1⟩
  walk_at "rd"
  have e:xs.take (min ((x :: xs).map V.str).length (xs.map V.str).length)=xs:=List.take_of_length_le (by rw [List.length_map,List.length_map,List.length_cons]; omega)
  have z:=q H' c1
  rw [← e] at z
  exact z
end
end

section
theorem zahi:∀ {ts:List Tk},(∀ t∈ts,t.ok)→((ts.map Tk.t).map (·.length)).sum≤9 * ts.length
 | [],_=>by simp
 | t :: ts,h=>by
  have h1:=zahi (ts:=ts) fun y hy=>h y (List.mem_cons_of_mem _ hy)
  have h2:=zadv (h t (by simp))
  simp only [List.map_cons,List.sum_cons,List.length_cons] at *
  omega
theorem zah9 {r:Rw} (o:r.ok) (l:r.ts.length≤300):(rtx r).length≤5000:=by
 have g:=zafu (((r.ps.map RP.ts).flatten).map Tk.t) r.w r.w
 rw [zafv o] at g
 have ok:=zagp o
 have s:=zahi (ts:=(r.ps.map RP.ts).flatten) fun t ht=>ok t (List.mem_cons_of_mem _ ht)
 have w:=zadv (ok (.wd r.w) (List.mem_cons_self ..))
 have w:r.w.length≤9:=w
 rw [List.length_map] at g
 have l:((r.ps.map RP.ts).flatten).length + 1≤300:=l
 omega
theorem zavy {x:Str} (h:Nm x):(rwM x).ok:=⟨by show (Str.ofString "module",[Str.ofString "name"])∈RFORMS; decide +kernel,fun p hp=>by
 have hp:p=.nm x:=by simpa [rwM] using hp
 subst hp; exact h⟩
theorem zavz:rwE.ok:=⟨by show (Str.ofString "end",([]:List Str))∈RFORMS; decide +kernel,fun p hp=>by simp [rwE] at hp⟩
theorem zaj5 {N:Nat}{ms:List Mod} (h:∀ m∈ms,MOk N m):∀ r∈rowsOf ms,r.ok∧r.ts.length≤300:=fun r hr=>by
 obtain ⟨l,hl,hr⟩:=List.mem_flatten.mp hr
 obtain ⟨m,hm,rfl⟩:=List.mem_map.mp hl
 have o:=h m hm
 rcases List.mem_cons.mp hr with rfl | hr
 ·exact ⟨zavy o.n,by show 2≤300; decide⟩
 ·rcases List.mem_append.mp hr with hr | hr
  ·exact ⟨(o.r r hr).ok,(o.r r hr).l⟩
  ·rw [List.mem_singleton.mp hr]; exact ⟨zavz,by show 1≤300; decide⟩
structure Vl (s:MSt) (rws:List Rw) (t:MSt):Prop where
 st:∀ i r,rws[i]?=some r→(r.w=Str.ofString "module" ↔ ((rws.take i).foldl mstep s).2=none)
 fin:rws.foldl mstep s=t
theorem Vl.cons {s s' t:MSt}{r:Rw}{rws:List Rw} (h:r.w=Str.ofString "module" ↔ s.2=none) (e:mstep s r=s') (v:Vl s' rws t):Vl s (r :: rws) t where
 st:=fun i q hq=>by
  cases i with
  | zero =>
   have hq:r=q:=by simpa using hq
   subst hq; exact h
  | succ i =>
   have:=v.st i q (by simpa using hq)
   rw [List.take_succ_cons,List.foldl_cons,e]
   exact this
 fin:=by rw [List.foldl_cons,e]; exact v.fin
theorem zaoa {acc:List Mod}{x:Str}{t:MSt}{rest:List Rw}:∀ (rs:List Rw) (qs:List Rw),(∀ r∈rs,r.go)→Vl (acc++[(x,qs++rs)],none) rest t→Vl (acc,some (x,qs)) (rs++rwE :: rest) t
 | [],qs,_,v=>by
  rw [List.append_nil] at v
  exact Vl.cons ⟨fun z=>absurd z (by show ¬ Str.ofString "end" = Str.ofString "module"; decide +kernel),fun z=>by cases z⟩ (by unfold mstep; rw [if_neg (show ¬ rwE.w=Str.ofString "module" by show ¬ Str.ofString "end" = Str.ofString "module"; decide +kernel)]; simp only; rw [if_pos (show rwE.w=Str.ofString "end" from rfl)]) v
 | r :: rs,qs,h,v=>by
  have g:=h r (by simp)
  refine Vl.cons ⟨fun z=>absurd z g.w1,fun z=>by cases z⟩ (s':=(acc,some (x,qs++[r]))) (by unfold mstep; rw [if_neg g.w1]; simp only; rw [if_neg g.w2]) (zaoa rs (qs++[r]) (fun y hy=>h y (List.mem_cons_of_mem _ hy)) ?_)
  rw [List.append_assoc]; exact v
theorem zaj6 {N:Nat}:∀ (ms acc:List Mod),(∀ m∈ms,MOk N m)→Vl (acc,none) (rowsOf ms) (acc++ms,none)
 | [],acc,_=>⟨fun i r h=>by simp [rowsOf] at h,by simp [rowsOf]⟩
 | m :: ms,acc,h=>by
  have e:rowsOf (m :: ms)=rwM m.1 :: (m.2++rwE :: rowsOf ms):=by simp [rowsOf,modR]
  rw [e]
  refine Vl.cons ⟨fun _=>rfl,fun _=>rfl⟩ (s':=(acc,some (m.1,[]))) (by unfold mstep; rw [if_pos (show (rwM m.1).w=Str.ofString "module" from rfl)]; rfl) (zaoa m.2 [] (h m (by simp)).r ?_)
  have v:=zaj6 ms (acc++[m]) fun y hy=>h y (List.mem_cons_of_mem _ hy)
  rw [List.append_assoc] at v
  exact v
theorem zaji {N:Nat}{ms:List Mod} (h:∀ m∈ms,MOk N m):MVal (rowsOf ms) ms:=⟨(zaj6 ms [] h).st,(zaj6 ms [] h).fin⟩
theorem zajj:∀ {rs:List Rw},(∀ r∈rs,r.ok∧r.ts.length≤300)→Paired Ln (rs.map rtx) rs
 | [],_=>.nil
 | r :: rs,h=>.cons (zan9 (h r (by simp)).1 (by have:=zah9 (h r (by simp)).1 (h r (by simp)).2; omega)) (zajj fun y hy=>h y (List.mem_cons_of_mem _ hy))
end

section
theorem FnOk.orX {P:Program}{w:World}{K:PySem.W.Frag}{mg:Str→Option Value}{base:Heap}{k:Nat}{f:Addr}{fd:FuncData}{ps:List Str}{spA spB:Sp} (a:FnOk P w K mg base CX0 k f fd ps spA) (b:FnOk P w K mg base (CXE P w) k f fd ps spB) :
  FnOk P w K mg base (CXE P w) k f fd ps (fun vs H Q E=>spA vs H Q E∨spB vs H Q E) where
 len:=fun vs H Q E h=>h.elim (a.len vs H Q E) (b.len vs H Q E)
 run:=fun A outer s H args us vs Q E hr he hb hv hs=>by
  rcases hs with hs | hs
  ·refine codeAny_mono (a.run A outer s H args us vs Q E hr he hb hv hs) fun r s' hq=>?_
   cases r with
   | ok fl=>cases fl <;> exact hq
   | error e=>exact False.elim hq
  ·exact b.run A outer s H args us vs Q E hr he hb hv hs
section
variable {P:Program}{w:World}{K:PySem.W.Frag}{mg:Str→Option Value}{base:Heap}{f:Addr}{fd:FuncData}{k:Nat}
theorem gl8m0:AG (defScope (inClass (top 8) 0)) ["FloorError"]:=⟨by decide +kernel⟩
theorem av8m0:AF (defScope (inClass (top 8) 0)) ["self", "line"]:=⟨by decide +kernel⟩
theorem scNT:FnScope ["self", "line"] ["self", "line"] (defScope (inClass (top 8) 0)):=⟨rfl,rfl,rfl,by decide +kernel,rfl,by decide +kernel,by decide +kernel⟩
theorem zaxn {CT CF:Addr}{fi:Addr} (F:Fun K "__init__" "NoText.__init__" (inClass (top 8) 0) f fd) (xi:XI K CT fi) (nL:NoAttr K CT "line") (m_FloorError:mg "FloorError" = some (.ref CF)) (ci_FloorError:ClsIni K CF):FnOk P w K mg base CX0 (k + 1) f fd ["self", "line"] (spXI CT "line"):=by
 have nd:=scNT.nd
 refine F.ok scNT (fun vs H Q E h=>by obtain ⟨ea,v,rfl,_⟩:=h; rfl) (fun cdv A outer s H vs Q E hr h=>?_)
 obtain ⟨ea,v,rfl,he,q⟩:=h
 refine ⟨_,(Pr.h (zaad (zaa7 (zane m_FloorError ci_FloorError (gl8m0.g 0 rfl) (zaaa (qv av8m0 0 rfl) (zaaa zaaf zaac zaab) zaag))) (zaah (zap4 rfl (qv av8m0 0 rfl) (qv av8m0 1 rfl))))),?_⟩
 (try dsimp only [cxOf])
 have xb:=xi.xb
 walk_at "rd"
 rename_i d n1 n2
 exact q d n1 n2
theorem glx30m2:AG (defScope (inClass (top 30) 2)) ["NoText"]:=⟨by decide +kernel⟩
def spTkX (C CT:Addr):Sp:=fun vs H Q E=>∃ (y dx:Addr) (ln sp:Nat) (pl:Addr) (ts:List Tk) (ps:List Addr) (kd:Str),vs=[.ref y,.str kd]∧RdAt C H y dx ln sp pl ts ps∧sp≤ts.length∧kA ts sp≠kd∧∀ d,H d=none→E (.ref CT) (some d) (upd H d (.xd [("line",.int (ln:Int))]))
theorem zav0 {C CT:Addr} (F:Fun K "take" "RowReader.take" (inClass (top 30) 2) f fd) (cl:Cls K C) (nL:NoAttr K C "line") (nS:NoAttr K C "spot") (nP:NoAttr K C "pieces") (R_NoText:RaiseOk P w K mg base k "NoText" CT "line") (MRowReader_kind_ahead:MethOk P w K mg base CX0 (k + 1) C "kind_ahead" ["self"] (spKA C)):FnOk P w K mg base (CXE P w) (k + 2) f fd ["self", "kind"] (spTkX C CT):=by
 have nd:=scTk.nd
 refine F.okE scTk (fun vs H Q E h=>by obtain ⟨y,dx,ln,sp,pl,ts,ps,kd,rfl,_⟩:=h; rfl) (fun cdv A outer s H vs Q E hr h=>?_)
 obtain ⟨y,dx,ln,sp,pl,ts,ps,kd,rfl,rd,le,ne,q⟩:=h
 have hrm:=hr
 refine ⟨_,(Pr.h (zaad (zaat (zaam zahk (zabk (qv av30m2 0 rfl) MRowReader_kind_ahead hr pass0) (qv av30m2 1 rfl) (nomark _)) (zaah (zach R_NoText hrm (glx30m2.g 0 rfl) (zaaa (zacg (qv av30m2 0 rfl) rfl) zaac zacj))) zaap) (zaad (zahd (qv av30m2 0 rfl) zaae zaqx) (zaah (zaao (zaar zabw (zaar zaav (zacg (qv av30m2 0 rfl) rfl) (zaaj zael (zacg (qv av30m2 0 rfl) rfl) zaae) (fun _ _=>rfl)) zaae (fun _ _=>rfl))))))),?_⟩
 (try dsimp only [cxOf])
 have f1:=@fr_l ln sp pl
 have hy:=rd.ob
 have nk:List.lookup (Str.ofString "kind_ahead") (fldsR ln sp pl)=none:=rfl
 walk_at "rd"
 refine ite2 (fun _=>?_) (fun h=>absurd h (by simpa using ne))
 walk_at "rd"
 rename_i d n1
 exact q d n1
theorem glx30m8:AG (defScope (inClass (top 30) 8)) ["ROW_FORMS", "NoText", "tuple"]:=⟨by decide +kernel⟩
end
end

section
abbrev stM (rws:List Rw):MSt:=rws.foldl mstep ([],none)
structure VP (rws:List Rw):Prop where
 st:∀ i r,rws[i]?=some r→(r.w=Str.ofString "module" ↔ (stM (rws.take i)).2=none)
theorem VP.take {rws:List Rw} (h:VP rws) (n:Nat):VP (rws.take n):=⟨fun i r e=>by
 have hi:=(List.getElem?_eq_some_iff.mp e).1
 rw [List.length_take] at hi
 rw [List.getElem?_take_of_lt (by omega)] at e
 rw [List.take_take,Nat.min_eq_left (by omega)]
 exact h.st i r e⟩
theorem zalc:∀ ls:List Str,(∀ x∈ls,x.length≤5000)→(ls.map (·.length)).sum≤5000 * ls.length
 | [],_=>by simp
 | x :: ls,h=>by
  have h1:=zalc ls fun y hy=>h y (List.mem_cons_of_mem _ hy)
  have h2:=h x (by simp)
  simp only [List.map_cons,List.sum_cons,List.length_cons] at *
  omega
theorem zaqc (x y:Str):Txt.split x y≠[]:=by
 unfold Txt.split
 split
 ·simp
 ·split
  ·simp
  ·intro z
   have:=congrArg List.length z
   unfold Builtin.Str.partsBetween at this
   simp at this
theorem zaj7 (c:Nat) (a:List Str) (h0:a≠[]) (h:∀ x∈a,c ∉ x.cps.toList):Txt.split (Str.join ⟨#[c]⟩ a) ⟨#[c]⟩=a :=
 zajd c _ a (zaqc _ _) h0 (StrLaws.split_free _ c) h (StrLaws.join_split (Str.join ⟨#[c]⟩ a) ⟨#[c]⟩)
theorem zaob (m:Mod) (ms:List Mod):rowsOf (m :: ms)=rwM m.1 :: (m.2++rwE :: rowsOf ms):=by simp [rowsOf,modR]
section
variable {N:Nat}{ms:List Mod}
theorem zaxo (h:∀ m∈ms,MOk N m):VP (rowsOf ms):=⟨(zaji h).st⟩
abbrev txO (ms:List Mod):List Str:=(rowsOf ms).map rtx
theorem zav1 (h:∀ m∈ms,MOk N m):∀ x∈txO ms,x.length≤5000∧10 ∉ x.cps.toList:=fun x hx=>by
 obtain ⟨r,hr,rfl⟩:=List.mem_map.mp hx
 obtain ⟨o,l⟩:=zaj5 h r hr
 have l5:=zah9 o l
 exact ⟨l5,(zan9 o (by omega)).no10⟩
theorem zav2 (h:∀ m∈ms,MOk N m):Paired Ln (txO ms) (rowsOf ms):=zajj (zaj5 h)
theorem zajk {α β:Type}{R:α→β→Prop}:∀ {xs:List α}{ys:List β},Paired R xs ys→∀ k:Nat,Paired R (xs.take k) (ys.take k)
 | _,_,h,0=>by simp only [List.take_zero]; exact .nil
 | _,_,.nil,k + 1=>.nil
 | _,_,.cons a r,k + 1=>.cons a (zajk r k)
end
end

section
inductive Rns:List (List Nat)→Prop
 | nil:Rns []
 | cons {B:List Nat}{rs:List (List Nat)}:Run B rs.flatten→Rns rs→Rns (B :: rs)
def runE (c:Nat) (l:List Nat):List Nat:=if isL c then l.takeWhile isL else if isF c then l.takeWhile isF else []
def runs:Nat→List Nat→List (List Nat)
 | 0,_=>[]
 | _,[]=>[]
 | n + 1,c :: l=>(c :: runE c l) :: runs n (l.drop (runE c l).length)
theorem zaj8 (p:Nat→Bool):∀ l:List Nat,l.takeWhile p++l.drop (l.takeWhile p).length=l
 | []=>rfl
 | a :: l=>by
  rw [List.takeWhile_cons]
  split
  ·simp [zaj8 p l]
  ·rfl
theorem zaj9 (p:Nat→Bool):∀ (l:List Nat) (c:Nat),(l.drop (l.takeWhile p).length).head?=some c→p c=false
 | [],c,h=>by cases h
 | a :: l,c,h=>by
  rw [List.takeWhile_cons] at h
  split at h
  ·exact zaj9 p l c (by simpa using h)
  ·rename_i z
   have:a=c:=by simpa using h
   rw [← this]; simpa using z
theorem zaoc (p:Nat→Bool):∀ (l:List Nat),∀ c∈l.takeWhile p,p c=true
 | [],c,h=>by cases h
 | a :: l,c,h=>by
  rw [List.takeWhile_cons] at h
  split at h
  ·rename_i z
   rcases List.mem_cons.mp h with rfl | h
   ·exact z
   ·exact zaoc p l c h
  ·cases h
theorem zaqd (c:Nat) (l:List Nat):runE c l++l.drop (runE c l).length=l:=by
 unfold runE
 split
 ·exact zaj8 _ l
 ·split
  ·exact zaj8 _ l
  ·rfl
theorem zaqe (c:Nat) (l:List Nat):Run (c :: runE c l) (l.drop (runE c l).length):=by
 unfold runE
 split
 ·rename_i h
  refine .l (by simp) (fun d hd=>?_) (fun d hd=>zaj9 _ l d hd)
  rcases List.mem_cons.mp hd with rfl | hd
  ·exact h
  ·exact zaoc _ l d hd
 ·rename_i h
  split
  ·rename_i g
   refine .f (by simp) (fun d hd=>?_) (fun d hd=>zaj9 _ l d hd)
   rcases List.mem_cons.mp hd with rfl | hd
   ·exact g
   ·exact zaoc _ l d hd
  ·rename_i g
   exact .s (by simpa using h) (by simpa using g)
theorem zaek:∀ (n:Nat) (l:List Nat),l.length≤n→(runs n l).flatten=l∧Rns (runs n l)
 | 0,l,h=>by
  have:l=[]:=List.eq_nil_of_length_eq_zero (by omega)
  subst this; exact ⟨rfl,.nil⟩
 | n + 1,[],_=>⟨rfl,.nil⟩
 | n + 1,c :: l,h=>by
  have i:=zaek n (l.drop (runE c l).length) (by rw [List.length_drop]; simp at h; omega)
  refine ⟨?_,.cons (by rw [i.1]; exact zaqe c l) i.2⟩
  show ((c :: runE c l) :: runs n _).flatten=_
  rw [List.flatten_cons,i.1,List.cons_append,zaqd]
theorem zaka (p:Nat→Bool):∀ (B C:List Nat),(∀ c∈B,p c=true)→(∀ c,C.head?=some c→p c=false)→(B++C).takeWhile p=B
 | [],[],_,_=>rfl
 | [],c :: C,_,h=>by show (c :: C).takeWhile p=[]; rw [List.takeWhile_cons,h c rfl]; rfl
 | b :: B,C,h,g=>by
  show (b :: (B++C)).takeWhile p=_
  rw [List.takeWhile_cons,h b (by simp),zaka p B C (fun c hc=>h c (by simp [hc])) g]
  rfl
theorem zaqf {c:Nat}{B C:List Nat} (r:Run (c :: B) C):runE c (B++C)=B:=by
 generalize e:c :: B=D at r
 cases r with
 | l n h s =>
  subst e
  unfold runE
  rw [if_pos (h c (by simp))]
  exact zaka isL B C (fun d hd=>h d (by simp [hd])) s
 | f n h s =>
  subst e
  unfold runE
  have hf:=h c (by simp)
  have hl:isL c=false:=by
   cases e:isL c with
   | false=>rfl
   | true=>rw [LF e] at hf; cases hf
  rw [if_neg (by rw [hl]; decide),if_pos hf]
  exact zaka isF B C (fun d hd=>h d (by simp [hd])) s
 | s h g =>
  obtain ⟨rfl,rfl⟩:=List.cons.inj e
  unfold runE
  rw [if_neg (by rw [h]; decide),if_neg (by rw [g]; decide)]
theorem zajl:∀ (rs:List (List Nat)),Rns rs→∀ n,rs.flatten.length≤n→runs n rs.flatten=rs
 | [],_,n,_=>by cases n <;> rfl
 | B :: rs,.cons r h,n,hn=>by
  obtain ⟨c,B',rfl⟩:∃ c B',B=c :: B':=by
   cases B with
   | nil=>exact absurd rfl r.ne
   | cons b B=>exact ⟨b,B,rfl⟩
  cases n with
  | zero=>simp at hn
  | succ n =>
   have u:=zaqf r
   show (c :: runE c (B'++rs.flatten)) :: runs n ((B'++rs.flatten).drop (runE c (B'++rs.flatten)).length)=_
   rw [u,List.drop_left,zajl rs h n (by simp at hn ⊢; omega)]
def vD (B:List Nat):Nat:=B.foldl (fun n c=>n * 10 + (c - 48)) 0
def tokR (B:List Nat):Option Tk:=match B with
 | []=>none
 | c :: _ =>
  if isL c then (if (⟨B.toArray⟩:Str)∈WORDS then some (.wd ⟨B.toArray⟩) else if B.length≤8 then some (.nm ⟨B.toArray⟩) else none)
  else if isF c then (if B.length≤9∧(c≠48∨B.length=1) then some (.nu (vD B)) else none)
  else if (⟨B.toArray⟩:Str)∈SIGS then some (.sg ⟨B.toArray⟩) else none
theorem zaia (B:List Nat) (c:Nat):vD (B++[c])=vD B * 10 + (c - 48):=by unfold vD; rw [List.foldl_append]; rfl
theorem zafw {d:Nat} (h:d < 10):(Nat.digitChar d).toNat=48 + d:=by
 have:∀ d,d < 10→(Nat.digitChar d).toNat=48 + d:=by decide
 exact this d h
theorem zarc:∀ (n:Nat) (B:List Nat),B.length=n→(∀ c∈B,isF c=true)→(∃ c r,B=c :: r∧c≠48)→0 < vD B
 | 0,B,hl,_,⟨c,r,e,_⟩=>by rw [e] at hl; cases hl
 | n + 1,B,hl,hf,⟨c,r,e,hc⟩=>by
  rcases List.eq_nil_or_concat r with z | ⟨q,d,z⟩
  ·subst e; subst z
   have:=zagi.mp (hf c (by simp))
   show 0 < 0 * 10 + (c - 48)
   omega
  ·rw [List.concat_eq_append] at z
   subst z
   have e2:B=(c :: q)++[d]:=by rw [e]; rfl
   have i:=zarc n (c :: q) (by rw [e2,List.length_append] at hl; simpa using hl) (fun x hx=>hf x (by rw [e2]; exact List.mem_append_left _ hx)) ⟨c,q,rfl,hc⟩
   rw [e2,zaia]
   omega
theorem zard:∀ (n:Nat) (B:List Nat),B.length=n→(∀ c∈B,isF c=true)→(∃ c r,B=c :: r∧c≠48)∨B.length=1→(Nat.toDigits 10 (vD B)).map Char.toNat=B
 | 0,B,hl,_,h=>by
  rcases h with ⟨c,r,e,_⟩ | h
  ·rw [e] at hl; cases hl
  ·omega
 | n + 1,B,hl,hf,h=>by
  rcases List.eq_nil_or_concat B with z | ⟨q,d,z⟩
  ·subst z; cases hl
  ·rw [List.concat_eq_append] at z
   subst z
   have hd:=zagi.mp (hf d (by simp))
   cases q with
   | nil =>
    show (Nat.toDigits 10 (0 * 10 + (d - 48))).map Char.toNat=[d]
    rw [show 0 * 10 + (d - 48)=d - 48 by omega,Nat.toDigits_of_lt_base (by omega),List.map_cons,List.map_nil,zafw (by omega)]
    rw [show 48 + (d - 48)=d by omega]
   | cons c q =>
    have hc:c≠48:=by
     rcases h with ⟨c',r,e,hc⟩ | h
     ·have:=(List.cons.inj (show c :: (q++[d])=c' :: r from e)).1
      rw [this]; exact hc
     ·simp at h
    have hf':∀ x∈c :: q,isF x=true:=fun x hx=>hf x (List.mem_append_left _ hx)
    have i:=zard n (c :: q) (by rw [List.length_append] at hl; simpa using hl) hf' (.inl ⟨c,q,rfl,hc⟩)
    have p:=zarc _ (c :: q) rfl hf' ⟨c,q,rfl,hc⟩
    have t:=Nat.toDigits_append_toDigits (b:=10) (n:=vD (c :: q)) (d:=d - 48) (by decide) p (by omega)
    rw [zaia,Nat.mul_comm,← t,List.map_append,i,Nat.toDigits_of_lt_base (by omega),List.map_cons,List.map_nil,zafw (by omega),show 48 + (d - 48)=d by omega]
theorem zav3:∀ (n:Nat) (B:List Nat),B.length=n→(∀ c∈B,isF c=true)→vD B < 10 ^ n
 | 0,B,hl,_=>by
  have:B=[]:=List.eq_nil_of_length_eq_zero hl
  subst this; decide
 | n + 1,B,hl,hf=>by
  rcases List.eq_nil_or_concat B with z | ⟨q,d,z⟩
  ·subst z; cases hl
  ·rw [List.concat_eq_append] at z
   subst z
   have i:=zav3 n q (by rw [List.length_append] at hl; simpa using hl) (fun x hx=>hf x (List.mem_append_left _ hx))
   have hd:=zagi.mp (hf d (by simp))
   rw [zaia,Nat.pow_succ]
   omega
theorem zare:∀ (m n:Nat),n≤m→vD ((Nat.toDigits 10 n).map Char.toNat)=n
 | 0,n,h=>by
  have:n=0:=by omega
  subst this; decide
 | m + 1,n,h=>by
  by_cases z:n < 10
  ·rw [Nat.toDigits_of_lt_base z,List.map_cons,List.map_nil,zafw z]
   show 0 * 10 + (48 + n - 48)=n
   omega
  ·have i:=zare m (n / 10) (by omega)
   rw [Nat.toDigits_of_base_le (by decide) (by omega),List.map_append,List.map_cons,List.map_nil,zaia,i,zafw (Nat.mod_lt _ (by decide))]
   omega
theorem zav4 {n:Int} (h:Num n):(vD (num n).cps.toList:Int)=n:=by
 rw [zagl h,zare _ _ (Nat.le_refl _)]
 exact Int.toNat_of_nonneg h.n0
theorem zarf {B C:List Nat} (r:Run B C) {t:Tk} (h:tokR B=some t):t.ok∧t.t.cps.toList=B:=by
 obtain ⟨c,B',rfl⟩:∃ c B',B=c :: B':=by
  cases B with
  | nil=>exact absurd rfl r.ne
  | cons b B=>exact ⟨b,B,rfl⟩
 have la:∀ x:Str,x=⟨(c :: B').toArray⟩→x.length=(c :: B').length:=fun x e=>by rw [← Strl,e]
 unfold tokR at h
 simp only at h
 split at h
 ·rename_i hl
  have al:∀ d∈c :: B',isL d=true:=by
   generalize e:c :: B'=D at r
   cases r with
   | l _ a _=>exact a
   | f _ a _=>have:=a c (by rw [← e]; simp); rw [LF hl] at this; cases this
   | s a _=>obtain ⟨rfl,_⟩:=List.cons.inj e; rw [a] at hl; cases hl
  split at h
  ·rename_i hw
   cases h; exact ⟨hw,rfl⟩
  ·rename_i hw
   split at h
   ·rename_i h8
    cases h
    exact ⟨⟨⟨by rw [la _ rfl]; simp,by rw [la _ rfl]; exact h8,⟨fun d hd=>zaj0.mp (al d hd)⟩⟩,hw⟩,rfl⟩
   ·cases h
 ·rename_i hl
  split at h
  ·rename_i hf
   have al:∀ d∈c :: B',isF d=true:=by
    generalize e:c :: B'=D at r
    cases r with
    | l _ a _=>exact absurd (a c (by rw [← e]; simp)) hl
    | f _ a _=>exact a
    | s _ a=>obtain ⟨rfl,_⟩:=List.cons.inj e; rw [a] at hf; cases hf
   split at h
   ·rename_i h9
    cases h
    have l:=zav3 _ (c :: B') rfl al
    have l2:10 ^ (c :: B').length≤10 ^ 9:=Nat.pow_le_pow_right (by decide) h9.1
    have hn:Num (vD (c :: B'):Int):=⟨by omega,by omega⟩
    refine ⟨hn,?_⟩
    show (num (vD (c :: B'):Int)).cps.toList=_
    rw [zagl hn,Int.toNat_natCast]
    exact zard _ _ rfl al (h9.2.imp (fun z=>⟨c,B',rfl,z⟩) id)
   ·cases h
  ·split at h
   ·rename_i hs
    cases h; exact ⟨hs,rfl⟩
   ·cases h
theorem zarg {t:Tk} (h:t.ok):tokR t.t.cps.toList=some t:=by
 obtain ⟨c,r,e,_,hl,hf⟩:=zagm h
 cases t with
 | nm x =>
  have h:Nm x:=h
  have e:x.cps.toList=c :: r:=e
  have hl:=hl.mpr rfl
  show tokR x.cps.toList=_
  have l8:(c :: r).length≤8:=by rw [← e,Strl]; exact h.l8
  have ex:(⟨(c :: r).toArray⟩:Str)=x:=by rw [← e]
  rw [e]
  unfold tokR
  simp only
  rw [if_pos hl,ex,if_neg h.nw,if_pos l8]
 | wd x =>
  have h:x∈WORDS:=h
  have e:x.cps.toList=c :: r:=e
  have hl:=hl.mpr rfl
  show tokR x.cps.toList=_
  have ex:(⟨(c :: r).toArray⟩:Str)=x:=by rw [← e]
  rw [e]
  unfold tokR
  simp only
  rw [if_pos hl,ex,if_pos h]
 | nu n =>
  have h:Num n:=h
  have e:(num n).cps.toList=c :: r:=e
  have hf:=hf.mpr rfl
  have hl:¬ isL c=true:=fun z=>by rw [LF z] at hf; cases hf
  have v:=zav4 h
  have l9:(c :: r).length≤9:=by rw [← e,Strl]; exact zanh h
  have z:c≠48∨(c :: r).length=1:=by
   by_cases hc:c=48
   ·right
    have:=zap8 h (by rw [e,hc]; rfl)
    rw [← e,this]
    decide +kernel
   ·exact .inl hc
  show tokR (num n).cps.toList=_
  rw [e] at v ⊢
  unfold tokR
  simp only
  rw [if_neg hl,if_pos hf,if_pos ⟨l9,z⟩,v]
 | sg x =>
  have h:x∈SIGS:=h
  have e:x.cps.toList=c :: r:=e
  have nl:¬ isL c=true:=fun z=>by cases hl.mp z
  have nf:¬ isF c=true:=fun z=>by cases hf.mp z
  show tokR x.cps.toList=_
  have ex:(⟨(c :: r).toArray⟩:Str)=x:=by rw [← e]
  rw [e]
  unfold tokR
  simp only
  rw [if_neg nl,if_neg nf,ex,if_pos h]
def cmb (a b:Option (List Tk)):Option (List Tk):=match a,b with
 | some x,some y=>some (x++y)
 | _,_=>none
def one (B:List Nat):Option (List Tk):=if B=[32] then some [] else match tokR B with
 | some t=>some [t]
 | none=>none
def lexR:List (List Nat)→Option (List Tk)
 | []=>some []
 | B :: rs=>cmb (one B) (lexR rs)
def lexT (A:List Nat):Option (List Tk):=lexR (runs A.length A)
theorem zac8 (a b c:Option (List Tk)):cmb (cmb a b) c=cmb a (cmb b c):=by
 cases a <;> cases b <;> cases c <;> simp [cmb]
theorem zafx:∀ a b:List (List Nat),lexR (a++b)=cmb (lexR a) (lexR b)
 | [],b=>by show lexR b=cmb (some []) (lexR b); cases lexR b <;> rfl
 | B :: a,b=>by show cmb (one B) (lexR (a++b))=cmb (cmb (one B) (lexR a)) (lexR b); rw [zafx a b,zac8]
theorem zagr {rs:List (List Nat)} (h:Rns rs):lexT rs.flatten=lexR rs:=by unfold lexT; rw [zajl rs h _ (Nat.le_refl _)]
structure Brk (A B:List Nat):Prop where
 h:∀ a b,A.getLast?=some a→B.head?=some b→(isL a=true→isL b=false)∧(isF a=true→isF b=false)
theorem zaqg {B C:List Nat} (r:Run B C) {D:List Nat} (h:C≠[]∨Brk B D):Run B (C++D):=by
 have key:∀ c,(C++D).head?=some c→C.head?=some c∨(C=[]∧D.head?=some c):=fun c hc=>by
  cases C with
  | nil=>exact .inr ⟨rfl,hc⟩
  | cons x C=>exact .inl (by simpa using hc)
 have lst:∀ (p:Nat→Bool),B≠[]→(∀ c∈B,p c=true)→∃ a,B.getLast?=some a∧p a=true:=fun p n hp=>by
  obtain ⟨a,ha⟩:∃ a,B.getLast?=some a:=by
   cases e:B.getLast? with
   | none=>exact absurd (List.getLast?_eq_none_iff.mp e) n
   | some a=>exact ⟨a,rfl⟩
  exact ⟨a,ha,hp a (List.mem_of_getLast? ha)⟩
 cases r with
 | l n a s =>
  refine .l n a fun c hc=>?_
  rcases key c hc with z | ⟨z,z2⟩
  ·exact s c z
  ·rcases h with h | h
   ·exact absurd z h
   ·obtain ⟨x,hx,px⟩:=lst isL n a
    exact (h.h x c hx z2).1 px
 | f n a s =>
  refine .f n a fun c hc=>?_
  rcases key c hc with z | ⟨z,z2⟩
  ·exact s c z
  ·rcases h with h | h
   ·exact absurd z h
   ·obtain ⟨x,hx,px⟩:=lst isF n a
    exact (h.h x c hx z2).2 px
 | s a b=>exact .s a b
theorem zaod:∀ {a b:List (List Nat)},Rns a→Rns b→Brk a.flatten b.flatten→Rns (a++b)
 | [],b,_,hb,_=>hb
 | B :: a,b,.cons r h,hb,k=>by
  refine .cons ?_ (zaod h hb ⟨fun x y hx hy=>k.h x y ?_ hy⟩)
  ·show Run B (a++b).flatten
   rw [List.flatten_append]
   refine zaqg r ?_
   by_cases z:a.flatten=[]
   ·right
    rw [List.flatten_cons,z,List.append_nil] at k
    exact k
   ·exact .inl z
  ·rw [List.flatten_cons,List.getLast?_append,hx]; rfl
theorem zadn {A B:List Nat} (k:Brk A B):lexT (A++B)=cmb (lexT A) (lexT B):=by
 obtain ⟨a1,a2⟩:=zaek _ A (Nat.le_refl _)
 obtain ⟨b1,b2⟩:=zaek _ B (Nat.le_refl _)
 have r:=zaod a2 b2 (by rw [a1,b1]; exact k)
 have e:=zagr r
 rw [List.flatten_append,a1,b1] at e
 rw [e,zafx]
 rfl
def sgn (c:Nat):Bool:=!isL c && !isF c
theorem Brk.l {A B:List Nat} (h:∀ a,A.getLast?=some a→sgn a=true):Brk A B:=⟨fun a b ha _=>by
 have:=h a ha
 unfold sgn at this
 cases e:isL a <;> cases e2:isF a <;> simp [e,e2] at this ⊢⟩
theorem Brk.r {A B:List Nat} (h:∀ b,B.head?=some b→sgn b=true):Brk A B:=⟨fun a b _ hb=>by
 have:=h b hb
 unfold sgn at this
 cases e:isL b <;> cases e2:isF b <;> simp [e,e2] at this ⊢⟩
theorem zatd (a:Option (List Tk)):cmb (some []) a=a:=by cases a <;> rfl
theorem zaoe (A:List Nat):lexT (32 :: A)=lexT A:=by
 have k:Brk [32] A:=Brk.l fun a h=>by
  have h:32=a:=by simpa using h
  rw [← h]
  decide
 have e:=zadn k
 rw [show lexT [32]=some [] from rfl,zatd] at e
 exact e
theorem zaib {t:Tk} (h:t.ok):lexT t.t.cps.toList=some [t]:=by
 have r:Rns [t.t.cps.toList]:=.cons (zaq3 h fun c hc=>by cases hc) .nil
 have e:=zagr r
 rw [List.flatten_cons,List.flatten_nil,List.append_nil] at e
 obtain ⟨c,q,ec,n,_⟩:=zagm h
 have n2:¬ t.t.cps.toList=[32]:=fun z=>by rw [ec] at z; exact n (List.cons.inj z).1
 rw [e]
 show cmb (one _) (some [])=_
 unfold one
 rw [if_neg n2,zarg h]
 rfl
theorem zaof:∀ {cs:List (Option Tk)},Sep cs→(∀ t,some t∈cs→t.ok)→Rns (cs.map cT)∧lexR (cs.map cT)=some (cs.filterMap id)
 | [],_,_=>⟨.nil,rfl⟩
 | c :: cs,s,ok=>by
  have i:=zaof s.tail (fun t ht=>ok t (by simp [ht]))
  refine ⟨.cons ?_ i.1,?_⟩
  ·rw [show (cs.map cT).flatten=ctx cs from rfl]
   exact zas3 s ok
  ·show cmb (one (cT c)) (lexR (cs.map cT))=_
   rw [i.2]
   cases c with
   | none=>rfl
   | some t =>
    have h:=ok t (by simp)
    obtain ⟨d,q,ec,n,_⟩:=zagm h
    have n2:¬ t.t.cps.toList=[32]:=fun z=>by rw [ec] at z; exact n (List.cons.inj z).1
    show cmb (one t.t.cps.toList) _=_
    unfold one
    rw [if_neg n2,zarg h]
    rfl
theorem Ln.lex {x:Str}{r:Rw} (h:Ln x r):lexT x.cps.toList=some r.ts:=by
 obtain ⟨cs,e,s,ok,f⟩:=h.ex
 have i:=zaof s ok
 rw [e,show ctx cs=(cs.map cT).flatten from rfl,zagr i.1,i.2,f]
def odd (c:Nat):Bool:=!isL c && !isF c && !([32,40,41,46,58]:List Nat).contains c
theorem zav5:∀ x∈SIGS,∀ c∈x.cps.toList,([32,40,41,46,58]:List Nat).contains c=true:=by decide +kernel
theorem zate {B C:List Nat} (r:Run B C) {c:Nat} (hc:c∈B) (o:odd c=true):one B=none:=by
 unfold odd at o
 rw [Bool.and_eq_true,Bool.and_eq_true] at o
 obtain ⟨⟨o1,o2⟩,o3⟩:=o
 cases r with
 | l n a s=>rw [a c hc] at o1; cases o1
 | f n a s=>rw [a c hc] at o2; cases o2
 | s a b =>
  rename_i d
  have:c=d:=List.mem_singleton.mp hc
  subst this
  unfold one
  rw [if_neg (fun z=>by have:=(List.cons.inj z).1; rw [this] at o3; exact absurd o3 (by decide))]
  unfold tokR
  simp only
  rw [if_neg (by rw [a]; decide),if_neg (by rw [b]; decide),if_neg (fun z=>by rw [zav5 _ z c (by simp)] at o3; cases o3)]
theorem zald:∀ {rs:List (List Nat)},Rns rs→∀ {c:Nat},c∈rs.flatten→odd c=true→lexR rs=none
 | [],_,c,h,_=>by cases h
 | B :: rs,.cons r h,c,hc,o=>by
  show cmb (one B) (lexR rs)=none
  rw [List.flatten_cons] at hc
  rcases List.mem_append.mp hc with z | z
  ·rw [zate r z o]; rfl
  ·rw [zald h z o]; cases one B <;> rfl
theorem zatf {A:List Nat}{c:Nat} (h:c∈A) (o:odd c=true):lexT A=none:=by
 obtain ⟨a1,a2⟩:=zaek _ A (Nat.le_refl _)
 exact zald a2 (by rw [a1]; exact h) o
theorem zaog:∀ {rs:List (List Nat)},Rns rs→∀ {ts:List Tk},lexR rs=some ts→(∀ t∈ts,t.ok)∧ts.length≤rs.flatten.length
 | [],_,ts,h=>by cases h; exact ⟨fun t ht=>(by cases ht),Nat.le_refl _⟩
 | B :: rs,.cons r h,ts,e=>by
  have e:cmb (one B) (lexR rs)=some ts:=e
  cases e2:lexR rs with
  | none=>rw [e2] at e; cases h:one B <;> rw [h] at e <;> cases e
  | some us =>
   obtain ⟨i1,i2⟩:=zaog h e2
   have bl:0 < B.length:=List.length_pos_iff.mpr r.ne
   rw [e2] at e
   rw [List.flatten_cons,List.length_append]
   unfold one at e
   by_cases z:B=[32]
   ·rw [if_pos z] at e; cases e
    exact ⟨i1,by show us.length≤_; omega⟩
   ·rw [if_neg z] at e
    cases et:tokR B with
    | none=>rw [et] at e; cases e
    | some t =>
     rw [et] at e; cases e
     refine ⟨fun x hx=>?_,by show (t :: us).length≤_; rw [List.length_cons]; omega⟩
     rcases List.mem_cons.mp hx with rfl | hx
     ·exact (zarf r et).1
     ·exact i1 x hx
end

section
inductive Rs (α:Type) where
 | st | bad | ok (a:α) (r:List Tk)
def Rs.isBad {α:Type}:Rs α→Bool
 | .bad=>true | _=>false
theorem zale {α:Type}{x:Rs α} (h:x.isBad=true):x=.bad:=by cases x <;> first | rfl | cases h
def formOf (T:List (Str × List Str)) (w:Str):Option (List Str):=(T.find? fun p=>decide (p.1=w)).map (·.2)
theorem zadw {T:List (Str × List Str)}{w:Str}{ks:List Str} (h:formOf T w=some ks):(w,ks)∈T:=by
 unfold formOf at h
 obtain ⟨p,hp,rfl⟩:=Option.map_eq_some_iff.mp h
 have a:=List.find?_some hp
 have:p.1=w:=of_decide_eq_true a
 rw [← this]
 exact List.mem_of_find?_eq_some hp
theorem zaoh {T:List (Str × List Str)}{w:Str} (h:formOf T w=none):∀ p∈T,p.1≠w:=fun p hp=>by
 unfold formOf at h
 have:=List.find?_eq_none.mp (Option.map_eq_none_iff.mp h) p hp
 simpa using this
def pNm (x:Str):List Tk→Rs Ex
 | .sg s :: l=>if s = "." then (match l with | .nm y :: r=>.ok (.of x y) r | _=>.bad) else .ok (.nm x) (.sg s :: l)
 | l=>.ok (.nm x) l
def pVl (a:Int):List Tk→Rs Ex
 | .sg s :: .nu b :: r=>if s = ":" then .ok (.val a b) r else .bad
 | _=>.bad
def pPs (p:List Tk→Rs Ex):List Str→List Pt→List Tk→Rs (List Pt)
 | [],a,l=>.ok a l
 | k :: ks,a,l=>if k = "expr" then (match p l with | .ok e r=>pPs p ks (a++[.ex e]) r | .bad=>.bad | .st=>.st) else (match l with | .nu n :: r=>pPs p ks (a++[.nu n]) r | _=>.bad)
def mkE (w:Str):List Pt→Ex
 | [.ex a]=>.un a | [.ex a,.ex b]=>.bi w a b | [.ex a,.ex b,.ex c]=>.pick a b c | [.ex a,.nu l,.nu m]=>.part a l m | _=>.nm ""
def pCl (w:Str) (ps:List Pt):List Tk→Rs Ex
 | .sg s :: r=>if s = ")" then .ok (mkE w ps) r else .bad
 | _=>.bad
def pFo (p:List Tk→Rs Ex) (w:Str) (l:List Tk):Option (List Str)→Rs Ex
 | none=>.bad
 | some ks=>match pPs p ks [] l with
  | .ok ps r=>pCl w ps r
  | .bad=>.bad
  | .st=>.st
def pBr (p:List Tk→Rs Ex):List Tk→Rs Ex
 | .sg s :: .wd w :: l=>if s = "(" then pFo p w l (formOf FORMS w) else .bad
 | _=>.bad
def pE:Nat→List Tk→Rs Ex
 | 0,_=>.st
 | _ + 1,.nu a :: l=>pVl a l
 | _ + 1,.nm x :: l=>pNm x l
 | n + 1,l=>pBr (pE n) l
def pM (p:List Tk→Rs Ex):Nat→List Ex→List Tk→Rs (List Ex)
 | _,a,[]=>.ok a []
 | 0,_,_=>.st
 | m + 1,a,l=>match p l with | .ok e r=>pM p m (a++[e]) r | .bad=>.bad | .st=>.st
def pPt (k:Str) (l:List Tk):Rs RP :=
 if k = "expr" then (match pE 21 l with | .ok e r=>.ok (.ex e) r | .bad=>.bad | .st=>.st)
 else if k = "exprs" then (match pM (pE 21) l.length [] l with | .ok es r=>.ok (.exs es) r | .bad=>.bad | .st=>.st)
 else if k = "name" then (match l with | .nm x :: r=>.ok (.nm x) r | _=>.bad)
 else (match l with | .nu n :: r=>.ok (.nu n) r | _=>.bad)
def pRs:List Str→List RP→List Tk→Rs (List RP)
 | [],a,l=>.ok a l
 | k :: ks,a,l=>match pPt k l with | .ok p r=>pRs ks (a++[p]) r | .bad=>.bad | .st=>.st
def pEn (w:Str):Rs (List RP)→Rs Rw
 | .ok ps []=>.ok ⟨w,ps⟩ []
 | .ok _ _=>.bad
 | .bad=>.bad
 | .st=>.st
def pRo (w:Str) (l:List Tk):Option (List Str)→Rs Rw
 | none=>.bad
 | some ks=>pEn w (pRs ks [] l)
def pRow:List Tk→Rs Rw
 | .wd w :: l=>pRo w l (formOf RFORMS w)
 | _=>.bad
def NDe (e:Ex) (r:List Tk):Prop:=(∃ x,e=.nm x)→ND r
theorem NDe.of {e:Ex}{r:List Tk} (h:ND r):NDe e r:=fun _=>h
theorem zatg {s:Str}{r:List Tk} (h:s ≠ "."):ND (.sg s :: r):=fun t ht=>by
 have:Tk.sg s=t:=by simpa using ht
 rw [← this]; exact h
theorem zaxp {n:Int}{r:List Tk}:ND (.nu n :: r):=fun t ht=>by
 have:Tk.nu n=t:=by simpa using ht
 rw [← this]; exact zag1.2.2.1
theorem zarh {x:Str}{r:List Tk} (h:ND r):pNm x r=.ok (.nm x) r:=by
 cases r with
 | nil=>rfl
 | cons t r =>
  cases t with
  | sg s =>
   have:s ≠ "." := h (.sg s) rfl
   exact if_neg this
  | nm _=>rfl
  | wd _=>rfl
  | nu _=>rfl
theorem zav6:formOf FORMS "not" = some ([Str.ofString "expr"]):=by decide +kernel
theorem zaxq:∀ w∈BIW,formOf FORMS w=some ([Str.ofString "expr",Str.ofString "expr"]):=by decide +kernel
theorem zath:formOf FORMS "pick" = some ([Str.ofString "expr",Str.ofString "expr",Str.ofString "expr"]):=by decide +kernel
theorem zati:formOf FORMS "part" = some ([Str.ofString "expr",Str.ofString "number",Str.ofString "number"]):=by decide +kernel
theorem zags {p:List Tk→Rs Ex}{ks:List Str}{a:List Pt}{l r:List Tk}{e:Ex} (h:p l=.ok e r):pPs p (Str.ofString "expr" :: ks) a l=pPs p ks (a++[.ex e]) r:=by
 refine (if_pos rfl).trans ?_
 rw [h]
theorem zaqh:¬ Str.ofString "number" = Str.ofString "expr" := by decide +kernel
theorem zari {p:List Tk→Rs Ex}{ks:List Str}{a:List Pt}{r:List Tk}{n:Int}:pPs p (Str.ofString "number" :: ks) a (.nu n :: r)=pPs p ks (a++[.nu n]) r:=by
 exact if_neg zaqh
theorem zalf {p:List Tk→Rs Ex}{w:Str}{l r:List Tk}{ks:List Str}{ps:List Pt} (hf:formOf FORMS w=some ks) (hp:pPs p ks [] l=.ok ps (.sg ")" :: r)):pBr p (.sg "(" :: .wd w :: l)=.ok (mkE w ps) r:=by
 show (if Str.ofString "(" = Str.ofString "(" then pFo p w l (formOf FORMS w) else .bad)=_
 rw [if_pos rfl,hf]
 show (match pPs p ks [] l with | .ok ps r=>pCl w ps r | .bad=>.bad | .st=>.st)=_
 rw [hp]
 simp [pCl]
theorem zatj:Str.ofString ")" ≠ "." := by decide +kernel
theorem zafo:∀ (n:Nat) (e:Ex) (r:List Tk),Ok e→e.deep < n→NDe e r→pE n (tks e++r)=.ok e r
 | 0,_,_,_,h,_=>absurd h (Nat.not_lt_zero _)
 | n + 1,.nm x,r,_,_,d=>zarh (d ⟨x,rfl⟩)
 | n + 1,.of x y,r,_,_,_=>by simp [tks,pE,pNm]
 | n + 1,.val a b,r,_,_,_=>by simp [tks,pE,pVl]
 | n + 1,.un a,r,.un h,hd,_=>by
  have hd:1 + a.deep < n + 1:=hd
  have i:=zafo n a (.sg ")" :: r) h (by omega) (NDe.of (zatg zatj))
  have e:tks (.un a)++r=.sg "(" :: .wd "not" :: (tks a++.sg ")" :: r):=by simp [tks]
  rw [e]
  refine zalf (ps:=[.ex a]) zav6 ?_
  rw [zags i]; rfl
 | n + 1,.bi w a b,r,.bi hw h g,hd,_=>by
  have hd:1 + max a.deep b.deep < n + 1:=hd
  have i:=zafo n a (tks b++.sg ")" :: r) h (by omega) (NDe.of (zajf b _))
  have j:=zafo n b (.sg ")" :: r) g (by omega) (NDe.of (zatg zatj))
  have e:tks (.bi w a b)++r=.sg "(" :: .wd w :: (tks a++(tks b++.sg ")" :: r)):=by simp [tks]
  rw [e]
  refine zalf (ps:=[.ex a,.ex b]) (zaxq w hw) ?_
  rw [zags i,zags j]; rfl
 | n + 1,.pick a b c,r,.pick h g k,hd,_=>by
  have hd:1 + max a.deep (max b.deep c.deep) < n + 1:=hd
  have i:=zafo n a (tks b++(tks c++.sg ")" :: r)) h (by omega) (NDe.of (zajf b _))
  have j:=zafo n b (tks c++.sg ")" :: r) g (by omega) (NDe.of (zajf c _))
  have l:=zafo n c (.sg ")" :: r) k (by omega) (NDe.of (zatg zatj))
  have e:tks (.pick a b c)++r=.sg "(" :: .wd "pick" :: (tks a++(tks b++(tks c++.sg ")" :: r))):=by simp [tks]
  rw [e]
  refine zalf (ps:=[.ex a,.ex b,.ex c]) zath ?_
  rw [zags i,zags j,zags l]; rfl
 | n + 1,.part a x y,r,.part h g k,hd,_=>by
  have hd:1 + a.deep < n + 1:=hd
  have i:=zafo n a (.nu x :: .nu y :: .sg ")" :: r) h (by omega) (NDe.of zaxp)
  have e:tks (.part a x y)++r=.sg "(" :: .wd "part" :: (tks a++.nu x :: .nu y :: .sg ")" :: r):=by simp [tks]
  rw [e]
  refine zalf (ps:=[.ex a,.nu x,.nu y]) zati ?_
  rw [zags i,zari,zari]; rfl
theorem zaoi (e:Ex):0 < (tks e).length:=by cases e <;> simp [tks]
theorem zakb {p:List Tk→Rs Ex}{m:Nat}{a:List Ex}{l r:List Tk}{e:Ex} (hl:l≠[]) (h:p l=.ok e r):pM p (m + 1) a l=pM p m (a++[e]) r:=by
 cases l with
 | nil=>exact absurd rfl hl
 | cons t l =>
  show (match p (t :: l) with | .ok e r=>pM p m (a++[e]) r | .bad=>.bad | .st=>.st)=_
  rw [h]
theorem zarj {p:List Tk→Rs Ex}{m:Nat}{a:List Ex}{l:List Tk} (hl:l≠[]) (h:p l=.bad):pM p (m + 1) a l=.bad:=by
 cases l with
 | nil=>exact absurd rfl hl
 | cons t l =>
  show (match p (t :: l) with | .ok e r=>pM p m (a++[e]) r | .bad=>.bad | .st=>.st)=_
  rw [h]
theorem zajm {e:Ex}{r:List Tk}:tks e++r≠[]:=fun z=>by
 have:=congrArg List.length z
 have h:=zaoi e
 simp at this
 rw [this.1] at h
 simp at h
theorem zav7:∀ (es:List Ex) (m:Nat) (a:List Ex),(∀ e∈es,OkE e)→es.length≤m→pM (pE 21) m a ((es.map tks).flatten)=.ok (a++es) []
 | [],m,a,_,_=>by rw [List.append_nil]; cases m <;> rfl
 | e :: es,0,a,_,h=>by simp at h
 | e :: es,m + 1,a,ok,h=>by
  have o:=ok e (by simp)
  rw [List.map_cons,List.flatten_cons,zakb zajm (zafo 21 e _ o.o o.d (NDe.of (zavl es))),zav7 es m _ (fun x hx=>ok x (by simp [hx])) (by simp at h; omega)]
  simp
structure Junk (x:List Tk):Prop where
 ne:x≠[]
 nd:ND x∨x=[.sg "."]
 e:pE 21 x=.bad
theorem zatk (x:Str):pNm x [.sg "."]=.bad:=by simp [pNm]
theorem zaoj {e:Ex}{x:List Tk} (o:OkE e) (j:Junk x):pE 21 (tks e++x)=.ok e x∨pE 21 (tks e++x)=.bad:=by
 rcases j.nd with h | h
 ·exact .inl (zafo 21 e x o.o o.d (NDe.of h))
 ·subst h
  by_cases z:∃ y,e=.nm y
  ·obtain ⟨y,rfl⟩:=z
   exact .inr (zatk y)
  ·exact .inl (zafo 21 e _ o.o o.d (fun w=>absurd w z))
theorem zakc:∀ (es:List Ex) (m:Nat) (a:List Ex) (x:List Tk),(∀ e∈es,OkE e)→Junk x→es.length < m→pM (pE 21) m a ((es.map tks).flatten++x)=.bad
 | _,0,_,_,_,_,h=>absurd h (Nat.not_lt_zero _)
 | [],m + 1,a,x,_,j,_=>zarj j.ne j.e
 | e :: es,m + 1,a,x,ok,j,h=>by
  have o:=ok e (by simp)
  have h:es.length < m:=by simp at h; omega
  rw [List.map_cons,List.flatten_cons,List.append_assoc]
  cases es with
  | nil =>
   rcases zaoj o j with z | z
   ·rw [show ((List.map tks []).flatten++x)=x from rfl,zakb zajm z]
    exact zakc [] m _ x (fun _ h=>by cases h) j h
   ·exact zarj zajm z
  | cons e2 es =>
   rw [zakb zajm (zafo 21 e _ o.o o.d (NDe.of (by rw [List.map_cons,List.flatten_cons,List.append_assoc]; exact zajf e2 _)))]
   exact zakc (e2 :: es) m _ x (fun y hy=>ok y (by simp [hy])) j h
inductive Shp:Rw→Prop
 | m {x:Str} (h:Nm x):Shp ⟨"module",[.nm x]⟩
 | i {x:Str}{n:Int} (h:Nm x) (g:Num n):Shp ⟨"in",[.nm x,.nu n]⟩
 | k {x:Str}{n m:Int} (h:Nm x) (g:Num n) (j:Num m):Shp ⟨"keep",[.nm x,.nu n,.nu m]⟩
 | e {w x:Str}{e:Ex} (hw:w = "let" ∨ w = "next" ∨ w = "out") (h:Nm x) (g:OkE e):Shp ⟨w,[.nm x,.ex e]⟩
 | u {x y:Str}{es:List Ex} (h:Nm x) (j:Nm y) (g:∀ e∈es,OkE e) (l:es.length≤30):Shp ⟨"use",[.nm x,.nm y,.exs es]⟩
 | z:Shp ⟨"end",[]⟩
theorem k_ne:Str.ofString "name" ≠ "number" ∧ Str.ofString "name" ≠ "expr" ∧ Str.ofString "name" ≠ "exprs" ∧ Str.ofString "number" ≠ "expr" ∧ Str.ofString "number" ≠ "exprs" ∧ Str.ofString "expr" ≠ "exprs" := by decide +kernel
theorem k_nm {p:RP} (h:p.k=Str.ofString "name"):∃ x,p=.nm x:=by
 cases p with
 | nm x=>exact ⟨x,rfl⟩
 | nu n=>exact absurd h.symm k_ne.1
 | ex n=>exact absurd h.symm k_ne.2.1
 | exs n=>exact absurd h.symm k_ne.2.2.1
theorem k_nu {p:RP} (h:p.k=Str.ofString "number"):∃ x,p=.nu x:=by
 cases p with
 | nu x=>exact ⟨x,rfl⟩
 | nm n=>exact absurd h k_ne.1
 | ex n=>exact absurd h.symm k_ne.2.2.2.1
 | exs n=>exact absurd h.symm k_ne.2.2.2.2.1
theorem k_ex {p:RP} (h:p.k=Str.ofString "expr"):∃ x,p=.ex x:=by
 cases p with
 | ex x=>exact ⟨x,rfl⟩
 | nm n=>exact absurd h k_ne.2.1
 | nu n=>exact absurd h k_ne.2.2.2.1
 | exs n=>exact absurd h.symm k_ne.2.2.2.2.2
theorem k_es {p:RP} (h:p.k=Str.ofString "exprs"):∃ x,p=.exs x:=by
 cases p with
 | exs x=>exact ⟨x,rfl⟩
 | nm n=>exact absurd h k_ne.2.2.1
 | nu n=>exact absurd h k_ne.2.2.2.2.1
 | ex n=>exact absurd h k_ne.2.2.2.2.2
theorem map1 {ps:List RP}{a:Str} (h:ps.map RP.k=[a]):∃ p,ps=[p]∧p.k=a:=by
 match ps,h with
 | [p],h=>exact ⟨p,rfl,by simpa using h⟩
theorem map2 {ps:List RP}{a b:Str} (h:ps.map RP.k=[a,b]):∃ p q,ps=[p,q]∧p.k=a∧q.k=b:=by
 match ps,h with
 | [p,q],h=>exact ⟨p,q,rfl,by simpa using h⟩
theorem map3 {ps:List RP}{a b c:Str} (h:ps.map RP.k=[a,b,c]):∃ p q r,ps=[p,q,r]∧p.k=a∧q.k=b∧r.k=c:=by
 match ps,h with
 | [p,q,r],h=>exact ⟨p,q,r,rfl,by simpa using h⟩
theorem zagt {r:Rw} (o:r.ok):Shp r:=by
 obtain ⟨w,ps⟩:=r
 have f:=o.fo
 have k:=o.ps
 simp only [RFORMS,List.mem_cons,List.not_mem_nil,or_false,Prod.mk.injEq] at f
 have ex:∀ w:Str,w = "let" ∨ w = "next" ∨ w = "out" → ps.map RP.k=[Str.ofString "name",Str.ofString "expr"]→Shp ⟨w,ps⟩:=fun w hw h=>by
  obtain ⟨p,q,rfl,hp,hq⟩:=map2 h
  obtain ⟨x,rfl⟩:=k_nm hp
  obtain ⟨e,rfl⟩:=k_ex hq
  exact .e hw (k (.nm x) (by simp)) (k (.ex e) (by simp))
 rcases f with ⟨rfl,h⟩ | ⟨rfl,h⟩ | ⟨rfl,h⟩ | ⟨rfl,h⟩ | ⟨rfl,h⟩ | ⟨rfl,h⟩ | ⟨rfl,h⟩ | ⟨rfl,h⟩
 ·obtain ⟨p,rfl,hp⟩:=map1 h
  obtain ⟨x,rfl⟩:=k_nm hp
  exact .m (k (.nm x) (by simp))
 ·obtain ⟨p,q,rfl,hp,hq⟩:=map2 h
  obtain ⟨x,rfl⟩:=k_nm hp
  obtain ⟨n,rfl⟩:=k_nu hq
  exact .i (k (.nm x) (by simp)) (k (.nu n) (by simp))
 ·obtain ⟨p,q,r,rfl,hp,hq,hr⟩:=map3 h
  obtain ⟨x,rfl⟩:=k_nm hp
  obtain ⟨n,rfl⟩:=k_nu hq
  obtain ⟨m,rfl⟩:=k_nu hr
  exact .k (k (.nm x) (by simp)) (k (.nu n) (by simp)) (k (.nu m) (by simp))
 ·exact ex _ (.inl rfl) h
 ·obtain ⟨p,q,r,rfl,hp,hq,hr⟩:=map3 h
  obtain ⟨x,rfl⟩:=k_nm hp
  obtain ⟨y,rfl⟩:=k_nm hq
  obtain ⟨es,rfl⟩:=k_es hr
  have z:=k (.exs es) (by simp)
  exact .u (k (.nm x) (by simp)) (k (.nm y) (by simp)) z.1 z.2
 ·exact ex _ (.inr (.inl rfl)) h
 ·exact ex _ (.inr (.inr rfl)) h
 ·have:ps=[]:=List.map_eq_nil_iff.mp h
  subst this; exact .z
theorem rfo:formOf RFORMS "module" = some [Str.ofString "name"]∧formOf RFORMS "in" = some [Str.ofString "name",Str.ofString "number"]∧formOf RFORMS "keep" = some [Str.ofString "name",Str.ofString "number",Str.ofString "number"]∧formOf RFORMS "use" = some [Str.ofString "name",Str.ofString "name",Str.ofString "exprs"]∧formOf RFORMS "end" = some []:=by decide +kernel
theorem zaqi:∀ w:Str,w = "let" ∨ w = "next" ∨ w = "out" → formOf RFORMS w=some [Str.ofString "name",Str.ofString "expr"]:=fun w h=>by
 rcases h with rfl | rfl | rfl <;> decide +kernel
theorem zab6 {x:Str}{l:List Tk}:pPt (Str.ofString "name") (.nm x :: l)=.ok (.nm x) l:=by
 unfold pPt
 rw [if_neg k_ne.2.1,if_neg k_ne.2.2.1,if_pos rfl]
theorem zadx {n:Int}{l:List Tk}:pPt (Str.ofString "number") (.nu n :: l)=.ok (.nu n) l:=by
 unfold pPt
 rw [if_neg k_ne.2.2.2.1,if_neg k_ne.2.2.2.2.1,if_neg (Ne.symm k_ne.1)]
theorem zaic {l:List Tk} (h:∀ x r,l≠.nm x :: r):pPt (Str.ofString "name") l=.bad:=by
 unfold pPt
 rw [if_neg k_ne.2.1,if_neg k_ne.2.2.1,if_pos rfl]
 cases l with
 | nil=>rfl
 | cons t l=>cases t with
  | nm x=>exact absurd rfl (h x l)
  | _=>rfl
theorem zagu {l:List Tk} (h:∀ x r,l≠.nu x :: r):pPt (Str.ofString "number") l=.bad:=by
 unfold pPt
 rw [if_neg k_ne.2.2.2.1,if_neg k_ne.2.2.2.2.1,if_neg (Ne.symm k_ne.1)]
 cases l with
 | nil=>rfl
 | cons t l=>cases t with
  | nu x=>exact absurd rfl (h x l)
  | _=>rfl
theorem zaau {k:Str}{ks:List Str}{a:List RP}{l r:List Tk}{p:RP} (h:pPt k l=.ok p r):pRs (k :: ks) a l=pRs ks (a++[p]) r:=by
 show (match pPt k l with | .ok p r=>pRs ks (a++[p]) r | .bad=>.bad | .st=>.st)=_
 rw [h]
theorem zaca {k:Str}{ks:List Str}{a:List RP}{l:List Tk} (h:pPt k l=.bad):pRs (k :: ks) a l=.bad:=by
 show (match pPt k l with | .ok p r=>pRs ks (a++[p]) r | .bad=>.bad | .st=>.st)=_
 rw [h]
theorem zabi {w:Str}{l:List Tk}{ks:List Str} (h:formOf RFORMS w=some ks):pRow (.wd w :: l)=pEn w (pRs ks [] l):=by
 show pRo w l (formOf RFORMS w)=_
 rw [h]; rfl
theorem zad9 {w:Str}{ps:List RP}{x:List Tk} (h:x≠[]):pEn w (.ok ps x)=.bad:=by
 cases x with
 | nil=>exact absurd rfl h
 | cons t x=>rfl
theorem zaok {l r:List Tk}{e:Ex} (h:pE 21 l=.ok e r):pPt (Str.ofString "expr") l=.ok (.ex e) r:=by
 unfold pPt
 rw [if_pos rfl,h]
theorem zaol {l:List Tk} (h:pE 21 l=.bad):pPt (Str.ofString "expr") l=.bad:=by
 unfold pPt
 rw [if_pos rfl,h]
theorem zark {l r:List Tk}{es:List Ex} (h:pM (pE 21) l.length [] l=.ok es r):pPt (Str.ofString "exprs") l=.ok (.exs es) r:=by
 unfold pPt
 rw [if_neg (Ne.symm k_ne.2.2.2.2.2),if_pos rfl,h]
theorem zakd {l:List Tk} (h:pM (pE 21) l.length [] l=.bad):pPt (Str.ofString "exprs") l=.bad:=by
 unfold pPt
 rw [if_neg (Ne.symm k_ne.2.2.2.2.2),if_pos rfl,h]
theorem flen5:∀ es:List Ex,es.length≤((es.map tks).flatten).length
 | []=>Nat.le_refl _
 | e :: es=>by
  have:=flen5 es
  have:=zaoi e
  rw [List.map_cons,List.flatten_cons,List.length_append,List.length_cons]
  omega
theorem zatl {r:Rw} (o:r.ok):pRow r.ts=.ok r []:=by
 cases zagt o with
 | m h=>show pRow [.wd "module",.nm _]=_; rw [zabi rfo.1,zaau zab6]; rfl
 | i h g=>show pRow [.wd "in",.nm _,.nu _]=_; rw [zabi rfo.2.1,zaau zab6,zaau zadx]; rfl
 | k h g j=>show pRow [.wd "keep",.nm _,.nu _,.nu _]=_; rw [zabi rfo.2.2.1,zaau zab6,zaau zadx,zaau zadx]; rfl
 | e hw h g =>
  rename_i w x e
  show pRow (.wd w :: .nm x :: (tks e++[]))=_
  rw [zabi (zaqi w hw),zaau zab6,zaau (zaok (zafo 21 e [] g.o g.d (NDe.of fun t h=>by cases h)))]; rfl
 | u h j g l =>
  rename_i x y es
  show pRow (.wd "use" :: .nm x :: .nm y :: ((es.map tks).flatten++[]))=_
  rw [List.append_nil,zabi rfo.2.2.2.1,zaau zab6,zaau zab6,zaau (zark (zav7 es _ [] g (flen5 es)))]; rfl
 | z=>show pRow [.wd "end"]=_; rw [zabi rfo.2.2.2.2]; rfl
theorem zaom {r:Rw}{x:List Tk} (o:r.ok) (j:Junk x):pRow (r.ts++x)=.bad:=by
 cases zagt o with
 | m h=>show pRow (.wd "module" :: .nm _ :: x)=_; rw [zabi rfo.1,zaau zab6]; exact zad9 j.ne
 | i h g=>show pRow (.wd "in" :: .nm _ :: .nu _ :: x)=_; rw [zabi rfo.2.1,zaau zab6,zaau zadx]; exact zad9 j.ne
 | k h g i=>show pRow (.wd "keep" :: .nm _ :: .nu _ :: .nu _ :: x)=_; rw [zabi rfo.2.2.1,zaau zab6,zaau zadx,zaau zadx]; exact zad9 j.ne
 | e hw h g =>
  rename_i w y e
  have e0:Rw.ts ⟨w,[.nm y,.ex e]⟩++x=.wd w :: .nm y :: (tks e++x):=by simp [Rw.ts,RP.ts]
  rw [e0,zabi (zaqi w hw),zaau zab6]
  rcases zaoj g j with z | z
  ·rw [zaau (zaok z)]; exact zad9 j.ne
  ·rw [zaca (zaol z)]; rfl
 | u h i g l =>
  rename_i y z es
  have e0:Rw.ts ⟨"use",[.nm y,.nm z,.exs es]⟩++x=.wd "use" :: .nm y :: .nm z :: ((es.map tks).flatten++x):=by simp [Rw.ts,RP.ts]
  have lx:0 < x.length:=List.length_pos_iff.mpr j.ne
  have le:=flen5 es
  rw [e0,zabi rfo.2.2.2.1,zaau zab6,zaau zab6,zaca (zakd (zakc es _ [] x g j (by rw [List.length_append]; omega)))]; rfl
 | z=>show pRow (.wd "end" :: x)=_; rw [zabi rfo.2.2.2.2]; exact zad9 j.ne
end

section
section
variable {P:Program}{w:World}{K:PySem.W.Frag}{mg:Str→Option Value}{base:Heap}{f:Addr}{fd:FuncData}{k:Nat}
local macro_rules | `(tactic| walk_at "user")=>`(tactic| (refine Or.inr ?_; with_reducible assumption))
def spLP5:Sp:=fun vs H Q _=>∃ x:Str,vs=[.str x]∧x.length≤20000∧(x∈WORDS∨x.length≤8→∀ p H',Ch [] H H'→H p=none→H' p=some (.tup [.str (if x∈WORDS then "word" else "name"),.str x])→Q (.ref p) H')∧(x ∉ WORDS→8 < x.length→Q .non H)
theorem zav8 {ra ea:Addr}{rk ek:List (Key × V)} (F:Fun K "letters_piece" "letters_piece" (top 25) f fd) (fo:Forms P w K ra ea rk ek) (m_ROW_FORMS:mg "ROW_FORMS" = some (.ref ra)) (m_EXPR_FORMS:mg "EXPR_FORMS" = some (.ref ea)) (m_LONGEST_NAME:∃ t,mg "LONGEST_NAME" = some (.int 8 t)) (z_len:mg "len" = none):FnOk P w K mg base CX0 (k + 1) f fd ["run"] spLP5:=by
 have nd:=scLP.nd
 refine F.ok scLP (fun vs H Q E h=>by obtain ⟨x,rfl,_⟩:=h; rfl) (fun cdv A outer s H vs Q E hr h=>?_)
 obtain ⟨x,rfl,x8,q,qn⟩:=h
 obtain ⟨tn,m_LONGEST_NAME⟩:=m_LONGEST_NAME
 refine ⟨_,(Pr.h (zaad (zaat (zacx (zaeu (zaam zaha (qv av25 0 rfl) (zabh (v:=.ref _) (gl25.g 1 rfl) m_ROW_FORMS rfl zadu) rfl) (zaeg (zaam zaha (qv av25 0 rfl) (zabh (v:=.ref _) (gl25.g 0 rfl) m_EXPR_FORMS rfl zadh) rfl)))) (zaah (zaao (zabl (zaaa zaaf (zaaa (qv av25 0 rfl) zaac zaag) zaab)))) zaap) (zaad (zaat (zaam zauw (zaas zabt (gl25.g 2 rfl) z_len PySem.boot_len (zaaa (qv av25 0 rfl) zaac zaag) zab3 zab4) (zabh (v:=.int 8) (gl25.g 3 rfl) m_LONGEST_NAME ⟨_,rfl⟩ zagn) (nomark _)) (zaah (zaao (zabl (zaaa zaaf (zaaa (qv av25 0 rfl) zaac zaag) zaab)))) zaap) (zaah (zaao zacq))))),?_⟩
 (try dsimp only [cxOf])
 have hr1:=fo.r
 have he1:=fo.e
 have hw:=fo.hw x
 have wy:(valV rk (Sum.inr x)).isSome=true→x∈WORDS:=fun h=>by rw [h] at hw; simpa using hw.symm
 have wz:(valV ek (Sum.inr x)).isSome=true→x∈WORDS:=fun h=>by rw [h,Bool.or_true] at hw; simpa using hw.symm
 have sz:x.length≤sizeLine:=by rw [sizeLine_eq]; omega
 walk_at "rd"
 refine ite2 (fun h1=>?_) (fun h1=>?_)
 ·have q:=q (.inl (wy h1))
  rw [if_pos (wy h1)] at q
  walk_at "rd"
  exact q _ _ (Ch.new (by assumption) _) (by assumption) zaai
 ·walk_at "rd"
  refine ite2 (fun h2=>?_) (fun h2=>?_)
  ·have q:=q (.inl (wz h2))
   rw [if_pos (wz h2)] at q
   walk_at "rd"
   exact q _ _ (Ch.new (by assumption) _) (by assumption) zaai
  ·have h1:(valV rk (Sum.inr x)).isSome=false:=by simpa using h1
   have h2:(valV ek (Sum.inr x)).isSome=false:=by simpa using h2
   have nw:x ∉ WORDS:=by
    rw [h1,h2] at hw
    exact of_decide_eq_false hw.symm
   rw [if_neg nw] at q
   walk_at "rd"
   refine ite2 (fun h3=>?_) (fun h3=>?_)
   ·have h3:(x.length:Int)≤8:=of_decide_eq_true h3
    have q:=q (.inr (by omega))
    walk_at "rd"
    exact q _ _ (Ch.new (by assumption) _) (by assumption) zaai
   ·have h3:¬ (x.length:Int)≤8:=fun z=>h3 (decide_eq_true z)
    exact qn nw (by omega)
def spFP5:Sp:=fun vs H Q _=>∃ (x:Str) (c:Nat) (r:List Nat),vs=[.str x]∧x.cps.toList=c :: r∧x.length≤20000∧(x.length≤9∧(c≠48∨r=[])→∃ n,Num n∧x=num n∧∀ p H',Ch [] H H'→H p=none→H' p=some (.tup [.str "number",.int n])→Q (.ref p) H')∧(9 < x.length∨(c=48∧r≠[])→Q .non H)
theorem zav9 (F:Fun K "figures_piece" "figures_piece" (top 26) f fd) (m_LONGEST_NUMBER:∃ t,mg "LONGEST_NUMBER" = some (.int 9 t)) (z_len:mg "len" = none) (z_int:mg "int" = none):FnOk P w K mg base CX0 (k + 1) f fd ["run"] spFP5:=by
 have nd:=scFP.nd
 refine F.ok scFP (fun vs H Q E h=>by obtain ⟨x,c,r,rfl,_⟩:=h; rfl) (fun cdv A outer s H vs Q E hr h=>?_)
 obtain ⟨x,c,r,rfl,ex,lx,q,qn⟩:=h
 obtain ⟨tn,m_LONGEST_NUMBER⟩:=m_LONGEST_NUMBER
 refine ⟨_,(Pr.h (zaad (zaat (zacx (zaeu (zaam zapa (zaas zabt (gl26.g 0 rfl) z_len PySem.boot_len (zaaa (qv av26 0 rfl) zaac zaag) zab3 zab4) (zabh (v:=.int 9) (gl26.g 1 rfl) m_LONGEST_NUMBER ⟨_,rfl⟩ zafb) (nomark _)) (zaeg (zacx (zadc (zaam zabp (zaar zacf (qv av26 0 rfl) zaae (fun _ _=>rfl)) zaaf (nomark _)) (zadd (zaam zahk (qv av26 0 rfl) zaaf (nomark _)))))))) (zaah (zaao zacq)) zaap) (zaah (zaao (zabl (zaaa zaaf (zaaa (zaba zana (gl26.g 2 rfl) z_int zagf (zaaa (qv av26 0 rfl) zaac zaag) zagg zagh) zaac zaaz) zaab)))))),?_⟩
 (try dsimp only [cxOf])
 have sz:x.length≤sizeLine:=by rw [sizeLine_eq]; omega
 have at0:atI x.cps.toList 0=some c:=zack (j:=0) (by rw [ex]; rfl)
 have o0:=ofS1.2.2.1
 walk_at "rd"
 refine ite2 (fun h1=>?_) (fun h1=>?_)
 ·have h1:(9:Int) < (x.length:Int):=of_decide_eq_true h1
  exact qn (.inl (by omega))
 have h1:¬ (9:Int) < (x.length:Int):=fun z=>h1 (decide_eq_true z)
 walk_at "rd"
 refine ite2 (fun h2=>?_) (fun h2=>?_)
 ·have h2:(⟨#[c]⟩:Str)=Str.ofString "0" := V.str.inj (of_decide_eq_true h2)
  have e48:c=48:=by
   rw [o0] at h2
   simpa using h2
  walk_at "rd"
  refine ite2 (fun h3=>?_) (fun h3=>?_)
  ·refine qn (.inr ⟨e48,fun z=>?_⟩)
   have:x=Str.ofString "0" := by rw [o0]; exact zadg (by rw [ex,e48,z])
   rw [this,decide_eq_true rfl] at h3
   cases h3
  ·have h3:x=Str.ofString "0" := by simpa using h3
   have hr:r=[]:=by
    rw [h3,o0] at ex
    exact (List.cons.inj ex).2.symm
   obtain ⟨n,hn,rfl,q9⟩:=q ⟨by omega,.inr hr⟩
   have rd:=zak5 hn
   have l640:(num n).length≤640:=by omega
   walk_at "rd"
   exact q9 _ _ (Ch.new (by assumption) _) (by assumption) zaai
 ·have h2:c≠48:=fun z=>h2 (by rw [z,o0]; exact decide_eq_true rfl)
  obtain ⟨n,hn,rfl,q9⟩:=q ⟨by omega,.inl h2⟩
  have rd:=zak5 hn
  have l640:(num n).length≤640:=by omega
  walk_at "rd"
  exact q9 _ _ (Ch.new (by assumption) _) (by assumption) zaai
def spPO5:Sp:=fun vs H Q _=>∃ (x:Str) (C:List Nat),vs=[.str x]∧Run x.cps.toList C∧x.length≤20000∧(∀ t p H',tokR x.cps.toList=some t→Ch [] H H'→H p=none→TkAt H' t p→Q (.ref p) H')∧(tokR x.cps.toList=none→Q .non H)
theorem zawa {sa:Addr} (F:Fun K "piece_of" "piece_of" (top 27) f fd) (Dis_letter:DefOk P w K mg base CX0 k "is_letter" ["sign"] spIsL) (Dis_figure:DefOk P w K mg base CX0 k "is_figure" ["sign"] spIsF) (Dletters_piece:DefOk P w K mg base CX0 k "letters_piece" ["run"] spLP5) (Dfigures_piece:DefOk P w K mg base CX0 k "figures_piece" ["run"] spFP5)
  (m_SIGNS:mg "SIGNS" = some (.ref sa)) (sig:∀ H:Hp,SqT K H sa (SIGS.map V.str)):FnOk P w K mg base CX0 (k + 1) f fd ["run"] spPO5:=by
 have nd:=scPO.nd
 refine F.ok scPO (fun vs H Q E h=>by obtain ⟨x,C,rfl,_⟩:=h; rfl) (fun cdv A outer s H vs Q E hr h=>?_)
 obtain ⟨x,C,rfl,rn,lx,q,qn⟩:=h
 refine ⟨_,(Pr.h (zaad (zaat (zab5 (zaak Dis_letter hr (gl27.g 0 rfl) pass0 (zaaa (zaar zacf (qv av27 0 rfl) zaae (fun _ _=>rfl)) zaac zaaq) zads)) (zaah (zaao (zaak Dletters_piece hr (gl27.g 1 rfl) pass0 (zaaa (qv av27 0 rfl) zaac zaag) zafl))) zaap) (zaad (zaat (zab5 (zaak Dis_figure hr (gl27.g 2 rfl) pass0 (zaaa (zaar zacf (qv av27 0 rfl) zaae (fun _ _=>rfl)) zaac zaaq) zadt)) (zaah (zaao (zaak Dfigures_piece hr (gl27.g 3 rfl) pass0 (zaaa (qv av27 0 rfl) zaac zaag) zafm))) zaap) (zaad (zaat (zaam zaen (qv av27 0 rfl) (zabh (v:=.ref _) (gl27.g 4 rfl) m_SIGNS rfl zap9) rfl) (zaah (zaao (zabl (zaaa (qv av27 0 rfl) (zaaa (qv av27 0 rfl) zaac zaag) zaag)))) zaap) (zaah (zaao zacq)))))),?_⟩
 (try dsimp only [cxOf])
 obtain ⟨c,r,ec⟩:∃ c r,x.cps.toList=c :: r:=by
  cases e:x.cps.toList with
  | nil=>exact absurd e rn.ne
  | cons c r=>exact ⟨c,r,rfl⟩
 have ex:(⟨(c :: r).toArray⟩:Str)=x:=by rw [← ec]
 have ll:(c :: r).length=x.length:=by rw [← ec,Strl]
 have at0:atI x.cps.toList 0=some c:=zack (j:=0) (by rw [ec]; rfl)
 have sz:x.length≤sizeLine:=by rw [sizeLine_eq]; omega
 have tk:tokR x.cps.toList=if isL c then (if x∈WORDS then some (.wd x) else if x.length≤8 then some (.nm x) else none) else if isF c then (if x.length≤9∧(c≠48∨x.length=1) then some (.nu (vD x.cps.toList)) else none) else if x∈SIGS then some (.sg x) else none:=by
  rw [ec]
  unfold tokR
  simp only
  rw [ex,ll]
 walk_at "rd"
 refine ite2 (fun h1=>?_) (fun h1=>?_)
 ·rw [if_pos h1] at tk
  refine ⟨_,rfl,_,rfl,lx,fun hw p H' ch f0 g=>?_,fun nw l8=>?_⟩
  ·by_cases z:x∈WORDS
   ·rw [if_pos z] at tk g
    exact q _ p H' tk ch f0 g
   ·rw [if_neg z] at tk g
    rw [if_pos (hw.resolve_left z)] at tk
    exact q _ p H' tk ch f0 g
  ·rw [if_neg nw,if_neg (by omega)] at tk
   exact qn tk
 ·rw [if_neg h1] at tk
  walk_at "rd"
  refine ite2 (fun h2=>?_) (fun h2=>?_)
  ·rw [if_pos h2] at tk
   have rl:r=[]↔x.length=1:=by
    rw [← ll,List.length_cons]
    exact ⟨fun z=>by rw [z]; rfl,fun z=>List.eq_nil_of_length_eq_zero (by omega)⟩
   refine ⟨_,rfl,x,c,r,rfl,ec,lx,fun hg=>?_,fun hb=>?_⟩
   ·rw [if_pos ⟨hg.1,hg.2.imp id rl.mp⟩] at tk
    obtain ⟨o1,o2⟩:=zarf rn tk
    exact ⟨_,o1,(zadg o2).symm,fun p H' ch f0 g=>q _ p H' tk ch f0 g⟩
   ·have nb:¬ (x.length≤9∧(c≠48∨x.length=1)):=fun z=>by
     rcases hb with hb | hb
     ·omega
     ·exact hb.2 (rl.mpr (z.2.resolve_left (fun y=>y hb.1)))
    rw [if_neg nb] at tk
    exact qn tk
  ·rw [if_neg h2] at tk
   have iv:inV (V.str x) (SIGS.map V.str)=decide (x∈SIGS):=zage x SIGS
   have fl:=zai8 SIGS
   walk_at "rd"
   refine ⟨.inr (sig _),rfl,fl,?_⟩
   rw [iv]
   walk_at "rd"
   refine ite2 (fun h3=>?_) (fun h3=>?_)
   ·rw [if_pos (of_decide_eq_true h3)] at tk
    walk_at "rd"
    exact q _ _ _ tk (Ch.new (by assumption) _) (by assumption) zaai
   ·rw [if_neg (fun z=>h3 (decide_eq_true z))] at tk
    exact qn tk
def spPcs5:Sp:=fun vs H Q _=>∃ (x:Str),vs=[.str x]∧x.length≤20000∧(∀ ts pl ps H',lexT x.cps.toList=some ts→PC H H' pl ts ps→Q (.ref pl) H')∧(lexT x.cps.toList=none→∀ H',Ch [] H H'→Q .non H')
theorem zatm (F:Fun K "pieces_of" "pieces_of" (top 28) f fd) (Drun_end:DefOk P w K mg base CX0 k "run_end" ["row", "at"] spRE) (Dpiece_of:DefOk P w K mg base CX0 k "piece_of" ["run"] spPO5) (z_len:mg "len" = none):FnOk P w K mg base CX0 (k + 1) f fd ["row"] spPcs5:=by
 have nd:=scPcs.nd
 refine F.ok scPcs (fun vs H Q E h=>by obtain ⟨x,rfl,_⟩:=h; rfl) (fun cdv A outer s H vs Q E hr h=>?_)
 obtain ⟨x,rfl,lx,q,qn⟩:=h
 refine ⟨_,(Pr.h (zaad (zaan (i:=1) nd rfl (av28.l 1 rfl) (zaay zaac)) (zab0 (zaan (i:=2) nd rfl (av28.l 2 rfl) zaae) (zaad (zaev PassesOwn.never (zaam zao9 (qv av28 2 rfl) (zaas zabt (gl28.g 0 rfl) z_len PySem.boot_len (zaaa (qv av28 0 rfl) zaac zaag) zab3 zab4) (nomark _)) (zaad (zaan (i:=3) nd rfl (av28.l 3 rfl) (zaak Drun_end hr (gl28.g 1 rfl) pass0 (zaaa (qv av28 0 rfl) (zaaa (qv av28 2 rfl) zaac zaag) zaag) zaly)) (zab0 (zaat (zaam zahk (zaar zacf (qv av28 0 rfl) (qv av28 2 rfl) (fun _ _=>rfl)) zaaf (nomark _)) (zaad (zaan (i:=4) nd rfl (av28.l 4 rfl) (zaak Dpiece_of hr (gl28.g 2 rfl) pass0 (zaaa (zaa1 zaee (qv av28 0 rfl) (zaa4 (qv av28 2 rfl)) (zaa4 (qv av28 3 rfl))) zaac zaaq) zaj2)) (zaad (zaat (zaam zamf (qv av28 4 rfl) zacq (nomark _)) (zaah (zaao zacq)) zaap) (zaah (zaa7 (zabz PySem.F.plainAttrs_list PySem.F.slot_list_append PySem.F.type_list_append zaby (qv av28 1 rfl) (zaaa (qv av28 4 rfl) zaac zaag)))))) zaap) (zaah (zaan (i:=2) nd rfl (av28.l 2 rfl) (qv av28 3 rfl)))))) (zaah (zaao (qv av28 1 rfl))))))),?_⟩
 (try dsimp only [cxOf])
 have sz:x.length≤sizeLine:=by rw [sizeLine_eq]; omega
 obtain ⟨cs,ex,rns,lxe⟩:∃ cs,x.cps.toList=cs.flatten∧Rns cs∧lexT x.cps.toList=lexR cs:=by
  obtain ⟨a,b⟩:=zaek _ x.cps.toList (Nat.le_refl _)
  exact ⟨_,a.symm,b,rfl⟩
 rw [lxe] at q qn
 walk_at "rd"
 rename_i pl hpl
 refine zacw (fun σ H'=>σ=[some (.str x),some (.ref pl),some (.int 0),none,none]∧PC H H' pl [] []) ?_ ?_
 ·walk_at "rd"
  exact ⟨Ch.new hpl _,hpl,zaai,.nil⟩
 rintro σ H1 ⟨rfl,p1⟩
 refine ⟨(fun m σ H'=>∃ (u3 u4:Option V) (c1 c2:List (List Nat)) (ts:List Tk) (ps:List Addr),σ=[some (.str x),some (.ref pl),some (.int (c1.flatten.length:Int)),u3,u4]∧cs=c1++c2∧Rns c2∧lexR c1=some ts∧ts.length≤c1.flatten.length∧PC H H' pl ts ps∧m=c2.length),⟨_,_,_,[],cs,[],[],rfl,rfl,rns,rfl,Nat.le_refl _,p1,rfl⟩,?_⟩
 rintro m σ H' ⟨u3,u4,c1,c2,ts,ps,rfl,rfl,se,l1,lts,pc,rfl⟩
 have lc:x.length=c1.flatten.length + c2.flatten.length:=by rw [← Strl,ex,List.flatten_append,List.length_append]
 walk_at "rd"
 refine ite2 (fun hc=>?_) (fun hc=>?_)
 ·cases se with
  | nil=>exact absurd (of_decide_eq_true hc) (by rw [lc]; simp)
  | cons rn se =>
   rename_i c c2
   refine ⟨_,fun σ' H' z=>z,?_⟩
   have ex2:x.cps.toList=c1.flatten++(c++c2.flatten):=by rw [ex,List.flatten_append,List.flatten_cons]
   obtain ⟨b0,B',eB⟩:∃ b0 B',c=b0 :: B':=by
    cases e:c with
    | nil=>exact absurd e rn.ne
    | cons b r=>exact ⟨b,r,rfl⟩
   have at0:atI x.cps.toList (c1.flatten.length:Int)=some b0:=zack (by rw [ex2,List.getElem?_append_right (Nat.le_refl _),Nat.sub_self,eB]; rfl)
   walk_at "rd"
   have e1:c1++c :: c2=(c1++[c])++c2:=by simp
   have el:(c1++[c]).flatten.length=c1.flatten.length + c.length:=by rw [List.flatten_append,List.length_append]; simp
   have ll:lexR (c1++[c])=cmb (some ts) (one c):=by
    rw [zafx,l1]
    show cmb (some ts) (cmb (one c) (some []))=_
    cases one c <;> simp [cmb]
   obtain ⟨n,en⟩:∃ n:Nat,c1.flatten.length + c.length=n:=⟨_,rfl⟩
   have sl:=zanm ex2
   rw [en] at sl el ⊢
   refine zacw (fun σ H''=>∃ u4 ts' ps',σ=[some (.str x),some (.ref pl),some (.int (c1.flatten.length:Int)),some (.int (n:Int)),u4]∧lexR (c1++[c])=some ts'∧ts'.length≤n∧PC H H'' pl ts' ps') ?_ ?_
   ·walk_at "rd"
    by_cases h32:c=[32]
    ·have:b0=32:=by rw [eB] at h32; exact (List.cons.inj h32).1
     subst this
     refine ite2 (fun h=>?_) (fun h=>?_)
     ·exact absurd h (by rw [ofS1.2.2.2.2,decide_eq_true rfl]; decide)
     ·refine ⟨_,ts,ps,rfl,?_,by omega,pc⟩
      rw [ll,h32]
      show some (ts++[])=_
      rw [List.append_nil]
    ·have n32:b0≠32:=fun z=>by
      subst z
      generalize hD:c=D at rn
      cases rn with
      | l _ a _=>exact absurd (a 32 (by rw [← hD,eB]; simp)) (by decide)
      | f _ a _=>exact absurd (a 32 (by rw [← hD,eB]; simp)) (by decide)
      | s _ _=>rw [eB] at hD; exact h32 (by rw [eB,hD,(List.cons.inj hD).1])
     have sl2:(Txt.slice x (some (c1.flatten.length:Int)) (some (n:Int))).cps.toList=c:=sl
     obtain ⟨y,ey⟩:∃ y,Txt.slice x (some (c1.flatten.length:Int)) (some (n:Int))=y:=⟨_,rfl⟩
     have ly:y.length=c.length:=by rw [← Strl,← ey,sl2]
     have lcl:c.length≤x.length:=by rw [lc,List.flatten_cons,List.length_append]; omega
     have rny:Run (Txt.slice x (some (c1.flatten.length:Int)) (some (n:Int))).cps.toList c2.flatten:=by rw [sl2]; exact rn
     have ly2:(Txt.slice x (some (c1.flatten.length:Int)) (some (n:Int))).length≤20000:=by rw [ey]; omega
     have one_c:one c=match tokR c with
      | some t=>some [t]
      | none=>none:=by unfold one; rw [if_neg h32] <;> cases tokR c <;> rfl
     refine ite2 (fun h=>?_) (fun h=>?_)
     ·have hg:=pc.g
      have lps:(ps.map V.ref).length≤20000:=by
       have z:=Paired.length pc.a
       rw [List.length_map]
       omega
      walk_at "rd"
      refine ⟨fun t p H2 et ch f0 ta=>?_,fun et=>?_⟩
      ·have hg2:=ch.get hg (by simp)
       rw [sl2] at et
       rw [et] at one_c
       walk_at "rd"
       have cl0:0 < c.length:=List.length_pos_iff.mpr rn.ne
       refine ⟨(by rw [ll,one_c]; rfl:lexR (c1++[c])=some (ts++[t])),(by rw [List.length_append,List.length_singleton]; omega),Ch.own pc.f (pc.ch.trans ch),pc.f,(by rw [zaai,List.map_append]; rfl:_=some (HO.lst ((ps++[p]).map V.ref))),?_⟩
       have tu:Tu H2 (upd H2 pl (.lst (ps.map V.ref++[.ref p]))):=Tu.lst Ch.put hg2
       exact zaa6 (R:=TkAt _) (tu _ _ ta) (zaal (fun _ _ e=>tu _ _ (ch.get e (by simp))) pc.a)
      ·rw [sl2] at et
       rw [et] at one_c
       have:lexR (c1++c :: c2)=none:=by rw [e1,zafx,ll,one_c]; rfl
       have qz:=qn this _ pc.ch
       walk_at "rd"
       refine ite2 (fun _=>qz) (fun h=>absurd (decide_eq_true rfl) h)
     ·exfalso
      apply h
      rw [ofS1.2.2.2.2]
      simpa using n32
   ·rintro σ H2 ⟨u4,ts',ps',rfl,l2,lt2,pc2⟩
    walk_at "rd"
    refine ⟨?_,_,_,c1++[c],c2,ts',ps',by rw [el]; rfl,e1,se,l2,by omega,pc2,rfl⟩
    simp
 ·have:c2=[]:=by
   cases se with
   | nil=>rfl
   | cons rn se =>
    exfalso
    apply hc
    have:=List.length_pos_iff.mpr rn.ne
    rw [List.flatten_cons,List.length_append] at lc
    exact decide_eq_true (by omega)
  subst this
  have hg:=pc.g
  walk_at "rd"
  rw [List.append_nil] at q
  exact q ts pl ps _ l1 pc
end
end

section
structure EX (CT:Addr) (W:List Addr) (H:Hp) (ln:Nat) (E:XK):Prop where
 h:∀ d H',Ch W H H'→H' d=some (.xd [("line",.int (ln:Int))])→E (.ref CT) (some d) H'
theorem EX.ch {CT:Addr}{W:List Addr}{H H1:Hp}{ln:Nat}{E:XK} (e:EX CT W H ln E) (c:Ch W H H1):EX CT W H1 ln E:=⟨fun d H' c2 h=>e.h d H' (c.trans c2) h⟩
theorem EX.d {CT:Addr}{W:List Addr}{H:Hp}{ln:Nat}{E:XK} (e:EX CT W H ln E):∀ d,H d=none→E (.ref CT) (some d) (upd H d (.xd [("line",.int (ln:Int))])):=fun d hd=>e.h d _ (Ch.new hd _).wk zaai
structure Ou {α:Type} (CT y:Addr) (H:Hp) (ln:Nat) (ts:List Tk) (R:Rs α) (E:XK) (G:α→Nat→Hp→Prop):Prop where
 ns:R≠.st
 ok:∀ a r n H',R=.ok a r→ts.drop n=r→n≤ts.length→Ch [y] H H'→G a n H'
 bad:R=.bad→EX CT [y] H ln E
theorem zaqj {ts:List Tk}{m n:Nat} (h:ts.drop m=ts.drop n) (a:m≤ts.length) (b:n≤ts.length):m=n:=by
 have:=congrArg List.length h
 rw [List.length_drop,List.length_drop] at this
 omega
section
variable {α:Type}{CT y:Addr}{H:Hp}{ln:Nat}{ts:List Tk}{R:Rs α}{E:XK}{G:α→Nat→Hp→Prop}
theorem zace (h:R=.bad) (e:EX CT [y] H ln E):Ou CT y H ln ts R E G:=⟨(by rw [h]; (intro z; cases z)),fun a r n H' z=>(by rw [h] at z; cases z),fun _=>e⟩
theorem zae2 {a:α}{r:List Tk}{n:Nat} (h:R=.ok a r) (d:ts.drop n=r) (l:n≤ts.length) (g:∀ H',Ch [y] H H'→G a n H'):Ou CT y H ln ts R E G:=⟨(by rw [h]; (intro z; cases z)),fun b q m H' z d2 l2 c=>by
 rw [h] at z; cases z
 rw [zaqj (d2.trans d.symm) l2 l]
 exact g H' c,fun z=>by rw [h] at z; cases z⟩
end
def pTk (kd:Str):List Tk→Rs Tk
 | t :: r=>if t.k=kd then .ok t r else .bad
 | []=>.bad
theorem zacz {kd:Str}{t:Tk}{r:List Tk} (h:t.k=kd):pTk kd (t :: r)=.ok t r:=if_pos h
theorem zacs {kd:Str}{t:Tk}{r:List Tk} (h:t.k≠kd):pTk kd (t :: r)=.bad:=if_neg h
structure TOk (ts:List Tk):Prop where
 h:∀ t∈ts,t.ok
theorem TOk.d {ts:List Tk} (h:TOk ts) {n:Nat}{t:Tk}{r:List Tk} (e:ts.drop n=t :: r):t.ok:=h.h t (List.mem_of_mem_drop (by rw [e]; simp))
theorem FnOk.imp {P:Program}{w:World}{K:PySem.W.Frag}{mg:Str→Option Value}{base:Heap}{k:Nat}{f:Addr}{fd:FuncData}{ps:List Str}{spA spB:Sp} (a:FnOk P w K mg base (CXE P w) k f fd ps spA) (h:∀ vs H Q E,spB vs H Q E→spA vs H Q E):FnOk P w K mg base (CXE P w) k f fd ps spB where
 len:=fun vs H Q E z=>a.len vs H Q E (h vs H Q E z)
 run:=fun A outer s H args us vs Q E hr he hb hv hs=>a.run A outer s H args us vs Q E hr he hb hv (h _ _ _ _ hs)
def spTk5 (C CT:Addr):Sp:=fun vs H Q E=>∃ (y dx:Addr) (ln sp:Nat) (pl:Addr) (ts:List Tk) (ps:List Addr) (kd:Str),vs=[.ref y,.str kd]∧RdAt C H y dx ln sp pl ts ps∧sp≤ts.length∧kd≠Str.ofString "" ∧ Ou CT y H ln ts (pTk kd (ts.drop sp)) E (fun t n H'=>RdAt C H' y dx ln n pl ts ps→Q t.v H')
theorem tk5 {C CT:Addr}:∀ vs H Q E,spTk5 C CT vs H Q E→spTk C vs H Q E∨spTkX C CT vs H Q E:=fun vs H Q E h=>by
 obtain ⟨y,dx,ln,sp,pl,ts,ps,kd,rfl,rd,le,ne,ou⟩:=h
 cases e:ts.drop sp with
 | nil =>
  rw [e] at ou
  refine .inr ⟨y,dx,ln,sp,pl,ts,ps,kd,rfl,rd,le,?_,(ou.bad rfl).d⟩
  unfold kA
  rw [← List.head?_drop,e]
  exact ne.symm
 | cons t r =>
  obtain ⟨e1,e2⟩:=zab2 e
  have l1:=(List.getElem?_eq_some_iff.mp e1).1
  rw [e] at ou
  by_cases z:t.k=kd
  ·exact .inl ⟨y,dx,ln,sp,pl,ts,ps,t,kd,rfl,rd,e1,z.symm,fun H' c r'=>ou.ok t r (sp + 1) H' (zacz z) e2 l1 c r'⟩
  ·refine .inr ⟨y,dx,ln,sp,pl,ts,ps,kd,rfl,rd,le,?_,(ou.bad (zacs z)).d⟩
   unfold kA
   rw [e1]
   exact z
section
variable {P:Program}{w:World}{K:PySem.W.Frag}{mg:Str→Option Value}{base:Heap}{f:Addr}{fd:FuncData}{k:Nat}
theorem glx30m0:AG (defScope (inClass (top 30) 0)) ["pieces_of", "NoText"]:=⟨by decide +kernel⟩
def spRI5 (C CT:Addr):Sp:=fun vs H Q E=>∃ (y dx:Addr) (x:Str) (ln:Nat),vs=[.ref y,.str x,.int (ln:Int)]∧H y=some (.ins C dx [])∧x.length≤20000 ∧
 (∀ ts pl ps H',lexT x.cps.toList=some ts→Ch [y] H H'→H pl=none→RdAt C H' y dx ln 0 pl ts ps→Q .non H')∧(lexT x.cps.toList=none→EX CT [y] H ln E)
theorem zawb {C CT:Addr} (F:Fun K "__init__" "RowReader.__init__" (inClass (top 30) 0) f fd) (cl:Cls K C) (nL:NoAttr K C "line") (nS:NoAttr K C "spot") (nP:NoAttr K C "pieces") (R_NoText:RaiseOk P w K mg base k "NoText" CT "line") (Dpieces_of:DefOk P w K mg base CX0 (k + 1) "pieces_of" ["row"] spPcs5):FnOk P w K mg base (CXE P w) (k + 2) f fd ["self", "text", "line"] (spRI5 C CT):=by
 have nd:=scRI.nd
 refine F.okE scRI (fun vs H Q E h=>by obtain ⟨y,dx,x,ln,rfl,_⟩:=h; rfl) (fun cdv A outer s H vs Q E hr h=>?_)
 obtain ⟨y,dx,x,ln,rfl,hy,lx,q,qn⟩:=h
 have hrm:=hr
 refine ⟨_,(Pr.h (zaad (zaga (qv av30m0 0 rfl) (qv av30m0 2 rfl) rfl) (zaad (zaga (qv av30m0 0 rfl) zaae rfl) (zaad (zaga (qv av30m0 0 rfl) (zaak Dpieces_of hr (glx30m0.g 0 rfl) pass0 (zaaa (qv av30m0 1 rfl) zaac zaag) zaje) rfl) (zaah (zaat (zaam zamf (zacg (qv av30m0 0 rfl) rfl) zacq (nomark _)) (zaah (zach R_NoText hrm (glx30m0.g 1 rfl) (zaaa (qv av30m0 2 rfl) zaac zaag))) zaap)))))),?_⟩
 (try dsimp only [cxOf])
 have bx:Box (x.length≤20000):=⟨lx⟩
 clear lx
 walk_at "rd"
 have c1:Ch [y] H (upd (upd H y (HO.ins C dx (putF "line" (V.int (ln:Int)) []))) y (HO.ins C dx (putF "spot" (V.int 0) (putF "line" (V.int (ln:Int)) [])))):=Ch.put.trans Ch.put
 have y1:(upd (upd H y (HO.ins C dx (putF "line" (V.int (ln:Int)) []))) y (HO.ins C dx (putF "spot" (V.int 0) (putF "line" (V.int (ln:Int)) [])))) y=some (HO.ins C dx (putF "spot" (V.int 0) (putF "line" (V.int (ln:Int)) []))):=zaai
 generalize upd (upd H y (HO.ins C dx (putF "line" (V.int (ln:Int)) []))) y (HO.ins C dx (putF "spot" (V.int 0) (putF "line" (V.int (ln:Int)) [])))=H1 at c1 y1 ⊢
 refine ⟨bx.h,fun ts pl ps H2 le pc=>?_,fun le H2 ch2=>?_⟩
 ·have y2:=pc.ch.get y1 (by simp)
  have n2:pl≠y:=(zaaw y1 pc.f).symm
  walk_at "rd"
  refine ite2 (fun h=>absurd (of_decide_eq_true h) (by intro z; cases z)) (fun _=>?_)
  have cF:Ch [y] H (upd H2 y (HO.ins C dx (fldsR ln 0 pl))):=(c1.trans pc.ch.wk).trans Ch.put
  have f0:H pl=none:=by
   cases e:H pl with
   | none=>rfl
   | some o =>
    have z:=c1.get e (by simpa using n2)
    rw [pc.f] at z; cases z
  have tu:Tu H2 (upd H2 y (HO.ins C dx (fldsR ln 0 pl))):=Tu.ch Ch.put y2 (fun _ z=>by cases z)
  have lt:ts.length≤20000:=by
   obtain ⟨a,b⟩:=zaek _ x.cps.toList (Nat.le_refl _)
   have:=(zaog b le).2
   rw [a,Strl] at this
   have:=bx.h
   omega
  exact q ts pl ps _ le cF f0 ⟨zaai,zafi n2 pc.g,zaal (fun _ _ e=>tu _ _ e) pc.a,lt⟩
 ·have y2:=ch2.get y1 (by simp)
  have ex:=(qn le).ch (c1.trans ch2.wk)
  walk_at "rd"
  rename_i d hd
  exact (ex.ch Ch.put).d d hd
end
end

section
theorem zaed:Str.ofString "name" ≠ "" ∧ Str.ofString "number" ≠ "" ∧ Str.ofString "word" ≠ "" ∧ Str.ofString "(" ≠ "" ∧ Str.ofString ")" ≠ "" ∧ Str.ofString "." ≠ "" ∧ Str.ofString ":" ≠ "" := by decide +kernel
theorem sg_k:∀ s∈SIGS,s≠Str.ofString "name" ∧ s≠Str.ofString "number" ∧ s≠Str.ofString "word" := by decide +kernel
theorem k_sg:∀ s∈SIGS,Str.ofString "name" ≠ s∧Str.ofString "number" ≠ s∧Str.ofString "word" ≠ s:=by decide +kernel
theorem zatn {t:Tk} (o:t.ok) (h:t.k=Str.ofString "name"):∃ x,t=.nm x:=by
 cases t with
 | nm x=>exact ⟨x,rfl⟩
 | wd x=>exact absurd h (by show Str.ofString "word" ≠ _; decide +kernel)
 | nu x=>exact absurd h (by show Str.ofString "number" ≠ _; decide +kernel)
 | sg s=>exact absurd h (sg_k s o).1
theorem zaqk {t:Tk} (o:t.ok) (h:t.k=Str.ofString "number"):∃ x,t=.nu x:=by
 cases t with
 | nu x=>exact ⟨x,rfl⟩
 | wd x=>exact absurd h (by show Str.ofString "word" ≠ _; decide +kernel)
 | nm x=>exact absurd h (by show Str.ofString "name" ≠ _; decide +kernel)
 | sg s=>exact absurd h (sg_k s o).2.1
theorem zawc {t:Tk} (o:t.ok) (h:t.k=Str.ofString "word"):∃ x,t=.wd x:=by
 cases t with
 | wd x=>exact ⟨x,rfl⟩
 | nu x=>exact absurd h (by show Str.ofString "number" ≠ _; decide +kernel)
 | nm x=>exact absurd h (by show Str.ofString "name" ≠ _; decide +kernel)
 | sg s=>exact absurd h (sg_k s o).2.2
theorem zaql {t:Tk}{s:Str} (hs:s∈SIGS) (h:t.k=s):t=.sg s:=by
 cases t with
 | wd x=>exact absurd h (k_sg s hs).2.2
 | nu x=>exact absurd h (k_sg s hs).2.1
 | nm x=>exact absurd h (k_sg s hs).1
 | sg x=>exact congrArg Tk.sg h
abbrev GE (C y dx:Addr) (ln:Nat) (pl:Addr) (ts:List Tk) (ps:List Addr) (Q:V→Hp→Prop):Ex→Nat→Hp→Prop:=fun e n H'=>RdAt C H' y dx ln n pl ts ps→∀ v,IsE H' e v→Q v H'
theorem zal2 {ts:List Tk}{n:Nat}{t:Tk}{r:List Tk} (h:ts.drop n=t :: r):kA ts n=t.k:=by
 unfold kA
 rw [(zab2 h).1]
theorem zaon {ts:List Tk}{n:Nat} (h:ts.drop n=[]):kA ts n=Str.ofString "" := by
 unfold kA
 rw [← List.head?_drop,h]; rfl
theorem zaxr (l:List Tk):ND l∨∃ r,l=.sg "." :: r:=by
 cases l with
 | nil=>exact .inl fun t h=>by cases h
 | cons t r =>
  by_cases z:t.k=Str.ofString "."
  ·exact .inr ⟨r,by rw [zaql zacd.2.2.1 z]⟩
  ·exact .inl fun t' h=>by
    have:t=t':=by simpa using h
    rw [← this]; exact z
theorem zabs {ts:List Tk}{n:Nat}{t:Tk}{r:List Tk} (h:ts.drop n=t :: r):n + 1≤ts.length:=(List.getElem?_eq_some_iff.mp (zab2 h).1).1
section
variable {P:Program}{w:World}{K:PySem.W.Frag}{mg:Str→Option Value}{base:Heap}{f:Addr}{fd:FuncData}{k:Nat}
def spTN5 (C CT:Addr):Sp:=fun vs H Q E=>∃ (y dx:Addr) (ln sp:Nat) (pl:Addr) (ts:List Tk) (ps:List Addr) (x:Str) (l:List Tk),vs=[.ref y]∧RdAt C H y dx ln sp pl ts ps∧ts.drop sp=.nm x :: l∧TOk ts∧Ou CT y H ln ts (pNm x l) E (GE C y dx ln pl ts ps Q)
theorem zawd {C CT:Addr} (F:Fun K "take_named" "RowReader.take_named" (inClass (top 30) 4) f fd) (cl:Cls K C) (MRowReader_kind_ahead:MethOk P w K mg base CX0 k C "kind_ahead" ["self"] (spKA C)) (MRowReader_take:MethOk P w K mg base (CXE P w) k C "take" ["self", "kind"] (spTk5 C CT)):FnOk P w K mg base (CXE P w) (k + 1) f fd ["self"] (spTN5 C CT):=by
 have nd:=scTN.nd
 refine F.okE scTN (fun vs H Q E h=>by obtain ⟨y,dx,ln,sp,pl,ts,ps,x,l,rfl,_⟩:=h; rfl) (fun cdv A outer s H vs Q E hr h=>?_)
 obtain ⟨y,dx,ln,sp,pl,ts,ps,x,l,rfl,rd,ed,tok,ou⟩:=h
 have hrm:=hr
 refine ⟨_,(Pr.h (zaad (zaan (i:=1) nd rfl (av30m4.l 1 rfl) (zabq (qv av30m4 0 rfl) MRowReader_take hr passE (zaaa zaaf zaac zaab))) (zaad (zaat (zaam zahk (zabk (qv av30m4 0 rfl) MRowReader_kind_ahead hr pass0) zaaf (nomark _)) (zaah (zaao (zabl (zaaa zaaf (zaaa (qv av30m4 1 rfl) zaac zaag) zaab)))) zaap) (zaad (zaa7 (zabq (qv av30m4 0 rfl) MRowReader_take hr passE (zaaa zaaf zaac zaab))) (zaah (zaao (zabl (zaaa zaaf (zaaa (qv av30m4 1 rfl) (zaaa (zabq (qv av30m4 0 rfl) MRowReader_take hr passE (zaaa zaaf zaac zaab)) zaac zaaz) zaag) zaab)))))))),?_⟩
 (try dsimp only [cxOf])
 have hy:=rd.ob
 have n1:=zaed.1
 have n2:=zaed.2.2.2.2.2.1
 obtain ⟨e1,d1⟩:=zab2 ed
 have l1:=zabs ed
 have l0:sp≤ts.length:=by omega
 walk_at "rd"
 refine zae2 (by rw [ed]; exact zacz rfl) d1 l1 fun H1 c1 rd1=>?_
 have hy1:=rd1.ob
 rcases zaxr l with ndr | ⟨l2,rfl⟩
 ·have nk:=zaxa (ts:=ts) (n:=sp + 1) (by rw [d1]; exact ndr)
  walk_at "rd"
  refine ite2 (fun _=>?_) (fun h=>absurd (show (!decide (V.str (kA ts (sp + 1))=V.str "."))=true by rw [decide_eq_false (fun z=>nk (V.str.inj z))]; rfl) h)
  walk_at "rd"
  rename_i T hT
  exact ou.ok _ _ _ _ (zarh ndr) d1 l1 (c1.trans (Ch.new hT _)) (rd1.ch (Ch.new hT _)) _ ⟨T,rfl,zaai⟩
 ·have k2:kA ts (sp + 1) = "." := zal2 d1
  walk_at "rd"
  rw [k2]
  refine ite2 (fun h=>absurd h (by rw [decide_eq_true rfl]; decide)) (fun _=>?_)
  obtain ⟨_,d2⟩:=zab2 d1
  have l2':=zabs d1
  walk_at "rd"
  refine zae2 (by rw [d1]; exact zacz rfl) d2 l2' fun H2 c2 rd2=>?_
  have hy2:=rd2.ob
  walk_at "rd"
  cases l2 with
  | nil=>exact zace (by rw [d2]; rfl) ((ou.bad (by simp [pNm])).ch (c1.trans c2))
  | cons t l3 =>
   by_cases z:t.k=Str.ofString "name"
   ·obtain ⟨x2,rfl⟩:=zatn (tok.d d2) z
    obtain ⟨_,d3⟩:=zab2 d2
    refine zae2 (by rw [d2]; exact zacz rfl) d3 (zabs d2) fun H3 c3 rd3=>?_
    walk_at "rd"
    rename_i T hT
    exact ou.ok (.of x x2) l3 _ _ (by simp [pNm]) d3 (zabs d2) (((c1.trans c2).trans c3).trans (Ch.new hT _)) (rd3.ch (Ch.new hT _)) _ ⟨T,rfl,zaai⟩
   ·refine zace (by rw [d2]; exact zacs z) ((ou.bad ?_).ch (c1.trans c2))
    cases t with
    | nm x=>exact absurd rfl z
    | _=>simp [pNm]
end
end

section
theorem zawe:∀ q∈FORMS,q.2.length≤3∧∀ k∈q.2,k=Str.ofString "expr" ∨ k=Str.ofString "number" := by decide +kernel
theorem zake {p:Pt} (h:p.k=Str.ofString "expr"):∃ e,p=.ex e:=by
 cases p with
 | ex e=>exact ⟨e,rfl⟩
 | nu n=>exact absurd h zaqh
theorem zawf {p:Pt} (h:p.k=Str.ofString "number"):∃ e,p=.nu e:=by
 cases p with
 | nu e=>exact ⟨e,rfl⟩
 | ex n=>exact absurd h.symm zaqh
theorem pmap1 {ps:List Pt}{a:Str} (h:ps.map Pt.k=[a]):∃ p,ps=[p]∧p.k=a:=by
 match ps,h with
 | [p],h=>exact ⟨p,rfl,by simpa using h⟩
theorem pmap2 {ps:List Pt}{a b:Str} (h:ps.map Pt.k=[a,b]):∃ p q,ps=[p,q]∧p.k=a∧q.k=b:=by
 match ps,h with
 | [p,q],h=>exact ⟨p,q,rfl,by simpa using h⟩
theorem pmap3 {ps:List Pt}{a b c:Str} (h:ps.map Pt.k=[a,b,c]):∃ p q r,ps=[p,q,r]∧p.k=a∧q.k=b∧r.k=c:=by
 match ps,h with
 | [p,q,r],h=>exact ⟨p,q,r,rfl,by simpa using h⟩
theorem zaxs {H:Hp}{T:Addr}{w:Str}{acc:List Pt}{vs:List V} (f:(w,acc.map Pt.k)∈FORMS) (h:H T=some (.tup (.str w :: vs))) (p:Paired (Pt.At H) acc vs):IsE H (mkE w acc) (.ref T):=by
 have two:acc.map Pt.k=[Str.ofString "expr",Str.ofString "expr"]→IsE H (mkE w acc) (.ref T):=fun e=>by
  obtain ⟨p1,p2,rfl,h1,h2⟩:=pmap2 e
  obtain ⟨a,rfl⟩:=zake h1
  obtain ⟨b,rfl⟩:=zake h2
  cases p with
  | cons i1 p=>cases p with
   | cons i2 p=>cases p; exact ⟨T,_,_,rfl,h,i1,i2⟩
 simp only [FORMS,List.mem_cons,List.not_mem_nil,or_false,Prod.mk.injEq] at f
 rcases f with ⟨rfl,e⟩ | ⟨rfl,e⟩ | ⟨rfl,e⟩ | ⟨rfl,e⟩ | ⟨rfl,e⟩ | ⟨rfl,e⟩ | ⟨rfl,e⟩ | ⟨rfl,e⟩ | ⟨rfl,e⟩ | ⟨rfl,e⟩
 ·obtain ⟨p1,rfl,h1⟩:=pmap1 e
  obtain ⟨a,rfl⟩:=zake h1
  cases p with
  | cons i1 p=>cases p; exact ⟨T,_,rfl,h,i1⟩
 ·exact two e
 ·exact two e
 ·exact two e
 ·exact two e
 ·exact two e
 ·exact two e
 ·obtain ⟨p1,p2,p3,rfl,h1,h2,h3⟩:=pmap3 e
  obtain ⟨a,rfl⟩:=zake h1
  obtain ⟨b,rfl⟩:=zake h2
  obtain ⟨c,rfl⟩:=zake h3
  cases p with
  | cons i1 p=>cases p with
   | cons i2 p=>cases p with
    | cons i3 p=>cases p; exact ⟨T,_,_,_,rfl,h,i1,i2,i3⟩
 ·obtain ⟨p1,p2,p3,rfl,h1,h2,h3⟩:=pmap3 e
  obtain ⟨a,rfl⟩:=zake h1
  obtain ⟨b,rfl⟩:=zawf h2
  obtain ⟨c,rfl⟩:=zawf h3
  cases p with
  | cons i1 p=>cases p with
   | cons i2 p=>cases p with
    | cons i3 p =>
     cases p
     have i2:_=V.int b:=i2
     have i3:_=V.int c:=i3
     subst i2 i3
     exact ⟨T,_,rfl,h,i1⟩
 ·exact two e
structure EF (K:PySem.W.Frag) (T:List (Str × List Str)) (ek:List (Key × V)):Prop where
 y:∀ w ks,formOf T w=some ks→∃ q,valV ek (Sum.inr w)=some (.ref q)∧∀ H:Hp,SqT K H q (ks.map V.str)
 n:∀ w,formOf T w=none→valV ek (Sum.inr w)=none
section
variable {P:Program}{w:World}{K:PySem.W.Frag}{mg:Str→Option Value}{base:Heap}{f:Addr}{fd:FuncData}{k:Nat}
local macro_rules | `(tactic| walk_at "user")=>`(tactic| (refine Or.inr ?_; assumption))
theorem glx30m5:AG (defScope (inClass (top 30) 5)) ["EXPR_FORMS", "NoText", "tuple"]:=⟨by decide +kernel⟩
def spTE5 (C CT:Addr) (N:Nat):Sp:=fun vs H Q E=>∃ (y dx:Addr) (ln sp:Nat) (pl:Addr) (ts:List Tk) (ps:List Addr),vs=[.ref y]∧RdAt C H y dx ln sp pl ts ps∧sp≤ts.length∧TOk ts∧Ou CT y H ln ts (pE N (ts.drop sp)) E (GE C y dx ln pl ts ps Q)
def spTB5 (C CT:Addr) (N:Nat):Sp:=fun vs H Q E=>∃ (y dx:Addr) (ln sp:Nat) (pl:Addr) (ts:List Tk) (ps:List Addr),vs=[.ref y]∧RdAt C H y dx ln sp pl ts ps∧sp≤ts.length∧TOk ts∧Ou CT y H ln ts (pBr (pE N) (ts.drop sp)) E (GE C y dx ln pl ts ps Q)
theorem zawg {C CT ea:Addr}{ek:List (Key × V)}{N:Nat} (F:Fun K "take_bracket" "RowReader.take_bracket" (inClass (top 30) 5) f fd) (cl:Cls K C) (nL:NoAttr K C "line") (R_NoText:RaiseOk P w K mg base k "NoText" CT "line") (MRowReader_take:MethOk P w K mg base (CXE P w) (k + 1) C "take" ["self", "kind"] (spTk5 C CT)) (MRowReader_take_expr:MethOk P w K mg base (CXE P w) (k + 1) C "take_expr" ["self"] (spTE5 C CT N))
  (m_EXPR_FORMS:mg "EXPR_FORMS" = some (.ref ea)) (hKD:KD P w K ea ek) (hF:EF K FORMS ek) (z_tuple:mg "tuple" = none):FnOk P w K mg base (CXE P w) (k + 2) f fd ["self"] (spTB5 C CT N):=by
 have nd:=scTB.nd
 refine F.okE scTB (fun vs H Q E h=>by obtain ⟨y,dx,ln,sp,pl,ts,ps,rfl,_⟩:=h; rfl) (fun cdv A outer s H vs Q E hr h=>?_)
 obtain ⟨y,dx,ln,sp,pl,ts,ps,rfl,rd,l0,tok,ou⟩:=h
 have hrm:=hr
 refine ⟨_,(Pr.h (zaad (zaa7 (zabq (qv av30m5 0 rfl) MRowReader_take hr passE (zaaa zaaf zaac zaab))) (zaad (zaan (i:=1) nd rfl (av30m5.l 1 rfl) (zabq (qv av30m5 0 rfl) MRowReader_take hr passE (zaaa zaaf zaac zaab))) (zaad (zaat (zaam zaet (qv av30m5 1 rfl) (zabh (v:=.ref _) (glx30m5.g 0 rfl) m_EXPR_FORMS rfl zadh) rfl) (zaah (zach R_NoText hrm (glx30m5.g 1 rfl) (zaaa (zacg (qv av30m5 0 rfl) rfl) zaac zacj))) zaap) (zaad (zaan (i:=2) nd rfl (av30m5.l 2 rfl) (zaay (zaaa (qv av30m5 1 rfl) zaac zaag))) (zaad (zab7 powE rfl (zae8 (zamy (zabh (v:=.ref _) (glx30m5.g 0 rfl) m_EXPR_FORMS rfl zadh) (qv av30m5 1 rfl) (fun _ _=>rfl))) (zabc (i:=3) nd rfl (av30m5.l 3 rfl)) (zaah (zaa7 (zabz PySem.F.plainAttrs_list PySem.F.slot_list_append PySem.F.type_list_append zaby (qv av30m5 2 rfl) (zaaa (zamx (zaam zabp (qv av30m5 3 rfl) zaaf (nomark _)) (zabk (qv av30m5 0 rfl) MRowReader_take_expr hr passE) (zabq (qv av30m5 0 rfl) MRowReader_take hr passE (zaaa (qv av30m5 3 rfl) zaac zaag))) zaac zapq))))) (zaad (zaa7 (zabq (qv av30m5 0 rfl) MRowReader_take hr passE (zaaa zaaf zaac zaab))) (zaah (zaao (zaba zabv (glx30m5.g 2 rfl) z_tuple zacm (zaaa (qv av30m5 2 rfl) zaac zaag) zacn zaco)))))))))),?_⟩
 (try dsimp only [cxOf])
 have hy:=rd.ob
 have f1:=fun sp=>@fr_l ln sp pl
 have n1:=zaed.2.2.2.1
 have n2:=zaed.2.2.1
 have n3:=zaed.2.2.2.2.1
 have n4:=zaed.2.1
 walk_at "rd"
 cases e0:ts.drop sp with
 | nil=>exact zace rfl (ou.bad (by rw [e0]; rfl))
 | cons t l1 =>
 by_cases z:t.k=Str.ofString "("
 rotate_left
 ·refine zace (zacs z) (ou.bad ?_)
  rw [e0]
  cases t with
  | sg s =>
   cases l1 with
   | nil=>rfl
   | cons t2 l1=>cases t2 with
    | wd w=>exact if_neg z
    | _=>rfl
  | _=>rfl
 have et:=zaql zacd.1 z
 subst et
 obtain ⟨_,d1⟩:=zab2 e0
 have l1':=zabs e0
 refine zae2 (zacz rfl) d1 l1' fun H1 c1 rd1=>?_
 have hy1:=rd1.ob
 walk_at "rd"
 cases l1 with
 | nil=>exact zace (by rw [d1]; rfl) ((ou.bad (by rw [e0]; rfl)).ch c1)
 | cons t l2 =>
 by_cases z2:t.k=Str.ofString "word"
 rotate_left
 ·refine zace (by rw [d1]; exact zacs z2) ((ou.bad ?_).ch c1)
  rw [e0]
  cases t with
  | wd x=>exact absurd rfl z2
  | _=>rfl
 obtain ⟨wd,rfl⟩:=zawc (tok.d d1) z2
 obtain ⟨_,d2⟩:=zab2 d1
 have l2':=zabs d1
 refine zae2 (by rw [d1]; exact zacz rfl) d2 l2' fun H2 c2 rd2=>?_
 have hy2:=rd2.ob
 have eR:pBr (pE N) (ts.drop sp)=pFo (pE N) wd l2 (formOf FORMS wd):=by rw [e0]; simp [pBr]
 rw [eR] at ou
 walk_at "rd"
 cases ef:formOf FORMS wd with
 | none =>
  have hv:=hF.n wd ef
  rw [ef] at ou
  have ex:=(ou.bad rfl).ch (c1.trans c2)
  rw [hv]
  refine ite2 (fun _=>?_) (fun h=>absurd rfl h)
  walk_at "rd"
  rename_i d hd
  exact ex.d d hd
 | some ks =>
 obtain ⟨qf,hv,hq⟩:=hF.y wd ks ef
 refine ite2 (fun h=>absurd h (by rw [hv]; exact Bool.false_ne_true)) (fun _=>?_)
 rw [ef] at ou
 have fk:ks.length≤3∧∀ k∈ks,k=Str.ofString "expr" ∨ k=Str.ofString "number" := zawe _ (zadw ef)
 have l3:=fk.1
 have fks:=fk.2
 walk_at "rd"
 rename_i pq hpq
 have npq:pl≠pq:=zaaw rd2.pl hpq
 have fpq:H pq=none:=by
  cases e:H pq with
  | none=>rfl
  | some o =>
   have ny:pq≠y:=fun z=>by rw [z,hy2] at hpq; cases hpq
   rw [c2.get (c1.get e (by simpa using ny)) (by simpa using ny)] at hpq; cases hpq
 refine zaeq (xs:=ks.map V.str) (fun i σ H'=>∃ (u3:Option V) (vs:List V) (acc:List Pt) (n:Nat),σ=[some (.ref y),some (.str wd),some (.ref pq),u3]∧H' pq=some (.lst (.str wd :: vs))∧Paired (Pt.At H') acc vs∧acc.map Pt.k=ks.take i∧n≤ts.length∧RdAt C H' y dx ln n pl ts ps∧Ch [y] H H'∧pPs (pE N) ks [] l2=pPs (pE N) (ks.drop i) acc (ts.drop n)) ⟨_,[],[],sp + 1 + 1,rfl,zaai,.nil,rfl,l2',rd2.ch (Ch.new hpq _),(c1.trans c2).trans (Ch.new hpq _),by rw [d2]; rfl⟩ ?_ ?_ ?_
 ·rintro i σ H' hi ⟨u3,vs,acc,n,rfl,_⟩
  exact hq _
 ·clear rd rd1 rd2 hy hy1 hy2 c1 c2 hpq
  rintro i z σ H' hz ⟨u3,vs,acc,n,rfl,g,pv,ak,le,rd,ch,ep⟩
  rw [List.getElem?_map] at hz
  obtain ⟨kd,hk,rfl⟩:=Option.map_eq_some_iff.mp hz
  have hi3:i < 3:=by have:=(List.getElem?_eq_some_iff.mp hk).1; omega
  have dk:ks.drop i=kd :: ks.drop (i + 1):=by
   have:=List.getElem?_eq_some_iff.mp hk
   rw [← this.2,← List.drop_eq_getElem_cons this.1]
  have et:ks.take (i + 1)=ks.take i++[kd]:=by rw [List.take_add_one,hk]; rfl
  rw [dk] at ep
  have lv:=Paired.length pv
  have la:=congrArg List.length ak
  rw [List.length_map,List.length_take] at la
  have lq:(V.str wd :: vs).length≤10:=by rw [List.length_cons]; omega
  have hy:=rd.ob
  have eR2:∀ X,pPs (pE N) (kd :: ks.drop (i + 1)) acc (ts.drop n)=X→pFo (pE N) wd l2 (some ks)=(match X with
   | .ok ps r=>pCl wd ps r
   | .bad=>.bad
   | .st=>.st):=fun X hX=>by
   rw [← hX,← ep]; rfl
  rcases fks kd (List.mem_of_getElem? hk) with rfl | rfl
  ·have eP:pPs (pE N) (Str.ofString "expr" :: ks.drop (i + 1)) acc (ts.drop n)=(match pE N (ts.drop n) with
    | .ok e r=>pPs (pE N) (ks.drop (i + 1)) (acc++[.ex e]) r
    | .bad=>.bad
    | .st=>.st):=if_pos rfl
   walk_at "rd"
   refine ⟨fun z=>?_,fun e r m H3 z d3 l3' c3 rd3 v is3=>?_,fun z=>?_⟩
   ·rw [z] at eP
    exact ou.ns (eR2 _ eP)
   ·rw [z] at eP
    have gp3:H3 pq=some (.lst (.str wd :: vs)):=c3.get g (by have:=zae4 g hy (by intro z; cases z); simpa using this)
    have tu1:Tu H' H3:=Tu.ch c3 hy (fun _ z=>by cases z)
    have tu2:Tu H3 (upd H3 pq (.lst (.str wd :: vs++[v]))):=Tu.lst Ch.put gp3
    have rd4:=rd3.own (zs:=.str wd :: vs++[v]) gp3 npq
    have ep3:=ep.trans eP
    walk_at "rd"
    refine ⟨zaa6 (R:=Pt.At _) (Pt.At.kt (p:=.ex e) tu2 is3) (zaal (fun _ _ e=>Pt.At.kt (tu1.trans tu2) e) pv),by rw [et,List.map_append,ak]; rfl,l3',rd4,Ch.own fpq (ch.trans c3),by rw [d3]; exact ep3⟩
   ·rw [z] at eP
    exact (ou.bad (eR2 _ eP)).ch ch
  ·have eP:pPs (pE N) (Str.ofString "number" :: ks.drop (i + 1)) acc (ts.drop n)=(match ts.drop n with
    | .nu m :: r=>pPs (pE N) (ks.drop (i + 1)) (acc++[.nu m]) r
    | _=>.bad):=if_neg zaqh
   walk_at "rd"
   cases e5:ts.drop n with
   | nil =>
    rw [e5] at eP
    exact zace rfl ((ou.bad (eR2 .bad (by rw [e5,eP]))).ch ch)
   | cons t l5 =>
   by_cases z5:t.k=Str.ofString "number"
   ·obtain ⟨m,rfl⟩:=zaqk (tok.d e5) z5
    obtain ⟨_,d5⟩:=zab2 e5
    refine zae2 (zacz rfl) d5 (zabs e5) fun H3 c3 rd3=>?_
    have gp3:H3 pq=some (.lst (.str wd :: vs)):=c3.get g (by have:=zae4 g hy (by intro z; cases z); simpa using this)
    have tu1:Tu H' H3:=Tu.ch c3 hy (fun _ z=>by cases z)
    have tu2:Tu H3 (upd H3 pq (.lst (.str wd :: vs++[V.int m]))):=Tu.lst Ch.put gp3
    have rd4:=rd3.own (zs:=.str wd :: vs++[V.int m]) gp3 npq
    rw [e5] at eP ep
    have ep3:=ep.trans eP
    walk_at "rd"
    refine ⟨zaa6 (R:=Pt.At _) (show Pt.At _ (.nu m) _ from rfl) (zaal (fun _ _ e=>Pt.At.kt (tu1.trans tu2) e) pv),by rw [et,List.map_append,ak]; rfl,zabs e5,rd4,Ch.own fpq (ch.trans c3),by rw [d5]; exact ep3⟩
   ·refine zace (zacs z5) ((ou.bad (eR2 .bad ?_)).ch ch)
    rw [e5] at eP ⊢
    rw [eP]
    cases t with
    | nu m=>exact absurd rfl z5
    | _=>rfl
 ·rintro σ H' ⟨u3,vs,acc,n,rfl,g,pv,ak,le,rd3,ch,ep⟩
  rw [List.length_map] at ak ep
  rw [List.take_length] at ak
  rw [List.drop_length] at ep
  have eR3:pFo (pE N) wd l2 (some ks)=pCl wd acc (ts.drop n):=by
   show (match pPs (pE N) ks [] l2 with
    | .ok ps r=>pCl wd ps r
    | .bad=>.bad
    | .st=>.st)=_
   rw [ep]; rfl
  rw [eR3] at ou
  have hy3:=rd3.ob
  have lv:=Paired.length pv
  have la:=congrArg List.length ak
  rw [List.length_map] at la
  have lq:(V.str wd :: vs).length≤10:=by rw [List.length_cons]; omega
  walk_at "rd"
  cases e5:ts.drop n with
  | nil=>exact zace rfl ((ou.bad (by rw [e5]; rfl)).ch ch)
  | cons t l5 =>
  by_cases z5:t.k=Str.ofString ")"
  ·have et:=zaql zacd.2.1 z5
   subst et
   obtain ⟨_,d5⟩:=zab2 e5
   refine zae2 (zacz rfl) d5 (zabs e5) fun H4 c4 rd4=>?_
   have g4:H4 pq=some (.lst (.str wd :: vs)):=c4.get g (by have:=zae4 g hy3 (by intro z; cases z); simpa using this)
   walk_at "rd"
   rename_i T hT
   have ty:=Tu.ch c4 hy3 (fun _ z=>by cases z)
   have tT:Tu H4 (upd H4 T (.tup (.str wd :: vs))):=Tu.new _ hT
   exact ou.ok (mkE wd acc) l5 _ _ (by rw [e5]; simp [pCl]) d5 (zabs e5) ((ch.trans c4).trans (Ch.new hT _)) (rd4.ch (Ch.new hT _)) _ (zaxs (by rw [ak]; exact zadw ef) zaai (zaal (fun _ _ e=>Pt.At.kt (ty.trans tT) e) pv))
  ·refine zace (zacs z5) ((ou.bad ?_).ch ch)
   rw [e5]
   cases t with
   | sg s=>exact if_neg z5
   | _=>rfl
theorem zawh {C CT:Addr}{N:Nat} (F:Fun K "take_expr" "RowReader.take_expr" (inClass (top 30) 3) f fd) (cl:Cls K C) (MRowReader_kind_ahead:MethOk P w K mg base CX0 k C "kind_ahead" ["self"] (spKA C)) (MRowReader_take:MethOk P w K mg base (CXE P w) k C "take" ["self", "kind"] (spTk5 C CT)) (MRowReader_take_named:MethOk P w K mg base (CXE P w) k C "take_named" ["self"] (spTN5 C CT)) (MRowReader_take_bracket:MethOk P w K mg base (CXE P w) k C "take_bracket" ["self"] (spTB5 C CT N)):FnOk P w K mg base (CXE P w) (k + 1) f fd ["self"] (spTE5 C CT (N + 1)):=by
 have nd:=scTE.nd
 refine F.okE scTE (fun vs H Q E h=>by obtain ⟨y,dx,ln,sp,pl,ts,ps,rfl,_⟩:=h; rfl) (fun cdv A outer s H vs Q E hr h=>?_)
 obtain ⟨y,dx,ln,sp,pl,ts,ps,rfl,rd,l0,tok,ou⟩:=h
 have hrm:=hr
 refine ⟨_,(Pr.h (zaad (zaan (i:=1) nd rfl (av30m3.l 1 rfl) (zabk (qv av30m3 0 rfl) MRowReader_kind_ahead hr pass0)) (zaad (zaat (zaam zabp (qv av30m3 1 rfl) zaaf (nomark _)) (zaad (zaan (i:=2) nd rfl (av30m3.l 2 rfl) (zabq (qv av30m3 0 rfl) MRowReader_take hr passE (zaaa zaaf zaac zaab))) (zaad (zaa7 (zabq (qv av30m3 0 rfl) MRowReader_take hr passE (zaaa zaaf zaac zaab))) (zaah (zaao (zabl (zaaa zaaf (zaaa (qv av30m3 2 rfl) (zaaa (zabq (qv av30m3 0 rfl) MRowReader_take hr passE (zaaa zaaf zaac zaab)) zaac zaaz) zaag) zaab)))))) zaap) (zaad (zaat (zaam zabp (qv av30m3 1 rfl) zaaf (nomark _)) (zaah (zaao (zabk (qv av30m3 0 rfl) MRowReader_take_named hr passE))) zaap) (zaah (zaao (zabk (qv av30m3 0 rfl) MRowReader_take_bracket hr passE))))))),?_⟩
 (try dsimp only [cxOf])
 have hy:=rd.ob
 have n1:=zaed.2.1
 have n2:=zaed.2.2.2.2.2.2
 have oth:(∀ a l,ts.drop sp≠.nu a :: l)→(∀ x l,ts.drop sp≠.nm x :: l)→pE (N + 1) (ts.drop sp)=pBr (pE N) (ts.drop sp)∧kA ts sp≠Str.ofString "number" ∧ kA ts sp≠Str.ofString "name" := fun h1 h2=>by
  cases e:ts.drop sp with
  | nil=>rw [zaon e]; exact ⟨rfl,Ne.symm zaed.2.1,Ne.symm zaed.1⟩
  | cons t l =>
   rw [zal2 e]
   refine ⟨?_,fun z=>?_,fun z=>?_⟩
   ·cases t with
    | nu a=>exact absurd e (h1 a l)
    | nm x=>exact absurd e (h2 x l)
    | _=>rfl
   ·obtain ⟨a,rfl⟩:=zaqk (tok.d e) z
    exact h1 a l e
   ·obtain ⟨a,rfl⟩:=zatn (tok.d e) z
    exact h2 a l e
 walk_at "rd"
 by_cases h1:∃ a l,ts.drop sp=.nu a :: l
 ·obtain ⟨a,l,e0⟩:=h1
  have ka:kA ts sp = "number" := zal2 e0
  rw [e0] at ou
  have ou:Ou CT y H ln ts (pVl a l) E (GE C y dx ln pl ts ps Q):=ou
  obtain ⟨_,d1⟩:=zab2 e0
  rw [ka]
  refine zavg rfl ?_
  walk_at "rd"
  refine zae2 (by rw [e0]; exact zacz rfl) d1 (zabs e0) fun H1 c1 rd1=>?_
  have hy1:=rd1.ob
  have l1:=zabs e0
  walk_at "rd"
  cases l with
  | nil=>exact zace (by rw [d1]; rfl) ((ou.bad rfl).ch c1)
  | cons t l2 =>
  by_cases z:t.k=Str.ofString ":"
  rotate_left
  ·refine zace (by rw [d1]; exact zacs z) ((ou.bad ?_).ch c1)
   cases t with
   | sg s=>cases l2 with
    | nil=>rfl
    | cons t2 l2=>cases t2 with
     | nu b=>exact if_neg z
     | _=>rfl
   | _=>rfl
  have et:=zaql zacd.2.2.2 z
  subst et
  obtain ⟨_,d2⟩:=zab2 d1
  refine zae2 (by rw [d1]; exact zacz rfl) d2 (zabs d1) fun H2 c2 rd2=>?_
  have hy2:=rd2.ob
  have l2':=zabs d1
  walk_at "rd"
  cases l2 with
  | nil=>exact zace (by rw [d2]; rfl) ((ou.bad rfl).ch (c1.trans c2))
  | cons t l3 =>
  by_cases z:t.k=Str.ofString "number"
  ·obtain ⟨b,rfl⟩:=zaqk (tok.d d2) z
   obtain ⟨_,d3⟩:=zab2 d2
   refine zae2 (by rw [d2]; exact zacz rfl) d3 (zabs d2) fun H3 c3 rd3=>?_
   walk_at "rd"
   rename_i T hT
   exact ou.ok (.val a b) l3 _ _ (by simp [pVl]) d3 (zabs d2) (((c1.trans c2).trans c3).trans (Ch.new hT _)) (rd3.ch (Ch.new hT _)) _ ⟨T,rfl,zaai⟩
  ·refine zace (by rw [d2]; exact zacs z) ((ou.bad ?_).ch (c1.trans c2))
   cases t with
   | nu x=>exact absurd rfl z
   | _=>rfl
 ·by_cases h2:∃ x l,ts.drop sp=.nm x :: l
  ·obtain ⟨x,l,e0⟩:=h2
   have ka:kA ts sp = "name" := zal2 e0
   rw [e0] at ou
   have ou:Ou CT y H ln ts (pNm x l) E (GE C y dx ln pl ts ps Q):=ou
   rw [ka]
   refine zaeh zag1.2.2.2.2.2.2.1 ?_
   walk_at "rd"
  ·obtain ⟨eB,k1,k2⟩:=oth (fun a l e=>h1 ⟨a,l,e⟩) (fun x l e=>h2 ⟨x,l,e⟩)
   rw [eB] at ou
   refine zaeh k1 ?_
   walk_at "rd"
   refine zaeh k2 ?_
   walk_at "rd"
end
end

section
theorem sg_e:∀ s∈SIGS,s≠Str.ofString "" := by decide +kernel
theorem zawi {t:Tk} (o:t.ok):t.k≠Str.ofString "" := by
 cases t with
 | nm _=>exact zaed.1
 | nu _=>exact zaed.2.1
 | wd _=>exact zaed.2.2.1
 | sg s=>exact sg_e s o
theorem zato:∀ q∈RFORMS,q.2.length≤3∧∀ k∈q.2,k=Str.ofString "name" ∨ k=Str.ofString "number" ∨ k=Str.ofString "expr" ∨ k=Str.ofString "exprs" := by decide +kernel
structure Kd (kd:Str):Prop where
 h:kd=Str.ofString "name" ∨ kd=Str.ofString "number" ∨ kd=Str.ofString "expr" ∨ kd=Str.ofString "exprs"
section
variable {P:Program}{w:World}{K:PySem.W.Frag}{mg:Str→Option Value}{base:Heap}{f:Addr}{fd:FuncData}{k:Nat}
local macro_rules | `(tactic| walk_at "user")=>`(tactic| (refine Or.inr ?_; assumption))
theorem glx30m6:AG (defScope (inClass (top 30) 6)) ["tuple"]:=⟨by decide +kernel⟩
def spTR5 (C CT:Addr):Sp:=fun vs H Q E=>∃ (y dx:Addr) (ln sp:Nat) (pl:Addr) (ts:List Tk) (ps:List Addr),vs=[.ref y]∧RdAt C H y dx ln sp pl ts ps∧sp≤ts.length∧TOk ts∧Ou CT y H ln ts (pM (pE 21) (ts.drop sp).length [] (ts.drop sp)) E (fun es n H'=>RdAt C H' y dx ln n pl ts ps→∀ T us,H' T=some (.tup us)→Paired (IsE H') es us→Q (.ref T) H')
theorem zawj {C CT:Addr} (F:Fun K "take_rest" "RowReader.take_rest" (inClass (top 30) 6) f fd) (cl:Cls K C) (MRowReader_kind_ahead:MethOk P w K mg base CX0 k C "kind_ahead" ["self"] (spKA C)) (MRowReader_take_expr:MethOk P w K mg base (CXE P w) k C "take_expr" ["self"] (spTE5 C CT 21)) (z_tuple:mg "tuple" = none):FnOk P w K mg base (CXE P w) (k + 1) f fd ["self"] (spTR5 C CT):=by
 have nd:=scTR.nd
 refine F.okE scTR (fun vs H Q E h=>by obtain ⟨y,dx,ln,sp,pl,ts,ps,rfl,_⟩:=h; rfl) (fun cdv A outer s H vs Q E hr h=>?_)
 obtain ⟨y,dx,ln,sp,pl,ts,ps,rfl,rd,l0,tok,ou⟩:=h
 have hrm:=hr
 refine ⟨_,(Pr.h (zab0 (zaan (i:=1) nd rfl (av30m6.l 1 rfl) (zaay zaac)) (zaad (zaev powE (zaam zahk (zabk (qv av30m6 0 rfl) MRowReader_kind_ahead hr pass0) zaaf (nomark _)) (zaah (zaa7 (zabz PySem.F.plainAttrs_list PySem.F.slot_list_append PySem.F.type_list_append zaby (qv av30m6 1 rfl) (zaaa (zabk (qv av30m6 0 rfl) MRowReader_take_expr hr passE) zaac zaaz))))) (zaah (zaao (zaba zabv (glx30m6.g 0 rfl) z_tuple zacm (zaaa (qv av30m6 1 rfl) zaac zaag) zacn zaco)))))),?_⟩
 (try dsimp only [cxOf])
 have hy:=rd.ob
 refine zacw (fun σ H'=>∃ pq,σ=[some (.ref y),some (.ref pq)]∧Ch [] H H'∧H pq=none∧H' pq=some (.lst [])) ?_ ?_
 ·walk_at "rd"
 rintro σ H1 ⟨pq,rfl,c1,fpq,gpq⟩
 have npq:pl≠pq:=zaaw rd.pl fpq
 have lM:(ts.drop sp).length≤20000:=by have:=rd.le; rw [List.length_drop]; omega
 generalize (ts.drop sp).length=M at ou lM
 refine ⟨(fun m σ H'=>∃ (acc:List Ex) (us:List V) (n:Nat),σ=[some (.ref y),some (.ref pq)]∧Ch [y] H H'∧n≤ts.length∧RdAt C H' y dx ln n pl ts ps∧H' pq=some (.lst us)∧Paired (IsE H') acc us∧acc.length + m=M∧pM (pE 21) M [] (ts.drop sp)=pM (pE 21) m acc (ts.drop n)),⟨M,[],[],sp,rfl,c1.wk,l0,rd.ch c1,gpq,.nil,Nat.zero_add _,rfl⟩,?_⟩
 rintro m σ H' ⟨acc,us,n,rfl,ch,le,rd2,g,pv,am,ep⟩
 rw [ep] at ou
 have hy2:=rd2.ob
 have lu:=Paired.length pv
 cases e0:ts.drop n with
 | nil =>
  have k0:=zaon e0
  have eR:pM (pE 21) m acc (ts.drop n)=.ok acc []:=by rw [e0]; cases m <;> rfl
  have lu2:us.length≤20000:=by omega
  walk_at "rd"
  rw [k0]
  refine ite2 (fun h=>absurd h (by rw [decide_eq_true rfl]; decide)) (fun _=>?_)
  walk_at "rd"
  rename_i T hT
  exact ou.ok acc [] n _ eR e0 le (ch.trans (Ch.new hT _)) (rd2.ch (Ch.new hT _)) T us zaai (zaal (fun _ _ e=>IsE.kt (Tu.new _ hT) e) pv)
 | cons t r =>
  have k0:=zal2 e0
  have nt:=zawi (tok.d e0)
  cases m with
  | zero=>exact absurd (by rw [e0]; rfl) ou.ns
  | succ m =>
  have eP:pM (pE 21) (m + 1) acc (ts.drop n)=(match pE 21 (ts.drop n) with
   | .ok e r=>pM (pE 21) m (acc++[e]) r
   | .bad=>.bad
   | .st=>.st):=by rw [e0]; rfl
  have lu2:us.length≤20000:=by omega
  walk_at "rd"
  rw [k0]
  refine ite2 (fun _=>?_) (fun h=>absurd (show (!decide (V.str t.k=V.str ""))=true by rw [decide_eq_false (fun z=>nt (V.str.inj z))]; rfl) h)
  refine ⟨_,fun σ' H' z=>z,?_⟩
  walk_at "rd"
  refine ⟨fun z=>ou.ns (by rw [eP,z]),fun e r3 n3 H3 z d3 l3 c3 rd3 v is3=>?_,fun z=>(ou.bad (by rw [eP,z])).ch ch⟩
  rw [z] at eP
  have g3:H3 pq=some (.lst us):=c3.get g (by have:=zae4 g hy2 (by intro z; cases z); simpa using this)
  have tu1:Tu H' H3:=Tu.ch c3 hy2 (fun _ z=>by cases z)
  have tu2:Tu H3 (upd H3 pq (.lst (us++[v]))):=Tu.lst Ch.put g3
  walk_at "rd"
  exact ⟨Nat.lt_succ_self m,acc++[e],us++[v],n3,rfl,Ch.own fpq (ch.trans c3),l3,rd3.own (zs:=us++[v]) g3 npq,zaai,zaa6 (R:=IsE _) (IsE.kt tu2 is3) (zaal (fun _ _ z=>IsE.kt (tu1.trans tu2) z) pv),by rw [List.length_append,List.length_singleton]; omega,by rw [ep,eP,d3]⟩
def spTP5 (C CT:Addr):Sp:=fun vs H Q E=>∃ (y dx:Addr) (ln sp:Nat) (pl:Addr) (ts:List Tk) (ps:List Addr) (kd:Str),vs=[.ref y,.str kd]∧RdAt C H y dx ln sp pl ts ps∧sp≤ts.length∧TOk ts∧Kd kd∧Ou CT y H ln ts (pPt kd (ts.drop sp)) E (fun p n H'=>RdAt C H' y dx ln n pl ts ps→∀ v,p.At H' v→Q v H')
theorem zawk {C CT:Addr} (F:Fun K "take_part" "RowReader.take_part" (inClass (top 30) 7) f fd) (cl:Cls K C) (MRowReader_take:MethOk P w K mg base (CXE P w) k C "take" ["self", "kind"] (spTk5 C CT)) (MRowReader_take_expr:MethOk P w K mg base (CXE P w) k C "take_expr" ["self"] (spTE5 C CT 21)) (MRowReader_take_rest:MethOk P w K mg base (CXE P w) k C "take_rest" ["self"] (spTR5 C CT)):FnOk P w K mg base (CXE P w) (k + 1) f fd ["self", "kind"] (spTP5 C CT):=by
 have nd:=scTP.nd
 refine F.okE scTP (fun vs H Q E h=>by obtain ⟨y,dx,ln,sp,pl,ts,ps,kd,rfl,_⟩:=h; rfl) (fun cdv A outer s H vs Q E hr h=>?_)
 obtain ⟨y,dx,ln,sp,pl,ts,ps,kd,rfl,rd,l0,tok,hk,ou⟩:=h
 have hrm:=hr
 refine ⟨_,(Pr.h (zaad (zaat (zaam zabp (qv av30m7 1 rfl) zaaf (nomark _)) (zaah (zaao (zabk (qv av30m7 0 rfl) MRowReader_take_expr hr passE))) zaap) (zaad (zaat (zaam zabp (qv av30m7 1 rfl) zaaf (nomark _)) (zaah (zaao (zabk (qv av30m7 0 rfl) MRowReader_take_rest hr passE))) zaap) (zaah (zaao (zabq (qv av30m7 0 rfl) MRowReader_take hr passE (zaaa (qv av30m7 1 rfl) zaac zaag))))))),?_⟩
 (try dsimp only [cxOf])
 have hy:=rd.ob
 have n1:=zaed.1
 have n2:=zaed.2.1
 rcases hk.h with rfl | rfl | rfl | rfl
 ·walk_at "rd"
  by_cases z:∃ x r,ts.drop sp=.nm x :: r
  ·obtain ⟨x,r,e0⟩:=z
   rw [e0] at ou
   refine zae2 (by rw [e0]; exact zacz rfl) (zab2 e0).2 (zabs e0) fun H1 c1 rd1=>?_
   exact ou.ok (.nm x) r _ _ zab6 (zab2 e0).2 (zabs e0) c1 rd1 _ rfl
  ·refine zace ?_ (ou.bad (zaic fun x r e=>z ⟨x,r,e⟩))
   cases e0:ts.drop sp with
   | nil=>rfl
   | cons t r=>exact zacs fun w=>z (by obtain ⟨x,rfl⟩:=zatn (tok.d e0) w; exact ⟨x,r,e0⟩)
 ·walk_at "rd"
  by_cases z:∃ x r,ts.drop sp=.nu x :: r
  ·obtain ⟨x,r,e0⟩:=z
   rw [e0] at ou
   refine zae2 (by rw [e0]; exact zacz rfl) (zab2 e0).2 (zabs e0) fun H1 c1 rd1=>?_
   exact ou.ok (.nu x) r _ _ zadx (zab2 e0).2 (zabs e0) c1 rd1 _ rfl
  ·refine zace ?_ (ou.bad (zagu fun x r e=>z ⟨x,r,e⟩))
   cases e0:ts.drop sp with
   | nil=>rfl
   | cons t r=>exact zacs fun w=>z (by obtain ⟨x,rfl⟩:=zaqk (tok.d e0) w; exact ⟨x,r,e0⟩)
 ·have eP:pPt (Str.ofString "expr") (ts.drop sp)=(match pE 21 (ts.drop sp) with
   | .ok e r=>.ok (.ex e) r
   | .bad=>.bad
   | .st=>.st):=if_pos rfl
  walk_at "rd"
  exact ⟨fun z=>ou.ns (by rw [eP,z]),fun e r n H1 z d l c rd1 v i=>ou.ok (.ex e) r n H1 (by rw [eP,z]) d l c rd1 v i,fun z=>ou.bad (by rw [eP,z])⟩
 ·walk_at "rd"
  refine ⟨fun z=>ou.ns ?_,fun e r n H1 z d l c rd1 T us hT i=>ou.ok (.exs e) r n H1 (zark z) d l c rd1 _ ⟨T,us,rfl,hT,i⟩,fun z=>ou.bad (zakd z)⟩
  unfold pPt
  rw [if_neg (Ne.symm k_ne.2.2.2.2.2),if_pos rfl,z]
def spRow5 (C CT:Addr):Sp:=fun vs H Q E=>∃ (y dx:Addr) (ln:Nat) (pl:Addr) (ts:List Tk) (ps:List Addr),vs=[.ref y]∧RdAt C H y dx ln 0 pl ts ps∧TOk ts∧Ou CT y H ln ts (pRow ts) E (fun r n H'=>∀ T,H T=none→r.At H' T→Q (.ref T) H')
theorem zatp {C CT ra:Addr}{rk:List (Key × V)} (F:Fun K "take_row" "RowReader.take_row" (inClass (top 30) 8) f fd) (cl:Cls K C) (nL:NoAttr K C "line") (R_NoText:RaiseOk P w K mg base k "NoText" CT "line") (MRowReader_take:MethOk P w K mg base (CXE P w) (k + 1) C "take" ["self", "kind"] (spTk5 C CT)) (MRowReader_kind_ahead:MethOk P w K mg base CX0 (k + 1) C "kind_ahead" ["self"] (spKA C)) (MRowReader_take_part:MethOk P w K mg base (CXE P w) (k + 1) C "take_part" ["self", "kind"] (spTP5 C CT))
  (m_ROW_FORMS:mg "ROW_FORMS" = some (.ref ra)) (hKD:KD P w K ra rk) (hF:EF K RFORMS rk) (z_tuple:mg "tuple" = none):FnOk P w K mg base (CXE P w) (k + 2) f fd ["self"] (spRow5 C CT):=by
 have nd:=scRow.nd
 refine F.okE scRow (fun vs H Q E h=>by obtain ⟨y,dx,ln,pl,ts,ps,rfl,_⟩:=h; rfl) (fun cdv A outer s H vs Q E hr h=>?_)
 obtain ⟨y,dx,ln,pl,ts,ps,rfl,rd,tok,ou⟩:=h
 have hrm:=hr
 refine ⟨_,(Pr.h (zaad (zaan (i:=1) nd rfl (av30m8.l 1 rfl) (zabq (qv av30m8 0 rfl) MRowReader_take hr passE (zaaa zaaf zaac zaab))) (zaad (zaat (zaam zaet (qv av30m8 1 rfl) (zabh (v:=.ref _) (glx30m8.g 0 rfl) m_ROW_FORMS rfl zadu) rfl) (zaah (zach R_NoText hrm (glx30m8.g 1 rfl) (zaaa (zacg (qv av30m8 0 rfl) rfl) zaac zacj))) zaap) (zaad (zaan (i:=2) nd rfl (av30m8.l 2 rfl) (zaay (zaaa (qv av30m8 1 rfl) zaac zaag))) (zaad (zab7 powE rfl (zae8 (zamy (zabh (v:=.ref _) (glx30m8.g 0 rfl) m_ROW_FORMS rfl zadu) (qv av30m8 1 rfl) (fun _ _=>rfl))) (zabc (i:=3) nd rfl (av30m8.l 3 rfl)) (zaah (zaa7 (zabz PySem.F.plainAttrs_list PySem.F.slot_list_append PySem.F.type_list_append zaby (qv av30m8 2 rfl) (zaaa (zabq (qv av30m8 0 rfl) MRowReader_take_part hr passE (zaaa (qv av30m8 3 rfl) zaac zaag)) zaac zaaz))))) (zaad (zaat (zaam zahk (zabk (qv av30m8 0 rfl) MRowReader_kind_ahead hr pass0) zaaf (nomark _)) (zaah (zach R_NoText hrm (glx30m8.g 1 rfl) (zaaa (zacg (qv av30m8 0 rfl) rfl) zaac zacj))) zaap) (zaah (zaao (zaba zabv (glx30m8.g 2 rfl) z_tuple zacm (zaaa (qv av30m8 2 rfl) zaac zaag) zacn zaco))))))))),?_⟩
 (try dsimp only [cxOf])
 have hy:=rd.ob
 have f1:=fun sp=>@fr_l ln sp pl
 have n1:=zaed.2.2.1
 walk_at "rd"
 cases ts with
 | nil=>exact zace rfl (ou.bad rfl)
 | cons t l =>
 by_cases z2:t.k=Str.ofString "word"
 rotate_left
 ·refine zace (zacs z2) (ou.bad ?_)
  cases t with
  | wd x=>exact absurd rfl z2
  | _=>rfl
 obtain ⟨wd,rfl⟩:=zawc (tok.h t (by simp)) z2
 have d1:(Tk.wd wd :: l).drop 1=l:=rfl
 have l1:1≤(Tk.wd wd :: l).length:=by simp
 refine zae2 (zacz rfl) d1 l1 fun H1 c1 rd1=>?_
 have hy1:=rd1.ob
 have eR:pRow (.wd wd :: l)=pRo wd l (formOf RFORMS wd):=rfl
 rw [eR] at ou
 generalize hts:Tk.wd wd :: l=ts at *
 walk_at "rd"
 cases ef:formOf RFORMS wd with
 | none =>
  have hv:=hF.n wd ef
  rw [ef] at ou
  have ex:=(ou.bad rfl).ch c1
  rw [hv]
  refine ite2 (fun _=>?_) (fun h=>absurd rfl h)
  walk_at "rd"
  rename_i d hd
  exact ex.d d hd
 | some ks =>
 obtain ⟨qf,hv,hq⟩:=hF.y wd ks ef
 refine ite2 (fun h=>absurd h (by rw [hv]; exact Bool.false_ne_true)) (fun _=>?_)
 rw [ef] at ou
 have ou:Ou CT y H ln ts (pEn wd (pRs ks [] l)) E _:=ou
 have fk:ks.length≤3∧∀ k∈ks,k=Str.ofString "name" ∨ k=Str.ofString "number" ∨ k=Str.ofString "expr" ∨ k=Str.ofString "exprs" := zato _ (zadw ef)
 have l3:=fk.1
 have fks:=fk.2
 walk_at "rd"
 rename_i pq hpq
 have npq:pl≠pq:=zaaw rd1.pl hpq
 have fpq:H pq=none:=by
  cases e:H pq with
  | none=>rfl
  | some o =>
   have ny:pq≠y:=fun z=>by rw [z,hy1] at hpq; cases hpq
   rw [c1.get e (by simpa using ny)] at hpq; cases hpq
 refine zaeq (xs:=ks.map V.str) (fun i σ H'=>∃ (u3:Option V) (vs:List V) (acc:List RP) (n:Nat),σ=[some (.ref y),some (.str wd),some (.ref pq),u3]∧H' pq=some (.lst (.str wd :: vs))∧Paired (RP.At H') acc vs∧acc.length=i∧n≤ts.length∧RdAt C H' y dx ln n pl ts ps∧Ch [y] H H'∧pRs ks [] l=pRs (ks.drop i) acc (ts.drop n)) ⟨_,[],[],1,rfl,zaai,.nil,rfl,l1,rd1.ch (Ch.new hpq _),c1.trans (Ch.new hpq _),by rw [d1]; rfl⟩ ?_ ?_ ?_
 ·rintro i σ H' hi ⟨u3,vs,acc,n,rfl,_⟩
  exact hq _
 ·clear rd rd1 hy hy1 c1 hpq
  rintro i z σ H' hz ⟨u3,vs,acc,n,rfl,g,pv,ak,le,rd,ch,ep⟩
  rw [List.getElem?_map] at hz
  obtain ⟨kd,hk,rfl⟩:=Option.map_eq_some_iff.mp hz
  have hi3:i < 3:=by have:=(List.getElem?_eq_some_iff.mp hk).1; omega
  have dk:ks.drop i=kd :: ks.drop (i + 1):=by
   have:=List.getElem?_eq_some_iff.mp hk
   rw [← this.2,← List.drop_eq_getElem_cons this.1]
  rw [dk] at ep
  have eP:pRs (kd :: ks.drop (i + 1)) acc (ts.drop n)=(match pPt kd (ts.drop n) with
   | .ok p r=>pRs (ks.drop (i + 1)) (acc++[p]) r
   | .bad=>.bad
   | .st=>.st):=rfl
  have ep:=ep.trans eP
  have hkd:Kd kd:=⟨fks kd (List.mem_of_getElem? hk)⟩
  have lv:=Paired.length pv
  have lq:(V.str wd :: vs).length≤10:=by rw [List.length_cons]; omega
  have hy:=rd.ob
  walk_at "rd"
  refine ⟨fun z=>ou.ns (by rw [ep,z]; rfl),fun p r m H3 z d3 l3' c3 rd3 v is3=>?_,fun z=>(ou.bad (by rw [ep,z]; rfl)).ch ch⟩
  rw [z] at ep
  have gp3:H3 pq=some (.lst (.str wd :: vs)):=c3.get g (by have:=zae4 g hy (by intro z; cases z); simpa using this)
  have tu1:Tu H' H3:=Tu.ch c3 hy (fun _ z=>by cases z)
  have tu2:Tu H3 (upd H3 pq (.lst (.str wd :: vs++[v]))):=Tu.lst Ch.put gp3
  have rd4:=rd3.own (zs:=.str wd :: vs++[v]) gp3 npq
  walk_at "rd"
  refine ⟨zaa6 (R:=RP.At _) (RP.At.kt (p:=p) tu2 is3) (zaal (fun _ _ e=>RP.At.kt (tu1.trans tu2) e) pv),by rw [List.length_append,ak]; rfl,l3',rd4,Ch.own fpq (ch.trans c3),by rw [d3]; exact ep⟩
 ·rintro σ H' ⟨u3,vs,acc,n,rfl,g,pv,ak,le,rd3,ch,ep⟩
  rw [List.length_map] at ak ep
  rw [List.drop_length] at ep
  have ep:pRs ks [] l=.ok acc (ts.drop n):=ep
  rw [ep] at ou
  have hy3:=rd3.ob
  have lv:=Paired.length pv
  have lq:(V.str wd :: vs).length≤10:=by rw [List.length_cons]; omega
  walk_at "rd"
  cases e0:ts.drop n with
  | nil =>
   rw [zaon e0]
   rw [e0] at ou
   refine ite2 (fun h=>absurd h (by rw [decide_eq_true rfl]; decide)) (fun _=>?_)
   walk_at "rd"
   rename_i T hT
   have f0:H T=none:=by
    cases e:H T with
    | none=>rfl
    | some o =>
     have ny:T≠y:=fun z=>by rw [z,hy3] at hT; cases hT
     rw [ch.get e (by simpa using ny)] at hT; cases hT
   exact ou.ok ⟨wd,acc⟩ [] n _ rfl e0 le (ch.trans (Ch.new hT _)) T f0 ⟨vs,zaai,zaal (fun _ _ e=>RP.At.kt (Tu.new _ hT) e) pv⟩
  | cons t r =>
   have nt:=zawi (tok.d e0)
   rw [zal2 e0]
   rw [e0] at ou
   have ex:=(ou.bad rfl).ch ch
   refine ite2 (fun _=>?_) (fun h=>absurd (show (!decide (V.str t.k=V.str ""))=true by rw [decide_eq_false (fun z=>nt (V.str.inj z))]; rfl) h)
   walk_at "rd"
   rename_i d hd
   exact ex.d d hd
end
end

section
structure NoR (x:Str):Prop where
 h:lexT x.cps.toList=none∨∃ ts,lexT x.cps.toList=some ts∧pRow ts=.bad
inductive TL5:List Str→Prop
 | no {x:Str}{rest:List Str}:NoR x→x.length≤20000→TL5 (x :: rest)
theorem zarl {x:Str}{r:Rw} (h:Ln x r):TOk r.ts:=⟨fun t ht=>by
 obtain ⟨cs,_,_,ok,e⟩:=h.ex
 rw [← e] at ht
 obtain ⟨c,hc,hd⟩:=List.mem_filterMap.mp ht
 have hd:c=some t:=hd
 exact ok t (by rw [← hd]; exact hc)⟩
theorem zatq {A:List Nat}{ts:List Tk} (h:lexT A=some ts):TOk ts:=⟨(zaog (zaek _ A (Nat.le_refl _)).2 h).1⟩
section
variable {P:Program}{w:World}{K:PySem.W.Frag}{mg:Str→Option Value}{base:Heap}{f:Addr}{fd:FuncData}{k:Nat}
theorem glx31:AG (defScope (top 31)) ["enumerate", "RowReader", "NoText", "Module", "len"]:=⟨by decide +kernel⟩
structure RMin (pre:List Str) (rws:List Rw) (tl:List Str):Prop where
 lr:Paired Ln pre rws
 vp:VP rws
 l1:1≤(pre++tl).length
 l2:(pre++tl).length≤200
 sz:∀ x∈pre++tl,10 ∉ x.cps.toList
 jl:(Str.join "\n" (pre++tl)).length≤2000000
def spRM5 (C CT:Addr):Sp:=fun vs H Q E=>∃ (pre:List Str) (rws:List Rw) (tl:List Str),vs=[.str (Str.join "\n" (pre++tl))]∧RMin pre rws tl ∧
 ((tl=[]∧∃ ms,stM rws=(ms,none)∧∀ ml ps H',Ch [] H H'→H' ml=some (.lst (ps.map V.ref))→Paired (MoAt C H') ms ps→Q (.ref ml) H') ∨
   (TL5 tl∧∀ d H',Ch [] H H'→H' d=some (.xd [("line",.int (pre.length:Int))])→E (.ref CT) (some d) H'))
theorem zarm {C CM CT:Addr} (F:Fun K "read_modules" "read_modules" (top 31) f fd) (MkRowReader:MakeOk P w K mg base (CXE P w) k C "RowReader" ["self", "text", "line"] (spRI5 C CT)) (MRowReader_take_row:MethOk P w K mg base (CXE P w) (k + 1) C "take_row" ["self"] (spRow5 C CT)) (MkModule:MakeOk P w K mg base CX0 k CM "Module" ["self", "name", "rows"] (spMo CM 25)) (R_NoText:RaiseOk P w K mg base k "NoText" CT "line") (z_enumerate:mg "enumerate" = none) (z_len:mg "len" = none):FnOk P w K mg base (CXE P w) (k + 2) f fd ["text"] (spRM5 CM CT):=by
 have nd:=scRM.nd
 refine F.okE scRM (fun vs H Q E h=>by obtain ⟨pre,rws,tl,rfl,_⟩:=h; rfl) (fun cdv A outer s H vs Q E hr h=>?_)
 obtain ⟨pre,rws,tl,rfl,⟨lr,vp,l1,l200,n10,jl⟩,q⟩:=h
 have hrm:=hr
 refine ⟨_,(Pr.h (zaad (zaan (i:=1) nd rfl (av31.l 1 rfl) (zaay zaac)) (zaad (zaan (i:=2) nd rfl (av31.l 2 rfl) zacq) (zaad (zaan (i:=3) nd rfl (av31.l 3 rfl) (zaay zaac)) (zaad (zaan (i:=4) nd rfl (av31.l 4 rfl) (zabz PySem.F.plainAttrs_str PySem.F.slot_str_split PySem.F.type_str_split zahn (qv av31 0 rfl) (zaaa zaaf zaac zaab))) (zaad (zab7 powE rfl (zapv .list (glx31.g 0 rfl) z_enumerate (zaaa (qv av31 4 rfl) zaac zaag)) (zajw rfl (zac5 (zabc (i:=5) nd rfl (av31.l 5 rfl)) (zac5 (zabc (i:=6) nd rfl (av31.l 6 rfl)) zahp))) (zaad (zaan (i:=7) nd rfl (av31.l 7 rfl) (zabk (zai2 MkRowReader hrm (glx31.g 1 rfl) passE (zaaa (qv av31 6 rfl) (zaaa (qv av31 5 rfl) zaac zaag) zaag) zajg) MRowReader_take_row hr passE)) (zaad (zaat (zaam zahk (zadb zabp (zaar zabw (qv av31 7 rfl) zaae (fun _ _=>rfl)) zaaf (nomark _)) (zadb zamf (qv av31 2 rfl) zacq (nomark _)) (nomark _)) (zaah (zach R_NoText hrm (glx31.g 2 rfl) (zaaa (qv av31 5 rfl) zaac zaag))) zaap) (zaah (zaat (zaam zabp (zaar zabw (qv av31 7 rfl) zaae (fun _ _=>rfl)) zaaf (nomark _)) (zaad (zaan (i:=2) nd rfl (av31.l 2 rfl) (zaar zabw (qv av31 7 rfl) zaae (fun _ _=>rfl))) (zaah (zaan (i:=3) nd rfl (av31.l 3 rfl) (zaay zaac)))) (zaah (zaat (zaam zabp (zaar zabw (qv av31 7 rfl) zaae (fun _ _=>rfl)) zaaf (nomark _)) (zaad (zaa7 (zabz PySem.F.plainAttrs_list PySem.F.slot_list_append PySem.F.type_list_append zaby (qv av31 1 rfl) (zaaa (zai2 MkModule hrm (glx31.g 3 rfl) pass0 (zaaa (qv av31 2 rfl) (zaaa (qv av31 3 rfl) zaac zaag) zaag) zanu) zaac zaaz))) (zaah (zaan (i:=2) nd rfl (av31.l 2 rfl) zacq))) (zaah (zaa7 (zabz PySem.F.plainAttrs_list PySem.F.slot_list_append PySem.F.type_list_append zaby (qv av31 3 rfl) (zaaa (qv av31 7 rfl) zaac zaag))))))))))) (zaad (zaat (zaam zarz (qv av31 2 rfl) zacq (nomark _)) (zaah (zach R_NoText hrm (glx31.g 2 rfl) (zaaa (zaas zaa2 (glx31.g 4 rfl) z_len PySem.boot_len (zaaa (qv av31 4 rfl) zaac zaag) zab3 zab4) zaac zaaz))) zaap) (zaah (zaao (qv av31 1 rfl)))))))))),?_⟩
 (try dsimp only [cxOf])
 have sz:(Str.join "\n" (pre++tl)).length + 2≤sizeLine:=by rw [sizeLine_eq]; omega
 have nl:(Str.ofString "\n").length≠0:=by decide +kernel
 walk_at "rd"
 rename_i ml hml rl0 hrl0 ll hll
 have l10:Str.ofString "\n" = ⟨#[10]⟩:=by decide +kernel
 have ell:Txt.split (Str.join "\n" (pre++tl)) "\n" = pre++tl:=by
  rw [l10]
  exact zaj7 10 _ (fun z=>by rw [z] at l1; simp at l1) n10
 rw [ell]
 generalize els:pre++tl=ls at l1 l200 n10 jl sz ell ⊢
 have m0:LM CM H (upd (upd (upd H ml (.lst [])) rl0 (.lst [])) ll (.lst (ls.map V.str))) ml ll ls 0 .non (.ref rl0) ([],none) :=
  ⟨((Ch.new hml _).trans (Ch.new hrl0 _)).trans (Ch.new hll _),hml,zaai,(fun z=>by rw [z] at hll; rw [zaep hrl0 zaai] at hll; cases hll),⟨[],zaep hll (zaep hrl0 zaai),.nil⟩,fun _=>rfl,fun m z=>(by cases z),Nat.le_refl _,fun m z=>(by cases z)⟩
 generalize upd (upd (upd H ml (.lst [])) rl0 (.lst [])) ll (.lst (ls.map V.str))=H1 at m0 ⊢
 clear hrl0 hll
 have lpr:=Paired.length lr
 refine zam2 (xs:=ls.map V.str) (fun i σ H'=>∃ (hd rv:V) (u5 u6 u7:Option V),σ=[some (.str (Str.join "\n" ls)),some (.ref ml),some hd,some rv,some (.ref ll),u5,u6,u7]∧i≤pre.length∧LM CM H H' ml ll ls i hd rv ((rws.take i).foldl mstep ([],none))) ⟨_,_,_,_,_,rfl,Nat.zero_le _,m0⟩ ?_ ?_ ?_
 ·rintro i σ H' hi ⟨_,_,_,_,_,rfl,_,m⟩
  exact SqL.of m.l
 ·clear m0
  rintro i z σ H' T hz ⟨hd,rv,u5,u6,u7,rfl,ile,m⟩ hT
  rw [List.getElem?_map] at hz
  obtain ⟨x,hx,rfl⟩:=Option.map_eq_some_iff.mp hz
  have i200:i < 200:=by have:=(List.getElem?_eq_some_iff.mp hx).1; omega
  by_cases hlt:i < pre.length
  ·clear q
   rw [← els,List.getElem?_append_left hlt] at hx
   have pq:Paired (fun (r:Rw) (x:Str)=>Ln x r) rws pre:=zaej lr
   obtain ⟨r,hr1,ln⟩:=zabn pq hx
   have lx1:=ln.l
   have vst:r.w=Str.ofString "module" ↔ ((rws.take i).foldl mstep ([],none)).2=none:=vp.st i r hr1
   have est:(rws.take (i + 1)).foldl mstep ([],none)=mstep ((rws.take i).foldl mstep ([],none)) r:=by rw [List.take_add_one,hr1,List.foldl_append]; rfl
   rw [est]
   generalize (rws.take i).foldl mstep ([],none)=st at m vst
   have lex:=ln.lex
   have tok:=zarl ln
   have bx:Box (x.length≤20000):=⟨lx1⟩
   clear lx1
   walk_at "rd"
   rename_i y dx hy hdx ny
   refine ⟨bx.h,fun ts pl ps H2 le c2 f2 rd2=>⟨rfl,?_⟩,fun z=>by rw [lex] at z; cases z⟩
   rw [lex] at le
   cases le
   have hy2:=rd2.ob
   walk_at "rd"
   refine zae2 (zatl ln.ok) List.drop_length (Nat.le_refl _) fun H3 c3 T2 f3 at3=>?_
   have m3:=(m.new (Ch.new hT (.tup [.int (i:Int),.str x]))).new (Ch.made hy hdx ny (c2.trans c3))
   obtain ⟨vs,hT2,pv⟩:=at3
   clear c2 c3 f2 hdx ny hT m rd2 hy2 f3 hy bx
   have okr:=ln.ok
   by_cases hm:r.w=Str.ofString "module"
   ·have sn:=vst.mp hm
    have hn:=m3.n sn
    subst hn
    obtain ⟨xn,ep⟩:=zavq okr hm
    rw [ep] at pv
    cases pv with
    | cons e1 pv =>
     cases pv
     have e1:_=V.str xn:=e1
     subst e1
     rw [hm] at hT2
     have eS:mstep st r=(st.1,some (xn,[])):=by unfold mstep nmOf; rw [if_pos hm,ep]
     rw [eS]
     walk_at "rd"
     rename_i q2 hq2
     have m4:=m3.new (Ch.new hq2 (.lst []))
     obtain ⟨ps,g,_⟩:=m3.g
     exact ⟨m4.ch,m4.f,m4.l,m4.nl,m4.g,(fun z=>by cases z),(fun m z=>by
      cases z
      exact ⟨rfl,q2,[],rfl,(zaaw g hq2).symm,(zaaw m3.l hq2).symm,chFree m3.ch hq2,zaai,.nil⟩),(by have:=m4.b.1; exact Nat.le_succ_of_le this),(fun m z=>by
      cases z
      exact ⟨by simp,Nat.zero_le _⟩)⟩
   ·obtain ⟨m,em⟩:∃ m,st.2=some m:=by
     cases e:st.2 with
     | none=>exact absurd (vst.mpr e) hm
     | some m=>exact ⟨m,rfl⟩
    obtain ⟨hh,rl,rps,rfl,n1,n2,f1,g1,w1⟩:=m3.c m em
    subst hh
    obtain ⟨ro,lo⟩:=m3.b.2 m em
    by_cases he:r.w=Str.ofString "end"
    ·have eS:mstep st r=(st.1++[m],none):=by unfold mstep; rw [if_neg hm,em]; simp only; rw [if_pos he]
     rw [eS]
     rw [he] at hT2
     have fdm:FD 25 H3 (.seq (m.2.map rwD)) (.ref rl):=⟨.inr ⟨_,rl,rps.map V.ref,.list,rfl,rfl,(fun z=>by cases z),g1,zafe (R:=Rw.At H3) (S:=DAt false 24 H3) (g:=rwD) (Pd:=Rw.ok) (fun x p o z=>DAt.weak (zavo o z)) ro w1,(by have:=Paired.length w1; rw [List.length_map]; omega)⟩⟩
     obtain ⟨ps,g,pm⟩:=m3.g
     have lps:=Paired.length pm
     have lb:=m3.b.1
     have lps2:(ps.map V.ref).length≤300:=by rw [List.length_map]; omega
     have bx:Box (FD 25 H3 (.seq (m.2.map rwD)) (.ref rl)):=⟨fdm⟩
     clear fdm
     walk_at "rd"
     rename_i xM dM hxM hdM nM
     refine ⟨⟨DAt.ch (Ch.inst hxM hdM nM) bx.h.h⟩,fun rp H4 c4 x4 d4=>⟨rfl,?_⟩⟩
     have c34:Ch [] H3 H4:=Ch.made hxM hdM nM c4
     have g4:=c34.get g (by simp)
     walk_at "rd"
     have m4:=m3.new c34
     have ko:Ko H4 (upd H4 ml (.lst (ps.map V.ref++[.ref xM]))):=Ko.own g4
     refine ⟨Ch.own m4.f m4.ch,m4.f,zafi m4.nl m4.l,m4.nl,⟨ps++[xM],by rw [zaai,List.map_append]; rfl,?_⟩,fun _=>rfl,(fun m z=>by cases z),(by rw [List.length_append,List.length_singleton]; omega),(fun m z=>by cases z)⟩
     obtain ⟨ps',g',pm'⟩:=m4.g
     have e:ps'=ps:=by
      rw [g4] at g'
      have:=HO.lst.inj (Option.some.inj g')
      exact (List.map_inj_right (fun _ _ h=>V.ref.inj h)).mp this.symm
     subst e
     exact zaa6 (R:=MoAt CM _) (MoAt.ko ko ⟨dM,rp,x4,d4⟩) (zaal (fun _ _=>MoAt.ko ko) pm')
    ·have eS:mstep st r=(st.1,some (m.1,m.2++[r])):=by unfold mstep; rw [if_neg hm,em]; simp only; rw [if_neg he]
     rw [eS]
     have lw1:=Paired.length w1
     have lps2:(rps.map V.ref).length≤300:=by rw [List.length_map]; omega
     have d1:decide (V.str r.w=V.str (Str.ofString "module"))=false:=decide_eq_false (fun z=>hm (V.str.inj z))
     have d2:decide (V.str m.1=V.non)=false:=decide_eq_false (fun z=>by cases z)
     walk_at "rd"
     rw [d1,d2]
     refine ite2 (fun h=>absurd h (by decide)) (fun _=>?_)
     walk_at "rd"
     refine zaeh hm ?_
     walk_at "rd"
     refine zaeh he ?_
     walk_at "rd"
     have tu:Tu H3 (upd H3 rl (.lst (rps.map V.ref++[.ref T2]))):=Tu.lst Ch.put g1
     have ko:Ko H3 (upd H3 rl (.lst (rps.map V.ref++[.ref T2]))):=Ko.own g1
     obtain ⟨ps,g,pm⟩:=m3.g
     refine ⟨Ch.own f1 m3.ch,m3.f,zafi n2.symm m3.l,m3.nl,⟨ps,zafi n1.symm g,zaal (fun _ _=>MoAt.ko ko) pm⟩,(fun z=>by cases z),(fun m' z=>by
      cases z
      exact ⟨rfl,rl,rps++[T2],rfl,n1,n2,f1,by rw [zaai,List.map_append]; rfl,zaa6 (R:=Rw.At _) ⟨vs,tu _ _ hT2,zaal (fun _ _ e=>RP.At.kt tu e) pv⟩ (zaal (fun _ _ e=>Rw.At.kt tu e) w1)⟩),(by have:=m3.b.1; exact Nat.le_succ_of_le this),(fun m' z=>by
      cases z
      refine ⟨fun x hx=>?_,by show (m.2++[r]).length≤i + 1; rw [List.length_append,List.length_singleton]; omega⟩
      rcases List.mem_append.mp hx with z | z
      ·exact ro x z
      ·rw [List.mem_singleton.mp z]; exact okr)⟩
  ·have ei:i=pre.length:=by omega
   subst ei
   rw [← els,List.getElem?_append_right (Nat.le_refl _),Nat.sub_self] at hx
   rcases q with ⟨e,_⟩ | ⟨tlx,q⟩
   ·rw [e] at hx; simp at hx
   rw [lpr,List.take_length] at m
   cases tlx with
   | no nr lx1 =>
    rename_i x0 rest
    have ex0:x0=x:=Option.some.inj hx
    subst ex0
    have bx:Box (_≤20000):=⟨lx1⟩
    clear lx1
    walk_at "rd"
    rename_i y dx hy hdx ny
    have mm:=m.new (Ch.new hT (.tup [.int (pre.length:Int),.str x0]))
    refine ⟨bx.h,fun ts pl ps H2 le c2 f2 rd2=>⟨rfl,?_⟩,fun z=>⟨fun d H' c h=>q d H' ((mm.ch).trans (Ch.made hy hdx ny c)) h⟩⟩
    have tok:=zatq le
    have bad:pRow ts=.bad:=by
     rcases nr.h with z | ⟨ts',z,b⟩
     ·rw [le] at z; cases z
     ·rw [le] at z; cases z; exact b
    have hy2:=rd2.ob
    walk_at "rd"
    exact zace bad ⟨fun d H' c h=>q d H' ((mm.ch).trans (Ch.made hy hdx ny (c2.trans c))) h⟩
 ·rintro σ H' ⟨hd,rv,u5,u6,u7,rfl,ile,m⟩
  rw [List.length_map,← els,List.length_append] at ile m
  have t0:tl=[]:=List.eq_nil_of_length_eq_zero (by omega)
  subst t0
  rw [List.length_nil,Nat.add_zero,lpr,List.take_length] at m
  rcases q with ⟨_,ms,em,q⟩ | ⟨tlx,q⟩
  ·have em:rws.foldl mstep ([],none)=(ms,none):=em
   rw [em] at m
   have hn:hd=.non:=m.n rfl
   subst hn
   obtain ⟨ps,g,pm⟩:=m.g
   walk_at "rd"
   exact q ml ps _ m.ch g pm
  ·cases tlx
end
end

section
theorem zaid:∀ ls:List Str,(∀ x∈ls,x.length≤6000)→(ls.map (·.length)).sum≤6000 * ls.length
 | [],_=>by simp
 | x :: ls,h=>by
  have h1:=zaid ls fun y hy=>h y (List.mem_cons_of_mem _ hy)
  have h2:=h x (by simp)
  simp only [List.map_cons,List.sum_cons,List.length_cons] at *
  omega
structure SP5 (ls:List Str) (n:Nat):Prop where
 ex:∃ (pre:List Str) (rws:List Rw) (tl:List Str),ls=pre++tl∧n=pre.length∧Paired Ln pre rws∧VP rws∧TL5 tl
 l1:1≤ls.length
 l2:ls.length≤200
 sz:∀ x∈ls,x.length≤6000∧10 ∉ x.cps.toList
theorem SP5.rm {ls:List Str}{n:Nat} (h:SP5 ls n):∃ pre rws tl,ls=pre++tl∧n=pre.length∧RMin pre rws tl∧TL5 tl:=by
 obtain ⟨pre,rws,tl,rfl,e,lr,vp,t⟩:=h.ex
 refine ⟨pre,rws,tl,rfl,e,⟨lr,vp,h.l1,h.l2,fun x hx=>(h.sz x hx).2,?_⟩,t⟩
 have j:=zaft "\n" (pre++tl)
 have s:=zaid (pre++tl) fun x hx=>(h.sz x hx).1
 have l2:=h.l2
 rw [show (Str.ofString "\n").length=1 by decide +kernel] at j
 omega
theorem zatr {C CT:Addr}:∀ vs H Q E,spRM C vs H Q E→spRM5 C CT vs H Q E0:=fun vs H Q E h=>by
 obtain ⟨ls,rws,ms,rfl,lr,l2,l200,lx,mv,q⟩:=h
 have pq:Paired (fun (r:Rw) (x:Str)=>Ln x r) rws ls:=zaej lr
 refine ⟨ls,rws,[],by rw [List.append_nil],⟨lr,⟨mv.st⟩,by rw [List.append_nil]; omega,by rw [List.append_nil]; omega,fun x hx=>?_,by rw [List.append_nil]; omega⟩,.inl ⟨rfl,ms,mv.fin,q⟩⟩
 rw [List.append_nil] at hx
 obtain ⟨i,hi⟩:=List.getElem?_of_mem hx
 obtain ⟨r,_,hr⟩:=zabn pq hi
 exact hr.no10
structure SPx (x:Str) (n:Nat):Prop where
 ex:∃ ls,x=Str.join "\n" ls∧SP5 ls n
section
variable {P:Program}{w:World}{K:PySem.W.Frag}{mg:Str→Option Value}{base:Heap}{f:Addr}{fd:FuncData}{k:Nat}
theorem zact:Nd "read_modules" := by decide +kernel
theorem zaie:Nd "FloorError" := by decide +kernel
theorem zaif:bootBuiltins "ValueError" = some (.type "ValueError"):=by decide +kernel
theorem zaig:("ValueError" : Str) ≠ "__name__" := by decide +kernel
theorem zaih:Nd "ValueError" := by decide +kernel
theorem zaoo:Nd "NoText" := by decide +kernel
theorem zaii:Nd "OutOfFloor" := by decide +kernel
theorem zaop:Nd "NoWays" := by decide +kernel
theorem zakf:Nd "NoTables" := by decide +kernel
theorem zal3:Nd "NoSense" := by decide +kernel
theorem zaqm:Nd "NoRow" := by decide +kernel
theorem zaoq:Nd "NoRoom" := by decide +kernel
theorem zaor:Nd "NoPack" := by decide +kernel
theorem zaqn:Nd "NoNet" := by decide +kernel
theorem zal4:Nd "NoFloor" := by decide +kernel
theorem zaos:Nd "NoBits" := by decide +kernel
theorem zats:bootBuiltins "bool" = some (.type "bool"):=by decide +kernel
theorem zatt:("bool" : Str) ≠ "__name__" := by decide +kernel
theorem zatu:Nd "bool" := by decide +kernel
theorem av46:AF (defScope (top 46)) ["_law_text", "_law_caught", "e"]:=⟨by decide +kernel⟩
theorem gl46:AG (defScope (top 46)) ["read_modules", "FloorError", "isinstance", "ValueError", "NoText", "OutOfFloor", "NoWays", "NoTables", "NoSense", "NoRow", "NoRoom", "NoPack", "NoNet", "NoFloor", "NoBits", "bool", "int"]:=⟨by decide +kernel⟩
theorem zaxt:(defScope (top 46)).names.lookup (Str.ofString "e")=some NameKind.local:=by decide +kernel
def spRef:Sp:=fun vs H Q _=>∃ (x:Str) (n:Nat),vs=[.str x]∧SPx x n∧∀ H',Ch [] H H'→Q (.int (n:Int)) H'
theorem scRef:FnScope ["_law_text", "_law_caught", "e"] ["_law_text"] (defScope (top 46)):=⟨rfl,rfl,rfl,by decide +kernel,rfl,by decide +kernel,by decide +kernel⟩
theorem zawl {CM CT CF c0 c1 c2 c3 c4 c5 c6 c7 c8 co:Addr} (F:Fun K "_law_refused" "_law_refused" (top 46) f fd) (DXread_modules:DefOk P w K mg base (CXE P w) k "read_modules" ["text"] (spRM5 CM CT)) (wk:WK K CT [c0,c1,c2,c3,c4,c5,c6,c7,c8,co] co)
  (m_FloorError:mg "FloorError" = some (.ref CF)) (X_FloorError:XB K CF) (X_NoText:XB K CT) (sub:XSub K CT CF) (hdT:PySem.W.hasDictIn K CT=true) (nL:NoAttr K CT "line") (m_NoText:mg "NoText" = some (.ref CT)) (m_NoBits:mg "NoBits" = some (.ref c0)) (m_NoFloor:mg "NoFloor" = some (.ref c1)) (m_NoNet:mg "NoNet" = some (.ref c2)) (m_NoPack:mg "NoPack" = some (.ref c3)) (m_NoRoom:mg "NoRoom" = some (.ref c4)) (m_NoRow:mg "NoRow" = some (.ref c5)) (m_NoSense:mg "NoSense" = some (.ref c6)) (m_NoTables:mg "NoTables" = some (.ref c7)) (m_NoWays:mg "NoWays" = some (.ref c8)) (m_OutOfFloor:mg "OutOfFloor" = some (.ref co)) (z_isinstance:mg "isinstance" = none) (z_ValueError:mg "ValueError" = none) (z_int:mg "int" = none) (z_bool:mg "bool" = none):FnOk P w K mg base CX0 (k + 1) f fd ["_law_text"] spRef:=by
 have nd:=scRef.nd
 refine F.ok scRef (fun vs H Q E h=>by obtain ⟨x,n,rfl,_⟩:=h; rfl) (fun cdv A outer s H vs Q E hr h=>?_)
 obtain ⟨x,n,rfl,⟨ls,rfl,sp⟩,q⟩:=h
 obtain ⟨pre,rws,tl,rfl,rfl,rm,t⟩:=sp.rm
 refine ⟨_,(Pr.h (zaad (zaan (i:=1) nd rfl (av46.l 1 rfl) zacq) (zab0 (zasu (i:=2) (fun _ _ h=>h) rfl rfl rfl nd rfl zaxt (gl46.g 1 rfl) m_FloorError X_FloorError (zap1 (zap0 (zapz (fun _ _ h=>h) DXread_modules hr (gl46.g 0 rfl) (zaaa (qv av46 0 rfl) zaac zaag) zact))) (fun ea=>(zaah (zaan (i:=1) nd rfl (av46.l 1 rfl) (qv av46 2 rfl)))) zaie) (zaad (zaat (zacx (zaeu (zajv (zab5 (zaas zakz (gl46.g 2 rfl) z_isinstance zabd (zaaa (qv av46 1 rfl) (zaaa (zabh (v:=.ref _) (gl46.g 4 rfl) m_NoText rfl zaoo) zaac)) zabe zabf))) (zaeg (zajv (zab5 (zaas zakz (gl46.g 2 rfl) z_isinstance zabd (zaaa (qv av46 1 rfl) (zaaa (zaci (v:=.ty "ValueError") (gl46.g 3 rfl) z_ValueError zaif rfl zaig zaih) zaac)) zabe zabf)))))) (zaah (zaao (zakt zakn zaae))) zaap) (zaad (zaat (zab5 (zaas zanb (gl46.g 2 rfl) z_isinstance zabd (zaaa (qv av46 1 rfl) (zaaa (zabl (zaaa (zabh (v:=.ref _) (gl46.g 14 rfl) m_NoBits rfl zaos) (zaaa (zabh (v:=.ref _) (gl46.g 13 rfl) m_NoFloor rfl zal4) (zaaa (zabh (v:=.ref _) (gl46.g 12 rfl) m_NoNet rfl zaqn) (zaaa (zabh (v:=.ref _) (gl46.g 11 rfl) m_NoPack rfl zaor) (zaaa (zabh (v:=.ref _) (gl46.g 10 rfl) m_NoRoom rfl zaoq) (zaaa (zabh (v:=.ref _) (gl46.g 9 rfl) m_NoRow rfl zaqm) (zaaa (zabh (v:=.ref _) (gl46.g 8 rfl) m_NoSense rfl zal3) (zaaa (zabh (v:=.ref _) (gl46.g 7 rfl) m_NoTables rfl zakf) (zaaa (zabh (v:=.ref _) (gl46.g 6 rfl) m_NoWays rfl zaop) (zaaa (zabh (v:=.ref _) (gl46.g 5 rfl) m_OutOfFloor rfl zaii) zaac zaag) zaag) zaag) zaag) zaag) zaag) zaag) zaag) zaag) zaag)) zaac)) zabe zabf)) (zaah (zaao (zakt zakn zaae))) zaap) (zaad (zaat (zacx (zaeu (zajv (zab5 (zaas zaes (gl46.g 2 rfl) z_isinstance zabd (zaaa (zahu (qv av46 1 rfl)) (zaaa (zaci (v:=.ty "int") (gl46.g 16 rfl) z_int zagf rfl zagg zagh) zaac)) zabe zabf))) (zaeg (zab5 (zaas zaes (gl46.g 2 rfl) z_isinstance zabd (zaaa (zahu (qv av46 1 rfl)) (zaaa (zaci (v:=.ty "bool") (gl46.g 15 rfl) z_bool zats rfl zatt zatu) zaac)) zabe zabf))))) (zaah (zaao (zakt zakn zaae))) zaap) (zaah (zaao (zahu (qv av46 1 rfl)))))))))),?_⟩
 (try dsimp only [cxOf])
 walk_at "rd"
 refine zacw (fun σ H'=>∃ ea d,σ=[some (.str (Str.join "\n" (pre++tl))),some (.ref ea),none]∧Ch [] H H'∧H' ea=some (exO ea CT (some d))∧H' d=some (.xd [("line",.int (pre.length:Int))])) ?_ ?_
 ·walk_at "rd"
  refine .inr ⟨t,fun d H' c hd=>?_⟩
  walk_at "rd"
 ·rintro σ H1 ⟨ea,d,rfl,d1,e1,f1⟩
  have xa:=wk.xa
  have kr:=wk.kr
  have kv:=wk.kv
  have xd:XDx H1 (some d):=fun d' e=>by cases e; exact ⟨_,f1⟩
  have lk:List.lookup (Str.ofString "line") [(Str.ofString "line",V.int (pre.length:Int))]=some (V.int (pre.length:Int)):=rfl
  walk_at "rd"
  refine ⟨.inl ⟨CT,rfl,kr⟩,?_⟩
  walk_at "rd"
  refine ⟨.inr ⟨"ValueError",rfl,kv⟩,?_⟩
  walk_at "rd"
  rename_i p hp
  have f2:(upd H1 p (.tup [.ref c0,.ref c1,.ref c2,.ref c3,.ref c4,.ref c5,.ref c6,.ref c7,.ref c8,.ref co])) d=_:=zaep hp f1
  have e2:(upd H1 p (.tup [.ref c0,.ref c1,.ref c2,.ref c3,.ref c4,.ref c5,.ref c6,.ref c7,.ref c8,.ref co])) ea=_:=zaep hp e1
  refine ⟨fun d' e=>by cases e; exact ⟨_,f2⟩,zaai,⟨[c0,c1,c2,c3,c4,c5,c6,c7,c8,co],rfl,xa,wk.ks⟩,?_⟩
  walk_at "rd"
  exact q _ (d1.trans (Ch.new hp _))
end
end

section
structure Bd (x:Str):Prop where
 nr:NoR x
 l:x.length≤6000
 n:10 ∉ x.cps.toList
theorem zae3 {x:Str}{ts:List Tk} (h:lexT x.cps.toList=some ts) (b:pRow ts=.bad):NoR x:=⟨.inr ⟨ts,h,b⟩⟩
theorem zafd {x:Str}{a:List Tk}{o:Option (List Tk)} (h:lexT x.cps.toList=cmb (some a) o) (b:∀ ts,o=some ts→pRow (a++ts)=.bad):NoR x:=by
 cases o with
 | none=>exact ⟨.inl h⟩
 | some ts=>exact zae3 h (b ts rfl)
theorem sass (a b c:Str):a++b++c=a++(b++c):=zadg (by simp only [zaa5,List.append_assoc])
theorem s32:(Str.ofString " ").cps.toList=[32]:=by decide +kernel
theorem zajn (x y:Str):lexT (x ++ " " ++ y).cps.toList=cmb (lexT x.cps.toList) (lexT y.cps.toList):=by
 rw [zaa5,zaa5,s32,List.append_assoc,zadn (Brk.r fun b h=>by
  have:32=b:=by simpa using h
  rw [← this]; decide)]
 show cmb _ (lexT (32 :: y.cps.toList))=_
 rw [zaoe]
theorem zaea:∀ ss:List Str,lexT (Str.join " " ss).cps.toList=(ss.map fun x=>lexT x.cps.toList).foldr cmb (some [])
 | []=>rfl
 | [x]=>by
  show lexT x.cps.toList=cmb (lexT x.cps.toList) (some [])
  cases lexT x.cps.toList <;> simp [cmb]
 | x :: y :: r=>by
  show lexT (x ++ " " ++ Str.join " " (y :: r)).cps.toList=_
  rw [zajn,zaea (y :: r)]
  rfl
theorem zatv {x:Str}{c:Nat} (h:c∈x.cps.toList) (o:odd c=true):NoR x:=⟨.inl (zatf h o)⟩
def junkB (s:Str):Bool:=(match s.cps.toList.head? with
 | some c=>sgn c
 | none=>true) && match lexT s.cps.toList with
 | none=>false
 | some x=>decide (x≠[]) && ((pE 21 x).isBad && (decide (x=[.sg "."]) || (match x.head? with
  | some t=>decide (t.k ≠ ".")
  | none=>true)))
def SUF:List Str:=[")", " (", ".", ":", " 5", " 5:", " (not", " a.", " in", " )", " 5 a", "."]
theorem zaij:∀ s∈SUF,junkB s=true∧s.length≤5∧10 ∉ s.cps.toList:=by decide +kernel
theorem zatw {s:Str} (h:junkB s=true):(∀ b,s.cps.toList.head?=some b→sgn b=true)∧∃ x,lexT s.cps.toList=some x∧Junk x:=by
 unfold junkB at h
 rw [Bool.and_eq_true] at h
 refine ⟨fun b hb=>by have:=h.1; rw [hb] at this; exact this,?_⟩
 have h:=h.2
 cases e:lexT s.cps.toList with
 | none=>rw [e] at h; cases h
 | some x =>
  rw [e] at h
  simp only [Bool.and_eq_true,Bool.or_eq_true,decide_eq_true_eq] at h
  refine ⟨x,rfl,h.1,?_,zale h.2.1⟩
  rcases h.2.2 with z | z
  ·exact .inr z
  ·refine .inl fun t ht=>?_
   rw [ht] at z
   simpa using z
theorem zatx {r:Rw}{x s:Str} (h:Ln x r) (hs:s∈SUF):NoR (x++s):=by
 obtain ⟨a,y,e,j⟩:=zatw (zaij s hs).1
 refine zae3 (ts:=r.ts++y) ?_ (zaom h.ok j)
 rw [zaa5,zadn (Brk.r a),h.lex,e]
 rfl
theorem zaty {l:List Tk} (h:∀ w r,l≠.wd w :: r):pRow l=.bad:=by
 cases l with
 | nil=>rfl
 | cons t l=>cases t with
  | wd w=>exact absurd rfl (h w l)
  | _=>rfl
theorem zatz {w:Str}{l:List Tk} (h:formOf RFORMS w=none):pRow (.wd w :: l)=.bad:=by
 show pRo w l (formOf RFORMS w)=_
 rw [h]; rfl
theorem zakg {r:Rw} (o:r.ok):(r.ts.tail=[]∧r.w=Str.ofString "end")∨(∃ x l,r.ts.tail=.nm x :: l∧Nm x∧(r.w≠Str.ofString "module" → l≠[])):=by
 cases zagt o with
 | m h=>exact .inr ⟨_,[],rfl,h,fun z=>absurd rfl z⟩
 | i h g=>exact .inr ⟨_,_,rfl,h,fun _ z=>by cases z⟩
 | k h g j=>exact .inr ⟨_,_,rfl,h,fun _ z=>by cases z⟩
 | e hw h g=>exact .inr ⟨_,_,rfl,h,fun _ z=>zajm z⟩
 | u h j g l=>exact .inr ⟨_,_,rfl,h,fun _ z=>by cases z⟩
 | z=>exact .inl ⟨rfl,rfl⟩
def HEADS:List Str:=["", "zz", "part", "5", "(", "module", "not", " ", "   ", "."]
def headB (s:Str):Bool:=match lexT s.cps.toList with
 | none=>false
 | some []=>true
 | some [.wd w]=>decide (w = "module") || decide (formOf RFORMS w=none)
 | some [_]=>true
 | _=>false
theorem zady:∀ s∈HEADS,headB s=true∧s.length≤6∧10 ∉ s.cps.toList:=by decide +kernel
theorem zaqo {r:Rw}{x R:Str} (h:Ln x r) (e:x=r.w++R) (hR:∀ b,R.cps.toList.head?=some b→b=32):lexT R.cps.toList=some r.ts.tail:=by
 have ok:(Tk.wd r.w).ok:=(zarl h).h _ (List.mem_cons_self ..)
 have l:=h.lex
 rw [e,zaa5,zadn (Brk.r fun b hb=>by rw [hR b hb]; decide),show lexT r.w.cps.toList=some [.wd r.w] from zaib ok] at l
 cases z:lexT R.cps.toList with
 | none=>rw [z] at l; cases l
 | some ts =>
  rw [z] at l
  have l:.wd r.w :: ts=r.ts:=Option.some.inj l
  rw [← l]; rfl
theorem zaqp {r:Rw}{x u R:Str} (h:Ln x r) (e:x=r.w++R) (hR:∀ b,R.cps.toList.head?=some b→b=32) (hu:u∈HEADS) (hm:u=r.w→u≠Str.ofString "module") {S:Str} (hS:S=R∨S = " " ++ R):NoR (u++S):=by
 have lR:=zaqo h e hR
 have lS:lexT S.cps.toList=some r.ts.tail∧∀ b,S.cps.toList.head?=some b→b=32:=by
  rcases hS with rfl | rfl
  ·exact ⟨lR,hR⟩
  ·rw [zaa5,s32]
   exact ⟨by show lexT (32 :: R.cps.toList)=_; rw [zaoe,lR],fun b hb=>by simpa using hb.symm⟩
 have hb:=(zady u hu).1
 unfold headB at hb
 have l:lexT (u++S).cps.toList=cmb (lexT u.cps.toList) (some r.ts.tail):=by
  rw [zaa5,zadn (Brk.r fun b hb=>by rw [lS.2 b hb]; decide),lS.1]
 cases eu:lexT u.cps.toList with
 | none=>rw [eu] at hb; cases hb
 | some a =>
  rw [eu] at l hb
  refine zae3 l ?_
  have ts:=zakg h.ok
  match a,hb,eu with
  | [],_,_ =>
   refine zaty fun w q z=>?_
   have z:r.ts.tail=.wd w :: q:=z
   rcases ts with ⟨t,_⟩ | ⟨x,l,t,_⟩ <;> rw [t] at z <;> cases z
  | [.nm _],_,_=>rfl
  | [.nu _],_,_=>rfl
  | [.sg _],_,_=>rfl
  | [.wd w],hb,eu =>
   simp only [Bool.or_eq_true,decide_eq_true_eq] at hb
   rcases hb with rfl | hb
   ·show pRow (.wd (Str.ofString "module") :: r.ts.tail)=_
    rw [zabi rfo.1]
    have nm:r.w≠Str.ofString "module" := fun z=>by
     have:u=Str.ofString "module" := by
      have:=zady u hu
      have key:∀ s∈HEADS,lexT s.cps.toList=some [.wd "module"]→s=Str.ofString "module" := by decide +kernel
      exact key u hu eu
     exact hm (by rw [this,z]) this
    rcases ts with ⟨t,_⟩ | ⟨x,l,t,_,nl⟩
    ·rw [t,zaca (zaic fun _ _ z=>by cases z)]; rfl
    ·rw [t,zaau zab6]; exact zad9 (nl nm)
   ·exact zatz hb
  | a :: _ :: _,hb,_=>cases a <;> cases hb
def BADN:List Str:=["abcdefghi", "zzzzzzzzzzzz", "7", "(", "."]
def notNm (s:Str):Bool:=match lexT s.cps.toList with
 | none=>true
 | some (.nm _ :: _)=>false
 | some []=>false
 | _=>true
theorem zaeb:∀ s∈WORDS++BADN,notNm s=true∧s.length≤12∧10 ∉ s.cps.toList∧s ≠ ")" ∧ (inS s=true→∀ b,s.cps.toList.head?=some b→sgn b=true)∧(s = "(" ∨ inS s=true→∀ b,s.cps.toList.getLast?=some b→sgn b=true):=by decide +kernel
theorem zaqq:∀ (l:List Tk) (acc prev:Str),(∀ t∈l,t.ok)→(prev = "(" ∨ inS prev=true→∀ b,acc.cps.toList.getLast?=some b→sgn b=true)→∃ Z:Str,glueF acc prev (l.map Tk.t)=acc++Z∧Brk acc.cps.toList Z.cps.toList
 | [],acc,prev,_,_=>⟨"",by show acc=acc++Str.ofString ""; rw [snil],Brk.r fun b h=>by cases h⟩
 | t :: l,acc,prev,ok,hp=>by
  have ot:=ok t (by simp)
  have key:∀ (A y:Str),∃ Z:Str,glueF A y (l.map Tk.t)=A++Z:=fun A y=>by
   clear hp
   induction l generalizing A y with
   | nil=>exact ⟨"",by show A=A++Str.ofString ""; rw [snil]⟩
   | cons a l ih =>
    obtain ⟨Z,e⟩:=ih (fun x hx=>ok x (by simp at hx ⊢; rcases hx with h | h <;> simp [h])) (step A y a.t) a.t
    show ∃ Z,glueF (step A y a.t) a.t (l.map Tk.t)=A++Z
    rw [e]
    unfold step
    split
    ·exact ⟨a.t++Z,by simp only [sass]⟩
    ·exact ⟨" " ++ a.t++Z,by simp only [sass]⟩
  obtain ⟨Z,e⟩:=key (step acc prev t.t) t.t
  show ∃ Z,glueF (step acc prev t.t) t.t (l.map Tk.t)=acc++Z∧_
  rw [e]
  obtain ⟨c,q,ec,_,hl,hf⟩:=zagm ot
  unfold step
  split
  ·rename_i hn
   refine ⟨t.t++Z,by simp only [sass],?_⟩
   unfold nosep at hn
   simp only [Bool.or_eq_true,decide_eq_true_eq] at hn
   have sgt:t.s=0→Brk acc.cps.toList (t.t++Z).cps.toList:=fun z=>Brk.r fun b hb=>by
    rw [zaa5,ec] at hb
    have:c=b:=by simpa using hb
    rw [← this]
    unfold sgn
    cases e1:isL c with
    | true=>have:=hl.mp e1; omega
    | false=>cases e2:isF c with
     | true=>have:=hf.mp e2; omega
     | false=>rfl
   have sgc:t.t = ")" ∨ inS t.t=true→t.s=0:=fun z=>by
    cases t with
    | sg s=>rfl
    | nm x =>
     rcases z with z | z
     ·exact absurd z (zadm ot).c
     ·rw [show inS (Tk.t (.nm x))=false from (zadm ot).i] at z; cases z
    | nu n =>
     rcases z with z | z
     ·exact absurd z (zac7 ot).c
     ·rw [show inS (Tk.t (.nu n))=false from (zac7 ot).i] at z; cases z
    | wd x =>
     have key:∀ x∈WORDS,x ≠ ")" ∧ inS x=false:=by decide +kernel
     have k:=key x ot
     rcases z with z | z
     ·exact absurd z k.1
     ·rw [show inS (Tk.t (.wd x))=false from k.2] at z; cases z
   rcases hn with z | z | z | z
   ·exact Brk.l (hp (.inl (V.str.inj z)))
   ·exact sgt (sgc (.inl (V.str.inj z)))
   ·exact Brk.l (hp (.inr z))
   ·exact sgt (sgc (.inr z))
  ·refine ⟨" " ++ t.t++Z,by simp only [sass],Brk.r fun b hb=>?_⟩
   rw [zaa5,zaa5,s32] at hb
   have:32=b:=by simpa using hb
   rw [← this]; decide
theorem zalg {pre l:List Tk}{A prev s:Str} (hA:lexT A.cps.toList=some pre) (hp:Stop prev) (hs:s∈WORDS++BADN) (ok:∀ t∈l,t.ok) (b:∀ t q,(∀ x,t≠.nm x)→pRow (pre++t :: q)=.bad):NoR (glueF A prev (s :: l.map Tk.t)):=by
 obtain ⟨h1,h2,h3,h4,h5,h6⟩:=zaeb s hs
 show NoR (glueF (step A prev s) s (l.map Tk.t))
 have e1:lexT (step A prev s).cps.toList=cmb (some pre) (lexT s.cps.toList):=by
  unfold step
  split
  ·rename_i hn
   unfold nosep at hn
   simp only [Bool.or_eq_true,decide_eq_true_eq] at hn
   have hs:inS s=true:=by
    rcases hn with z | z | z | z
    ·exact absurd (V.str.inj z) hp.o
    ·exact absurd (V.str.inj z) h4
    ·rw [hp.i] at z; cases z
    ·exact z
   rw [zaa5,zadn (Brk.r (h5 hs)),hA]
  ·rw [zajn,hA]
 have s0:s.cps.toList≠[]:=by
  have key:∀ s∈WORDS++BADN,s.cps.toList≠[]:=by decide +kernel
  exact key s hs
 have lst:∀ b,(step A prev s).cps.toList.getLast?=some b→s.cps.toList.getLast?=some b:=fun b hb=>by
  have key:∀ X:Str,(X++s).cps.toList.getLast?=s.cps.toList.getLast?:=fun X=>by
   rw [zaa5,List.getLast?_append]
   cases e:s.cps.toList.getLast? with
   | none=>exact absurd (List.getLast?_eq_none_iff.mp e) s0
   | some c=>rfl
  unfold step at hb
  split at hb
  ·rw [key] at hb; exact hb
  ·rw [key] at hb; exact hb
 obtain ⟨Z,e,k⟩:=zaqq l (step A prev s) s ok fun z b hb=>h6 z b (lst b hb)
 rw [e]
 have l1:lexT (step A prev s++Z).cps.toList=cmb (some pre) (cmb (lexT s.cps.toList) (lexT Z.cps.toList)):=by
  rw [zaa5,zadn k,e1,zac8]
 refine zafd l1 fun ts hts=>?_
 unfold notNm at h1
 cases ea:lexT s.cps.toList with
 | none=>rw [ea] at hts; cases hts
 | some a =>
  rw [ea] at hts h1
  cases ez:lexT Z.cps.toList with
  | none=>rw [ez] at hts; cases hts
  | some z =>
   rw [ez] at hts
   have hts:a++z=ts:=Option.some.inj hts
   cases a with
   | nil=>cases h1
   | cons t a =>
    rw [← hts]
    exact b t (a++z) fun x e=>by subst e; cases h1
def BADNU:List Str:=["1234567890", "01", "00", "x", "-1", "(", "1.5"]
def notNu (s:Str):Bool:=match lexT s.cps.toList with
 | none=>true
 | some [.nm _]=>true
 | some [.sg _]=>true
 | some (.nu _ :: .sg _ :: _)=>true
 | _=>false
theorem zacu:∀ s∈BADNU,notNu s=true∧s.length≤10∧10 ∉ s.cps.toList:=by decide +kernel
inductive NN:List Tk→Prop
 | a {l:List Tk} (h:∀ n r,l≠.nu n :: r) (g:l≠[]):NN l
 | b {n:Int}{s:Str}{r:List Tk}:NN (.nu n :: .sg s :: r)
theorem zat0 {s:Str} (h:s∈BADNU) {l:List Tk} (e:lexT s.cps.toList=some l):NN l:=by
 have z:=(zacu s h).1
 unfold notNu at z
 rw [e] at z
 match l,z with
 | [.nm _],_=>exact .a (fun _ _ z=>by cases z) (by simp)
 | [.sg _],_=>exact .a (fun _ _ z=>by cases z) (by simp)
 | .nu _ :: .sg _ :: _,_=>exact .b
theorem zaxu {x:Str}{l:List Tk} (h:NN l):pRow (.wd "in" :: .nm x :: l)=.bad:=by
 rw [zabi rfo.2.1,zaau zab6]
 cases h with
 | a h g=>rw [zaca (zagu h)]; rfl
 | b=>rw [zaau zadx]; rfl
theorem zaxv {x:Str}{l r:List Tk} (h:NN l):pRow (.wd "keep" :: .nm x :: (l++r))=.bad:=by
 rw [zabi rfo.2.2.1,zaau zab6]
 cases h with
 | a h g =>
  rw [zaca (zagu fun n q z=>?_)]
  ·rfl
  ·cases l with
   | nil=>exact g rfl
   | cons t l=>exact h n l (by rw [(List.cons.inj z).1])
 | b =>
  show pEn _ (pRs _ _ (.nu _ :: .sg _ :: _))=_
  rw [zaau zadx,zaca (zagu fun n q z=>by cases z)]
  rfl
theorem zaxw {x:Str}{n:Int}{l:List Tk} (h:NN l):pRow (.wd "keep" :: .nm x :: .nu n :: l)=.bad:=by
 rw [zabi rfo.2.2.1,zaau zab6,zaau zadx]
 cases h with
 | a h g=>rw [zaca (zagu h)]; rfl
 | b=>rw [zaau zadx]; rfl
theorem zagv {w:Str} (h:w∈WORDS):lexT w.cps.toList=some [.wd w]:=zaib (t:=.wd w) h
theorem zagw {x:Str} (h:Nm x):lexT x.cps.toList=some [.nm x]:=zaib (t:=.nm x) h
theorem zarn {n:Int} (h:Num n):lexT (num n).cps.toList=some [.nu n]:=zaib (t:=.nu n) h
theorem zaot (a:Option (List Tk)):cmb a (some [])=a:=by cases a <;> simp [cmb]
theorem w_in:Str.ofString "in" ∈ WORDS∧Str.ofString "keep" ∈ WORDS∧Str.ofString "use" ∈ WORDS∧Str.ofString "let" ∈ WORDS∧Str.ofString "next" ∈ WORDS∧Str.ofString "out" ∈ WORDS:=by decide +kernel
theorem zawm {x s:Str} (h:Nm x) (hs:s∈BADNU):NoR (Str.join " " [Str.ofString "in",x,s]):=by
 refine zafd (a:=[.wd "in",.nm x]) (o:=lexT s.cps.toList) ?_ fun ts e=>zaxu (zat0 hs e)
 rw [zaea]
 simp only [List.map_cons,List.map_nil,List.foldr_cons,List.foldr_nil]
 rw [zagv w_in.1,zagw h,zaot,← zac8]
 rfl
theorem zawn {x s:Str}{m:Int} (h:Nm x) (hm:Num m) (hs:s∈BADNU):NoR (Str.join " " [Str.ofString "keep",x,s,num m]):=by
 refine zafd (a:=[.wd "keep",.nm x]) (o:=cmb (lexT s.cps.toList) (some [.nu m])) ?_ fun ts e=>?_
 ·rw [zaea]
  simp only [List.map_cons,List.map_nil,List.foldr_cons,List.foldr_nil]
  rw [zagv w_in.2.1,zagw h,zarn hm,zaot,← zac8]
  rfl
 ·cases e2:lexT s.cps.toList with
  | none=>rw [e2] at e; cases e
  | some l =>
   rw [e2] at e
   have e:l++[.nu m]=ts:=Option.some.inj e
   rw [← e]
   exact zaxv (l:=l) (r:=[.nu m]) (zat0 hs e2)
theorem zawo {x s:Str}{n:Int} (h:Nm x) (hn:Num n) (hs:s∈BADNU):NoR (Str.join " " [Str.ofString "keep",x,num n,s]):=by
 refine zafd (a:=[.wd "keep",.nm x,.nu n]) (o:=lexT s.cps.toList) ?_ fun ts e=>zaxw (zat0 hs e)
 rw [zaea]
 simp only [List.map_cons,List.map_nil,List.foldr_cons,List.foldr_nil]
 rw [zagv w_in.2.1,zagw h,zarn hn,zaot,← zac8,← zac8]
 rfl
def BADX:List Str:=(["5", "(not a b)", "(and a)", "(a b)", "(part a 1)", "(part a b c)", "()", "(pick a b)", "(join a b c)", "a.", ".a", "a.5", "5:", ":5", "5:a", "05:1", "1234567890:1", "(not a", "not a)", "(5 a)", "a..b", "(out a)", "(part a 01 1)", "a:1", "5:1:1", "in", "(plus a 3)", "((not a))", "(not)", "5.a", "(less a b", "abcdefghi", "a.in", "in.a", "a.abcdefghi", "5:01", "5:1234567890", "(part a 1 01)", "(part a 1234567890 1)"]:List String).map Str.ofString
def noE (s:Str):Bool:=match lexT s.cps.toList with
 | none=>true
 | some l=>(pM (pE 21) l.length [] l).isBad && (match pE 21 l with
  | .bad=>true
  | .ok _ (_ :: _)=>true
  | _=>false)
theorem zaec:∀ s∈BADX,noE s=true∧s.length≤21∧10 ∉ s.cps.toList:=by decide +kernel
theorem zaxx {w x s:Str} (hw:w = "let" ∨ w = "next" ∨ w = "out") (h:Nm x) (hs:s∈BADX):NoR (Str.join " " [w,x] ++ " " ++ s):=by
 have z:=(zaec s hs).1
 have ww:w∈WORDS:=by
  rcases hw with rfl | rfl | rfl
  ·exact w_in.2.2.2.1
  ·exact w_in.2.2.2.2.1
  ·exact w_in.2.2.2.2.2
 refine zafd (a:=[.wd w,.nm x]) (o:=lexT s.cps.toList) ?_ fun ts e=>?_
 ·rw [zajn,zaea]
  simp only [List.map_cons,List.map_nil,List.foldr_cons,List.foldr_nil]
  rw [zagv ww,zagw h,zaot]
  rfl
 ·unfold noE at z
  rw [e] at z
  show pRow (.wd w :: .nm x :: ts)=_
  rw [zabi (zaqi w hw),zaau zab6]
  rw [Bool.and_eq_true] at z
  have z:=z.2
  match e2:pE 21 ts,z with
  | .bad,_=>rw [zaca (zaol e2)]; rfl
  | .ok e (t :: r),_=>rw [zaau (zaok e2)]; rfl
theorem zaxy {x y s:Str} (h:Nm x) (g:Nm y) (hs:s∈BADX):NoR (Str.join " " [Str.ofString "use",x,y] ++ " " ++ s):=by
 have z:=(zaec s hs).1
 refine zafd (a:=[.wd "use",.nm x,.nm y]) (o:=lexT s.cps.toList) ?_ fun ts e=>?_
 ·rw [zajn,zaea]
  simp only [List.map_cons,List.map_nil,List.foldr_cons,List.foldr_nil]
  rw [zagv w_in.2.2.1,zagw h,zagw g,zaot]
  rfl
 ·unfold noE at z
  rw [e] at z
  rw [Bool.and_eq_true] at z
  show pRow (.wd "use" :: .nm x :: .nm y :: ts)=_
  rw [zabi rfo.2.2.2.1,zaau zab6,zaau zab6,zaca (zakd (zale z.1))]
  rfl
def ELSE:List Str:=["", " ", "  ", "."]
theorem zafy:∀ s∈ELSE,Bd s:=fun s hs=>by
 have key:∀ s∈ELSE,(lexT s.cps.toList=some []∨lexT s.cps.toList=some [.sg "."])∧s.length≤6000∧10 ∉ s.cps.toList:=by decide +kernel
 obtain ⟨a,b,c⟩:=key s hs
 refine ⟨?_,b,c⟩
 rcases a with a | a
 ·exact zae3 a rfl
 ·exact zae3 a rfl
end

section
section
variable {P:Program}{w:World}{K:PySem.W.Frag}{mg:Str→Option Value}{base:Heap}{f:Addr}{fd:FuncData}{k:Nat}
def spWords5:Sp:=fun vs H Q _=>vs=[]∧∀ (p:Addr) (H':Hp),Ch [] H H'→H' p=some (.lst (WORDS.map V.str))→H p=none→Q (.ref p) H'
theorem zaou (F:Fun K "_law_words" "_law_words" (top 34) f fd):FnOk P w K mg base CX0 (k + 1) f fd [] spWords5:=by
 have nd:=scWords.nd
 refine F.ok scWords (fun vs H Q E h=>by obtain ⟨rfl,_⟩:=h; rfl) (fun cdv A outer s H vs Q E hr h=>?_)
 obtain ⟨rfl,q⟩:=h
 refine ⟨_,(Pr.h (zaah (zaao (zabz PySem.F.plainAttrs_str PySem.F.slot_str_split PySem.F.type_str_split zahn zaaf (zaaa zaaf zaac zaab))))),?_⟩
 (try dsimp only [cxOf])
 walk_at "rd"
 exact q _ _ (by walk_at "ch") zaai (by assumption)
theorem gl47:AG (defScope (top 47)) ["_law_words"]:=⟨by decide +kernel⟩
theorem av47:AF (defScope (top 47)) ["_law_n"]:=⟨by decide +kernel⟩
def spBN:Sp:=fun vs H Q _=>∃ n:Int,vs=[.int n]∧0≤n∧∀ x H',x∈WORDS++BADN→Ch [] H H'→Q (.str x) H'
theorem scBN:FnScope ["_law_n"] ["_law_n"] (defScope (top 47)):=⟨rfl,rfl,rfl,by decide +kernel,rfl,by decide +kernel,by decide +kernel⟩
theorem zaxz (F:Fun K "_law_bad_name" "_law_bad_name" (top 47) f fd) (D_law_words:DefOk P w K mg base CX0 k "_law_words" [] spWords5):FnOk P w K mg base CX0 (k + 1) f fd ["_law_n"] spBN:=by
 have nd:=scBN.nd
 refine F.ok scBN (fun vs H Q E h=>by obtain ⟨n,rfl,_⟩:=h; rfl) (fun cdv A outer s H vs Q E hr h=>?_)
 obtain ⟨n,rfl,n0,q⟩:=h
 refine ⟨_,(Pr.h (zaah (zaao (zaar zaav (zaay (zaaa (zaar zaav (zae7 D_law_words hr (gl47.g 0 rfl) pass0 zadf) (zaaj zaa0 (qv av47 0 rfl) zaae) (fun _ _=>rfl)) (zaaa zaaf (zaaa zaaf (zaaa zaaf (zaaa zaaf (zaaa zaaf zaac zaab) zaab) zaab) zaab) zaab) zaaq)) (zaar zaav (zaay (zaaa zaae (zaaa zaae (zaaa zaae (zaaa zaae (zaaa zaae (zaaa zaae (zaaa zaae zaac zaab) zaab) zaab) zaab) zaab) zaab) zaab)) (zaaj zaa0 (zaaj zaa3 (qv av47 0 rfl) zaae) zaae) (fun _ _=>rfl)) (fun _ _=>rfl))))),?_⟩
 (try dsimp only [cxOf])
 have wl:=zai7
 walk_at "rd"
 rename_i p H1 c1 g1 f1
 refine Atx.any (by omega) (by rw [List.length_map,wl]; omega) fun v hv _=>?_
 obtain ⟨x,hx,rfl⟩:=List.mem_map.mp hv
 walk_at "rd"
 rename_i p2 hp2 p3 hp3
 refine Atx.any (by omega) (by show n / 18 % 7 < 7; omega) fun v hv _=>?_
 have hv':∃ m:Int,v=.int m∧0≤m∧m < 6:=by
  simp only [List.mem_cons,List.not_mem_nil,or_false] at hv
  rcases hv with rfl | rfl | rfl | rfl | rfl | rfl | rfl <;> exact ⟨_,rfl,by decide,by decide⟩
 obtain ⟨m,rfl,m0,m6⟩:=hv'
 walk_at "rd"
 refine Atx.any m0 m6 fun v hv _=>?_
 have hv':∃ y:Str,v=.str y∧y∈WORDS++BADN:=by
  simp only [List.mem_cons,List.not_mem_nil,or_false] at hv
  rcases hv with rfl | rfl | rfl | rfl | rfl | rfl
  ·exact ⟨x,rfl,List.mem_append_left _ hx⟩
  all_goals exact ⟨_,rfl,List.mem_append_right _ (by decide +kernel)⟩
 obtain ⟨y,rfl,hy⟩:=hv'
 exact q y _ hy (by walk_at "ch")
theorem av48:AF (defScope (top 48)) ["_law_n", "_law_some"]:=⟨by decide +kernel⟩
theorem gl48:AG (defScope (top 48)) ["len"]:=⟨by decide +kernel⟩
def spBX:Sp:=fun vs H Q _=>∃ n:Int,vs=[.int n]∧0≤n∧∀ x H',x∈BADX→Ch [] H H'→Q (.str x) H'
theorem scBX:FnScope ["_law_n", "_law_some"] ["_law_n"] (defScope (top 48)):=⟨rfl,rfl,rfl,by decide +kernel,rfl,by decide +kernel,by decide +kernel⟩
theorem zax0 (F:Fun K "_law_bad_expr" "_law_bad_expr" (top 48) f fd) (z_len:mg "len" = none):FnOk P w K mg base CX0 (k + 1) f fd ["_law_n"] spBX:=by
 have nd:=scBX.nd
 refine F.ok scBX (fun vs H Q E h=>by obtain ⟨n,rfl,_⟩:=h; rfl) (fun cdv A outer s H vs Q E hr h=>?_)
 obtain ⟨n,rfl,n0,q⟩:=h
 refine ⟨_,(Pr.h (zaad (zaan (i:=1) nd rfl (av48.l 1 rfl) (zaay (zaaa zaaf (zaaa zaaf (zaaa zaaf (zaaa zaaf (zaaa zaaf (zaaa zaaf (zaaa zaaf (zaaa zaaf zaac zaab) zaab) zaab) zaab) zaab) zaab) zaab) zaab))) (zaad (zaan (i:=1) nd rfl (av48.l 1 rfl) (zaaj zac3 (qv av48 1 rfl) (zaay (zaaa zaaf (zaaa zaaf (zaaa zaaf (zaaa zaaf (zaaa zaaf (zaaa zaaf (zaaa zaaf (zaaa zaaf (zaaa zaaf (zaaa zaaf zaac zaab) zaab) zaab) zaab) zaab) zaab) zaab) zaab) zaab) zaab)))) (zaad (zaan (i:=1) nd rfl (av48.l 1 rfl) (zaaj zac3 (qv av48 1 rfl) (zaay (zaaa zaaf (zaaa zaaf (zaaa zaaf (zaaa zaaf (zaaa zaaf (zaaa zaaf (zaaa zaaf (zaaa zaaf (zaaa zaaf zaac zaab) zaab) zaab) zaab) zaab) zaab) zaab) zaab) zaab)))) (zaad (zaan (i:=1) nd rfl (av48.l 1 rfl) (zaaj zac3 (qv av48 1 rfl) (zaay (zaaa zaaf (zaaa zaaf (zaaa zaaf (zaaa zaaf (zaaa zaaf (zaaa zaaf (zaaa zaaf (zaaa zaaf (zaaa zaaf zaac zaab) zaab) zaab) zaab) zaab) zaab) zaab) zaab) zaab)))) (zaad (zaan (i:=1) nd rfl (av48.l 1 rfl) (zaaj zac3 (qv av48 1 rfl) (zaay (zaaa zaaf (zaaa zaaf (zaaa zaaf zaac zaab) zaab) zaab)))) (zaah (zaao (zaar zaav (qv av48 1 rfl) (zaaj zaa0 (qv av48 0 rfl) (zaas zaa2 (gl48.g 0 rfl) z_len PySem.boot_len (zaaa (qv av48 1 rfl) zaac zaag) zab3 zab4)) (fun _ _=>rfl)))))))))),?_⟩
 (try dsimp only [cxOf])
 walk_at "rd"
 refine Atx.any (Int.emod_nonneg _ (by decide)) (Int.emod_lt_of_pos _ (by decide)) fun v hv _=>?_
 have hv:v∈BADX.map V.str:=hv
 obtain ⟨x,hx,rfl⟩:=List.mem_map.mp hv
 exact q x _ hx (by walk_at "ch")
end
end

section
theorem sIx_nat (n d:Nat) {i:Nat} (h:i≤n):HT.sIx n d (some (i:Int))=i:=by
 show (if (i:Int) < 0 then ((i:Int) + (n:Int)).toNat else min ((i:Int)).toNat n)=i
 rw [if_neg (by omega)]; omega
theorem zalh (xs:List Str) {i:Nat} (h:i≤xs.length):cutV (xs.map V.str) none (some (i:Int))=(xs.take i).map V.str:=by
 unfold cutV
 rw [List.length_map,sIx_nat _ _ h,show HT.sIx xs.length 0 none=0 from rfl,List.drop_zero,Nat.sub_zero,List.map_take]
theorem zali (xs:List Str) {i:Nat} (h:i≤xs.length):cutV (xs.map V.str) (some (i:Int)) none=(xs.drop i).map V.str:=by
 unfold cutV
 rw [List.length_map,sIx_nat _ _ h,show HT.sIx xs.length xs.length none=xs.length from rfl,List.map_drop,List.take_of_length_le (by rw [List.length_drop,List.length_map]; exact Nat.le_refl _)]
theorem zagx (xs:List V) (a b:Option Int):(cutV xs a b).length≤xs.length:=by
 unfold cutV
 rw [List.length_take,List.length_drop]; omega
theorem cut3 (ps:List Str) (u:Str) {E:Int}{i:Nat} (e:E=(i:Int)) (h:i < ps.length):cutV (ps.map V.str) none (some E)++[V.str u]++cutV (ps.map V.str) (some (E + 1)) none=(ps.take i++[u]++ps.drop (i + 1)).map V.str:=by
 have e2:(i:Int) + 1=((i + 1:Nat):Int):=by omega
 rw [e,e2,zalh ps (by omega),zali ps (by omega)]; simp
theorem zax1 (x:Str) {i:Nat} (h:i≤x.length):(Txt.slice x none (some (i:Int))).cps.toList=x.cps.toList.take i:=by
 rw [zaer,sIx_nat _ _ h,show HT.sIx x.length 0 none=0 from rfl,List.drop_zero,Nat.sub_zero]
theorem zawp (x:Str) {i:Nat} (h:i≤x.length):(Txt.slice x (some (i:Int)) none).cps.toList=x.cps.toList.drop i:=by
 rw [zaer,sIx_nat _ _ h,show HT.sIx x.length x.length none=x.length from rfl,List.take_of_length_le (by rw [List.length_drop,Strl]; exact Nat.le_refl _)]
theorem zab9 {x y:Str} (h:10 ∉ x.cps.toList) (g:10 ∉ y.cps.toList):10 ∉ (x++y).cps.toList:=by
 rw [zaa5]
 exact fun z=>(List.mem_append.mp z).elim h g
theorem w0 {x:Str}{i:Nat}{c:Nat} (lx:x.length≤5000) (n10:10 ∉ x.cps.toList) (i1:i≤x.length) (o:odd c=true) (c10:c≠10):Bd (Txt.slice x none (some (i:Int))++⟨#[c]⟩++Txt.slice x (some (i:Int)) none):=by
 have e:(Txt.slice x none (some (i:Int))++⟨#[c]⟩++Txt.slice x (some (i:Int)) none).cps.toList=x.cps.toList.take i++c :: x.cps.toList.drop i:=by
  rw [zaa5,zaa5,zax1 x i1,zawp x i1]; simp
 refine ⟨zatv (c:=c) (by rw [e]; simp) o,?_,?_⟩
 ·rw [← Strl,e,List.length_append,List.length_cons,List.length_take,List.length_drop,Strl]; omega
 ·rw [e]
  intro z
  rcases List.mem_append.mp z with z | z
  ·exact n10 (List.mem_of_mem_take z)
  ·rcases List.mem_cons.mp z with z | z
   ·exact c10 z.symm
   ·exact n10 (List.mem_of_mem_drop z)
def SGNS:Str := "ABZ!\"#$&'*+,-/;<=>?\x40[\\]^_`{|}~"
theorem zaqr:∀ c∈SGNS.cps.toList,odd c=true∧c≠10:=by decide +kernel
theorem w1 {r:Rw}{x s:Str} (h:Ln x r) (lx:x.length≤5000) (hs:s∈SUF):Bd (x++s) :=
 ⟨zatx h hs,by rw [zabm]; have:=(zaij s hs).2.1; omega,zab9 h.no10 (zaij s hs).2.2⟩
theorem zalj:∀ (l:List Str) (A y:Str),∃ Z:Str,glueF A y l=A++Z
 | [],A,y=>⟨"",by show A=A++Str.ofString ""; rw [snil]⟩
 | a :: l,A,y=>by
  obtain ⟨Z,e⟩:=zalj l (step A y a) a
  show ∃ Z,glueF (step A y a) a l=A++Z
  rw [e]
  unfold step
  split
  ·exact ⟨a++Z,by simp only [sass]⟩
  ·exact ⟨" " ++ a++Z,by simp only [sass]⟩
theorem zaov {w:Str} (h:w∈WORDS):Stop w:=by
 have key:∀ x∈WORDS,x ≠ "(" ∧ inS x=false:=by decide +kernel
 exact ⟨(key w h).1,(key w h).2⟩
theorem zaow {A p x:Str} (hp:Stop p) (h:Nm x):step A p x=A ++ " " ++ x:=by
 unfold step nosep
 rw [if_neg]
 have a:=hp.o
 have b:=(zadm h).c
 have c:=(zadm h).i
 rw [hp.i,c]
 simp [a,b]
theorem zakh {r:Rw} (o:r.ok):r.w∈WORDS:=(zagp o) (.wd r.w) (List.mem_cons_self ..)
theorem zaox {r:Rw} (o:r.ok):∃ R:Str,rtx r=r.w++R∧∀ b,R.cps.toList.head?=some b→b=32:=by
 have e:=zafv o
 rcases zakg o with ⟨t,_⟩ | ⟨x,l,t,hx,_⟩
 ·have t:(r.ps.map RP.ts).flatten=[]:=t
  rw [t] at e
  refine ⟨"",by rw [← e]; show r.w=r.w++Str.ofString ""; rw [snil],fun b hb=>by cases hb⟩
 ·have t:(r.ps.map RP.ts).flatten=.nm x :: l:=t
  rw [t] at e
  have e:glueF (step r.w r.w x) x (l.map Tk.t)=rtx r:=e
  obtain ⟨Z,ez⟩:=zalj (l.map Tk.t) (step r.w r.w x) x
  rw [ez,zaow (zaov (zakh o)) hx] at e
  refine ⟨" " ++ x++Z,by rw [← e]; simp only [sass],fun b hb=>?_⟩
  rw [zaa5,zaa5,s32] at hb
  have:32=b:=by simpa using hb
  exact this.symm
theorem w2 {r:Rw} (o:r.ok) (ln:Ln (rtx r) r) (lx:(rtx r).length≤5000) {u z:Str} (hu:u∈HEADS) (hm:u=r.w→u≠Str.ofString "module") {n:Nat} (hn:n≤1) (hz:z.cps.toList=List.replicate n 32):Bd (u++z++Txt.slice (rtx r) (some (r.w.length:Int)) none):=by
 obtain ⟨R,e,hR⟩:=zaox o
 have el:(rtx r).length=r.w.length + R.length:=by rw [e,zabm]
 have es:Txt.slice (rtx r) (some (r.w.length:Int)) none=R:=zadg (by
  rw [zawp _ (by omega),e,zaa5,← Strl r.w,List.drop_left])
 have n10:=ln.no10
 have hz2:z = "" ∨ z = " " := by
  rcases (show n=0∨n=1 by omega) with rfl | rfl
  ·exact .inl (zadg (by rw [hz]; decide +kernel))
  ·exact .inr (zadg (by rw [hz,s32]; rfl))
 rw [es,sass]
 refine ⟨zaqp ln e hR hu hm ?_,?_,?_⟩
 ·rcases hz2 with rfl | rfl
  ·exact .inl (by show Str.ofString "" ++ R=R; exact zadg (by rw [zaa5]; rfl))
  ·exact .inr rfl
 ·have:=(zady u hu).2.1
  have l:z.length≤1:=by rw [← Strl,hz,List.length_replicate]; exact hn
  rw [zabm,zabm]; omega
 ·refine zab9 (zady u hu).2.2 (zab9 (by rw [hz]; exact fun h=>by have:=List.eq_of_mem_replicate h; omega) ?_)
  rw [e,zaa5] at n10
  exact fun h=>n10 (List.mem_append_right _ h)
theorem zaki:∀ (l:List Str) (A y:Str),10 ∉ A.cps.toList→(∀ a∈l,10 ∉ a.cps.toList)→10 ∉ (glueF A y l).cps.toList
 | [],A,y,h,_=>h
 | a :: l,A,y,h,g=>by
  show 10 ∉ (glueF (step A y a) a l).cps.toList
  refine zaki l _ _ ?_ fun b hb=>g b (List.mem_cons_of_mem _ hb)
  unfold step
  split
  ·exact zab9 h (g a (List.mem_cons_self ..))
  ·exact zab9 (zab9 h (by rw [s32]; decide)) (g a (List.mem_cons_self ..))
theorem zajo {t:Tk} (h:t.ok):10 ∉ t.t.cps.toList:=zavp (c:=some t) fun t' e=>by cases e; exact h
theorem zat1 {r:Rw} (o:r.ok) (ne:r.ts.tail≠[]) {t:Tk}{q:List Tk} (h:∀ x,t≠.nm x):pRow ([.wd r.w]++t :: q)=.bad:=by
 have k:pPt (Str.ofString "name") (t :: q)=.bad:=zaic fun x s z=>h x (List.cons.inj z).1
 cases zagt o with
 | m _=>show pRow (.wd "module" :: t :: q)=_; rw [zabi rfo.1,zaca k]; rfl
 | i _ _=>show pRow (.wd "in" :: t :: q)=_; rw [zabi rfo.2.1,zaca k]; rfl
 | k _ _ _=>rename_i k' _; show pRow (.wd "keep" :: t :: q)=_; rw [zabi rfo.2.2.1,zaca k]; rfl
 | e hw _ _=>show pRow (.wd _ :: t :: q)=_; rw [zabi (zaqi _ hw),zaca k]; rfl
 | u _ _ _ _=>show pRow (.wd "use" :: t :: q)=_; rw [zabi rfo.2.2.2.1,zaca k]; rfl
 | z=>exact absurd rfl ne
theorem zat2 {x:Str}{t:Tk}{q:List Tk} (h:∀ x,t≠.nm x):pRow ([.wd "use",.nm x]++t :: q)=.bad:=by
 show pRow (.wd "use" :: .nm x :: t :: q)=_
 rw [zabi rfo.2.2.2.1,zaau zab6,zaca (zaic fun x s z=>h x (List.cons.inj z).1)]; rfl
theorem zaro {l:List Tk}{A y s:Str} (ok:∀ t∈l,t.ok) (hl:l.length≤300) (hA:A.length≤20) (hs:s.length≤12):(glueF A y (s :: l.map Tk.t)).length≤6000:=by
 have g:=zafu (s :: l.map Tk.t) A y
 have sm:=zahi ok
 simp only [List.map_cons,List.sum_cons,List.length_cons,List.length_map] at g sm
 omega
theorem w3a {r:Rw} (o:r.ok) {x s:Str}{l:List Tk} (e:r.ts=.wd r.w :: .nm x :: l) (hl:l.length≤300) (hs:s∈WORDS++BADN):Bd (glueF r.w r.w (s :: l.map Tk.t)):=by
 have okt:=zagp o
 have okl:∀ t∈l,t.ok:=fun t ht=>okt t (by rw [e]; simp [ht])
 have wl:r.w.length≤9:=zadv (okt (.wd r.w) (List.mem_cons_self ..))
 have bn:=zaeb s hs
 refine ⟨zalg (pre:=[.wd r.w]) (zagv (zakh o)) (zaov (zakh o)) hs okl fun t q h=>zat1 o (by rw [e]; simp) h,zaro okl hl (by omega) bn.2.1,zaki _ _ _ (zajo (t:=.wd r.w) (zakh o)) fun a ha=>?_⟩
 rcases List.mem_cons.mp ha with rfl | ha
 ·exact bn.2.2.1
 ·obtain ⟨t,ht,rfl⟩:=List.mem_map.mp ha
  exact zajo (okl t ht)
theorem w3b {r:Rw} (o:r.ok) (hw:r.w=Str.ofString "use") {x y s:Str}{l:List Tk} (e:r.ts=.wd r.w :: .nm x :: .nm y :: l) (hl:l.length≤300) (hs:s∈WORDS++BADN):Bd (glueF r.w r.w (x :: s :: l.map Tk.t)):=by
 have okt:=zagp o
 have okl:∀ t∈l,t.ok:=fun t ht=>okt t (by rw [e]; simp [ht])
 have nx:Nm x:=okt (.nm x) (by rw [e]; simp)
 have wl:r.w.length≤9:=zadv (okt (.wd r.w) (List.mem_cons_self ..))
 have xl:x.length≤9:=zadv (t:=.nm x) nx
 have bn:=zaeb s hs
 show Bd (glueF (step r.w r.w x) x (s :: l.map Tk.t))
 have es:=zaow (A:=r.w) (zaov (zakh o)) nx
 refine ⟨zalg (pre:=[.wd r.w,.nm x]) ?_ (zah7 nx) hs okl fun t q h=>by rw [hw]; exact zat2 h,zaro okl hl ?_ bn.2.1,zaki _ _ _ ?_ fun a ha=>?_⟩
 ·rw [es,zajn,zagv (zakh o),zagw nx]; rfl
 ·rw [es,zabm,zabm,show (Str.ofString " ").length=1 by decide +kernel]; omega
 ·rw [es]; exact zab9 (zab9 (zajo (t:=.wd r.w) (zakh o)) (by rw [s32]; decide)) (zajo (t:=.nm x) nx)
 ·rcases List.mem_cons.mp ha with rfl | ha
  ·exact bn.2.2.1
  ·obtain ⟨t,ht,rfl⟩:=List.mem_map.mp ha
   exact zajo (okl t ht)
theorem zakj:∀ (l:List Str),(∀ a∈l,10 ∉ a.cps.toList)→10 ∉ (Str.join " " l).cps.toList
 | [],_=>by decide +kernel
 | [x],h=>h x (by simp)
 | x :: y :: r,h=>by
  show 10 ∉ (x ++ " " ++ Str.join " " (y :: r)).cps.toList
  exact zab9 (zab9 (h x (by simp)) (by rw [s32]; decide)) (zakj (y :: r) fun a ha=>h a (List.mem_cons_of_mem _ ha))
theorem zalk {l:List Str} (h:∀ a∈l,a.length≤30) (n:l.length≤5):(Str.join " " l).length≤200:=by
 have j:=zaft " " l
 rw [show (Str.ofString " ").length=1 by decide +kernel] at j
 have k:∀ l:List Str,(∀ a∈l,a.length≤30)→(l.map (·.length)).sum≤30 * l.length:=fun l=>by
  induction l with
  | nil=>simp
  | cons a l ih =>
   intro h
   have:=ih fun b hb=>h b (List.mem_cons_of_mem _ hb)
   have:=h a (by simp)
   simp only [List.map_cons,List.sum_cons,List.length_cons]
   omega
 have:=k l h
 omega
theorem w_10 {w:Str} (h:w∈WORDS):w.length≤9∧10 ∉ w.cps.toList:=⟨zadv (t:=.wd w) h,zajo (t:=.wd w) h⟩
theorem x_10 {x:Str} (h:Nm x):x.length≤9∧10 ∉ x.cps.toList:=⟨zadv (t:=.nm x) h,zajo (t:=.nm x) h⟩
theorem n_10 {n:Int} (h:Num n):(num n).length≤9∧10 ∉ (num n).cps.toList:=⟨zadv (t:=.nu n) h,zajo (t:=.nu n) h⟩
theorem bd_j {l:List Str} (n:NoR (Str.join " " l)) (h:∀ a∈l,a.length≤30∧10 ∉ a.cps.toList) (k:l.length≤5):Bd (Str.join " " l) :=
 ⟨n,by have:=zalk (fun a ha=>(h a ha).1) k; omega,zakj l fun a ha=>(h a ha).2⟩
theorem w4a {x s:Str} (h:Nm x) (hs:s∈BADNU):Bd (Str.join " " [Str.ofString "in",x,s]):=bd_j (zawm h hs) (fun a ha=>by
 have b:=(zacu s hs).2
 have:=x_10 h
 have:=w_10 w_in.1
 simp only [List.mem_cons,List.not_mem_nil,or_false] at ha
 rcases ha with rfl | rfl | rfl <;> exact ⟨by omega,by simp_all⟩) (by simp)
theorem w4b {x s:Str}{m:Int} (h:Nm x) (hm:Num m) (hs:s∈BADNU):Bd (Str.join " " [Str.ofString "keep",x,s,num m]):=bd_j (zawn h hm hs) (fun a ha=>by
 have b:=(zacu s hs).2
 have:=x_10 h
 have:=n_10 hm
 have:=w_10 w_in.2.1
 simp only [List.mem_cons,List.not_mem_nil,or_false] at ha
 rcases ha with rfl | rfl | rfl | rfl <;> exact ⟨by omega,by simp_all⟩) (by simp)
theorem w4c {x s:Str}{m:Int} (h:Nm x) (hm:Num m) (hs:s∈BADNU):Bd (Str.join " " [Str.ofString "keep",x,num m,s]):=bd_j (zawo h hm hs) (fun a ha=>by
 have b:=(zacu s hs).2
 have:=x_10 h
 have:=n_10 hm
 have:=w_10 w_in.2.1
 simp only [List.mem_cons,List.not_mem_nil,or_false] at ha
 rcases ha with rfl | rfl | rfl | rfl <;> exact ⟨by omega,by simp_all⟩) (by simp)
theorem bd_x {l:List Str}{s:Str} (n:NoR (Str.join " " l ++ " " ++ s)) (h:∀ a∈l,a.length≤30∧10 ∉ a.cps.toList) (k:l.length≤5) (hs:s∈BADX):Bd (Str.join " " l ++ " " ++ s) :=
 ⟨n,by
  have:=zalk (fun a ha=>(h a ha).1) k
  have:=(zaec s hs).2.1
  rw [zabm,zabm,show (Str.ofString " ").length=1 by decide +kernel]; omega,zab9 (zab9 (zakj l fun a ha=>(h a ha).2) (by rw [s32]; decide)) (zaec s hs).2.2⟩
theorem w5a {w x s:Str} (hw:w = "let" ∨ w = "next" ∨ w = "out") (h:Nm x) (hs:s∈BADX):Bd (Str.join " " [w,x] ++ " " ++ s):=bd_x (zaxx hw h hs) (fun a ha=>by
 have:=x_10 h
 have ww:w∈WORDS:=by
  rcases hw with rfl | rfl | rfl
  ·exact w_in.2.2.2.1
  ·exact w_in.2.2.2.2.1
  ·exact w_in.2.2.2.2.2
 have:=w_10 ww
 simp only [List.mem_cons,List.not_mem_nil,or_false] at ha
 rcases ha with rfl | rfl <;> exact ⟨by omega,by simp_all⟩) (by simp) hs
theorem w5b {x y s:Str} (h:Nm x) (g:Nm y) (hs:s∈BADX):Bd (Str.join " " [Str.ofString "use",x,y] ++ " " ++ s):=bd_x (zaxy h g hs) (fun a ha=>by
 have:=x_10 h
 have:=x_10 g
 have:=w_10 w_in.2.2.1
 simp only [List.mem_cons,List.not_mem_nil,or_false] at ha
 rcases ha with rfl | rfl | rfl <;> exact ⟨by omega,by simp_all⟩) (by simp) hs
theorem e_no {w:Str} (h:w = "let" ∨ w = "next" ∨ w = "out"):w≠Str.ofString "use" ∧ w≠Str.ofString "in" ∧ w≠Str.ofString "keep" := by
 rcases h with rfl | rfl | rfl <;> decide +kernel
theorem sh4 {r:Rw} (o:r.ok) (h:r.w∈[Str.ofString "in",Str.ofString "keep"]):(∃ x n,Nm x∧Num n∧r.ts.map Tk.t=[Str.ofString "in",x,num n])∨(∃ x n m,Nm x∧Num n∧Num m∧r.ts.map Tk.t=[Str.ofString "keep",x,num n,num m]):=by
 cases zagt o with
 | m _=>exact absurd h (by show Str.ofString "module" ∉ _; decide +kernel)
 | i a b=>exact .inl ⟨_,_,a,b,rfl⟩
 | k a b c=>exact .inr ⟨_,_,_,a,b,c,rfl⟩
 | @e w x e' hw _ _ =>
  have k:=e_no hw
  have h:w∈[Str.ofString "in",Str.ofString "keep"]:=h
  simp only [List.mem_cons,List.not_mem_nil,or_false] at h
  rcases h with h | h
  ·exact absurd h k.2.1
  ·exact absurd h k.2.2
 | u _ _ _ _=>exact absurd h (by show Str.ofString "use" ∉ _; decide +kernel)
 | z=>exact absurd h (by show Str.ofString "end" ∉ _; decide +kernel)
theorem sh5 {r:Rw} (o:r.ok) (h:r.w∈[Str.ofString "let",Str.ofString "next",Str.ofString "out",Str.ofString "use"]):(∃ x l,(r.w = "let" ∨ r.w = "next" ∨ r.w = "out")∧Nm x∧r.ts.map Tk.t=r.w :: x :: l)∨(∃ x y l,r.w=Str.ofString "use" ∧ Nm x∧Nm y∧r.ts.map Tk.t=r.w :: x :: y :: l):=by
 cases zagt o with
 | m _=>exact absurd h (by show Str.ofString "module" ∉ _; decide +kernel)
 | i a b=>exact absurd h (by show Str.ofString "in" ∉ _; decide +kernel)
 | k a b c=>exact absurd h (by show Str.ofString "keep" ∉ _; decide +kernel)
 | e hw a _=>exact .inl ⟨_,_,hw,a,rfl⟩
 | u a b _ _=>exact .inr ⟨_,_,_,rfl,a,b,rfl⟩
 | z=>exact absurd h (by show Str.ofString "end" ∉ _; decide +kernel)
theorem sh3 {r:Rw} (o:r.ok) (h:r.w=Str.ofString "use"):∃ x y l,r.ts=.wd r.w :: .nm x :: .nm y :: l:=by
 rcases sh5 o (by rw [h]; simp) with ⟨x,l,hw,_⟩ | _
 ·rw [h] at hw
  exact absurd hw (by decide +kernel)
 ·cases zagt o with
  | u a b _ _=>exact ⟨_,_,_,rfl⟩
  | m _=>exact absurd h (by show Str.ofString "module" ≠ _; decide +kernel)
  | i a b=>exact absurd h (by show Str.ofString "in" ≠ _; decide +kernel)
  | k a b c=>exact absurd h (by show Str.ofString "keep" ≠ _; decide +kernel)
  | e hw a _ =>
   exact absurd h (e_no hw).1
  | z=>exact absurd h (by show Str.ofString "end" ≠ _; decide +kernel)
theorem zacl {xs zs:List V} (h:xs.length≤1000) (g:zs.length≤1000):xs.length + zs.length≤sizeLine:=by rw [sizeLine_eq]; omega
theorem zafg {xs:List V}{v:V} (h:xs.length≤999):(xs++[v]).length≤1000:=by rw [List.length_append]; exact Nat.succ_le_succ h
end

section
section
variable {P:Program}{w:World}{K:PySem.W.Frag}{mg:Str→Option Value}{base:Heap}{f:Addr}{fd:FuncData}{k:Nat}
theorem zado:Nd "_law_glued" := by decide +kernel
theorem zafp:Nd "_law_bad_name" := by decide +kernel
theorem zafq:Nd "_law_bad_expr" := by decide +kernel
theorem av49:AF (defScope (top 49)) ["_law_script", "_law_at", "_law_pieces_here", "_law_n", "_law_m", "_law_text", "_law_way", "_law_spot", "_law_signs", "_law_word", "_law_bad"]:=⟨by decide +kernel⟩
theorem gl49:AG (defScope (top 49)) ["_law_next", "_law_glued", "len", "int", "_law_bad_name", "_law_bad_expr"]:=⟨by decide +kernel⟩
def spSpo (K:PySem.W.Frag):Sp:=fun vs H Q _=>∃ (a b q:Addr) (ns:List Int) (c:Int) (r:Rw),vs=[.ref a,.ref b,.ref q]∧Scr K H a ns∧H b=some (.lst [.int c])∧0≤c∧c < 2 ^ 40∧H q=some (.lst ((r.ts.map Tk.t).map V.str))∧q≠b∧r.ok∧r.ts.length≤300 ∧
 ∀ x H',Bd x→Ch [b] H H'→H' b=some (.lst [.int (c + 2)])→Q (.str x) H'
theorem scSpo:FnScope ["_law_script", "_law_at", "_law_pieces_here", "_law_n", "_law_m", "_law_text", "_law_way", "_law_spot", "_law_signs", "_law_word", "_law_bad"] ["_law_script", "_law_at", "_law_pieces_here"] (defScope (top 49)):=⟨rfl,rfl,rfl,by decide +kernel,rfl,by decide +kernel,by decide +kernel⟩
theorem zawq (F:Fun K "_law_spoilt" "_law_spoilt" (top 49) f fd) (D_law_next:DefOk P w K mg base CX0 k "_law_next" ["_law_script", "_law_at"] (spNext K)) (D_law_glued:DefOk P w K mg base CX0 k "_law_glued" ["_law_pieces_here"] spGl) (D_law_bad_name:DefOk P w K mg base CX0 k "_law_bad_name" ["_law_n"] spBN) (D_law_bad_expr:DefOk P w K mg base CX0 k "_law_bad_expr" ["_law_n"] spBX) (z_len:mg "len" = none) (z_int:mg "int" = none):FnOk P w K mg base CX0 (k + 1) f fd ["_law_script", "_law_at", "_law_pieces_here"] (spSpo K):=by
 have nd:=scSpo.nd
 refine F.ok scSpo (fun vs H Q E h=>by obtain ⟨a,b,q,ns,c,r,rfl,_⟩:=h; rfl) (fun cdv A outer s H vs Q E hr h=>?_)
 obtain ⟨a,b,pq,ns,c,r,rfl,hS,hb,c0,c1,gq,nqb,ok,l300,q⟩:=h
 refine ⟨_,(Pr.h (zaad (zaan (i:=3) nd rfl (av49.l 3 rfl) (zaak D_law_next hr (gl49.g 0 rfl) pass0 (zaaa (qv av49 0 rfl) (zaaa (qv av49 1 rfl) zaac zaag) zaag) zabj)) (zaad (zaan (i:=4) nd rfl (av49.l 4 rfl) (zaak D_law_next hr (gl49.g 0 rfl) pass0 (zaaa (qv av49 0 rfl) (zaaa (qv av49 1 rfl) zaac zaag) zaag) zabj)) (zaad (zaan (i:=5) nd rfl (av49.l 5 rfl) (zaak D_law_glued hr (gl49.g 1 rfl) pass0 (zaaa (qv av49 2 rfl) zaac zaag) zado)) (zab0 (zaan (i:=6) nd rfl (av49.l 6 rfl) (zaaj zaa0 (qv av49 3 rfl) zaae)) (zaad (zaat (zaam zabp (qv av49 6 rfl) zaae (nomark _)) (zaad (zaan (i:=7) nd rfl (av49.l 7 rfl) (zaaj zaa0 (qv av49 4 rfl) (zaaj zacc (zaas zabt (gl49.g 2 rfl) z_len PySem.boot_len (zaaa (qv av49 5 rfl) zaac zaag) zab3 zab4) zaae))) (zaad (zaan (i:=8) nd rfl (av49.l 8 rfl) zaaf) (zaah (zaao (zaaj zaa9 (zaaj zaa9 (zaa1 zaee (qv av49 5 rfl) zabb (zaa4 (qv av49 7 rfl))) (zaar zacf (qv av49 8 rfl) (zaaj zaa0 (zaaj zaa3 (qv av49 4 rfl) zaae) (zaas zabt (gl49.g 2 rfl) z_len PySem.boot_len (zaaa (qv av49 8 rfl) zaac zaag) zab3 zab4)) (fun _ _=>rfl))) (zaa1 zaee (qv av49 5 rfl) (zaa4 (qv av49 7 rfl)) zabb)))))) zaap) (zaad (zaat (zaam zabp (qv av49 6 rfl) zaae (nomark _)) (zaah (zaao (zaaj zaa9 (qv av49 5 rfl) (zaar zaav (zaay (zaaa zaaf (zaaa zaaf (zaaa zaaf (zaaa zaaf (zaaa zaaf (zaaa zaaf (zaaa zaaf (zaaa zaaf (zaaa zaaf (zaaa zaaf (zaaa zaaf (zaaa zaaf zaac zaab) zaab) zaab) zaab) zaab) zaab) zaab) zaab) zaab) zaab) zaab) zaab)) (zaaj zaa0 (qv av49 4 rfl) zaae) (fun _ _=>rfl))))) zaap) (zaad (zaat (zaam zabp (qv av49 6 rfl) zaae (nomark _)) (zaad (zaan (i:=9) nd rfl (av49.l 9 rfl) (zaar zaav (zaay (zaaa zaaf (zaaa zaaf (zaaa zaaf (zaaa zaaf (zaaa zaaf (zaaa zaaf (zaaa zaaf (zaaa zaaf (zaaa zaaf zaac zaab) zaab) zaab) zaab) zaab) zaab) zaab) zaab) zaab)) (zaaj zaa0 (qv av49 4 rfl) zaae) (fun _ _=>rfl))) (zab0 (zaat (zaam zabp (qv av49 9 rfl) (zaar zaav (qv av49 2 rfl) zaae (fun _ _=>rfl)) (nomark _)) (zaah (zaan (i:=9) nd rfl (av49.l 9 rfl) zaaf)) zaap) (zaah (zaao (zaaj zaa9 (zaaj zaa9 (qv av49 9 rfl) (zaaj zap2 zaaf (zaaj zaa0 (zaaj zaa3 (qv av49 4 rfl) zaae) zaae))) (zaa1 zaee (qv av49 5 rfl) (zaa4 (zaas zabt (gl49.g 2 rfl) z_len PySem.boot_len (zaaa (zaar zaav (qv av49 2 rfl) zaae (fun _ _=>rfl)) zaac zaaq) zab3 zab4)) zabb)))))) zaap) (zaad (zaat (zacx (zadc (zaam zabp (qv av49 6 rfl) zaae (nomark _)) (zadd (zaam zapa (zaas zaa2 (gl49.g 2 rfl) z_len PySem.boot_len (zaaa (qv av49 2 rfl) zaac zaag) zab3 zab4) zaae (nomark _))))) (zaad (zaan (i:=7) nd rfl (av49.l 7 rfl) (zaaj zacc zaae (zaba zaf1 (gl49.g 3 rfl) z_int zagf (zaaa (zask (zadb zabp (zaar zaav (qv av49 2 rfl) zaae (fun _ _=>rfl)) zaaf (nomark _)) (zasl (zadb zabp (zaaj zaa0 (zaaj zaa3 (qv av49 4 rfl) zaae) zaae) zaae (nomark _)))) zaac zams) zagg zagh))) (zaah (zaao (zaak D_law_glued hr (gl49.g 1 rfl) pass0 (zaaa (zaaj zac3 (zaaj zac3 (zaa1 zac0 (qv av49 2 rfl) zabb (zaa4 (qv av49 7 rfl))) (zaay (zaaa (zaak D_law_bad_name hr (gl49.g 4 rfl) pass0 (zaaa (qv av49 4 rfl) zaac zaag) zafp) zaac zaaz))) (zaa1 zac0 (qv av49 2 rfl) (zaa4 (zaaj zacc (qv av49 7 rfl) zaae)) zabb)) zaac zabx) zado)))) zaap) (zaad (zaat (zacx (zadc (zaam zabp (qv av49 6 rfl) zaae (nomark _)) (zadd (zaam zaen (zaar zaav (qv av49 2 rfl) zaae (fun _ _=>rfl)) (zaay (zaaa zaaf (zaaa zaaf zaac zaab) zaab)) rfl)))) (zaad (zaan (i:=10) nd rfl (av49.l 10 rfl) (zaar zaav (zaay (zaaa zaaf (zaaa zaaf (zaaa zaaf (zaaa zaaf (zaaa zaaf (zaaa zaaf (zaaa zaaf zaac zaab) zaab) zaab) zaab) zaab) zaab) zaab)) (zaaj zaa0 (qv av49 4 rfl) zaae) (fun _ _=>rfl))) (zaad (zaan (i:=7) nd rfl (av49.l 7 rfl) (zaaj zacc zaae (zaaj zaa0 (zaaj zaa3 (qv av49 4 rfl) zaae) (zaaj zael (zaas zaa2 (gl49.g 2 rfl) z_len PySem.boot_len (zaaa (qv av49 2 rfl) zaac zaag) zab3 zab4) zaae)))) (zaah (zaao (zabz PySem.F.plainAttrs_str PySem.F.slot_str_join PySem.F.type_str_join zaf9 zaaf (zaaa (zaaj zac3 (zaaj zac3 (zaa1 zac0 (qv av49 2 rfl) zabb (zaa4 (qv av49 7 rfl))) (zaay (zaaa (qv av49 10 rfl) zaac zaag))) (zaa1 zac0 (qv av49 2 rfl) (zaa4 (zaaj zacc (qv av49 7 rfl) zaae)) zabb)) zaac zabx)))))) zaap) (zaad (zaat (zacx (zadc (zaam zabp (qv av49 6 rfl) zaae (nomark _)) (zadd (zaam zaen (zaar zaav (qv av49 2 rfl) zaae (fun _ _=>rfl)) (zaay (zaaa zaaf (zaaa zaaf (zaaa zaaf (zaaa zaaf zaac zaab) zaab) zaab) zaab)) rfl)))) (zaah (zaao (zaaj zaa9 (zaaj zaa9 (zabz PySem.F.plainAttrs_str PySem.F.slot_str_join PySem.F.type_str_join zaf9 zaaf (zaaa (zaa1 zac0 (qv av49 2 rfl) zabb (zaa4 (zaaj zacc zaae (zaba zaf1 (gl49.g 3 rfl) z_int zagf (zaaa (zadb zabp (zaar zaav (qv av49 2 rfl) zaae (fun _ _=>rfl)) zaaf (nomark _)) zaac zag8) zagg zagh)))) zaac zaaq)) zaaf) (zaak D_law_bad_expr hr (gl49.g 5 rfl) pass0 (zaaa (qv av49 4 rfl) zaac zaag) zafq)))) zaap) (zaah (zaao (zaar zaav (zaay (zaaa zaaf (zaaa zaaf (zaaa zaaf (zaaa zaaf zaac zaab) zaab) zaab) zaab)) (zaaj zaa0 (qv av49 4 rfl) zaae) (fun _ _=>rfl))))))))))))))),?_⟩
 (try dsimp only [cxOf])
 walk_at "rd"
 rename_i n H1 n0 n1 ch1 b1
 have hS1:=hS.ch hb ch1
 walk_at "rd"
 rename_i m H2 m0 m1 ch2 b2
 have hS2:=hS1.ch b1 ch2
 have g2:=ch2.get (ch1.get gq (by simpa using nqb)) (by simpa using nqb)
 have okt:=zagp ok
 have sm:=zahi (ts:=(r.ps.map RP.ts).flatten) fun t ht=>okt t (List.mem_cons_of_mem _ ht)
 have wl:r.w.length≤9:=zadv (okt (.wd r.w) (List.mem_cons_self ..))
 have ll:((r.ps.map RP.ts).flatten).length + 1≤300:=l300
 have ln:=zan9 ok (by have:=zah9 ok l300; omega)
 have lx:=zah9 ok l300
 have n10:=ln.no10
 walk_at "rd"
 refine ⟨by show r.w.length + _≤_; omega,by rw [List.length_map]; omega,fun H3 ch3=>?_⟩
 rw [show glueF (Tk.wd r.w).t (Tk.wd r.w).t (((r.ps.map RP.ts).flatten).map Tk.t)=rtx r from zafv ok]
 have g3:=ch3.get g2 (by simp)
 have q3:∀ x H',Bd x→Ch [] H3 H'→Q (.str x) H':=fun x H' hx c'=>q x H' hx ((ch1.trans ch2).trans (ch3.trans c').wk) (c'.get (ch3.get (by rw [b2,Int.add_assoc]; rfl) (by simp)) (by simp))
 clear q ch1 ch2 ch3 b1 b2 hS hS1 hS2 g2 gq hb nqb
 have lsz:(rtx r).length≤sizeLine:=by rw [sizeLine_eq]; omega
 have gl:(Str.ofString "ABZ!\"#$&'*+,-/;<=>?\x40[\\]^_`{|}~").length=30:=by decide +kernel
 have gl2:(Str.ofString "ABZ!\"#$&'*+,-/;<=>?\x40[\\]^_`{|}~").length≤sizeLine:=by rw [gl,sizeLine_eq]; decide
 have gl3:(Str.ofString "ABZ!\"#$&'*+,-/;<=>?\x40[\\]^_`{|}~").cps.toList.length=30:=by rw [Strl,gl]
 have md:0≤n % 7∧n % 7 < 7:=⟨by omega,by omega⟩
 refine zacw (fun σ H'=>∃ j:Int,σ=[some (.ref a),some (.ref b),some (.ref pq),some (.int n),some (.int m),some (.str (rtx r)),some (.int j),none,none,none,none]∧H'=H3∧0≤j∧j < 7) ?_ ?_
 ·walk_at "rd"
  exact md.2
 clear md
 rintro σ H' ⟨j,rfl,rfl,j0,j7⟩
 walk_at "rd"
 refine ite2 (fun hc=>?_) (fun hc=>?_)
 ·obtain ⟨i,ei,il⟩:∃ i:Nat,m % (((rtx r).length:Int) + 1)=(i:Int)∧i≤(rtx r).length:=⟨(m % (((rtx r).length:Int) + 1)).toNat,by have:=Int.emod_nonneg m (b:=((rtx r).length:Int) + 1) (by omega); omega,by have:=Int.emod_lt_of_pos m (b:=((rtx r).length:Int) + 1) (by omega); have:=Int.emod_nonneg m (b:=((rtx r).length:Int) + 1) (by omega); omega⟩
  have s1:=Txt.slice_le (rtx r) none (some (m % (((rtx r).length:Int) + 1)))
  have s2:=Txt.slice_le (rtx r) (some (m % (((rtx r).length:Int) + 1))) none
  walk_at "rd"
  refine Atx.any (by rw [gl]; omega) (by rw [gl,gl3]; omega) fun d hd _=>?_
  have od:=zaqr d hd
  have c1:(⟨#[d]⟩:Str).length=1:=rfl
  have s3:=zabm (Txt.slice (rtx r) none (some (m % (((rtx r).length:Int) + 1)))) ⟨#[d]⟩
  rw [c1] at s3
  have s4:(Txt.slice (rtx r) none (some (m % (((rtx r).length:Int) + 1)))).length + (⟨#[d]⟩:Str).length≤sizeLine:=by rw [c1,sizeLine_eq]; omega
  have s5:(Txt.slice (rtx r) none (some (m % (((rtx r).length:Int) + 1)))++⟨#[d]⟩).length + (Txt.slice (rtx r) (some (m % (((rtx r).length:Int) + 1))) none).length≤sizeLine:=by rw [sizeLine_eq]; omega
  have fin:=w0 lx n10 il od.1 od.2
  rw [← ei] at fin
  walk_at "rd"
  exact q3 _ _ fin (Ch.refl _ _)
 walk_at "rd"
 refine ite2 (fun hc1=>?_) (fun hc1=>?_)
 ·walk_at "rd"
  rename_i p hp
  refine Atx.any (by omega) (by show m % 12 < 12; omega) fun v hv _=>?_
  obtain ⟨u,hu,rfl⟩:=List.mem_map.mp (show v∈SUF.map V.str from hv)
  have su:=zaij u hu
  have s4:(rtx r).length + u.length≤sizeLine:=by rw [sizeLine_eq]; omega
  walk_at "rd"
  exact q3 _ _ (w1 ln lx hu) (Ch.new hp _)
 walk_at "rd"
 refine ite2 (fun hc2=>?_) (fun hc2=>?_)
 ·walk_at "rd"
  rename_i p hp
  refine Atx.any (by omega) (by show m % 9 < 9; omega) fun v hv _=>?_
  obtain ⟨u,hu,rfl⟩:=List.mem_map.mp (show v∈(HEADS.take 9).map V.str from hv)
  have hu:=List.mem_of_mem_take hu
  obtain ⟨H4,e4⟩:∃ H4,upd H' p (.lst [V.str (Str.ofString ""),V.str (Str.ofString "zz"),V.str (Str.ofString "part"),V.str (Str.ofString "5"),V.str (Str.ofString "("),V.str (Str.ofString "module"),V.str (Str.ofString "not"),V.str (Str.ofString " "),V.str (Str.ofString "   ")])=H4:=⟨_,rfl⟩
  have c4:Ch [] H' H4:=by rw [← e4]; exact Ch.new hp _
  rw [e4]
  have g4:=c4.get g3 (by simp)
  have md:0≤m / 9 % 2∧m / 9 % 2 < 2:=⟨by omega,by omega⟩
  clear hv e4 hp
  walk_at "rd"
  refine zacw (fun σ H2=>∃ u,σ=[some (.ref a),some (.ref b),some (.ref pq),some (.int n),some (.int m),some (.str (rtx r)),some (.int j),none,none,some (.str u),none]∧H2=H4∧u∈HEADS∧(u=r.w→u≠Str.ofString "module")) ?_ ?_
  ·walk_at "rd"
   refine ite2 (fun he=>?_) (fun he=>?_)
   ·walk_at "rd"
    rename_i z1 z2
    exact absurd z2 (by decide +kernel)
   ·have he:u≠r.w:=fun z=>he (by rw [z]; exact decide_eq_true rfl)
    walk_at "rd"
    rename_i z1 z2
    exact he z1
  rintro σ H2 ⟨u,rfl,rfl,hu,hm⟩
  have hh:=zady u hu
  have s6:=Txt.slice_le (rtx r) (some (r.w.length:Int)) none
  walk_at "rd"
  rename_i z hz
  have zl:z.length≤1:=by rw [← Strl,hz,List.length_replicate]; omega
  have s7:u.length + z.length≤sizeLine:=by rw [sizeLine_eq]; omega
  have s8:(u++z).length + (Txt.slice (rtx r) (some (r.w.length:Int)) none).length≤sizeLine:=by rw [zabm,sizeLine_eq]; omega
  have wz:r.w.length≤sizeLine:=by rw [sizeLine_eq]; omega
  have fin:=w2 ok ln lx hu hm (n:=(m / 9 % 2).toNat) (by omega) hz
  refine ⟨s7,?_⟩
  walk_at "rd"
  exact q3 _ _ fin c4
 walk_at "rd"
 have tc:∀ i:Int,decide (V.int j=V.int i)=true↔j=i:=fun i=>by rw [decide_eq_true_iff]; exact ⟨fun z=>V.int.inj z,fun z=>by rw [z]⟩
 rw [tc] at hc hc1 hc2
 refine ite2 (fun hc3=>?_) (fun hc3=>?_)
 ·rw [tc] at hc3
  walk_at "rd"
  refine ite2 (fun hd3=>?_) (fun hd3=>?_)
  ·have hd3:=of_decide_eq_true hd3
   rw [List.length_map,List.length_map] at hd3
   obtain ⟨x,l,et,nx⟩:∃ x l,r.ts=.wd r.w :: .nm x :: l∧Nm x:=by
    rcases zakg ok with ⟨t,_⟩ | ⟨x,l,t,nx,_⟩
    ·have t:(r.ps.map RP.ts).flatten=[]:=t
     have:r.ts.length=1:=by show ((r.ps.map RP.ts).flatten).length + 1=1; rw [t]; rfl
     omega
    ·have t:(r.ps.map RP.ts).flatten=.nm x :: l:=t
     exact ⟨x,l,by show .wd r.w :: (r.ps.map RP.ts).flatten=_; rw [t],nx⟩
   have hl:l.length≤300:=by rw [et] at l300; simp only [List.length_cons] at l300; omega
   have g4:H' pq=some (.lst ((r.w :: x :: l.map Tk.t).map V.str)):=by rw [g3,et]; rfl
   have lc:∀ c d,(cutV ((r.w :: x :: l.map Tk.t).map V.str) c d).length≤999:=fun c d=>by
    have:=zagx ((r.w :: x :: l.map Tk.t).map V.str) c d
    simp only [List.length_map,List.length_cons] at this
    omega
   have okl:∀ t∈l,t.ok:=fun t ht=>okt t (by rw [et]; simp [ht])
   have sml:=zahi okl
   have p2:1 < (r.w :: x :: l.map Tk.t).length:=by simp
   have xl:x.length≤9:=zadv (t:=.nm x) nx
   walk_at "rd"
   refine ite2 (fun hu=>?_) (fun hu=>?_)
   ·have hw:r.w=Str.ofString "use" := V.str.inj (of_decide_eq_true hu)
    obtain ⟨x',y',l',et'⟩:=sh3 ok hw
    have el:l=.nm y' :: l':=by rw [et] at et'; simp only [List.cons.injEq] at et'; exact et'.2.2
    have ex:x=x':=by rw [et] at et'; simp only [List.cons.injEq,Tk.nm.injEq] at et'; exact et'.2.1
    subst ex
    subst el
    have hl':l'.length≤300:=by simp only [List.length_cons] at hl; omega
    have p3:2 < (r.w :: x :: (Tk.nm y' :: l').map Tk.t).length:=by simp
    cases hb2:decide (V.int (m / 200 % 2)=V.int 1) with
    | false =>
     have ei:(1 + if decide (V.int (m / 200 % 2)=V.int 1)=true then (1:Int) else 0)=((1:Nat):Int):=by rw [hb2]; rfl
     walk_at "rd"
     rename_i pA hA u H5 hu5 c5 pB hB
     have bn:=zaeb u hu5
     refine ⟨zacl (Nat.le_succ_of_le (lc _ _)) (by show 1≤1000; decide),?_⟩
     walk_at "rd"
     refine ⟨zacl (zafg (lc _ _)) (Nat.le_succ_of_le (lc _ _)),?_⟩
     walk_at "rd"
     refine ⟨(show _=some (HO.lst ((r.w :: u :: (Tk.nm y' :: l').map Tk.t).map V.str)) by rw [zaai]; exact congrArg (fun z=>some (HO.lst z)) (cut3 _ u ei p2)),rfl,?_⟩
     refine ⟨by simp only [List.map_cons,List.sum_cons,List.length_cons] at sml ⊢; omega,by simp only [List.length_cons,List.length_map] at hl ⊢; omega,fun H9 c9=>?_⟩
     exact q3 _ _ (w3a ok et hl hu5) (by walk_at "ch")
    | true =>
     have ei:(1 + if decide (V.int (m / 200 % 2)=V.int 1)=true then (1:Int) else 0)=((2:Nat):Int):=by rw [hb2]; rfl
     walk_at "rd"
     rename_i pA hA u H5 hu5 c5 pB hB
     have bn:=zaeb u hu5
     refine ⟨zacl (Nat.le_succ_of_le (lc _ _)) (by show 1≤1000; decide),?_⟩
     walk_at "rd"
     refine ⟨zacl (zafg (lc _ _)) (Nat.le_succ_of_le (lc _ _)),?_⟩
     walk_at "rd"
     refine ⟨(show _=some (HO.lst ((r.w :: x :: u :: l'.map Tk.t).map V.str)) by rw [zaai]; exact congrArg (fun z=>some (HO.lst z)) (cut3 _ u ei p3)),rfl,?_⟩
     refine ⟨by simp only [List.map_cons,List.sum_cons,List.length_cons] at sml ⊢; omega,by simp only [List.length_cons,List.length_map] at hl ⊢; omega,fun H9 c9=>?_⟩
     exact q3 _ _ (w3b ok hw et' hl' hu5) (by walk_at "ch")
   ·walk_at "rd"
    rename_i pA hA u H5 hu5 c5 pB hB
    have bn:=zaeb u hu5
    refine ⟨zacl (Nat.le_succ_of_le (lc _ _)) (by show 1≤1000; decide),?_⟩
    walk_at "rd"
    refine ⟨zacl (zafg (lc _ _)) (Nat.le_succ_of_le (lc _ _)),?_⟩
    walk_at "rd"
    refine ⟨(show _=some (HO.lst ((r.w :: u :: l.map Tk.t).map V.str)) by rw [zaai]; exact congrArg (fun z=>some (HO.lst z)) (cut3 _ u (i:=1) rfl p2)),rfl,?_⟩
    refine ⟨by simp only [List.map_cons,List.sum_cons,List.length_cons] at sml ⊢; omega,by simp only [List.length_cons,List.length_map] at hl ⊢; omega,fun H9 c9=>?_⟩
    exact q3 _ _ (w3a ok et hl hu5) (by walk_at "ch")
  walk_at "rd"
  refine ite2 (fun z=>absurd ((tc 4).mp z) (by omega)) (fun _=>?_)
  walk_at "rd"
  refine ite2 (fun z=>absurd ((tc 5).mp z) (by omega)) (fun _=>?_)
  walk_at "rd"
  rename_i p hp
  refine Atx.any (by omega) (by show m % 4 < 4; omega) fun v hv _=>?_
  obtain ⟨u,hu,rfl⟩:=List.mem_map.mp (show v∈ELSE.map V.str from hv)
  exact q3 _ _ (zafy u hu) (by walk_at "ch")
 rw [tc] at hc3
 walk_at "rd"
 refine ite2 (fun hc4=>?_) (fun hc4=>?_)
 ·rw [tc] at hc4
  walk_at "rd"
  rename_i p hp
  refine ite2 (fun hd=>?_) (fun hd=>?_)
  ·have hd:r.w∈[Str.ofString "in",Str.ofString "keep"]:=of_decide_eq_true ((zage r.w [Str.ofString "in",Str.ofString "keep"]).symm.trans hd)
   have c4:Ch [] H' (upd H' p (.lst [V.str (Str.ofString "in"),V.str (Str.ofString "keep")])):=Ch.new hp _
   generalize upd H' p (.lst [V.str (Str.ofString "in"),V.str (Str.ofString "keep")])=H4 at c4 ⊢
   have g4:=c4.get g3 (by simp)
   clear g3 hp
   rcases sh4 ok hd with ⟨x,y,hx,hy,e⟩ | ⟨x,y,z,hx,hy,hz,e⟩
   ·rw [e] at g4
    obtain ⟨ps,eps⟩:∃ ps,[Str.ofString "in",x,num y]=ps:=⟨_,rfl⟩
    rw [eps] at g4
    have lp:(ps.map V.str).length=3:=by rw [List.length_map,← eps]; rfl
    have lc:∀ c d,(cutV (ps.map V.str) c d).length≤999:=fun c d=>by
     have:=zagx (ps.map V.str) c d
     omega
    have lp2:ps.length=3:=by rw [← eps]; rfl
    have ei:2 + m / 7 % (((ps.map V.str).length:Int) - 2)=((2:Nat):Int):=by rw [lp]; omega
    walk_at "rd"
    rename_i pA hA
    refine Atx.any (by omega) (by show m % 7 < 7; omega) fun v hv _=>?_
    obtain ⟨u,hu,rfl⟩:=List.mem_map.mp (show v∈BADNU.map V.str from hv)
    have bn:=zacu u hu
    have gA:=zaep (u:=.lst [V.str (Str.ofString "1234567890"),V.str (Str.ofString "01"),V.str (Str.ofString "00"),V.str (Str.ofString "x"),V.str (Str.ofString "-1"),V.str (Str.ofString "("),V.str (Str.ofString "1.5")]) hA g4
    have cA:Ch [] H4 (upd H4 pA (.lst [V.str (Str.ofString "1234567890"),V.str (Str.ofString "01"),V.str (Str.ofString "00"),V.str (Str.ofString "x"),V.str (Str.ofString "-1"),V.str (Str.ofString "("),V.str (Str.ofString "1.5")])):=Ch.new hA _
    generalize upd H4 pA (.lst [V.str (Str.ofString "1234567890"),V.str (Str.ofString "01"),V.str (Str.ofString "00"),V.str (Str.ofString "x"),V.str (Str.ofString "-1"),V.str (Str.ofString "("),V.str (Str.ofString "1.5")])=H5 at gA cA ⊢
    clear hv hA g4
    walk_at "rd"
    refine ⟨zacl (Nat.le_succ_of_le (lc _ _)) (by show 1≤1000; decide),?_⟩
    walk_at "rd"
    refine ⟨zacl (zafg (lc _ _)) (Nat.le_succ_of_le (lc _ _)),?_⟩
    walk_at "rd"
    refine ⟨SqL.of (show _=some (HO.lst (List.map V.str [Str.ofString "in",x,u])) by rw [zaai]; exact congrArg (fun z=>some (HO.lst z)) ((cut3 ps u ei (by omega)).trans (by rw [← eps]; rfl))),?_,?_⟩
    ·simp only [List.map_cons,List.map_nil,List.sum_cons,List.sum_nil,List.length_cons,List.length_nil]
     have:=x_10 hx
     have:=n_10 hy
     have k1:(Str.ofString "in").length=2:=by decide +kernel
     have k2:(Str.ofString "keep").length=4:=by decide +kernel
     have k3:(Str.ofString " ").length=1:=by decide +kernel
     omega
    exact q3 _ _ (w4a hx hu) (by walk_at "ch")
   ·rw [e] at g4
    obtain ⟨ps,eps⟩:∃ ps,[Str.ofString "keep",x,num y,num z]=ps:=⟨_,rfl⟩
    rw [eps] at g4
    have lp:(ps.map V.str).length=4:=by rw [List.length_map,← eps]; rfl
    have lc:∀ c d,(cutV (ps.map V.str) c d).length≤999:=fun c d=>by
     have:=zagx (ps.map V.str) c d
     omega
    have lp2:ps.length=4:=by rw [← eps]; rfl
    rcases (show m / 7 % 2=0∨m / 7 % 2=1 by omega) with h7 | h7
    ·have ei:2 + m / 7 % (((ps.map V.str).length:Int) - 2)=((2:Nat):Int):=by rw [lp]; omega
     walk_at "rd"
     rename_i pA hA
     refine Atx.any (by omega) (by show m % 7 < 7; omega) fun v hv _=>?_
     obtain ⟨u,hu,rfl⟩:=List.mem_map.mp (show v∈BADNU.map V.str from hv)
     have bn:=zacu u hu
     have gA:=zaep (u:=.lst [V.str (Str.ofString "1234567890"),V.str (Str.ofString "01"),V.str (Str.ofString "00"),V.str (Str.ofString "x"),V.str (Str.ofString "-1"),V.str (Str.ofString "("),V.str (Str.ofString "1.5")]) hA g4
     have cA:Ch [] H4 (upd H4 pA (.lst [V.str (Str.ofString "1234567890"),V.str (Str.ofString "01"),V.str (Str.ofString "00"),V.str (Str.ofString "x"),V.str (Str.ofString "-1"),V.str (Str.ofString "("),V.str (Str.ofString "1.5")])):=Ch.new hA _
     generalize upd H4 pA (.lst [V.str (Str.ofString "1234567890"),V.str (Str.ofString "01"),V.str (Str.ofString "00"),V.str (Str.ofString "x"),V.str (Str.ofString "-1"),V.str (Str.ofString "("),V.str (Str.ofString "1.5")])=H5 at gA cA ⊢
     clear hv hA g4
     walk_at "rd"
     refine ⟨zacl (Nat.le_succ_of_le (lc _ _)) (by show 1≤1000; decide),?_⟩
     walk_at "rd"
     refine ⟨zacl (zafg (lc _ _)) (Nat.le_succ_of_le (lc _ _)),?_⟩
     walk_at "rd"
     refine ⟨SqL.of (show _=some (HO.lst (List.map V.str [Str.ofString "keep",x,u,num z])) by rw [zaai]; exact congrArg (fun z=>some (HO.lst z)) ((cut3 ps u ei (by omega)).trans (by rw [← eps]; rfl))),?_,?_⟩
     ·simp only [List.map_cons,List.map_nil,List.sum_cons,List.sum_nil,List.length_cons,List.length_nil]
      have:=x_10 hx
      have:=n_10 hy
      have k1:(Str.ofString "in").length=2:=by decide +kernel
      have k2:(Str.ofString "keep").length=4:=by decide +kernel
      have k3:(Str.ofString " ").length=1:=by decide +kernel
      have:=n_10 hz
      omega
     exact q3 _ _ (w4b hx hz hu) (by walk_at "ch")
    ·have ei:2 + m / 7 % (((ps.map V.str).length:Int) - 2)=((3:Nat):Int):=by rw [lp]; omega
     walk_at "rd"
     rename_i pA hA
     refine Atx.any (by omega) (by show m % 7 < 7; omega) fun v hv _=>?_
     obtain ⟨u,hu,rfl⟩:=List.mem_map.mp (show v∈BADNU.map V.str from hv)
     have bn:=zacu u hu
     have gA:=zaep (u:=.lst [V.str (Str.ofString "1234567890"),V.str (Str.ofString "01"),V.str (Str.ofString "00"),V.str (Str.ofString "x"),V.str (Str.ofString "-1"),V.str (Str.ofString "("),V.str (Str.ofString "1.5")]) hA g4
     have cA:Ch [] H4 (upd H4 pA (.lst [V.str (Str.ofString "1234567890"),V.str (Str.ofString "01"),V.str (Str.ofString "00"),V.str (Str.ofString "x"),V.str (Str.ofString "-1"),V.str (Str.ofString "("),V.str (Str.ofString "1.5")])):=Ch.new hA _
     generalize upd H4 pA (.lst [V.str (Str.ofString "1234567890"),V.str (Str.ofString "01"),V.str (Str.ofString "00"),V.str (Str.ofString "x"),V.str (Str.ofString "-1"),V.str (Str.ofString "("),V.str (Str.ofString "1.5")])=H5 at gA cA ⊢
     clear hv hA g4
     walk_at "rd"
     refine ⟨zacl (Nat.le_succ_of_le (lc _ _)) (by show 1≤1000; decide),?_⟩
     walk_at "rd"
     refine ⟨zacl (zafg (lc _ _)) (Nat.le_succ_of_le (lc _ _)),?_⟩
     walk_at "rd"
     refine ⟨SqL.of (show _=some (HO.lst (List.map V.str [Str.ofString "keep",x,num y,u])) by rw [zaai]; exact congrArg (fun z=>some (HO.lst z)) ((cut3 ps u ei (by omega)).trans (by rw [← eps]; rfl))),?_,?_⟩
     ·simp only [List.map_cons,List.map_nil,List.sum_cons,List.sum_nil,List.length_cons,List.length_nil]
      have:=x_10 hx
      have:=n_10 hy
      have k1:(Str.ofString "in").length=2:=by decide +kernel
      have k2:(Str.ofString "keep").length=4:=by decide +kernel
      have k3:(Str.ofString " ").length=1:=by decide +kernel
      have:=n_10 hz
      omega
     exact q3 _ _ (w4c hx hy hu) (by walk_at "ch")
  walk_at "rd"
  refine ite2 (fun z=>absurd ((tc 5).mp z) (by omega)) (fun _=>?_)
  walk_at "rd"
  rename_i p2 hp2
  refine Atx.any (by omega) (by show m % 4 < 4; omega) fun v hv _=>?_
  obtain ⟨u,hu,rfl⟩:=List.mem_map.mp (show v∈ELSE.map V.str from hv)
  exact q3 _ _ (zafy u hu) (by walk_at "ch")
 rw [tc] at hc4
 walk_at "rd"
 refine ite2 (fun hc5=>?_) (fun hc5=>?_)
 ·rw [tc] at hc5
  walk_at "rd"
  rename_i p hp
  refine ite2 (fun hd=>?_) (fun hd=>?_)
  ·have hd:r.w∈[Str.ofString "let",Str.ofString "next",Str.ofString "out",Str.ofString "use"]:=of_decide_eq_true ((zage r.w [Str.ofString "let",Str.ofString "next",Str.ofString "out",Str.ofString "use"]).symm.trans hd)
   have c4:Ch [] H' (upd H' p (.lst [V.str (Str.ofString "let"),V.str (Str.ofString "next"),V.str (Str.ofString "out"),V.str (Str.ofString "use")])):=Ch.new hp _
   generalize upd H' p (.lst [V.str (Str.ofString "let"),V.str (Str.ofString "next"),V.str (Str.ofString "out"),V.str (Str.ofString "use")])=H4 at c4 ⊢
   have g4:=c4.get g3 (by simp)
   clear g3 hp
   rcases sh5 ok hd with ⟨x,l,hw,nx,e⟩ | ⟨x,y,l,hw,nx,ny,e⟩
   ·rw [e] at g4
    have hne:=(e_no hw).1
    have xx:=x_10 nx
    have ei:(2 + if decide (V.str r.w=V.str (Str.ofString "use"))=true then (1:Int) else 0)=((2:Nat):Int):=by rw [decide_eq_false (fun z=>hne (V.str.inj z))]; rfl
    have k3:(Str.ofString " ").length=1:=by decide +kernel
    have jl:=zalk (l:=[r.w,x]) (fun a ha=>by simp only [List.mem_cons,List.not_mem_nil,or_false] at ha; rcases ha with rfl | rfl <;> omega) (by simp)
    have j1:(Str.join " " [r.w,x]).length + (Str.ofString " ").length≤sizeLine:=by rw [sizeLine_eq]; omega
    walk_at "rd"
    refine ⟨SqL.of (show _=some (HO.lst (List.map V.str [r.w,x])) by rw [zaai]; exact congrArg (fun z=>some (HO.lst z)) (by rw [ei]; exact (zalh (r.w :: x :: l) (i:=2) (by simp)))),?_,?_⟩
    ·simp only [List.map_cons,List.map_nil,List.sum_cons,List.sum_nil,List.length_cons,List.length_nil]
     have k3:(Str.ofString " ").length=1:=by decide +kernel
     omega
    walk_at "rd"
    rename_i u H8 hu c8
    have bx:=zaec u hu
    refine ⟨by rw [zabm,k3,sizeLine_eq]; omega,?_⟩
    exact q3 _ _ (w5a hw nx hu) (by walk_at "ch")
   ·rw [e] at g4
    have xx:=x_10 nx
    have yy:=x_10 ny
    have ei:(2 + if decide (V.str r.w=V.str (Str.ofString "use"))=true then (1:Int) else 0)=((3:Nat):Int):=by rw [hw]; rfl
    have k3:(Str.ofString " ").length=1:=by decide +kernel
    have jl:=zalk (l:=[r.w,x,y]) (fun a ha=>by simp only [List.mem_cons,List.not_mem_nil,or_false] at ha; rcases ha with rfl | rfl | rfl <;> omega) (by simp)
    have j1:(Str.join " " [r.w,x,y]).length + (Str.ofString " ").length≤sizeLine:=by rw [sizeLine_eq]; omega
    walk_at "rd"
    refine ⟨SqL.of (show _=some (HO.lst (List.map V.str [r.w,x,y])) by rw [zaai]; exact congrArg (fun z=>some (HO.lst z)) (by rw [ei]; exact (zalh (r.w :: x :: y :: l) (i:=3) (by simp)))),?_,?_⟩
    ·simp only [List.map_cons,List.map_nil,List.sum_cons,List.sum_nil,List.length_cons,List.length_nil]
     have k3:(Str.ofString " ").length=1:=by decide +kernel
     omega
    walk_at "rd"
    rename_i u H8 hu c8
    have bx:=zaec u hu
    refine ⟨by rw [zabm,k3,sizeLine_eq]; omega,?_⟩
    exact q3 _ _ (by rw [hw]; exact w5b nx ny hu) (by walk_at "ch")
  walk_at "rd"
  rename_i p2 hp2
  refine Atx.any (by omega) (by show m % 4 < 4; omega) fun v hv _=>?_
  obtain ⟨u,hu,rfl⟩:=List.mem_map.mp (show v∈ELSE.map V.str from hv)
  exact q3 _ _ (zafy u hu) (by walk_at "ch")
 walk_at "rd"
 rename_i p hp
 refine Atx.any (by omega) (by show m % 4 < 4; omega) fun v hv _=>?_
 obtain ⟨u,hu,rfl⟩:=List.mem_map.mp (show v∈ELSE.map V.str from hv)
 exact q3 _ _ (zafy u hu) (by walk_at "ch")
end
end

section
theorem zax2 {N:Nat}{ms:List Mod} (h:∀ m∈ms,MOk N m) {i:Nat}{x:Str} (hi:i < (rowsOf ms).length) (hl:(rowsOf ms).length≤100) (b:Bd x):SP5 ((txO ms).take i++[x]++(txO ms).drop (i + 1)) i where
 ex:=⟨(txO ms).take i,(rowsOf ms).take i,x :: (txO ms).drop (i + 1),by simp,by rw [List.length_take,List.length_map]; omega,zajk (zav2 h) i,(zaxo h).take i,.no b.nr (by have:=b.l; omega)⟩
 l1:=by simp only [List.length_append,List.length_cons,List.length_nil]; omega
 l2:=by simp only [List.length_append,List.length_cons,List.length_nil,List.length_take,List.length_drop,List.length_map]; omega
 sz:=fun y hy=>by
  have k:=zav1 h
  rcases List.mem_append.mp hy with z | z
  ·rcases List.mem_append.mp z with z | z
   ·have:=k y (List.mem_of_mem_take z); exact ⟨by omega,this.2⟩
   ·rw [List.mem_singleton.mp z]; exact ⟨b.l,b.n⟩
  ·have:=k y (List.mem_of_mem_drop z); exact ⟨by omega,this.2⟩
theorem zax3 {ls:List Str}{n o:Nat}{y:Str} (h:SP5 ls n) (ho:n < o) (ho2:o≤ls.length) (hl:ls.length≤150) (hy:y.length≤6000∧10 ∉ y.cps.toList):SP5 (ls.take o++[y]++ls.drop o) n where
 ex:=by
  obtain ⟨pre,rws,tl,e,en,p,v,t⟩:=h.ex
  cases t with
  | no nr lx =>
   rename_i x rest
   obtain ⟨j,ej⟩:∃ j,o=pre.length + (j + 1):=⟨o - pre.length - 1,by omega⟩
   refine ⟨pre,rws,x :: (rest.take j++[y]++rest.drop j),?_,en,p,v,.no nr lx⟩
   rw [e,ej,List.take_length_add_append,List.drop_length_add_append]
   simp
 l1:=by simp only [List.length_append,List.length_cons,List.length_nil]; omega
 l2:=by simp only [List.length_append,List.length_cons,List.length_nil,List.length_take,List.length_drop]; omega
 sz:=fun z hz=>by
  rcases List.mem_append.mp hz with q | q
  ·rcases List.mem_append.mp q with q | q
   ·exact h.sz z (List.mem_of_mem_take q)
   ·rw [List.mem_singleton.mp q]; exact hy
  ·exact h.sz z (List.mem_of_mem_drop q)
theorem SP5.js {ls:List Str}{n:Nat} (h:SP5 ls n):(ls.map (·.length)).sum + ls.length * (Str.ofString "\n").length≤16777216:=by
 have s:=zaid ls fun x hx=>(h.sz x hx).1
 have l2:=h.l2
 rw [show (Str.ofString "\n").length=1 by decide +kernel]
 omega
def OTH:List Str:=["", "let x", "zz", "in in 3"]
theorem zat3:∀ s∈OTH,s.length≤6000∧10 ∉ s.cps.toList:=by decide +kernel
theorem zajp {H:Hp}{p b:Addr}{xs:List V}{c:Int} (h:H p=some (.lst xs)) (hb:H b=some (.lst [.int c])) (x:xs≠[.int c]):p≠b:=fun z=>by
 subst z
 rw [h] at hb
 exact x (HO.lst.inj (Option.some.inj hb))
theorem zakk (xs:List Str) (c:Int):xs.map V.str≠[.int c]:=fun z=>by
 cases xs with
 | nil=>cases z
 | cons x xs=>have:=(List.cons.inj z).1; cases this
theorem zaoy (xs:List Addr) (c:Int):xs.map V.ref≠[.int c]:=fun z=>by
 cases xs with
 | nil=>cases z
 | cons x xs=>have:=(List.cons.inj z).1; cases this
structure TR (H:Hp) (tl rl l:Addr) (qr ps:List Addr) (ms:List Mod):Prop where
 t:H tl=some (.lst ((txO ms).map V.str))
 r:H rl=some (.lst (qr.map V.ref))
 l:H l=some (.lst (ps.map V.ref))
 p:Paired (RlAt H) (rowsOf ms) qr
theorem TR.chb {H H':Hp}{tl rl l b:Addr}{qr ps:List Addr}{ms:List Mod}{c:Int} (t:TR H tl rl l qr ps ms) (hb:H b=some (.lst [.int c])) (d:Ch [b] H H'):TR H' tl rl l qr ps ms :=
 ⟨d.get t.t (by simpa using zajp t.t hb (zakk _ _)),d.get t.r (by simpa using zajp t.r hb (zaoy _ _)),d.get t.l (by simpa using zajp t.l hb (zaoy _ _)),zaal (fun r q z=>⟨d.get z.h (by
  have:=zajp z.h hb (by
   have:=zakk (r.ts.map Tk.t) c
   rwa [List.map_map] at this)
  simpa using this)⟩) t.p⟩
theorem TR.ch {H H':Hp}{tl rl l:Addr}{qr ps:List Addr}{ms:List Mod} (t:TR H tl rl l qr ps ms) (d:Ch [] H H'):TR H' tl rl l qr ps ms :=
 ⟨d.get t.t (by simp),d.get t.r (by simp),d.get t.l (by simp),zaal (fun r q z=>⟨d.get z.h (by simp)⟩) t.p⟩
def txs (rs:List Rw):List V:=rs.map fun r=>V.str (rtx r)
section
variable {P:Program}{w:World}{K:PySem.W.Frag}{mg:Str→Option Value}{base:Heap}{f:Addr}{fd:FuncData}{k:Nat}
theorem zadz:Nd "_law_drawn_modules" := by decide +kernel
theorem zagy:Nd "_law_rows_of" := by decide +kernel
theorem zag2:Nd "_law_spoilt" := by decide +kernel
theorem zagz:Nd "_law_refused" := by decide +kernel
theorem av50:AF (defScope (top 50)) ["_law_script", "_law_at", "_law_due", "_law_rows", "_law_texts", "_law_k", "_law_n", "_law_spot", "_law_spoilt_here", "_law_other"]:=⟨by decide +kernel⟩
theorem gl50:AG (defScope (top 50)) ["_law_drawn_modules", "_law_rows_of", "read_modules", "range", "_law_next", "len", "_law_spoilt", "_law_refused"]:=⟨by decide +kernel⟩
def zaik:Scope:={ kind:=PySem.ScopeKind.function,names:=[ (PySem.Str.ofString ".0",PySem.NameKind.local),(PySem.Str.ofString "_law_pieces_here",PySem.NameKind.local),(PySem.Str.ofString "_law_glued",PySem.NameKind.globalImplicit)],isGenerator:=false,isCoroutine:=false,more:=[]:PySem.Scope }
theorem zaoz:CompOk zaik (defScope (top 50)) (["_law_pieces_here"]:List Str) (["_law_script", "_law_at", "_law_due", "_law_rows", "_law_texts", "_law_k", "_law_n", "_law_spot", "_law_spoilt_here", "_law_other"]:List Str) [] (["_law_pieces_here"]:List Str):=compOk rfl (by decide +kernel) (by decide +kernel) (by decide +kernel) (by decide +kernel) rfl (by decide +kernel)
theorem zao0:AK (relab zaik (defScope (top 50))) ["_law_pieces_here"]:=⟨by decide +kernel⟩
theorem zat4:AG (relab zaik (defScope (top 50))) ["_law_glued"]:=⟨by decide +kernel⟩
theorem zat5:AV (relab zaik (defScope (top 50))) ["_law_pieces_here"]:=⟨by decide +kernel⟩
def spLaw (K:PySem.W.Frag):Sp:=fun vs H Q _=>∃ (a:Addr) (ns:List Int),vs=[.ref a]∧Scr K H a ns∧∀ H',Q (.bl true) H'
theorem scLaw:FnScope ["_law_script", "_law_at", "_law_due", "_law_rows", "_law_texts", "_law_k", "_law_n", "_law_spot", "_law_spoilt_here", "_law_other"] ["_law_script"] (defScope (top 50)):=⟨rfl,rfl,rfl,by decide +kernel,rfl,by decide +kernel,by decide +kernel⟩
theorem zawr {CM:Addr} (F:Fun K "law" "law" (top 50) f fd) (D_law_next:DefOk P w K mg base CX0 k "_law_next" ["_law_script", "_law_at"] (spNext K)) (D_law_drawn_modules:DefOk P w K mg base CX0 k "_law_drawn_modules" ["_law_script", "_law_at", "_law_many", "_law_most"] (spDM K)) (D_law_glued:DefOk P w K mg base CX0 k "_law_glued" ["_law_pieces_here"] spGl) (D_law_rows_of:DefOk P w K mg base CX0 k "_law_rows_of" ["_law_modules"] spRO) (D_law_spoilt:DefOk P w K mg base CX0 k "_law_spoilt" ["_law_script", "_law_at", "_law_pieces_here"] (spSpo K)) (D_law_refused:DefOk P w K mg base CX0 k "_law_refused" ["_law_text"] spRef) (Dread_modules:DefOk P w K mg base CX0 k "read_modules" ["text"] (spRM CM)) (z_range:mg "range" = none) (z_len:mg "len" = none):FnOk P w K mg base CX0 (k + 1) f fd ["_law_script"] (spLaw K):=by
 have nd:=scLaw.nd
 refine F.ok scLaw (fun vs H Q E h=>by obtain ⟨a,ns,rfl,_⟩:=h; rfl) (fun cdv A outer s H vs Q E hr h=>?_)
 obtain ⟨a,ns,rfl,hS,q⟩:=h
 refine ⟨_,(Pr.h (zaad (zaan (i:=1) nd rfl (av50.l 1 rfl) (zaay (zaaa zaae zaac zaab))) (zaad (zaan (i:=2) nd rfl (av50.l 2 rfl) (zaak D_law_drawn_modules hr (gl50.g 0 rfl) pass0 (zaaa (qv av50 0 rfl) (zaaa (qv av50 1 rfl) (zaaa zaae (zaaa zaae zaac zaab) zaab) zaag) zaag) zadz)) (zaad (zaan (i:=3) nd rfl (av50.l 3 rfl) (zaak D_law_rows_of hr (gl50.g 1 rfl) pass0 (zaaa (qv av50 2 rfl) zaac zaag) zagy)) (zaad (zakw (i:=4) nd rfl (av50.l 4 rfl) rfl zaoz (zaho (qv av50 3 rfl)) (fun _ _ _ _ _=>(zabc (i:=0) zaoz.nd rfl (Or.inl (zao0.k 0 rfl)) (Or.inr (zao0.k 0 rfl)))) (fun _ _ _ _ _=>zad2) (fun _ _ _ _ _=>(zaak D_law_glued hr (zat4.g 0 rfl) pass0 (zaaa (qw zat5 0 rfl) zaac zaag) zado)) rfl) (zaad (zaa7 (zaak Dread_modules hr (gl50.g 2 rfl) pass0 (zaaa (zabz PySem.F.plainAttrs_str PySem.F.slot_str_join PySem.F.type_str_join zaf9 zaaf (zaaa (qv av50 4 rfl) zaac zaag)) zaac zaaz) zact)) (zaad (zab7 PassesOwn.never rfl (zacp (gl50.g 3 rfl) z_range (zaaa zaae zaac zaab)) (zabc (i:=5) nd rfl (av50.l 5 rfl)) (zaad (zaan (i:=6) nd rfl (av50.l 6 rfl) (zaak D_law_next hr (gl50.g 4 rfl) pass0 (zaaa (qv av50 0 rfl) (zaaa (qv av50 1 rfl) zaac zaag) zaag) zabj)) (zaad (zaan (i:=7) nd rfl (av50.l 7 rfl) (zaaj zaa0 (qv av50 6 rfl) (zaas zaa2 (gl50.g 5 rfl) z_len PySem.boot_len (zaaa (qv av50 3 rfl) zaac zaag) zab3 zab4))) (zaad (zaan (i:=8) nd rfl (av50.l 8 rfl) (zaaj zac3 (zaaj zac3 (zaa1 zac0 (qv av50 4 rfl) zabb (zaa4 (qv av50 7 rfl))) (zaay (zaaa (zaak D_law_spoilt hr (gl50.g 6 rfl) pass0 (zaaa (qv av50 0 rfl) (zaaa (qv av50 1 rfl) (zaaa (zaar zaav (qv av50 3 rfl) (qv av50 7 rfl) (fun _ _=>rfl)) zaac zaaq) zaag) zaag) zag2) zaac zaaz))) (zaa1 zac0 (qv av50 4 rfl) (zaa4 (zaaj zacc (qv av50 7 rfl) zaae)) zabb))) (zab0 (zaat (zaam zabp (zaaj zaa0 (zaaj zaa3 (qv av50 6 rfl) zaae) zaae) zaae (nomark _)) (zaad (zaan (i:=9) nd rfl (av50.l 9 rfl) (zaaj zacc (zaaj zacc (qv av50 7 rfl) zaae) (zaaj zaa0 (zaaj zaa3 (qv av50 6 rfl) zaae) (zaaj zael (zaas zaa2 (gl50.g 5 rfl) z_len PySem.boot_len (zaaa (qv av50 3 rfl) zaac zaag) zab3 zab4) (qv av50 7 rfl))))) (zaah (zaan (i:=8) nd rfl (av50.l 8 rfl) (zaaj zac3 (zaaj zac3 (zaa1 zac0 (qv av50 8 rfl) zabb (zaa4 (qv av50 9 rfl))) (zaay (zaaa (zaar zaav (zaay (zaaa zaaf (zaaa zaaf (zaaa zaaf (zaaa zaaf zaac zaab) zaab) zaab) zaab)) (zaaj zaa0 (zaaj zaa3 (qv av50 6 rfl) zaae) zaae) (fun _ _=>rfl)) zaac zaaq))) (zaa1 zac0 (qv av50 8 rfl) (zaa4 (qv av50 9 rfl)) zabb))))) zaap) (zaah (zaat (zaam zahk (zaak D_law_refused hr (gl50.g 7 rfl) pass0 (zaaa (zabz PySem.F.plainAttrs_str PySem.F.slot_str_join PySem.F.type_str_join zaf9 zaaf (zaaa (qv av50 8 rfl) zaac zaag)) zaac zaaz) zagz) (qv av50 7 rfl) (nomark _)) (zaah (zaao zavb)) zaap))))))) (zaah (zaao (zadb zabp (zaas zaa2 (gl50.g 5 rfl) z_len PySem.boot_len (zaaa (zaak Dread_modules hr (gl50.g 2 rfl) pass0 (zaaa (zabz PySem.F.plainAttrs_str PySem.F.slot_str_join PySem.F.type_str_join zaf9 zaaf (zaaa (qv av50 4 rfl) zaac zaag)) zaac zaaz) zact) zaac zaaz) zab3 zab4) (zaas zaa2 (gl50.g 5 rfl) z_len PySem.boot_len (zaaa (qv av50 2 rfl) zaac zaag) zab3 zab4) (nomark _))))))))))),?_⟩
 (try dsimp only [cxOf])
 have bx:Box (Scr K H a ns):=⟨hS⟩
 clear hS
 walk_at "rd"
 rename_i b hb
 have hS1:=bx.h.same (Ch.new hb (.lst [.int 0]))
 have hb1:(upd H b (.lst [.int 0])) b=some (.lst [.int 0]):=zaai
 generalize upd H b (.lst [.int 0])=H0 at hS1 hb1 ⊢
 refine ⟨hS1,hb1,by omega,by omega,fun l ms ps H2 c2 gl dm m1 m3 nlb l0 l1 ch2 b2=>?_⟩
 have hS2:=hS1.ch hb1 ch2
 clear bx hb1 hS1 ch2 hb
 have bd:Box (DM 5 H2 ms ps):=⟨dm⟩
 clear dm
 walk_at "rd"
 refine ⟨bd.h,by omega,m3,fun rl qr H5 c5 n5 g5 pq=>?_⟩
 have gl5:=c5.get gl (by simp)
 have b5:=c5.get b2 (by simp)
 have hS5:=hS2.same c5
 have mo:=bd.h.o
 have lm:=Paired.length bd.h.p
 clear bd gl b2 hS2 c5 n5
 have rok:=zaj5 mo
 have rlen:=zah5 5 ms fun m hm=>(mo m hm).l
 have lq:=Paired.length pq
 walk_at "rd"
 refine zai1 (qr.map V.ref) (fun j ys σ H'=>Ch [] H5 H'∧ys=txs ((rowsOf ms).take j)∧∃ u,σ=[u]) (by rw [sizeLine_eq,List.length_map]; omega) ⟨Ch.refl _ _,rfl,_,rfl⟩ ?_ ?_ ?_
 ·rintro j ys σ H' hj ⟨c,rfl,_⟩
  exact ⟨by unfold txs; rw [List.length_map,List.length_take]; omega,SqL.of (c.get g5 (by simp))⟩
 ·rintro j ys σ H' v hv ⟨c,rfl,u,rfl⟩
  rw [List.getElem?_map] at hv
  obtain ⟨pj,hpj,rfl⟩:=Option.map_eq_some_iff.mp hv
  obtain ⟨r,er,ra⟩:=zabn pq hpj
  obtain ⟨ro,rl3⟩:=rok r (List.mem_of_getElem? er)
  have gj:H' pj=some (.lst ((r.ts.map Tk.t).map V.str)):=by rw [List.map_map]; exact c.get ra.h (by simp)
  have ok:=zagp ro
  have sm:=zahi (ts:=(r.ps.map RP.ts).flatten) fun t ht=>ok t (List.mem_cons_of_mem _ ht)
  have wl:r.w.length≤9:=zadv (ok (.wd r.w) (List.mem_cons_self ..))
  have ll:((r.ps.map RP.ts).flatten).length + 1≤300:=rl3
  walk_at "rd"
  refine ⟨by show r.w.length + _≤_; omega,by rw [List.length_map]; omega,fun H6 c6=>⟨c.trans c6,?_,_,rfl⟩⟩
  rw [show glueF (Tk.wd r.w).t (Tk.wd r.w).t (((r.ps.map RP.ts).flatten).map Tk.t)=rtx r from zafv ro,List.take_add_one,er]
  simp [txs]
 rintro ys σ H6 ⟨c6,rfl,_⟩
 rw [List.length_map,← lq,List.take_length]
 intro tl hD
 have c7:Ch [] H5 (upd H6 tl (.lst (txs (rowsOf ms)))):=c6.trans (Ch.new hD _)
 have gt:(upd H6 tl (.lst (txs (rowsOf ms)))) tl=some (.lst ((txO ms).map V.str)):=by rw [zaai]; unfold txs txO; rw [List.map_map]; rfl
 generalize upd H6 tl (.lst (txs (rowsOf ms)))=H7 at c7 gt ⊢
 have tr:TR H7 tl rl l qr ps ms:=⟨gt,c7.get g5 (by simp),c7.get gl5 (by simp),zaal (fun r q z=>⟨c7.get z.h (by simp)⟩) pq⟩
 have b7:=c7.get b5 (by simp)
 have bs:Box (Scr K H7 a ns):=⟨hS5.same c7⟩
 clear gl5 b5 hS5 c6 c7 hD pq g5
 have pl:=zav2 mo
 have mv:=zaji mo
 have lt:(txO ms).length=(rowsOf ms).length:=by rw [List.length_map]
 have r2:2≤(rowsOf ms).length:=by
  cases ms with
  | nil=>simp at m1
  | cons m ms=>rw [zaob]; simp only [List.length_cons,List.length_append]; omega
 have h2:2≤(txO ms).length:=by omega
 have h200:(txO ms).length≤200:=by omega
 have sm:=zalc (txO ms) fun x hx=>(zav1 mo x hx).1
 have nl1:(Str.ofString "\n").length=1:=by decide +kernel
 have js:((txO ms).map (·.length)).sum + (txO ms).length * (Str.ofString "\n").length≤16777216:=by rw [nl1]; omega
 have j6:(Str.join "\n" (txO ms)).length≤1000000:=by have:=zaft "\n" (txO ms); rw [nl1] at this; omega
 walk_at "rd"
 rename_i ml ps2 HC cC gC pC
 have trC:=tr.ch cC
 have bC:=cC.get b7 (by simp)
 have bsC:Box (Scr K HC a ns):=⟨bs.h.same cC⟩
 clear tr b7 bs cC gC pC gt
 have lqr:(qr.map V.ref).length=(rowsOf ms).length:=by rw [List.length_map,lq]
 refine zad1 (fun i σ H'=>∃ (u5 u6 u7 u8 u9:Option V) (c':Int),σ=[some (.ref a),some (.ref b),some (.ref l),some (.ref rl),some (.ref tl),u5,u6,u7,u8,u9]∧Box (Scr K H' a ns)∧H' b=some (.lst [.int c'])∧0≤c'∧c'≤5000 + 10 * i∧TR H' tl rl l qr ps ms) ⟨_,_,_,_,_,c2,rfl,bsC,bC,by omega,by omega,trC⟩ ?_ ?_
 ·clear bsC trC bC
  rintro i σ H' hi ⟨u5,u6,u7,u8,u9,c',rfl,bs,hb,c0,c5,tr⟩
  have hi':i < 6:=hi
  walk_at "rd"
  refine ⟨bs.h,hb,c0,by omega,fun n H1 n0 n1 ch1 b1=>?_⟩
  have tr1:=tr.chb hb ch1
  have bs1:Box (Scr K H1 a ns):=⟨bs.h.ch hb ch1⟩
  clear bs hb tr ch1
  have gt:=tr1.t
  have gr:=tr1.r
  obtain ⟨j,ej,jl⟩:∃ j:Nat,n % ((qr.map V.ref).length:Int)=(j:Int)∧j < (rowsOf ms).length:=⟨(n % ((qr.map V.ref).length:Int)).toNat,by rw [lqr]; have:=Int.emod_nonneg n (b:=((rowsOf ms).length:Int)) (by omega); omega,by rw [lqr]; have:=Int.emod_lt_of_pos n (b:=((rowsOf ms).length:Int)) (by omega); have:=Int.emod_nonneg n (b:=((rowsOf ms).length:Int)) (by omega); omega⟩
  obtain ⟨qa,hq⟩:∃ qa,qr[j]?=some qa:=⟨_,List.getElem?_eq_getElem (by omega)⟩
  obtain ⟨r,er,ra⟩:=zabn tr1.p hq
  obtain ⟨ro,rl3⟩:=rok r (List.mem_of_getElem? er)
  have ai:atI (qr.map V.ref) (n % ((qr.map V.ref).length:Int))=some (.ref qa):=by rw [ej]; exact zack (by rw [List.getElem?_map,hq]; rfl)
  have lc:∀ c d,(cutV ((txO ms).map V.str) c d).length≤999:=fun c d=>by
   have:=zagx ((txO ms).map V.str) c d
   rw [List.length_map] at this
   omega
  have gq:H1 qa=some (.lst ((r.ts.map Tk.t).map V.str)):=by rw [List.map_map]; exact ra.h
  have nqb:qa≠b:=zajp gq b1 (zakk _ _)
  walk_at "rd"
  rename_i pA hA
  have cA:Ch [] H1 (upd H1 pA (.lst (cutV ((txO ms).map V.str) none (some (n % ((qr.map V.ref).length:Int)))))):=Ch.new hA _
  have gA:(upd H1 pA (.lst (cutV ((txO ms).map V.str) none (some (n % ((qr.map V.ref).length:Int)))))) pA=some (.lst (cutV ((txO ms).map V.str) none (some (n % ((qr.map V.ref).length:Int))))):=zaai
  generalize upd H1 pA (.lst (cutV ((txO ms).map V.str) none (some (n % ((qr.map V.ref).length:Int)))))=H2' at cA gA ⊢
  have tr2:=tr1.ch cA
  have b2:=cA.get b1 (by simp)
  have bs2:Box (Scr K H2' a ns):=⟨bs1.h.same cA⟩
  have gq2:=cA.get gq (by simp)
  have nAb:pA≠b:=fun z=>by rw [z,b1] at hA; cases hA
  refine ⟨bs2.h,b2,by omega,by omega,gq2,nqb,ro,rl3,fun x H3 bd ch3 b3=>?_⟩
  have tr3:=tr2.chb b2 ch3
  have bs3:Box (Scr K H3 a ns):=⟨bs2.h.ch b2 ch3⟩
  have gA3:=ch3.get gA (by simpa using nAb)
  have gt3:=tr3.t
  have gr3:=tr3.r
  clear tr2 bs2 gA gq2 ch3 b2 tr1 b1 bs1 gt gr gq hA cA
  walk_at "rd"
  refine ⟨zacl (Nat.le_succ_of_le (lc _ _)) (by show 1≤1000; decide),?_⟩
  walk_at "rd"
  refine ⟨zacl (zafg (lc _ _)) (Nat.le_succ_of_le (lc _ _)),?_⟩
  walk_at "rd"
  rename_i pB hB pC hC pD hD pE hE
  have cE:Ch [] H3 (upd (upd (upd (upd H3 pB (.lst [V.str x])) pC (.lst (cutV ((txO ms).map V.str) none (some (n % ((qr.map V.ref).length:Int)))++[V.str x]))) pD (.lst (cutV ((txO ms).map V.str) (some (n % ((qr.map V.ref).length:Int) + 1)) none))) pE (.lst (cutV ((txO ms).map V.str) none (some (n % ((qr.map V.ref).length:Int)))++[V.str x]++cutV ((txO ms).map V.str) (some (n % ((qr.map V.ref).length:Int) + 1)) none))):=((Ch.new hB _).trans (Ch.new hC _)).trans ((Ch.new hD _).trans (Ch.new hE _))
  have gE:(upd (upd (upd (upd H3 pB (.lst [V.str x])) pC (.lst (cutV ((txO ms).map V.str) none (some (n % ((qr.map V.ref).length:Int)))++[V.str x]))) pD (.lst (cutV ((txO ms).map V.str) (some (n % ((qr.map V.ref).length:Int) + 1)) none))) pE (.lst (cutV ((txO ms).map V.str) none (some (n % ((qr.map V.ref).length:Int)))++[V.str x]++cutV ((txO ms).map V.str) (some (n % ((qr.map V.ref).length:Int) + 1)) none))) pE=some (.lst (((txO ms).take j++[x]++(txO ms).drop (j + 1)).map V.str)):=by
   rw [zaai]; exact congrArg (fun z=>some (HO.lst z)) (cut3 (txO ms) x ej (by omega))
  generalize upd (upd (upd (upd H3 pB (.lst [V.str x])) pC (.lst (cutV ((txO ms).map V.str) none (some (n % ((qr.map V.ref).length:Int)))++[V.str x]))) pD (.lst (cutV ((txO ms).map V.str) (some (n % ((qr.map V.ref).length:Int) + 1)) none))) pE (.lst (cutV ((txO ms).map V.str) none (some (n % ((qr.map V.ref).length:Int)))++[V.str x]++cutV ((txO ms).map V.str) (some (n % ((qr.map V.ref).length:Int) + 1)) none))=H9 at cE gE ⊢
  have s9:=zax2 mo jl (by omega) bd
  have l9:((txO ms).take j++[x]++(txO ms).drop (j + 1)).length=(rowsOf ms).length:=by
   simp only [List.length_append,List.length_take,List.length_drop,List.length_cons,List.length_nil,lt]; omega
  generalize (txO ms).take j++[x]++(txO ms).drop (j + 1)=ls at gE s9 l9
  have tr9:=tr3.ch cE
  have b9:=cE.get b3 (by simp)
  have bs9:Box (Scr K H9 a ns):=⟨bs3.h.same cE⟩
  have gr9:=tr9.r
  clear cE tr3 bs3 gA3 gt3 gr3 hB hC hD hE b3 lc
  have md:0≤n / 2000 % (((qr.map V.ref).length:Int) - n % ((qr.map V.ref).length:Int))∧n / 2000 % (((qr.map V.ref).length:Int) - n % ((qr.map V.ref).length:Int)) < (((qr.map V.ref).length:Int) - n % ((qr.map V.ref).length:Int)):=by
   rw [ej,lqr]
   exact ⟨Int.emod_nonneg _ (by omega),Int.emod_lt_of_pos _ (by omega)⟩
  have mp:0 < (((qr.map V.ref).length:Int) - n % ((qr.map V.ref).length:Int)):=by rw [ej,lqr]; omega
  have lc:∀ c d,(cutV (ls.map V.str) c d).length≤999:=fun c d=>by
   have:=zagx (ls.map V.str) c d
   rw [List.length_map] at this
   omega
  walk_at "rd"
  refine zacw (fun σ H'=>∃ (p8:Addr) (u9:Option V) (ls:List Str),σ=[some (.ref a),some (.ref b),some (.ref l),some (.ref rl),some (.ref tl),some (.int (0 + (i:Int))),some (.int n),some (.int (n % ((qr.map V.ref).length:Int))),some (.ref p8),u9]∧Ch [] H9 H'∧H' p8=some (.lst (ls.map V.str))∧SP5 ls j) ?_ ?_
  ·walk_at "rd"
   refine ite2 (fun hc=>?_) (fun hc=>?_)
   ·obtain ⟨o,eo,ol⟩:∃ o:Nat,n % ((qr.map V.ref).length:Int) + 1 + n / 2000 % (((qr.map V.ref).length:Int) - n % ((qr.map V.ref).length:Int))=(o:Int)∧j < o∧o≤ls.length:=⟨(n % ((qr.map V.ref).length:Int) + 1 + n / 2000 % (((qr.map V.ref).length:Int) - n % ((qr.map V.ref).length:Int))).toNat,by omega,by omega,by omega⟩
    have e1:cutV (ls.map V.str) none (some (n % ((qr.map V.ref).length:Int) + 1 + n / 2000 % (((qr.map V.ref).length:Int) - n % ((qr.map V.ref).length:Int))))=(ls.take o).map V.str:=by rw [eo]; exact zalh ls ol.2
    have e2:cutV (ls.map V.str) (some (n % ((qr.map V.ref).length:Int) + 1 + n / 2000 % (((qr.map V.ref).length:Int) - n % ((qr.map V.ref).length:Int)))) none=(ls.drop o).map V.str:=by rw [eo]; exact zali ls ol.2
    walk_at "rd"
    rename_i pA2 hA2 pB2 hB2
    refine Atx.any (by omega) (by show n / 200000 % 4 < 4; omega) fun v hv _=>?_
    obtain ⟨y,hy,rfl⟩:=List.mem_map.mp (show v∈OTH.map V.str from hv)
    have oy:=zat3 y hy
    clear hv
    walk_at "rd"
    refine ⟨zacl (Nat.le_succ_of_le (lc _ _)) (by show 1≤1000; decide),?_⟩
    walk_at "rd"
    refine ⟨zacl (zafg (lc _ _)) (Nat.le_succ_of_le (lc _ _)),?_⟩
    walk_at "rd"
    refine ⟨(show _=some (HO.lst ((ls.take o++[y]++ls.drop o).map V.str)) by rw [zaai,e1,e2]; simp),zax3 s9 ol.1 ol.2 (by omega) oy⟩
   ·walk_at "rd"
  rintro σ H' ⟨p8,u9,ls,rfl,c8,g8,s8⟩
  have js8:=s8.js
  have x8:SPx (Str.join "\n" ls) j:=⟨⟨ls,rfl,s8⟩⟩
  walk_at "rd"
  rename_i H10 c10
  have c9:=c8.trans c10
  have tr10:=tr9.ch c9
  have b10:=c9.get b9 (by simp)
  have bs10:Box (Scr K H10 a ns):=⟨bs9.h.same c9⟩
  clear tr9 b9 bs9 gE s9 gr9 c8 c10 c9
  refine ite2 (fun h=>absurd h (by rw [ej]; simp)) (fun _=>?_)
  walk_at "rd"
 ·rintro σ H' ⟨u5,u6,u7,u8,u9,c',rfl,bs,hb,c0,c5,tr⟩
  have gt:=tr.t
  have gl:=tr.l
  walk_at "rd"
  rename_i ml ps2 HC cC gC pC
  have l2:=Paired.length pC
  have e:decide (V.int ((ps2.map V.ref).length:Int)=V.int ((ps.map V.ref).length:Int))=true:=decide_eq_true (by rw [List.length_map,List.length_map,← l2,lm])
  rw [e]
  exact q _
end
end

section
theorem zat6 {K:PySem.W.Frag}{C CF:Addr} (e:PySem.W.mroIn K C (.ref CF)=some true):XSub K C CF:=by
 obtain ⟨cd,a,b⟩:=Option.bind_eq_some_iff.mp e
 unfold PySem.W.clsIn at a
 split at a
 case h_2=>cases a
 case h_1 cl di cd' sl ho =>
  cases a
  unfold XSub
  rw [ho]
  split at b
  ·cases b
  ·exact Option.some.inj b
theorem zaws {K:PySem.W.Frag}{C:Addr}{v:Value} (e:PySem.W.mroIn K C v=some true):(PySem.W.clsIn K C).isSome=true:=by
 obtain ⟨cd,a,b⟩:=Option.bind_eq_some_iff.mp e
 rw [a]
 rfl
theorem zao1 {P:Program}{w:World}{K:PySem.W.Frag}{mg:Str→Option Value}{base:Heap}{f:Addr}{fd:FuncData}{k:Nat}{ps:List Str}{sp:Sp} (h:∀ vs H Q E,¬ sp vs H Q E):FnOk P w K mg base CX0 k f fd ps sp :=
 ⟨fun vs H Q E q=>absurd q (h vs H Q E),fun A outer s H args us vs Q E _ _ _ _ q=>absurd q (h vs H Q E)⟩
theorem zaqs {P:Program}{w:World}{K:PySem.W.Frag}{mg:Str→Option Value}{base:Heap}{f:Addr}{fd:FuncData}{k:Nat}{ps:List Str}{sp:Sp} (h:∀ vs H Q E,¬ sp vs H Q E):FnOk P w K mg base (CXE P w) k f fd ps sp :=
 ⟨fun vs H Q E q=>absurd q (h vs H Q E),fun A outer s H args us vs Q E _ _ _ _ q=>absurd q (h vs H Q E)⟩
theorem zawt {l:PySem.W.OpenLaw}{w:World}{K:PySem.W.Frag}{h:Heap}{mg:Str→Option Value}{fa CR CM:Addr} (X:K.In h) (G:h.Ns mainGlobals mg) (hfa:mg "law" = some (.ref fa))
  {f0:Addr}{od0 an0:Option Addr}{sl0:Array (Option Value)}{oc0 kV0 dc0 pm0 cd0 ct0:Value}
  {f1:Addr}{od1 an1:Option Addr}{sl1:Array (Option Value)}{oc1 kV1 dc1 pm1 cd1 ct1:Value}
  {f2:Addr}{od2 an2:Option Addr}{sl2:Array (Option Value)}{oc2 kV2 dc2 pm2 cd2 ct2:Value}
  {f3:Addr}{od3 an3:Option Addr}{sl3:Array (Option Value)}{oc3 kV3 dc3 pm3 cd3 ct3:Value}
  {f4:Addr}{od4 an4:Option Addr}{sl4:Array (Option Value)}{oc4 kV4 dc4 pm4 cd4 ct4:Value}
  {f5:Addr}{od5 an5:Option Addr}{sl5:Array (Option Value)}{oc5 kV5 dc5 pm5 cd5 ct5:Value}
  {f6:Addr}{od6 an6:Option Addr}{sl6:Array (Option Value)}{oc6 kV6 dc6 pm6 cd6 ct6:Value}
  {f7:Addr}{od7 an7:Option Addr}{sl7:Array (Option Value)}{oc7 kV7 dc7 pm7 cd7 ct7:Value}
  {f8:Addr}{od8 an8:Option Addr}{sl8:Array (Option Value)}{oc8 kV8 dc8 pm8 cd8 ct8:Value}
  {f9:Addr}{od9 an9:Option Addr}{sl9:Array (Option Value)}{oc9 kV9 dc9 pm9 cd9 ct9:Value}
  {f10:Addr}{od10 an10:Option Addr}{sl10:Array (Option Value)}{oc10 kV10 dc10 pm10 cd10 ct10:Value}
  {f11:Addr}{od11 an11:Option Addr}{sl11:Array (Option Value)}{oc11 kV11 dc11 pm11 cd11 ct11:Value}
  {f12:Addr}{od12 an12:Option Addr}{sl12:Array (Option Value)}{oc12 kV12 dc12 pm12 cd12 ct12:Value}
  {f13:Addr}{od13 an13:Option Addr}{sl13:Array (Option Value)}{oc13 kV13 dc13 pm13 cd13 ct13:Value}
  {f14:Addr}{od14 an14:Option Addr}{sl14:Array (Option Value)}{oc14 kV14 dc14 pm14 cd14 ct14:Value}
  {f15:Addr}{od15 an15:Option Addr}{sl15:Array (Option Value)}{oc15 kV15 dc15 pm15 cd15 ct15:Value}
  {f16:Addr}{od16 an16:Option Addr}{sl16:Array (Option Value)}{oc16 kV16 dc16 pm16 cd16 ct16:Value}
  {f17:Addr}{od17 an17:Option Addr}{sl17:Array (Option Value)}{oc17 kV17 dc17 pm17 cd17 ct17:Value}
  {f18:Addr}{od18 an18:Option Addr}{sl18:Array (Option Value)}{oc18 kV18 dc18 pm18 cd18 ct18:Value}
  {f19:Addr}{od19 an19:Option Addr}{sl19:Array (Option Value)}{oc19 kV19 dc19 pm19 cd19 ct19:Value}
  {f20:Addr}{od20 an20:Option Addr}{sl20:Array (Option Value)}{oc20 kV20 dc20 pm20 cd20 ct20:Value}
  {f21:Addr}{od21 an21:Option Addr}{sl21:Array (Option Value)}{oc21 kV21 dc21 pm21 cd21 ct21:Value}
  {f22:Addr}{od22 an22:Option Addr}{sl22:Array (Option Value)}{oc22 kV22 dc22 pm22 cd22 ct22:Value}
  {f23:Addr}{od23 an23:Option Addr}{sl23:Array (Option Value)}{oc23 kV23 dc23 pm23 cd23 ct23:Value}
  {f24:Addr}{od24 an24:Option Addr}{sl24:Array (Option Value)}{oc24 kV24 dc24 pm24 cd24 ct24:Value}
  {f25:Addr}{od25 an25:Option Addr}{sl25:Array (Option Value)}{oc25 kV25 dc25 pm25 cd25 ct25:Value}
  {f26:Addr}{od26 an26:Option Addr}{sl26:Array (Option Value)}{oc26 kV26 dc26 pm26 cd26 ct26:Value}
  {f27:Addr}{od27 an27:Option Addr}{sl27:Array (Option Value)}{oc27 kV27 dc27 pm27 cd27 ct27:Value}
  {f28:Addr}{od28 an28:Option Addr}{sl28:Array (Option Value)}{oc28 kV28 dc28 pm28 cd28 ct28:Value}
  {f29:Addr}{od29 an29:Option Addr}{sl29:Array (Option Value)}{oc29 kV29 dc29 pm29 cd29 ct29:Value}
  {f30:Addr}{od30 an30:Option Addr}{sl30:Array (Option Value)}{oc30 kV30 dc30 pm30 cd30 ct30:Value}
  {f31:Addr}{od31 an31:Option Addr}{sl31:Array (Option Value)}{oc31 kV31 dc31 pm31 cd31 ct31:Value}
  {f32:Addr}{od32 an32:Option Addr}{sl32:Array (Option Value)}{oc32 kV32 dc32 pm32 cd32 ct32:Value}
  {f33:Addr}{od33 an33:Option Addr}{sl33:Array (Option Value)}{oc33 kV33 dc33 pm33 cd33 ct33:Value}
  {f34:Addr}{od34 an34:Option Addr}{sl34:Array (Option Value)}{oc34 kV34 dc34 pm34 cd34 ct34:Value}
  {f35:Addr}{od35 an35:Option Addr}{sl35:Array (Option Value)}{oc35 kV35 dc35 pm35 cd35 ct35:Value}
  {f36:Addr}{od36 an36:Option Addr}{sl36:Array (Option Value)}{oc36 kV36 dc36 pm36 cd36 ct36:Value}
  {EFloorError ENoText ENoBits ENoFloor ENoNet ENoPack ENoRoom ENoRow ENoSense ENoTables ENoWays EOutOfFloor:Addr}
  {SSIGNS:Addr}{tSIGNS0 tSIGNS1 tSIGNS2 tSIGNS3:Tok}{nSIGNS:Nat}{slSIGNS:Array (Option Value)} (aSSIGNS:PySem.W.nsIn K mainGlobals "SIGNS" = some (some (.ref SSIGNS))) (lSSIGNS:K.lookup SSIGNS=some ⟨.type "tuple",none,.seq #[.str "(" tSIGNS0,.str ")" tSIGNS1,.str "." tSIGNS2,.str ":" tSIGNS3] nSIGNS,slSIGNS⟩)
  (aR:PySem.W.nsIn K mainGlobals "RowReader" = some (some (.ref CR)))
  (aM:PySem.W.nsIn K mainGlobals "Module" = some (some (.ref CM)))
  (eFloorError:PySem.W.nsIn K mainGlobals "FloorError" = some (some (.ref EFloorError)))
  (eNoText:PySem.W.nsIn K mainGlobals "NoText" = some (some (.ref ENoText)))
  (eNoBits:PySem.W.nsIn K mainGlobals "NoBits" = some (some (.ref ENoBits)))
  (eNoFloor:PySem.W.nsIn K mainGlobals "NoFloor" = some (some (.ref ENoFloor)))
  (eNoNet:PySem.W.nsIn K mainGlobals "NoNet" = some (some (.ref ENoNet)))
  (eNoPack:PySem.W.nsIn K mainGlobals "NoPack" = some (some (.ref ENoPack)))
  (eNoRoom:PySem.W.nsIn K mainGlobals "NoRoom" = some (some (.ref ENoRoom)))
  (eNoRow:PySem.W.nsIn K mainGlobals "NoRow" = some (some (.ref ENoRow)))
  (eNoSense:PySem.W.nsIn K mainGlobals "NoSense" = some (some (.ref ENoSense)))
  (eNoTables:PySem.W.nsIn K mainGlobals "NoTables" = some (some (.ref ENoTables)))
  (eNoWays:PySem.W.nsIn K mainGlobals "NoWays" = some (some (.ref ENoWays)))
  (eOutOfFloor:PySem.W.nsIn K mainGlobals "OutOfFloor" = some (some (.ref EOutOfFloor)))
  (a0:PySem.W.nsIn K mainGlobals "frozen" = some (some (.ref f0))) (l0:K.lookup f0=some ⟨oc0,od0,.func (PySem.W.fnOf "frozen" "frozen" (defArgs (top 14)) (defBody (top 14)) (defScope (top 14)) .none kV0 dc0 pm0 an0 cd0 ct0),sl0⟩) (c0:PySem.W.codeIn K cd0 "frozen" = true) (k0:PySem.W.keepIn K (.ref f0)=true)
  (a1:PySem.W.nsIn K mainGlobals "is_letter" = some (some (.ref f1))) (l1:K.lookup f1=some ⟨oc1,od1,.func (PySem.W.fnOf "is_letter" "is_letter" (defArgs (top 22)) (defBody (top 22)) (defScope (top 22)) .none kV1 dc1 pm1 an1 cd1 ct1),sl1⟩) (c1:PySem.W.codeIn K cd1 "is_letter" = true) (k1:PySem.W.keepIn K (.ref f1)=true)
  (a2:PySem.W.nsIn K mainGlobals "is_figure" = some (some (.ref f2))) (l2:K.lookup f2=some ⟨oc2,od2,.func (PySem.W.fnOf "is_figure" "is_figure" (defArgs (top 23)) (defBody (top 23)) (defScope (top 23)) .none kV2 dc2 pm2 an2 cd2 ct2),sl2⟩) (c2:PySem.W.codeIn K cd2 "is_figure" = true) (k2:PySem.W.keepIn K (.ref f2)=true)
  (a3:PySem.W.nsIn K mainGlobals "run_end" = some (some (.ref f3))) (l3:K.lookup f3=some ⟨oc3,od3,.func (PySem.W.fnOf "run_end" "run_end" (defArgs (top 24)) (defBody (top 24)) (defScope (top 24)) .none kV3 dc3 pm3 an3 cd3 ct3),sl3⟩) (c3:PySem.W.codeIn K cd3 "run_end" = true) (k3:PySem.W.keepIn K (.ref f3)=true)
  (a4:PySem.W.nsIn K mainGlobals "letters_piece" = some (some (.ref f4))) (l4:K.lookup f4=some ⟨oc4,od4,.func (PySem.W.fnOf "letters_piece" "letters_piece" (defArgs (top 25)) (defBody (top 25)) (defScope (top 25)) .none kV4 dc4 pm4 an4 cd4 ct4),sl4⟩) (c4:PySem.W.codeIn K cd4 "letters_piece" = true) (k4:PySem.W.keepIn K (.ref f4)=true)
  (a5:PySem.W.nsIn K mainGlobals "figures_piece" = some (some (.ref f5))) (l5:K.lookup f5=some ⟨oc5,od5,.func (PySem.W.fnOf "figures_piece" "figures_piece" (defArgs (top 26)) (defBody (top 26)) (defScope (top 26)) .none kV5 dc5 pm5 an5 cd5 ct5),sl5⟩) (c5:PySem.W.codeIn K cd5 "figures_piece" = true) (k5:PySem.W.keepIn K (.ref f5)=true)
  (a6:PySem.W.nsIn K mainGlobals "piece_of" = some (some (.ref f6))) (l6:K.lookup f6=some ⟨oc6,od6,.func (PySem.W.fnOf "piece_of" "piece_of" (defArgs (top 27)) (defBody (top 27)) (defScope (top 27)) .none kV6 dc6 pm6 an6 cd6 ct6),sl6⟩) (c6:PySem.W.codeIn K cd6 "piece_of" = true) (k6:PySem.W.keepIn K (.ref f6)=true)
  (a7:PySem.W.nsIn K mainGlobals "pieces_of" = some (some (.ref f7))) (l7:K.lookup f7=some ⟨oc7,od7,.func (PySem.W.fnOf "pieces_of" "pieces_of" (defArgs (top 28)) (defBody (top 28)) (defScope (top 28)) .none kV7 dc7 pm7 an7 cd7 ct7),sl7⟩) (c7:PySem.W.codeIn K cd7 "pieces_of" = true) (k7:PySem.W.keepIn K (.ref f7)=true)
  (a8:PySem.W.nsIn K mainGlobals "read_modules" = some (some (.ref f8))) (l8:K.lookup f8=some ⟨oc8,od8,.func (PySem.W.fnOf "read_modules" "read_modules" (defArgs (top 31)) (defBody (top 31)) (defScope (top 31)) .none kV8 dc8 pm8 an8 cd8 ct8),sl8⟩) (c8:PySem.W.codeIn K cd8 "read_modules" = true) (k8:PySem.W.keepIn K (.ref f8)=true)
  (a9:PySem.W.nsIn K mainGlobals "_law_next" = some (some (.ref f9))) (l9:K.lookup f9=some ⟨oc9,od9,.func (PySem.W.fnOf "_law_next" "_law_next" (defArgs (top 33)) (defBody (top 33)) (defScope (top 33)) .none kV9 dc9 pm9 an9 cd9 ct9),sl9⟩) (c9:PySem.W.codeIn K cd9 "_law_next" = true) (k9:PySem.W.keepIn K (.ref f9)=true)
  (a10:PySem.W.nsIn K mainGlobals "_law_words" = some (some (.ref f10))) (l10:K.lookup f10=some ⟨oc10,od10,.func (PySem.W.fnOf "_law_words" "_law_words" (defArgs (top 34)) (defBody (top 34)) (defScope (top 34)) .none kV10 dc10 pm10 an10 cd10 ct10),sl10⟩) (c10:PySem.W.codeIn K cd10 "_law_words" = true) (k10:PySem.W.keepIn K (.ref f10)=true)
  (a11:PySem.W.nsIn K mainGlobals "_law_name" = some (some (.ref f11))) (l11:K.lookup f11=some ⟨oc11,od11,.func (PySem.W.fnOf "_law_name" "_law_name" (defArgs (top 35)) (defBody (top 35)) (defScope (top 35)) .none kV11 dc11 pm11 an11 cd11 ct11),sl11⟩) (c11:PySem.W.codeIn K cd11 "_law_name" = true) (k11:PySem.W.keepIn K (.ref f11)=true)
  (a12:PySem.W.nsIn K mainGlobals "_law_number" = some (some (.ref f12))) (l12:K.lookup f12=some ⟨oc12,od12,.func (PySem.W.fnOf "_law_number" "_law_number" (defArgs (top 36)) (defBody (top 36)) (defScope (top 36)) .none kV12 dc12 pm12 an12 cd12 ct12),sl12⟩) (c12:PySem.W.codeIn K cd12 "_law_number" = true) (k12:PySem.W.keepIn K (.ref f12)=true)
  (a13:PySem.W.nsIn K mainGlobals "_law_leaf" = some (some (.ref f13))) (l13:K.lookup f13=some ⟨oc13,od13,.func (PySem.W.fnOf "_law_leaf" "_law_leaf" (defArgs (top 37)) (defBody (top 37)) (defScope (top 37)) .none kV13 dc13 pm13 an13 cd13 ct13),sl13⟩) (c13:PySem.W.codeIn K cd13 "_law_leaf" = true) (k13:PySem.W.keepIn K (.ref f13)=true)
  (a14:PySem.W.nsIn K mainGlobals "_law_expr" = some (some (.ref f14))) (l14:K.lookup f14=some ⟨oc14,od14,.func (PySem.W.fnOf "_law_expr" "_law_expr" (defArgs (top 38)) (defBody (top 38)) (defScope (top 38)) .none kV14 dc14 pm14 an14 cd14 ct14),sl14⟩) (c14:PySem.W.codeIn K cd14 "_law_expr" = true) (k14:PySem.W.keepIn K (.ref f14)=true)
  (a15:PySem.W.nsIn K mainGlobals "_law_pieces" = some (some (.ref f15))) (l15:K.lookup f15=some ⟨oc15,od15,.func (PySem.W.fnOf "_law_pieces" "_law_pieces" (defArgs (top 40)) (defBody (top 40)) (defScope (top 40)) .none kV15 dc15 pm15 an15 cd15 ct15),sl15⟩) (c15:PySem.W.codeIn K cd15 "_law_pieces" = true) (k15:PySem.W.keepIn K (.ref f15)=true)
  (a16:PySem.W.nsIn K mainGlobals "_law_row_pieces" = some (some (.ref f16))) (l16:K.lookup f16=some ⟨oc16,od16,.func (PySem.W.fnOf "_law_row_pieces" "_law_row_pieces" (defArgs (top 41)) (defBody (top 41)) (defScope (top 41)) .none kV16 dc16 pm16 an16 cd16 ct16),sl16⟩) (c16:PySem.W.codeIn K cd16 "_law_row_pieces" = true) (k16:PySem.W.keepIn K (.ref f16)=true)
  (a17:PySem.W.nsIn K mainGlobals "_law_glued" = some (some (.ref f17))) (l17:K.lookup f17=some ⟨oc17,od17,.func (PySem.W.fnOf "_law_glued" "_law_glued" (defArgs (top 42)) (defBody (top 42)) (defScope (top 42)) .none kV17 dc17 pm17 an17 cd17 ct17),sl17⟩) (c17:PySem.W.codeIn K cd17 "_law_glued" = true) (k17:PySem.W.keepIn K (.ref f17)=true)
  (a18:PySem.W.nsIn K mainGlobals "_law_row" = some (some (.ref f18))) (l18:K.lookup f18=some ⟨oc18,od18,.func (PySem.W.fnOf "_law_row" "_law_row" (defArgs (top 43)) (defBody (top 43)) (defScope (top 43)) .none kV18 dc18 pm18 an18 cd18 ct18),sl18⟩) (c18:PySem.W.codeIn K cd18 "_law_row" = true) (k18:PySem.W.keepIn K (.ref f18)=true)
  (a19:PySem.W.nsIn K mainGlobals "_law_drawn_modules" = some (some (.ref f19))) (l19:K.lookup f19=some ⟨oc19,od19,.func (PySem.W.fnOf "_law_drawn_modules" "_law_drawn_modules" (defArgs (top 44)) (defBody (top 44)) (defScope (top 44)) .none kV19 dc19 pm19 an19 cd19 ct19),sl19⟩) (c19:PySem.W.codeIn K cd19 "_law_drawn_modules" = true) (k19:PySem.W.keepIn K (.ref f19)=true)
  (a20:PySem.W.nsIn K mainGlobals "_law_rows_of" = some (some (.ref f20))) (l20:K.lookup f20=some ⟨oc20,od20,.func (PySem.W.fnOf "_law_rows_of" "_law_rows_of" (defArgs (top 45)) (defBody (top 45)) (defScope (top 45)) .none kV20 dc20 pm20 an20 cd20 ct20),sl20⟩) (c20:PySem.W.codeIn K cd20 "_law_rows_of" = true) (k20:PySem.W.keepIn K (.ref f20)=true)
  (a21:PySem.W.nsIn K mainGlobals "_law_refused" = some (some (.ref f21))) (l21:K.lookup f21=some ⟨oc21,od21,.func (PySem.W.fnOf "_law_refused" "_law_refused" (defArgs (top 46)) (defBody (top 46)) (defScope (top 46)) .none kV21 dc21 pm21 an21 cd21 ct21),sl21⟩) (c21:PySem.W.codeIn K cd21 "_law_refused" = true) (k21:PySem.W.keepIn K (.ref f21)=true)
  (a22:PySem.W.nsIn K mainGlobals "_law_bad_name" = some (some (.ref f22))) (l22:K.lookup f22=some ⟨oc22,od22,.func (PySem.W.fnOf "_law_bad_name" "_law_bad_name" (defArgs (top 47)) (defBody (top 47)) (defScope (top 47)) .none kV22 dc22 pm22 an22 cd22 ct22),sl22⟩) (c22:PySem.W.codeIn K cd22 "_law_bad_name" = true) (k22:PySem.W.keepIn K (.ref f22)=true)
  (a23:PySem.W.nsIn K mainGlobals "_law_bad_expr" = some (some (.ref f23))) (l23:K.lookup f23=some ⟨oc23,od23,.func (PySem.W.fnOf "_law_bad_expr" "_law_bad_expr" (defArgs (top 48)) (defBody (top 48)) (defScope (top 48)) .none kV23 dc23 pm23 an23 cd23 ct23),sl23⟩) (c23:PySem.W.codeIn K cd23 "_law_bad_expr" = true) (k23:PySem.W.keepIn K (.ref f23)=true)
  (a24:PySem.W.nsIn K mainGlobals "_law_spoilt" = some (some (.ref f24))) (l24:K.lookup f24=some ⟨oc24,od24,.func (PySem.W.fnOf "_law_spoilt" "_law_spoilt" (defArgs (top 49)) (defBody (top 49)) (defScope (top 49)) .none kV24 dc24 pm24 an24 cd24 ct24),sl24⟩) (c24:PySem.W.codeIn K cd24 "_law_spoilt" = true) (k24:PySem.W.keepIn K (.ref f24)=true)
  (a25:PySem.W.nsIn K mainGlobals "law" = some (some (.ref f25))) (l25:K.lookup f25=some ⟨oc25,od25,.func (PySem.W.fnOf "law" "law" (defArgs (top 50)) (defBody (top 50)) (defScope (top 50)) .none kV25 dc25 pm25 an25 cd25 ct25),sl25⟩) (c25:PySem.W.codeIn K cd25 "law" = true) (k25:PySem.W.keepIn K (.ref f25)=true)
  (a26:PySem.W.findIn K (.ref CR) "__init__" = some (some (.ref f26))) (l26:K.lookup f26=some ⟨oc26,od26,.func (PySem.W.fnOf "__init__" "RowReader.__init__" (defArgs (inClass (top 30) 0)) (defBody (inClass (top 30) 0)) (defScope (inClass (top 30) 0)) .none kV26 dc26 pm26 an26 cd26 ct26),sl26⟩) (c26:PySem.W.codeIn K cd26 "RowReader.__init__" = true) (k26:PySem.W.keepIn K (.ref f26)=true) (i26:PySem.W.isFn K (.ref f26)=true)
  (a27:PySem.W.findIn K (.ref CR) "kind_ahead" = some (some (.ref f27))) (l27:K.lookup f27=some ⟨oc27,od27,.func (PySem.W.fnOf "kind_ahead" "RowReader.kind_ahead" (defArgs (inClass (top 30) 1)) (defBody (inClass (top 30) 1)) (defScope (inClass (top 30) 1)) .none kV27 dc27 pm27 an27 cd27 ct27),sl27⟩) (c27:PySem.W.codeIn K cd27 "RowReader.kind_ahead" = true) (k27:PySem.W.keepIn K (.ref f27)=true) (i27:PySem.W.isFn K (.ref f27)=true)
  (a28:PySem.W.findIn K (.ref CR) "take" = some (some (.ref f28))) (l28:K.lookup f28=some ⟨oc28,od28,.func (PySem.W.fnOf "take" "RowReader.take" (defArgs (inClass (top 30) 2)) (defBody (inClass (top 30) 2)) (defScope (inClass (top 30) 2)) .none kV28 dc28 pm28 an28 cd28 ct28),sl28⟩) (c28:PySem.W.codeIn K cd28 "RowReader.take" = true) (k28:PySem.W.keepIn K (.ref f28)=true) (i28:PySem.W.isFn K (.ref f28)=true)
  (a29:PySem.W.findIn K (.ref CR) "take_expr" = some (some (.ref f29))) (l29:K.lookup f29=some ⟨oc29,od29,.func (PySem.W.fnOf "take_expr" "RowReader.take_expr" (defArgs (inClass (top 30) 3)) (defBody (inClass (top 30) 3)) (defScope (inClass (top 30) 3)) .none kV29 dc29 pm29 an29 cd29 ct29),sl29⟩) (c29:PySem.W.codeIn K cd29 "RowReader.take_expr" = true) (k29:PySem.W.keepIn K (.ref f29)=true) (i29:PySem.W.isFn K (.ref f29)=true)
  (a30:PySem.W.findIn K (.ref CR) "take_named" = some (some (.ref f30))) (l30:K.lookup f30=some ⟨oc30,od30,.func (PySem.W.fnOf "take_named" "RowReader.take_named" (defArgs (inClass (top 30) 4)) (defBody (inClass (top 30) 4)) (defScope (inClass (top 30) 4)) .none kV30 dc30 pm30 an30 cd30 ct30),sl30⟩) (c30:PySem.W.codeIn K cd30 "RowReader.take_named" = true) (k30:PySem.W.keepIn K (.ref f30)=true) (i30:PySem.W.isFn K (.ref f30)=true)
  (a31:PySem.W.findIn K (.ref CR) "take_bracket" = some (some (.ref f31))) (l31:K.lookup f31=some ⟨oc31,od31,.func (PySem.W.fnOf "take_bracket" "RowReader.take_bracket" (defArgs (inClass (top 30) 5)) (defBody (inClass (top 30) 5)) (defScope (inClass (top 30) 5)) .none kV31 dc31 pm31 an31 cd31 ct31),sl31⟩) (c31:PySem.W.codeIn K cd31 "RowReader.take_bracket" = true) (k31:PySem.W.keepIn K (.ref f31)=true) (i31:PySem.W.isFn K (.ref f31)=true)
  (a32:PySem.W.findIn K (.ref CR) "take_rest" = some (some (.ref f32))) (l32:K.lookup f32=some ⟨oc32,od32,.func (PySem.W.fnOf "take_rest" "RowReader.take_rest" (defArgs (inClass (top 30) 6)) (defBody (inClass (top 30) 6)) (defScope (inClass (top 30) 6)) .none kV32 dc32 pm32 an32 cd32 ct32),sl32⟩) (c32:PySem.W.codeIn K cd32 "RowReader.take_rest" = true) (k32:PySem.W.keepIn K (.ref f32)=true) (i32:PySem.W.isFn K (.ref f32)=true)
  (a33:PySem.W.findIn K (.ref CR) "take_part" = some (some (.ref f33))) (l33:K.lookup f33=some ⟨oc33,od33,.func (PySem.W.fnOf "take_part" "RowReader.take_part" (defArgs (inClass (top 30) 7)) (defBody (inClass (top 30) 7)) (defScope (inClass (top 30) 7)) .none kV33 dc33 pm33 an33 cd33 ct33),sl33⟩) (c33:PySem.W.codeIn K cd33 "RowReader.take_part" = true) (k33:PySem.W.keepIn K (.ref f33)=true) (i33:PySem.W.isFn K (.ref f33)=true)
  (a34:PySem.W.findIn K (.ref CR) "take_row" = some (some (.ref f34))) (l34:K.lookup f34=some ⟨oc34,od34,.func (PySem.W.fnOf "take_row" "RowReader.take_row" (defArgs (inClass (top 30) 8)) (defBody (inClass (top 30) 8)) (defScope (inClass (top 30) 8)) .none kV34 dc34 pm34 an34 cd34 ct34),sl34⟩) (c34:PySem.W.codeIn K cd34 "RowReader.take_row" = true) (k34:PySem.W.keepIn K (.ref f34)=true) (i34:PySem.W.isFn K (.ref f34)=true)
  (a35:PySem.W.findIn K (.ref CM) "__init__" = some (some (.ref f35))) (l35:K.lookup f35=some ⟨oc35,od35,.func (PySem.W.fnOf "__init__" "Module.__init__" (defArgs (inClass (top 15) 0)) (defBody (inClass (top 15) 0)) (defScope (inClass (top 15) 0)) .none kV35 dc35 pm35 an35 cd35 ct35),sl35⟩) (c35:PySem.W.codeIn K cd35 "Module.__init__" = true) (k35:PySem.W.keepIn K (.ref f35)=true) (i35:PySem.W.isFn K (.ref f35)=true)
  (a36:PySem.W.findIn K (.ref ENoText) "__init__" = some (some (.ref f36))) (l36:K.lookup f36=some ⟨oc36,od36,.func (PySem.W.fnOf "__init__" "NoText.__init__" (defArgs (inClass (top 8) 0)) (defBody (inClass (top 8) 0)) (defScope (inClass (top 8) 0)) .none kV36 dc36 pm36 an36 cd36 ct36),sl36⟩) (c36:PySem.W.codeIn K cd36 "NoText.__init__" = true) (k36:PySem.W.keepIn K (.ref f36)=true) (i36:PySem.W.isFn K (.ref f36)=true)
  (pgR:PySem.W.plainGet K CR Str.empty=true) (hdR:PySem.W.hasDictIn K CR=true) (poR:PySem.W.plainOver K CR=true) (saR:PySem.W.findIn K (.ref CR) "__setattr__" = some (some (.builtin "object.__setattr__"))) (mkR:PySem.W.makesIn K CR=true) (kcR:PySem.W.keepIn K (.ref CR)=true)
  (nR_line:PySem.W.findIn K (.ref CR) "line" = some none)
  (nR_spot:PySem.W.findIn K (.ref CR) "spot" = some none)
  (nR_pieces:PySem.W.findIn K (.ref CR) "pieces" = some none)
  (pgM:PySem.W.plainGet K CM Str.empty=true) (hdM:PySem.W.hasDictIn K CM=true) (poM:PySem.W.plainOver K CM=true) (saM:PySem.W.findIn K (.ref CM) "__setattr__" = some (some (.builtin "object.__setattr__"))) (mkM:PySem.W.makesIn K CM=true) (kcM:PySem.W.keepIn K (.ref CM)=true)
  (nM_name:PySem.W.findIn K (.ref CM) "name" = some none)
  (nM_rows:PySem.W.findIn K (.ref CM) "rows" = some none)
  (z_len:PySem.W.nsIn K mainGlobals "len" = some none)
  (z_range:PySem.W.nsIn K mainGlobals "range" = some none)
  (z_int:PySem.W.nsIn K mainGlobals "int" = some none)
  (z_str:PySem.W.nsIn K mainGlobals "str" = some none)
  (z_isinstance:PySem.W.nsIn K mainGlobals "isinstance" = some none)
  (z_zip:PySem.W.nsIn K mainGlobals "zip" = some none)
  (z_list:PySem.W.nsIn K mainGlobals "list" = some none)
  (z_tuple:PySem.W.nsIn K mainGlobals "tuple" = some none)
  (z_bool:PySem.W.nsIn K mainGlobals "bool" = some none)
  (z_all:PySem.W.nsIn K mainGlobals "all" = some none)
  (z_enumerate:PySem.W.nsIn K mainGlobals "enumerate" = some none)
  (z_ValueError:PySem.W.nsIn K mainGlobals "ValueError" = some none)
  (xhd:PySem.W.hasDictIn K ENoText=true) (xsa:PySem.W.findIn K (.ref ENoText) "__setattr__" = some (some (.builtin "object.__setattr__"))) (xkc:PySem.W.keepIn K (.ref ENoText)=true) (xna:PySem.W.findIn K (.ref ENoText) "line" = some none)
  (fhg:PySem.W.specialIn K (.ref EFloorError) "__getattribute__" = some (some (.builtin "type.__getattribute__"))) (frd:PySem.W.readsIn K EFloorError (.type "type")=true) (ffd:PySem.W.findCls K (.ref EFloorError) (.type "type") "__init__" = some (.val (.builtin "ValueError.__init__")))
  (xcR:XB K ENoText) (xcF:XB K EFloorError) (xsb:PySem.W.mroIn K ENoText (.ref EFloorError)=some true)
  (xga:PySem.W.findIn K (.ref ENoText) "__getattribute__" = some (some (.builtin "BaseException.__getattribute__"))) (xgt:PySem.W.findIn K (.ref ENoText) "__getattr__" = some none) (xcl:PySem.W.findIn K (.ref ENoText) "__class__" = some (some (.builtin "object.__class__")))
  (xsg:PySem.W.specialIn K (.builtin "object.__class__") "__get__" = some (some (.builtin "getset_descriptor.__get__"))) (xtk:PySem.W.takesIn K (.builtin "object.__class__")=some true) (xmo:PySem.W.mroIn K ENoText (.type "object")=some true)
  (w_NoText:PySem.W.kitOne K (.ref ENoText) (.ref ENoText)=some true)
  (w_NoBits:PySem.W.kitOne K (.ref ENoText) (.ref ENoBits)=some false)
  (w_NoFloor:PySem.W.kitOne K (.ref ENoText) (.ref ENoFloor)=some false)
  (w_NoNet:PySem.W.kitOne K (.ref ENoText) (.ref ENoNet)=some false)
  (w_NoPack:PySem.W.kitOne K (.ref ENoText) (.ref ENoPack)=some false)
  (w_NoRoom:PySem.W.kitOne K (.ref ENoText) (.ref ENoRoom)=some false)
  (w_NoRow:PySem.W.kitOne K (.ref ENoText) (.ref ENoRow)=some false)
  (w_NoSense:PySem.W.kitOne K (.ref ENoText) (.ref ENoSense)=some false)
  (w_NoTables:PySem.W.kitOne K (.ref ENoText) (.ref ENoTables)=some false)
  (w_NoWays:PySem.W.kitOne K (.ref ENoText) (.ref ENoWays)=some false)
  (w_OutOfFloor:PySem.W.kitOne K (.ref ENoText) (.ref EOutOfFloor)=some false)
  (w_V:PySem.W.kitOne K (.ref ENoText) (.type "ValueError")=some true)
  {ti_LONGEST_NAME:Tok} (ai_LONGEST_NAME:PySem.W.nsIn K mainGlobals "LONGEST_NAME" = some (some (.int 8 ti_LONGEST_NAME)))
  {ti_LONGEST_NUMBER:Tok} (ai_LONGEST_NUMBER:PySem.W.nsIn K mainGlobals "LONGEST_NUMBER" = some (some (.int 9 ti_LONGEST_NUMBER)))
  {ra ea:Addr}{rk ek:List (Key × V)} (aRF:PySem.W.nsIn K mainGlobals "ROW_FORMS" = some (some (.ref ra))) (aEF:PySem.W.nsIn K mainGlobals "EXPR_FORMS" = some (some (.ref ea)))
  (fo:Forms l.prog w K ra ea rk ek)
  (hR:∀ w ks,(w,ks)∈RFORMS→∃ q,valV rk (Sum.inr w)=some (.ref q)∧∀ H:Hp,SqT K H q (ks.map V.str))
  (hE:∀ w ks,(w,ks)∈FORMS→∃ q,valV ek (Sum.inr w)=some (.ref q)∧∀ H:Hp,SqT K H q (ks.map V.str))
  (hRn:∀ w,formOf RFORMS w=none→valV rk (Sum.inr w)=none) (hEn:∀ w,formOf FORMS w=none→valV ek (Sum.inr w)=none) :
  ∃ fd:FuncData,(∀ (s:Shared) (v:Value),BindsTo s fd ⟨[v],[]⟩ [("_law_script",v)])∧∀ base:Heap,K.In base→base.Ns mainGlobals mg→FnOk l.prog w K mg base CX0 60 fa fd ["_law_script"] (spLaw K):=by
 have e:=hfa.symm.trans (PySem.W.mg_of X G a25)
 cases e
 have F0:=zaa8 (st:=top 14) l0 c0 k0
 have b0:=F0.binds (ps:=["thing"]) fun _ _ _ _ _ _ us hl=>match us,hl with | [_],_=>rfl
 have m0:=PySem.W.mg_of X G a0
 have F1:=zaa8 (st:=top 22) l1 c1 k1
 have b1:=F1.binds (ps:=["sign"]) fun _ _ _ _ _ _ us hl=>match us,hl with | [_],_=>rfl
 have m1:=PySem.W.mg_of X G a1
 have F2:=zaa8 (st:=top 23) l2 c2 k2
 have b2:=F2.binds (ps:=["sign"]) fun _ _ _ _ _ _ us hl=>match us,hl with | [_],_=>rfl
 have m2:=PySem.W.mg_of X G a2
 have F3:=zaa8 (st:=top 24) l3 c3 k3
 have b3:=F3.binds (ps:=["row", "at"]) fun _ _ _ _ _ _ us hl=>match us,hl with | [_,_],_=>rfl
 have m3:=PySem.W.mg_of X G a3
 have F4:=zaa8 (st:=top 25) l4 c4 k4
 have b4:=F4.binds (ps:=["run"]) fun _ _ _ _ _ _ us hl=>match us,hl with | [_],_=>rfl
 have m4:=PySem.W.mg_of X G a4
 have F5:=zaa8 (st:=top 26) l5 c5 k5
 have b5:=F5.binds (ps:=["run"]) fun _ _ _ _ _ _ us hl=>match us,hl with | [_],_=>rfl
 have m5:=PySem.W.mg_of X G a5
 have F6:=zaa8 (st:=top 27) l6 c6 k6
 have b6:=F6.binds (ps:=["run"]) fun _ _ _ _ _ _ us hl=>match us,hl with | [_],_=>rfl
 have m6:=PySem.W.mg_of X G a6
 have F7:=zaa8 (st:=top 28) l7 c7 k7
 have b7:=F7.binds (ps:=["row"]) fun _ _ _ _ _ _ us hl=>match us,hl with | [_],_=>rfl
 have m7:=PySem.W.mg_of X G a7
 have F8:=zaa8 (st:=top 31) l8 c8 k8
 have b8:=F8.binds (ps:=["text"]) fun _ _ _ _ _ _ us hl=>match us,hl with | [_],_=>rfl
 have m8:=PySem.W.mg_of X G a8
 have F9:=zaa8 (st:=top 33) l9 c9 k9
 have b9:=F9.binds (ps:=["_law_script", "_law_at"]) fun _ _ _ _ _ _ us hl=>match us,hl with | [_,_],_=>rfl
 have m9:=PySem.W.mg_of X G a9
 have F10:=zaa8 (st:=top 34) l10 c10 k10
 have b10:=F10.binds (ps:=[]) fun _ _ _ _ _ _ us hl=>match us,hl with | [],_=>rfl
 have m10:=PySem.W.mg_of X G a10
 have F11:=zaa8 (st:=top 35) l11 c11 k11
 have b11:=F11.binds (ps:=["_law_script", "_law_at"]) fun _ _ _ _ _ _ us hl=>match us,hl with | [_,_],_=>rfl
 have m11:=PySem.W.mg_of X G a11
 have F12:=zaa8 (st:=top 36) l12 c12 k12
 have b12:=F12.binds (ps:=["_law_script", "_law_at"]) fun _ _ _ _ _ _ us hl=>match us,hl with | [_,_],_=>rfl
 have m12:=PySem.W.mg_of X G a12
 have F13:=zaa8 (st:=top 37) l13 c13 k13
 have b13:=F13.binds (ps:=["_law_script", "_law_at", "_law_n"]) fun _ _ _ _ _ _ us hl=>match us,hl with | [_,_,_],_=>rfl
 have m13:=PySem.W.mg_of X G a13
 have F14:=zaa8 (st:=top 38) l14 c14 k14
 have b14:=F14.binds (ps:=["_law_script", "_law_at", "_law_deep"]) fun _ _ _ _ _ _ us hl=>match us,hl with | [_,_,_],_=>rfl
 have m14:=PySem.W.mg_of X G a14
 have F15:=zaa8 (st:=top 40) l15 c15 k15
 have b15:=F15.binds (ps:=["_law_expr_here"]) fun _ _ _ _ _ _ us hl=>match us,hl with | [_],_=>rfl
 have m15:=PySem.W.mg_of X G a15
 have F16:=zaa8 (st:=top 41) l16 c16 k16
 have b16:=F16.binds (ps:=["_law_row_here"]) fun _ _ _ _ _ _ us hl=>match us,hl with | [_],_=>rfl
 have m16:=PySem.W.mg_of X G a16
 have F17:=zaa8 (st:=top 42) l17 c17 k17
 have b17:=F17.binds (ps:=["_law_pieces_here"]) fun _ _ _ _ _ _ us hl=>match us,hl with | [_],_=>rfl
 have m17:=PySem.W.mg_of X G a17
 have F18:=zaa8 (st:=top 43) l18 c18 k18
 have b18:=F18.binds (ps:=["_law_script", "_law_at", "_law_most"]) fun _ _ _ _ _ _ us hl=>match us,hl with | [_,_,_],_=>rfl
 have m18:=PySem.W.mg_of X G a18
 have F19:=zaa8 (st:=top 44) l19 c19 k19
 have b19:=F19.binds (ps:=["_law_script", "_law_at", "_law_many", "_law_most"]) fun _ _ _ _ _ _ us hl=>match us,hl with | [_,_,_,_],_=>rfl
 have m19:=PySem.W.mg_of X G a19
 have F20:=zaa8 (st:=top 45) l20 c20 k20
 have b20:=F20.binds (ps:=["_law_modules"]) fun _ _ _ _ _ _ us hl=>match us,hl with | [_],_=>rfl
 have m20:=PySem.W.mg_of X G a20
 have F21:=zaa8 (st:=top 46) l21 c21 k21
 have b21:=F21.binds (ps:=["_law_text"]) fun _ _ _ _ _ _ us hl=>match us,hl with | [_],_=>rfl
 have m21:=PySem.W.mg_of X G a21
 have F22:=zaa8 (st:=top 47) l22 c22 k22
 have b22:=F22.binds (ps:=["_law_n"]) fun _ _ _ _ _ _ us hl=>match us,hl with | [_],_=>rfl
 have m22:=PySem.W.mg_of X G a22
 have F23:=zaa8 (st:=top 48) l23 c23 k23
 have b23:=F23.binds (ps:=["_law_n"]) fun _ _ _ _ _ _ us hl=>match us,hl with | [_],_=>rfl
 have m23:=PySem.W.mg_of X G a23
 have F24:=zaa8 (st:=top 49) l24 c24 k24
 have b24:=F24.binds (ps:=["_law_script", "_law_at", "_law_pieces_here"]) fun _ _ _ _ _ _ us hl=>match us,hl with | [_,_,_],_=>rfl
 have m24:=PySem.W.mg_of X G a24
 have F25:=zaa8 (st:=top 50) l25 c25 k25
 have F26:=zaa8 (st:=inClass (top 30) 0) l26 c26 k26
 have b26:=F26.binds (ps:=["self", "text", "line"]) fun _ _ _ _ _ _ us hl=>match us,hl with | [_,_,_],_=>rfl
 have F27:=zaa8 (st:=inClass (top 30) 1) l27 c27 k27
 have b27:=F27.binds (ps:=["self"]) fun _ _ _ _ _ _ us hl=>match us,hl with | [_],_=>rfl
 have F28:=zaa8 (st:=inClass (top 30) 2) l28 c28 k28
 have b28:=F28.binds (ps:=["self", "kind"]) fun _ _ _ _ _ _ us hl=>match us,hl with | [_,_],_=>rfl
 have F29:=zaa8 (st:=inClass (top 30) 3) l29 c29 k29
 have b29:=F29.binds (ps:=["self"]) fun _ _ _ _ _ _ us hl=>match us,hl with | [_],_=>rfl
 have F30:=zaa8 (st:=inClass (top 30) 4) l30 c30 k30
 have b30:=F30.binds (ps:=["self"]) fun _ _ _ _ _ _ us hl=>match us,hl with | [_],_=>rfl
 have F31:=zaa8 (st:=inClass (top 30) 5) l31 c31 k31
 have b31:=F31.binds (ps:=["self"]) fun _ _ _ _ _ _ us hl=>match us,hl with | [_],_=>rfl
 have F32:=zaa8 (st:=inClass (top 30) 6) l32 c32 k32
 have b32:=F32.binds (ps:=["self"]) fun _ _ _ _ _ _ us hl=>match us,hl with | [_],_=>rfl
 have F33:=zaa8 (st:=inClass (top 30) 7) l33 c33 k33
 have b33:=F33.binds (ps:=["self", "kind"]) fun _ _ _ _ _ _ us hl=>match us,hl with | [_,_],_=>rfl
 have F34:=zaa8 (st:=inClass (top 30) 8) l34 c34 k34
 have b34:=F34.binds (ps:=["self"]) fun _ _ _ _ _ _ us hl=>match us,hl with | [_],_=>rfl
 have F35:=zaa8 (st:=inClass (top 15) 0) l35 c35 k35
 have b35:=F35.binds (ps:=["self", "name", "rows"]) fun _ _ _ _ _ _ us hl=>match us,hl with | [_,_,_],_=>rfl
 have F36:=zaa8 (st:=inClass (top 8) 0) l36 c36 k36
 have b36:=F36.binds (ps:=["self", "line"]) fun _ _ _ _ _ _ us hl=>match us,hl with | [_,_],_=>rfl
 have z_len:=PySem.W.mg_none_of X G z_len
 have z_range:=PySem.W.mg_none_of X G z_range
 have z_int:=PySem.W.mg_none_of X G z_int
 have z_str:=PySem.W.mg_none_of X G z_str
 have z_isinstance:=PySem.W.mg_none_of X G z_isinstance
 have z_zip:=PySem.W.mg_none_of X G z_zip
 have z_list:=PySem.W.mg_none_of X G z_list
 have z_tuple:=PySem.W.mg_none_of X G z_tuple
 have z_bool:=PySem.W.mg_none_of X G z_bool
 have z_all:=PySem.W.mg_none_of X G z_all
 have z_enumerate:=PySem.W.mg_none_of X G z_enumerate
 have z_ValueError:=PySem.W.mg_none_of X G z_ValueError
 have m_FloorError:=PySem.W.mg_of X G eFloorError
 have m_NoText:=PySem.W.mg_of X G eNoText
 have m_NoBits:=PySem.W.mg_of X G eNoBits
 have m_NoFloor:=PySem.W.mg_of X G eNoFloor
 have m_NoNet:=PySem.W.mg_of X G eNoNet
 have m_NoPack:=PySem.W.mg_of X G eNoPack
 have m_NoRoom:=PySem.W.mg_of X G eNoRoom
 have m_NoRow:=PySem.W.mg_of X G eNoRow
 have m_NoSense:=PySem.W.mg_of X G eNoSense
 have m_NoTables:=PySem.W.mg_of X G eNoTables
 have m_NoWays:=PySem.W.mg_of X G eNoWays
 have m_OutOfFloor:=PySem.W.mg_of X G eOutOfFloor
 have mR:=PySem.W.mg_of X G aR
 have clR:Cls K CR:=⟨pgR,hdR,poR,saR⟩
 have mM:=PySem.W.mg_of X G aM
 have clM:Cls K CM:=⟨pgM,hdM,poM,saM⟩
 have m_SIGNS:=PySem.W.mg_of X G aSSIGNS
 have m_LONGEST_NAME:∃ t,mg "LONGEST_NAME" = some (.int 8 t):=⟨_,PySem.W.mg_of X G ai_LONGEST_NAME⟩
 have m_LONGEST_NUMBER:∃ t,mg "LONGEST_NUMBER" = some (.int 9 t):=⟨_,PySem.W.mg_of X G ai_LONGEST_NUMBER⟩
 have XR:XB K ENoText:=xcR
 have XF:XB K EFloorError:=xcF
 have xa:XA K ENoText:=⟨XR,xga,xgt,xcl,xsg,xtk,xmo,zaws xmo⟩
 have sub:XSub K ENoText EFloorError:=zat6 xsb
 refine ⟨PySem.W.fnOf "law" "law" (defArgs (top 50)) (defBody (top 50)) (defScope (top 50)) .none kV25 dc25 pm25 an25 cd25 ct25,fun s v=>.of_eq rfl,fun base _ _=>?_⟩
 have m_ROW_FORMS:=PySem.W.mg_of X G aRF
 have m_EXPR_FORMS:=PySem.W.mg_of X G aEF
 have sig:∀ H:Hp,SqT K H SSIGNS (SIGS.map V.str):=fun H=>.inr ⟨_,_,_,lSSIGNS,rfl,rfl,(by show 4≤sizeLine; rw [sizeLine_eq]; decide),.cons ⟨_,rfl⟩ (.cons ⟨_,rfl⟩ (.cons ⟨_,rfl⟩ (.cons ⟨_,rfl⟩ .nil)))⟩
 have D_is_letter_1:DefOk l.prog w K mg base CX0 1 "is_letter" ["sign"] spIsL:=⟨f1,_,zavi (k:=0) F1,b1,k1,m1⟩
 have D_is_figure_1:DefOk l.prog w K mg base CX0 1 "is_figure" ["sign"] spIsF:=⟨f2,_,zavj (k:=0) F2,b2,k2,m2⟩
 have D_run_end_2:DefOk l.prog w K mg base CX0 2 "run_end" ["row", "at"] spRE:=⟨f3,_,zaw7 (k:=1) F3 D_is_letter_1 D_is_figure_1 z_len,b3,k3,m3⟩
 have D_letters_piece_1:DefOk l.prog w K mg base CX0 1 "letters_piece" ["run"] spLP5:=⟨f4,_,zav8 (k:=0) F4 fo m_ROW_FORMS m_EXPR_FORMS m_LONGEST_NAME z_len,b4,k4,m4⟩
 have D_figures_piece_1:DefOk l.prog w K mg base CX0 1 "figures_piece" ["run"] spFP5:=⟨f5,_,zav9 (k:=0) F5 m_LONGEST_NUMBER z_len z_int,b5,k5,m5⟩
 have D_piece_of_2:DefOk l.prog w K mg base CX0 2 "piece_of" ["run"] spPO5:=⟨f6,_,zawa (k:=1) F6 D_is_letter_1 D_is_figure_1 D_letters_piece_1 D_figures_piece_1 m_SIGNS sig,b6,k6,m6⟩
 have D_pieces_of_3:DefOk l.prog w K mg base CX0 3 "pieces_of" ["row"] spPcs5:=⟨f7,_,zatm (k:=2) F7 D_run_end_2 D_piece_of_2 z_len,b7,k7,m7⟩
 have xi:XI K ENoText f36:=⟨XR,xkc,a36,beq_iff_eq.mp i36,xhd,xmo,xsa⟩
 have ci:ClsIni K EFloorError:=⟨fhg,frd,ffd⟩
 have RT:RaiseOk l.prog w K mg base 1 "NoText" ENoText "line" := ⟨⟨f36,_,["self", "line"],zaxn (k:=0) F36 xi xna m_FloorError ci,b36,xi,m_NoText⟩⟩
 have MkR:MakeOk l.prog w K mg base (CXE l.prog w) 4 CR "RowReader" ["self", "text", "line"] (spRI5 CR ENoText):=⟨⟨f26,_,zawb (k:=2) F26 clR nR_line nR_spot nR_pieces (RT.mono (by omega)) D_pieces_of_3,b26,⟨mkR,a26,i26,kcR⟩,mR⟩⟩
 have MKA:MethOk l.prog w K mg base CX0 1 CR "kind_ahead" ["self"] (spKA CR):=⟨clR,f27,_,zaw8 (k:=0) F27 clR nR_spot nR_pieces z_len,b27,⟨a27,i27,k27⟩⟩
 have MTK:MethOk l.prog w K mg base (CXE l.prog w) 3 CR "take" ["self", "kind"] (spTk5 CR ENoText):=⟨clR,f28,_,FnOk.imp (FnOk.orX (zaw9 (k:=2) F28 clR nR_line nR_spot nR_pieces (MKA.mono (by omega))) (zav0 (k:=1) F28 clR nR_line nR_spot nR_pieces RT (MKA.mono (by omega)))) tk5,b28,⟨a28,i28,k28⟩⟩
 have MTN:MethOk l.prog w K mg base (CXE l.prog w) 4 CR "take_named" ["self"] (spTN5 CR ENoText):=⟨clR,f30,_,zawd (k:=3) F30 clR (MKA.mono (by omega)) MTK,b30,⟨a30,i30,k30⟩⟩
 have EFE:EF K FORMS ek:=⟨fun w ks z=>hE w ks (zadw z),hEn⟩
 have EFR:EF K RFORMS rk:=⟨fun w ks z=>hR w ks (zadw z),hRn⟩
 have MTE:∀ N:Nat,MethOk l.prog w K mg base (CXE l.prog w) (5 + 2 * N) CR "take_expr" ["self"] (spTE5 CR ENoText N):=fun N=>by
  induction N with
  | zero=>exact ⟨clR,f29,_,zaqs (fun vs H Q E q=>by obtain ⟨y,dx,ln,sp,pl,ts,ps,_,_,_,_,ou⟩:=q; exact ou.ns rfl),b29,⟨a29,i29,k29⟩⟩
  | succ N ih =>
   have MB:MethOk l.prog w K mg base (CXE l.prog w) (4 + 2 * N + 2) CR "take_bracket" ["self"] (spTB5 CR ENoText N):=⟨clR,f31,_,zawg (k:=4 + 2 * N) F31 clR nR_line (RT.mono (by omega)) (MTK.mono (by omega)) (ih.mono (by omega)) m_EXPR_FORMS fo.e EFE z_tuple,b31,⟨a31,i31,k31⟩⟩
   exact (show MethOk l.prog w K mg base (CXE l.prog w) (4 + 2 * N + 2 + 1) CR "take_expr" ["self"] (spTE5 CR ENoText (N + 1)) from ⟨clR,f29,_,zawh (k:=4 + 2 * N + 2) F29 clR (MKA.mono (by omega)) (MTK.mono (by omega)) (MTN.mono (by omega)) MB,b29,⟨a29,i29,k29⟩⟩).mono (by omega)
 have MTR:MethOk l.prog w K mg base (CXE l.prog w) 48 CR "take_rest" ["self"] (spTR5 CR ENoText):=⟨clR,f32,_,zawj (k:=47) F32 clR (MKA.mono (by omega)) (MTE 21) z_tuple,b32,⟨a32,i32,k32⟩⟩
 have MTP:MethOk l.prog w K mg base (CXE l.prog w) 49 CR "take_part" ["self", "kind"] (spTP5 CR ENoText):=⟨clR,f33,_,zawk (k:=48) F33 clR (MTK.mono (by omega)) ((MTE 21).mono (by omega)) MTR,b33,⟨a33,i33,k33⟩⟩
 have MTW:MethOk l.prog w K mg base (CXE l.prog w) 50 CR "take_row" ["self"] (spRow5 CR ENoText):=⟨clR,f34,_,zatp (k:=48) F34 clR nR_line (RT.mono (by omega)) (MTK.mono (by omega)) (MKA.mono (by omega)) MTP m_ROW_FORMS fo.r EFR z_tuple,b34,⟨a34,i34,k34⟩⟩
 have Dfz:∀ N:Nat,DefOk l.prog w K mg base CX0 (1 + N) "frozen" ["thing"] (spFz N):=fun N=>by
  induction N with
  | zero=>exact ⟨f0,_,zavm (k:=0) F0,b0,k0,m0⟩
  | succ N ih=>exact ⟨f0,_,zaxb (k:=1 + N) N F0 ih z_isinstance z_list z_tuple,b0,k0,m0⟩
 have MkM:MakeOk l.prog w K mg base CX0 27 CM "Module" ["self", "name", "rows"] (spMo CM 25):=⟨⟨f35,_,zaxc (k:=26) F35 clM nM_name nM_rows (Dfz 25),b35,⟨mkM,a35,i35,kcM⟩,mM⟩⟩
 have wk:WK K ENoText [ENoBits,ENoFloor,ENoNet,ENoPack,ENoRoom,ENoRow,ENoSense,ENoTables,ENoWays,EOutOfFloor] EOutOfFloor:=by
  refine ⟨xa,w_NoText,w_V,kany fun c hm=>?_,w_OutOfFloor⟩
  simp only [List.mem_cons,List.not_mem_nil,or_false] at hm
  rcases hm with rfl | rfl | rfl | rfl | rfl | rfl | rfl | rfl | rfl | rfl
  ·exact w_NoBits
  ·exact w_NoFloor
  ·exact w_NoNet
  ·exact w_NoPack
  ·exact w_NoRoom
  ·exact w_NoRow
  ·exact w_NoSense
  ·exact w_NoTables
  ·exact w_NoWays
  ·exact w_OutOfFloor
 have DX_read_modules_51:DefOk l.prog w K mg base (CXE l.prog w) 51 "read_modules" ["text"] (spRM5 CM ENoText):=⟨f8,_,zarm (k:=49) F8 (MkR.mono (by omega)) MTW (MkM.mono (by omega)) (RT.mono (by omega)) z_enumerate z_len,b8,k8,m8⟩
 have D_read_modules_51:DefOk l.prog w K mg base CX0 51 "read_modules" ["text"] (spRM CM):=⟨f8,_,(zarm (k:=49) F8 (MkR.mono (by omega)) MTW (MkM.mono (by omega)) (RT.mono (by omega)) z_enumerate z_len).calm zatr,b8,k8,m8⟩
 have D__law_refused_52:DefOk l.prog w K mg base CX0 52 "_law_refused" ["_law_text"] spRef:=⟨f21,_,zawl (k:=51) F21 DX_read_modules_51 wk m_FloorError XF XR sub xhd xna m_NoText m_NoBits m_NoFloor m_NoNet m_NoPack m_NoRoom m_NoRow m_NoSense m_NoTables m_NoWays m_OutOfFloor z_isinstance z_ValueError z_int z_bool,b21,k21,m21⟩
 have D__law_next_1:DefOk l.prog w K mg base CX0 1 "_law_next" ["_law_script", "_law_at"] (spNext K):=⟨f9,_,zasz (k:=0) F9 z_len z_range,b9,k9,m9⟩
 have D__law_words_1:DefOk l.prog w K mg base CX0 1 "_law_words" [] spWords:=⟨f10,_,zap6 (k:=0) F10,b10,k10,m10⟩
 have D__law_name_2:DefOk l.prog w K mg base CX0 2 "_law_name" ["_law_script", "_law_at"] (spName K):=⟨f11,_,zas0 (k:=1) F11 D__law_next_1 D__law_words_1 z_range z_int,b11,k11,m11⟩
 have D__law_number_2:DefOk l.prog w K mg base CX0 2 "_law_number" ["_law_script", "_law_at"] (spNumber K):=⟨f12,_,zang (k:=1) F12 D__law_next_1,b12,k12,m12⟩
 have D__law_leaf_3:DefOk l.prog w K mg base CX0 3 "_law_leaf" ["_law_script", "_law_at", "_law_n"] (spLeaf K):=⟨f13,_,zas1 (k:=2) F13 D__law_name_2 D__law_number_2,b13,k13,m13⟩
 have Dexpr:∀ N:Nat,DefOk l.prog w K mg base CX0 (3 + N) "_law_expr" ["_law_script", "_law_at", "_law_deep"] (spExpr K N):=fun N=>by
  induction N with
  | zero=>exact ⟨f14,_,zao1 (fun vs H Q E q=>by obtain ⟨a,b,d,ns,c,_,_,_,_,_,hN,_⟩:=q; exact absurd hN (Nat.not_lt_zero _)),b14,k14,m14⟩
  | succ N ih=>exact ⟨f14,_,zas2 (k:=3 + N) F14 (D__law_next_1.mono (by omega)) (D__law_leaf_3.mono (by omega)) (D__law_number_2.mono (by omega)) ih,b14,k14,m14⟩
 have D__law_row_8:DefOk l.prog w K mg base CX0 8 "_law_row" ["_law_script", "_law_at", "_law_most"] (spRow3 K):=⟨f18,_,zas8 (k:=7) F18 (D__law_next_1.mono (by omega)) (D__law_name_2.mono (by omega)) (D__law_number_2.mono (by omega)) (Dexpr 4) z_range z_tuple,b18,k18,m18⟩
 have D__law_drawn_modules_9:DefOk l.prog w K mg base CX0 9 "_law_drawn_modules" ["_law_script", "_law_at", "_law_many", "_law_most"] (spDM K):=⟨f19,_,zaxf (k:=8) F19 (D__law_next_1.mono (by omega)) (D__law_name_2.mono (by omega)) D__law_row_8 z_range z_tuple,b19,k19,m19⟩
 have Dpc:∀ N:Nat,DefOk l.prog w K mg base CX0 N "_law_pieces" ["_law_expr_here"] (spPc N):=fun N=>by
  induction N with
  | zero=>exact ⟨f15,_,zao1 (fun vs H Q E q=>by obtain ⟨v,e,_,_,_,hd,_⟩:=q; exact absurd hd (Nat.not_lt_zero _)),b15,k15,m15⟩
  | succ N ih=>exact ⟨f15,_,zaw6 (k:=N) F15 ih z_isinstance z_int z_str,b15,k15,m15⟩
 have D__law_glued_1:DefOk l.prog w K mg base CX0 1 "_law_glued" ["_law_pieces_here"] spGl:=⟨f17,_,zaxm (k:=0) F17 z_zip,b17,k17,m17⟩
 have D__law_row_pieces_22:DefOk l.prog w K mg base CX0 22 "_law_row_pieces" ["_law_row_here"] spRwP:=⟨f16,_,zavt (k:=21) F16 (Dpc 21) z_isinstance z_int z_str,b16,k16,m16⟩
 have D__law_rows_of_23:DefOk l.prog w K mg base CX0 23 "_law_rows_of" ["_law_modules"] spRO:=⟨f20,_,zaxg (k:=22) F20 D__law_row_pieces_22,b20,k20,m20⟩
 have D5__law_words_1:DefOk l.prog w K mg base CX0 1 "_law_words" [] spWords5:=⟨f10,_,zaou (k:=0) F10,b10,k10,m10⟩
 have D__law_bad_name_2:DefOk l.prog w K mg base CX0 2 "_law_bad_name" ["_law_n"] spBN:=⟨f22,_,zaxz (k:=1) F22 D5__law_words_1,b22,k22,m22⟩
 have D__law_bad_expr_1:DefOk l.prog w K mg base CX0 1 "_law_bad_expr" ["_law_n"] spBX:=⟨f23,_,zax0 (k:=0) F23 z_len,b23,k23,m23⟩
 have D__law_spoilt_3:DefOk l.prog w K mg base CX0 3 "_law_spoilt" ["_law_script", "_law_at", "_law_pieces_here"] (spSpo K):=⟨f24,_,zawq (k:=2) F24 (D__law_next_1.mono (by omega)) (D__law_glued_1.mono (by omega)) (D__law_bad_name_2.mono (by omega)) (D__law_bad_expr_1.mono (by omega)) z_len z_int,b24,k24,m24⟩
 exact zawr (k:=59) F25 (D__law_next_1.mono (by omega)) (D__law_drawn_modules_9.mono (by omega)) (D__law_glued_1.mono (by omega)) (D__law_rows_of_23.mono (by omega)) (D__law_spoilt_3.mono (by omega)) (D__law_refused_52.mono (by omega)) (D_read_modules_51.mono (by omega)) z_range z_len
end

end B17
namespace B17
open PySem L2
theorem sqk {K:PySem.W.Frag}{a:Addr}{o:Obj}{its:Array Value}{n:Nat}{xs:List V} (h1:K.lookup a=some o) (h2:o.cls=.type "tuple") (h3:o.data=.seq its n) (h4:its.size≤sizeLine) (h5:Vals xs its.toList) (H:Hp):SqT K H a xs:=.inr ⟨o,its,n,h1,h2,h3,h4,h5⟩
theorem rs {x:Str}{t:Tok}:RelV (.str x) (Value.str x t):=⟨t,rfl⟩
theorem zax4 {K:PySem.W.Frag}{C CF N:Addr}{dd ddN:Option Addr}{cd:ClassData}{sl slN:Array (Option Value)}{k0 k1 k2 k3 k5:Option Value}{cN:Value}{es:Array DictEntry}{ep:Nat} (xF:XC K CF) (l:K.lookup C=some ⟨.type "type",dd,.cls cd,sl⟩) (hm:cd.mro=.ref C :: .ref CF :: bmV)
  (hs:sl.toList=[k0,k1,k2,k3,some (.builtin "ValueError.__new__"),k5]) (hd:cd.hasDel=false) (hN:cd.ns=N) (lN:K.lookup N=some ⟨cN,ddN,.dict es ep,slN⟩) (he:(es.toList.all fun e=>match e.key with | .str _ _=>true | _=>false)=true):XB K C:=by
 have t0:PySem.W.tailIn K bmV bmV=true:=rfl
 have t1:PySem.W.tailIn K bmV (.ref CF :: bmV)=true:=by
  have xF:PySem.W.excIn K CF bmV "ValueError.__new__" = true:=xF
  unfold PySem.W.excIn at xF
  unfold PySem.W.tailIn
  split at xF
  case h_2=>cases xF
  case h_1 ddF cF slF ho =>
   split at xF
   case h_2=>cases xF
   case h_1 C' bm k0 k1 k2 k3 n k5 hm hs =>
    simp only [Bool.and_eq_true] at xF
    dsimp only
    rw [ho]
    simp only [xF.1.2,xF.2,t0,Bool.and_self,Bool.or_true]
 have t2:PySem.W.nsOkIn K cd.ns=true:=by
  unfold PySem.W.nsOkIn
  rw [hN,lN]
  rw [Array.all_toList] at he
  exact he
 unfold XB
 rw [l]
 show (match cd.mro,sl.toList with
  | .ref C' :: bm,[_,_,_,_,some (.builtin n),_]=>C' == C && n == "ValueError.__new__" && !cd.hasDel && PySem.W.tailIn K bmV bm && PySem.W.nsOkIn K cd.ns
  | _,_=>false)=true
 rw [hm,hs]
 show (C == C && "ValueError.__new__" == "ValueError.__new__" && !cd.hasDel && PySem.W.tailIn K bmV (.ref CF :: bmV) && PySem.W.nsOkIn K cd.ns)=true
 rw [t1,t2,hd]
 simp
def rXS:List (Str × Tok × Value):=[("module",469,.ref 222),("in",471,.ref 223),("keep",474,.ref 224),("let",478,.ref 225),("use",481,.ref 226),("next",485,.ref 227),("out",488,.ref 228),("end",491,.ref 229)]
def rVS:List V:=[.ref 222,.ref 223,.ref 224,.ref 225,.ref 226,.ref 227,.ref 228,.ref 229]
def rKV:List (Key × V):=(rXS.map fun x=>(Sum.inr x.1:Key)).zip rVS
theorem rkd {P:Program}{w:World}{K:PySem.W.Frag}{ff:Addr}{od:Option Addr}{ep:Nat}{sl:Array (Option Value)}{es:Array DictEntry} (l:K.lookup ff=some ⟨.type "dict",od,.dict es ep,sl⟩) (he:es.toList=rXS.map (ent w))
  (hx:(⟨.type "dict",od,.dict es ep,sl⟩:Obj).ExactDict) (ns:(ff == sysModules)=false):KD P w K ff rKV:=zava rXS rVS l he hx ns (by decide +kernel) (.cons rfl (.cons rfl (.cons rfl (.cons rfl (.cons rfl (.cons rfl (.cons rfl (.cons rfl (.nil)))))))))
theorem rform {K:PySem.W.Frag}{od0:Option Addr}{sl0:Array (Option Value)}{n0:Nat}{t0_0:Tok}{od1:Option Addr}{sl1:Array (Option Value)}{n1:Nat}{t1_0:Tok}{t1_1:Tok}{od2:Option Addr}{sl2:Array (Option Value)}{n2:Nat}{t2_0:Tok}{t2_1:Tok}{t2_2:Tok}{od3:Option Addr}{sl3:Array (Option Value)}{n3:Nat}{t3_0:Tok}{t3_1:Tok}{od4:Option Addr}{sl4:Array (Option Value)}{n4:Nat}{t4_0:Tok}{t4_1:Tok}{t4_2:Tok}{od5:Option Addr}{sl5:Array (Option Value)}{n5:Nat}{t5_0:Tok}{t5_1:Tok}{od6:Option Addr}{sl6:Array (Option Value)}{n6:Nat}{t6_0:Tok}{t6_1:Tok}{od7:Option Addr}{sl7:Array (Option Value)}{n7:Nat}
  (l0:K.lookup 222=some ⟨.type "tuple",od0,.seq #[.str "name" t0_0] n0,sl0⟩)
  (l1:K.lookup 223=some ⟨.type "tuple",od1,.seq #[.str "name" t1_0,.str "number" t1_1] n1,sl1⟩)
  (l2:K.lookup 224=some ⟨.type "tuple",od2,.seq #[.str "name" t2_0,.str "number" t2_1,.str "number" t2_2] n2,sl2⟩)
  (l3:K.lookup 225=some ⟨.type "tuple",od3,.seq #[.str "name" t3_0,.str "expr" t3_1] n3,sl3⟩)
  (l4:K.lookup 226=some ⟨.type "tuple",od4,.seq #[.str "name" t4_0,.str "name" t4_1,.str "exprs" t4_2] n4,sl4⟩)
  (l5:K.lookup 227=some ⟨.type "tuple",od5,.seq #[.str "name" t5_0,.str "expr" t5_1] n5,sl5⟩)
  (l6:K.lookup 228=some ⟨.type "tuple",od6,.seq #[.str "name" t6_0,.str "expr" t6_1] n6,sl6⟩)
  (l7:K.lookup 229=some ⟨.type "tuple",od7,.seq #[] n7,sl7⟩) :
  ∀ w ks,(w,ks)∈RFORMS→∃ q,valV rKV (Sum.inr w)=some (.ref q)∧∀ H:Hp,SqT K H q (ks.map V.str):=by
 intro w ks h
 simp only [RFORMS,List.mem_cons,List.not_mem_nil,or_false,Prod.mk.injEq] at h
 rcases h with ⟨rfl,rfl⟩ | ⟨rfl,rfl⟩ | ⟨rfl,rfl⟩ | ⟨rfl,rfl⟩ | ⟨rfl,rfl⟩ | ⟨rfl,rfl⟩ | ⟨rfl,rfl⟩ | ⟨rfl,rfl⟩
 ·exact ⟨222,by decide +kernel,fun H=>sqk (xs:=[V.str "name"]) l0 rfl rfl (by show 1≤sizeLine; decide) (.cons rs (.nil)) H⟩
 ·exact ⟨223,by decide +kernel,fun H=>sqk (xs:=[V.str "name",V.str "number"]) l1 rfl rfl (by show 2≤sizeLine; decide) (.cons rs (.cons rs (.nil))) H⟩
 ·exact ⟨224,by decide +kernel,fun H=>sqk (xs:=[V.str "name",V.str "number",V.str "number"]) l2 rfl rfl (by show 3≤sizeLine; decide) (.cons rs (.cons rs (.cons rs (.nil)))) H⟩
 ·exact ⟨225,by decide +kernel,fun H=>sqk (xs:=[V.str "name",V.str "expr"]) l3 rfl rfl (by show 2≤sizeLine; decide) (.cons rs (.cons rs (.nil))) H⟩
 ·exact ⟨226,by decide +kernel,fun H=>sqk (xs:=[V.str "name",V.str "name",V.str "exprs"]) l4 rfl rfl (by show 3≤sizeLine; decide) (.cons rs (.cons rs (.cons rs (.nil)))) H⟩
 ·exact ⟨227,by decide +kernel,fun H=>sqk (xs:=[V.str "name",V.str "expr"]) l5 rfl rfl (by show 2≤sizeLine; decide) (.cons rs (.cons rs (.nil))) H⟩
 ·exact ⟨228,by decide +kernel,fun H=>sqk (xs:=[V.str "name",V.str "expr"]) l6 rfl rfl (by show 2≤sizeLine; decide) (.cons rs (.cons rs (.nil))) H⟩
 ·exact ⟨229,by decide +kernel,fun H=>sqk (xs:=[]) l7 rfl rfl (by show 0≤sizeLine; decide) (.nil) H⟩
def eXS:List (Str × Tok × Value):=[("not",501,.ref 231),("and",503,.ref 232),("or",506,.ref 233),("xor",509,.ref 234),("plus",512,.ref 235),("less",515,.ref 236),("same",518,.ref 237),("pick",521,.ref 238),("part",525,.ref 239),("join",529,.ref 240)]
def eVS:List V:=[.ref 231,.ref 232,.ref 233,.ref 234,.ref 235,.ref 236,.ref 237,.ref 238,.ref 239,.ref 240]
def eKV:List (Key × V):=(eXS.map fun x=>(Sum.inr x.1:Key)).zip eVS
theorem ekd {P:Program}{w:World}{K:PySem.W.Frag}{ff:Addr}{od:Option Addr}{ep:Nat}{sl:Array (Option Value)}{es:Array DictEntry} (l:K.lookup ff=some ⟨.type "dict",od,.dict es ep,sl⟩) (he:es.toList=eXS.map (ent w))
  (hx:(⟨.type "dict",od,.dict es ep,sl⟩:Obj).ExactDict) (ns:(ff == sysModules)=false):KD P w K ff eKV:=zava eXS eVS l he hx ns (by decide +kernel) (.cons rfl (.cons rfl (.cons rfl (.cons rfl (.cons rfl (.cons rfl (.cons rfl (.cons rfl (.cons rfl (.cons rfl (.nil)))))))))))
theorem eform {K:PySem.W.Frag}{od0:Option Addr}{sl0:Array (Option Value)}{n0:Nat}{t0_0:Tok}{od1:Option Addr}{sl1:Array (Option Value)}{n1:Nat}{t1_0:Tok}{t1_1:Tok}{od2:Option Addr}{sl2:Array (Option Value)}{n2:Nat}{t2_0:Tok}{t2_1:Tok}{od3:Option Addr}{sl3:Array (Option Value)}{n3:Nat}{t3_0:Tok}{t3_1:Tok}{od4:Option Addr}{sl4:Array (Option Value)}{n4:Nat}{t4_0:Tok}{t4_1:Tok}{od5:Option Addr}{sl5:Array (Option Value)}{n5:Nat}{t5_0:Tok}{t5_1:Tok}{od6:Option Addr}{sl6:Array (Option Value)}{n6:Nat}{t6_0:Tok}{t6_1:Tok}{od7:Option Addr}{sl7:Array (Option Value)}{n7:Nat}{t7_0:Tok}{t7_1:Tok}{t7_2:Tok}{od8:Option Addr}{sl8:Array (Option Value)}{n8:Nat}{t8_0:Tok}{t8_1:Tok}{t8_2:Tok}{od9:Option Addr}{sl9:Array (Option Value)}{n9:Nat}{t9_0:Tok}{t9_1:Tok}
  (l0:K.lookup 231=some ⟨.type "tuple",od0,.seq #[.str "expr" t0_0] n0,sl0⟩)
  (l1:K.lookup 232=some ⟨.type "tuple",od1,.seq #[.str "expr" t1_0,.str "expr" t1_1] n1,sl1⟩)
  (l2:K.lookup 233=some ⟨.type "tuple",od2,.seq #[.str "expr" t2_0,.str "expr" t2_1] n2,sl2⟩)
  (l3:K.lookup 234=some ⟨.type "tuple",od3,.seq #[.str "expr" t3_0,.str "expr" t3_1] n3,sl3⟩)
  (l4:K.lookup 235=some ⟨.type "tuple",od4,.seq #[.str "expr" t4_0,.str "expr" t4_1] n4,sl4⟩)
  (l5:K.lookup 236=some ⟨.type "tuple",od5,.seq #[.str "expr" t5_0,.str "expr" t5_1] n5,sl5⟩)
  (l6:K.lookup 237=some ⟨.type "tuple",od6,.seq #[.str "expr" t6_0,.str "expr" t6_1] n6,sl6⟩)
  (l7:K.lookup 238=some ⟨.type "tuple",od7,.seq #[.str "expr" t7_0,.str "expr" t7_1,.str "expr" t7_2] n7,sl7⟩)
  (l8:K.lookup 239=some ⟨.type "tuple",od8,.seq #[.str "expr" t8_0,.str "number" t8_1,.str "number" t8_2] n8,sl8⟩)
  (l9:K.lookup 240=some ⟨.type "tuple",od9,.seq #[.str "expr" t9_0,.str "expr" t9_1] n9,sl9⟩) :
  ∀ w ks,(w,ks)∈FORMS→∃ q,valV eKV (Sum.inr w)=some (.ref q)∧∀ H:Hp,SqT K H q (ks.map V.str):=by
 intro w ks h
 simp only [FORMS,List.mem_cons,List.not_mem_nil,or_false,Prod.mk.injEq] at h
 rcases h with ⟨rfl,rfl⟩ | ⟨rfl,rfl⟩ | ⟨rfl,rfl⟩ | ⟨rfl,rfl⟩ | ⟨rfl,rfl⟩ | ⟨rfl,rfl⟩ | ⟨rfl,rfl⟩ | ⟨rfl,rfl⟩ | ⟨rfl,rfl⟩ | ⟨rfl,rfl⟩
 ·exact ⟨231,by decide +kernel,fun H=>sqk (xs:=[V.str "expr"]) l0 rfl rfl (by show 1≤sizeLine; decide) (.cons rs (.nil)) H⟩
 ·exact ⟨232,by decide +kernel,fun H=>sqk (xs:=[V.str "expr",V.str "expr"]) l1 rfl rfl (by show 2≤sizeLine; decide) (.cons rs (.cons rs (.nil))) H⟩
 ·exact ⟨233,by decide +kernel,fun H=>sqk (xs:=[V.str "expr",V.str "expr"]) l2 rfl rfl (by show 2≤sizeLine; decide) (.cons rs (.cons rs (.nil))) H⟩
 ·exact ⟨234,by decide +kernel,fun H=>sqk (xs:=[V.str "expr",V.str "expr"]) l3 rfl rfl (by show 2≤sizeLine; decide) (.cons rs (.cons rs (.nil))) H⟩
 ·exact ⟨235,by decide +kernel,fun H=>sqk (xs:=[V.str "expr",V.str "expr"]) l4 rfl rfl (by show 2≤sizeLine; decide) (.cons rs (.cons rs (.nil))) H⟩
 ·exact ⟨236,by decide +kernel,fun H=>sqk (xs:=[V.str "expr",V.str "expr"]) l5 rfl rfl (by show 2≤sizeLine; decide) (.cons rs (.cons rs (.nil))) H⟩
 ·exact ⟨237,by decide +kernel,fun H=>sqk (xs:=[V.str "expr",V.str "expr"]) l6 rfl rfl (by show 2≤sizeLine; decide) (.cons rs (.cons rs (.nil))) H⟩
 ·exact ⟨238,by decide +kernel,fun H=>sqk (xs:=[V.str "expr",V.str "expr",V.str "expr"]) l7 rfl rfl (by show 3≤sizeLine; decide) (.cons rs (.cons rs (.cons rs (.nil)))) H⟩
 ·exact ⟨239,by decide +kernel,fun H=>sqk (xs:=[V.str "expr",V.str "number",V.str "number"]) l8 rfl rfl (by show 3≤sizeLine; decide) (.cons rs (.cons rs (.cons rs (.nil)))) H⟩
 ·exact ⟨240,by decide +kernel,fun H=>sqk (xs:=[V.str "expr",V.str "expr"]) l9 rfl rfl (by show 2≤sizeLine; decide) (.cons rs (.cons rs (.nil))) H⟩
theorem zakl {kvs:List (Key × V)} (x:Key):(valV kvs x).isSome=true↔x∈kvs.map Prod.fst:=by
 induction kvs with
 | nil=>exact ⟨fun h=>(by cases h),fun h=>(by cases h)⟩
 | cons a kvs ih =>
  obtain ⟨k,v⟩:=a
  rw [List.map_cons,List.mem_cons]
  by_cases h:k=x
  ·subst h
   rw [zakq (κ:=Key) rfl]
   exact ⟨fun _=>.inl rfl,fun _=>rfl⟩
  ·rw [zakr h,ih]
   exact ⟨.inr,fun z=>z.resolve_left fun e=>h e.symm⟩
theorem zawu:rKV.map Prod.fst=(rXS.map Prod.fst).map Sum.inr:=rfl
theorem zawv:eKV.map Prod.fst=(eXS.map Prod.fst).map Sum.inr:=rfl
theorem zat7:rKV.map Prod.fst=(RFORMS.map Prod.fst).map Sum.inr:=by decide +kernel
theorem zat8:eKV.map Prod.fst=(FORMS.map Prod.fst).map Sum.inr:=by decide +kernel
theorem knone {T:List (Str × List Str)}{kvs:List (Key × V)} (hk:kvs.map Prod.fst=(T.map Prod.fst).map Sum.inr):∀ w,formOf T w=none→valV kvs (Sum.inr w)=none:=fun w h=>by
 cases e:valV kvs (Sum.inr w) with
 | none=>rfl
 | some v =>
  have z:=(zakl (kvs:=kvs) (Sum.inr w)).mp (by rw [e]; rfl)
  rw [hk] at z
  obtain ⟨y,hy,e2⟩:=List.mem_map.mp z
  cases e2
  obtain ⟨p,hp,rfl⟩:=List.mem_map.mp hy
  exact absurd rfl (zaoh h p hp)
theorem zat9:rXS.map Prod.fst++eXS.map Prod.fst=WORDS:=by decide +kernel
theorem zaqt {P:Program}{w:World}{K:PySem.W.Frag}{ra ea:Addr} (r:KD P w K ra rKV) (e:KD P w K ea eKV):Forms P w K ra ea rKV eKV:=⟨r,e,fun x=>by
 refine Bool.eq_iff_iff.mpr ?_
 rw [Bool.or_eq_true,zakl,zakl,decide_eq_true_iff,zawu,zawv,← zat9,List.mem_append]
 have key:∀ l:List Str,(Sum.inr x:Key)∈l.map Sum.inr↔x∈l:=fun l=>⟨fun h=>by
  obtain ⟨y,hy,e⟩:=List.mem_map.mp h
  cases e
  exact hy,fun h=>List.mem_map.mpr ⟨x,h,rfl⟩⟩
 rw [key,key]⟩
end B17
open PySem PySem.W PyProof.Rows
theorem PySem.W.Fast.tw11802239317671419898:True:=trivial
theorem PySem.W.Fast.tw302411756811313658:True:=trivial
theorem PySem.W.Fast.tw6354031796097356378:True:=trivial
theorem PySem.W.Fast.tw15817177065766569899:True:=trivial
theorem PySem.W.Fast.tw15008128328404513247:True:=trivial
theorem PySem.W.Fast.tw9380422838824938099:True:=trivial
theorem PySem.W.Fast.tw14411810084173706553:True:=trivial
theorem PySem.W.Fast.tw11096802561600298982:True:=trivial
theorem PySem.W.Fast.tw15170425888515522940:True:=trivial
theorem PySem.W.Fast.tw6689845347465063353:True:=trivial
theorem PySem.W.Fast.tw12933435392450878950:True:=trivial
theorem PySem.W.Fast.tw6597614844300561586:True:=trivial
theorem PySem.W.Fast.tw4600701095925377647:True:=trivial
theorem PySem.W.Fast.tw15350559778440222357:True:=trivial
theorem PySem.W.Fast.tw11115358019143874648:True:=trivial
theorem PySem.W.Fast.tw8715706249238377934:True:=trivial
theorem PySem.W.Fast.tw12907958394370275996:True:=trivial
theorem PySem.W.Fast.tw11336415463514989496:True:=trivial
theorem PySem.W.Fast.tw4815984857090500908:True:=trivial
theorem PySem.W.Fast.tw4963408449421213612:True:=trivial
theorem PySem.W.Fast.tw14118466221244066583:True:=trivial
theorem PySem.W.Fast.tw8889239801638717188:True:=trivial
theorem PySem.W.Fast.tw12968798778433538322:True:=trivial
theorem PySem.W.Fast.tw1075892995357467513:True:=trivial
theorem PySem.W.Fast.tw9967708948516230821:True:=trivial
theorem PySem.W.Fast.tw8319748327204593844:True:=trivial
theorem PySem.W.Fast.tw4083320594810101953:True:=trivial
theorem PySem.W.Fast.tw14651437917692220358:True:=trivial
theorem PySem.W.Fast.tw17796326193315482465:True:=trivial
theorem PySem.W.Fast.tw17734085893040367817:True:=trivial
theorem PySem.W.Fast.tw12673965543551175878:True:=trivial
theorem PySem.W.Fast.tw221804490435585585:True:=trivial
theorem PySem.W.Fast.tw456124847620443114:True:=trivial
theorem PySem.W.Fast.tw14175577972526396217:True:=trivial
theorem PySem.W.Fast.tw10625692844698395155:True:=trivial
theorem PySem.W.Fast.tw1339092392500596055:True:=trivial
theorem PySem.W.Fast.tw2544003036155306550:True:=trivial
theorem PySem.W.Fast.tw11033660904331097891:True:=trivial
theorem PySem.W.Fast.tw2766919264315565925:True:=trivial
theorem PySem.W.Fast.tw17062656010318885998:True:=trivial
theorem PySem.W.Fast.tw10290959834980482903:True:=trivial
theorem PySem.W.Fast.tw5362895280607351256:True:=trivial
theorem PySem.W.Fast.tw11834500304509121059:True:=trivial
theorem PySem.W.Fast.tw11166698248242696402:True:=trivial
theorem PySem.W.Fast.tw18392639880753676825:True:=trivial
theorem PySem.W.Fast.tw15556400011733745789:True:=trivial
theorem PySem.W.Fast.tw3907437201063911290:True:=trivial
theorem PySem.W.Fast.tw16629400932856836090:True:=trivial
theorem PySem.W.Fast.tw5341981985800349316:True:=trivial
theorem PySem.W.Fast.tw11818130316401033574:True:=trivial
theorem PySem.W.Fast.tw10822288917530362900:True:=trivial
theorem PySem.W.Fast.tw2033379202932162402:True:=trivial
theorem PySem.W.Fast.tw8857877674876725492:True:=trivial
theorem PySem.W.Fast.tw8763395564265746935:True:=trivial
theorem PySem.W.Fast.tw17197933271563164882:True:=trivial
theorem PySem.W.Fast.tw3996888860253889149:True:=trivial
theorem PySem.W.Fast.tw1435660932551793589:True:=trivial
theorem PySem.W.Fast.tw1895844685248555869:True:=trivial
theorem PySem.W.Fast.tw14511419567643316698:True:=trivial
theorem PySem.W.Fast.tw5353111462562124169:True:=trivial
theorem PySem.W.Fast.tw4202449442119611175:True:=trivial
theorem PySem.W.Fast.tw17001407046237267965:True:=trivial
theorem PySem.W.Fast.tw5249183306187811087:True:=trivial
theorem PySem.W.Fast.tw7142457682563665428:True:=trivial
theorem PySem.W.Fast.tw9363444635938751676:True:=trivial
theorem PySem.W.Fast.tw4406099973169604113:True:=trivial
theorem PySem.W.Fast.tw4392210799736078663:True:=trivial
theorem PySem.W.Fast.tw11751239384158631635:True:=trivial
theorem PySem.W.Fast.tw11732174901302544005:True:=trivial
theorem PySem.W.Fast.tw9988041545655258728:True:=trivial
theorem PySem.W.Fast.tw10895414930828641731:True:=trivial
theorem PySem.W.Fast.tw1409016246970000478:True:=trivial
theorem PySem.W.Fast.tw13479034613372038427:True:=trivial
theorem PySem.W.Fast.tw17510701836807918335:True:=trivial
theorem PySem.W.Fast.tw15890583277644185016:True:=trivial
theorem PySem.W.Fast.tw16282916407150429287:True:=trivial
theorem PySem.W.Fast.tw4834735851177571160:True:=trivial
theorem PySem.W.Fast.tw10404732511360586381:True:=trivial
theorem PySem.W.Fast.tw2344933194175457726:True:=trivial
theorem PySem.W.Fast.tw6204925828502352871:True:=trivial
theorem PySem.W.Fast.tw8285752091904766683:True:=trivial
theorem PySem.W.Fast.tw7813902773951517980:True:=trivial
theorem PySem.W.Fast.tw8274537559801247933:True:=trivial
theorem PySem.W.Fast.tw1812937531124392227:True:=trivial
theorem PySem.W.Fast.tw7347311508528828963:True:=trivial
theorem PySem.W.Fast.tw433088086178385631:True:=trivial
theorem PySem.W.Fast.tw18299582960015752375:True:=trivial
theorem PySem.W.Fast.tw7179830308205193822:True:=trivial
theorem PySem.W.Fast.tw9133510112023656910:True:=trivial
theorem PySem.W.Fast.tw11334549594962856998:True:=trivial
theorem PySem.W.Fast.tw9850042651073937664:True:=trivial
theorem PySem.W.Fast.tw1190244759188047977:True:=trivial
theorem PySem.W.Fast.tw4430374868631536984:True:=trivial
theorem PySem.W.Fast.tw10093563277829661007:True:=trivial
theorem PySem.W.Fast.tw113863526661471663:True:=trivial
theorem PySem.W.Fast.tw8247109963075942072:True:=trivial
theorem PySem.W.Fast.tw11111108465381103785:True:=trivial
theorem PySem.W.Fast.tw7748389365735047721:True:=trivial
theorem PySem.W.Fast.tw2191663762638460009:True:=trivial
theorem PySem.W.Fast.tw368828631786684514:True:=trivial
theorem PySem.W.Fast.tw15643253807760976396:True:=trivial
theorem PySem.W.Fast.tw13940827220652576420:True:=trivial
theorem PySem.W.Fast.tw8348713933170429981:True:=trivial
theorem PySem.W.Fast.tw18147525971048944425:True:=trivial
theorem PySem.W.Fast.tw16320636514096060144:True:=trivial
theorem PySem.W.Fast.tw504267501079367471:True:=trivial
theorem PySem.W.Fast.tw110932590543602648:True:=trivial
theorem PySem.W.Fast.tw8780614112008329544:True:=trivial
theorem PySem.W.Fast.tw827894045222290399:True:=trivial
theorem PySem.W.Fast.tw999629239286034878:True:=trivial
theorem PySem.W.Fast.tw1492565437522946942:True:=trivial
theorem PySem.W.Fast.tw904331011356811435:True:=trivial
theorem PySem.W.Fast.tw13433508583387584842:True:=trivial
theorem PySem.W.Fast.tw5724889393093390024:True:=trivial
theorem PySem.W.Fast.tw16875324099307026831:True:=trivial
theorem PySem.W.Fast.tw10188985947438684644:True:=trivial
theorem PySem.W.Fast.tw14859689283563291428:True:=trivial
theorem PySem.W.Fast.tw13865050365952583833:True:=trivial
theorem PySem.W.Fast.tw12549925460067005246:True:=trivial
theorem PySem.W.Fast.tw17849063767704693801:True:=trivial
theorem PySem.W.Fast.tw1110171305645386217:True:=trivial
theorem PySem.W.Fast.tw4843827680150283429:True:=trivial
theorem PySem.W.Fast.tw17385645379549992679:True:=trivial
theorem PySem.W.Fast.tw13958731514124062345:True:=trivial
theorem PySem.W.Fast.tw14246597972089626215:True:=trivial
theorem PySem.W.Fast.tw2589195783604926779:True:=trivial
theorem PySem.W.Fast.tw15361187209091853513:True:=trivial
theorem PySem.W.Fast.tw16917183899095195749:True:=trivial
theorem PySem.W.Fast.tw9239907401114642092:True:=trivial
theorem PySem.W.Fast.tw10292490218518601403:True:=trivial
theorem PySem.W.Fast.tw2809047990755670420:True:=trivial
set_option maxRecDepth 100000 in
set_option maxHeartbeats 0 in
theorem PySem.Challenge.cw_bitfloor_k05_rows_refused_holds : PySem.Challenge.rw_bitfloor_k05_rows_refused.Holds := by
 w_on; o_law; k_head; (case hw=>w_witness2)
 k_fill
 refine L2.zapm (l:=PySem.Challenge.rw_bitfloor_k05_rows_refused) (n:=63) (k:=60) (x := "_law_script") (CX:=L2.CX0) (sp:=B17.spLaw) rfl (by decide) rfl ⟨rfl,by decide,by decide⟩ (fun w h Y=>PySem.W.kIn_of Y) ?F ?S ?C
 case F =>
  intro w mg fa h KX G hmg
  refine' B17.zawt KX G hmg ?aSSIGNS ?lSSIGNS ?aR ?aM ?eFloorError ?eNoText ?eNoBits ?eNoFloor ?eNoNet ?eNoPack ?eNoRoom ?eNoRow ?eNoSense ?eNoTables ?eNoWays ?eOutOfFloor ?a0 ?l0 ?c0 ?k0 ?a1 ?l1 ?c1 ?k1 ?a2 ?l2 ?c2 ?k2 ?a3 ?l3 ?c3 ?k3 ?a4 ?l4 ?c4 ?k4 ?a5 ?l5 ?c5 ?k5 ?a6 ?l6 ?c6 ?k6 ?a7 ?l7 ?c7 ?k7 ?a8 ?l8 ?c8 ?k8 ?a9 ?l9 ?c9 ?k9 ?a10 ?l10 ?c10 ?k10 ?a11 ?l11 ?c11 ?k11 ?a12 ?l12 ?c12 ?k12 ?a13 ?l13 ?c13 ?k13 ?a14 ?l14 ?c14 ?k14 ?a15 ?l15 ?c15 ?k15 ?a16 ?l16 ?c16 ?k16 ?a17 ?l17 ?c17 ?k17 ?a18 ?l18 ?c18 ?k18 ?a19 ?l19 ?c19 ?k19 ?a20 ?l20 ?c20 ?k20 ?a21 ?l21 ?c21 ?k21 ?a22 ?l22 ?c22 ?k22 ?a23 ?l23 ?c23 ?k23 ?a24 ?l24 ?c24 ?k24 ?a25 ?l25 ?c25 ?k25 ?a26 ?l26 ?c26 ?k26 ?i26 ?a27 ?l27 ?c27 ?k27 ?i27 ?a28 ?l28 ?c28 ?k28 ?i28 ?a29 ?l29 ?c29 ?k29 ?i29 ?a30 ?l30 ?c30 ?k30 ?i30 ?a31 ?l31 ?c31 ?k31 ?i31 ?a32 ?l32 ?c32 ?k32 ?i32 ?a33 ?l33 ?c33 ?k33 ?i33 ?a34 ?l34 ?c34 ?k34 ?i34 ?a35 ?l35 ?c35 ?k35 ?i35 ?a36 ?l36 ?c36 ?k36 ?i36 ?pgR ?hdR ?poR ?saR ?mkR ?kcR ?nR_line ?nR_spot ?nR_pieces ?pgM ?hdM ?poM ?saM ?mkM ?kcM ?nM_name ?nM_rows ?z_len ?z_range ?z_int ?z_str ?z_isinstance ?z_zip ?z_list ?z_tuple ?z_bool ?z_all ?z_enumerate ?z_ValueError ?xhd ?xsa ?xkc ?xna ?fhg ?frd ?ffd ?xcR ?xcF ?xsb ?xga ?xgt ?xcl ?xsg ?xtk ?xmo ?w_NoText ?w_NoBits ?w_NoFloor ?w_NoNet ?w_NoPack ?w_NoRoom ?w_NoRow ?w_NoSense ?w_NoTables ?w_NoWays ?w_OutOfFloor ?w_V ?ai_LONGEST_NAME ?ai_LONGEST_NUMBER ?qaRF ?qaEF (B17.zaqt (B17.rkd ?qlr ?qhr ?qxr ?qnr) (B17.ekd ?qle ?qhe ?qxe ?qne)) (B17.rform ?qr0 ?qr1 ?qr2 ?qr3 ?qr4 ?qr5 ?qr6 ?qr7) (B17.eform ?qe0 ?qe1 ?qe2 ?qe3 ?qe4 ?qe5 ?qe6 ?qe7 ?qe8 ?qe9) (B17.knone B17.zat7) (B17.knone B17.zat8)
  (case aSSIGNS=>k_is)
  (case lSSIGNS=>k_is)
  (case aR=>k_is)
  (case aM=>k_is)
  (case eFloorError=>k_is)
  (case eNoText=>k_is)
  (case eNoBits=>k_is)
  (case eNoFloor=>k_is)
  (case eNoNet=>k_is)
  (case eNoPack=>k_is)
  (case eNoRoom=>k_is)
  (case eNoRow=>k_is)
  (case eNoSense=>k_is)
  (case eNoTables=>k_is)
  (case eNoWays=>k_is)
  (case eOutOfFloor=>k_is)
  (case a0=>k_is)
  (case l0=>k_is)
  (case c0=>k_is)
  (case k0=>k_is)
  (case a1=>k_is)
  (case l1=>k_is)
  (case c1=>k_is)
  (case k1=>k_is)
  (case a2=>k_is)
  (case l2=>k_is)
  (case c2=>k_is)
  (case k2=>k_is)
  (case a3=>k_is)
  (case l3=>k_is)
  (case c3=>k_is)
  (case k3=>k_is)
  (case a4=>k_is)
  (case l4=>k_is)
  (case c4=>k_is)
  (case k4=>k_is)
  (case a5=>k_is)
  (case l5=>k_is)
  (case c5=>k_is)
  (case k5=>k_is)
  (case a6=>k_is)
  (case l6=>k_is)
  (case c6=>k_is)
  (case k6=>k_is)
  (case a7=>k_is)
  (case l7=>k_is)
  (case c7=>k_is)
  (case k7=>k_is)
  (case a8=>k_is)
  (case l8=>k_is)
  (case c8=>k_is)
  (case k8=>k_is)
  (case a9=>k_is)
  (case l9=>k_is)
  (case c9=>k_is)
  (case k9=>k_is)
  (case a10=>k_is)
  (case l10=>k_is)
  (case c10=>k_is)
  (case k10=>k_is)
  (case a11=>k_is)
  (case l11=>k_is)
  (case c11=>k_is)
  (case k11=>k_is)
  (case a12=>k_is)
  (case l12=>k_is)
  (case c12=>k_is)
  (case k12=>k_is)
  (case a13=>k_is)
  (case l13=>k_is)
  (case c13=>k_is)
  (case k13=>k_is)
  (case a14=>k_is)
  (case l14=>k_is)
  (case c14=>k_is)
  (case k14=>k_is)
  (case a15=>k_is)
  (case l15=>k_is)
  (case c15=>k_is)
  (case k15=>k_is)
  (case a16=>k_is)
  (case l16=>k_is)
  (case c16=>k_is)
  (case k16=>k_is)
  (case a17=>k_is)
  (case l17=>k_is)
  (case c17=>k_is)
  (case k17=>k_is)
  (case a18=>k_is)
  (case l18=>k_is)
  (case c18=>k_is)
  (case k18=>k_is)
  (case a19=>k_is)
  (case l19=>k_is)
  (case c19=>k_is)
  (case k19=>k_is)
  (case a20=>k_is)
  (case l20=>k_is)
  (case c20=>k_is)
  (case k20=>k_is)
  (case a21=>k_is)
  (case l21=>k_is)
  (case c21=>k_is)
  (case k21=>k_is)
  (case a22=>k_is)
  (case l22=>k_is)
  (case c22=>k_is)
  (case k22=>k_is)
  (case a23=>k_is)
  (case l23=>k_is)
  (case c23=>k_is)
  (case k23=>k_is)
  (case a24=>k_is)
  (case l24=>k_is)
  (case c24=>k_is)
  (case k24=>k_is)
  (case a25=>k_is)
  (case l25=>k_is)
  (case c25=>k_is)
  (case k25=>k_is)
  (case a26=>k_is)
  (case l26=>k_is)
  (case c26=>k_is)
  (case k26=>k_is)
  (case i26=>k_is)
  (case a27=>k_is)
  (case l27=>k_is)
  (case c27=>k_is)
  (case k27=>k_is)
  (case i27=>k_is)
  (case a28=>k_is)
  (case l28=>k_is)
  (case c28=>k_is)
  (case k28=>k_is)
  (case i28=>k_is)
  (case a29=>k_is)
  (case l29=>k_is)
  (case c29=>k_is)
  (case k29=>k_is)
  (case i29=>k_is)
  (case a30=>k_is)
  (case l30=>k_is)
  (case c30=>k_is)
  (case k30=>k_is)
  (case i30=>k_is)
  (case a31=>k_is)
  (case l31=>k_is)
  (case c31=>k_is)
  (case k31=>k_is)
  (case i31=>k_is)
  (case a32=>k_is)
  (case l32=>k_is)
  (case c32=>k_is)
  (case k32=>k_is)
  (case i32=>k_is)
  (case a33=>k_is)
  (case l33=>k_is)
  (case c33=>k_is)
  (case k33=>k_is)
  (case i33=>k_is)
  (case a34=>k_is)
  (case l34=>k_is)
  (case c34=>k_is)
  (case k34=>k_is)
  (case i34=>k_is)
  (case a35=>k_is)
  (case l35=>k_is)
  (case c35=>k_is)
  (case k35=>k_is)
  (case i35=>k_is)
  (case a36=>k_is)
  (case l36=>k_is)
  (case c36=>k_is)
  (case k36=>k_is)
  (case i36=>k_is)
  (case pgR=>k_is)
  (case hdR=>k_is)
  (case poR=>k_is)
  (case saR=>k_is)
  (case mkR=>k_is)
  (case kcR=>k_is)
  (case nR_line=>k_is)
  (case nR_spot=>k_is)
  (case nR_pieces=>k_is)
  (case pgM=>k_is)
  (case hdM=>k_is)
  (case poM=>k_is)
  (case saM=>k_is)
  (case mkM=>k_is)
  (case kcM=>k_is)
  (case nM_name=>k_is)
  (case nM_rows=>k_is)
  (case z_len=>k_is)
  (case z_range=>k_is)
  (case z_int=>k_is)
  (case z_str=>k_is)
  (case z_isinstance=>k_is)
  (case z_zip=>k_is)
  (case z_list=>k_is)
  (case z_tuple=>k_is)
  (case z_bool=>k_is)
  (case z_all=>k_is)
  (case z_enumerate=>k_is)
  (case z_ValueError=>k_is)
  (case xhd=>k_is)
  (case xsa=>k_is)
  (case xkc=>k_is)
  (case xna=>k_is)
  (case fhg=>k_is)
  (case frd=>k_is)
  (case ffd=>k_is)
  (case xcR=>(refine' B17.zax4 ?x1 ?x2 ?x3 ?x4 ?x5 ?x6 ?x7 ?x8; (case x2=>k_is); (case x3=>rfl); (case x4=>rfl); (case x5=>rfl); (case x6=>rfl); (case x7=>k_is); (case x8=>rfl); (case x1=>(show PySem.W.excIn _ _ L2.bmV "ValueError.__new__" = true; k_exc))))
  (case xcF=>exact L2.XC.b (show PySem.W.excIn _ _ L2.bmV "ValueError.__new__" = true by k_exc))
  (case xsb=>k_is)
  (case xga=>k_is)
  (case xgt=>k_is)
  (case xcl=>k_is)
  (case xsg=>k_is)
  (case xtk=>k_is)
  (case xmo=>k_is)
  (case w_NoText=>kit_is)
  (case w_NoBits=>kit_is)
  (case w_NoFloor=>kit_is)
  (case w_NoNet=>kit_is)
  (case w_NoPack=>kit_is)
  (case w_NoRoom=>kit_is)
  (case w_NoRow=>kit_is)
  (case w_NoSense=>kit_is)
  (case w_NoTables=>kit_is)
  (case w_NoWays=>kit_is)
  (case w_OutOfFloor=>kit_is)
  (case w_V=>kit_is)
  (case ai_LONGEST_NAME=>k_is)
  (case ai_LONGEST_NUMBER=>k_is)
  (case qaRF=>k_is)
  (case qaEF=>k_is)
  (case qlr=>k_is)
  (case qhr=>rfl)
  (case qxr=>exact ⟨rfl,rfl,rfl⟩)
  (case qnr=>rfl)
  (case qle=>k_is)
  (case qhe=>rfl)
  (case qxe=>exact ⟨rfl,rfl,rfl⟩)
  (case qne=>rfl)
  (case qr0=>k_is)
  (case qr1=>k_is)
  (case qr2=>k_is)
  (case qr3=>k_is)
  (case qr4=>k_is)
  (case qr5=>k_is)
  (case qr6=>k_is)
  (case qr7=>k_is)
  (case qe0=>k_is)
  (case qe1=>k_is)
  (case qe2=>k_is)
  (case qe3=>k_is)
  (case qe4=>k_is)
  (case qe5=>k_is)
  (case qe6=>k_is)
  (case qe7=>k_is)
  (case qe8=>k_is)
  (case qe9=>k_is)
 case S=>exact fun K H a ns hl hO hS=>⟨a,ns,rfl,L2.Scr.of hS hl hO,fun _=>rfl⟩
 case C=>exact fun _ _ _ _ z=>z
