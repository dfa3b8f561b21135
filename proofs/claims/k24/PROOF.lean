import PyProof.Rows.All
import Wide.All
import OpenK.AllK
import Wide.FinOn
import Lean
import PyProof.EqAt
import PyProof.EqKinds
import PyProof.TupleCall
import PyProof.AttrMiss
import PyProof.ConsumeWalk
import KE.KDictOf
import OpenK.KOwn
import PyProof.NsDelKeeps
import KE.KIsAll
import PyProof.Rows.SumAny
import PyProof.NeKinds
import PyProof.SeqI3
import KE.KRevIter
import KE.KSortTup
import PyProof.DictIter
import KE.KDictList
import PyProof.TupleOfGen
import PyProof.MinMaxWalk
import PyProof.WalkInts
import PyProof.DictWalks
import OpenK.KCls
import KE.KItemsList
import PyProof.StrCalls
import PyProof.FString5
import KE.KIntText
import KE.KListMore
import KE.KFind
import PySem.Challenge.RW_bitfloor_k24_made_small_shown
import KE.RegKIsAll
set_option Elab.async false
set_option linter.all false
set_option maxRecDepth 100000
namespace L2
open PySem PySem.Spec PyProof.Rows
abbrev Key:=Sum Int Str
def keyIs:Key→Value→Bool
 | .inl k,v=>Value.isInt k v
 | .inr x,v=>Value.isStrOf x v
def keyH (w:World):Key→Int
 | .inl k=>hashInt k
 | .inr x=>hashStr w x
theorem zaci:∀ {k:Key}{v:Value},keyIs k v=true→(∃ i t,k=Sum.inl i∧v=Value.int i t)∨(∃ x t,k=Sum.inr x∧v=Value.str x t)
 | .inl i,v,h=>by
  obtain ⟨t,e⟩:=Value.isInt_shape (k:=i) (v:=v) h
  exact .inl ⟨i,t,rfl,e⟩
 | .inr x,v,h=>by
  obtain ⟨t,e⟩:=Value.isStrOf_shape (x:=x) (v:=v) h
  exact .inr ⟨x,t,rfl,e⟩
theorem zalc (i:Int) (t:Tok):keyIs (.inl i) (.int i t)=true:=by simp [keyIs,Value.isInt]
theorem zafn (x:Str) (t:Tok):keyIs (.inr x) (.str x t)=true:=by simp [keyIs,Value.isStrOf]
theorem zaso (a b:Int):decide ((Sum.inl a:Key)=Sum.inl b)=(a == b):=by
 by_cases e:a=b
 ·subst e; simp
 ·have h:¬ (Sum.inl a:Key)=Sum.inl b:=fun q=>e (Sum.inl.inj q)
  rw [decide_eq_false h]
  exact (beq_eq_false_iff_ne.mpr e).symm
theorem zasp (a b:Str):decide ((Sum.inr a:Key)=Sum.inr b)=decide (a=b):=by
 by_cases e:a=b
 ·subst e; simp
 ·have h:¬ (Sum.inr a:Key)=Sum.inr b:=fun q=>e (Sum.inr.inj q)
  rw [decide_eq_false h,decide_eq_false e]
theorem zasq (a:Int) (b:Str):decide ((Sum.inl a:Key)=Sum.inr b)=false:=decide_eq_false (fun q=>nomatch q)
theorem zasr (a:Str) (b:Int):decide ((Sum.inr a:Key)=Sum.inl b)=false:=decide_eq_false (fun q=>nomatch q)
def mixKind (prog:Program) (w:World):PySem.KeyKind prog w Key where
 is:=keyIs
 hash:=keyH w
 inj:=fun v a b ha hb=>by
  rcases zaci ha with ⟨i,t,rfl,rfl⟩ | ⟨x,t,rfl,rfl⟩
  ·rcases zaci hb with ⟨j,u,rfl,e⟩ | ⟨y,u,rfl,e⟩
   ·injection e with e1 _; rw [e1]
   ·exact nomatch e
  ·rcases zaci hb with ⟨j,u,rfl,e⟩ | ⟨y,u,rfl,e⟩
   ·exact nomatch e
   ·injection e with e1 _; rw [e1]
 byValue:=fun k v h=>by
  rcases zaci h with ⟨i,t,rfl,rfl⟩ | ⟨x,t,rfl,rfl⟩ <;> rfl
 pyHash:=fun hv h=>by
  rcases zaci hv with ⟨i,t,rfl,rfl⟩ | ⟨x,t,rfl,rfl⟩
  ·exact wpAny_pyHash_int h
  ·exact wpAny_pyHash_str h
 eqBool:=fun hu hv h=>by
  rcases zaci hu with ⟨i,t,rfl,rfl⟩ | ⟨x,t,rfl,rfl⟩
  ·rcases zaci hv with ⟨j,u,rfl,rfl⟩ | ⟨y,u,rfl,rfl⟩
   ·rw [zaso] at h; exact wpAny_eqBool_int h
   ·rw [zasq] at h; exact SeqAt.EqAt.int_str i t y u _ _ _ _ h
  ·rcases zaci hv with ⟨j,u,rfl,rfl⟩ | ⟨y,u,rfl,rfl⟩
   ·rw [zasr] at h; exact SeqAt.EqAt.str_int x t j u _ _ _ _ h
   ·rw [zasp] at h; exact wpAny_eqBool_str h
 «strs»:=fun k x t v h=>by
  rcases zaci h with ⟨i,u,rfl,e⟩ | ⟨y,u,rfl,e⟩
  ·exact nomatch e
  ·injection e with e1 _
   subst e1
   cases v <;> rfl
theorem zaij (prog:Program) (w:World) (i:Int) (t:Tok):(mixKind prog w).is (.inl i) (.int i t)=true:=zalc i t
theorem zaik (prog:Program) (w:World) (x:Str) (t:Tok):(mixKind prog w).is (.inr x) (.str x t)=true:=zafn x t
inductive V where
 | non | bl (b:Bool) | int (i:Int) | str (x:Str) | byt (b:Array UInt8) | flt (b:UInt64) | ref (a:Addr) | ty (n:String)
 deriving DecidableEq
def RelV:V→Value→Prop
 | .non,u=>u=Value.none
 | .bl b,u=>u=Value.bool b
 | .int i,u=>∃ t,u=Value.int i t
 | .str x,u=>∃ t,u=Value.str x t
 | .byt b,u=>∃ t,u=Value.bytes b t
 | .flt b,u=>∃ t,u=Value.float b t
 | .ref a,u=>u=Value.ref a
 | .ty n,u=>u=Value.type n
abbrev Vals:List V→List Value→Prop:=Paired RelV
theorem Vals.length {xs:List V}{us:List Value} (r:Vals xs us):xs.length=us.length:=Paired.length r
theorem Vals.get:∀ {xs:List V}{us:List Value}{i:Nat}{x:V},Vals xs us→xs[i]?=some x→∃ u,us[i]?=some u∧RelV x u
 | _,_,_,_,.nil,e=>by simp at e
 | _,_,0,_,.cons r _,e=>by simp at e; subst e; exact ⟨_,rfl,r⟩
 | _,_,i + 1,x,.cons _ t,e=>by
  obtain ⟨u,h1,h2⟩:=Vals.get (i:=i) (x:=x) t (by simpa using e)
  exact ⟨u,by simpa using h1,h2⟩
theorem Vals.set {x:V}{u:Value} (r:RelV x u):∀ {xs:List V}{us:List Value} (i:Nat),Vals xs us→Vals (xs.set i x) (us.set i u)
 | _,_,_,.nil=>.nil
 | _,_,0,.cons _ t=>.cons r t
 | _,_,i + 1,.cons q t=>.cons q (Vals.set r i t)
theorem Vals.append:∀ {xs ys:List V}{us ws:List Value},Vals xs us→Vals ys ws→Vals (xs++ys) (us++ws)
 | _,_,_,_,.nil,s=>s
 | _,_,_,_,.cons r t,s=>.cons r (Vals.append t s)
theorem Vals.take:∀ {xs:List V}{us:List Value} (n:Nat),Vals xs us→Vals (xs.take n) (us.take n)
 | _,_,0,_=>.nil
 | _,_,_ + 1,.nil=>.nil
 | _,_,n + 1,.cons r t=>.cons r (Vals.take n t)
theorem Vals.drop:∀ {xs:List V}{us:List Value} (n:Nat),Vals xs us→Vals (xs.drop n) (us.drop n)
 | _,_,0,r=>r
 | _,_,_ + 1,.nil=>.nil
 | _,_,n + 1,.cons _ t=>Vals.drop n t
def RelO:Option V→Option Value→Prop
 | some v,some u=>RelV v u
 | none,none=>True
 | _,_=>False
def KV {κ:Type}:List (κ × V)→List (κ × Value)→Prop:=Paired fun (p:κ × V) (q:κ × Value)=>p.1=q.1∧RelV p.2 q.2
def kV:Key→V
 | .inl i=>.int i
 | .inr x=>.str x
inductive HO where
 | lst (xs:List V)
 | tup (xs:List V)
 | dK (kvs:List (Key × V)) | dT (kvs:List (List Key × V))
 | set (S:Int→Bool) (n:Nat)
 | ins (C dx:Addr) (fs:List (Str × V))
 | own (x:Addr)
 | xd (fs:List (Str × V))
 | met (f x:Addr)
 | rng (lo hi:Int)
 | frz (o:Obj) (u:HO)
 | tbl (ps:Array Value)
 | ext (φ:Heap→Prop)
abbrev Hp:=Addr→Option HO
def upd (H:Hp) (a:Addr) (o:HO):Hp:=fun b=>if b=a then some o else H b
theorem zaaf {H:Hp}{a:Addr}{o:HO}:upd H a o a=some o:=by unfold upd; rw [if_pos rfl]
theorem zabq {H:Hp}{a b:Addr}{o:HO} (h:b≠a):upd H a o b=H b:=by unfold upd; rw [if_neg h]
theorem zadb {H:Hp}{a b:Addr}{o u:HO} (h:H a=some o) (h':H b=some u) (d:o≠u):a≠b:=by
 intro e; subst e; rw [h] at h'; exact d (Option.some.inj h')
theorem zaa7 {H:Hp}{a b:Addr}{o:HO} (h:H a=some o) (h':H b=none):a≠b:=by
 intro e; subst e; rw [h] at h'; cases h'
section
variable (P:Program) (w:World)
def ObjOk (H:Hp) (h:Heap) (a:Addr):HO→Prop
 | .lst xs=>xs.length≤sizeLine∧∃ (its:List Value) (n:Nat),Vals xs its∧h.get? a=some { cls:=.type "list",data:=.seq its.toArray n }
 | .tup xs=>xs.length≤sizeLine∧∃ its:List Value,Vals xs its∧IsTup h a its.toArray
 | .dK kvs=>kvs.length≤sizeLine∧(a == sysModules)=false∧∃ vs,KV kvs vs∧h.DictOf (mixKind P w) a vs
 | .dT kvs=>kvs.length≤sizeLine∧(a == sysModules)=false∧∃ xs:List (List Key × Addr × Value),
   Paired (fun (p:List Key × V) (q:List Key × Addr × Value)=>p.1=q.1∧H q.2.1=some (.tup (p.1.map kV))∧RelV p.2 q.2.2) kvs xs ∧
   ∃ o es ep,h.get? a=some o∧o.ExactDict∧o.data=.dict es ep∧es.toList=xs.map (entryOfKey (tupleKind (mixKind P w)))∧(xs.map (·.1)).Nodup
 | .set S n=>h.SetOf (intKind P w) a S n
 | .ins C dx fs=>H dx=some (.own a)∧fs.length≤1000∧dx≠a∧h.get? a=some (PySem.W.instObj C dx) ∧
   ∃ mA,h.Ns1 dx mA∧(∀ f,RelO (fs.lookup f) (mA f))∧PySem.Within mA (fs.map (·.1))
 | .own _=>∃ o,h.get? a=some o
 | .xd fs=>∃ mA,h.Ns1 a mA∧∀ f,RelO (fs.lookup f) (mA f)
 | .rng lo hi=>∃ t u v,h.get? a=some { cls:=.type "range",data:=.fields #[.int lo t,.int hi u,.int 1 v] }
 | .frz o u=>h.get? a=some o∧ObjOk H h a u
 | .tbl ps=>h.get? a=some { cls:=.none,data:=.fields ps }
 | .met f x=>h.get? a=some (PySem.W.methodObj (.ref f) (.ref x))
 | .ext φ=>φ h∧(∃ o,h.get? a=some o)∧∀ h1 h2:Heap,φ h1→(∀ o,h1.get? a=some o→h2.get? a=some o)→φ h2
def HOk (H:Hp) (h:Heap):Prop:=∀ a o,H a=some o→ObjOk P w H h a o
end
section
variable {P:Program}{w:World}{H H':Hp}{h h':Heap}{a:Addr}{o:HO}
theorem ObjOk.lt (x:ObjOk P w H h a o):a < h.objs.size:=by
 cases o with
 | lst xs=>obtain ⟨_,_,_,_,e⟩:=x; exact Heap.lt_size e
 | tup xs=>obtain ⟨_,_,_,p⟩:=x; exact p.lt
 | dK kvs=>obtain ⟨_,_,_,_,o,_,_,e,_⟩:=x; exact Heap.lt_size e
 | dT kvs=>obtain ⟨_,_,_,_,o,_,_,e,_⟩:=x; exact Heap.lt_size e
 | set S n=>obtain ⟨o,_,_,_,e,_⟩:=x; exact Heap.lt_size e
 | ins C dx fs=>obtain ⟨_,_,_,e,_⟩:=x; exact Heap.lt_size e
 | own y=>obtain ⟨_,e⟩:=x; exact Heap.lt_size e
 | xd fs=>obtain ⟨_,⟨_,_,_,e,_⟩,_⟩:=x; exact Heap.lt_size e
 | rng lo hi=>obtain ⟨_,_,_,e⟩:=x; exact Heap.lt_size e
 | frz ob u=>obtain ⟨e,_⟩:=x; exact Heap.lt_size e
 | tbl ps=>exact Heap.lt_size (show h.get? a=some _ from x)
 | met f y=>exact Heap.lt_size (show h.get? a=some _ from x)
 | ext φ=>obtain ⟨_,⟨_,e⟩,_⟩:=x; exact Heap.lt_size e
theorem Paired.mapP {α β:Type}{F G:α→β→Prop}:∀ {l₁:List α}{l₂:List β},Paired F l₁ l₂→(∀ a b,F a b→G a b)→Paired G l₁ l₂
 | _,_,.nil,_=>.nil
 | _,_,.cons r t,f=>.cons (f _ _ r) (Paired.mapP t f)
theorem ObjOk.stay (x:ObjOk P w H h a o) (k:∀ b u,(b=a∨H b=some (.own a))→h.get? b=some u→h'.get? b=some u)
  (ho:∀ b,H b=some (.own a)→H' b=some (.own a)) (ht:∀ b xs,H b=some (.tup xs)→H' b=some (.tup xs)):ObjOk P w H' h' a o:=by
 induction o with
 | lst xs=>obtain ⟨z,its,n,r,e⟩:=x; exact ⟨z,its,n,r,k _ _ (.inl rfl) e⟩
 | tup xs=>obtain ⟨z,its,r,ob,e,c⟩:=x; exact ⟨z,its,r,ob,k _ _ (.inl rfl) e,c⟩
 | dK kvs=>obtain ⟨z,y,vs,r,ob,es,ep,e,c⟩:=x; exact ⟨z,y,vs,r,ob,es,ep,k _ _ (.inl rfl) e,c⟩
 | dT kvs =>
  obtain ⟨z,y,xs,r,ob,es,ep,e,c⟩:=x
  exact ⟨z,y,xs,Paired.mapP r fun p q z=>⟨z.1,ht _ _ z.2.1,z.2.2⟩,ob,es,ep,k _ _ (.inl rfl) e,c⟩
 | set S n=>obtain ⟨ob,es,ep,t,e,c⟩:=x; exact ⟨ob,es,ep,t,k _ _ (.inl rfl) e,c⟩
 | ins C dx fs =>
  obtain ⟨d,z,ne,e,mA,⟨od,es,ep,e2,c⟩,r⟩:=x
  exact ⟨ho _ d,z,ne,k _ _ (.inl rfl) e,mA,⟨od,es,ep,k _ _ (.inr d) e2,c⟩,r⟩
 | own y=>obtain ⟨ob,e⟩:=x; exact ⟨ob,k _ _ (.inl rfl) e⟩
 | xd fs=>obtain ⟨mA,⟨od,es,ep,e,c⟩,r⟩:=x; exact ⟨mA,⟨od,es,ep,k _ _ (.inl rfl) e,c⟩,r⟩
 | rng lo hi=>obtain ⟨t,u,v,e⟩:=x; exact ⟨t,u,v,k _ _ (.inl rfl) e⟩
 | frz ob u ih=>obtain ⟨e,q⟩:=x; exact ⟨k _ _ (.inl rfl) e,ih q⟩
 | tbl ps =>
  have e:h.get? a=some { cls:=.none,data:=.fields ps }:=x
  show h'.get? a=some { cls:=.none,data:=.fields ps }
  exact k a _ (.inl rfl) e
 | met f y =>
  have e:h.get? a=some (PySem.W.methodObj (.ref f) (.ref y)):=x
  show h'.get? a=some (PySem.W.methodObj (.ref f) (.ref y))
  exact k a _ (.inl rfl) e
 | ext φ=>obtain ⟨p,⟨o,e⟩,st⟩:=x; exact ⟨st _ _ p fun o q=>k _ _ (.inl rfl) q,⟨o,k _ _ (.inl rfl) e⟩,st⟩
theorem HOk.lt (x:HOk P w H h) (e:H a=some o):a < h.objs.size:=(x a o e).lt
theorem HOk.fresh (x:HOk P w H h) (e:h.objs.size≤a):H a=none:=by
 cases q:H a with
 | none=>rfl
 | some u=>exact absurd (Nat.lt_of_lt_of_le (x.lt q) e) (Nat.lt_irrefl _)
theorem HOk.kept (x:HOk P w H h) (k:∀ b u,h.get? b=some u→h'.get? b=some u):HOk P w H h':=fun a o e =>
 (x a o e).stay (fun b u _ q=>k b u q) (fun _ q=>q) fun _ _ q=>q
theorem HOk.laid (x:HOk P w H h) (k:∀ b u,h.get? b=some u→h'.get? b=some u) (hp:h.objs.size≤a) (new:ObjOk P w (upd H a o) h' a o):HOk P w (upd H a o) h':=fun b u e=>by
 have hn:=x.fresh hp
 by_cases hb:b=a
 ·subst hb; rw [zaaf] at e; cases e; exact new
 ·rw [zabq hb] at e
  exact (x b u e).stay (fun c v _ q=>k c v q) (fun c q=>by rw [zabq (zaa7 q hn)]; exact q) fun c xs q=>by rw [zabq (zaa7 q hn)]; exact q
end
def Rd (H:Hp) (a:Addr) (u:HO):Prop:=H a=some u∨∃ o,H a=some (.frz o u)
theorem Rd.ok {P:Program}{w:World}{H:Hp}{h:Heap}{a:Addr}{u:HO} (r:Rd H a u) (x:HOk P w H h):ObjOk P w H h a u:=by
 rcases r with r | ⟨o,r⟩
 ·exact x a u r
 ·obtain ⟨_,q⟩:=x a _ r
  exact q
def Mut:Option HO→Prop
 | some (.lst _)=>True
 | some (.dK _)=>True
 | some (.dT _)=>True
 | some (.set _ _)=>True
 | some (.ins _ _ _)=>True
 | some (.ext _)=>True
 | _=>False
section
variable {P:Program}{w:World}{H:Hp}{h h':Heap}{x e:Addr}{o':HO}
theorem HOk.write (ok:HOk P w H h) (mu:Mut (H x)) (he:e=x∨H e=some (.own x)) (k:∀ b u,b≠e→h.get? b=some u→h'.get? b=some u) (heo:∃ u,h'.get? e=some u)
  (new:ObjOk P w (upd H x o') h' x o'):HOk P w (upd H x o') h':=fun b u q=>by
 have nown:∀ c y,H c=some (.own y)→c≠x:=fun c y r z=>by subst z; rw [r] at mu; exact mu
 have ntup:∀ c xs,H c=some (.tup xs)→c≠x:=fun c xs r z=>by subst z; rw [r] at mu; exact mu
 by_cases hb:b=x
 ·subst hb; rw [zaaf] at q; cases q; exact new
 ·rw [zabq hb] at q
  by_cases hbe:b=e
  ·have q':H b=some (.own x):=by
    rcases he with z | z
    ·exact absurd (hbe.trans z) hb
    ·rw [hbe]; exact z
   rw [q] at q'; cases q'
   obtain ⟨v,hv⟩:=heo
   exact ⟨v,by rw [hbe]; exact hv⟩
  ·refine (ok b u q).stay (fun c v hc r=>k c v ?_ r) (fun c r=>by rw [zabq (nown c b r)]; exact r) fun c xs r=>by rw [zabq (ntup c xs r)]; exact r
   rcases hc with rfl | hc
   ·exact hbe
   ·rintro rfl
    rcases he with z | z
    ·exact nown c b hc z
    ·rw [hc] at z; cases z; exact hb rfl
end
structure Un (fs ex:List Addr) (H H':Hp) (h h':Heap):Prop where
 keep:∀ b o,h.get? b=some o→H b=none→b ∉ fs→b ∉ ex→h'.get? b=some o
 slot:∀ b o,h.get? b=some o→H b=none→b∈fs→b ∉ ex→∃ sl,h'.get? b=some { o with slots:=sl }
 free:∀ b o,h.get? b=some o→H b=none→b ∉ ex→H' b=none
 there:∀ b o,h.get? b=some o→b ∉ ex→∃ o',h'.get? b=some o'
 tups:∀ b xs,H b=some (.tup xs)→H' b=some (.tup xs)
 frzs:∀ b o u,H b=some (.frz o u)→H' b=some (.frz o u)
 tbls:∀ b ps,H b=some (.tbl ps)→∃ more,H' b=some (.tbl (ps++more))
section
variable {fs fs' ex ex':List Addr}{H H1 H2:Hp}{h h1 h2 h':Heap}{a x e:Addr}{o:HO}
theorem Un.any (u:Un fs ex H H1 h h1) {b:Addr}{ob:Obj} (q:h.get? b=some ob) (n:H b=none) (hx:b ∉ ex):∃ sl,h1.get? b=some { ob with slots:=sl }:=by
 by_cases hb:b∈fs
 ·exact u.slot b ob q n hb hx
 ·exact ⟨ob.slots,u.keep b ob q n hb hx⟩
theorem Un.kept (k:∀ b u,h.get? b=some u→h'.get? b=some u):Un fs ex H H h h' :=
 ⟨fun b ob q _ _ _=>k b ob q,fun b ob q _ _ _=>⟨ob.slots,k b ob q⟩,fun _ _ _ n _=>n,fun b ob q _=>⟨ob,k b ob q⟩,fun _ _ q=>q,fun _ _ _ q=>q,fun _ ps q=>⟨#[],by rw [q]; simp⟩⟩
theorem Un.refl:Un fs ex H H h h:=Un.kept fun _ _ q=>q
theorem Un.laid (k:∀ b u,h.get? b=some u→h'.get? b=some u) (hp:h.objs.size≤a) (hn:H a=none):Un fs ex H (upd H a o) h h' where
 keep:=fun b u q _ _ _=>k b u q
 slot:=fun b u q _ _ _=>⟨u.slots,k b u q⟩
 free:=fun b u q n _=>by rw [zabq (Nat.ne_of_lt (Nat.lt_of_lt_of_le (Heap.lt_size q) hp))]; exact n
 there:=fun b u q _=>⟨u,k b u q⟩
 tups:=fun b xs q=>by rw [zabq (zaa7 q hn)]; exact q
 frzs:=fun b u xs q=>by rw [zabq (zaa7 q hn)]; exact q
 tbls:=fun b ps q=>⟨#[],by rw [zabq (zaa7 q hn),q]; simp⟩
theorem Un.write (mu:Mut (H x)) (he:e=x∨H e=some (.own x)) (k:∀ b u,b≠e→h.get? b=some u→h'.get? b=some u) (heo:∃ u,h'.get? e=some u):Un fs ex H (upd H x o) h h':=by
 have hx:∀ b,H b=none→b≠x:=fun b n z=>by subst z; rw [n] at mu; exact mu
 have hb:∀ b,H b=none→b≠e:=fun b n z=>by
  subst z
  rcases he with r | r
  ·exact hx b n r
  ·rw [n] at r; cases r
 have hm:∀ b u,H b=some u→¬ Mut (some u)→b≠x:=fun b u q nm z=>by subst z; rw [q] at mu; exact nm mu
 refine ⟨fun b u q n _ _=>k b u (hb b n) q,fun b u q n _ _=>⟨u.slots,k b u (hb b n) q⟩,fun b u q n _=>by rw [zabq (hx b n)]; exact n,fun b u q _=>?_,
  fun b xs q=>by rw [zabq (hm b _ q fun z=>z)]; exact q,fun b u xs q=>by rw [zabq (hm b _ q fun z=>z)]; exact q,fun b ps q=>⟨#[],by rw [zabq (hm b _ q fun z=>z),q]; simp⟩⟩
 by_cases hbe:b=e
 ·subst hbe; exact heo
 ·exact ⟨u,k b u hbe q⟩
end
def trk (h:Heap) (H:Hp):List Addr:=(List.range h.objs.size).filter fun a=>(H a).isSome
def hidT (h:Heap) (H:Hp):Heap:=PySem.W.hideAll h (trk h H)
theorem zald (h:Heap) (H:Hp):(hidT h H).objs.size=h.objs.size:=PySem.W.hideAll_size _ _
theorem zan3 {h:Heap}{H:Hp}{b:Addr}{o:Obj} (e:h.get? b=some o) (n:H b=none):(hidT h H).get? b=some o :=
 PySem.W.hideAll_get _ e fun hm=>by
  have q:(H b).isSome=true:=(List.mem_filter.mp hm).2
  rw [n] at q; simp at q
theorem zaqa {h:Heap}{H:Hp}{b:Addr}{o:Obj} (e:(hidT h H).get? b=some o):h.get? b=some o∧H b=none:=by
 have e':h.get? b=some o:=PySem.W.of_hideAll (trk h H) e
 refine ⟨e',?_⟩
 cases q:H b with
 | none=>rfl
 | some x =>
  have hm:b∈trk h H:=List.mem_filter.mpr ⟨List.mem_range.mpr (Heap.lt_size e'),by simp [q]⟩
  have z:(hidT h H).get? b=none:=PySem.W.hideAll_none (trk h H) hm
  rw [z] at e; cases e
structure Mod (K:PySem.W.Frag) (mg:Str→Option Value) (base:Heap):Prop where
 kin:K.In base
 glob:base.Ns mainGlobals mg
 blt:∃ mb,base.Ns builtinsNs mb∧∀ x:Str,x ≠ "__name__" → mb x=bootBuiltins x
 nolimit:base.NoLimit
structure Cx where
 prog:Program
 w:World
 K:PySem.W.Frag
 mg:Str→Option Value
 base:Heap
 A:Around
 N:List Str
 s₀:Shared
 H₀:Hp
 env:Env
 outer:List Env
 stack:List Env
 ex:List Addr
 fn:Str→Bool
 calm:Bool
 pn:List (Addr × Obj)
 xe:Value→Shared→Prop
def frs (l:List Env):List Addr:=l.filterMap (·.frame)
abbrev Cx.fs (X:Cx):List Addr:=frs X.outer
def Vis (sc:Scope) (x:Str):Prop:=sc.names.lookup x=some .local∨sc.names.lookup x=some .cell∨sc.names.lookup x=some .free
def Loc (sc:Scope) (x:Str):Prop:=sc.names.lookup x=some .local∨sc.names.lookup x=some .cell
def Look (env:Env) (h:Heap) (m:Str→Option Value) (x:Str) (u:Value):Prop :=
 (env.kindOf x=some .local∧m x=some u)∨((env.kindOf x=some .cell∨env.kindOf x=some .free)∧∃ c,env.cells.lookup x=some c∧h.IsCell c (some u))
structure Cx.Ok (X:Cx):Prop where
 mod:Mod X.K X.mg X.base
 kind:X.env.scope.kind=.function
 glob:X.env.globals=mainGlobals
 blt:X.env.builtins=builtinsNs
 above:X.s₀.heap.objs.size≤X.env.locals
 inj:∀ x y c,X.env.cells.lookup x=some c→X.env.cells.lookup y=some c→x=y
 has:∀ x,(X.env.kindOf x=some .cell∨X.env.kindOf x=some .free)→∃ c,X.env.cells.lookup x=some c
 cab:∀ x c,X.fn x=true→X.env.cells.lookup x=some c→X.s₀.heap.objs.size≤c
 hd:X.calm=true→X.A.handled=none
 frames:X.A.frames=some X.stack
 stk:X.stack=X.outer∨(X.stack=X.env :: X.outer∧X.env.frame=some X.env.locals)
 exf:∀ b∈X.ex,b≠X.env.locals∧∀ x c,X.env.cells.lookup x=some c→c≠b
 bs:∀ b o,X.base.get? b=some o→X.s₀.heap.get? b=some o∧X.H₀ b=none
 bsz:X.base.objs.size≤X.s₀.heap.objs.size
 noex:∀ b o,X.base.get? b=some o→b ∉ X.ex
 exfs:∀ b∈X.ex,b ∉ X.fs
 funs:X.s₀.heap.FunFrames X.base X.outer
 frf:∀ b∈X.fs,X.H₀ b=none
structure Inv (X:Cx) (pins:List (Addr × Obj)) (σ:List (Option V)) (H:Hp) (s:Shared):Prop where
 ok:X.Ok
 os:s.os=X.s₀.os
 bare:AllBare s.gens
 base:Un X.fs X.ex X.H₀ H X.s₀.heap s.heap
 loc:∃ m,s.heap.Ns X.env.locals m∧∀ (i:Nat) (x:Str) (v:V),X.N[i]?=some x→σ[i]?=some (some v)→Vis X.env.scope x→∃ u,RelV v u∧Look X.env s.heap m x u
 cell:∀ x c,X.env.cells.lookup x=some c→∃ v,s.heap.IsCell c v
 free:H X.env.locals=none
 freeC:∀ x c,X.env.cells.lookup x=some c→H c=none
 pin:∀ p∈X.pn++pins,s.heap.get? p.1=some p.2∧H p.1=none∧p.1≠X.env.locals∧p.1 ∉ X.fs∧∀ v,p.2.data≠.cell v
 hok:HOk X.prog X.w H s.heap
 len:σ.length=X.N.length
section
variable {X:Cx}{pins:List (Addr × Obj)}{σ:List (Option V)}{H H':Hp}{s:Shared}{h':Heap}
theorem Cx.Ok.nofr (ok:X.Ok) {b:Addr}{o:Obj} (e:X.base.get? b=some o):b ∉ X.fs:=fun hb=>by
 have:=(ok.funs.mem hb).1
 rw [e] at this; cases this
theorem Inv.bs (I:Inv X pins σ H s):∀ b o,X.base.get? b=some o→s.heap.get? b=some o∧H b=none:=fun b o e =>
 ⟨I.base.keep b o (I.ok.bs b o e).1 (I.ok.bs b o e).2 (I.ok.nofr e) (I.ok.noex b o e),I.base.free b o (I.ok.bs b o e).1 (I.ok.bs b o e).2 (I.ok.noex b o e)⟩
theorem Inv.bk (I:Inv X pins σ H s):∀ b o,X.base.get? b=some o→s.heap.get? b=some o:=fun b o e=>(I.bs b o e).1
theorem Inv.mod (I:Inv X pins σ H s):Mod X.K X.mg X.base:=I.ok.mod
theorem Inv.kIn (I:Inv X pins σ H s):X.K.In s.heap:=I.ok.mod.kin.keeps I.bk
theorem Inv.lt (I:Inv X pins σ H s):X.env.locals < s.heap.objs.size:=let ⟨_,hn,_⟩:=I.loc; hn.lt
theorem Inv.sz (I:Inv X pins σ H s):X.s₀.heap.objs.size≤s.heap.objs.size:=Nat.le_trans I.ok.above (Nat.le_of_lt I.lt)
theorem Inv.nofs (I:Inv X pins σ H s) {a:Addr} (h:s.heap.objs.size≤a):a ∉ X.fs:=fun hb=>by
 obtain ⟨_,o,ho,_⟩:=I.ok.funs.mem hb
 exact absurd (Nat.lt_of_lt_of_le (Heap.lt_size ho) (Nat.le_trans I.sz h)) (Nat.lt_irrefl _)
theorem Inv.cne (I:Inv X pins σ H s):∀ x c,X.env.cells.lookup x=some c→c≠X.env.locals:=fun x c e z=>by
 obtain ⟨v,o,ho,hd⟩:=I.cell x c e
 obtain ⟨m,⟨o',es,ep,ho',hd',_⟩,_⟩:=I.loc
 rw [z,ho'] at ho; cases ho; rw [hd'] at hd; cases hd
theorem Inv.funs (I:Inv X pins σ H s):s.heap.FunFrames X.base X.outer:=by
 have all:∀ (l:List Env),(∀ b∈frs l,b∈X.fs)→X.s₀.heap.FunFrames X.base l→s.heap.FunFrames X.base l:=by
  intro l
  induction l with
  | nil=>intro _ _; trivial
  | cons env r ih =>
   intro hs hl
   obtain ⟨hk,⟨L,o,hf,hn,ho,hd⟩,hr⟩:=hl
   have hL:L∈X.fs:=hs L (by unfold frs; rw [List.filterMap_cons,hf]; exact List.mem_cons_self)
   obtain ⟨sl,e⟩:=I.base.slot L o ho (I.ok.frf L hL) hL fun z=>I.ok.exfs L z hL
   exact ⟨hk,⟨L,_,hf,hn,e,hd⟩,ih (fun b hb=>hs b (by unfold frs; rw [List.filterMap_cons,hf]; exact List.mem_cons_of_mem _ hb)) hr⟩
 exact all X.outer (fun _ hb=>hb) I.ok.funs
theorem Inv.stack (I:Inv X pins σ H s):s.heap.FunFrames X.base X.stack:=by
 rcases I.ok.stk with e | ⟨e,hf⟩
 ·rw [e]; exact I.funs
 ·rw [e]
  obtain ⟨m,hn,_⟩:=I.loc
  refine .cons (by rw [I.ok.kind]; decide) hf hn ?_ I.funs
  exact Heap.get?_none_of_le (Nat.le_trans I.ok.bsz I.ok.above)
theorem Inv.stkSub (I:Inv X pins σ H s):∀ b∈frs X.stack,b∈X.env.locals :: X.fs:=fun b hb=>by
 rcases I.ok.stk with e | ⟨e,hf⟩
 ·rw [e] at hb; exact List.mem_cons_of_mem _ hb
 ·rw [e] at hb
  unfold frs at hb
  rw [List.filterMap_cons,hf] at hb
  exact hb
theorem Inv.stkFree (I:Inv X pins σ H s):∀ b∈frs X.stack,H b=none:=fun b hb=>by
 rcases List.mem_cons.mp (I.stkSub b hb) with e | hb
 ·rw [e]; exact I.free
 ·obtain ⟨_,o,ho,_⟩:=I.ok.funs.mem hb
  exact I.base.free b o ho (I.ok.frf b hb) fun z=>I.ok.exfs b z hb
theorem Inv.step {g':Array GenState}{t':Nat}{d':Drawn}{ch:List Addr} (I:Inv X pins σ H s)
  (hch:∀ b∈ch,(b∈X.ex∨X.s₀.heap.objs.size≤b)∧b≠X.env.locals∧(∀ x c,X.env.cells.lookup x=some c→c≠b)∧∀ p∈X.pn++pins,p.1≠b)
  (keep:∀ b o,b≠X.env.locals→b ∉ X.fs→b ∉ ch→s.heap.get? b=some o→H b=none→h'.get? b=some o)
  (slot:∀ b o,b≠X.env.locals→b∈X.fs→b ∉ ch→s.heap.get? b=some o→H b=none→∃ sl,h'.get? b=some { o with slots:=sl }) (free:∀ b o,b ∉ ch→s.heap.get? b=some o→H b=none→H' b=none)
  (there:∀ b o,b ∉ ch→s.heap.get? b=some o→∃ o',h'.get? b=some o')
  (tups:∀ b xs,H b=some (.tup xs)→H' b=some (.tup xs)) (frzs:∀ b o u,H b=some (.frz o u)→H' b=some (.frz o u)) (tbls:∀ b ps,H b=some (.tbl ps)→∃ more,H' b=some (.tbl (ps++more)))
  (ns:∀ m,s.heap.Ns X.env.locals m→h'.Ns X.env.locals m) (hok:HOk X.prog X.w H' h') (hg:AllBare g') :
  Inv X pins σ H' { s with heap:=h',gens:=g',drawn:=d',toks:=t' }:=by
 have neL:∀ b o,X.s₀.heap.get? b=some o→b≠X.env.locals:=fun b o e=>Nat.ne_of_lt (Nat.lt_of_lt_of_le (Heap.lt_size e) I.ok.above)
 have neC:∀ b o,X.s₀.heap.get? b=some o→b ∉ X.ex→b ∉ ch:=fun b o e hx hb=>by
  rcases (hch b hb).1 with z | z
  ·exact hx z
  ·exact absurd (Nat.lt_of_lt_of_le (Heap.lt_size e) z) (Nat.lt_irrefl _)
 have cellK:∀ x c,X.env.cells.lookup x=some c→∀ v,s.heap.IsCell c v→h'.IsCell c v:=fun x c e v ⟨o,ho,hd⟩=>by
  have nch:c ∉ ch:=fun z=>(hch c z).2.2.1 x c e rfl
  by_cases hc:c∈X.fs
  ·obtain ⟨sl,q⟩:=slot c o (I.cne x c e) hc nch ho (I.freeC x c e)
   exact ⟨_,q,hd⟩
  ·exact ⟨o,keep c o (I.cne x c e) hc nch ho (I.freeC x c e),hd⟩
 refine ⟨I.ok,I.os,hg,⟨fun b o e n hb hx=>?_,fun b o e n hb hx=>?_,fun b o e n hx=>?_,fun b o e hx=>?_,fun b xs e=>tups b xs (I.base.tups b xs e),fun b o xs e=>frzs b o xs (I.base.frzs b o xs e),fun b ps e=>?_⟩,?_,fun x c e=>?_,?_,fun x c e=>?_,fun p hp=>?_,hok,I.len⟩
 ·exact keep b o (neL b o e) hb (neC b o e hx) (I.base.keep b o e n hb hx) (I.base.free b o e n hx)
 ·obtain ⟨sl,e1⟩:=I.base.slot b o e n hb hx
  obtain ⟨sl',e2⟩:=slot b _ (neL b o e) hb (neC b o e hx) e1 (I.base.free b o e n hx)
  exact ⟨sl',e2⟩
 ·obtain ⟨o',e1⟩:=I.base.there b o e hx
  exact free b o' (neC b o e hx) e1 (I.base.free b o e n hx)
 ·obtain ⟨o',e1⟩:=I.base.there b o e hx
  exact there b o' (neC b o e hx) e1
 ·obtain ⟨m1,e1⟩:=I.base.tbls b ps e
  obtain ⟨m2,e2⟩:=tbls b _ e1
  exact ⟨m1++m2,by rw [e2,Array.append_assoc]⟩
 ·obtain ⟨m,hn,hl⟩:=I.loc
  refine ⟨m,ns m hn,fun i x v e1 e2 e3=>?_⟩
  obtain ⟨u,r,l⟩:=hl i x v e1 e2 e3
  refine ⟨u,r,?_⟩
  rcases l with l | ⟨k,c,e,z⟩
  ·exact .inl l
  ·exact .inr ⟨k,c,e,cellK x c e _ z⟩
 ·obtain ⟨v,z⟩:=I.cell x c e
  exact ⟨v,cellK x c e v z⟩
 ·obtain ⟨m,⟨o,_,_,ho,_⟩,_⟩:=I.loc
  exact free _ o (fun z=>(hch _ z).2.1 rfl) ho I.free
 ·obtain ⟨v,o,ho,hd⟩:=I.cell x c e
  exact free c o (fun z=>(hch c z).2.2.1 x c e rfl) ho (I.freeC x c e)
 ·obtain ⟨e,n,ne,nf,d⟩:=I.pin p hp
  have nch:p.1 ∉ ch:=fun z=>(hch p.1 z).2.2.2 p hp rfl
  exact ⟨keep p.1 p.2 ne nf nch e n,free p.1 p.2 nch e n,ne,nf,d⟩
theorem Inv.un {t':Nat} (I:Inv X pins σ H s) (u:Un X.fs [] H H' s.heap h') (hok:HOk X.prog X.w H' h'):Inv X pins σ H' { s with heap:=h',toks:=t' }:=by
 obtain ⟨m,⟨o,es,ep,ho,r⟩,_⟩:=id I.loc
 obtain ⟨sl,hL⟩:=u.any ho I.free (by simp)
 exact I.step (g':=s.gens) (d':=s.drawn) (ch:=[]) (fun _ z=>nomatch z) (fun b o _ hb _ e n=>u.keep b o e n hb (by simp)) (fun b o _ hb _ e n=>u.slot b o e n hb (by simp)) (fun b o _ e n=>u.free b o e n (by simp)) (fun b o _ e=>u.there b o e (by simp)) u.tups u.frzs u.tbls (fun m' hm=>by
  obtain ⟨o',es',ep',ho',r'⟩:=hm
  rw [ho] at ho'; cases ho'
  exact ⟨_,es',ep',hL,r'⟩) hok I.bare
theorem Inv.call {g':Array GenState}{t':Nat}{d':Drawn}{ch:List Addr} (I:Inv X pins σ H s) (u:Un (frs X.stack) ch H H' s.heap h') (hok:HOk X.prog X.w H' h') (hg:AllBare g')
  (hch:∀ b∈ch,(b∈X.ex∨X.s₀.heap.objs.size≤b)∧b≠X.env.locals∧(∀ x c,X.env.cells.lookup x=some c→c≠b)∧∀ p∈X.pn++pins,p.1≠b) :
  Inv X pins σ H' { s with heap:=h',gens:=g',drawn:=d',toks:=t' }:=by
 obtain ⟨m,⟨o,es,ep,ho,r⟩,_⟩:=id I.loc
 obtain ⟨sl,hL⟩:=u.any ho I.free fun z=>(hch _ z).2.1 rfl
 exact I.step (ch:=ch) hch (fun b o hL hb hc e n=>u.keep b o e n (fun z=>(List.mem_cons.mp (I.stkSub b z)).elim hL hb) hc) (fun b o _ _ hc e n=>u.any e n hc) (fun b o hc e n=>u.free b o e n hc) (fun b o hc e=>u.there b o e hc) u.tups u.frzs u.tbls (fun m' hm=>by
  obtain ⟨o',es',ep',ho',r'⟩:=hm
  rw [ho] at ho'; cases ho'
  exact ⟨_,es',ep',hL,r'⟩) hok hg
theorem Inv.turned {t':Nat}{it:Addr} (I:Inv X pins σ H s) (k:∀ b o,b≠it→s.heap.get? b=some o→h'.get? b=some o) (hn:H it=none) (hL:it≠X.env.locals)
  (h1:it∈X.ex∨X.s₀.heap.objs.size≤it) (h2:∀ x c,X.env.cells.lookup x=some c→c≠it) (h3:∀ p∈X.pn++pins,p.1≠it):Inv X pins σ H { s with heap:=h',toks:=t' }:=by
 have nit:∀ b u,H b=some u→b≠it:=fun b u e z=>by rw [z,hn] at e; cases e
 refine I.step (g':=s.gens) (d':=s.drawn) (ch:=[it]) (fun b hb=>?_) (fun b o _ _ hc e _=>k b o (fun z=>hc (by simp [z])) e) (fun b o _ _ hc e _=>⟨o.slots,k b o (fun z=>hc (by simp [z])) e⟩) (fun _ _ _ _ n=>n)
  (fun b o hc e=>⟨o,k b o (fun z=>hc (by simp [z])) e⟩) (fun _ _ e=>e) (fun _ _ _ e=>e) (fun b ps e=>⟨#[],by rw [e]; simp⟩) (fun m hm=>?_) (fun b u e=>?_) I.bare
 ·have e:b=it:=by simpa using hb
  subst e
  exact ⟨h1,hL,h2,h3⟩
 ·obtain ⟨o,es,ep,ho,r⟩:=hm
  exact ⟨o,es,ep,k _ o (Ne.symm hL) ho,r⟩
 ·refine (I.hok b u e).stay (fun c v hc q=>k c v ?_ q) (fun _ q=>q) fun _ _ q=>q
  rcases hc with z | z
  ·rw [z]; exact nit b u e
  ·exact nit c _ z
theorem Inv.tok (I:Inv X pins σ H s) (t:Nat):Inv X pins σ H { s with toks:=t }:=I.un (h':=s.heap) (t':=t) Un.refl I.hok
theorem Inv.kept {t':Nat} (I:Inv X pins σ H s) (k:∀ b u,s.heap.get? b=some u→h'.get? b=some u):Inv X pins σ H { s with heap:=h',toks:=t' }:=I.un (Un.kept k) (I.hok.kept k)
theorem Inv.laid {a:Addr}{o:HO}{t':Nat} (I:Inv X pins σ H s) (k:∀ b u,s.heap.get? b=some u→h'.get? b=some u) (hp:s.heap.objs.size≤a) (new:ObjOk X.prog X.w (upd H a o) h' a o) :
  Inv X pins σ (upd H a o) { s with heap:=h',toks:=t' }:=I.un (Un.laid k hp (I.hok.fresh hp)) (I.hok.laid k hp new)
theorem Inv.write {x e:Addr}{o:HO}{t':Nat} (I:Inv X pins σ H s) (mu:Mut (H x)) (he:e=x∨H e=some (.own x)) (k:∀ b u,b≠e→s.heap.get? b=some u→h'.get? b=some u) (heo:∃ u,h'.get? e=some u)
  (new:ObjOk X.prog X.w (upd H x o) h' x o):Inv X pins σ (upd H x o) { s with heap:=h',toks:=t' }:=I.un (Un.write mu he k heo) (I.hok.write mu he k heo new)
theorem Inv.pins_of {pins':List (Addr × Obj)} (I:Inv X pins σ H s) (h:∀ p∈pins',s.heap.get? p.1=some p.2∧H p.1=none∧p.1≠X.env.locals∧p.1 ∉ X.fs∧∀ v,p.2.data≠.cell v):Inv X pins' σ H s :=
 ⟨I.ok,I.os,I.bare,I.base,I.loc,I.cell,I.free,I.freeC,fun p hp=>(List.mem_append.mp hp).elim (fun z=>I.pin p (List.mem_append_left _ z)) (h p),I.hok,I.len⟩
theorem zaju {N:List Str} (hN:N.Nodup) {i j:Nat}{x:Str} (a:N[i]?=some x) (b:N[j]?=some x):i=j:=by
 obtain ⟨h1,e1⟩:=List.getElem?_eq_some_iff.mp a
 obtain ⟨h2,e2⟩:=List.getElem?_eq_some_iff.mp b
 exact (List.getElem_inj hN).mp (e1.trans e2.symm)
theorem zahl {M:Model}{A:Around}{E:Value→Shared→Prop}{i:Nat}{x:Str}{v:V}{u:Value}{Q:Unit→Shared→Prop} (I:Inv X pins σ H s) (hN:X.N.Nodup) (hi:X.N[i]?=some x) (hx:Loc X.env.scope x) (r:RelV v u)
  (h:∀ s',Inv X pins (σ.set i (some v)) H s'→(∃ a,Heap.SameBut a s.heap s'.heap∧(a=X.env.locals∨X.env.cells.lookup x=some a))→Q () s') (hf:X.fn x=true∨X.env.scope.names.lookup x=some .local:=by first | exact .inl rfl | exact .inr rfl | assumption):wpAny M A (storeName X.env x u) Q E s:=by
 obtain ⟨m,hn,hl⟩:=id I.loc
 have hcls:(X.env.scope.kind == .class || (X.env.scope.kind == .module && X.env.locals != X.env.globals))=false:=by rw [I.ok.kind]; rfl
 have hiσ:i < σ.length:=by rw [I.len]; exact (List.getElem?_eq_some_iff.mp hi).1
 have cne:=I.cne
 have tracked:∀ {a:Addr}{h':Heap},(∃ o,s.heap.get? a=some o∧H a=none)→Heap.SameBut a s.heap h'→HOk X.prog X.w H h':=fun {a h'} ha hs b ob e=>by
  obtain ⟨_,_,hfree⟩:=ha
  refine (I.hok b ob e).stay (fun c w' hc q=>(hs.2 c ?_).trans q) (fun _ q=>q) fun _ _ q=>q
  rintro rfl
  rcases hc with rfl | hc
  ·rw [hfree] at e; cases e
  ·rw [hfree] at hc; cases hc
 rcases hx with hk | hk
 ·refine wpAny_storeName_local hk hn (fun h' hn' hs=>?_) hcls
  obtain ⟨oL,_,_,hoL,_⟩:=id hn
  refine h _ ⟨I.ok,I.os,I.bare,⟨fun b o e n hb hx=>?_,fun b o e n hb hx=>?_,I.base.free,fun b o e hx=>?_,I.base.tups,I.base.frzs,I.base.tbls⟩,⟨_,hn',fun j y v' e1 e2 e3=>?_⟩,fun y c e=>?_,I.free,I.freeC,fun p hp=>?_,tracked ⟨oL,hoL,I.free⟩ hs,by simpa using I.len⟩ ⟨_,hs,.inl rfl⟩
  ·exact (hs.2 b (Nat.ne_of_lt (Nat.lt_of_lt_of_le (Heap.lt_size e) I.ok.above))).trans (I.base.keep b o e n hb hx)
  ·obtain ⟨sl,e1⟩:=I.base.slot b o e n hb hx
   exact ⟨sl,(hs.2 b (Nat.ne_of_lt (Nat.lt_of_lt_of_le (Heap.lt_size e) I.ok.above))).trans e1⟩
  ·obtain ⟨o',e1⟩:=I.base.there b o e hx
   exact ⟨o',(hs.2 b (Nat.ne_of_lt (Nat.lt_of_lt_of_le (Heap.lt_size e) I.ok.above))).trans e1⟩
  ·by_cases hj:j=i
   ·subst hj
    rw [hi] at e1; cases e1
    rw [List.getElem?_set_self hiσ] at e2
    cases e2
    exact ⟨u,r,.inl ⟨hk,by simp⟩⟩
   ·rw [List.getElem?_set_ne (Ne.symm hj)] at e2
    obtain ⟨u',r',q⟩:=hl j y v' e1 e2 e3
    refine ⟨u',r',?_⟩
    rcases q with ⟨k,e⟩ | ⟨k,c,e,z⟩
    ·refine .inl ⟨k,?_⟩
     have:y≠x:=fun e=>hj (zaju hN e1 (e ▸ hi))
     simp [this,e]
    ·exact .inr ⟨k,c,e,z.sameBut hs (cne y c e)⟩
  ·obtain ⟨w',z⟩:=I.cell y c e
   exact ⟨w',z.sameBut hs (cne y c e)⟩
  ·obtain ⟨e,n,ne,nf,d⟩:=I.pin p hp
   exact ⟨(hs.2 p.1 ne).trans e,n,ne,nf,d⟩
 ·have hfn:X.fn x=true:=by
   rcases hf with z | z
   ·exact z
   ·rw [z] at hk; cases hk
  obtain ⟨c,hc⟩:=I.ok.has x (.inl hk)
  obtain ⟨w',z⟩:=I.cell x c hc
  refine wpAny_storeName_cell I.ok.kind hk hc z (fun h' hc' hs=>?_)
  obtain ⟨oc,hoc,hocd⟩:=id z
  refine h { s with heap:=h' } ⟨I.ok,I.os,I.bare,⟨fun b o e n hb hx=>?_,fun b o e n hb hx=>?_,I.base.free,fun b o e hx=>?_,I.base.tups,I.base.frzs,I.base.tbls⟩,⟨m,hn.sameBut hs (Ne.symm (cne x c hc)),fun j y v' e1 e2 e3=>?_⟩,fun y c' e=>?_,I.free,I.freeC,fun p hp=>?_,tracked ⟨oc,hoc,I.freeC x c hc⟩ hs,by simpa using I.len⟩ ⟨c,hs,.inr hc⟩
  ·exact (hs.2 b (Nat.ne_of_lt (Nat.lt_of_lt_of_le (Heap.lt_size e) (I.ok.cab x c hfn hc)))).trans (I.base.keep b o e n hb hx)
  ·obtain ⟨sl,e1⟩:=I.base.slot b o e n hb hx
   exact ⟨sl,(hs.2 b (Nat.ne_of_lt (Nat.lt_of_lt_of_le (Heap.lt_size e) (I.ok.cab x c hfn hc)))).trans e1⟩
  ·obtain ⟨o',e1⟩:=I.base.there b o e hx
   exact ⟨o',(hs.2 b (Nat.ne_of_lt (Nat.lt_of_lt_of_le (Heap.lt_size e) (I.ok.cab x c hfn hc)))).trans e1⟩
  ·by_cases hj:j=i
   ·subst hj
    rw [hi] at e1; cases e1
    rw [List.getElem?_set_self hiσ] at e2
    cases e2
    exact ⟨u,r,.inr ⟨.inl hk,c,hc,hc'⟩⟩
   ·rw [List.getElem?_set_ne (Ne.symm hj)] at e2
    obtain ⟨u',r',q⟩:=hl j y v' e1 e2 e3
    refine ⟨u',r',?_⟩
    rcases q with q | ⟨k,c',e,z'⟩
    ·exact .inl q
    ·refine .inr ⟨k,c',e,z'.sameBut hs ?_⟩
     rintro rfl
     exact hj (zaju hN e1 (I.ok.inj _ _ _ e hc ▸ hi))
  ·by_cases hcc:c'=c
   ·subst hcc; exact ⟨_,hc'⟩
   ·obtain ⟨w2,z2⟩:=I.cell y c' e
    exact ⟨w2,z2.sameBut hs hcc⟩
  ·obtain ⟨e,n,ne,nf,d⟩:=I.pin p hp
   refine ⟨(hs.2 p.1 ?_).trans e,n,ne,nf,d⟩
   intro q
   rw [q,hoc] at e
   have q':oc=p.2:=Option.some.inj e
   exact d w' (by rw [← q']; exact hocd)
theorem zajv {M:Model}{A:Around}{E:Value→Shared→Prop}{i:Nat}{x:Str}{v:V}{u:Value}{Q:Unit→Shared→Prop} (I:Inv X pins σ H s) (hN:X.N.Nodup) (hi:X.N[i]?=some x) (hx:Loc X.env.scope x) (r:RelV v u)
  (h:∀ s',Inv X pins (σ.set i (some v)) H s'→Q () s') (hf:X.fn x=true∨X.env.scope.names.lookup x=some .local:=by first | exact .inl rfl | exact .inr rfl | assumption):wpAny M A (storeName X.env x u) Q E s :=
 zahl I hN hi hx r (fun s' I' _=>h s' I') hf
theorem Inv.call' {s':Shared}{ch:List Addr} (I:Inv X pins σ H s) (ho:s'.os=s.os) (u:Un (frs X.stack) ch H H' s.heap s'.heap) (hok:HOk X.prog X.w H' s'.heap) (hg:AllBare s'.gens)
  (hch:∀ b∈ch,(b∈X.ex∨X.s₀.heap.objs.size≤b)∧b≠X.env.locals∧(∀ x c,X.env.cells.lookup x=some c→c≠b)∧∀ p∈X.pn++pins,p.1≠b):Inv X pins σ H' s':=by
 obtain ⟨h',g',d',t',o'⟩:=s'
 have e:o'=s.os:=ho
 subst e
 exact I.call (g':=g') (t':=t') (d':=d') u hok hg hch
end
abbrev XK:=Value→Option Addr→Hp→Prop
abbrev St:=List (Option V)
abbrev VK:=V→Hp→Prop
abbrev TE:=St→Hp→VK→Prop
abbrev TT:=St→Hp→(Bool→Hp→Prop)→Prop
abbrev TA:=St→Hp→(List V→Hp→Prop)→Prop
structure Ends where
 nx:St→Hp→Prop
 rt:VK
 bk:St→Hp→Prop:=fun _ _=>False
 ct:St→Hp→Prop:=fun _ _=>False
abbrev TS:=Ends→St→Hp→Prop
def EP (X:Cx) (pins:List (Addr × Obj)) (σ:St) (Q:VK) (u:Value) (s':Shared):Prop:=∃ v H',Inv X pins σ H' s'∧RelV v u∧Q v H'
def TP (X:Cx) (pins:List (Addr × Obj)) (σ:St) (Q:Bool→Hp→Prop) (b:Bool) (s':Shared):Prop:=∃ H',Inv X pins σ H' s'∧Q b H'
def AP (X:Cx) (pins:List (Addr × Obj)) (σ:St) (Q:List V→Hp→Prop) (us:List Value) (s':Shared):Prop:=∃ vs H',Inv X pins σ H' s'∧Vals vs us∧Q vs H'
def SP (X:Cx) (pins:List (Addr × Obj)) (D:Ends) (f:Flow) (s':Shared):Prop :=
 match f with
 | .next=>∃ σ' H',Inv X pins σ' H' s'∧D.nx σ' H'
 | .brk=>∃ σ' H',Inv X pins σ' H' s'∧D.bk σ' H'
 | .cont=>∃ σ' H',Inv X pins σ' H' s'∧D.ct σ' H'
 | .ret u=>∃ v σ' H',Inv X pins σ' H' s'∧RelV v u∧D.rt v H'
def PE (X:Cx) (e:Expr) (t:TE):Prop :=
 ∀ (pins:List (Addr × Obj)) (s:Shared) (σ:St) (H:Hp) (Q:VK),Inv X pins σ H s→t σ H Q→wpAny (model X.prog X.w) X.A (eval e X.env) (EP X pins σ Q) X.xe s
def PT (X:Cx) (e:Expr) (t:TT):Prop :=
 ∀ (pins:List (Addr × Obj)) (s:Shared) (σ:St) (H:Hp) (Q:Bool→Hp→Prop),Inv X pins σ H s→t σ H Q→wpAny (model X.prog X.w) X.A (isTrue e X.env (eval e X.env)) (TP X pins σ Q) X.xe s
def PW (X:Cx) (e:Expr) (t:TT):Prop :=
 ∀ (whole:Sem Value) (pins:List (Addr × Obj)) (s:Shared) (σ:St) (H:Hp) (Q:Bool→Hp→Prop),Inv X pins σ H s→t σ H Q→wpAny (model X.prog X.w) X.A (isTrue e X.env whole) (TP X pins σ Q) X.xe s
theorem PW.pt {X:Cx}{e:Expr}{t:TT} (h:PW X e t):PT X e t:=h _
def PA (X:Cx) (es:List Expr) (t:TA):Prop :=
 ∀ (pos:Pos) (pins:List (Addr × Obj)) (s:Shared) (σ:St) (H:Hp) (Q:List V→Hp→Prop),Inv X pins σ H s→t σ H Q→wpAny (model X.prog X.w) X.A (spliced (backTo pos (starEach es X.env))) (AP X pins σ Q) X.xe s
def PS (X:Cx) (st:Stmt) (t:TS):Prop :=
 ∀ (pins:List (Addr × Obj)) (s:Shared) (σ:St) (H:Hp) (D:Ends),Inv X pins σ H s→t D σ H→wpAny (model X.prog X.w) X.A (exec st X.env) (SP X pins D) X.xe s
def PSs (X:Cx) (st:List Stmt) (t:TS):Prop :=
 ∀ (pins:List (Addr × Obj)) (s:Shared) (σ:St) (H:Hp) (D:Ends),Inv X pins σ H s→t D σ H→wpAny (model X.prog X.w) X.A (execs st X.env) (SP X pins D) X.xe s
theorem thn {α:Type}{t:Sem α}{Q Q':α→Shared→Prop}{M:Model}{A:Around}{E:Value→Shared→Prop}{s:Shared} (h:wpAny M A t Q E s) (hQ:∀ a s,Q a s→Q' a s):wpAny M A t Q' E s:=wpAny_mono h hQ fun _ _ x=>x
section
variable {X:Cx}
def tVar (i:Nat):TE:=fun σ H Q=>∃ v,σ[i]?=some (some v)∧Q v H
def tC (v:V):TE:=fun _ H Q=>Q v H
theorem zass {i:Nat}{x:Str}{pos:Pos} (hN:X.N[i]?=some x) (hv:Vis X.env.scope x) (hd:(x == ("__debug__" : Str))=false:=by decide) (hcd:(x == ("__classdict__" : Str))=false:=by decide):PE X (.Name x pos) (tVar i):=by
 intro pins s σ H Q I h
 obtain ⟨v,e,h⟩:=h
 obtain ⟨m,hn,hl⟩:=I.loc
 obtain ⟨u,r,l⟩:=hl i x v hN e hv
 have fin:EP X pins σ Q u s:=⟨v,H,I,r,h⟩
 rcases l with ⟨hk,hm⟩ | ⟨hk,c,hc,hcell⟩
 ·exact wpAny_Name (wpAny_loadName_local I.ok.kind hk hn hm fin) hd
 ·rcases hk with hk | hk
  ·exact wpAny_Name (wpAny_loadName_cell I.ok.kind hk hc hcell fin) hd
  ·exact wpAny_Name (wpAny_loadName_free I.ok.kind hk hc hcell fin hcd) hd
theorem zast {i j pos}:PE X (.Constant (.int i) j pos) (tC (.int i)):=fun _ _ _ H _ I h=>wpAny_Constant_int ⟨.int i,H,I.tok _,⟨_,rfl⟩,h⟩
theorem zauw {b j pos}:PE X (.Constant (.bool b) j pos) (tC (.bl b)):=fun _ _ _ H _ I h=>Constant_bool ⟨.bl b,H,I,rfl,h⟩
theorem zasu {j pos}:PE X (.Constant .none j pos) (tC .non):=fun _ _ _ H _ I h=>Constant_none ⟨.non,H,I,rfl,h⟩
theorem zasv {x j pos}:PE X (.Constant (.str x) j pos) (tC (.str x)):=fun _ _ _ H _ I h=>Calls.Constant_str ⟨.str x,H,I.tok _,⟨_,rfl⟩,h⟩
def Gl (X:Cx) (x:Str):Prop:=X.env.kindOf x=some .globalImplicit
theorem zago {E:Value→Shared→Prop}{pins:List (Addr × Obj)}{s:Shared}{σ:St}{H:Hp}{x:Str}{u:Value}{pos:Pos}{Q:Value→Shared→Prop} (I:Inv X pins σ H s) (hg:Gl X x) (hm:X.mg x=some u) (h:Q u s)
  (hd:(x == ("__debug__" : Str))=false:=by decide):wpAny (model X.prog X.w) X.A (eval (.Name x pos) X.env) Q E s :=
 Calls.Name_function_global I.ok.kind hg (Calls.loadGlobal_global (by rw [I.ok.glob]; exact I.mod.glob.keeps I.bk) hm h) hd
theorem zafo {E:Value→Shared→Prop}{pins:List (Addr × Obj)}{s:Shared}{σ:St}{H:Hp}{x:Str}{u:Value}{pos:Pos}{Q:Value→Shared→Prop} (I:Inv X pins σ H s) (hg:Gl X x) (hm:X.mg x=none) (hv:bootBuiltins x=some u) (h:Q u s)
  (hn:x ≠ "__name__" := by decide) (hd:(x == ("__debug__" : Str))=false:=by decide):wpAny (model X.prog X.w) X.A (eval (.Name x pos) X.env) Q E s:=by
 obtain ⟨mb,h1,h2⟩:=I.mod.blt
 exact Calls.Name_function_global I.ok.kind hg (Calls.loadGlobal_builtin (by rw [I.ok.glob]; exact I.mod.glob.keeps I.bk) hm (by rw [I.ok.blt]; exact h1.keeps I.bk) ((h2 x hn).trans hv) h) hd
theorem zaqb {x:Str}{v:V}{u:Value}{pos:Pos} (hg:Gl X x) (hm:X.mg x=some u) (r:RelV v u) (hd:(x == ("__debug__" : Str))=false:=by decide):PE X (.Name x pos) (tC v) :=
 fun _ _ _ H _ I h=>zago I hg hm ⟨v,H,I,r,h⟩ hd
theorem zaqc {x:Str}{v:V}{u:Value}{pos:Pos} (hg:Gl X x) (hm:X.mg x=none) (hv:bootBuiltins x=some u) (r:RelV v u) (hn:x ≠ "__name__" := by decide) (hd:(x == ("__debug__" : Str))=false:=by decide):PE X (.Name x pos) (tC v) :=
 fun _ _ _ H _ I h=>zafo I hg hm hv ⟨v,H,I,r,h⟩ hn hd
variable {a b:Expr}{ta tb:TE}{pos:Pos}
def PC (X:Cx) (op:CmpOp) (a b:Expr) (t:TE):Prop :=
 ∀ (pins:List (Addr × Obj)) (s:Shared) (σ:St) (H:Hp) (Q:VK),Inv X pins σ H s→t σ H Q →
  wpAny (model X.prog X.w) X.A (eval a X.env) (fun v s₁=>wpAny (model X.prog X.w) X.A (eval b X.env) (fun u s₂=>wpAny (model X.prog X.w) X.A (compareOp op v u) (EP X pins σ Q) X.xe s₂) X.xe s₁) X.xe s
def tB (t:TE):TT:=fun σ H Q=>t σ H fun x H1=>∃ c,x=.bl c∧Q c H1
theorem zaph {op:CmpOp}{t:TE} (h:PC X op a b t) (h1:behindInMarks op b=false:=by first | exact nobehind _ (by decide) (by decide) | rfl):PT X (.Compare a [op] [b] pos) (tB t):=by
 intro pins s σ H Q I hw
 refine wpAny_isTrue_Compare1 (thn (h pins s σ H _ I hw) fun v s1 h1=>thn h1 fun u s2 h2=>thn h2 fun c s3 ⟨x,H1,I1,r1,q1⟩=>?_) h1
 obtain ⟨d,rfl,q⟩:=q1
 cases r1
 exact wpAny_truthy_bool ⟨H1,I1,q⟩
theorem zasw {e:Expr}{t:TE} (h:PE X e t) (he:∀ whole,isTrue e X.env whole=(do let v ← whole; standAt e.pos; holding [v] (truthy v)):=by intro _; rfl):PT X e (tB t):=by
 intro pins s σ H Q I hw
 refine isTrue_plain (thn (h pins s σ H _ I hw) fun v s1 ⟨x,H1,I1,r1,q1⟩=>?_) (he _)
 obtain ⟨d,rfl,q⟩:=q1
 cases r1
 exact wpAny_truthy_bool ⟨H1,I1,q⟩
variable {tA tB':TT}{rest:List Expr}
def tAnd (t u:TT):TT:=fun σ H Q=>t σ H fun c H1=>if c=true then u σ H1 Q else Q false H1
def tOr (t u:TT):TT:=fun σ H Q=>t σ H fun c H1=>if c=true then Q true H1 else u σ H1 Q
def tNot (t:TT):TT:=fun σ H Q=>t σ H fun c H1=>Q (!c) H1
theorem zaqd (ha:PT X a tA):PW X (.BoolOp .And [a] pos) tA:=by
 intro wh pins s σ H Q I h
 refine isTrue_and (thn (ha pins s σ H Q I h) fun c s1 e=>?_)
 cases c with
 | true=>exact isTrue_and_nil e
 | false=>exact e
theorem zasx (ha:PT X a tA):PW X (.BoolOp .Or [a] pos) tA:=by
 intro wh pins s σ H Q I h
 refine isTrue_or (thn (ha pins s σ H Q I h) fun c s1 e=>?_)
 cases c with
 | false=>exact isTrue_or_nil e
 | true=>exact e
theorem zasy (ha:PT X a tA) (hb:PW X (.BoolOp .And (b :: rest) pos) tB'):PW X (.BoolOp .And (a :: b :: rest) pos) (tAnd tA tB'):=by
 intro wh pins s σ H Q I h
 refine isTrue_and (thn (ha pins s σ H _ I h) fun c s1 ⟨H1,I1,q1⟩=>?_)
 cases c with
 | true=>exact hb wh pins s1 σ H1 Q I1 q1
 | false=>exact ⟨H1,I1,q1⟩
theorem zaux (ha:PT X a tA) (hb:PW X (.BoolOp .Or (b :: rest) pos) tB'):PW X (.BoolOp .Or (a :: b :: rest) pos) (tOr tA tB'):=by
 intro wh pins s σ H Q I h
 refine isTrue_or (thn (ha pins s σ H _ I h) fun c s1 ⟨H1,I1,q1⟩=>?_)
 cases c with
 | true=>exact ⟨H1,I1,q1⟩
 | false=>exact hb wh pins s1 σ H1 Q I1 q1
theorem zasz (ha:PT X a tA):PT X (.UnaryOp .Not a pos) (tNot tA):=by
 intro pins s σ H Q I h
 exact isTrue_not (ha pins s σ H (fun c H1=>Q (!c) H1) I h)
def tAndV (ta tb:TE):TE:=fun σ H Q=>ta σ H fun x H1=>∃ c,x=.bl c∧if c=true then tb σ H1 Q else Q (.bl false) H1
def tOrV (ta tb:TE):TE:=fun σ H Q=>ta σ H fun x H1=>∃ c,x=.bl c∧if c=true then Q (.bl true) H1 else tb σ H1 Q
def tNotV (ta:TE):TE:=fun σ H Q=>ta σ H fun x H1=>∃ c,x=.bl c∧Q (.bl (!c)) H1
theorem zas0 {op}{t:TE} (h:PE X a t):PE X (.BoolOp op [a] pos) t:=fun pins s σ H Q I hw=>BoolOp_one (h pins s σ H Q I hw)
theorem zas1 (ha:PE X a ta) (hb:PE X (.BoolOp .And (b :: rest) pos) tb):PE X (.BoolOp .And (a :: b :: rest) pos) (tAndV ta tb):=by
 intro pins s σ H Q I h
 refine BoolOp_and (thn (ha pins s σ H _ I h) fun v s1 ⟨x,H1,I1,r1,q1⟩=>?_)
 obtain ⟨c,rfl,q1⟩:=q1
 cases r1
 refine wpAny_truthy_bool ?_
 cases c with
 | true=>exact hb pins s1 σ H1 Q I1 q1
 | false=>exact ⟨.bl false,H1,I1,rfl,q1⟩
theorem zauy (ha:PE X a ta) (hb:PE X (.BoolOp .Or (b :: rest) pos) tb):PE X (.BoolOp .Or (a :: b :: rest) pos) (tOrV ta tb):=by
 intro pins s σ H Q I h
 refine BoolOp_or (thn (ha pins s σ H _ I h) fun v s1 ⟨x,H1,I1,r1,q1⟩=>?_)
 obtain ⟨c,rfl,q1⟩:=q1
 cases r1
 refine wpAny_truthy_bool ?_
 cases c with
 | false=>exact hb pins s1 σ H1 Q I1 q1
 | true=>exact ⟨.bl true,H1,I1,rfl,q1⟩
theorem zas2 (ha:PE X a ta):PE X (.UnaryOp .Not a pos) (tNotV ta):=by
 intro pins s σ H Q I h
 refine UnaryOp_ (thn (ha pins s σ H _ I h) fun v s1 ⟨x,H1,I1,r1,q1⟩=>?_)
 obtain ⟨c,rfl,q1⟩:=q1
 cases r1
 exact not_of (wpAny_truthy_bool ⟨.bl (!c),H1,I1,rfl,q1⟩)
def tIf (t:TT) (ta tb:TE):TE:=fun σ H Q=>t σ H fun c H1=>if c=true then ta σ H1 Q else tb σ H1 Q
theorem zan4 {c:Expr} (hc:PT X c tA) (ha:PE X a ta) (hb:PE X b tb):PE X (.IfExp c a b pos) (tIf tA ta tb):=by
 intro pins s σ H Q I h
 refine wpAny_IfExp (thn (hc pins s σ H _ I h) fun d s1 ⟨H1,I1,q1⟩=>?_)
 cases d with
 | true=>exact ha pins s1 σ H1 Q I1 q1
 | false=>exact hb pins s1 σ H1 Q I1 q1
end
def SqL (K:PySem.W.Frag) (H:Hp) (a:Addr) (xs:List V):Prop :=
 Rd H a (.lst xs) ∨
  ∃ (o:Obj) (its:Array Value) (n:Nat),K.lookup a=some o∧o.cls=.type "list" ∧ o.dict=none∧o.data=.seq its n∧its.size≤sizeLine∧Vals xs its.toList
def SqT (K:PySem.W.Frag) (H:Hp) (a:Addr) (xs:List V):Prop :=
 Rd H a (.tup xs) ∨
  ∃ (o:Obj) (its:Array Value) (n:Nat),K.lookup a=some o∧o.cls=.type "tuple" ∧ o.data=.seq its n∧its.size≤sizeLine∧Vals xs its.toList
def absV:Value→Option V
 | .none=>some .non
 | .bool b=>some (.bl b)
 | .int i _=>some (.int i)
 | .str x _=>some (.str x)
 | .bytes b _=>some (.byt b)
 | .float b _=>some (.flt b)
 | .ref a=>some (.ref a)
 | .type n=>some (.ty n)
 | _=>none
theorem RelV.abs {x:V}{u:Value} (r:RelV x u):absV u=some x:=by
 cases x with
 | non=>cases r; rfl
 | bl _=>cases r; rfl
 | int _=>obtain ⟨t,rfl⟩:=r; rfl
 | str _=>obtain ⟨t,rfl⟩:=r; rfl
 | byt _=>obtain ⟨t,rfl⟩:=r; rfl
 | flt _=>obtain ⟨t,rfl⟩:=r; rfl
 | ref _=>cases r; rfl
 | ty _=>cases r; rfl
theorem RelV.inj {x y:V}{u:Value} (r:RelV x u) (q:RelV y u):x=y:=Option.some.inj (r.abs.symm.trans q.abs)
theorem Vals.inj:∀ {xs ys:List V}{us:List Value},Vals xs us→Vals ys us→xs=ys
 | _,_,_,.nil,.nil=>rfl
 | _,_,_,.cons r t,.cons r' t'=>by rw [r.inj r',Vals.inj t t']
section
variable {X:Cx}{pins:List (Addr × Obj)}{σ:St}{H:Hp}{s:Shared}{a:Addr}{xs ys:List V}
theorem SqL.of {K:PySem.W.Frag} (h:H a=some (.lst xs)):SqL K H a xs:=.inl (.inl h)
theorem SqT.of {K:PySem.W.Frag} (h:H a=some (.tup xs)):SqT K H a xs:=.inl (.inl h)
theorem Inv.list (I:Inv X pins σ H s) (h:SqL X.K H a xs):∃ its:List Value,Vals xs its∧PlainL s.heap a its.toArray∧xs.length≤sizeLine:=by
 rcases h with h | ⟨o,its,n,hk,hc,hd,hs,hz,r⟩
 ·obtain ⟨z,its,n,r,e⟩:=h.ok I.hok
  exact ⟨its,r,⟨_,n,e,rfl,rfl,rfl⟩,z⟩
 ·refine ⟨its.toList,r,⟨o,n,I.kIn a o hk,hc,hd,by simpa using hs⟩,?_⟩
  have e:=r.length
  simp only [Array.length_toList] at e
  omega
theorem Inv.tuple (I:Inv X pins σ H s) (h:SqT X.K H a xs):∃ its:List Value,Vals xs its∧IsTup s.heap a its.toArray∧xs.length≤sizeLine:=by
 rcases h with h | ⟨o,its,n,hk,hc,hs,hz,r⟩
 ·obtain ⟨z,its,r,p⟩:=h.ok I.hok
  exact ⟨its,r,p,z⟩
 ·refine ⟨its.toList,r,⟨o,I.kIn a o hk,hc,n,by simpa using hs⟩,?_⟩
  have e:=r.length
  simp only [Array.length_toList] at e
  omega
theorem Inv.list_inj (I:Inv X pins σ H s) (h:SqL X.K H a xs) (h':SqL X.K H a ys):xs=ys:=by
 obtain ⟨its,r,⟨o,n,e,_,_,d⟩,_⟩:=I.list h
 obtain ⟨its',r',⟨o',n',e',_,_,d'⟩,_⟩:=I.list h'
 rw [e] at e'; cases e'
 rw [d] at d'
 injection d' with d1 _
 have:its=its':=by simpa using congrArg Array.toList d1
 subst this
 exact r.inj r'
theorem Inv.tuple_inj (I:Inv X pins σ H s) (h:SqT X.K H a xs) (h':SqT X.K H a ys):xs=ys:=by
 obtain ⟨its,r,⟨o,e,_,n,d⟩,_⟩:=I.tuple h
 obtain ⟨its',r',⟨o',e',_,n',d'⟩,_⟩:=I.tuple h'
 rw [e] at e'; cases e'
 rw [d] at d'
 injection d' with d1 _
 have:its=its':=by simpa using congrArg Array.toList d1
 subst this
 exact r.inj r'
end
abbrev Cx.wish (X:Cx) (E:Value→Shared→Prop):Cx:={ X with xe:=E }
abbrev Cx.nox (X:Cx):Cx:=X.wish fun _ _=>False
theorem Cx.Ok.wish {X:Cx} (ok:X.Ok) (E:Value→Shared→Prop):(X.wish E).Ok :=
 ⟨ok.mod,ok.kind,ok.glob,ok.blt,ok.above,ok.inj,ok.has,ok.cab,ok.hd,ok.frames,ok.stk,ok.exf,ok.bs,ok.bsz,ok.noex,ok.exfs,ok.funs,ok.frf⟩
theorem Cx.Ok.unwish {X:Cx}{E:Value→Shared→Prop} (ok:(X.wish E).Ok):X.Ok :=
 ⟨ok.mod,ok.kind,ok.glob,ok.blt,ok.above,ok.inj,ok.has,ok.cab,ok.hd,ok.frames,ok.stk,ok.exf,ok.bs,ok.bsz,ok.noex,ok.exfs,ok.funs,ok.frf⟩
section
variable {X:Cx}{pins:List (Addr × Obj)}{σ:St}{H:Hp}{s:Shared}{E:Value→Shared→Prop}
theorem Inv.wish (I:Inv X pins σ H s) (E:Value→Shared→Prop):Inv (X.wish E) pins σ H s:=⟨I.ok.wish E,I.os,I.bare,I.base,I.loc,I.cell,I.free,I.freeC,I.pin,I.hok,I.len⟩
theorem Inv.unwish (I:Inv (X.wish E) pins σ H s):Inv X pins σ H s:=⟨I.ok.unwish,I.os,I.bare,I.base,I.loc,I.cell,I.free,I.freeC,I.pin,I.hok,I.len⟩
theorem SP.unwish {D:Ends}{f:Flow}{s':Shared} (h:SP (X.wish E) pins D f s'):SP X pins D f s':=by
 cases f with
 | next=>obtain ⟨σ',H',I,q⟩:=h; exact ⟨σ',H',I.unwish,q⟩
 | brk=>obtain ⟨σ',H',I,q⟩:=h; exact ⟨σ',H',I.unwish,q⟩
 | cont=>obtain ⟨σ',H',I,q⟩:=h; exact ⟨σ',H',I.unwish,q⟩
 | ret u=>obtain ⟨v,σ',H',I,r,q⟩:=h; exact ⟨v,σ',H',I.unwish,r,q⟩
theorem PSs.nox {st:List Stmt}{t:TS} (h:PSs X.nox st t):PSs X st t:=fun pins s σ H D I hw =>
 wpAny_mono (h pins s σ H D (I.wish _) hw) (fun _ _ q=>q.unwish) fun _ _ z=>False.elim z
end
section
variable {X:Cx}{st:Stmt}{rest:List Stmt}{t u:TS}{e:Expr}{te:TE}{pos:Pos}
def tNext:TS:=fun D σ H=>D.nx σ H
def tSeq (t u:TS):TS:=fun D σ H=>t { D with nx:=u D } σ H
theorem zaqe:PSs X [] tNext:=fun _ _ σ H _ I h=>wpAny_execs_nil ⟨σ,H,I,h⟩
theorem zajw (h1:PS X st t) (h2:PSs X rest u):PSs X (st :: rest) (tSeq t u):=by
 intro pins s σ H D I h
 refine wpAny_execs_cons (thn (h1 pins s σ H { D with nx:=u D } I h) fun f s1 q=>?_)
 cases f with
 | next =>
  obtain ⟨σ',H',I',q⟩:=q
  exact h2 pins s1 σ' H' D I' q
 | ret v=>exact q
 | brk=>exact q
 | cont=>exact q
theorem zaqf (h1:PS X st t):PSs X [st] t:=by
 intro pins s σ H D I h
 refine wpAny_execs_cons (thn (h1 pins s σ H D I h) fun f s1 q=>?_)
 cases f with
 | next=>exact wpAny_execs_nil q
 | ret v=>exact q
 | brk=>exact q
 | cont=>exact q
def tCont:TS:=fun D σ H=>D.ct σ H
theorem zail:PS X (.Continue pos) tCont:=fun _ _ σ H _ I h=>wpAny_Continue ⟨σ,H,I,h⟩
theorem Inv.quiet {pins:List (Addr × Obj)}{σ:St}{H:Hp}{s:Shared} (I:Inv X pins σ H s):interactive X.env=false:=by simp [interactive,I.ok.kind]
def tDrop (te:TE):TS:=fun D σ H=>te σ H fun _ H1=>D.nx σ H1
theorem zaqg (he:PE X e te) (hs:swapsWith e none pos.line X.env=pure false:=by rfl):PS X (.Expr e pos) (tDrop te):=by
 intro pins s σ H D I h
 exact wpAny_Expr_any (thn (he pins s σ H _ I h) fun v s1 ⟨x,H1,I1,r1,q1⟩=>⟨σ,H1,I1,q1⟩) I.quiet hs
def tRet (te:TE):TS:=fun D σ H=>te σ H D.rt
theorem zas3 (he:PE X e te):PS X (.Return (some e) pos) (tRet te):=by
 intro pins s σ H D I h
 exact wpAny_Return_some (thn (he pins s σ H _ I h) fun v s1 ⟨x,H1,I1,r1,q1⟩=>⟨x,σ,H1,I1,r1,q1⟩)
def tIfS (c:TT) (t u:TS):TS:=fun D σ H=>c σ H fun b H1=>if b=true then t D σ H1 else u D σ H1
theorem zauz {c:Expr}{a b:List Stmt}{tc:TT} (hc:PT X c tc) (ha:PSs X a t) (hb:PSs X b u):PS X (.If c a b pos) (tIfS tc t u):=by
 intro pins s σ H D I h
 refine wpAny_If (thn (hc pins s σ H _ I h) fun d s1 ⟨H1,I1,q1⟩=>?_)
 cases d with
 | true=>exact ha pins s1 σ H1 D I1 q1
 | false=>exact hb pins s1 σ H1 D I1 q1
def tNever:TS:=fun _ _ _=>False
theorem zan5:PS X st tNever:=fun _ _ _ _ _ _ h=>h.elim
end
abbrev TG:=V→St→Hp→(St→Hp→Prop)→Prop
abbrev TGs:=List V→St→Hp→(St→Hp→Prop)→Prop
def PG (X:Cx) (target:Expr) (t:TG):Prop :=
 ∀ (pins:List (Addr × Obj)) (s:Shared) (σ:St) (H:Hp) (v:V) (u:Value) (Q:St→Hp→Prop),Inv X pins σ H s→RelV v u→t v σ H Q →
  wpAny (model X.prog X.w) X.A (assign target X.env u) (fun _ s'=>∃ σ' H',Inv X pins σ' H' s'∧Q σ' H') X.xe s
def PGs (X:Cx) (ts:List Expr) (t:TGs):Prop :=
 ∀ (pins:List (Addr × Obj)) (s:Shared) (σ:St) (H:Hp) (vs:List V) (us:List Value) (Q:St→Hp→Prop),Inv X pins σ H s→Vals vs us→t vs σ H Q →
  wpAny (model X.prog X.w) X.A (assignInOrder ((assignEach ts X.env).map (·.2)) us) (fun _ s'=>∃ σ' H',Inv X pins σ' H' s'∧Q σ' H') X.xe s
abbrev TSet:=V→V→V→Hp→(Hp→Prop)→Prop
def PSet (X:Cx) (t:TSet):Prop :=
 ∀ (pins:List (Addr × Obj)) (s:Shared) (σ:St) (H:Hp) (o i v:V) (ov iv u:Value) (Q:Hp→Prop),Inv X pins σ H s→RelV o ov→RelV i iv→RelV v u→t o i v H Q →
  wpAny (model X.prog X.w) X.A (setItem ov iv u) (fun _ s'=>∃ H',Inv X pins σ H' s'∧Q H') X.xe s
section
variable {X:Cx}{pos:Pos}
def gName (i:Nat):TG:=fun v σ H Q=>Q (σ.set i (some v)) H
theorem zaqh {i:Nat}{x:Str} (hN:X.N.Nodup) (hi:X.N[i]?=some x) (hx:Loc X.env.scope x) (hf:X.fn x=true∨X.env.scope.names.lookup x=some .local:=by first | exact .inl rfl | exact .inr rfl | assumption):PG X (.Name x pos) (gName i):=by
 intro pins s σ H v u Q I r h
 exact wpAny_assign_Name (zajv I hN hi hx r (fun s' I'=>⟨_,H,I',h⟩) hf)
def gNil:TGs:=fun vs σ H Q=>vs=[]∧Q σ H
def gCons (t:TG) (u:TGs):TGs:=fun vs σ H Q=>∃ v r,vs=v :: r∧t v σ H fun σ' H'=>u r σ' H' Q
theorem zaqi:PGs X [] gNil:=by
 intro pins s σ H vs us Q I r h
 obtain ⟨e,h⟩:=h
 subst e
 cases r
 exact assignInOrder_nil ⟨σ,H,I,h⟩
theorem zan6 {e:Expr}{es:List Expr}{t:TG}{u:TGs} (h1:PG X e t) (h2:PGs X es u)
  (hs:(assignEach (e :: es) X.env).map (·.2)=assign e X.env :: (assignEach es X.env).map (·.2):=by rfl):PGs X (e :: es) (gCons t u):=by
 intro pins s σ H vs us Q I r h
 obtain ⟨v,vr,e1,h⟩:=h
 subst e1
 cases r with
 | cons r rr =>
  rw [hs]
  refine assignInOrder_cons (thn (h1 pins s σ H _ _ _ I r h) fun _ s1 ⟨σ1,H1,I1,q1⟩=>?_)
  exact h2 pins s1 σ1 H1 _ _ Q I1 rr q1
def gTup (K:PySem.W.Frag) (n:Nat) (t:TGs):TG:=fun v σ H Q=>∃ a xs,v=.ref a∧SqT K H a xs∧xs.length=n∧t xs σ H Q
theorem zapi {es:List Expr}{k:Nat}{t:TGs}{n:Nat} (hc:X.calm=true) (h:PGs X es t)
  (hn:(assignEach es X.env).length=n:=by rfl) (hst:(assignEach es X.env).findIdx? (·.1)=none:=by rfl):PG X (.Tuple es k pos) (gTup X.K n t):=by
 intro pins s σ H v u Q I r hw
 obtain ⟨a,xs,e1,hq,hl,hw⟩:=hw
 subst e1
 cases r
 obtain ⟨its,rv,ht,hz⟩:=I.tuple hq
 refine assign_Tuple_tuple (I.ok.hd hc) ht (by simp [hn,← hl,rv.length]) hst fun h' hx=>?_
 have I1:Inv X pins σ H { s with heap:=h' }:=I.kept (t':=s.toks) fun b o e=>hx b o (Nat.ne_of_lt (Heap.lt_size e)) e
 exact h pins _ σ H xs _ Q I1 (by simpa using rv) hw
def gSub (to ti:TE) (t:TSet):TG:=fun v σ H Q=>to σ H fun o H1=>ti σ H1 fun i H2=>t o i v H2 fun H3=>Q σ H3
theorem zas4 {o i:Expr}{to ti:TE}{t:TSet} (ho:PE X o to) (hi:PE X i ti) (hs:PSet X t)
  (ha:∀ v,assign (.Subscript o i pos) X.env v=(do
   let ov ← holding [v] (eval o X.env)
   let iv ← holding [v,ov] (eval i X.env)
   standAt pos
   holding [v,ov,iv] (setItem ov iv v)
   release [v,ov,iv] []):=by intro _; rfl):PG X (.Subscript o i pos) (gSub to ti t):=by
 intro pins s σ H v u Q I r h
 rw [ha]
 refine wpAny_bind (wpAny_holding (thn (ho pins s σ H _ I h) fun ov s1 ⟨x,H1,I1,r1,q1⟩=>?_))
 refine wpAny_bind (wpAny_holding (thn (hi pins s1 σ H1 _ I1 q1) fun iv s2 ⟨y,H2,I2,r2,q2⟩=>?_))
 refine wpAny_bind (wpAny_standAt (wpAny_bind (wpAny_holding (thn (hs pins s2 σ H2 x y v ov iv u _ I2 r1 r2 r q2) fun _ s3 ⟨H3,I3,q3⟩=>?_))))
 exact wpAny_release ⟨σ,H3,I3,q3⟩
def tAsg (te:TE) (g:TG):TS:=fun D σ H=>te σ H fun x H1=>g x σ H1 D.nx
theorem zas5 {tg e:Expr}{te:TE}{g:TG} (he:PE X e te) (hg:PG X tg g) (hs:swapsWithSole [tg] e pos.line X.env=pure false:=by rfl) (hw:swappedStores [tg] e X.env=pure none:=by rfl)
  (h1:(assignEach [tg] X.env).map (·.2)=[assign tg X.env]:=by rfl):PS X (.Assign [tg] e pos) (tAsg te g):=by
 intro pins s σ H D I h
 refine wpAny_Assign_stores (thn (he pins s σ H _ I h) fun v s1 ⟨x,H1,I1,r1,q1⟩=>?_) hs hw
 rw [h1]
 exact thn (hg pins s1 σ H1 x v _ I1 r1 q1) fun _ s2 q=>q
theorem zas6 {i:Nat}{x:Str}{e:Expr}{te:TE}{pos':Pos} (hN:X.N.Nodup) (hi:X.N[i]?=some x) (hx:Loc X.env.scope x) (he:PE X e te) (hs:swapsWith e (some (.Name x pos')) pos.line X.env=pure false:=by rfl) (hf:X.fn x=true∨X.env.scope.names.lookup x=some .local:=by first | exact .inl rfl | exact .inr rfl | assumption) :
  PS X (.Assign [.Name x pos'] e pos) (tAsg te (gName i)):=by
 intro pins s σ H D I h
 refine wpAny_Assign_Name (thn (he pins s σ H _ I h) fun v s1 ⟨y,H1,I1,r1,q1⟩=>?_) hs
 exact zajv I1 hN hi hx r1 (fun s2 I2=>⟨_,H1,I2,q1⟩) hf
def tWhile (c:TT) (tb:TS):TS:=fun D σ H=>∃ W:Nat→St→Hp→Prop,(∃ m,W m σ H)∧∀ m σ H,W m σ H →
 c σ H fun b H1=>if b=true then ∃ N:St→Hp→Prop,(∀ σ' H',N σ' H'→∃ m',m' < m∧W m' σ' H')∧tb { D with nx:=N,ct:=N,bk:=D.nx } σ H1 else D.nx σ H1
theorem zan7 {c:Expr}{body:List Stmt}{tc:TT}{tb:TS} (hp:PassesOwn (model X.prog X.w) X.A X.env X.xe) (hc:PT X c tc) (hb:PSs X body tb):PS X (.While c body [] pos) (tWhile tc tb):=by
 intro pins s σ H D I h
 obtain ⟨W,⟨m0,w0⟩,turn⟩:=h
 refine wpAny_While (codeAny_whileLoop (fun n s'=>∃ σ' H',Inv X pins σ' H' s'∧W n σ' H') ?_ m0 ⟨σ,H,I,w0⟩)
 rintro n s1 ⟨σ1,H1,I1,w1⟩
 refine wpAny_passesOwn hp (thn (hc pins s1 σ1 H1 _ I1 (turn n σ1 H1 w1)) fun b s2 ⟨H2,I2,q2⟩=>?_)
 cases b with
 | true =>
  obtain ⟨N,hN,q2⟩:=q2
  rw [if_pos rfl]
  refine wpAny_passesOwn hp (thn (hb pins s2 σ1 H2 _ I2 q2) fun f s3 q3=>?_)
  cases f with
  | next =>
   obtain ⟨σ3,H3,I3,n3⟩:=q3
   obtain ⟨m',hm,w3⟩:=hN σ3 H3 n3
   exact ⟨m',hm,σ3,H3,I3,w3⟩
  | cont =>
   obtain ⟨σ3,H3,I3,n3⟩:=q3
   obtain ⟨m',hm,w3⟩:=hN σ3 H3 n3
   exact ⟨m',hm,σ3,H3,I3,w3⟩
  | brk=>exact q3
  | ret v=>exact q3
 | false =>
  rw [if_neg Bool.false_ne_true]
  exact wpAny_execs_nil ⟨σ1,H2,I2,q2⟩
end
structure It where
 go:Nat→Hp→Prop
 yld:Nat→Hp→V→Hp→Prop
 stop:Nat→Hp→Prop
def FpOk (X:Cx) (pins:List (Addr × Obj)) (H:Hp) (b:Addr):Prop :=
 H b=none∧b≠X.env.locals∧b ∉ X.fs∧(b∈X.ex∨X.s₀.heap.objs.size≤b)∧(∀ x c,X.env.cells.lookup x=some c→c≠b)∧∀ p∈X.pn++pins,p.1≠b
theorem Inv.fpOk {X:Cx}{pins:List (Addr × Obj)}{σ:St}{H H':Hp}{s:Shared}{b:Addr} (I:Inv X pins σ H s) (hb:s.heap.objs.size≤b) (hn:H' b=none):FpOk X pins H' b:=by
 refine ⟨hn,Nat.ne_of_gt (Nat.lt_of_lt_of_le I.lt hb),I.nofs hb,.inr (Nat.le_trans I.sz hb),fun x c e z=>?_,fun p hp z=>?_⟩
 ·obtain ⟨v,q⟩:=I.cell x c e
  exact absurd (Nat.lt_of_lt_of_le q.lt (by rw [z]; exact hb)) (Nat.lt_irrefl _)
 ·exact absurd (Nat.lt_of_lt_of_le (Heap.lt_size (I.pin p hp).1) (by rw [z]; exact hb)) (Nat.lt_irrefl _)
structure Turn (P:Program) (w:World) (K:PySem.W.Frag) (tg:Expr) (J:It) (fp:List Addr) (it:Addr) (tn:Nat→Heap→Prop):Prop where
 mem:it∈fp
 obj:∀ i h,tn i h→∀ b∈fp,∃ o,h.get? b=some o∧∀ v,o.data≠.cell v
 keep:∀ i h h',tn i h→(∀ b∈fp,∀ o,h.get? b=some o→h'.get? b=some o)→tn i h'
 item:∀ (X:Cx),X.prog=P→X.w=w→X.K=K→X.calm=true→∀ (i:Nat) (pins:List (Addr × Obj)) (s:Shared) (σ:St) (H:Hp) (E:Value→Shared→Prop),Inv X pins σ H s→(∀ b∈fp,FpOk X pins H b)→tn i s.heap→J.go i H →
  wpAny (model P w) X.A (pyNext (.ref it)) (fun r s1=>∃ u,r=some u ∧
   wpAny (model P w) X.A (letOwnedTupleGo tg (.ref it) u) (fun _ s2=>∃ x H',Inv X pins σ H' s2∧RelV x u∧J.yld i H x H'∧tn (i + 1) s2.heap∧∀ b∈fp,H' b=none) E s1) E s
 done:∀ (X:Cx),X.prog=P→X.w=w→X.K=K→X.calm=true→∀ (i:Nat) (pins:List (Addr × Obj)) (s:Shared) (σ:St) (H:Hp) (E:Value→Shared→Prop),Inv X pins σ H s→(∀ b∈fp,FpOk X pins H b)→tn i s.heap→J.stop i H →
  wpAny (model P w) X.A (pyNext (.ref it)) (fun r s1=>r=none∧Inv X pins σ H s1) E s
 self:∀ (A:Around) (i:Nat) (s:Shared) (Q:Value→Shared→Prop) (E:Value→Shared→Prop),tn i s.heap→Q (.ref it) s→wpAny (model P w) A (pyIter (.ref it)) Q E s
abbrev TI:=St→Hp→(It→Hp→Prop)→Prop
def PIE (X:Cx) (pins:List (Addr × Obj)) (σ:St) (tg:Expr) (R:It→Hp→Prop) (itv:Value) (s2:Shared):Prop :=
 ∃ (it:Addr) (fp:List Addr) (tn:Nat→Heap→Prop) (J:It) (H':Hp),itv=.ref it∧Inv X pins σ H' s2∧Turn X.prog X.w X.K tg J fp it tn∧tn 0 s2.heap∧(∀ b∈fp,FpOk X pins H' b)∧R J H'
def PI (X:Cx) (tg iter:Expr) (wi:TI):Prop :=
 ∀ (pins:List (Addr × Obj)) (s:Shared) (σ:St) (H:Hp) (R:It→Hp→Prop),Inv X pins σ H s→wi σ H R →
  wpAny (model X.prog X.w) X.A (eval iter X.env) (fun v s1=>wpAny (model X.prog X.w) X.A (pyIter v) (PIE X pins σ tg R) X.xe s1) X.xe s
theorem zaqj {M:Model}{A:Around}{E:Value→Shared→Prop}{s:Shared}{tg:Expr}{it:Addr}{u:Value}{o:Obj}{n:String}{vs:Array Value}{Q:Unit→Shared→Prop} (ho:s.heap.get? it=some o) (hc:o.cls=.type n) (hd:o.data=.fields vs)
  (hn:["enumerate", "zip", "dict_itemiterator", "dict_reverseitemiterator", "odict_iterator", "itertools.zip_longest", "itertools.pairwise"].contains n=false) (hQ:Q () s):wpAny M A (letOwnedTupleGo tg (.ref it) u) Q E s:=by
 unfold letOwnedTupleGo
 cases tg <;> first
  | exact wpAny_pure hQ
  | (cases u <;> first
    | exact wpAny_pure hQ
    | (refine wpAny_bind (wpAny_load ho ?_)
       rw [hc,hd]
       show wpAny M A (if (["enumerate", "zip", "dict_itemiterator", "dict_reverseitemiterator", "odict_iterator", "itertools.zip_longest", "itertools.pairwise"].contains n && vs[0]? == some (rawInt _))=true then _ else _) Q E s
       rw [if_neg (by intro h; rw [hn,Bool.false_and] at h; cases h)]
       exact wpAny_pure hQ))
def Itl (K:PySem.W.Frag) (a:Addr):It :=
 ⟨fun i H=>∃ xs x,SqL K H a xs∧xs[i]?=some x,fun i H x H'=>H'=H∧∀ xs,SqL K H a xs→xs[i]?=some x,fun i H=>∃ xs,SqL K H a xs∧xs.length≤i⟩
def Itt (K:PySem.W.Frag) (a:Addr):It :=
 ⟨fun i H=>∃ xs x,SqT K H a xs∧xs[i]?=some x,fun i H x H'=>H'=H∧∀ xs,SqT K H a xs→xs[i]?=some x,fun i H=>∃ xs,SqT K H a xs∧xs.length≤i⟩
def Itr (lo:Int) (n:Nat):It:=⟨fun i _=>i < n,fun i H x H'=>H'=H∧x=.int (lo + i),fun i _=>n≤i⟩
theorem zale {P:Program}{w:World}{K:PySem.W.Frag}{tg:Expr} (a it:Addr):Turn P w K tg (Itl K a) [it] it (fun i h=>h.IsListIter it a i) where
 mem:=by simp
 obj:=fun i h st b hb=>by
  have e:b=it:=by simpa using hb
  subst e
  obtain ⟨o,e,c,d⟩:=st
  exact ⟨o,e,fun v z=>by rw [d] at z; cases z⟩
 keep:=fun i h h' st k=>st.at fun o e=>k it (by simp) o e
 item:=by
  intro X hP hw hK hc i pins s σ H E I hf st hg
  subst hP hw hK
  obtain ⟨xs,x,hq,hx⟩:=hg
  obtain ⟨its,rv,p,hz⟩:=I.list hq
  obtain ⟨u,hu,ru⟩:=rv.get hx
  obtain ⟨f0,f1,f2,f3,f4,f5⟩:=hf it (by simp)
  refine wpAny_pyNext_list_item st p.isList (x:=u) (by simpa using hu) fun h' st' sb=>?_
  have I1:Inv X pins σ H { s with heap:=h' }:=I.turned (t':=s.toks) (fun b o hb e=>(sb.2 b hb).trans e) f0 f1 f3 f4 f5
  obtain ⟨o,e,c,d⟩:=id st'
  exact ⟨u,rfl,zaqj (s:={ s with heap:=h' }) e c d (by decide) ⟨x,H,I1,ru,⟨rfl,fun ys hy=>by rw [I.list_inj hy hq]; exact hx⟩,st',fun b hb=>(hf b hb).1⟩⟩
 done:=by
  intro X hP hw hK hc i pins s σ H E I hf st hg
  subst hP hw hK
  obtain ⟨xs,hq,hx⟩:=hg
  obtain ⟨its,rv,p,hz⟩:=I.list hq
  obtain ⟨f0,f1,f2,f3,f4,f5⟩:=hf it (by simp)
  have hl:=rv.length
  exact wpAny_pyNext_list_end (I.ok.hd hc) st p.isList (by simp; omega) fun h' eb=>⟨rfl,I.turned (t':=s.toks) (fun b o hb e=>eb b o hb e) f0 f1 f3 f4 f5⟩
 self:=fun _ _ _ _ _ st h=>wpAny_pyIter_listiter st h
theorem zakl {P:Program}{w:World}{K:PySem.W.Frag}{tg:Expr} (a it:Addr):Turn P w K tg (Itt K a) [it] it (fun i h=>h.IsTupleIter it a i) where
 mem:=by simp
 obj:=fun i h st b hb=>by
  have e:b=it:=by simpa using hb
  subst e
  obtain ⟨o,e,c,d⟩:=st
  exact ⟨o,e,fun v z=>by rw [d] at z; cases z⟩
 keep:=fun i h h' st k=>st.at fun o e=>k it (by simp) o e
 item:=by
  intro X hP hw hK hc i pins s σ H E I hf st hg
  subst hP hw hK
  obtain ⟨xs,x,hq,hx⟩:=hg
  obtain ⟨its,rv,p,hz⟩:=I.tuple hq
  obtain ⟨u,hu,ru⟩:=rv.get hx
  obtain ⟨f0,f1,f2,f3,f4,f5⟩:=hf it (by simp)
  refine wpAny_pyNext_tuple_item st (show s.heap.IsTuple a its.toArray from p) (x:=u) (by simpa using hu) fun h' st' sb=>?_
  have I1:Inv X pins σ H { s with heap:=h' }:=I.turned (t':=s.toks) (fun b o hb e=>(sb.2 b hb).trans e) f0 f1 f3 f4 f5
  obtain ⟨o,e,c,d⟩:=id st'
  exact ⟨u,rfl,zaqj (s:={ s with heap:=h' }) e c d (by decide) ⟨x,H,I1,ru,⟨rfl,fun ys hy=>by rw [I.tuple_inj hy hq]; exact hx⟩,st',fun b hb=>(hf b hb).1⟩⟩
 done:=by
  intro X hP hw hK hc i pins s σ H E I hf st hg
  subst hP hw hK
  obtain ⟨xs,hq,hx⟩:=hg
  obtain ⟨its,rv,p,hz⟩:=I.tuple hq
  obtain ⟨f0,f1,f2,f3,f4,f5⟩:=hf it (by simp)
  have hl:=rv.length
  exact wpAny_pyNext_tuple_end (I.ok.hd hc) st (show s.heap.IsTuple a its.toArray from p) (by simp; omega) fun h' eb=>⟨rfl,I.turned (t':=s.toks) (fun b o hb e=>eb b o hb e) f0 f1 f3 f4 f5⟩
 self:=fun _ _ _ _ _ st h=>wpAny_pyIter_tupleiter st h
theorem zakm {P:Program}{w:World}{K:PySem.W.Frag}{tg:Expr} (it:Addr) (lo:Int) (n:Nat):Turn P w K tg (Itr lo n) [it] it (fun i h=>IsRangeIter h it (lo + (i:Nat) * 1) ((n:Int) - (i:Nat)) 1) where
 mem:=by simp
 obj:=fun i h st b hb=>by
  have e:b=it:=by simpa using hb
  subst e
  exact ⟨_,st,fun v z=>by
   have z':Data.fields _=Data.cell v:=z
   cases z'⟩
 keep:=fun i h h' st k=>k it (by simp) _ st
 item:=by
  intro X hP hw hK hc i pins s σ H E I hf st hg
  subst hP hw hK
  obtain ⟨f0,f1,f2,f3,f4,f5⟩:=hf it (by simp)
  have W:=Walks.range (prog:=X.prog) (w:=X.w) (I.ok.hd hc) it lo 1 n
  refine W.item i s _ _ hg st fun v h' tk hv st' kk=>?_
  obtain ⟨t,rfl⟩:=hv
  have I1:Inv X pins σ H { s with heap:=h',toks:=tk }:=I.turned (fun b o hb e=>kk b o (by simpa using hb) e) f0 f1 f3 f4 f5
  refine ⟨_,rfl,zaqj (s:={ s with heap:=h',toks:=tk }) (n := "range_iterator") st' rfl rfl (by decide) ⟨.int (lo + i),H,I1,⟨t,?_⟩,⟨rfl,rfl⟩,st',fun b hb=>(hf b hb).1⟩⟩
  rw [Int.mul_one]
 done:=by
  intro X hP hw hK hc i pins s σ H E I hf st hg
  subst hP hw hK
  obtain ⟨f0,f1,f2,f3,f4,f5⟩:=hf it (by simp)
  exact wpAny_pyNext_range_end (I.ok.hd hc) st (by have:n≤i:=hg; omega) fun h' eb=>⟨rfl,I.turned (t':=s.toks) (fun b o hb e=>eb b o hb e) f0 f1 f3 f4 f5⟩
 self:=fun _ _ _ _ _ st h=>wpAny_pyIter_rangeiter st h
section
variable {X:Cx}{tg:Expr}
def iList (K:PySem.W.Frag) (tl:TE):TI:=fun σ H R=>tl σ H fun x H1=>∃ a,x=.ref a∧(∃ xs,SqL K H1 a xs)∧R (Itl K a) H1
def iTup (K:PySem.W.Frag) (tl:TE):TI:=fun σ H R=>tl σ H fun x H1=>∃ a,x=.ref a∧(∃ xs,SqT K H1 a xs)∧R (Itt K a) H1
theorem zaqk {l:Expr}{tl:TE} (hl:PE X l tl):PI X tg l (iList X.K tl):=by
 intro pins s σ H R I h
 refine thn (hl pins s σ H _ I h) fun v s1 ⟨x,H1,I1,r1,q1⟩=>?_
 obtain ⟨a,e,⟨xs,hq⟩,q⟩:=q1
 subst e
 cases r1
 obtain ⟨its,rv,p,hz⟩:=I1.list hq
 refine wpAny_pyIter_list p.isList ?_
 refine ⟨s1.heap.objs.size,[s1.heap.objs.size],_,_,H1,rfl,I1.kept (t':=s1.toks) fun b o e=>Heap.get?_push_of_some _ e,zale a _,⟨_,Heap.get?_push_size _ rfl,rfl,rfl⟩,fun b hb=>?_,q⟩
 have e:b=s1.heap.objs.size:=by simpa using hb
 subst e
 exact I1.fpOk (Nat.le_refl _) (I1.hok.fresh (Nat.le_refl _))
theorem zas7 {l:Expr}{tl:TE} (hl:PE X l tl):PI X tg l (iTup X.K tl):=by
 intro pins s σ H R I h
 refine thn (hl pins s σ H _ I h) fun v s1 ⟨x,H1,I1,r1,q1⟩=>?_
 obtain ⟨a,e,⟨xs,hq⟩,q⟩:=q1
 subst e
 cases r1
 obtain ⟨its,rv,p,hz⟩:=I1.tuple hq
 refine wpAny_pyIter_tuple (show s1.heap.IsTuple a its.toArray from p) ?_
 refine ⟨s1.heap.objs.size,[s1.heap.objs.size],_,_,H1,rfl,I1.kept (t':=s1.toks) fun b o e=>Heap.get?_push_of_some _ e,zakl a _,⟨_,Heap.get?_push_size _ rfl,rfl,rfl⟩,fun b hb=>?_,q⟩
 have e:b=s1.heap.objs.size:=by simpa using hb
 subst e
 exact I1.fpOk (Nat.le_refl _) (I1.hok.fresh (Nat.le_refl _))
theorem zajx {pins:List (Addr × Obj)}{σ:St}{H:Hp}{s:Shared}{R:It→Hp→Prop}{E:Value→Shared→Prop}{lo hi:Int}{t u v:Tok}{tk:Nat} (I:Inv X pins σ H s) (h1:-(2 ^ 62)≤lo) (h2:lo < 2 ^ 62) (h3:-(2 ^ 62)≤hi) (h4:hi < 2 ^ 62)
  (q:R (Itr lo (hi - lo).toNat) H):wpAny (model X.prog X.w) X.A (pyIter (.ref s.heap.objs.size)) (PIE X pins σ tg R) E { s with heap:=s.heap.push { cls:=.type "range",data:=.fields #[.int lo t,.int hi u,.int 1 v] },toks:=tk }:=by
 refine wpAny_pyIter_range (IsRange.new ..) (small_one h1 h2 h3 h4) ?_
 have I1:Inv X pins σ H { s with heap:=s.heap.push { cls:=.type "range",data:=.fields #[.int lo t,.int hi u,.int 1 v] },toks:=tk }:=I.kept fun b o e=>Heap.get?_push_of_some _ e
 refine ⟨(s.heap.push { cls:=.type "range",data:=.fields #[.int lo t,.int hi u,.int 1 v] }).objs.size,[(s.heap.push { cls:=.type "range",data:=.fields #[.int lo t,.int hi u,.int 1 v] }).objs.size],_,_,H,rfl,
  I1.kept (t':=tk) fun b o e=>Heap.get?_push_of_some _ e,zakm _ lo (hi - lo).toNat,?_,fun b hb=>?_,q⟩
 ·have e1:lo + ((0:Nat):Int) * 1=lo:=by simp
  have e2:(((hi - lo).toNat:Nat):Int) - ((0:Nat):Int)=Builtin.Range.rangeSize lo hi 1:=by rw [rangeSize_one]; split <;> omega
  show IsRangeIter _ _ (lo + ((0:Nat):Int) * 1) ((((hi - lo).toNat:Nat):Int) - ((0:Nat):Int)) 1
  rw [e1,e2]
  exact Heap.get?_push_size _ rfl
 ·have e:b=(s.heap.push { cls:=.type "range",data:=.fields #[.int lo t,.int hi u,.int 1 v] }).objs.size:=by simpa using hb
  subst e
  exact I1.fpOk (Nat.le_refl _) (I1.hok.fresh (Nat.le_refl _))
def iRng1 (ta:TA):TI:=fun σ H R=>ta σ H fun vs H1=>∃ j:Int,vs=[.int j]∧-(2 ^ 62)≤j∧j < 2 ^ 62∧R (Itr 0 j.toNat) H1
def iRng2 (ta:TA):TI:=fun σ H R=>ta σ H fun vs H1=>∃ i j:Int,vs=[.int i,.int j]∧(-(2 ^ 62)≤i∧i < 2 ^ 62∧-(2 ^ 62)≤j∧j < 2 ^ 62)∧R (Itr i (j - i).toNat) H1
theorem zalf {a:Expr}{ta:TA}{p pos:Pos} (hg:Gl X "range") (hm:X.mg "range" = none) (ha:PA X [a] ta) (hs:starEach [a] X.env=[(false,eval a X.env)]:=by rfl):PI X tg (.Call (.Name "range" p) [a] [] pos) (iRng1 ta):=by
 intro pins s σ H R I h
 refine Call_ (zafo I hg hm boot_range (PyProof.Rows.callWith_type1 (thn (ha pos pins s σ H _ I h) fun us s1 ⟨vs,H1,I1,r1,q1⟩=>?_) hs rfl))
 obtain ⟨j,e,q1,q2,q⟩:=q1
 subst e
 cases r1 with
 | cons r rr =>
  cases rr
  obtain ⟨t,rfl⟩:=r
  exact call_range_1 (zajx I1 (by omega) (by omega) q1 q2 (by simpa using q))
theorem zalg {a b:Expr}{ta:TA}{p pos:Pos} (hg:Gl X "range") (hm:X.mg "range" = none) (ha:PA X [a,b] ta) (hs:starEach [a,b] X.env=[(false,eval a X.env),(false,eval b X.env)]:=by rfl) (hs2:starEach [b] X.env=[(false,eval b X.env)]:=by rfl) :
  PI X tg (.Call (.Name "range" p) [a,b] [] pos) (iRng2 ta):=by
 intro pins s σ H R I h
 refine Call_ (zafo I hg hm boot_range (PyProof.Rows.callWith_type1 (thn (ha pos pins s σ H _ I h) fun us s1 ⟨vs,H1,I1,r1,q1⟩=>?_) (by rw [hs,hs2]) (by rw [hs2]; rfl)))
 obtain ⟨i,j,e,⟨q1,q2,q3,q4⟩,q⟩:=q1
 subst e
 cases r1 with
 | cons r rr =>
  cases rr with
  | cons r' rr =>
   cases rr
   obtain ⟨t,rfl⟩:=r
   obtain ⟨t',rfl⟩:=r'
   exact call_range_2 (zajx I1 q1 q2 q3 q4 q)
def tFor (wi:TI) (g:TG) (tb:TS):TS:=fun D σ H=>wi σ H fun J H1=>∃ W:Nat→Nat→St→Hp→Prop,(∃ m,W 0 m σ H1)∧∀ i m σ H,W i m σ H →
 (J.stop i H∧D.nx σ H)∨(J.go i H∧∃ N:St→Hp→Prop,(∀ σ' H',N σ' H'→∃ m',m' < m∧W (i + 1) m' σ' H')∧∀ x H',J.yld i H x H'→g x σ H' fun σ2 H2=>tb { D with nx:=N,ct:=N,bk:=D.nx } σ2 H2)
def pinsAt (fp:List Addr) (h:Heap):List (Addr × Obj):=fp.filterMap fun b=>(h.get? b).map fun o=>(b,o)
theorem zad2 {fp:List Addr}{h:Heap}{b:Addr}{o:Obj} (hb:b∈fp) (e:h.get? b=some o):(b,o)∈pinsAt fp h:=List.mem_filterMap.mpr ⟨b,hb,by rw [e]; rfl⟩
theorem zahm {fp:List Addr}{h:Heap}{p:Addr × Obj} (hp:p∈pinsAt fp h):p.1∈fp∧h.get? p.1=some p.2:=by
 obtain ⟨b,hb,e⟩:=List.mem_filterMap.mp hp
 cases q:h.get? b with
 | none=>rw [q] at e; cases e
 | some o =>
  rw [q] at e
  have e':(b,o)=p:=Option.some.inj e
  subst e'
  exact ⟨hb,q⟩
theorem Inv.pinned {pins:List (Addr × Obj)}{σ:St}{H:Hp}{s:Shared}{fp:List Addr} (I:Inv X pins σ H s) (hf:∀ b∈fp,FpOk X pins H b) (ho:∀ b∈fp,∃ o,s.heap.get? b=some o∧∀ v,o.data≠.cell v):Inv X (pins++pinsAt fp s.heap) σ H s :=
 I.pins_of fun p hp=>(List.mem_append.mp hp).elim (fun z=>I.pin p (List.mem_append_right _ z)) fun z=>by
  obtain ⟨hb,e⟩:=zahm z
  obtain ⟨f0,f1,f2,_⟩:=hf p.1 hb
  obtain ⟨o,e',d⟩:=ho p.1 hb
  rw [e] at e'; cases e'
  exact ⟨e,f0,f1,f2,d⟩
theorem Inv.unpinned {pins pl:List (Addr × Obj)}{σ:St}{H:Hp}{s:Shared} (I:Inv X (pins++pl) σ H s):Inv X pins σ H s:=I.pins_of fun p hp=>I.pin p (List.mem_append_right _ (List.mem_append_left _ hp))
theorem zas8 {iter:Expr}{body:List Stmt}{wi:TI}{g:TG}{tb:TS}{pos:Pos} (hp:PassesOwn (model X.prog X.w) X.A X.env X.xe) (hc:X.calm=true) (hi:PI X tg iter wi) (hg:PG X tg g) (hb:PSs X body tb)
  (hs:∀ x,foldedSetIterable iter X.env x=pure x:=by intro _; rfl):PS X (.For tg iter body [] pos) (tFor wi g tb):=by
 intro pins s σ H D I h
 refine wpAny_For (thn (hi pins s σ H _ I h) fun v s1 h1=>thn h1 fun itv s2 h2=>?_) hs
 obtain ⟨it,fp,tn,J,H2,e,I2,T,st2,f2,W,⟨m0,w0⟩,turn⟩:=h2
 subst e
 have stat:∀ {H':Hp},(∀ b∈fp,H' b=none)→∀ b∈fp,FpOk X pins H' b:=fun hn b hb=>⟨hn b hb,(f2 b hb).2⟩
 refine codeAny_forLoop_any (fun n s'=>∃ i σ' H',Inv X pins σ' H' s'∧tn i s'.heap∧(∀ b∈fp,H' b=none)∧W i n σ' H') ?_ m0 ⟨0,σ,H2,I2,st2,fun b hb=>(f2 b hb).1,w0⟩
 rintro n s3 ⟨i,σ3,H3,I3,st3,fr3,w3⟩
 rcases turn i n σ3 H3 w3 with ⟨stop,qn⟩ | ⟨go,N,hN,step⟩
 ·refine wpAny_passesOwn hp (thn (T.done X rfl rfl rfl hc i pins s3 σ3 H3 X.xe I3 (stat fr3) st3 stop) fun r s4 ⟨hr,I4⟩=>?_)
  subst hr
  exact wpAny_execs_nil ⟨σ3,H3,I4,qn⟩
 ·refine wpAny_passesOwn hp (thn (T.item X rfl rfl rfl hc i pins s3 σ3 H3 X.xe I3 (stat fr3) st3 go) fun r s4 ⟨u,hr,h4⟩=>?_)
  subst hr
  refine wpAny_passesOwn hp (thn h4 fun _ s5 ⟨x,H5,I5,r5,y5,st5,fr5⟩=>?_)
  have I5':=I5.pinned (stat fr5) (T.obj _ _ st5)
  refine wpAny_passesOwn hp (thn (hg _ s5 σ3 H5 x u _ I5' r5 (step x H5 y5)) fun _ s6 ⟨σ6,H6,I6,q6⟩=>?_)
  refine wpAny_passesOwn hp (thn (hb _ s6 σ6 H6 _ I6 q6) fun f s7 q7=>?_)
  have again:∀ {σ7:St}{H7:Hp},Inv X (pins++pinsAt fp s5.heap) σ7 H7 s7→N σ7 H7→∃ m,m < n∧∃ i σ' H',Inv X pins σ' H' s7∧tn i s7.heap∧(∀ b∈fp,H' b=none)∧W i m σ' H':=fun {σ7 H7} I7 n7=>by
   obtain ⟨m',hm,w7⟩:=hN σ7 H7 n7
   refine ⟨m',hm,i + 1,σ7,H7,I7.unpinned,T.keep _ _ _ st5 fun b hb o e=>(I7.pin (b,o) (List.mem_append_right _ (List.mem_append_right _ (zad2 hb e)))).1,fun b hb=>?_,w7⟩
   obtain ⟨o,e,d⟩:=T.obj _ _ st5 b hb
   exact (I7.pin (b,o) (List.mem_append_right _ (List.mem_append_right _ (zad2 hb e)))).2.1
  cases f with
  | next=>obtain ⟨σ7,H7,I7,n7⟩:=q7; exact again I7 n7
  | cont=>obtain ⟨σ7,H7,I7,n7⟩:=q7; exact again I7 n7
  | brk=>obtain ⟨σ7,H7,I7,q7⟩:=q7; exact ⟨σ7,H7,I7.unpinned,q7⟩
  | ret v=>obtain ⟨x7,σ7,H7,I7,r7,q7⟩:=q7; exact ⟨x7,σ7,H7,I7.unpinned,r7,q7⟩
end
theorem zan8 {K:PySem.W.Frag}{a:Addr}{xs:List V}{g:TG}{tb:TS}{D:Ends}{σ:St}{H:Hp} (Pv:Nat→St→Hp→Prop) (h0:Pv 0 σ H) (hl:∀ i σ H,i≤xs.length→Pv i σ H→SqL K H a xs)
  (hs:∀ i x σ H,xs[i]?=some x→Pv i σ H→g x σ H fun σ2 H2=>tb { D with nx:=Pv (i + 1),ct:=Pv (i + 1),bk:=D.nx } σ2 H2) (hd:∀ σ H,Pv xs.length σ H→D.nx σ H) :
  ∃ W:Nat→Nat→St→Hp→Prop,(∃ m,W 0 m σ H)∧∀ i m σ H,W i m σ H →
   ((Itl K a).stop i H∧D.nx σ H)∨((Itl K a).go i H∧∃ N:St→Hp→Prop,(∀ σ' H',N σ' H'→∃ m',m' < m∧W (i + 1) m' σ' H')∧∀ x H',(Itl K a).yld i H x H'→g x σ H' fun σ2 H2=>tb { D with nx:=N,ct:=N,bk:=D.nx } σ2 H2):=by
 refine ⟨fun i m σ H=>m=xs.length - i∧i≤xs.length∧Pv i σ H,⟨xs.length,by simp,Nat.zero_le _,h0⟩,?_⟩
 rintro i m σ H ⟨rfl,hi,p⟩
 have q:=hl i σ H hi p
 by_cases hlt:i < xs.length
 ·refine .inr ⟨⟨xs,xs[i],q,by simp [hlt]⟩,Pv (i + 1),fun σ' H' p'=>⟨xs.length - (i + 1),by omega,rfl,hlt,p'⟩,fun x H' y=>?_⟩
  obtain ⟨e,y⟩:=y
  subst e
  exact hs i x σ _ (y xs q) p
 ·have e:i=xs.length:=by omega
  subst e
  exact .inl ⟨⟨xs,q,Nat.le_refl _⟩,hd σ H p⟩
theorem zaql {K:PySem.W.Frag}{a:Addr}{xs:List V}{g:TG}{tb:TS}{D:Ends}{σ:St}{H:Hp} (Pv:Nat→St→Hp→Prop) (h0:Pv 0 σ H) (hl:∀ i σ H,i≤xs.length→Pv i σ H→SqT K H a xs)
  (hs:∀ i x σ H,xs[i]?=some x→Pv i σ H→g x σ H fun σ2 H2=>tb { D with nx:=Pv (i + 1),ct:=Pv (i + 1),bk:=D.nx } σ2 H2) (hd:∀ σ H,Pv xs.length σ H→D.nx σ H) :
  ∃ W:Nat→Nat→St→Hp→Prop,(∃ m,W 0 m σ H)∧∀ i m σ H,W i m σ H →
   ((Itt K a).stop i H∧D.nx σ H)∨((Itt K a).go i H∧∃ N:St→Hp→Prop,(∀ σ' H',N σ' H'→∃ m',m' < m∧W (i + 1) m' σ' H')∧∀ x H',(Itt K a).yld i H x H'→g x σ H' fun σ2 H2=>tb { D with nx:=N,ct:=N,bk:=D.nx } σ2 H2):=by
 refine ⟨fun i m σ H=>m=xs.length - i∧i≤xs.length∧Pv i σ H,⟨xs.length,by simp,Nat.zero_le _,h0⟩,?_⟩
 rintro i m σ H ⟨rfl,hi,p⟩
 have q:=hl i σ H hi p
 by_cases hlt:i < xs.length
 ·refine .inr ⟨⟨xs,xs[i],q,by simp [hlt]⟩,Pv (i + 1),fun σ' H' p'=>⟨xs.length - (i + 1),by omega,rfl,hlt,p'⟩,fun x H' y=>?_⟩
  obtain ⟨e,y⟩:=y
  subst e
  exact hs i x σ _ (y xs q) p
 ·have e:i=xs.length:=by omega
  subst e
  exact .inl ⟨⟨xs,q,Nat.le_refl _⟩,hd σ H p⟩
theorem zalh {lo:Int}{n:Nat}{g:TG}{tb:TS}{D:Ends}{σ:St}{H:Hp} (Pv:Nat→St→Hp→Prop) (h0:Pv 0 σ H)
  (hs:∀ i σ H,i < n→Pv i σ H→g (.int (lo + i)) σ H fun σ2 H2=>tb { D with nx:=Pv (i + 1),ct:=Pv (i + 1),bk:=D.nx } σ2 H2) (hd:∀ σ H,Pv n σ H→D.nx σ H) :
  ∃ W:Nat→Nat→St→Hp→Prop,(∃ m,W 0 m σ H)∧∀ i m σ H,W i m σ H →
   ((Itr lo n).stop i H∧D.nx σ H)∨((Itr lo n).go i H∧∃ N:St→Hp→Prop,(∀ σ' H',N σ' H'→∃ m',m' < m∧W (i + 1) m' σ' H')∧∀ x H',(Itr lo n).yld i H x H'→g x σ H' fun σ2 H2=>tb { D with nx:=N,ct:=N,bk:=D.nx } σ2 H2):=by
 refine ⟨fun i m σ H=>m=n - i∧i≤n∧Pv i σ H,⟨n,by simp,Nat.zero_le _,h0⟩,?_⟩
 rintro i m σ H ⟨rfl,hi,p⟩
 by_cases hlt:i < n
 ·refine .inr ⟨hlt,Pv (i + 1),fun σ' H' p'=>⟨n - (i + 1),by omega,rfl,hlt,p'⟩,fun x H' y=>?_⟩
  obtain ⟨e,y⟩:=y
  subst e y
  exact hs i σ _ hlt p
 ·have e:i=n:=by omega
  subst e
  exact .inl ⟨Nat.le_refl _,hd σ H p⟩
abbrev R2:=V→V→Hp→VK→Prop
def OpR (X:Cx) (f:Value→Value→Sem Value) (r:R2):Prop :=
 ∀ (pins:List (Addr × Obj)) (s:Shared) (σ:St) (H:Hp) (x y:V) (v u:Value) (Q:VK),Inv X pins σ H s→RelV x v→RelV y u→r x y H Q →
  wpAny (model X.prog X.w) X.A (f v u) (EP X pins σ Q) X.xe s
def UnR (X:Cx) (f:Value→Sem Value) (r:V→Hp→VK→Prop):Prop :=
 ∀ (pins:List (Addr × Obj)) (s:Shared) (σ:St) (H:Hp) (x:V) (v:Value) (Q:VK),Inv X pins σ H s→RelV x v→r x H Q →
  wpAny (model X.prog X.w) X.A (f v) (EP X pins σ Q) X.xe s
def CallR (X:Cx) (f:Value) (r:List V→Hp→VK→Prop):Prop :=
 ∀ (pins:List (Addr × Obj)) (s:Shared) (σ:St) (H:Hp) (xs:List V) (us:List Value) (Q:VK),Inv X pins σ H s→Vals xs us→r xs H Q →
  wpAny (model X.prog X.w) X.A (call f us) (EP X pins σ Q) X.xe s
def tOp (r:R2) (ta tb:TE):TE:=fun σ H Q=>ta σ H fun x H1=>tb σ H1 fun y H2=>r x y H2 Q
def tUn (r:V→Hp→VK→Prop) (ta:TE):TE:=fun σ H Q=>ta σ H fun x H1=>r x H1 Q
def rI (C:Int→Int→Prop) (g:Int→Int→V):R2:=fun x y H Q=>∃ i j,x=.int i∧y=.int j∧C i j∧Q (g i j) H
def rI0 (g:Int→Int→V):R2:=fun x y H Q=>∃ i j,x=.int i∧y=.int j∧Q (g i j) H
def rU (g:Int→V):V→Hp→VK→Prop:=fun x H Q=>∃ i,x=.int i∧Q (g i) H
section
variable {X:Cx}{a b c:Expr}{ta tb tc:TE}{pos:Pos}
theorem binT (ha:PE X a ta) (hb:PE X b tb) {pins:List (Addr × Obj)}{s:Shared}{σ:St}{H:Hp}{R:V→V→Hp→Prop} (I:Inv X pins σ H s)
  (h:ta σ H fun x H1=>tb σ H1 fun y H2=>R x y H2) {Q:Value→Shared→Prop}{f:Value→Value→Sem Value}
  (hf:∀ v u s2 x y H2,Inv X pins σ H2 s2→RelV x v→RelV y u→R x y H2→wpAny (model X.prog X.w) X.A (f v u) Q X.xe s2) :
  wpAny (model X.prog X.w) X.A (eval a X.env) (fun v s₁=>wpAny (model X.prog X.w) X.A (eval b X.env) (fun u s₂=>wpAny (model X.prog X.w) X.A (f v u) Q X.xe s₂) X.xe s₁) X.xe s:=by
 refine thn (ha pins s σ H _ I h) fun v s1 ⟨x,H1,I1,r1,q1⟩=>?_
 refine thn (hb pins s1 σ H1 _ I1 q1) fun u s2 ⟨y,H2,I2,r2,q2⟩=>?_
 exact hf v u s2 x y H2 I2 r1 r2 q2
theorem zau0 {op:Operator}{r:R2} (ho:OpR X (binaryOp op) r) (ha:PE X a ta) (hb:PE X b tb):PE X (.BinOp a op b pos) (tOp r ta tb):=by
 intro pins s σ H Q I h
 exact wpAny_BinOp (binT ha hb I h fun v u s2 x y H2 I2 rx ry q=>ho pins s2 σ H2 x y v u Q I2 rx ry q)
theorem zau1 {op:UnaryOp}{r:V→Hp→VK→Prop} (ho:UnR X (unaryOp op) r) (ha:PE X a ta):PE X (.UnaryOp op a pos) (tUn r ta):=by
 intro pins s σ H Q I h
 exact UnaryOp_ (thn (ha pins s σ H _ I h) fun v s1 ⟨x,H1,I1,r1,q1⟩=>ho pins s1 σ H1 x v Q I1 r1 q1)
theorem opI {f:Value→Value→Sem Value}{C:Int→Int→Prop}{g:Int→Int→Int}
  (rule:∀ (i j:Int) (t u:Tok) (s:Shared) (Q:Value→Shared→Prop) (E:Value→Shared→Prop),C i j→Q (.int (g i j) s.toks) { s with toks:=s.toks + 1 }→wpAny (model X.prog X.w) X.A (f (.int i t) (.int j u)) Q E s) :
  OpR X f (rI C fun i j=>.int (g i j)):=by
 intro pins s σ H x y v u Q I rx ry h
 obtain ⟨i,j,rfl,rfl,hc,q⟩:=h
 obtain ⟨t,rfl⟩:=rx
 obtain ⟨t',rfl⟩:=ry
 exact rule i j t t' s _ _ hc ⟨.int (g i j),H,I.tok _,⟨_,rfl⟩,q⟩
theorem opI0 {f:Value→Value→Sem Value}{g:Int→Int→Int}
  (rule:∀ (i j:Int) (t u:Tok) (s:Shared) (Q:Value→Shared→Prop) (E:Value→Shared→Prop),Q (.int (g i j) s.toks) { s with toks:=s.toks + 1 }→wpAny (model X.prog X.w) X.A (f (.int i t) (.int j u)) Q E s) :
  OpR X f (rI0 fun i j=>.int (g i j)):=by
 intro pins s σ H x y v u Q I rx ry h
 obtain ⟨i,j,rfl,rfl,q⟩:=h
 obtain ⟨t,rfl⟩:=rx
 obtain ⟨t',rfl⟩:=ry
 exact rule i j t t' s _ _ ⟨.int (g i j),H,I.tok _,⟨_,rfl⟩,q⟩
theorem opB0 {f:Value→Value→Sem Value}{g:Int→Int→Bool}
  (rule:∀ (i j:Int) (t u:Tok) (s:Shared) (Q:Value→Shared→Prop) (E:Value→Shared→Prop),Q (.bool (g i j)) s→wpAny (model X.prog X.w) X.A (f (.int i t) (.int j u)) Q E s) :
  OpR X f (rI0 fun i j=>.bl (g i j)):=by
 intro pins s σ H x y v u Q I rx ry h
 obtain ⟨i,j,rfl,rfl,q⟩:=h
 obtain ⟨t,rfl⟩:=rx
 obtain ⟨t',rfl⟩:=ry
 exact rule i j t t' s _ _ ⟨.bl (g i j),H,I,rfl,q⟩
def CMul (i j:Int):Prop:=(-(2 ^ 64) < i∧i < 2 ^ 64)∨(-(2 ^ 64) < j∧j < 2 ^ 64)
theorem CMul.ok {i j:Int} (h:CMul i j):IntMulOk i j:=by
 rcases h with ⟨h1,h2⟩ | ⟨h1,h2⟩
 ·exact .of_left (intBits_le_64 h1 h2)
 ·exact .of_right (intBits_le_64 h1 h2)
theorem zadm:OpR X (binaryOp .Add) (rI0 fun i j=>.int (i + j)):=opI0 fun _ _ _ _ _ _ _ q=>add_int q
theorem zafp:OpR X (binaryOp .Sub) (rI0 fun i j=>.int (i - j)):=opI0 fun _ _ _ _ _ _ _ q=>sub_int q
theorem zafq:OpR X (binaryOp .Mult) (rI CMul fun i j=>.int (i * j)):=opI fun _ _ _ _ _ _ _ hc q=>mul_int q hc.ok
theorem zacd:OpR X (binaryOp .Mod) (rI (fun _ j=>0 < j) fun i j=>.int (i % j)):=opI fun i j _ _ _ _ _ hc q=>by
 have h1:(0:Int) < j:=hc
 exact mod_int' (by omega) (by rw [Int.fmod_eq_emod_of_nonneg i (by omega)]; exact q)
theorem unI {f:Value→Sem Value}{g:Int→Int}
  (rule:∀ (i:Int) (t:Tok) (s:Shared) (Q:Value→Shared→Prop) (E:Value→Shared→Prop),Q (.int (g i) s.toks) { s with toks:=s.toks + 1 }→wpAny (model X.prog X.w) X.A (f (.int i t)) Q E s) :
  UnR X f (rU fun i=>.int (g i)):=by
 intro pins s σ H x v Q I rx h
 obtain ⟨i,rfl,q⟩:=h
 obtain ⟨t,rfl⟩:=rx
 exact rule i t s _ _ ⟨.int (g i),H,I.tok _,⟨_,rfl⟩,q⟩
theorem zas9:UnR X (unaryOp .USub) (rU fun i=>.int (-i)):=unI fun _ _ _ _ _ q=>neg_int q
end
def scal:V→V→Bool
 | .non,.non=>true | .non,.int _=>true | .int _,.non=>true | .non,.bl _=>true | .bl _,.non=>true | .non,.str _=>true | .str _,.non=>true
 | .int _,.int _=>true | .bl _,.bl _=>true | .str _,.str _=>true | .byt _,.byt _=>true
 | .int _,.str _=>true | .str _,.int _=>true | .bl _,.str _=>true | .str _,.bl _=>true
 | _,_=>false
def rEq:R2:=fun x y H Q=>scal x y=true∧Q (.bl (decide (x=y))) H
def rNe:R2:=fun x y H Q=>scal x y=true∧Q (.bl (!decide (x=y))) H
theorem zali {i j:Int}:decide (V.int i=V.int j)=(i == j):=by
 rw [Bool.eq_iff_iff]
 simp
theorem zapj {i j:Bool}:decide (V.bl i=V.bl j)=(i == j):=by
 rw [Bool.eq_iff_iff]
 simp
theorem zalj {i j:Str}:decide (V.str i=V.str j)=(i == j):=by
 rw [Bool.eq_iff_iff]
 simp
theorem zalk {i j:Array UInt8}:decide (V.byt i=V.byt j)=(i.toList == j.toList):=by
 rw [Bool.eq_iff_iff]
 cases i
 cases j
 simp
section
variable {X:Cx}{a b c:Expr}{ta tb tc:TE}{pos:Pos}
theorem zabw {pins:List (Addr × Obj)}{σ:St}{H:Hp}{s:Shared}{Q:VK}{k k':Bool} (I:Inv X pins σ H s) (q:Q (.bl k) H) (e:k=k'):EP X pins σ Q (.bool k') s:=by
 subst e
 exact ⟨.bl k,H,I,rfl,q⟩
theorem zabh:OpR X (compareOp .Eq) rEq:=by
 intro pins s σ H x y v u Q I rx ry h
 obtain ⟨hs,q⟩:=h
 cases x with
 | non =>
  cases rx
  cases y with
  | non=>cases ry; exact PySem.EqNone.eq_none_none (zabw I q (by simp))
  | bl j=>cases ry; exact PySem.EqNone.eq_none_bool (zabw I q (by simp))
  | int j=>obtain ⟨t',rfl⟩:=ry; exact PySem.EqNone.eq_none_int (zabw I q (by simp))
  | str j=>obtain ⟨t',rfl⟩:=ry; exact PySem.EqNone.eq_none_str (zabw I q (by simp))
  | _=>exact absurd (show false=true from hs) Bool.false_ne_true
 | bl i =>
  cases rx
  cases y with
  | non=>cases ry; exact PySem.EqNone.eq_bool_none (zabw I q (by simp))
  | bl j=>cases ry; exact eq_bool (zabw I q zapj)
  | str j=>obtain ⟨t',rfl⟩:=ry; exact PySem.EqMixed.eq_bool_str (zabw I q (by simp))
  | _=>exact absurd (show false=true from hs) Bool.false_ne_true
 | int i =>
  obtain ⟨t,rfl⟩:=rx
  cases y with
  | non=>cases ry; exact PySem.EqNone.eq_int_none (zabw I q (by simp))
  | int j=>obtain ⟨t',rfl⟩:=ry; exact eq_int (zabw I q zali)
  | str j=>obtain ⟨t',rfl⟩:=ry; exact PySem.EqMixed.eq_int_str (zabw I q (by simp))
  | _=>exact absurd (show false=true from hs) Bool.false_ne_true
 | str i =>
  obtain ⟨t,rfl⟩:=rx
  cases y with
  | non=>cases ry; exact PySem.EqNone.eq_str_none (zabw I q (by simp))
  | bl j=>cases ry; exact PySem.EqMixed.eq_str_bool (zabw I q (by simp))
  | int j=>obtain ⟨t',rfl⟩:=ry; exact PySem.EqMixed.eq_str_int (zabw I q (by simp))
  | str j=>obtain ⟨t',rfl⟩:=ry; exact eq_str (zabw I q zalj)
  | _=>exact absurd (show false=true from hs) Bool.false_ne_true
 | byt i =>
  obtain ⟨t,rfl⟩:=rx
  cases y with
  | byt j=>obtain ⟨t',rfl⟩:=ry; exact PySem.W.eq_bytes (zabw I q zalk)
  | _=>exact absurd (show false=true from hs) Bool.false_ne_true
 | _=>cases y <;> exact absurd (show false=true from hs) Bool.false_ne_true
theorem zadn:OpR X (compareOp .NotEq) rNe:=by
 intro pins s σ H x y v u Q I rx ry h
 obtain ⟨hs,q⟩:=h
 cases x with
 | non =>
  cases rx
  cases y with
  | non=>cases ry; exact PySem.EqNone.ne_none_none (zabw I q (by simp))
  | bl j=>cases ry; exact PySem.EqNone.ne_none_bool (zabw I q (by simp))
  | int j=>obtain ⟨t',rfl⟩:=ry; exact PySem.EqNone.ne_none_int (zabw I q (by simp))
  | str j=>obtain ⟨t',rfl⟩:=ry; exact PySem.EqNone.ne_none_str (zabw I q (by simp))
  | _=>exact absurd (show false=true from hs) Bool.false_ne_true
 | bl i =>
  cases rx
  cases y with
  | non=>cases ry; exact PySem.EqNone.ne_bool_none (zabw I q (by simp))
  | bl j=>cases ry; exact ne_bool (zabw I q (congrArg not zapj))
  | str j=>obtain ⟨t',rfl⟩:=ry; exact PySem.EqMixed.ne_bool_str (zabw I q (by simp))
  | _=>exact absurd (show false=true from hs) Bool.false_ne_true
 | int i =>
  obtain ⟨t,rfl⟩:=rx
  cases y with
  | non=>cases ry; exact PySem.EqNone.ne_int_none (zabw I q (by simp))
  | int j=>obtain ⟨t',rfl⟩:=ry; exact ne_int (zabw I q (congrArg not zali))
  | str j=>obtain ⟨t',rfl⟩:=ry; exact PySem.EqMixed.ne_int_str (zabw I q (by simp))
  | _=>exact absurd (show false=true from hs) Bool.false_ne_true
 | str i =>
  obtain ⟨t,rfl⟩:=rx
  cases y with
  | non=>cases ry; exact PySem.EqNone.ne_str_none (zabw I q (by simp))
  | bl j=>cases ry; exact PySem.EqMixed.ne_str_bool (zabw I q (by simp))
  | int j=>obtain ⟨t',rfl⟩:=ry; exact PySem.EqMixed.ne_str_int (zabw I q (by simp))
  | str j=>obtain ⟨t',rfl⟩:=ry; exact ne_str (zabw I q (congrArg not zalj))
  | _=>exact absurd (show false=true from hs) Bool.false_ne_true
 | byt i =>
  obtain ⟨t,rfl⟩:=rx
  cases y with
  | byt j=>obtain ⟨t',rfl⟩:=ry; exact PySem.W.ne_bytes (zabw I q (congrArg not zalk))
  | _=>exact absurd (show false=true from hs) Bool.false_ne_true
 | _=>cases y <;> exact absurd (show false=true from hs) Bool.false_ne_true
theorem zata:OpR X (compareOp .Lt) (rI0 fun i j=>.bl (decide (i < j))):=opB0 fun _ _ _ _ _ _ _ q=>lt_int q
theorem zau2:OpR X (compareOp .LtE) (rI0 fun i j=>.bl (decide (i≤j))):=opB0 fun _ _ _ _ _ _ _ q=>le_int q
theorem zan9:OpR X (compareOp .Gt) (rI0 fun i j=>.bl (decide (j < i))):=opB0 fun _ _ _ _ _ _ _ q=>gt_int q
theorem zad5:OpR X (compareOp .Is) (fun x y H Q=>y=.non∧Q (.bl (decide (x=.non))) H):=by
 intro pins s σ H x y v u Q I rx ry h
 obtain ⟨rfl,q⟩:=h
 cases ry
 refine is_none_gen (zabw I q ?_)
 cases x <;> first
  | (cases rx; rfl)
  | (obtain ⟨t,rfl⟩:=rx; rfl)
theorem zall:OpR X (compareOp .IsNot) (fun x y H Q=>y=.non∧Q (.bl (!decide (x=.non))) H):=by
 intro pins s σ H x y v u Q I rx ry h
 obtain ⟨rfl,q⟩:=h
 cases ry
 refine isnot_none_gen (zabw I q ?_)
 cases x <;> first
  | (cases rx; rfl)
  | (obtain ⟨t,rfl⟩:=rx; rfl)
theorem nomark (b:Expr) {op:CmpOp} (h:op≠.In:=by decide) (h2:op≠.NotIn:=by decide):behindInMarks op b=false:=by
 have e1:(op == CmpOp.In)=false:=by cases op <;> first | rfl | exact absurd rfl h
 have e2:(op == CmpOp.NotIn)=false:=by cases op <;> first | rfl | exact absurd rfl h2
 cases b <;> simp [behindInMarks,e1,e2]
theorem zaqm {op:CmpOp}{r:R2} (ho:OpR X (compareOp op) r) (ha:PE X a ta) (hb:PE X b tb) (hm:behindInMarks op b=false):PE X (.Compare a [op] [b] pos) (tOp r ta tb):=by
 intro pins s σ H Q I h
 exact wpAny_Compare1 (binT ha hb I h fun v u s2 x y H2 I2 rx ry q=>ho pins s2 σ H2 x y v u Q I2 rx ry q) hm
def tTest (t:TE):TT:=fun σ H Q=>t σ H fun x H'=>∃ k,x=.bl k∧Q k H'
theorem zaqn {op:CmpOp}{r:R2} (ho:OpR X (compareOp op) r) (ha:PE X a ta) (hb:PE X b tb) (hm:behindInMarks op b=false):PT X (.Compare a [op] [b] pos) (tTest (tOp r ta tb)):=by
 intro pins s σ H Q I h
 refine wpAny_isTrue_Compare1 (thn (ha pins s σ H _ I h) fun v s1 ⟨x,H1,I1,r1,q1⟩=>thn (hb pins s1 σ H1 _ I1 q1) fun u s2 ⟨y,H2,I2,r2,q2⟩ =>
  thn (ho pins s2 σ H2 x y v u _ I2 r1 r2 q2) fun c s3 ⟨z,H3,I3,r3,k,e,q3⟩=>?_) hm
 subst e
 cases r3
 exact wpAny_truthy_bool ⟨H3,I3,q3⟩
def tChain (r r':R2) (ta tb tc:TE):TE:=fun σ H Q=>ta σ H fun x H1=>tb σ H1 fun y H2=>r x y H2 fun z H3=>∃ k,z=.bl k ∧
 (if k=true then tc σ H3 fun w' H4=>r' y w' H4 Q else Q (.bl false) H3)
theorem zaoa {op op':CmpOp}{r r':R2} (ho:OpR X (compareOp op) r) (ho':OpR X (compareOp op') r') (ha:PE X a ta) (hb:PE X b tb) (hc:PE X c tc)
  (hm:lastMarks [op,op'] [b,c]=false:=by with_unfolding_all rfl):PE X (.Compare a [op,op'] [b,c] pos) (tChain r r' ta tb tc):=by
 intro pins s σ H Q I h
 refine Compare_chain (thn (ha pins s σ H _ I h) fun v s1 ⟨x,H1,I1,r1,q1⟩=>chain_link (thn (hb pins s1 σ H1 _ I1 q1) fun u s2 ⟨y,H2,I2,r2,q2⟩ =>
  thn (ho pins s2 σ H2 x y v u _ I2 r1 r2 q2) fun d s3 ⟨z,H3,I3,r3,k,e,q3⟩=>?_)) hm
 subst e
 cases r3
 refine wpAny_truthy_bool ?_
 cases k with
 | false=>exact ite_ff ⟨.bl false,H3,I3,rfl,q3⟩
 | true=>exact ite_tt (chain_last (thn (hc pins s3 σ H3 _ I3 q3) fun w' s4 ⟨z',H4,I4,r4,q4⟩=>ho' pins s4 σ H4 y z' u w' Q I4 r2 r4 q4))
theorem line63:(sizeLine:Nat) < 2 ^ 63:=by rw [sizeLine_eq]; decide
theorem vals1 {x:V}{us:List Value} (r:Vals [x] us):∃ u,us=[u]∧RelV x u:=by
 cases r with
 | cons r1 r2=>cases r2; exact ⟨_,rfl,r1⟩
theorem vals2 {x y:V}{us:List Value} (r:Vals [x,y] us):∃ u w',us=[u,w']∧RelV x u∧RelV y w':=by
 cases r with
 | cons r1 r2 =>
  cases r2 with
  | cons r3 r4=>cases r4; exact ⟨_,_,rfl,r1,r3⟩
theorem zalm (hc:X.calm=true):CallR X (.builtin "max") (fun xs H Q=>∃ i j,xs=[.int i,.int j]∧Q (.int (if j > i then j else i)) H):=by
 intro pins s σ H xs us Q I r h
 obtain ⟨i,j,rfl,q⟩:=h
 obtain ⟨u,w',rfl,⟨t,rfl⟩,⟨t',rfl⟩⟩:=vals2 r
 refine max_two_ints (I.ok.hd hc) fun h' tk k=>⟨_,H,I.kept k,?_,q⟩
 by_cases hj:j > i
 ·rw [if_pos hj,if_pos hj]; exact ⟨_,rfl⟩
 ·rw [if_neg hj,if_neg hj]; exact ⟨_,rfl⟩
theorem zaln (hc:X.calm=true):CallR X (.builtin "min") (fun xs H Q=>∃ i j,xs=[.int i,.int j]∧Q (.int (if j < i then j else i)) H):=by
 intro pins s σ H xs us Q I r h
 obtain ⟨i,j,rfl,q⟩:=h
 obtain ⟨u,w',rfl,⟨t,rfl⟩,⟨t',rfl⟩⟩:=vals2 r
 refine min_two_ints (I.ok.hd hc) fun h' tk k=>⟨_,H,I.kept k,?_,q⟩
 by_cases hj:j < i
 ·rw [if_pos hj,if_pos hj]; exact ⟨_,rfl⟩
 ·rw [if_neg hj,if_neg hj]; exact ⟨_,rfl⟩
end
structure ObjM (h:Heap) (x dx C:Addr) (mA:Str→Option Value):Prop where
 obj:h.get? x=some (PySem.W.instObj C dx)
 ns:h.Ns1 dx mA
 ne:dx≠x
theorem zalo {h:Heap}{dx:Addr}{mA:Str→Option Value} (n:h.Ns1 dx mA):∃ od,h.get? dx=some od∧∀ name,PySem.W.lookIn name od=some (mA name):=by
 obtain ⟨o,es,ep,ho,hd,hk,_,hm⟩:=n
 refine ⟨o,ho,fun name=>?_⟩
 have e:=hm name
 unfold nsFind findBy at e
 rw [← Array.find?_toList] at e
 unfold PySem.W.lookIn
 rw [hd]
 dsimp only
 split
 ·rename_i y q
  rw [q] at e
  exact congrArg some e
 ·rename_i q
  rw [q] at e
  have a:es.toList.any (·.refKey)=false:=by
   rw [List.any_eq_false]
   intro y hy
   obtain ⟨z,t,hkey⟩:=hk y (Array.mem_toList_iff.mp hy)
   simp [DictEntry.refKey,hkey]
  have a':¬ es.toList.any (·.refKey)=true:=by rw [a]; exact Bool.false_ne_true
  rw [if_neg a']
  exact congrArg some e
theorem ObjM.look {h:Heap}{x dx C:Addr}{mA:Str→Option Value} (I:ObjM h x dx C mA):∃ od,PySem.W.InstAt h x (PySem.W.instObj C dx) C (some od)∧∀ name,PySem.W.lookIn name od=some (mA name) :=
 let ⟨od,ho,hl⟩:=zalo I.ns
 ⟨od,⟨I.obj,rfl,rfl,ho⟩,hl⟩
section
variable {prog:Program}{w:World}{A:Around}{E:Value→Shared→Prop}{s:Shared}{K:PySem.W.Frag}{x dx C f:Addr}{mA:Str→Option Value}{name:Str}{v:Value}
theorem zaqo {expr:Bool}{Q:Value→Shared→Prop} (X:K.In s.heap) (I:ObjM s.heap x dx C mA) (hg:PySem.W.plainGet K C name=true) (hh:PySem.W.hasDictIn K C=true)
  (ha:PySem.W.findIn K (.ref C) name=some none) (hv:mA name=some v) (hv':PySem.W.handedIn v=true) (h:Q v { s with toks:=s.toks + 1 }) :
  wpAny (model prog w) A (getAttr (.ref x) name expr) Q E s:=by
 obtain ⟨od,J,hl⟩:=I.look
 exact PySem.W.get_value X J (PySem.W.plainGet_of hg).1 (PySem.W.findObj_own hh ha rfl (by rw [hl,hv])) hv' h
theorem zaob {pl:Sem Bool}{Q:Value × List Value→Shared→Prop} (X:K.In s.heap) (I:ObjM s.heap x dx C mA) (hg:PySem.W.plainGet K C name=true)
  (hf:PySem.W.findIn K (.ref C) name=some (some (.ref f))) (ht:PySem.W.isFn K (.ref f)=true) (hv:mA name=none) (h:Q (.ref f,[.ref x]) s) :
  wpAny (model prog w) A (getMethod (.ref x) name pl) Q E s:=by
 obtain ⟨od,J,hl⟩:=I.look
 exact PySem.W.method_fn X J (PySem.W.plainGet_of hg).1 (PySem.W.plainGet_of hg).2 hf (beq_iff_eq.mp ht) (by show (PySem.W.lookIn name od).map (·.isSome)=some false; rw [hl,hv]; rfl) h
theorem zaqp {ns:List Str}{Q:Unit→Shared→Prop} (X:K.In s.heap) (I:ObjM s.heap x dx C mA)
  (hs:PySem.W.findIn K (.ref C) "__setattr__" = some (some (.builtin "object.__setattr__"))) (hp:PySem.W.plainOver K C=true) (ht:PySem.W.takerIn K C name=some none) (hh:PySem.W.hasDictIn K C=true)
  (hw:PySem.Within mA ns) (hsz:ns.length≤sizeLine)
  (h:∀ h',ObjM h' x dx C (fun y=>if y=name then some v else mA y)→Heap.SameBut dx s.heap h'→Q () { s with heap:=h',toks:=s.toks + 2 }) :
  wpAny (model prog w) A (setAttr (.ref x) name v) Q E s:=by
 obtain ⟨od,J,hl⟩:=I.look
 refine PySem.W.set_plain X J hs (PySem.W.osa_open (s:={ s with toks:=s.toks + 1 }) (r:=none) X J hp ht fun b=>?_)
 obtain ⟨cd,hc,hd'⟩:=PySem.W.any_some hh
 have hx:s.heap.get? x=some ⟨.ref C,some dx,.plain,#[]⟩:=I.obj
 refine wpAny_bind (wpAny_pure (wpAny_bind (wpAny_bind (wpAny_loadPart hx (wpAny_bind (PySem.W.Looks.here (s:={ s with toks:=s.toks + 1 }) (PySem.W.looks_clsIn X hc) ?_))))))
 rw [hd']
 refine wpAny_pure (a:=some dx) (wpAny_bind (wpAny_pure (wpAny_bind ?_)))
 refine wpAny_nsSet1 (s:={ s with toks:=s.toks + 1 }) I.ns fun h' hn2 hs2=>?_
 obtain ⟨oD,esD,epD,hoD,hdD,hcD⟩:=hn2.count (PySem.Within.cons name v hw)
 refine wpAny_bind (wpAny_lookBehind hoD (by rw [hdD]; exact pastItsLine_dict (Nat.le_trans hcD (by rw [List.length_cons]; omega))) ?_)
 exact wpAny_pure (h _ ⟨(hs2.2 _ (Ne.symm I.ne)).trans I.obj,hn2,I.ne⟩ hs2)
theorem zaoc {R:Result→Shared→Prop}{vs:List Value}{kw:List (Str × Value)} (X:K.In s.heap) (hm:PySem.W.makesIn K C=true)
  (hi:PySem.W.findIn K (.ref C) "__init__" = some (some (.ref f))) (hf:PySem.W.typeIn K (.ref f)=some (.type "function"))
  (h:codeAny (model prog w) (A.under (.builtin "type.__call__" ⟨.ref C :: vs,kw⟩)) (.call (.ref f) ⟨.ref (s.heap.objs.size + 1) :: vs,kw⟩) (PySem.W.InitBack (s.heap.objs.size + 1) R)
   { s with heap:=(s.heap.push PySem.W.emptyDict).push (PySem.W.instObj C s.heap.objs.size) }) :
  codeAny (model prog w) A (.call (.ref C) ⟨vs,kw⟩) R s:=by
 obtain ⟨hh,g,d,t,os⟩:=s
 exact PySem.W.make_core (PySem.W.makes_of X hm) (PySem.W.looks_findIn X hi) (fun self=>PySem.W.bind_fn X self hf) (.inl rfl) h
end
def putF (f:Str) (v:V):List (Str × V)→List (Str × V)
 | []=>[(f,v)]
 | (g,x) :: r=>if g=f then (g,v) :: r else (g,x) :: putF f v r
theorem zafr (f g:Str) (v:V):∀ fs:List (Str × V),(putF f v fs).lookup g=if g=f then some v else fs.lookup g
 | []=>by
  show List.lookup g [(f,v)]=_
  by_cases h:g=f
  ·have hb:(g == f)=true:=beq_iff_eq.mpr h
   simp only [List.lookup,hb,if_pos h]
  ·have hb:(g == f)=false:=beq_eq_false_iff_ne.mpr h
   simp only [List.lookup,hb,if_neg h]
 | (k,x) :: r=>by
  have ih:=zafr f g v r
  rw [show putF f v ((k,x) :: r)=(if k=f then (k,v) :: r else (k,x) :: putF f v r) from rfl]
  by_cases hk:k=f
  ·rw [if_pos hk]
   by_cases h:g=k
   ·have hb:(g == k)=true:=beq_iff_eq.mpr h
    simp only [List.lookup,hb,if_pos (h.trans hk)]
   ·have hb:(g == k)=false:=beq_eq_false_iff_ne.mpr h
    simp only [List.lookup,hb,if_neg (fun e:g=f=>h (e.trans hk.symm))]
  ·rw [if_neg hk]
   by_cases h:g=k
   ·have hb:(g == k)=true:=beq_iff_eq.mpr h
    simp only [List.lookup,hb,if_neg (fun e:g=f=>hk (h.symm.trans e))]
   ·have hb:(g == k)=false:=beq_eq_false_iff_ne.mpr h
    simp only [List.lookup,hb]
    exact ih
theorem zafs (f:Str) (v:V):∀ fs:List (Str × V),f∈(putF f v fs).map (·.1)∧∀ g,g∈fs.map (·.1)→g∈(putF f v fs).map (·.1)
 | []=>⟨by simp [putF],fun g h=>by simp at h⟩
 | (k,x) :: r=>by
  obtain ⟨i1,i2⟩:=zafs f v r
  rw [show putF f v ((k,x) :: r)=(if k=f then (k,v) :: r else (k,x) :: putF f v r) from rfl]
  by_cases hk:k=f
  ·rw [if_pos hk]
   subst hk
   exact ⟨by simp,fun g h=>by simpa using h⟩
  ·rw [if_neg hk]
   refine ⟨?_,fun g h=>?_⟩
   ·rw [List.map_cons]
    exact List.mem_cons_of_mem _ i1
   ·rw [List.map_cons] at h ⊢
    rcases List.mem_cons.mp h with e | e
    ·exact List.mem_cons.mpr (.inl e)
    ·exact List.mem_cons_of_mem _ (i2 g e)
theorem zaft (f:Str) (v:V):∀ fs:List (Str × V),(putF f v fs).length≤fs.length + 1
 | []=>by simp [putF]
 | (k,x) :: r=>by
  have ih:=zaft f v r
  rw [show putF f v ((k,x) :: r)=(if k=f then (k,v) :: r else (k,x) :: putF f v r) from rfl]
  by_cases hk:k=f
  ·rw [if_pos hk,List.length_cons,List.length_cons]; omega
  ·rw [if_neg hk,List.length_cons,List.length_cons]; omega
theorem RelO.some_of {v:V}{o:Option Value} (r:RelO (some v) o):∃ u,o=some u∧RelV v u:=by
 cases o with
 | none=>exact (show False from r).elim
 | some u=>exact ⟨u,rfl,r⟩
theorem RelO.none_of {o:Option Value} (r:RelO none o):o=none:=by
 cases o with
 | none=>rfl
 | some u=>exact (show False from r).elim
theorem zalp {v:V}{u:Value} (r:RelV v u):PySem.W.handedIn u=true:=by
 cases v with
 | non=>cases (show u=Value.none from r); rfl
 | bl b=>cases (show u=Value.bool b from r); rfl
 | int i=>obtain ⟨t,e⟩:=(show ∃ t,u=Value.int i t from r); cases e; rfl
 | str x=>obtain ⟨t,e⟩:=(show ∃ t,u=Value.str x t from r); cases e; rfl
 | byt b=>obtain ⟨t,e⟩:=(show ∃ t,u=Value.bytes b t from r); cases e; rfl
 | flt b=>obtain ⟨t,e⟩:=(show ∃ t,u=Value.float b t from r); cases e; rfl
 | ref a=>cases (show u=Value.ref a from r); rfl
 | ty n=>cases (show u=Value.type n from r); rfl
section
variable {P:Program}{w:World}{H H':Hp}{h h':Heap}{a C dx:Addr}{fs fs':List (Str × V)}
theorem zafu (hok:HOk P w H h) (e:H a=some (.ins C dx fs)):∃ mA,ObjM h a dx C mA∧(∀ f,RelO (fs.lookup f) (mA f))∧PySem.Within mA (fs.map (·.1))∧fs.length≤1000∧H dx=some (.own a):=by
 obtain ⟨d,z,ne,ob,mA,n,r,q⟩:=(show ObjOk P w H h a (.ins C dx fs) from hok a _ e)
 exact ⟨mA,⟨ob,n,ne⟩,r,q,z,d⟩
end
structure Cls (K:PySem.W.Frag) (C:Addr):Prop where
 pg:PySem.W.plainGet K C Str.empty=true
 hd:PySem.W.hasDictIn K C=true
 po:PySem.W.plainOver K C=true
 sa:PySem.W.findIn K (.ref C) "__setattr__" = some (some (.builtin "object.__setattr__"))
theorem Cls.get {K:PySem.W.Frag}{C:Addr} (c:Cls K C) (f:Str):PySem.W.plainGet K C f=true:=c.pg
def NoAttr (K:PySem.W.Frag) (C:Addr) (f:Str):Prop:=PySem.W.findIn K (.ref C) f=some none
theorem NoAttr.taker {K:PySem.W.Frag}{C:Addr}{f:Str} (n:NoAttr K C f):PySem.W.takerIn K C f=some none:=by
 unfold PySem.W.takerIn
 rw [show PySem.W.findIn K (.ref C) f=some none from n]
 rfl
structure Meth (K:PySem.W.Frag) (C:Addr) (m:Str) (f:Addr):Prop where
 at_:PySem.W.findIn K (.ref C) m=some (some (.ref f))
 fn:PySem.W.isFn K (.ref f)=true
 kp:PySem.W.keepIn K (.ref f)=true
section
variable {X:Cx}{pins:List (Addr × Obj)}{σ:St}{H:Hp}{s:Shared}{a C dx:Addr}{fs:List (Str × V)}{f:Str}{v:V}{A:Around}{E:Value→Shared→Prop}
theorem zakn {b:Bool}{Q:Value→Shared→Prop} (I:Inv X pins σ H s) (e:H a=some (.ins C dx fs)) (c:Cls X.K C) (n:NoAttr X.K C f) (l:fs.lookup f=some v)
  (h:∀ u s',Inv X pins σ H s'→RelV v u→Q u s'):wpAny (model X.prog X.w) A (getAttr (.ref a) f b) Q E s:=by
 obtain ⟨mA,O,r,_,_,_⟩:=zafu I.hok e
 obtain ⟨u,hu,ru⟩:=RelO.some_of (v:=v) (o:=mA f) (by rw [← l]; exact r f)
 exact zaqo I.kIn O (c.get f) c.hd n hu (zalp ru) (h u _ (I.tok _) ru)
theorem zagb {m:Str}{g:Addr}{pl:Sem Bool}{Q:Value × List Value→Shared→Prop} (I:Inv X pins σ H s) (e:H a=some (.ins C dx fs)) (c:Cls X.K C) (k:Meth X.K C m g) (l:fs.lookup m=none)
  (h:Q (.ref g,[.ref a]) s):wpAny (model X.prog X.w) A (getMethod (.ref a) m pl) Q E s:=by
 obtain ⟨mA,O,r,_,_,_⟩:=zafu I.hok e
 have hn:mA m=none:=RelO.none_of (by rw [← l]; exact r m)
 exact zaob I.kIn O (c.get m) k.at_ k.fn hn h
theorem zako {y:V}{u:Value}{Q:Unit→Shared→Prop} (I:Inv X pins σ H s) (e:H a=some (.ins C dx fs)) (c:Cls X.K C) (n:NoAttr X.K C f) (hl:fs.length < 1000) (ry:RelV y u)
  (h:∀ s',Inv X pins σ (upd H a (.ins C dx (putF f y fs))) s'→Q () s'):wpAny (model X.prog X.w) A (setAttr (.ref a) f u) Q E s:=by
 obtain ⟨mA,O,r,wi,_,ho⟩:=zafu I.hok e
 have hz:(fs.map (·.1)).length≤sizeLine:=by rw [List.length_map,sizeLine_eq]; omega
 refine zaqp I.kIn O c.sa c.po n.taker c.hd wi hz fun h' O' sb=>h _ ?_
 have hd:∃ o,h'.get? dx=some o:=let ⟨o,_,_,e',_⟩:=O'.ns; ⟨o,e'⟩
 refine I.write (x:=a) (e:=dx) (by rw [e]; exact True.intro) (.inr ho) (fun b q hb z=>(sb.2 b hb).trans z) hd ?_
 refine ⟨by rw [zabq O.ne]; exact ho,?_,O.ne,O'.obj,_,O'.ns,fun g=>?_,fun g hg=>?_⟩
 ·have:=zaft f y fs; omega
 ·show RelO ((putF f y fs).lookup g) (if g=f then some u else mA g)
  rw [zafr]
  by_cases q:g=f
  ·rw [if_pos q,if_pos q]; exact ry
  ·rw [if_neg q,if_neg q]; exact r g
 ·by_cases q:g=f
  ·rw [q]; exact (zafs f y fs).1
  ·refine (zafs f y fs).2 g (wi g fun z=>hg ?_)
   show (if g=f then some u else mA g)=none
   rw [if_neg q]; exact z
theorem Inv.made (I:Inv X pins σ H s):Inv X pins σ (upd (upd H s.heap.objs.size (.own (s.heap.objs.size + 1))) (s.heap.objs.size + 1) (.ins C s.heap.objs.size []))
  { s with heap:=(s.heap.push PySem.W.emptyDict).push (PySem.W.instObj C s.heap.objs.size) }:=by
 have e1:(s.heap.push PySem.W.emptyDict).get? s.heap.objs.size=some PySem.W.emptyDict:=Heap.get?_push_size s.heap rfl
 have e2:((s.heap.push PySem.W.emptyDict).push (PySem.W.instObj C s.heap.objs.size)).get? (s.heap.objs.size + 1)=some (PySem.W.instObj C s.heap.objs.size):=by
  have:=Heap.get?_push_size (s.heap.push PySem.W.emptyDict) (o:=PySem.W.instObj C s.heap.objs.size) rfl
  rwa [Heap.size_push] at this
 have e3:(s.heap.push PySem.W.emptyDict).Ns s.heap.objs.size (fun _=>none):=⟨PySem.W.emptyDict,#[],_,e1,rfl,(fun e he=>absurd he (by simp)),fun _=>rfl⟩
 have I1:=I.laid (a:=s.heap.objs.size) (o:=.own (s.heap.objs.size + 1)) (h':=s.heap.push PySem.W.emptyDict) (t':=s.toks) (fun b u q=>Heap.get?_push_of_some _ q) (Nat.le_refl _) ⟨_,e1⟩
 refine I1.laid (a:=s.heap.objs.size + 1) (o:=.ins C s.heap.objs.size []) (t':=s.toks) (fun b u q=>Heap.get?_push_of_some _ q) (Nat.le_of_eq (Heap.size_push _ _)) ?_
 have ne:s.heap.objs.size≠s.heap.objs.size + 1:=Nat.ne_of_lt (Nat.lt_succ_self _)
 refine ⟨by rw [zabq ne,zaaf],Nat.zero_le _,ne,e2,fun _=>none,(Heap.Ns1.of_empty e3).at fun o q=>Heap.get?_push_of_some _ q,fun _=>True.intro,fun y hy=>absurd rfl hy⟩
theorem zaqq {prog:Program}{w:World}{env:Env}{e:Expr}{f:Str}{pos:Pos}{s:Shared}{Q:Value→Shared→Prop} (hb:attributeBase e f env (eval e env)=eval e env)
  (h:wpAny (model prog w) A (eval e env) (fun o s₁=>wpAny (model prog w) A (getAttr o f true) Q E s₁) E s):wpAny (model prog w) A (eval (.Attribute e f pos) env) Q E s :=
 Attribute_any_ h (by rw [arm_eval_Attribute,hb])
end
def tFld (K:PySem.W.Frag) (ta:TE) (f:Str):TE:=fun σ H Q=>ta σ H fun x H1=>∃ a C dx fs v,x=.ref a∧H1 a=some (.ins C dx fs)∧Cls K C∧NoAttr K C f∧fs.lookup f=some v∧Q v H1
def sFld (K:PySem.W.Frag) (ta tv:TE) (f:Str):TS:=fun D σ H=>tv σ H fun y H1=>ta σ H1 fun x H2=>∃ a C dx fs,x=.ref a∧H2 a=some (.ins C dx fs)∧Cls K C∧NoAttr K C f∧fs.length < 1000 ∧
 D.nx σ (upd H2 a (.ins C dx (putF f y fs)))
section
variable {X:Cx}{o e value:Expr}{f:Str}{pos pos' tpos:Pos}{ta tv:TE}
theorem zatb (he:PE X e ta) (hb:attributeBase e f X.env (eval e X.env)=eval e X.env):PE X (.Attribute e f pos) (tFld X.K ta f):=by
 intro pins s σ H Q I h
 refine zaqq hb (thn (he pins s σ H _ I h) fun u s1 ⟨x,H1,I1,rx,a,C,dx,fs,v,ex,ea,c,n,l,q⟩=>?_)
 subst ex
 obtain rfl:u=Value.ref a:=rx
 exact zakn I1 ea c n l fun u' s2 I2 ru=>⟨v,H1,I2,ru,q⟩
theorem zatc (ha:PE X o ta) (hv:PE X value tv) (hs:swapsWith value (some (.Attribute o f pos')) pos.line X.env=pure false):PS X (.Assign [.Attribute o f pos'] value pos) (sFld X.K ta tv f):=by
 intro pins s σ H D I h
 refine plainObj_wpAny_Assign_Attribute (thn (hv pins s σ H _ I h) fun u s1 ⟨y,H1,I1,ry,q⟩=>thn (ha pins s1 σ H1 _ I1 q) fun ov s2 ⟨x,H2,I2,rx,a,C,dx,fs,ex,ea,c,n,l,q2⟩=>?_) hs
 subst ex
 obtain rfl:ov=Value.ref a:=rx
 exact zako I2 ea c n l ry fun s3 I3=>⟨σ,_,I3,q2⟩
end
section
variable {X:Cx}{pins:List (Addr × Obj)}{σ:St}{H:Hp}{s:Shared}{A:Around}{E:Value→Shared→Prop}{Q:Value→Shared→Prop}{c:Value}{b:Bool}
inductive TyOf (K:PySem.W.Frag) (H:Hp):V→Value→Prop where
 | non:TyOf K H .non (.type "NoneType")
 | bl (x:Bool):TyOf K H (.bl x) (.type "bool")
 | int (i:Int):TyOf K H (.int i) (.type "int")
 | str (x:Str):TyOf K H (.str x) (.type "str")
 | flt (x:UInt64):TyOf K H (.flt x) (.type "float")
 | lst {a:Addr}{xs:List V} (e:H a=some (.lst xs)):TyOf K H (.ref a) (.type "list")
 | frz {a:Addr}{o:Obj}{xs:List V} (e:H a=some (.frz o (.lst xs))):TyOf K H (.ref a) (.type "list")
 | tup {a:Addr}{xs:List V} (e:H a=some (.tup xs)):TyOf K H (.ref a) (.type "tuple")
 | dK {a:Addr}{kvs:List (Key × V)} (e:H a=some (.dK kvs)):TyOf K H (.ref a) (.type "dict")
 | dT {a:Addr}{kvs:List (List Key × V)} (e:H a=some (.dT kvs)):TyOf K H (.ref a) (.type "dict")
 | ins {a C dx:Addr}{fs:List (Str × V)} (e:H a=some (.ins C dx fs)) (cl:Cls K C) (ha:PySem.W.findIn K (.ref C) "__class__" = some (some (.builtin "object.__class__")))
   (hn:PySem.W.specialIn K (.builtin "object.__class__") "__get__" = some (some (.builtin "getset_descriptor.__get__"))) (htk:PySem.W.takesIn K (.builtin "object.__class__")=some true)
   (hm:PySem.W.mroIn K C (.type "object")=some true):TyOf K H (.ref a) (.ref C)
theorem zahn {x:V}{u t:Value} (I:Inv X pins σ H s) (rx:RelV x u) (ty:TyOf X.K H x t) (e:PySem.W.kitOne X.K t c=some b) (h:∀ tk,Q (.bool b) { s with toks:=tk }) :
  wpAny (model X.prog X.w) A (call (.builtin "isinstance") [u,c]) Q E s:=by
 cases ty with
 | non=>cases (show u=Value.none from rx); exact PySem.W.kia_one PySem.W.kitx_none I.kIn True.intro e (fun z=>nomatch z) h
 | bl y=>cases (show u=Value.bool y from rx); exact PySem.W.kia_one PySem.W.kitx_bool I.kIn True.intro e (fun z=>nomatch z) h
 | int i=>obtain ⟨t,q⟩:=(show ∃ t,u=Value.int i t from rx); cases q; exact PySem.W.kia_one PySem.W.kitx_int I.kIn True.intro e (fun z=>nomatch z) h
 | str y=>obtain ⟨t,q⟩:=(show ∃ t,u=Value.str y t from rx); cases q; exact PySem.W.kia_one PySem.W.kitx_str I.kIn True.intro e (fun z=>nomatch z) h
 | flt y=>obtain ⟨t,q⟩:=(show ∃ t,u=Value.float y t from rx); cases q; exact PySem.W.kia_one PySem.W.kitx_float I.kIn True.intro e (fun z=>nomatch z) h
 | @lst a xs ea =>
  cases (show u=Value.ref a from rx)
  obtain ⟨_,_,n,_,h1⟩:=(show ObjOk X.prog X.w H s.heap a (.lst xs) from I.hok a _ ea)
  exact PySem.W.kia_one PySem.W.kitx_list I.kIn ⟨_,h1,rfl⟩ e (fun z=>nomatch z) h
 | @frz a ob xs ea =>
  cases (show u=Value.ref a from rx)
  obtain ⟨_,_,_,n,_,h1⟩:=(show ObjOk X.prog X.w H s.heap a (.frz ob (.lst xs)) from I.hok a _ ea)
  exact PySem.W.kia_one PySem.W.kitx_list I.kIn ⟨_,h1,rfl⟩ e (fun z=>nomatch z) h
 | @tup a xs ea =>
  cases (show u=Value.ref a from rx)
  obtain ⟨_,_,_,p⟩:=(show ObjOk X.prog X.w H s.heap a (.tup xs) from I.hok a _ ea)
  obtain ⟨o,h1,h2,_⟩:=p
  exact PySem.W.kia_one PySem.W.kitx_tuple I.kIn ⟨o,h1,h2⟩ e (fun z=>nomatch z) h
 | @dK a kvs ea =>
  cases (show u=Value.ref a from rx)
  obtain ⟨_,_,vs,_,p⟩:=(show ObjOk X.prog X.w H s.heap a (.dK kvs) from I.hok a _ ea)
  obtain ⟨o,es,ep,h1,h2,_⟩:=p
  exact PySem.W.kia_one PySem.W.kitx_dict I.kIn ⟨o,h1,h2.1⟩ e (fun z=>nomatch z) h
 | @dT a kvs ea =>
  cases (show u=Value.ref a from rx)
  obtain ⟨_,_,xs,_,o,es,ep,h1,h2,_⟩:=(show ObjOk X.prog X.w H s.heap a (.dT kvs) from I.hok a _ ea)
  exact PySem.W.kia_one PySem.W.kitx_dict I.kIn ⟨o,h1,h2.1⟩ e (fun z=>nomatch z) h
 | @ins a C dx fs ea cl ha hn htk hm =>
  cases (show u=Value.ref a from rx)
  obtain ⟨mA,O,_⟩:=zafu I.hok ea
  obtain ⟨od,J,_⟩:=O.look
  exact PySem.W.kia_one (PySem.W.kitx_own (cl.get _) cl.hd ha hn htk hm) I.kIn J e (fun z=>nomatch z) h
end
structure Room (k:Nat) (A:Around):Prop where
 hd:A.handled=none
 dp:A.depth + 3 * k + 5 < recursionLimit
 un:A.units + 16 * k + 200 < cLine
theorem Room.mono {j k:Nat}{A:Around} (r:Room k A) (h:j≤k):Room j A:=⟨r.hd,by have:=r.dp; omega,by have:=r.un; omega⟩
theorem Room.deeper {k:Nat}{A:Around} (r:Room (k + 1) A) (env:Env):Room k (A.deeper env) :=
 ⟨r.hd,by have:=r.dp; show A.depth + 1 + 3 * k + 5 < _; omega,by have:=r.un; show A.units + 3 + 16 * k + 200 < _; omega⟩
theorem zakp {A:Around}{C:Addr}{us:List Value}{kw:List (Str × Value)}:(A.under (.builtin "type.__call__" ⟨.ref C :: us,kw⟩)).depth=A.depth + 1:=by
 first | rfl | simp [Around.under,Code.weight,Code.isCreation,Code.isGuard,Code.isCaller,Code.frames,Code.isFrame,guardIds]
theorem zakq {A:Around}{C:Addr}{us:List Value}{kw:List (Str × Value)}:(A.under (.builtin "type.__call__" ⟨.ref C :: us,kw⟩)).units=A.units + 1:=by
 first | rfl | simp [Around.under,Code.cUnits,Code.frames,Code.isFrame]
theorem Room.make {k:Nat}{A:Around} (r:Room (k + 1) A) (C:Addr) (us:List Value) (kw:List (Str × Value)):Room k (A.under (.builtin "type.__call__" ⟨.ref C :: us,kw⟩)) :=
 ⟨r.hd,by have:=r.dp; rw [zakp]; omega,by have:=r.un; rw [zakq]; omega⟩
theorem Room.depth {k:Nat}{A:Around} (r:Room k A):A.depth < recursionLimit:=by have:=r.dp; omega
theorem Room.units {k:Nat}{A:Around} (r:Room k A):A.units + 64 < cLine:=by have:=r.un; omega
def tNil:TA:=fun _ H Q=>Q [] H
def tCons (ta:TE) (tr:TA):TA:=fun σ H Q=>ta σ H fun x H1=>tr σ H1 fun xs H2=>Q (x :: xs) H2
section
variable {X:Cx}{e:Expr}{es:List Expr}{te:TE}{t:TA}{pos:Pos}
theorem zatd:PA X [] tNil:=fun _ _ _ _ H Q I h=>Calls.spliced_nil ⟨[],H,I,.nil,h⟩
theorem zaqr (ha:PE X e te) (hr:PA X es t) (hs:starEach (e :: es) X.env=(false,eval e X.env) :: starEach es X.env:=by rfl):PA X (e :: es) (tCons te t):=by
 intro pos pins s σ H Q I h
 rw [hs]
 show wpAny _ _ (spliced ((false,eval e X.env) :: backTo pos (starEach es X.env))) _ _ s
 refine Calls.spliced_cons (thn (ha pins s σ H _ I h) fun u s1 ⟨x,H1,I1,r1,q1⟩=>?_)
 exact thn (hr pos pins s1 σ H1 _ I1 q1) fun us s2 ⟨xs,H2,I2,r2,q2⟩=>⟨x :: xs,H2,I2,.cons r1 r2,q2⟩
def tTup (t:TA):TE:=fun σ H Q=>t σ H fun xs H1=>xs.length≤sizeLine∧∀ p,H1 p=none→Q (.ref p) (upd H1 p (.tup xs))
def tLst (t:TA):TE:=fun σ H Q=>t σ H fun xs H1=>xs.length≤sizeLine∧∀ p,H1 p=none→Q (.ref p) (upd H1 p (.lst xs))
theorem zate {x1} (h:PA X es t):PE X (.Tuple es x1 pos) (tTup t):=by
 intro pins s σ H Q I hq
 refine wpAny_Tuple_spliced (thn (h pos pins s σ H _ I hq) fun us s1 ⟨xs,H1,I1,r,z,q⟩=>⟨by rw [← r.length]; exact z,?_⟩)
 have hf:H1 s1.heap.objs.size=none:=I1.hok.fresh (Nat.le_refl _)
 refine ⟨.ref s1.heap.objs.size,upd H1 s1.heap.objs.size (.tup xs),I1.laid (t':=s1.toks) (fun b u e=>Heap.get?_push_of_some _ e) (Nat.le_refl _) ?_,rfl,q _ hf⟩
 exact ⟨z,us,r,⟨_,Heap.get?_push_size _ rfl,rfl,_,rfl⟩⟩
theorem zatf (h:PA X es t):PE X (.List es pos) (tLst t):=by
 intro pins s σ H Q I hq
 refine wpAny_List_spliced (thn (h pos pins s σ H _ I hq) fun us s1 ⟨xs,H1,I1,r,z,q⟩=>⟨by rw [← r.length]; exact z,?_⟩)
 have hf:H1 s1.heap.objs.size=none:=I1.hok.fresh (Nat.le_refl _)
 refine ⟨.ref s1.heap.objs.size,upd H1 s1.heap.objs.size (.lst xs),I1.laid (t':=s1.toks) (fun b u e=>Heap.get?_push_of_some _ e) (Nat.le_refl _) ?_,rfl,q _ hf⟩
 exact ⟨z,us,0,r,Heap.get?_push_size _ rfl⟩
end
abbrev Sp:=List V→Hp→VK→XK→Prop
abbrev CXT:=List Env→Hp→Shared→XK→Value→Shared→Prop
structure Env0 (P:Program) (w:World) (K:PySem.W.Frag) (mg:Str→Option Value) (base:Heap) (A:Around) (outer:List Env) (s:Shared) (H:Hp):Prop where
 frames:A.frames=some outer
 mod:Mod K mg base
 bs:∀ b o,base.get? b=some o→s.heap.get? b=some o∧H b=none
 bsz:base.objs.size≤s.heap.objs.size
 funs:s.heap.FunFrames base outer
 frf:∀ b∈frs outer,H b=none
 hok:HOk P w H s.heap
 bare:AllBare s.gens
def CE (outer:List Env) (P:Program) (w:World) (H:Hp) (s:Shared) (Q:VK) (u:Value) (s':Shared):Prop :=
 ∃ v H',s'.os=s.os∧AllBare s'.gens∧Un (frs outer) [] H H' s.heap s'.heap∧HOk P w H' s'.heap∧RelV v u∧Q v H'
def CR (CX:CXT) (outer:List Env) (P:Program) (w:World) (H:Hp) (s:Shared) (Q:VK) (E:XK) (r:Result) (s':Shared):Prop :=
 match r with
 | .ok (.ret u)=>CE outer P w H s Q u s'
 | .ok _=>False
 | .error e=>CX outer H s E e s'
structure FnOk (P:Program) (w:World) (K:PySem.W.Frag) (mg:Str→Option Value) (base:Heap) (CX:CXT) (k:Nat) (f:Addr) (fd:FuncData) (ps:List Str) (sp:Sp):Prop where
 len:∀ vs H Q E,sp vs H Q E→vs.length=ps.length
 run:∀ (A:Around) (outer:List Env) (s:Shared) (H:Hp) (args:Args) (us:List Value) (vs:List V) (Q:VK) (E:XK),Room k A→Env0 P w K mg base A outer s H→BindsTo s fd args (ps.zip us)→Vals vs us→sp vs H Q E →
  codeAny (model P w) A (.call (.ref f) args) (CR CX outer P w H s Q E) s
theorem FnOk.mono {P:Program}{w:World}{K:PySem.W.Frag}{mg:Str→Option Value}{base:Heap}{CX:CXT}{j k:Nat}{f:Addr}{fd:FuncData}{ps:List Str}{sp:Sp} (F:FnOk P w K mg base CX j f fd ps sp) (h:j≤k) :
  FnOk P w K mg base CX k f fd ps sp:=⟨F.len,fun A outer s H args us vs Q E hr=>F.run A outer s H args us vs Q E (hr.mono h)⟩
theorem FnOk.imp {P:Program}{w:World}{K:PySem.W.Frag}{mg:Str→Option Value}{base:Heap}{CX:CXT}{k:Nat}{f:Addr}{fd:FuncData}{ps:List Str}{sp sp':Sp} (F:FnOk P w K mg base CX k f fd ps sp)
  (h:∀ vs H Q E,sp' vs H Q E→sp vs H Q E):FnOk P w K mg base CX k f fd ps sp' :=
 ⟨fun vs H Q E q=>F.len vs H Q E (h _ _ _ _ q),fun A outer s H args us vs Q E hr he hb hv hs=>F.run A outer s H args us vs Q E hr he hb hv (h _ _ _ _ hs)⟩
theorem Env0.make {P:Program}{w:World}{K:PySem.W.Frag}{mg:Str→Option Value}{base:Heap}{A:Around}{outer:List Env}{s:Shared}{H:Hp} (e:Env0 P w K mg base A outer s H) (C:Addr) (us:List Value) (kw:List (Str × Value)) :
  Env0 P w K mg base (A.under (.builtin "type.__call__" ⟨.ref C :: us,kw⟩)) outer s H:=⟨by first | exact e.frames | (simpa [Around.under,Code.envs,Code.isFrame,pushEnvs] using e.frames),e.mod,e.bs,e.bsz,e.funs,e.frf,e.hok,e.bare⟩
section
variable {X:Cx}{pins:List (Addr × Obj)}{σ:St}{H:Hp}{s s':Shared}
theorem Inv.env0 (I:Inv X pins σ H s):Env0 X.prog X.w X.K X.mg X.base X.A X.stack s H :=
 ⟨I.ok.frames,I.ok.mod,I.bs,Nat.le_trans I.ok.bsz I.sz,I.stack,I.stkFree,I.hok,I.bare⟩
theorem Inv.after {Q:VK}{u:Value} (I:Inv X pins σ H s) (h:CE X.stack X.prog X.w H s Q u s'):EP X pins σ Q u s':=by
 obtain ⟨v,H',os,bare,un,hok,r,q⟩:=h
 obtain ⟨hh,g,d,t,os'⟩:=s'
 obtain rfl:os'=s.os:=os
 exact ⟨v,H',I.call (h':=hh) (g':=g) (d':=d) (t':=t) (ch:=[]) un hok bare (fun b z=>absurd z (by simp)),r,q⟩
end
def tCall (sp:Sp) (dvs:List V) (E:XK) (t:TA):TE:=fun σ H Q=>t σ H fun vs H1=>sp (vs++dvs) H1 Q E
def tMeth (C:Addr) (m:Str) (sp:Sp) (dvs:List V) (E:XK) (ta:TE) (t:TA):TE:=fun σ H Q=>ta σ H fun x H1=>∃ a dx fs,x=.ref a∧H1 a=some (.ins C dx fs)∧fs.lookup m=none ∧
 t σ H1 fun vs H2=>sp (x :: (vs++dvs)) H2 Q E
def tMake (C:Addr) (sp:Sp) (dvs:List V) (E:XK) (t:TA):TE:=fun σ H Q=>t σ H fun vs H1=>∀ x dx,H1 x=none→H1 dx=none→dx≠x →
 sp (.ref x :: (vs++dvs)) (upd (upd H1 dx (.own x)) x (.ins C dx [])) (fun v H2=>v=.non∧Q (.ref x) H2) E
def Binds (K:PySem.W.Frag) (fd:FuncData) (ps:List Str) (ds:List Value):Prop :=
 ∀ (s:Shared) (us:List Value),K.In s.heap→(us++ds).length=ps.length→BindsTo s fd ⟨us,[]⟩ (ps.zip (us++ds))
theorem Binds.all {K:PySem.W.Frag}{fd:FuncData}{ps:List Str} (h:∀ us:List Value,us.length=ps.length→bindArgs fd ⟨us,[]⟩=pure (ps.zip us)):Binds K fd ps []:=fun s us _ hl=>by
 rw [List.append_nil] at hl ⊢
 exact .of_eq (h us hl)
def Passes (CX:CXT) (X:Cx) (E:XK):Prop:=∀ (pins:List (Addr × Obj)) (σ:St) (H:Hp) (s:Shared) (e:Value) (s':Shared),Inv X pins σ H s→CX X.stack H s E e s'→X.xe e s'
section
variable {X:Cx}{CX:CXT}{k:Nat}{f C:Addr}{fd:FuncData}{ps:List Str}{sp:Sp}{dvs:List V}{ds:List Value}{E:XK}{x m:Str}{p pos apos:Pos}{e o:Expr}{es:List Expr}{ta:TE}{t:TA}
theorem zajy {pins:List (Addr × Obj)}{σ:St}{H:Hp}{s:Shared}{Q:VK}{us:List Value}{vs:List V} (F:FnOk X.prog X.w X.K X.mg X.base CX k f fd ps sp) (hr:Room k X.A) (hb:Binds X.K fd ps ds) (hd:Vals dvs ds) (hx:Passes CX X E)
  (I:Inv X pins σ H s) (r:Vals vs us) (h:sp (vs++dvs) H Q E):wpAny (model X.prog X.w) X.A (call (.ref f) us) (EP X pins σ Q) X.xe s:=by
 have r2:Vals (vs++dvs) (us++ds):=r.append hd
 have hl:(us++ds).length=ps.length:=by rw [← r2.length]; exact F.len _ _ _ _ h
 refine wpAny_call (codeAny_mono (F.run X.A X.stack s H ⟨us,[]⟩ (us++ds) (vs++dvs) Q E hr I.env0 (hb s us I.kIn hl) r2 h) fun r s' hq=>?_)
 cases r with
 | error e=>exact hx pins σ H s e s' I hq
 | ok fl =>
  cases fl with
  | ret u=>exact I.after hq
  | next=>exact False.elim hq
  | brk=>exact False.elim hq
  | cont=>exact False.elim hq
theorem zaqs (F:FnOk X.prog X.w X.K X.mg X.base CX k f fd ps sp) (hr:Room k X.A) (hg:Gl X x) (hm:X.mg x=some (.ref f)) (hk:PySem.W.keepIn X.K (.ref f)=true) (hb:Binds X.K fd ps ds) (hd:Vals dvs ds) (hx:Passes CX X E)
  (ha:PA X (e :: es) t) (hdb:(x == ("__debug__" : Str))=false:=by decide) (he:starEach (e :: es) X.env=(false,eval e X.env) :: starEach es X.env:=by rfl) (hpl:(backTo pos (starEach es X.env)).any (·.1)=false:=by rfl) :
  PE X (.Call (.Name x p) (e :: es) [] pos) (tCall sp dvs E t):=by
 intro pins s σ H Q I h
 refine wpAny_Call_Name_kw (zago I hg hm ?_ hdb)
 refine PySem.W.callWith_K (h₀:=X.base) I.ok.mod.kin hk (thn (ha pos pins s σ H _ I h) fun us s1 ⟨vs,H1,I1,r,q⟩=>⟨I1.kIn,?_⟩) he hpl
 exact zajy F hr hb hd hx I1 r q
theorem zaqt {pl:Sem Bool} (he:PE X o ta) (c:Cls X.K C) (hm:Meth X.K C m f) (F:FnOk X.prog X.w X.K X.mg X.base CX k f fd ps sp) (hr:Room k X.A) (hb:Binds X.K fd ps ds) (hd:Vals dvs ds) (hx:Passes CX X E) (ha:PA X (e :: es) t)
  (hst:starEach (e :: es) X.env=(false,eval e X.env) :: starEach es X.env:=by rfl) (hpl:(backTo pos (starEach es X.env)).any (·.1)=false:=by rfl)
  (ht:eval (.Call (.Attribute o m apos) (e :: es) [] pos) X.env=(do
   let ov ← eval o X.env
   standAt apos.atName
   let (f,first) ← holding [ov] (getMethod ov m pl)
   callWith pos f first (backTo pos (starEach (e :: es) X.env)) (backToKw pos (keywordEach [] X.env))):=by rfl) :
  PE X (.Call (.Attribute o m apos) (e :: es) [] pos) (tMeth C m sp dvs E ta t):=by
 intro pins s σ H Q I h
 refine PySem.W.methodCall_KW (pl:=pl) (thn (he pins s σ H _ I h) fun u s1 ⟨x,H1,I1,rx,a,dx,fs,ex,ea,l,q⟩=>?_) ht
 subst ex
 obtain rfl:u=Value.ref a:=rx
 refine zagb I1 ea c hm l ?_
 refine PySem.W.callWith_K (first:=[.ref a]) (h₀:=X.base) I.ok.mod.kin hm.kp (thn (ha pos pins s1 σ H1 _ I1 q) fun us s2 ⟨vs,H2,I2,r,q2⟩=>⟨I2.kIn,?_⟩) hst hpl
 exact zajy (us:=.ref a :: us) (vs:=.ref a :: vs) F hr hb hd hx I2 (.cons rfl r) q2
theorem zaod {pl:Sem Bool} (he:PE X o ta) (c:Cls X.K C) (hm:Meth X.K C m f) (F:FnOk X.prog X.w X.K X.mg X.base CX k f fd ps sp) (hr:Room k X.A) (hb:Binds X.K fd ps ds) (hd:Vals dvs ds) (hx:Passes CX X E)
  (ht:eval (.Call (.Attribute o m apos) [] [] pos) X.env=(do
   let ov ← eval o X.env
   standAt apos.atName
   let (f,first) ← holding [ov] (getMethod ov m pl)
   callWith pos f first (backTo pos (starEach [] X.env)) (backToKw pos (keywordEach [] X.env))):=by rfl) :
  PE X (.Call (.Attribute o m apos) [] [] pos) (tMeth C m sp dvs E ta tNil):=by
 intro pins s σ H Q I h
 refine PySem.W.methodCall_KW (pl:=pl) (thn (he pins s σ H _ I h) fun u s1 ⟨x,H1,I1,rx,a,dx,fs,ex,ea,l,q⟩=>?_) ht
 subst ex
 obtain rfl:u=Value.ref a:=rx
 refine zagb I1 ea c hm l ?_
 exact PySem.W.callWith_K0 (first:=[.ref a]) I1.kIn hm.kp (zajy (us:=[.ref a]) (vs:=[.ref a]) F hr hb hd hx I1 (.cons rfl .nil) q)
structure Mk (K:PySem.W.Frag) (C f:Addr):Prop where
 makes:PySem.W.makesIn K C=true
 init:PySem.W.findIn K (.ref C) "__init__" = some (some (.ref f))
 fn:PySem.W.isFn K (.ref f)=true
 kp:PySem.W.keepIn K (.ref C)=true
theorem zajz {pins:List (Addr × Obj)}{σ:St}{H:Hp}{s:Shared}{Q:VK}{us:List Value}{vs:List V} (M:Mk X.K C f) (F:FnOk X.prog X.w X.K X.mg X.base CX k f fd ps sp) (hr:Room (k + 1) X.A) (hb:Binds X.K fd ps ds) (hd:Vals dvs ds)
  (hx:Passes CX X E) (I:Inv X pins σ H s) (r:Vals vs us)
  (h:∀ x dx,H x=none→H dx=none→dx≠x→sp (.ref x :: (vs++dvs)) (upd (upd H dx (.own x)) x (.ins C dx [])) (fun v H2=>v=.non∧Q (.ref x) H2) E) :
  wpAny (model X.prog X.w) X.A (call (.ref C) us) (EP X pins σ Q) X.xe s:=by
 have hq:=h (s.heap.objs.size + 1) s.heap.objs.size (I.hok.fresh (Nat.le_succ _)) (I.hok.fresh (Nat.le_refl _)) (Nat.ne_of_lt (Nat.lt_succ_self _))
 have I2:=Inv.made (C:=C) I
 have r2:Vals (V.ref (s.heap.objs.size + 1) :: (vs++dvs)) (Value.ref (s.heap.objs.size + 1) :: (us++ds)):=.cons rfl (r.append hd)
 have hl:(Value.ref (s.heap.objs.size + 1) :: us++ds).length=ps.length:=by
  have e:=r2.length
  rw [F.len _ _ _ _ hq] at e
  exact e.symm
 refine wpAny_call (zaoc (f:=f) I.kIn M.makes M.init (beq_iff_eq.mp M.fn) (codeAny_mono (F.run _ X.stack _ _ ⟨Value.ref (s.heap.objs.size + 1) :: us,[]⟩ (Value.ref (s.heap.objs.size + 1) :: (us++ds)) _ _ E (hr.make C us [])
  (I2.env0.make C us []) (hb _ (Value.ref (s.heap.objs.size + 1) :: us) I2.kIn hl) r2 hq) fun r s' hq'=>?_))
 cases r with
 | error e=>exact hx pins σ _ _ e s' I2 hq'
 | ok fl =>
  cases fl with
  | ret u =>
   obtain ⟨v,H',I3,rv,ev,q3⟩:=I2.after hq'
   subst ev
   exact ⟨rv,⟨V.ref (s.heap.objs.size + 1),H',I3,rfl,q3⟩⟩
  | next=>exact False.elim hq'
  | brk=>exact False.elim hq'
  | cont=>exact False.elim hq'
theorem zaqu (M:Mk X.K C f) (F:FnOk X.prog X.w X.K X.mg X.base CX k f fd ps sp) (hr:Room (k + 1) X.A) (hg:Gl X x) (hm:X.mg x=some (.ref C)) (hb:Binds X.K fd ps ds) (hd:Vals dvs ds) (hx:Passes CX X E)
  (ha:PA X (e :: es) t) (hdb:(x == ("__debug__" : Str))=false:=by decide) (he:starEach (e :: es) X.env=(false,eval e X.env) :: starEach es X.env:=by rfl) (hpl:(backTo pos (starEach es X.env)).any (·.1)=false:=by rfl) :
  PE X (.Call (.Name x p) (e :: es) [] pos) (tMake C sp dvs E t):=by
 intro pins s σ H Q I h
 refine wpAny_Call_Name_kw (zago I hg hm ?_ hdb)
 refine PySem.W.callWith_K (h₀:=X.base) I.ok.mod.kin M.kp (thn (ha pos pins s σ H _ I h) fun us s1 ⟨vs,H1,I1,r,q⟩=>⟨I1.kIn,?_⟩) he hpl
 exact zajz M F hr hb hd hx I1 r q
theorem zaoe (M:Mk X.K C f) (F:FnOk X.prog X.w X.K X.mg X.base CX k f fd ps sp) (hr:Room (k + 1) X.A) (hg:Gl X x) (hm:X.mg x=some (.ref C)) (hb:Binds X.K fd ps ds) (hd:Vals dvs ds) (hx:Passes CX X E)
  (hdb:(x == ("__debug__" : Str))=false:=by decide):PE X (.Call (.Name x p) [] [] pos) (tMake C sp dvs E tNil):=by
 intro pins s σ H Q I h
 refine wpAny_Call_Name_kw (zago I hg hm ?_ hdb)
 exact PySem.W.callWith_K0 I.kIn M.kp (zajz (us:=[]) M F hr hb hd hx I .nil h)
end
structure FnScope (N P:List Str) (sc:Scope):Prop where
 kind:sc.kind=.function
 co:sc.isCoroutine=false
 gen:sc.isGenerator=false
 nd:N.Nodup
 pre:N.take P.length=P
 par:∀ x∈P,sc.names.lookup x=some .local∨sc.names.lookup x=some .cell
 nofree:∀ y∈sc.names,y.2≠.free
theorem zaho {kindOf:Str→Option NameKind}{x:Str}:∀ {binds:List (Str × Value)}{m:Str→Option Value},(∀ v,(x,v) ∉ binds)→bindL kindOf binds m x=m x
 | [],_,_=>rfl
 | (n,v) :: r,m,h=>by
  unfold bindL
  rw [zaho fun w hw=>h w (List.mem_cons_of_mem _ hw)]
  split
  ·have:x≠n:=by rintro rfl; exact h v List.mem_cons_self
   simp [this]
  ·rfl
theorem zahp {kindOf:Str→Option NameKind}{x:Str}:∀ {binds:List (Str × Value)}{m:Str→Option Value},(∀ v,(x,v) ∉ binds)→bindC kindOf binds m x=m x
 | [],_,_=>rfl
 | (n,v) :: r,m,h=>by
  unfold bindC
  rw [zahp fun w hw=>h w (List.mem_cons_of_mem _ hw)]
  split
  ·rfl
  ·have:x≠n:=by rintro rfl; exact h v List.mem_cons_self
   simp [this]
theorem zahq {kindOf:Str→Option NameKind}{x:Str}{v:Value}:∀ {P:List Str}{vs:List Value}{i:Nat}{m:Str→Option Value},P.Nodup→P[i]?=some x→vs[i]?=some v→kindOf x=some .local →
  bindL kindOf (P.zip vs) m x=some v
 | [],_,_,_,_,h,_,_=>by simp at h
 | _ :: _,[],_,_,_,_,h,_=>by simp at h
 | p :: P,w :: vs,0,m,nd,h1,h2,hk=>by
  simp at h1 h2; subst h1; subst h2
  show bindL kindOf ((p,w) :: P.zip vs) m p=_
  unfold bindL
  rw [zaho fun v hv=>(List.nodup_cons.mp nd).1 (List.of_mem_zip hv).1,if_pos hk]
  simp
 | p :: P,w :: vs,i + 1,m,nd,h1,h2,hk=>by
  show bindL kindOf ((p,w) :: P.zip vs) m x=_
  unfold bindL
  exact zahq (i:=i) (List.nodup_cons.mp nd).2 (by simpa using h1) (by simpa using h2) hk
theorem zahr {kindOf:Str→Option NameKind}{x:Str}{v:Value}:∀ {P:List Str}{vs:List Value}{i:Nat}{m:Str→Option Value},P.Nodup→P[i]?=some x→vs[i]?=some v→kindOf x≠some .local →
  bindC kindOf (P.zip vs) m x=some v
 | [],_,_,_,_,h,_,_=>by simp at h
 | _ :: _,[],_,_,_,_,h,_=>by simp at h
 | p :: P,w :: vs,0,m,nd,h1,h2,hk=>by
  simp at h1 h2; subst h1; subst h2
  show bindC kindOf ((p,w) :: P.zip vs) m p=_
  unfold bindC
  rw [zahp fun v hv=>(List.nodup_cons.mp nd).1 (List.of_mem_zip hv).1,if_neg hk]
  simp
 | p :: P,w :: vs,i + 1,m,nd,h1,h2,hk=>by
  show bindC kindOf ((p,w) :: P.zip vs) m x=_
  unfold bindC
  exact zahr (i:=i) (List.nodup_cons.mp nd).2 (by simpa using h1) (by simpa using h2) hk
def start (N:List Str) (vs:List V):St:=vs.map some++List.replicate (N.length - vs.length) none
def cxOf (CX:CXT) (P:Program) (w:World) (K:PySem.W.Frag) (mg:Str→Option Value) (base:Heap) (N:List Str) (qual:Str) (scope:Scope) (f:Addr) (cd:Value) (A:Around) (outer:List Env) (s:Shared) (H:Hp) (E:XK):Cx where
 prog:=P
 w:=w
 K:=K
 mg:=mg
 base:=base
 A:=A.deeper (envOfC qual scope s.heap.objs.size f cd)
 N:=N
 s₀:=s
 H₀:=H
 env:=envOfC qual scope s.heap.objs.size f cd
 outer:=outer
 stack:=envOfC qual scope s.heap.objs.size f cd :: outer
 ex:=[]
 calm:=true
 fn:=fun _=>true
 pn:=[]
 xe:=fun e s'=>wpAny (model P w) (A.deeper (envOfC qual scope s.heap.objs.size f cd)) (leaving (envOfC qual scope s.heap.objs.size f cd) e) (fun _ s''=>CX outer H s E e s'') (fun e' s''=>CX outer H s E e' s'') s'
theorem zaj0 {sc:Scope}{n:Nat}{x:Str} (h:sc.names.lookup x=some .cell):∃ c,(cellsFrom n sc.names []).lookup x=some c:=by
 have q:=PySem.W.cellsFrom_some sc.names n [] (.inl h)
 exact Option.isSome_iff_exists.mp q
theorem zalq {CX:CXT}{P:Program}{w:World}{K:PySem.W.Frag}{mg:Str→Option Value}{base:Heap}{N ps:List Str}{qual:Str}{scope:Scope}{f:Addr}{cd:Value}{A:Around}{outer:List Env}{s s1:Shared}{H:Hp}{E:XK}{us:List Value}{vs:List V}
  (S:FnScope N ps scope) (hd:A.handled=none) (e0:Env0 P w K mg base A outer s H) (hl:vs.length=ps.length) (r:Vals vs us)
  (x:InCallC s s.heap.objs.size (bindL (envOfC qual scope s.heap.objs.size f cd).kindOf (ps.zip us) fun _=>none) (cellsFrom (s.heap.objs.size + 1) scope.names []) (bindC (envOfC qual scope s.heap.objs.size f cd).kindOf (ps.zip us) fun _=>none) s1) :
  Inv (cxOf CX P w K mg base N qual scope f cd A outer s H E) [] (start N vs) H s1:=by
 have hpl:ps.length≤N.length:=by have:=congrArg List.length S.pre; rw [List.length_take] at this; omega
 obtain ⟨h1,tk,rfl,hk⟩:=x.done
 have noA:∀ b:Addr,b ∉ (cxOf CX P w K mg base N qual scope f cd A outer s H E).ex:=fun b z=>absurd (show b∈([]:List Addr) from z) (by simp)
 refine ⟨⟨e0.mod,S.kind,rfl,rfl,Nat.le_refl _,fun y z c h1 h2=>?_,fun y hy=>?_,fun y c _ h=>?_,fun _=>hd,Around.frames_deeper e0.frames,.inr ⟨rfl,rfl⟩,fun b z=>absurd z (noA b),e0.bs,e0.bsz,fun b _ _=>noA b,fun b z=>absurd z (noA b),e0.funs,e0.frf⟩,
  rfl,e0.bare,Un.kept hk,⟨_,x.toInCall.ns,fun i y v h1 h2 h3=>?_⟩,fun y c h=>⟨_,x.cell y c h⟩,e0.hok.fresh (Nat.le_refl _),fun y c h=>?_,fun p hp=>absurd (show p∈([]:List (Addr × Obj)) from hp) (by simp),e0.hok.kept hk,?_⟩
 ·exact name_of_addr x.apart (PySem.mem_of_lookup h1) (PySem.mem_of_lookup h2)
 ·have hy:scope.names.lookup y=some .cell∨scope.names.lookup y=some .free:=hy
  rcases hy with hy | hy
  ·exact zaj0 hy
  ·exact absurd rfl (S.nofree _ (PySem.mem_of_lookup hy))
 ·exact Nat.le_of_lt (x.above y c (PySem.mem_of_lookup h))
 ·have hi:i < vs.length:=by
   unfold start at h2
   by_cases hi:i < vs.length
   ·exact hi
   ·rw [List.getElem?_append_right (by simpa using hi)] at h2
    rw [List.getElem?_replicate] at h2
    split at h2 <;> cases h2
  have ha:vs[i]?=some v:=by
   unfold start at h2
   rw [List.getElem?_append_left (by simpa using hi),List.getElem?_map] at h2
   cases e:vs[i]? with
   | none=>rw [e] at h2; cases h2
   | some a=>rw [e] at h2; cases h2; rfl
  obtain ⟨u,hu,rv⟩:=r.get ha
  have hp:ps[i]?=some y:=by
   rw [← S.pre,List.getElem?_take_of_lt (by omega)]; exact h1
  have ndP:ps.Nodup:=by rw [← S.pre]; exact S.nd.sublist (List.take_sublist _ _)
  refine ⟨u,rv,?_⟩
  rcases S.par y (List.mem_of_getElem? hp) with k | k
  ·exact .inl ⟨k,zahq ndP hp hu k⟩
  ·obtain ⟨c,e⟩:=zaj0 (n:=s.heap.objs.size + 1) k
   refine .inr ⟨.inl k,c,e,?_⟩
   have q:=x.cell y c e
   rw [zahr ndP hp hu (by show scope.names.lookup y≠_; rw [k]; decide)] at q
   exact q
 ·exact e0.hok.fresh (Nat.le_of_lt (x.above y c (PySem.mem_of_lookup h)))
 ·unfold start
  show _=N.length
  rw [List.length_append,List.length_map,List.length_replicate]
  omega
theorem zau3 {CX:CXT}{P:Program}{w:World}{K:PySem.W.Frag}{mg:Str→Option Value}{base:Heap}{k:Nat}{f:Addr}{name qual:Str}{params:Arguments}{body:List Stmt}{scope:Scope}{dV kV doc pm cdv ct oc:Value}{an od:Option Addr}
  {osl:Array (Option Value)}{N ps:List Str}{sp:Sp} (lk:K.lookup f=some ⟨oc,od,.func (PySem.W.fnOf name qual params body scope dV kV doc pm an cdv ct),osl⟩) (hcd:PySem.W.codeIn K cdv qual=true) (S:FnScope N ps scope)
  (len:∀ vs H Q E,sp vs H Q E→vs.length=ps.length)
  (hbody:∀ (A:Around) (outer:List Env) (s:Shared) (H:Hp) (vs:List V) (Q:VK) (E:XK),Room k (A.deeper (envOfC qual scope s.heap.objs.size f cdv))→sp vs H Q E →
   ∃ t,PSs (cxOf CX P w K mg base N qual scope f cdv A outer s H E) body t∧t { nx:=fun _ H'=>Q .non H',rt:=Q } (start N vs) H) :
  FnOk P w K mg base CX (k + 1) f (PySem.W.fnOf name qual params body scope dV kV doc pm an cdv ct) ps sp:=by
 refine ⟨len,fun A outer s H args us vs Q E hr e0 hb r hsp=>?_⟩
 have hl:=len _ _ _ _ hsp
 have KX:K.In s.heap:=e0.mod.kin.keeps fun b o e=>(e0.bs b o e).1
 have lim:s.heap.NoLimit:=e0.mod.nolimit.keeps fun b o e=>(e0.bs b o e).1
 have hkind:∀ y∈ps.zip us,scope.names.lookup y.1=some .local∨(scope.names.lookup y.1=some .cell∧((cellsFrom (s.heap.objs.size + 1) scope.names []).lookup y.1).isSome=true):=fun ⟨n,v⟩ hy=>by
  rcases S.par n (List.of_mem_zip hy).1 with q | q
  ·exact .inl q
  ·exact .inr ⟨q,PySem.W.cellsFrom_some _ _ _ (.inl q)⟩
 refine codeAny_call_function hr.depth (KX _ _ lk) rfl S.co S.gen rfl (PySem.W.codeRec_of KX hcd) (hb _ _ _ _ ?_)
 refine wpAny_newFunctionEnv_cells S.kind hkind fun env he s1 x=>?_
 subst he
 refine ⟨lim.keeps x.toInCall.keep,codeAny_func ?_⟩
 obtain ⟨t,ht,hq⟩:=hbody A outer s H vs Q E (hr.deeper _) hsp
 have I:Inv (cxOf CX P w K mg base N qual scope f cdv A outer s H E) [] (start N vs) H s1:=zalq S hr.hd e0 hl r x
 refine wpAny_mono (ht [] s1 (start N vs) H _ I hq) (fun fl s' hs=>?_) fun e s' hs=>hs
 have fin:∀ {σ':St}{H':Hp}{v:V}{u:Value},Inv (cxOf CX P w K mg base N qual scope f cdv A outer s H E) [] σ' H' s'→RelV v u→Q v H'→CE outer P w H s Q u s' :=
  fun {σ' H' v u} J rv q=>⟨v,H',J.os,J.bare,J.base,J.hok,rv,q⟩
 cases fl with
 | ret u =>
  obtain ⟨v,σ',H',J,rv,q⟩:=hs
  exact fin J rv q
 | next =>
  obtain ⟨σ',H',J,q⟩:=hs
  exact fin (v:=V.non) (u:=Value.none) J rfl q
 | brk =>
  obtain ⟨_,_,_,q⟩:=hs
  exact False.elim q
 | cont =>
  obtain ⟨_,_,_,q⟩:=hs
  exact False.elim q
section
variable {X:Cx}{x:Str}{p pos:Pos}{e:Expr}{es:List Expr}{t:TA}{id T:String}{r:List V→Hp→VK→Prop}
def tCB (r:List V→Hp→VK→Prop) (t:TA):TE:=fun σ H Q=>t σ H fun vs H1=>r vs H1 Q
theorem zaof (hc:CallR X (.builtin id) r) (hg:Gl X x) (hm:X.mg x=none) (hv:bootBuiltins x=some (.builtin id)) (ha:PA X (e :: es) t) (hn:x ≠ "__name__" := by decide) (hdb:(x == ("__debug__" : Str))=false:=by decide)
  (he:starEach (e :: es) X.env=(false,eval e X.env) :: starEach es X.env:=by rfl) (hpl:(backTo pos (starEach es X.env)).any (·.1)=false:=by rfl):PE X (.Call (.Name x p) (e :: es) [] pos) (tCB r t):=by
 intro pins s σ H Q I h
 refine wpAny_Call_Name_kw (zafo I hg hm hv ?_ hn hdb)
 exact PyProof.Rows.callWith_builtin1 (thn (ha pos pins s σ H _ I h) fun us s1 ⟨vs,H1,I1,r1,q1⟩=>hc pins s1 σ H1 vs us Q I1 r1 q1) he hpl
theorem zalr (hc:CallR X (.type T) r) (hg:Gl X x) (hm:X.mg x=none) (hv:bootBuiltins x=some (.type T)) (ha:PA X (e :: es) t) (hn:x ≠ "__name__" := by decide) (hdb:(x == ("__debug__" : Str))=false:=by decide)
  (he:starEach (e :: es) X.env=(false,eval e X.env) :: starEach es X.env:=by rfl) (hpl:(backTo pos (starEach es X.env)).any (·.1)=false:=by rfl):PE X (.Call (.Name x p) (e :: es) [] pos) (tCB r t):=by
 intro pins s σ H Q I h
 refine wpAny_Call_Name_kw (zafo I hg hm hv ?_ hn hdb)
 exact PyProof.Rows.callWith_type1 (thn (ha pos pins s σ H _ I h) fun us s1 ⟨vs,H1,I1,r1,q1⟩=>hc pins s1 σ H1 vs us Q I1 r1 q1) he hpl
end
end L2
namespace HT
open PySem PyProof.Rows
section
variable {prog:Program}{w:World}{A:Around}{E:Value→Shared→Prop}{s:Shared}
def sIx (n d:Nat):Option Int→Nat
 | none=>d
 | some v=>if v < 0 then (v + (n:Int)).toNat else min v.toNat n
theorem sIx_none (n d:Nat):sIx n d none=d:=rfl
theorem sIx_nat (n d k:Nat):sIx n d (some (k:Int))=min k n:=by
 show (if (k:Int) < 0 then ((k:Int) + (n:Int)).toNat else min (k:Int).toNat n)=min k n
 rw [if_neg (by omega),Int.toNat_natCast]
theorem zatg (n d:Nat) (hd:d≤n) (o:Option Int):sIx n d o≤n:=by
 cases o with
 | none=>exact hd
 | some v =>
  show (if v < 0 then (v + (n:Int)).toNat else min v.toNat n)≤n
  by_cases hv:v < 0
  ·rw [if_pos hv]; omega
  ·rw [if_neg hv]; exact Nat.min_le_right _ _
theorem zals (v:Int) (n d:Nat):(if v < 0 then max (v + (n:Int)) 0 else min v (n:Int))=((sIx n d (some v):Nat):Int):=by
 show (if v < 0 then max (v + (n:Int)) 0 else min v (n:Int))=(((if v < 0 then (v + (n:Int)).toNat else min v.toNat n):Nat):Int)
 by_cases hv:v < 0
 ·simp only [if_pos hv]; omega
 ·simp only [if_neg hv]; omega
theorem zakr (lo hi:Option Int) (n:Nat):Builtin.Slice.sliceAdjust lo hi 1 (n:Int)=(((sIx n 0 lo:Nat):Int),((sIx n n hi:Nat):Int)):=by
 have h1:¬ ((1:Int) < 0):=by omega
 unfold Builtin.Slice.sliceAdjust
 simp only [h1,if_false]
 refine Prod.ext ?_ ?_
 ·cases lo with
  | none=>rfl
  | some v=>exact zals v n 0
 ·cases hi with
  | none=>rfl
  | some v=>exact zals v n n
theorem zaks (i j:Nat):Builtin.Slice.slicePlaces (i:Int) (j:Int) 1=j - i:=by
 unfold Builtin.Slice.slicePlaces
 have h1:(1:Int) > 0:=by omega
 simp only [h1,if_true,Int.ediv_one]
 split <;> omega
theorem zagc {v:Value}{o:Option Int}{Q:Option Int→Shared→Prop} (p:IsPart v o) (h:Q o s):wpAny (model prog w) A (Builtin.Slice.slicePartIndex v) Q E s:=by
 cases p with
 | none=>exact slicePart_none h
 | int i t=>exact slicePart_int h
theorem zafb {sl:Addr}{vl vu:Value}{lo hi:Option Int}{n:Nat}{Q:Int × Int × Nat→Shared→Prop} (hs:s.heap.IsSliceOf sl vl vu .none) (pl:IsPart vl lo) (pu:IsPart vu hi)
  (h:Q (((sIx n 0 lo:Nat):Int),1,sIx n n hi - sIx n 0 lo) s):wpAny (model prog w) A (Builtin.Slice.sliceApplied (.ref sl) (pure (n:Int))) Q E s:=by
 obtain ⟨os,hos,hcs,hds⟩:=id hs
 unfold Builtin.Slice.sliceApplied Builtin.Slice.sliceFields
 refine wpAny_bind (wpAny_bind (wpAny_field hos hds (x:=vl) rfl (wpAny_bind (wpAny_field hos hds (x:=vu) rfl (wpAny_bind (wpAny_field hos hds (x:=.none) rfl (wpAny_pure ?_)))))))
 refine wpAny_bind (slicePart_none ?_)
 show wpAny _ _ (if ((1:Int) == 0)=true then _ else _) _ _ s
 rw [if_neg (by decide)]
 refine wpAny_bind (zagc pl (wpAny_bind (zagc pu (wpAny_bind (wpAny_pure ?_)))))
 show wpAny _ _ (match Builtin.Slice.sliceAdjust lo hi 1 (n:Int) with | (lo,hi)=>pure (lo,(1:Int),Builtin.Slice.slicePlaces lo hi 1)) _ _ s
 rw [zakr lo hi n]
 show wpAny _ _ (pure (((sIx n 0 lo:Nat):Int),(1:Int),Builtin.Slice.slicePlaces ((sIx n 0 lo:Nat):Int) ((sIx n n hi:Nat):Int) 1)) _ _ s
 rw [zaks]
 exact wpAny_pure h
theorem zaog (xs:Array Value) (i k:Nat):((List.range k).filterMap fun (m:Nat)=>xs[((i:Int) + (m:Int) * 1).toNat]?).toArray=((xs.toList.drop i).take k).toArray:=by
 have e:(fun (m:Nat)=>xs[((i:Int) + (m:Int) * 1).toNat]?)=fun m=>xs[i + m]?:=by
  funext m
  have:((i:Int) + (m:Int) * 1).toNat=i + m:=by omega
  rw [this]
 rw [e]
 have:=pick_run xs i k
 rw [List.filterMap_map] at this
 have e2:((fun x=>xs[x]?) ∘ fun x=>i + x)=fun m=>xs[i + m]?:=rfl
 rw [e2] at this
 rw [this]
theorem getItem_tuple_cut {t sl:Addr}{items:Array Value}{vl vu:Value}{lo hi:Option Int}{Q:Value→Shared→Prop} (ht:IsTup s.heap t items) (hs:s.heap.IsSliceOf sl vl vu .none) (pl:IsPart vl lo) (pu:IsPart vu hi)
  (hw:¬ (sIx items.size 0 lo=0∧sIx items.size items.size hi=items.size))
  (h:Q (.ref s.heap.objs.size) { s with heap:=s.heap.push { cls:=.type "tuple",data:=.seq ((items.toList.drop (sIx items.size 0 lo)).take (sIx items.size items.size hi - sIx items.size 0 lo)).toArray } })
  (hsz:items.size≤sizeLine):wpAny (model prog w) A (getItem (.ref t) (.ref sl)) Q E s:=by
 have htake:sizeOk (.seq ((items.toList.drop (sIx items.size 0 lo)).take (sIx items.size items.size hi - sIx items.size 0 lo)).toArray):=by
  show ((items.toList.drop (sIx items.size 0 lo)).take (sIx items.size items.size hi - sIx items.size 0 lo)).toArray.size≤sizeLine
  rw [List.size_toArray,List.length_take,List.length_drop,Array.length_toList]
  omega
 have hj:sIx items.size items.size hi≤items.size:=zatg _ _ (Nat.le_refl _) hi
 obtain ⟨os,hos,hcs,hds⟩:=id hs
 have hTs:s.TypeIs (.ref sl) "slice" := ⟨os,hos,hcs⟩
 unfold getItem
 try with_reducible refine wpAny_holding ?_
 first | refine wpAny_bind (wpAny_pure ?_) | skip
 refine wpAny_bind (wpAny_sequenceKey ht.typeIs (by decide) ?_)
 refine wpAny_bind (wpAny_callSpecial?_slot (name:=Str.ofString "__getitem__") ht.typeIs PyProof.Rows.slot_tuple_getitem
  (wpAny_call_entry PyProof.Rows.slot_tuple_getitem ht.typeIs entry_tuple_getitem ?_ (args_tuple_getitem _ _)))
 show wpAny _ _ (Builtin.Tuple.tupleItemsOf (.ref t) >>= _) _ _ s
 refine wpAny_bind (tupleItemsOf_ ht ?_)
 refine wpAny_bind (wpAny_typeOf hTs ?_)
 rw [if_pos (by decide)]
 refine wpAny_bind (zafb hs pl pu ?_)
 have hno:¬ ((((sIx items.size 0 lo:Nat):Int) == 0 && (1:Int) == 1 && (sIx items.size items.size hi - sIx items.size 0 lo) == items.size)=true):=by
  intro q
  rw [Bool.and_eq_true,Bool.and_eq_true] at q
  have q1:((sIx items.size 0 lo:Nat):Int)=0:=eq_of_beq q.1.1
  have q2:sIx items.size items.size hi - sIx items.size 0 lo=items.size:=eq_of_beq q.2
  exact hw ⟨by omega,by omega⟩
 show wpAny _ _ (if (((sIx items.size 0 lo:Nat):Int) == 0 && (1:Int) == 1 && (sIx items.size items.size hi - sIx items.size 0 lo) == items.size)=true then _ else _) _ _ s
 rw [if_neg hno,zaog]
 first
  | exact wpAny_bind (m:=Builtin.Tuple.tupleExact _) (wpAny_newObj_type (wpAny_pure ⟨_,rfl,wpAny_pure h⟩) htake)
  | exact wpAny_bind (m:=Builtin.Tuple.tupleExact _) (wpAny_newObj_type (wpAny_bind (wpAny_pure (wpAny_pure ⟨_,rfl,wpAny_pure h⟩))) htake)
  | exact wpAny_bind (wpAny_bind (m:=Builtin.Tuple.tupleExact _) (wpAny_newObj_type (wpAny_pure (wpAny_pure ⟨_,rfl,wpAny_pure h⟩)) htake))
  | exact wpAny_bind (wpAny_bind (m:=Builtin.Tuple.tupleExact _) (wpAny_newObj_type (wpAny_pure ⟨_,rfl,wpAny_pure h⟩) htake))
end
end HT
namespace L2
open PySem PySem.Spec PyProof.Rows
abbrev TO:=St→Hp→(Option Int→Hp→Prop)→Prop
def PO (X:Cx) (e:Option Expr) (t:TO):Prop :=
 ∀ (pins:List (Addr × Obj)) (s:Shared) (σ:St) (H:Hp) (Q:Option Int→Hp→Prop),Inv X pins σ H s→t σ H Q →
  wpAny (model X.prog X.w) X.A (evalPart e X.env) (fun u s'=>∃ o H',Inv X pins σ H' s'∧IsPart u o∧Q o H') X.xe s
def tNoPart:TO:=fun _ H Q=>Q none H
def tPart (t:TE):TO:=fun σ H Q=>t σ H fun x H1=>∃ i,x=.int i∧Q (some i) H1
section
variable {X:Cx}{e:Expr}{te:TE}{lo hi:Option Expr}{tl th:TO}{pos p2:Pos}
theorem zaqv:PO X none tNoPart:=by
 intro pins s σ H Q I h
 rw [evalPart_none]
 exact wpAny_pure ⟨none,H,I,.none,h⟩
theorem zaqw (h:PE X e te):PO X (some e) (tPart te):=by
 intro pins s σ H Q I hw
 rw [evalPart_some]
 refine thn (h pins s σ H _ I hw) fun u s1 ⟨x,H1,I1,r1,q1⟩=>?_
 obtain ⟨i,rfl,q⟩:=q1
 obtain ⟨t,rfl⟩:=r1
 exact ⟨some i,H1,I1,.int i t,q⟩
def SlR (X:Cx) (r:V→Option Int→Option Int→Hp→VK→Prop):Prop :=
 ∀ (pins:List (Addr × Obj)) (s:Shared) (σ:St) (H:Hp) (x:V) (v vl vu:Value) (lo hi:Option Int) (sl:Addr) (Q:VK),Inv X pins σ H s→RelV x v→s.heap.IsSliceOf sl vl vu .none→IsPart vl lo→IsPart vu hi→r x lo hi H Q →
  ∃ T id,typeLookup (.type T) "__getitem__" = pure (some (.builtin id))∧s.TypeIs v T∧wpAny (model X.prog X.w) X.A (getItem v (.ref sl)) (EP X pins σ Q) X.xe s
def tSl (r:V→Option Int→Option Int→Hp→VK→Prop) (te:TE) (tl th:TO):TE:=fun σ H Q=>te σ H fun x H1=>tl σ H1 fun l H2=>th σ H2 fun u H3=>r x l u H3 Q
theorem zaoh {r:V→Option Int→Option Int→Hp→VK→Prop} (hr:SlR X r) (he:PE X e te) (hl:PO X lo tl) (hu:PO X hi th):PE X (.Subscript e (.Slice lo hi none p2) pos) (tSl r te tl th):=by
 intro pins s σ H Q I h
 refine Subscript_ (thn (he pins s σ H _ I h) fun v s1 ⟨x,H1,I1,r1,q1⟩=>?_)
 refine wpAny_Slice (thn (hl pins s1 σ H1 _ I1 q1) fun vl s2 ⟨l,H2,I2,pl,q2⟩=>thn (hu pins s2 σ H2 _ I2 q2) fun vu s3 ⟨u,H3,I3,pu,q3⟩=>?_)
 rw [evalPart_none]
 refine wpAny_pure ?_
 have I4:Inv X pins σ H3 { s3 with heap:=s3.heap.push { cls:=.type "slice",data:=.fields #[vl,vu,.none] } }:=I3.kept (t':=s3.toks) fun b ob q=>Heap.get?_push_of_some _ q
 obtain ⟨T,id,hT,ht,hg⟩:=hr pins { s3 with heap:=s3.heap.push { cls:=.type "slice",data:=.fields #[vl,vu,.none] } } σ H3 x v vl vu l u s3.heap.objs.size Q I4 r1 (Heap.IsSliceOf.new ..) pl pu q3
 show wpAny (model X.prog X.w) X.A (subscriptTail e (.Slice lo hi none p2) v (.ref s3.heap.objs.size)) (EP X pins σ Q) X.xe { s3 with heap:=s3.heap.push { cls:=.type "slice",data:=.fields #[vl,vu,.none] } }
 exact tail_any (ops:=[.ref s3.heap.objs.size,v]) ht hT hg (by with_unfolding_all rfl)
def cutV (xs:List V) (lo hi:Option Int):List V:=(xs.drop (HT.sIx xs.length 0 lo)).take (HT.sIx xs.length xs.length hi - HT.sIx xs.length 0 lo)
theorem zaim (xs:List V) (lo hi:Option Int):(cutV xs lo hi).length≤xs.length:=by
 unfold cutV
 rw [List.length_take,List.length_drop]
 omega
def rSlT (K:PySem.W.Frag):V→Option Int→Option Int→Hp→VK→Prop:=fun x lo hi H Q=>∃ a xs,x=.ref a∧SqT K H a xs ∧
 ¬ (HT.sIx xs.length 0 lo=0∧HT.sIx xs.length xs.length hi=xs.length)∧∀ p,H p=none→Q (.ref p) (upd H p (.tup (cutV xs lo hi)))
theorem zaj1:SlR X (rSlT X.K):=by
 intro pins s σ H x v vl vu lo hi sl Q I rx hs pl pu h
 obtain ⟨a,xs,rfl,hx,hw,q⟩:=h
 cases rx
 obtain ⟨its,r,ht,hz⟩:=I.tuple hx
 have hlen:its.toArray.size=xs.length:=by rw [List.size_toArray]; exact r.length.symm
 refine ⟨"tuple",_,PyProof.Rows.slot_tuple_getitem.lookup,ht.typeIs,?_⟩
 refine HT.getItem_tuple_cut ht hs pl pu (by rw [hlen]; exact hw) ?_ (by rw [hlen]; exact hz)
 rw [hlen]
 refine ⟨.ref s.heap.objs.size,_,I.laid (t':=s.toks) (o:=.tup (cutV xs lo hi)) (fun b ob q=>Heap.get?_push_of_some _ q) (Nat.le_refl _) ?_,rfl,q _ (I.hok.fresh (Nat.le_refl _))⟩
 exact ⟨Nat.le_trans (zaim xs lo hi) hz,_,(r.drop (HT.sIx xs.length 0 lo)).take (HT.sIx xs.length xs.length hi - HT.sIx xs.length 0 lo),IsTup.new _ _⟩
end
def ixN (n:Nat) (i:Int):Option Nat:=if 0≤i then (if i < n then some i.toNat else none) else if -(n:Int)≤i then some (i + n).toNat else none
def atI {α:Type} (xs:List α) (i:Int):Option α:=(ixN xs.length i).bind fun j=>xs[j]?
theorem zalt {n:Nat}{i:Int}{j:Nat} (h:ixN n i=some j):seqIndex? i n=some j∧j < n∧-(n:Int)≤i∧i < n:=by
 unfold ixN at h
 by_cases h0:0≤i
 ·rw [if_pos h0] at h
  by_cases h1:i < n
  ·rw [if_pos h1] at h
   have e:i.toNat=j:=Option.some.inj h
   exact ⟨by rw [seqIndex_of h0 h1,e],by omega,by omega,h1⟩
  ·rw [if_neg h1] at h; cases h
 ·rw [if_neg h0] at h
  by_cases h1:-(n:Int)≤i
  ·rw [if_pos h1] at h
   have e:(i + n).toNat=j:=Option.some.inj h
   exact ⟨by rw [seqIndex_neg (by omega) h1,e],by omega,h1,by omega⟩
  ·rw [if_neg h1] at h; cases h
theorem zalu {α:Type}{xs:List α}{i:Int}{v:α} (h:atI xs i=some v):∃ j,seqIndex? i xs.length=some j∧xs[j]?=some v∧j < xs.length∧-(xs.length:Int)≤i∧i < xs.length:=by
 unfold atI at h
 cases e:ixN xs.length i with
 | none=>rw [e] at h; cases h
 | some j =>
  rw [e] at h
  obtain ⟨h1,h2,h3,h4⟩:=zalt e
  exact ⟨j,h1,h,h2,h3,h4⟩
theorem zacx {α:Type}{xs:List α}{j:Nat}{v:α} (h:xs[j]?=some v):atI xs (j:Int)=some v:=by
 have hj:j < xs.length:=(List.getElem?_eq_some_iff.mp h).1
 have e:ixN xs.length (j:Int)=some j:=by
  unfold ixN
  rw [if_pos (by omega),if_pos (by omega)]; simp
 unfold atI; rw [e]; exact h
def PlainIx (b:Expr):Prop:=∀ o i,subscripted b false o i=operate [o,i] (getItem o i)
def IxR (X:Cx) (r:R2):Prop :=
 ∀ (value slice:Expr) (pins:List (Addr × Obj)) (s:Shared) (σ:St) (H:Hp) (x y:V) (v u:Value) (Q:VK),Inv X pins σ H s→RelV x v→RelV y u→r x y H Q →
  subscripted slice false v u=operate [v,u] (getItem v u)→wpAny (model X.prog X.w) X.A (subscriptTail value slice v u) (EP X pins σ Q) X.xe s
def MtR (X:Cx) (id:String) (r:V→List V→Hp→VK→Prop):Prop :=
 ∀ (pins:List (Addr × Obj)) (s:Shared) (σ:St) (H:Hp) (x:V) (xs:List V) (v:Value) (us:List Value) (Q:VK),Inv X pins σ H s→RelV x v→Vals xs us→r x xs H Q →
  wpAny (model X.prog X.w) X.A (call (.builtin id) (v :: us)) (EP X pins σ Q) X.xe s
section
variable {X:Cx}{a b:Expr}{ta tb:TE}{pos:Pos}
theorem zau4 {r:R2} (hr:IxR X r) (ha:PE X a ta) (hb:PE X b tb) (hs:PlainIx b):PE X (.Subscript a b pos) (tOp r ta tb):=by
 intro pins s σ H Q I h
 exact Subscript_ (binT ha hb I h fun v u s2 x y H2 I2 rx ry q=>hr a b pins s2 σ H2 x y v u Q I2 rx ry q (hs _ _))
def rIxL (K:PySem.W.Frag):R2:=fun x y H Q=>∃ p xs i v,x=.ref p∧y=.int i∧SqL K H p xs∧atI xs i=some v∧Q v H
def rIxT (K:PySem.W.Frag):R2:=fun x y H Q=>∃ p xs i v,x=.ref p∧y=.int i∧SqT K H p xs∧atI xs i=some v∧Q v H
theorem zaqx:IxR X (rIxL X.K):=by
 intro value slice pins s σ H x y v u Q I rx ry h hs
 obtain ⟨p,xs,i,z,rfl,rfl,hq,he,q⟩:=h
 cases rx
 obtain ⟨t,rfl⟩:=ry
 obtain ⟨its,r,pl,hz⟩:=I.list hq
 obtain ⟨j,h1,h2,h3,h4,h5⟩:=zalu he
 obtain ⟨w,ew,rw'⟩:=r.get h2
 have hl:=r.length
 have hn:=line63
 have fin:EP X pins σ Q w s:=⟨z,H,I,rw',q⟩
 by_cases h0:0≤i
 ·have hj:i.toNat=j:=by
   rw [seqIndex_of h0 h5] at h1
   exact Option.some.inj h1
  exact item_listR pl.isList h0 (by omega) (by rw [hj]; simpa using ew) fin hs
 ·have hj:(i + (its.toArray.size:Int)).toNat=j:=by
   rw [seqIndex_neg (by omega) h4] at h1
   rw [List.size_toArray,← hl]
   exact Option.some.inj h1
  exact subscriptTail_builtinR (x:=w) pl.isList.typeIs slot_list_getitem.lookup
   (wpAny_getItem_list_neg (Q:=fun r s'=>r=w∧EP X pins σ Q r s') pl.isList (by omega) (by rw [List.size_toArray] <;> omega) (by omega) (by rw [hj]; simpa using ew) ⟨rfl,fin⟩) hs
theorem zath:IxR X (rIxT X.K):=by
 intro value slice pins s σ H x y v u Q I rx ry h hs
 obtain ⟨p,xs,i,z,rfl,rfl,hq,he,q⟩:=h
 cases rx
 obtain ⟨t,rfl⟩:=ry
 obtain ⟨its,r,pl,hz⟩:=I.tuple hq
 obtain ⟨j,h1,h2,h3,h4,h5⟩:=zalu he
 obtain ⟨w,ew,rw'⟩:=r.get h2
 have hl:=r.length
 have hn:=line63
 have fin:EP X pins σ Q w s:=⟨z,H,I,rw',q⟩
 exact subscriptTail_builtinR (x:=w) pl.typeIs slot_tuple_getitem.lookup
  (getItem_tuple (j:=j) (Q:=fun r s'=>r=w∧EP X pins σ Q r s') pl (by omega) (by omega) (by rw [List.size_toArray,← hl]; exact h1) (by simpa using ew) ⟨rfl,fin⟩) hs
theorem zakt (its:List Value) (n j:Nat) (u:Value):Obj.mapSeq (·.setIfInBounds j u) { cls:=.type "list",data:=.seq its.toArray n }={ cls:=.type "list",data:=.seq (its.set j u).toArray n }:=by
 simp [Obj.mapSeq]
theorem Inv.lst {pins:List (Addr × Obj)}{σ:St}{H:Hp}{s:Shared}{p:Addr}{xs:List V} (I:Inv X pins σ H s) (h:H p=some (.lst xs)) :
  ∃ (its:List Value) (n:Nat),Vals xs its∧s.heap.get? p=some { cls:=.type "list",data:=.seq its.toArray n }∧xs.length≤sizeLine:=by
 obtain ⟨z,its,n,r,e⟩:=I.hok p _ h
 exact ⟨its,n,r,e,z⟩
theorem Inv.lstUpd {pins:List (Addr × Obj)}{σ:St}{H:Hp}{s:Shared}{p:Addr}{xs ys:List V}{its its':List Value}{n n':Nat}{f:Obj→Obj} (I:Inv X pins σ H s) (h:H p=some (.lst xs))
  (ho:s.heap.get? p=some { cls:=.type "list",data:=.seq its.toArray n }) (hf:f { cls:=.type "list",data:=.seq its.toArray n }={ cls:=.type "list",data:=.seq its'.toArray n' }) (r:Vals ys its') (hz:ys.length≤sizeLine) (t:Nat) :
  Inv X pins σ (upd H p (.lst ys)) { s with heap:=s.heap.update p f,toks:=t }:=by
 have e:(s.heap.update p f).get? p=some { cls:=.type "list",data:=.seq its'.toArray n' }:=by
  rw [Heap.get?_update_self f ho (by rw [hf] <;> rfl),hf]
 refine I.write (x:=p) (e:=p) (by rw [h]; trivial) (.inl rfl) (fun b u hb q=>(Heap.get?_update_other _ _ (Ne.symm hb)).trans q) ⟨_,e⟩ ?_
 exact ⟨hz,its',n',r,e⟩
def rSetL:V→V→V→Hp→(Hp→Prop)→Prop:=fun o i v H Q=>∃ p xs k j,o=.ref p∧i=.int k∧H p=some (.lst xs)∧ixN xs.length k=some j∧Q (upd H p (.lst (xs.set j v)))
theorem zagp:PSet X rSetL:=by
 intro pins s σ H o i v ov iv u Q I ro ri rv h
 obtain ⟨p,xs,k,j,rfl,rfl,hp,hj,q⟩:=h
 cases ro
 obtain ⟨t,rfl⟩:=ri
 obtain ⟨its,n,r,ho,hz⟩:=I.lst hp
 obtain ⟨h1,h2,h3,h4⟩:=zalt hj
 have hl:=r.length
 have hn:=line63
 have I':Inv X pins σ (upd H p (.lst (xs.set j v))) { s with heap:=s.heap.update p (Obj.mapSeq (·.setIfInBounds j u)) } :=
  I.lstUpd hp ho (zakt its n j u) (r.set rv j) (by rw [List.length_set]; exact hz) s.toks
 by_cases h0:0≤k
 ·have hk:k.toNat=j:=by
   rw [seqIndex_of h0 h4] at h1
   exact Option.some.inj h1
  exact PySem.W.ki_setAt ho h0 (by omega) (by rw [List.size_toArray,← hl]; exact h4) (by rw [hk]; exact ⟨_,I',q⟩)
 ·have hk:(k + (its.toArray.size:Int)).toNat=j:=by
   rw [seqIndex_neg (by omega) h3] at h1
   rw [List.size_toArray,← hl]
   exact Option.some.inj h1
  exact PySem.W.ki_setBack ho (by omega) (by rw [List.size_toArray,← hl]; exact h3) (by omega) (by rw [hk]; exact ⟨_,I',q⟩)
def flatV:V→Bool
 | .non=>true
 | .bl _=>true
 | .int _=>true
 | .str _=>true
 | _=>false
def eqV:V→V→Bool
 | .non,.non=>true
 | .bl a,.bl b=>a == b
 | .bl a,.int b=>(if a then 1 else 0) == b
 | .int a,.bl b=>a == (if b then 1 else 0)
 | .int a,.int b=>a == b
 | .str a,.str b=>a == b
 | _,_=>false
theorem zati {A:Around}{s:Shared}{y x:V}{u v:Value} (ry:RelV y u) (rx:RelV x v) (fy:flatV y=true) (fx:flatV x=true):SeqAt.EqAt A s u v (eqV y x):=by
 cases y with
 | non =>
  cases ry
  cases x with
  | non=>cases rx; exact SeqAt.EqAt.same _
  | bl b=>cases rx; exact SeqAt.EqAt.none_bool b
  | int b=>obtain ⟨t,rfl⟩:=rx; exact SeqAt.EqAt.none_int b t
  | str b=>obtain ⟨t,rfl⟩:=rx; exact SeqAt.EqAt.none_str b t
  | _=>exact absurd (show false=true from fx) Bool.false_ne_true
 | bl a =>
  cases ry
  cases x with
  | non=>cases rx; exact SeqAt.EqAt.bool_none a
  | bl b=>cases rx; exact SeqAt.EqAt.bool_bool a b
  | int b=>obtain ⟨t,rfl⟩:=rx; exact SeqAt.EqAt.bool_int a b t
  | str b=>obtain ⟨t,rfl⟩:=rx; exact SeqAt.EqAt.bool_str a b t
  | _=>exact absurd (show false=true from fx) Bool.false_ne_true
 | int a =>
  obtain ⟨t',rfl⟩:=ry
  cases x with
  | non=>cases rx; exact SeqAt.EqAt.int_none a t'
  | bl b=>cases rx; exact SeqAt.EqAt.int_bool a t' b
  | int b=>obtain ⟨t,rfl⟩:=rx; exact SeqAt.EqAt.int_int a t' b t
  | str b=>obtain ⟨t,rfl⟩:=rx; exact SeqAt.EqAt.int_str a t' b t
  | _=>exact absurd (show false=true from fx) Bool.false_ne_true
 | str a =>
  obtain ⟨t',rfl⟩:=ry
  cases x with
  | non=>cases rx; exact SeqAt.EqAt.str_none a t'
  | bl b=>cases rx; exact SeqAt.EqAt.str_bool a t' b
  | int b=>obtain ⟨t,rfl⟩:=rx; exact SeqAt.EqAt.str_int a t' b t
  | str b=>obtain ⟨t,rfl⟩:=rx; exact SeqAt.EqAt.str_str a t' b t
  | _=>exact absurd (show false=true from fx) Bool.false_ne_true
 | _=>exact absurd (show false=true from fy) Bool.false_ne_true
def eqU (x:V) (u:Value):Bool:=match u with
 | .none=>eqV .non x
 | .bool b=>eqV (.bl b) x
 | .int i _=>eqV (.int i) x
 | .str z _=>eqV (.str z) x
 | _=>false
theorem zapk {x y:V}{u:Value} (r:RelV y u) (f:flatV y=true):eqU x u=eqV y x:=by
 cases y with
 | non=>cases r; rfl
 | bl b=>cases r; rfl
 | int i=>obtain ⟨t,rfl⟩:=r; rfl
 | str z=>obtain ⟨t,rfl⟩:=r; rfl
 | _=>exact absurd (show false=true from f) Bool.false_ne_true
theorem zafv {x:V}:∀ {xs:List V}{us:List Value},Vals xs us→xs.all flatV=true→us.any (eqU x)=xs.any fun y=>eqV y x
 | _,_,.nil,_=>rfl
 | y :: xs,u :: us,.cons r t,f=>by
  rw [List.all_cons,Bool.and_eq_true] at f
  rw [List.any_cons,List.any_cons,zapk r f.1,zafv t f.2]
theorem zad9 {A:Around}{s:Shared}{x:V}{v:Value} (rx:RelV x v) (fx:flatV x=true):∀ {xs:List V}{us:List Value},Vals xs us→xs.all flatV=true→∀ u∈us,SeqAt.EqAt A s u v (eqU x u)
 | _,_,.nil,_=>fun u hu=>by cases hu
 | y :: xs,u :: us,.cons r t,f=>fun u' hu=>by
  rw [List.all_cons,Bool.and_eq_true] at f
  rcases List.mem_cons.mp hu with rfl | hu
  ·rw [zapk r f.1]; exact zati r rx f.1 fx
  ·exact zad9 rx fx t f.2 u' hu
def inV (x:V) (xs:List V):Bool:=xs.any fun y=>eqV y x
def rIn (K:PySem.W.Frag) (neg:Bool):R2:=fun x y H Q=>∃ p xs,y=.ref p∧(SqL K H p xs∨SqT K H p xs)∧flatV x=true∧xs.all flatV=true∧Q (.bl (if neg then !inV x xs else inV x xs)) H
theorem zaea:OpR X (compareOp .In) (rIn X.K false):=by
 intro pins s σ H x y v u Q I rx ry h
 obtain ⟨p,xs,rfl,hq,fx,fs,q⟩:=h
 cases ry
 rcases hq with hq | hq
 ·obtain ⟨its,r,pl,hz⟩:=I.list hq
  refine SeqAt.in_listAt (eqU x) pl.isList (fun w hw=>zad9 rx fx r fs w (by simpa using hw)) ⟨.bl _,H,I,rfl,?_⟩
  rw [show its.toArray.any (eqU x)=its.any (eqU x) by simp,zafv r fs]
  exact q
 ·obtain ⟨its,r,pl,hz⟩:=I.tuple hq
  refine SeqAt.in_tupleAt (eqU x) pl (fun w hw=>zad9 rx fx r fs w (by simpa using hw)) ⟨.bl _,H,I,rfl,?_⟩
  rw [show its.toArray.any (eqU x)=its.any (eqU x) by simp,zafv r fs]
  exact q
theorem zae7:OpR X (compareOp .NotIn) (rIn X.K true):=by
 intro pins s σ H x y v u Q I rx ry h
 obtain ⟨p,xs,rfl,hq,fx,fs,q⟩:=h
 cases ry
 rcases hq with hq | hq
 ·obtain ⟨its,r,pl,hz⟩:=I.list hq
  refine SeqAt.notIn_listAt (eqU x) pl.isList (fun w hw=>zad9 rx fx r fs w (by simpa using hw)) ⟨.bl _,H,I,rfl,?_⟩
  rw [show its.toArray.any (eqU x)=its.any (eqU x) by simp,zafv r fs]
  exact q
 ·obtain ⟨its,r,pl,hz⟩:=I.tuple hq
  refine SeqAt.notIn_tupleAt (eqU x) pl (fun w hw=>zad9 rx fx r fs w (by simpa using hw)) ⟨.bl _,H,I,rfl,?_⟩
  rw [show its.toArray.any (eqU x)=its.any (eqU x) by simp,zafv r fs]
  exact q
theorem zaap:CallR X (.builtin "len") (fun xs H Q=>∃ p ys,xs=[.ref p]∧(SqL X.K H p ys∨SqT X.K H p ys)∧Q (.int ys.length) H):=by
 intro pins s σ H xs us Q I r h
 obtain ⟨p,ys,rfl,hq,q⟩:=h
 obtain ⟨u,rfl,rx⟩:=vals1 r
 cases rx
 have hn:=line63
 rcases hq with hq | hq
 ·obtain ⟨its,r',pl,hz⟩:=I.list hq
  have hlen:=r'.length
  exact Calls.call_len_list pl.isList (by simp only [List.size_toArray] <;> omega) ⟨.int ys.length,H,I.tok _,⟨s.toks + 1,by rw [List.size_toArray,hlen]⟩,q⟩
 ·obtain ⟨its,r',pl,hz⟩:=I.tuple hq
  have hlen:=r'.length
  exact len_tuple pl (by simp only [List.size_toArray] <;> omega) ⟨.int ys.length,H,I.tok _,⟨s.toks + 1,by rw [List.size_toArray,hlen]⟩,q⟩
theorem zab2:CallR X (.type "list") (fun xs H Q=>∃ p ys,xs=[.ref p]∧(SqL X.K H p ys∨SqT X.K H p ys)∧∀ l,H l=none→Q (.ref l) (upd H l (.lst ys))):=by
 intro pins s σ H xs us Q I r h
 obtain ⟨p,ys,rfl,hq,q⟩:=h
 obtain ⟨u,rfl,rx⟩:=vals1 r
 cases rx
 have fin:∀ (its:List Value),Vals ys its→ys.length≤sizeLine→∀ (h':Heap) (c':Nat),(∀ b o',s.heap.get? b=some o'→h'.get? b=some o') →
   h'.get? s.heap.objs.size=some { cls:=.type "list",dict:=none,data:=.seq its.toArray c',slots:=#[] }→EP X pins σ Q (.ref s.heap.objs.size) { s with heap:=h' }:=fun its r' hz h' c' kp e =>
  ⟨.ref s.heap.objs.size,_,I.laid (t':=s.toks) kp (Nat.le_refl _) (show ObjOk X.prog X.w _ h' _ (.lst ys) from ⟨hz,its,c',r',e⟩),rfl,q _ (I.hok.fresh (Nat.le_refl _))⟩
 rcases hq with hq | hq
 ·obtain ⟨its,r',pl,hz⟩:=I.list hq
  have hlen:=r'.length
  obtain ⟨o,ho,hc,n,hd⟩:=pl.isList
  exact call_list_seq p (.inl rfl) ho hc hd (fun h' c' kp e=>fin its r' hz h' c' kp e) (by simp only [List.size_toArray] <;> omega)
 ·obtain ⟨its,r',pl,hz⟩:=I.tuple hq
  have hlen:=r'.length
  obtain ⟨o,ho,hc,n,hd⟩:=pl
  exact call_list_seq p (.inr rfl) ho hc hd (fun h' c' kp e=>fin its r' hz h' c' kp e) (by simp only [List.size_toArray] <;> omega)
theorem zab0:CallR X (.type "tuple") (fun xs H Q=>∃ p ys,xs=[.ref p]∧((SqL X.K H p ys∧∀ l,H l=none→Q (.ref l) (upd H l (.tup ys)))∨(SqT X.K H p ys∧Q (.ref p) H))):=by
 intro pins s σ H xs us Q I r h
 obtain ⟨p,ys,rfl,h⟩:=h
 obtain ⟨u,rfl,rx⟩:=vals1 r
 cases rx
 rcases h with ⟨hq,q⟩ | ⟨hq,q⟩
 ·obtain ⟨its,r',pl,hz⟩:=I.list hq
  have hlen:=r'.length
  refine call_tuple_list pl.isList (fun h' kp=>?_) (by simp only [List.size_toArray] <;> omega)
  have I1:Inv X pins σ H { s with heap:=h' }:=I.kept (t':=s.toks) kp
  have I2:Inv X pins σ (upd H h'.objs.size (.tup ys)) { s with heap:=h'.push { cls:=.type "tuple",data:=.seq its.toArray } } :=
   I1.laid (t':=s.toks) (fun b o e=>Heap.get?_push_of_some _ e) (Nat.le_refl _) (show ObjOk X.prog X.w _ _ _ (.tup ys) from ⟨hz,its,r',IsTup.new _ _⟩)
  exact ⟨.ref h'.objs.size,_,I2,rfl,q _ (I1.hok.fresh (Nat.le_refl _))⟩
 ·obtain ⟨its,r',pl,hz⟩:=I.tuple hq
  exact call_tuple_same pl ⟨.ref p,H,I,rfl,q⟩
def tyV (K:PySem.W.Frag) (T:String) (x:V) (H:Hp):Prop:=match x with
 | .str _=>T = "str"
 | .int _=>T = "int"
 | .ref p=>(T = "list" ∧ ∃ xs,SqL K H p xs)∨(T = "tuple" ∧ ∃ o,K.lookup p=some o∧o.cls=.type "tuple" ∧ o.dict=none) ∨
   (T = "dict" ∧ ((∃ kvs,H p=some (.dK kvs))∨∃ kvs,H p=some (.dT kvs)))∨(T = "set" ∧ ∃ S n,H p=some (.set S n))
 | _=>False
theorem zapl {pins:List (Addr × Obj)}{σ:St}{H:Hp}{s:Shared}{T:String}{x:V}{v:Value} (I:Inv X pins σ H s) (r:RelV x v) (ty:tyV X.K T x H) :
  s.TypeIs v T∧∀ a,v=.ref a→∃ ob,s.heap.get? a=some ob∧ob.dict=none:=by
 cases x with
 | str z =>
  obtain ⟨t,rfl⟩:=r
  cases (show T = "str" from ty)
  exact ⟨typeIs_str s z t,fun _ e=>nomatch e⟩
 | int i =>
  obtain ⟨t,rfl⟩:=r
  cases (show T = "int" from ty)
  exact ⟨typeIs_int s i t,fun _ e=>nomatch e⟩
 | ref p =>
  cases r
  rcases ty with ⟨rfl,xs,hq⟩ | ⟨rfl,o,hk,hc,hd⟩ | ⟨rfl,hk⟩ | ⟨rfl,S,n,hk⟩
  ·obtain ⟨its,_,pl,_⟩:=I.list hq
   refine ⟨pl.isList.typeIs,fun a e=>?_⟩
   cases e
   obtain ⟨o,n,e,c,hd,_⟩:=pl
   exact ⟨o,e,hd⟩
  ·refine ⟨⟨o,I.kIn p o hk,hc⟩,fun a e=>?_⟩
   cases e
   exact ⟨o,I.kIn _ o hk,hd⟩
  ·have z:∃ o,s.heap.get? p=some o∧o.ExactDict:=by
    rcases hk with ⟨kvs,hk⟩ | ⟨kvs,hk⟩
    ·obtain ⟨_,_,_,_,o,_,_,e,ex,_⟩:=I.hok p _ hk
     exact ⟨o,e,ex⟩
    ·obtain ⟨_,_,_,_,o,_,_,e,ex,_⟩:=I.hok p _ hk
     exact ⟨o,e,ex⟩
   obtain ⟨o,e,ex⟩:=z
   refine ⟨⟨o,e,ex.1⟩,fun a e2=>?_⟩
   cases e2
   exact ⟨o,e,ex.2.1⟩
  ·obtain ⟨o,_,_,_,e,ex,_⟩:=I.hok p _ hk
   refine ⟨⟨o,e,ex.1⟩,fun a e2=>?_⟩
   cases e2
   exact ⟨o,e,ex.2.1⟩
 | _=>exact False.elim ty
def tBM0 (K:PySem.W.Frag) (T:String) (r:V→List V→Hp→VK→Prop) (to:TE):TE:=fun σ H Q=>to σ H fun x H1=>tyV K T x H1∧r x [] H1 Q
def tBM (K:PySem.W.Frag) (T:String) (r:V→List V→Hp→VK→Prop) (to:TE) (t:TA):TE:=fun σ H Q=>to σ H fun x H1=>tyV K T x H1∧t σ H1 fun xs H2=>r x xs H2 Q
variable {o e:Expr}{es:List Expr}{to:TE}{t:TA}{name:Str}{apos cpos:Pos}{T id:String}{r:V→List V→Hp→VK→Prop}
theorem zapm (pa:PlainAttrs T) (slot:Slot T name id) (hty:typeOf (.builtin id)=pure (.type "method_descriptor")) (hm:MtR X id r) (ho:PE X o to)
  (hbase:attributeBase o name X.env (eval o X.env)=eval o X.env:=by rfl) (hline:(apos.endLine == cpos.line)=true:=by rfl):PE X (.Call (.Attribute o name apos) [] [] cpos) (tBM0 X.K T r to):=by
 intro pins s σ H Q I h
 refine wpAny_Call_method0_late hbase hline (thn (ho pins s σ H _ I h) fun v s1 ⟨x,H1,I1,r1,ty,q1⟩=>?_)
 obtain ⟨h1,h2⟩:=zapl I1 r1 ty
 exact ⟨T,id,pa,slot,hty,h1,h2,Calls.callWith_builtin rfl (PySem.evalArgs_none (hm pins s1 σ H1 x [] v [] Q I1 r1 .nil q1))⟩
theorem zau5 (pa:PlainAttrs T) (slot:Slot T name id) (hty:typeOf (.builtin id)=pure (.type "method_descriptor")) (hm:MtR X id r) (ho:PE X o to) (ha:PA X (e :: es) t)
  (hbase:attributeBase o name X.env (eval o X.env)=eval o X.env:=by rfl)
  (hfew:((backTo cpos (starEach (e :: es) X.env)).all (fun x=>!x.1) && (backToKw cpos (keywordEach [] X.env)).all (fun x=>x.1.isSome)
   && decide ((e :: es).length + ([]:List Keyword).length + (if ([]:List Keyword).isEmpty then 0 else 1) < 30))=true:=by rfl)
  (hline:(apos.endLine == cpos.line)=true:=by rfl) (hs:starEach (e :: es) X.env=(false,eval e X.env) :: starEach es X.env:=by rfl) (hplain:(backTo cpos (starEach es X.env)).any (·.1)=false:=by rfl) :
  PE X (.Call (.Attribute o name apos) (e :: es) [] cpos) (tBM X.K T r to t):=by
 intro pins s σ H Q I h
 refine wpAny_Call_method_late hbase hfew hline rfl (thn (ho pins s σ H _ I h) fun v s1 ⟨x,H1,I1,r1,ty,q1⟩=>?_)
 obtain ⟨h1,h2⟩:=zapl I1 r1 ty
 refine ⟨T,id,pa,slot,hty,h1,h2,?_⟩
 have hA:=ha cpos pins s1 σ H1 _ I1 q1
 rw [hs] at hA ⊢
 refine Calls.callWith_builtin (by show (false || (backTo cpos (starEach es X.env)).any (·.1))=false; rw [hplain] <;> rfl) (Calls.evalArgs_plain ?_)
 exact thn hA fun us s2 ⟨vs,H2,I2,r2,q2⟩=>hm pins s2 σ H2 x vs v us Q I2 r1 r2 q2
end
def MtM (X:Cx) (id:String) (r:V→List V→Hp→VK→Prop):Prop :=
 ∀ (pins:List (Addr × Obj)) (s:Shared) (σ:St) (H:Hp) (x:V) (xs:List V) (v:Value) (us:List Value) (Q:VK),Inv X pins σ H s→RelV x v→Vals xs us→r x xs H Q →
  wpAny (model X.prog X.w) X.A (call (.builtin id) (v :: us)) (EP X pins σ Q) X.xe s
theorem Vals.one:∀ {x:V}{us:List Value},Vals [x] us→∃ u,us=[u]∧RelV x u
 | _,_,.cons r .nil=>⟨_,rfl,r⟩
theorem Vals.zero:∀ {us:List Value},Vals [] us→us=[]
 | _,.nil=>rfl
theorem Vals.dropLast {xs:List V}{us:List Value} (h:Vals xs us):Vals xs.dropLast us.dropLast:=by
 induction h with
 | nil=>exact .nil
 | cons r t ih =>
  cases t with
  | nil=>exact .nil
  | cons q t'=>exact .cons r ih
theorem Vals.reverse {xs:List V}{us:List Value} (h:Vals xs us):Vals xs.reverse us.reverse:=by
 induction h with
 | nil=>exact .nil
 | cons r t ih=>rw [List.reverse_cons,List.reverse_cons]; exact Vals.append ih (.cons r .nil)
theorem Vals.rep {xs:List V}{us:List Value} (h:Vals xs us):∀ k:Nat,Vals (List.replicate k xs).flatten (List.replicate k us).flatten
 | 0=>.nil
 | k + 1=>by
  rw [List.replicate_succ,List.replicate_succ,List.flatten_cons,List.flatten_cons]
  exact Vals.append h (Vals.rep h k)
theorem zaku {α:Type} (l:List α):l.eraseIdx (l.length - 1)=l.dropLast:=by
 induction l with
 | nil=>rfl
 | cons a r ih =>
  cases r with
  | nil=>rfl
  | cons b r =>
   have e:(a :: b :: r).length - 1=((b :: r).length - 1) + 1:=by
    have h1:(a :: b :: r).length=r.length + 2:=rfl
    have h2:(b :: r).length=r.length + 1:=rfl
    omega
   rw [e,List.eraseIdx_cons_succ,ih]
   all_goals rfl
theorem zahs (its:List Value):∀ (k:Nat) (acc:List Value),
  List.foldl (fun x1 x2=>x1++x2) acc.toArray (List.replicate k its.toArray)=(acc++(List.replicate k its).flatten).toArray
 | 0,acc=>by simp
 | k + 1,acc=>by
  have e:acc.toArray++its.toArray=(acc++its).toArray:=by simp
  have e2:(acc++its)++(List.replicate k its).flatten=acc++(List.replicate (k + 1) its).flatten:=by
   rw [List.replicate_succ,List.flatten_cons,List.append_assoc]
  rw [← e2,← zahs its k (acc++its),← e,List.replicate_succ,List.foldl_cons]
section
variable {X:Cx}{pins:List (Addr × Obj)}{σ:St}{H:Hp}{s:Shared}{l b:Addr}{xs ys zs:List V}
theorem Inv.lset {its its':List Value}{n:Nat}{f:Array Value→Array Value}{t':Nat} (I:Inv X pins σ H s) (hH:H l=some (.lst xs))
  (e:s.heap.get? l=some { cls:=.type "list",data:=.seq its.toArray n }) (hf:f its.toArray=its'.toArray) (hv:Vals ys its') (hz:ys.length≤sizeLine) :
  Inv X pins σ (upd H l (.lst ys)) { s with heap:=s.heap.update l (Obj.mapSeq f),toks:=t' }:=by
 have q:=PySem.IsL.update e f
 rw [hf] at q
 refine I.write (x:=l) (e:=l) (by rw [hH]; exact trivial) (.inl rfl) (fun b' u hb hu=>(Heap.get?_update_other s.heap (Obj.mapSeq f) (Ne.symm hb)).trans hu) ⟨_,q⟩ ?_
 exact ⟨hz,its',_,hv,q⟩
theorem Inv.lnew {its:List Value}{t':Nat} (I:Inv X pins σ H s) (hv:Vals ys its) (hz:ys.length≤sizeLine) :
  Inv X pins σ (upd H s.heap.objs.size (.lst ys)) { s with heap:=s.heap.push { cls:=.type "list",data:=.seq its.toArray },toks:=t' } :=
 I.laid (fun _ _ q=>Heap.get?_push_of_some _ q) (Nat.le_refl _) ⟨hz,its,0,hv,Heap.get?_push_size _ rfl⟩
theorem Inv.fresh (I:Inv X pins σ H s):H s.heap.objs.size=none:=I.hok.fresh (Nat.le_refl _)
theorem Inv.lstM (I:Inv X pins σ H s) (hH:H l=some (.lst xs)):xs.length≤sizeLine∧∃ (its:List Value) (n:Nat),Vals xs its∧xs.length=its.length∧s.heap.get? l=some { cls:=.type "list",data:=.seq its.toArray n }:=by
 obtain ⟨z,its,n,r,e⟩:=I.hok l _ hH
 exact ⟨z,its,n,r,r.length,e⟩
theorem notLongL {n:Nat} (h:n≤sizeLine):Builtin.List.listTooLong n=false:=by
 unfold Builtin.List.listTooLong
 exact decide_eq_false (by omega)
end
section
variable {X:Cx}
def rAppend:V→List V→Hp→VK→Prop:=fun x vs H Q=>∃ l xs y,x=.ref l∧vs=[y]∧H l=some (.lst xs)∧xs.length < sizeLine∧Q .non (upd H l (.lst (xs++[y])))
theorem zacl:MtM X "list.append" rAppend:=by
 intro pins s σ H x vs v us Q I rx rv h
 obtain ⟨l,xs,y,rfl,rfl,hH,hz,q⟩:=h
 cases rx
 obtain ⟨u,rfl,ru⟩:=rv.one
 obtain ⟨z,its,n,r,hl,e⟩:=I.lstM hH
 refine call_meets F.slot_list_append ⟨_,e,rfl⟩ F.entry_list_append (F.args_list_append_2 _ _) (PySem.list_append l its.toArray n u (by rw [List.size_toArray]; omega)) ⟨e,?_⟩
 refine ⟨.non,_,I.lset (its':=its++[u]) hH e (by simp) (r.append (.cons ru .nil)) ?_,rfl,q⟩
 rw [List.length_append,List.length_singleton]
 omega
def rExtend:V→List V→Hp→VK→Prop:=fun x vs H Q=>∃ l b xs zs,x=.ref l∧vs=[.ref b]∧H l=some (.lst xs)∧H b=some (.lst zs)∧xs.length + zs.length≤sizeLine∧Q .non (upd H l (.lst (xs++zs)))
theorem zalv:MtM X "list.extend" rExtend:=by
 intro pins s σ H x vs v us Q I rx rv h
 obtain ⟨l,b,xs,zs,rfl,rfl,hH,hB,hz,q⟩:=h
 cases rx
 obtain ⟨u,rfl,ru⟩:=rv.one
 cases ru
 obtain ⟨z,its,n,r,hl,e⟩:=I.lstM hH
 obtain ⟨z2,its2,n2,r2,hl2,e2⟩:=I.lstM hB
 have hsz:its.toArray.size + its2.toArray.size≤sizeLine:=by rw [List.size_toArray,List.size_toArray]; omega
 have hlong:¬ (!its.toArray.isEmpty && Builtin.List.listTooLong (its.toArray.size + its2.toArray.size))=true:=by
  rw [notLongL hsz,Bool.and_false]
  exact Bool.false_ne_true
 refine call_meets F.slot_list_extend ⟨_,e,rfl⟩ F.entry_list_extend (F.args_list_extend_2 _ _)
  (AutoSeq1.list_extend_list_list_0 l its.toArray n b its2.toArray n2 hlong (by rw [List.size_toArray]; omega) (by omega)) ⟨e,e2,?_⟩
 refine ⟨.non,_,I.lset (its':=its++its2) hH e (by simp) (r.append r2) ?_,rfl,q⟩
 rw [List.length_append]
 omega
def rPop:V→List V→Hp→VK→Prop:=fun x vs H Q=>∃ l xs y,x=.ref l∧vs=[]∧H l=some (.lst xs)∧xs[xs.length - 1]?=some y∧Q y (upd H l (.lst xs.dropLast))
theorem zatj:MtM X "list.pop" rPop:=by
 intro pins s σ H x vs v us Q I rx rv h
 obtain ⟨l,xs,y,rfl,rfl,hH,hy,q⟩:=h
 cases rx
 have hus:=rv.zero
 subst hus
 obtain ⟨z,its,n,r,hl,e⟩:=I.lstM hH
 obtain ⟨u,hu,ru⟩:=r.get hy
 have hy':its.toArray[its.toArray.size - 1]?=some u:=by
  show its.toArray[its.length - 1]?=some u
  rw [← Array.getElem?_toList,← hl]
  exact hu
 refine call_meets F.slot_list_pop ⟨_,e,rfl⟩ F.entry_list_pop (F.args_list_pop_1 _) (MeetsSeq.list_pop_last l its.toArray n u hy' (by rw [List.size_toArray]; omega)) ⟨e,?_⟩
 refine ⟨y,_,I.lset (its':=its.dropLast) hH e ?_ r.dropLast ?_,ru,q⟩
 ·show its.toArray.eraseIdxIfInBounds (its.toArray.size - 1)=its.dropLast.toArray
  rw [List.size_toArray,List.eraseIdxIfInBounds_toArray,zaku]
 ·rw [List.length_dropLast]
  omega
def rReverse:V→List V→Hp→VK→Prop:=fun x vs H Q=>∃ l xs,x=.ref l∧vs=[]∧H l=some (.lst xs)∧Q .non (upd H l (.lst xs.reverse))
theorem zakv:MtM X "list.reverse" rReverse:=by
 intro pins s σ H x vs v us Q I rx rv h
 obtain ⟨l,xs,rfl,rfl,hH,q⟩:=h
 cases rx
 have hus:=rv.zero
 subst hus
 obtain ⟨z,its,n,r,hl,e⟩:=I.lstM hH
 refine call_meets F.slot_list_reverse ⟨_,e,rfl⟩ F.entry_list_reverse (F.args_list_reverse_1 _) (AutoSeq1.list_reverse_list_0 l its.toArray n (by rw [List.size_toArray]; omega)) ⟨e,?_⟩
 refine ⟨.non,_,I.lset (its':=its.reverse) hH e (by simp) r.reverse ?_,rfl,q⟩
 rw [List.length_reverse]
 omega
def rCat:R2:=fun x y H Q=>∃ l b xs zs,x=.ref l∧y=.ref b∧H l=some (.lst xs)∧H b=some (.lst zs)∧xs.length + zs.length≤sizeLine∧∀ p,H p=none→Q (.ref p) (upd H p (.lst (xs++zs)))
theorem zaht:OpR X (binaryOp .Add) rCat:=by
 intro pins s σ H x y v u Q I rx ry h
 obtain ⟨l,b,xs,zs,rfl,rfl,hH,hB,hz,q⟩:=h
 cases rx
 cases ry
 obtain ⟨z,its,n,r,hl,e⟩:=I.lstM hH
 obtain ⟨z2,its2,n2,r2,hl2,e2⟩:=I.lstM hB
 refine PySem.P.add_list e e2 ?_ (by rw [List.size_toArray,List.size_toArray]; omega)
 have ea:its.toArray++its2.toArray=(its++its2).toArray:=by simp
 rw [ea]
 exact ⟨.ref _,_,I.lnew (t':=s.toks) (r.append r2) (by rw [List.length_append]; omega),rfl,q _ I.fresh⟩
def rRep:R2:=fun x y H Q=>∃ l k xs,x=.ref l∧y=.int k∧H l=some (.lst xs)∧-(2 ^ 63)≤k∧k < 2 ^ 63∧xs.length * k.toNat≤sizeLine ∧
 ∀ p,H p=none→Q (.ref p) (upd H p (.lst (List.replicate k.toNat xs).flatten))
theorem zaqy {α:Type} (xs:List α) (k:Nat):(List.replicate k xs).flatten.length=k * xs.length:=by
 induction k with
 | zero=>simp
 | succ k ih=>rw [List.replicate_succ,List.flatten_cons,List.length_append,ih,Nat.succ_mul,Nat.add_comm]
theorem zatk:OpR X (binaryOp .Mult) rRep:=by
 intro pins s σ H x y v u Q I rx ry h
 obtain ⟨l,k,xs,rfl,rfl,hH,h1,h2,hz,q⟩:=h
 cases rx
 obtain ⟨t,rfl⟩:=ry
 obtain ⟨z,its,n,r,hl,e⟩:=I.lstM hH
 have hlen:its.toArray.size * k.toNat≤sizeLine:=by rw [List.size_toArray,← hl]; exact hz
 have hcap:¬ its.toArray.size * k.toNat > (2 ^ 63 - 1) / 8:=by
  have:(sizeLine:Nat)≤(2 ^ 63 - 1) / 8:=by decide
  omega
 have hfit:¬ (!Builtin.List.listFitsIndex k)=true:=by
  rw [fitsIndex_both h1 h2]
  exact Bool.false_ne_true
 have hlong:¬ Builtin.List.listTooLong (its.toArray.size * k.toNat)=true:=by
  rw [notLongL hlen]
  exact Bool.false_ne_true
 have hnew:List.foldl (fun x1 x2=>x1++x2) #[] (List.replicate (if its.toArray.isEmpty=true then 0 else k.toNat) its.toArray)=(List.replicate k.toNat its).flatten.toArray:=by
  have f0:∀ m:Nat,List.foldl (fun x1 x2=>x1++x2) #[] (List.replicate m its.toArray)=(List.replicate m its).flatten.toArray:=fun m=>by
   have:=zahs its m []
   rw [List.nil_append] at this
   exact this
  rw [f0]
  cases its with
  | nil=>simp
  | cons a r'=>rw [if_neg (by simp)]
 refine wpAny_binaryOp_repeat_ref (T := "list") (U := "int") (by decide) ⟨_,e,rfl⟩ (fun s'=>typeIs_int s' k t) noFill_list_mul F.fills_int_mul F.slot_int_rmul repeat_list F.slot_int_index.lookup
  (call_meets F.slot_int_rmul (typeIs_int s k t) F.entry_int_rmul (F.args_int_rmul_2 _ _) (int___rmul___int_list k t l its.toArray n)
   ⟨e,rfl,⟨_,e,rfl⟩,call_meets F.slot_list_mul ⟨_,e,rfl⟩ F.entry_list_mul (F.args_list_mul_2 _ _) (AutoListH.list___mul___list_int_3 l its.toArray n k t hfit hcap hlong) ⟨e,?_⟩⟩)
 rw [hnew]
 exact ⟨.ref _,_,I.lnew (t':=s.toks) (r.rep k.toNat) (by rw [zaqy,Nat.mul_comm]; exact hz),rfl,q _ I.fresh⟩
end
end L2
namespace Att
open PySem PySem.W PySem.Calls PyProof.Rows
theorem zafw {P:Params}{h:Heap}:∀ (ns:List Int) (vs:List Value),WellAll P h vs (ns.map WData.int)→IntsAre vs ns:=by
 intro ns
 induction ns with
 | nil =>
  intro vs w
  rw [List.map_nil] at w
  cases w
  exact .nil
 | cons n ns ih =>
  intro vs w
  rw [List.map_cons] at w
  cases w with
  | cons a b =>
   cases a
   exact .cons _ _ (ih _ b)
theorem zalw {l:OpenLaw}{n:Nat} (hn:l.most=some n) {P:Params}{h:Heap}{args:List WData}{vals:List Value}
  (hpre:l.row.toRowW.claim.pre args=true) (hwl:WellAll P h vals args) :
  ∃ a vs ns,vals=[Value.ref a]∧args=[WData.list (ns.map WData.int)]∧h.get? a=some { cls:=.type "list",data:=.seq vs.toArray }∧IntsAre vs ns∧ns.length≤n:=by
 have hsh:WShape.hasAll [] args [.list .int]=true:=(pre_splitW hpre).1
 have hc:l.pre.holds [] { args:=args }=true:=(pre_splitW hpre).2
 obtain ⟨d,r,rfl,h1,h2⟩:=hasAllW_cons hsh
 obtain rfl:=hasAllW_nil h2
 obtain ⟨xs,rfl,h3⟩:=hasW_list h1
 obtain ⟨ns,rfl⟩:=items_int h3
 have hlen:ns.length≤n:=by
  unfold OpenLaw.pre at hc
  have h4:(WTm.not (.lt (.lit (.int (n:Int))) (.len (.arg 0)))).holds [] { args:=[.list (ns.map .int)] }=true:=by
   have h4:=(holds_andW hc).1
   rw [hn] at h4
   exact h4
  have h5:=condW_of h4 (w_not (w_lt w_lit (w_len_list (w_arg rfl))))
  rw [List.length_map] at h5
  refine Nat.le_of_not_lt fun q=>?_
  have q':(n:Int) < ((ns.length:Nat):Int):=by omega
  first
   | (rw [decide_eq_true q'] at h5; exact absurd h5 (by decide))
   | (simp at h5; omega)
 cases hwl with
 | cons w1 w2 =>
  cases w2
  cases w1 with
  | list ho hall=>exact ⟨_,_,ns,rfl,rfl,ho,zafw ns _ hall,hlen⟩
theorem zalx (l:OpenLaw) (args:List WData):l.row.toRowW.claim.post args (.bool true) args=true :=
 postW_of (r:=l.row.toRowW) (X:=(true == true))
  (show WShape.has [] (.bool true) .bool=true by first | rfl | decide | simp [WShape.has,WShape.arms,WShape.armsAll])
  (show (WTm.eq .res (.lit (.bool true))).value [] { args:=args,res:=some (.bool true),after:=args }=some (.bool (true == true)) from w_eq_bool (w_res rfl) w_lit) rfl
theorem attach_call {l:OpenLaw}{n:Nat}{q:Program}{loose:List Str}{XP:(Str→Option Value)→Heap→Prop}{YP:World→Heap→Prop}{d:DefRec}
  (hn:l.most=some n) (hdf:d.params.defaults=[])
  (call:∀ (w:World) (s₀ s₁:Shared) (mg mb:Str→Option Value) (fa:Addr) (o:Obj) (pm cd doc:Value) (a:Addr) (vs:List Value) (ns:List Int),
   Ground q loose [] XP w s₀ mg mb s₁.heap→YP w s₁.heap →
   s₁.heap.get? fa=some o→o.data=.func (docDef d.name d.params d.body d.scope pm cd doc)→s₁.heap.CodeRec cd d.name→mg d.name=some (.ref fa) →
   s₁.heap.get? a=some { cls:=.type "list",data:=.seq vs.toArray }→IntsAre vs ns→ns.length≤n→s₁.gens=#[] →
   codeAny (model l.prog w) callerA (.call (.ref fa) ⟨[.ref a],[]⟩) (fun r s'=>r=.ok (.ret (.bool true))∧OldK s₁.heap s'.heap∧s'.os=s₁.os∧AllBare s'.gens) s₁) :
  WalkO q loose XP YP l.row.toRowW d [] (fun f vs=>PySem.call f vs):=by
 intro w s₀ s₁ mg mb G Y fa o pm cd doc dV kV ho hd hcd hD hmg hg args vals as hpre hlay hrd hwl hlo
 obtain rfl:dV=.none:=Dflts.none hD hdf
 obtain rfl:kV=.none:=Dflts.noKw hD
 obtain ⟨a,vs,ns,rfl,rfl,hobj,hints,hlen⟩:=zalw hn hpre hwl
 refine enter_call (codeAny_mono (call w s₀ s₁ mg mb fa o pm cd doc a vs ns G Y ho (fd_plain hd) hcd hmg hobj hints hlen hg) fun r s' hq=>?_)
 obtain ⟨rfl,h2,h3,h4⟩:=hq
 exact ⟨.inl ⟨.bool true,.bool true,[],rfl,fun _=>rfl,.bool true,zalx l _,fun _=>⟨List.Pairwise.nil,fun _ hm=>(nomatch hm)⟩⟩,h2,h3,h4⟩
end Att
namespace L2
open PySem PySem.Spec PyProof.Rows
theorem zahu:∀ {vs:List Value}{ns:List Int},IntsAre vs ns→Vals (ns.map V.int) vs
 | _,_,.nil=>.nil
 | _,_,.cons n t h=>.cons ⟨t,rfl⟩ (zahu h)
def Only (H:Hp):Prop:=∀ b,H b=none∨∃ o xs,H b=some (.frz o (.lst xs))
theorem zaoi {P:Program}{w:World}{K:PySem.W.Frag}{mg mb:Str→Option Value}{CX:CXT}{k:Nat}{fa a:Addr}{fd:FuncData}{x:Str}{sp:Sp}{s₁:Shared}{vs:List Value}{ns:List Int}
  (KX:K.In s₁.heap) (hns:s₁.heap.Ns mainGlobals mg) (hb:s₁.heap.Ns builtinsNs mb) (hbb:∀ x:Str,x ≠ "__name__" → mb x=bootBuiltins x) (hlim:s₁.heap.NoLimit) (hg:s₁.gens=#[])
  (ha:s₁.heap.get? a=some { cls:=.type "list",data:=.seq vs.toArray }) (hi:IntsAre vs ns) (hl:ns.length≤sizeLine) (hr:Room k callerA)
  (F:∀ base:Heap,K.In base→base.Ns mainGlobals mg→FnOk P w K mg base CX k fa fd [x] sp) (hbind:∀ (s:Shared) (u:Value),BindsTo s fd ⟨[u],[]⟩ [(x,u)])
  (hsp:∀ H:Hp,Only H→SqL K H a (ns.map V.int)→sp [.ref a] H (fun v _=>v=.bl true) fun _ _ _=>False)
  (hCX:∀ H e s',CX [] H s₁ (fun _ _ _=>False) e s'→False) :
  codeAny (model P w) callerA (.call (.ref fa) ⟨[.ref a],[]⟩) (fun r s'=>r=.ok (.ret (.bool true))∧OldK s₁.heap s'.heap∧s'.os=s₁.os∧AllBare s'.gens) s₁:=by
 have rv:=zahu hi
 have lenV:=hi.length
 have core:∀ H:Hp,Only H→SqL K H a (ns.map V.int)→HOk P w H s₁.heap→(∀ b,H b≠none→b=a)→(H a≠none→K.lookup a=none) →
   codeAny (model P w) callerA (.call (.ref fa) ⟨[.ref a],[]⟩) (fun r s'=>r=.ok (.ret (.bool true))∧OldK s₁.heap s'.heap∧s'.os=s₁.os∧AllBare s'.gens) s₁:=by
  intro H hO hS hok hA hK
  have base_of:∀ {b:Addr}{o:Obj},s₁.heap.get? b=some o→H b=none→(hidT s₁.heap H).get? b=some o:=fun e n=>zan3 e n
  have noA:∀ {b:Addr}{o:Obj}{es:Array DictEntry}{ep:Nat},s₁.heap.get? b=some o→o.data=.dict es ep→H b=none:=fun {b o es ep} e d=>by
   cases q:H b with
   | none=>rfl
   | some u =>
    have e':b=a:=hA b (by rw [q]; simp)
    subst e'
    rw [ha] at e; cases e
    have d':Data.seq vs.toArray _=Data.dict es ep:=d
    cases d'
  have nsK:∀ {b:Addr}{m:Str→Option Value},s₁.heap.Ns b m→(hidT s₁.heap H).Ns b m:=fun {b m} ⟨o,es,ep,e,d,r⟩=>⟨o,es,ep,base_of e (noA e d),d,r⟩
  have hKb:K.In (hidT s₁.heap H):=fun b o e=>base_of (KX b o e) (by
   cases q:H b with
   | none=>rfl
   | some u =>
    have e':b=a:=hA b (by rw [q]; simp)
    subst e'
    rw [hK (by rw [q]; simp)] at e; cases e)
  have hM:Mod K mg (hidT s₁.heap H):=⟨hKb,nsK hns,⟨mb,nsK hb,hbb⟩,let ⟨mc,h1,h2⟩:=hlim; ⟨mc,nsK h1,h2⟩⟩
  have e0:Env0 P w K mg (hidT s₁.heap H) callerA [] s₁ H:=⟨rfl,hM,fun b o e=>zaqa e,Nat.le_of_eq (zald _ _),trivial,fun b hb=>absurd (show b∈([]:List Addr) from hb) (by simp),hok,.of_eq hg⟩
  refine codeAny_mono ((F _ hKb (nsK hns)).run callerA [] s₁ H ⟨[.ref a],[]⟩ [.ref a] [.ref a] _ _ hr e0 (hbind s₁ (.ref a)) (.cons rfl .nil) (hsp H hO hS)) fun r s' h=>?_
  cases r with
  | error e=>exact (hCX H e s' h).elim
  | ok fl =>
   cases fl with
   | next=>exact False.elim h
   | brk=>exact False.elim h
   | cont=>exact False.elim h
   | ret u =>
    obtain ⟨v,H',os,bare,un,hok',r',q⟩:=h
    have q':v=.bl true:=q
    subst q'
    obtain rfl:u=Value.bool true:=r'
    refine ⟨rfl,OldK.of_keep fun b o e=>?_,os,bare⟩
    cases q:H b with
    | none=>exact un.keep b o e q (by intro z; exact absurd (show b∈([]:List Addr) from z) (by simp)) (by simp)
    | some u =>
     rcases hO b with z | ⟨ob,xs,z⟩
     ·rw [q] at z; cases z
     ·have z2:=un.frzs b ob _ z
      obtain ⟨e1,_⟩:=hok b _ z
      obtain ⟨e2,_⟩:=hok' b _ z2
      rw [e] at e1; cases e1
      exact e2
 cases hk:K.lookup a with
 | some o =>
  have e:=KX a o hk
  rw [ha] at e
  cases e
  refine core (fun _=>none) (fun _=>.inl rfl) (.inr ⟨_,vs.toArray,_,hk,rfl,rfl,rfl,by rw [List.size_toArray,lenV]; exact hl,by simpa using rv⟩) (fun b u z=>by have z':(none:Option HO)=some u:=z; cases z') (fun b z=>absurd rfl z) fun z=>absurd rfl z
 | none =>
  refine core (fun b=>if b=a then some (.frz { cls:=.type "list",data:=.seq vs.toArray } (.lst (ns.map V.int))) else none) (fun b=>?_) (.inl (.inr ⟨{ cls:=.type "list",data:=.seq vs.toArray },if_pos rfl⟩)) (fun b u z=>?_) (fun b z=>?_) fun _=>hk
  ·by_cases hb:b=a
   ·exact .inr ⟨_,_,if_pos hb⟩
   ·exact .inl (if_neg hb)
  ·by_cases hb:b=a
   ·have z':=(if_pos hb).symm.trans z
    cases z'
    subst hb
    exact ⟨ha,by rw [List.length_map]; exact hl,vs,_,rv,ha⟩
   ·have z':=(if_neg hb).symm.trans z
    cases z'
  ·by_cases hb:b=a
   ·exact hb
   ·exact absurd (if_neg hb) z
theorem zaqz {l:PySem.W.OpenLaw}{n k:Nat}{q:Program}{loose:List Str}{XP:(Str→Option Value)→Heap→Prop}{YP:World→Heap→Prop}{d:DefRec}{K:Params→PySem.W.Frag}{CX:World→CXT}{sp:World→Sp}{x:Str}
  (hn:l.most=some n) (hn2:n≤sizeLine) (hdf:d.params.defaults=[]) (hr:Room k callerA)
  (hY:∀ (w:World) (h:Heap),YP w h→(K w.params).In h)
  (F:∀ (w:World) (mg:Str→Option Value) (fa:Addr) (h:Heap),(K w.params).In h→h.Ns mainGlobals mg→mg d.name=some (.ref fa) →
   ∃ fd:FuncData,(∀ (s:Shared) (u:Value),BindsTo s fd ⟨[u],[]⟩ [(x,u)]) ∧
    ∀ base:Heap,(K w.params).In base→base.Ns mainGlobals mg→FnOk l.prog w (K w.params) mg base (CX w) k fa fd [x] (sp w))
  (hsp:∀ (w:World) (H:Hp) (a:Addr) (ns:List Int),ns.length≤n→Only H→SqL (K w.params) H a (ns.map V.int)→sp w [.ref a] H (fun v _=>v=.bl true) fun _ _ _=>False)
  (hCX:∀ (w:World) (H:Hp) (s:Shared) (e:Value) (s':Shared),CX w [] H s (fun _ _ _=>False) e s'→False) :
  PySem.W.WalkO q loose XP YP l.row.toRowW d [] (fun f vs=>PySem.call f vs):=by
 refine Att.attach_call hn hdf fun w s₀ s₁ mg mb fa o pm cd doc a vs ns G Y ho hd hcd hmg hobj hints hlen hg=>?_
 have KX:=hY w _ Y
 obtain ⟨fd,hb,hF⟩:=F w mg fa _ KX G.T.g hmg
 exact zaoi KX G.T.g G.T.b G.T.builtins G.T.nolimit hg hobj hints (Nat.le_trans hlen hn2) hr hF hb (fun H hO hS=>hsp w H a ns hlen hO hS) fun H e s'=>hCX w H s₁ e s'
theorem zaoj {l:PySem.W.OpenLaw}{n k:Nat}{q:Program}{loose:List Str}{XP:(Str→Option Value)→Heap→Prop}{YP:World→Heap→Prop}{d:DefRec}{K:Params→PySem.W.Frag}{CX:CXT}{sp:PySem.W.Frag→Sp}{x:Str}
  (hn:l.most=some n) (hn2:n≤sizeLine) (hdf:d.params.defaults=[]) (hr:Room k callerA)
  (hY:∀ (w:World) (h:Heap),YP w h→(K w.params).In h)
  (F:∀ (w:World) (mg:Str→Option Value) (fa:Addr) (h:Heap),(K w.params).In h→h.Ns mainGlobals mg→mg d.name=some (.ref fa) →
   ∃ fd:FuncData,(∀ (s:Shared) (u:Value),BindsTo s fd ⟨[u],[]⟩ [(x,u)]) ∧
    ∀ base:Heap,(K w.params).In base→base.Ns mainGlobals mg→FnOk l.prog w (K w.params) mg base CX k fa fd [x] (sp (K w.params)))
  (hsp:∀ (K:PySem.W.Frag) (H:Hp) (a:Addr) (ns:List Int),ns.length≤n→Only H→SqL K H a (ns.map V.int)→sp K [.ref a] H (fun v _=>v=.bl true) fun _ _ _=>False)
  (hCX:∀ (H:Hp) (s:Shared) (e:Value) (s':Shared),CX [] H s (fun _ _ _=>False) e s'→False) :
  PySem.W.WalkO q loose XP YP l.row.toRowW d [] (fun f vs=>PySem.call f vs) :=
 zaqz (K:=K) (CX:=fun _=>CX) (sp:=fun w=>sp (K w.params)) hn hn2 hdf hr hY F (fun w H a ns h1 h2 h3=>hsp (K w.params) H a ns h1 h2 h3) fun _ H s e s'=>hCX H s e s'
def inClass (s:Stmt) (j:Nat):Stmt:=match s with
 | .ClassDef _ _ _ body _ _ _ _ _ _ _=>body.getD j (.Pass ⟨0,0,0,0⟩)
 | _=>.Pass ⟨0,0,0,0⟩
def defArgs (s:Stmt):Arguments:=match s with
 | .FunctionDef _ a _ _ _ _ _ _ _ _=>a
 | _=>{ posonlyargs:=[],args:=[],vararg:=none,kwonlyargs:=[],kw_defaults:=[],kwarg:=none,defaults:=[] }
def defBody (s:Stmt):List Stmt:=match s with
 | .FunctionDef _ _ b _ _ _ _ _ _ _=>b
 | _=>[]
def defScope (s:Stmt):Scope:=match s with
 | .FunctionDef _ _ _ _ _ _ sc _ _ _=>sc
 | _=>{ kind:=.function,names:=[],isGenerator:=false,isCoroutine:=false }
abbrev CX0:CXT:=fun _ _ _ _ _ _=>False
abbrev E0:XK:=fun _ _ _=>False
theorem pass0 {X:Cx}:Passes CX0 X E0:=fun _ _ _ _ _ _ _ h=>h.elim
structure Fun (K:PySem.W.Frag) (x qual:Str) (st:Stmt) (f:Addr) (fd:FuncData):Prop where
 ex:∃ (oc:Value) (od:Option Addr) (kV doc pm:Value) (an:Option Addr) (cdv ct:Value) (osl:Array (Option Value)),
  fd=PySem.W.fnOf x qual (defArgs st) (defBody st) (defScope st) .none kV doc pm an cdv ct∧K.lookup f=some ⟨oc,od,.func fd,osl⟩∧PySem.W.codeIn K cdv qual=true
 kp:PySem.W.keepIn K (.ref f)=true
section
variable {P:Program}{w:World}{K:PySem.W.Frag}{mg:Str→Option Value}{base:Heap}
theorem Fun.ok {x qual:Str}{st:Stmt}{f:Addr}{fd:FuncData}{N ps:List Str}{k:Nat}{sp:Sp} (F:Fun K x qual st f fd) (S:FnScope N ps (defScope st)) (len:∀ vs H Q E,sp vs H Q E→vs.length=ps.length)
  (hbody:∀ (cdv:Value) (A:Around) (outer:List Env) (s:Shared) (H:Hp) (vs:List V) (Q:VK) (E:XK),Room k (A.deeper (envOfC qual (defScope st) s.heap.objs.size f cdv))→sp vs H Q E →
   ∃ t,PSs (cxOf CX0 P w K mg base N qual (defScope st) f cdv A outer s H E).nox (defBody st) t∧t { nx:=fun _ H'=>Q .non H',rt:=Q } (start N vs) H):FnOk P w K mg base CX0 (k + 1) f fd ps sp:=by
 obtain ⟨oc,od,kV,doc,pm,an,cdv,ct,osl,rfl,lk,hcd⟩:=F.ex
 refine zau3 lk hcd S len fun A outer s H vs Q E hr hsp=>?_
 obtain ⟨t,h,q⟩:=hbody cdv A outer s H vs Q E hr hsp
 exact ⟨t,h.nox,q⟩
theorem Fun.binds {x qual:Str}{st:Stmt}{f:Addr}{fd:FuncData}{ps:List Str} (F:Fun K x qual st f fd)
  (h:∀ (kV doc pm:Value) (an:Option Addr) (cdv ct:Value) (us:List Value),us.length=ps.length→bindArgs (PySem.W.fnOf x qual (defArgs st) (defBody st) (defScope st) .none kV doc pm an cdv ct) ⟨us,[]⟩=pure (ps.zip us)):Binds K fd ps []:=by
 obtain ⟨oc,od,kV,doc,pm,an,cdv,ct,osl,rfl,lk,hcd⟩:=F.ex
 exact .all (h kV doc pm an cdv ct)
theorem zabc {x qual:Str}{st:Stmt}{f:Addr}{oc:Value}{od an:Option Addr}{osl:Array (Option Value)}{kV doc pm cdv ct:Value} (l:K.lookup f=some ⟨oc,od,.func (PySem.W.fnOf x qual (defArgs st) (defBody st) (defScope st) .none kV doc pm an cdv ct),osl⟩)
  (c:PySem.W.codeIn K cdv qual=true) (k:PySem.W.keepIn K (.ref f)=true):Fun K x qual st f (PySem.W.fnOf x qual (defArgs st) (defBody st) (defScope st) .none kV doc pm an cdv ct):=⟨⟨oc,od,kV,doc,pm,an,cdv,ct,osl,rfl,l,c⟩,k⟩
end
theorem zaly {A:Around}{k:Nat} (hr:Room k A):A.units + 1 < cLine:=Nat.lt_of_le_of_lt (Nat.add_le_add_left (by decide:1≤64) _) hr.units
theorem iteF {A B:Prop} (h:B):if false=true then A else B:=by
 rw [if_neg Bool.false_ne_true]
 exact h
theorem iteT {A B:Prop} (h:A):if true=true then A else B:=by
 rw [if_pos rfl]
 exact h
theorem ite2 {c A B:Prop} [Decidable c] (h1:c→A) (h2:¬ c→B):if c then A else B:=by
 by_cases h:c
 ·rw [if_pos h]
  exact h1 h
 ·rw [if_neg h]
  exact h2 h
end L2

namespace L2
open PySem PySem.Spec PyProof.Rows
section
variable {κ:Type} [DecidableEq κ]
def valV (kvs:List (κ × V)) (k:κ):Option V:=(kvs.find? fun kv=>decide (kv.1=k)).map (·.2)
def putK (kvs:List (κ × V)) (k:κ) (v:V):List (κ × V) :=
 if (kvs.any fun kv=>decide (kv.1=k))=true then kvs.map (fun kv=>if kv.1=k then (kv.1,v) else kv) else kvs++[(k,v)]
theorem zac2 {p:κ × V}{r:List (κ × V)}{k:κ} (e:p.1=k):valV (p :: r) k=some p.2:=by simp [valV,List.find?_cons,e]
theorem zac3 {p:κ × V}{r:List (κ × V)}{k:κ} (e:¬ p.1=k):valV (p :: r) k=valV r k:=by simp [valV,List.find?_cons,e]
theorem zafe (k:κ):∀ kvs:List (κ × V),(kvs.any fun kv=>decide (kv.1=k))=(valV kvs k).isSome
 | []=>rfl
 | p :: r=>by
  rw [List.any_cons]
  by_cases e:p.1=k
  ·simp only [zac2 e,decide_eq_true e,Bool.true_or,Option.isSome_some]
  ·rw [zac3 e,decide_eq_false e,Bool.false_or]; exact zafe k r
theorem zaj2 (k j:κ) (y:V):∀ kvs:List (κ × V),valV (kvs.map fun kv=>if kv.1=k then (kv.1,y) else kv) j=(valV kvs j).map fun x=>if j=k then y else x
 | []=>rfl
 | p :: r=>by
  have ih:=zaj2 k j y r
  rw [List.map_cons]
  by_cases h:p.1=k
  ·rw [if_pos h]
   by_cases e:p.1=j
   ·rw [zac2 (p:=(p.1,y)) e,zac2 e,Option.map_some,if_pos (e.symm.trans h)]
   ·rw [zac3 (p:=(p.1,y)) e,zac3 e,ih]
  ·rw [if_neg h]
   by_cases e:p.1=j
   ·rw [zac2 (p:=p) e,zac2 e,Option.map_some,if_neg (fun z=>h (e.trans z))]
   ·rw [zac3 (p:=p) e,zac3 e,ih]
theorem zahv (k j:κ) (y:V):∀ kvs:List (κ × V),valV kvs k=none→valV (kvs++[(k,y)]) j=if j=k then some y else valV kvs j
 | [],_=>by
  by_cases e:k=j
  ·rw [if_pos e.symm]; exact zac2 (p:=(k,y)) e
  ·rw [if_neg (fun z=>e z.symm)]; exact zac3 (p:=(k,y)) e
 | p :: r,hn=>by
  rw [List.cons_append]
  have hk:¬ p.1=k:=fun z=>by rw [zac2 z] at hn; cases hn
  rw [zac3 hk] at hn
  have ih:=zahv k j y r hn
  by_cases e:p.1=j
  ·rw [zac2 e,zac2 e,if_neg (fun z=>hk (e.trans z))]
  ·rw [zac3 e,zac3 e,ih]
theorem zaff (kvs:List (κ × V)) (k j:κ) (y:V):valV (putK kvs k y) j=if j=k then some y else valV kvs j:=by
 unfold putK
 by_cases a:(kvs.any fun kv=>decide (kv.1=k))=true
 ·rw [if_pos a,zaj2]
  rw [zafe] at a
  by_cases e:j=k
  ·obtain ⟨x,hx⟩:=Option.isSome_iff_exists.mp a
   rw [if_pos e,e,hx,Option.map_some,if_pos rfl]
  ·rw [if_neg e]
   cases valV kvs j with
   | none=>rfl
   | some x=>rw [Option.map_some,if_neg e]
 ·rw [if_neg a]
  refine zahv k j y kvs ?_
  rw [zafe] at a
  cases q:valV kvs k with
  | none=>rfl
  | some x=>rw [q] at a; exact (a rfl).elim
theorem zac5 (kvs:List (κ × V)) (k:κ) (v:V):(putK kvs k v).length≤kvs.length + 1:=by
 unfold putK
 split
 ·rw [List.length_map]; omega
 ·rw [List.length_append,List.length_cons,List.length_nil]; omega
theorem RelO.isSome_eq {o:Option V}{u:Option Value} (r:RelO o u):o.isSome=u.isSome:=by
 cases o with
 | none=>cases u with
  | none=>rfl
  | some _=>exact (show False from r).elim
 | some _=>cases u with
  | none=>exact (show False from r).elim
  | some _=>rfl
theorem RelO.getD {o:Option V}{u:Option Value}{d:V}{d':Value} (r:RelO o u) (rd:RelV d d'):RelV (o.getD d) (u.getD d'):=by
 cases o with
 | none=>cases u with
  | none=>exact rd
  | some _=>exact (show False from r).elim
 | some _=>cases u with
  | none=>exact (show False from r).elim
  | some _=>exact r
theorem KV.val {kvs:List (κ × V)}{vs:List (κ × Value)} (r:KV kvs vs) (k:κ):RelO (valV kvs k) (valueAt vs k):=by
 unfold KV at r
 induction r with
 | nil=>exact True.intro
 | @cons p q ps qs h t ih =>
  obtain ⟨h1,h2⟩:=h
  by_cases e:p.1=k
  ·have e':q.1=k:=h1.symm.trans e
   have b:valueAt (q :: qs) k=some q.2:=by simp [valueAt,List.find?_cons,e']
   rw [zac2 e,b]; exact h2
  ·have e':¬ q.1=k:=fun z=>e (h1.trans z)
   have b:valueAt (q :: qs) k=valueAt qs k:=by simp [valueAt,List.find?_cons,e']
   rw [zac3 e,b]; exact ih
theorem KV.any {kvs:List (κ × V)}{vs:List (κ × Value)} (r:KV kvs vs) (k:κ):(kvs.any fun kv=>decide (kv.1=k))=vs.any fun kv=>decide (kv.1=k):=by
 unfold KV at r
 induction r with
 | nil=>rfl
 | cons h t ih=>rw [List.any_cons,List.any_cons,ih,h.1]
theorem KV.repl {kvs:List (κ × V)}{vs:List (κ × Value)} (r:KV kvs vs) (k:κ) {y:V}{u:Value} (ry:RelV y u) :
  KV (kvs.map fun kv=>if kv.1=k then (kv.1,y) else kv) (vs.map fun kv=>if kv.1=k then (kv.1,u) else kv):=by
 unfold KV at r ⊢
 induction r with
 | nil=>exact .nil
 | @cons p q ps qs h t ih =>
  rw [List.map_cons,List.map_cons]
  refine .cons ?_ ih
  obtain ⟨h1,h2⟩:=h
  by_cases e:p.1=k
  ·rw [if_pos e,if_pos (h1.symm.trans e)]; exact ⟨h1,ry⟩
  ·rw [if_neg e,if_neg (fun z=>e (h1.trans z))]; exact ⟨h1,h2⟩
theorem KV.put {kvs:List (κ × V)}{vs:List (κ × Value)} (r:KV kvs vs) (k:κ) {y:V}{u:Value} (ry:RelV y u):KV (putK kvs k y) (stored vs k u):=by
 unfold putK stored
 rw [r.any k]
 by_cases e:(vs.any fun kv=>decide (kv.1=k))=true
 ·rw [if_pos e,if_pos e]; exact r.repl k ry
 ·rw [if_neg e,if_neg e]; exact Paired.snoc r ⟨rfl,ry⟩
theorem KV.length {kvs:List (κ × V)}{vs:List (κ × Value)} (r:KV kvs vs):kvs.length=vs.length:=Paired.length r
end
theorem zaf8 {P:Program}{w:World}{k:Key}{u:Value} (r:RelV (kV k) u):(mixKind P w).is k u=true:=by
 cases k with
 | inl i=>obtain ⟨t,e⟩:=(show ∃ t,u=Value.int i t from r); subst e; exact zaij P w i t
 | inr x=>obtain ⟨t,e⟩:=(show ∃ t,u=Value.str x t from r); subst e; exact zaik P w x t
theorem zahw {P:Program}{w:World}:∀ {ks:List Key}{us:List Value},Vals (ks.map kV) us→ItemsAre (mixKind P w) ks us
 | [],_,r=>by rw [List.map_nil] at r; cases r; exact .nil
 | k :: ks,_,r=>by
  rw [List.map_cons] at r
  cases r with
  | cons h t=>exact .cons (zaf8 h) (zahw t)
abbrev KT (H:Hp):List (List Key × V)→List (List Key × Addr × Value)→Prop:=Paired fun p q=>p.1=q.1∧H q.2.1=some (.tup (p.1.map kV))∧RelV p.2 q.2.2
theorem KT.val {H:Hp}{kvs:List (List Key × V)}{xs:List (List Key × Addr × Value)} (r:KT H kvs xs) (k:List Key):RelO (valV kvs k) ((atKey xs k).map (·.2)):=by
 induction r with
 | nil=>exact True.intro
 | @cons p q ps qs h t ih =>
  obtain ⟨h1,_,h2⟩:=h
  by_cases e:p.1=k
  ·have e':q.1=k:=h1.symm.trans e
   have b:atKey (q :: qs) k=some q.2:=by simp [atKey,List.find?_cons,e']
   rw [zac2 e,b]; exact h2
  ·have e':¬ q.1=k:=fun z=>e (h1.trans z)
   have b:atKey (q :: qs) k=atKey qs k:=by simp [atKey,List.find?_cons,e']
   rw [zac3 e,b]; exact ih
theorem KT.repl {H:Hp}{kvs:List (List Key × V)}{xs:List (List Key × Addr × Value)} (r:KT H kvs xs) (k:List Key) {y:V}{u:Value} (ry:RelV y u) :
  KT H (kvs.map fun kv=>if kv.1=k then (kv.1,y) else kv) (xs.map (putAt k u)):=by
 induction r with
 | nil=>exact .nil
 | @cons p q ps qs h t ih =>
  rw [List.map_cons,List.map_cons]
  refine .cons ?_ ih
  obtain ⟨h1,h2,h3⟩:=h
  unfold putAt
  by_cases e:p.1=k
  ·rw [if_pos e,if_pos (h1.symm.trans e)]; exact ⟨h1,h2,ry⟩
  ·rw [if_neg e,if_neg (fun z=>e (h1.trans z))]; exact ⟨h1,h2,h3⟩
theorem KT.put {H:Hp}{kvs:List (List Key × V)}{xs:List (List Key × Addr × Value)} (r:KT H kvs xs) (k:List Key) {b:Addr}{y:V}{u:Value} (hb:H b=some (.tup (k.map kV))) (ry:RelV y u) :
  KT H (putK kvs k y) (storedH xs k b u):=by
 have e:(kvs.any fun kv=>decide (kv.1=k))=(atKey xs k).isSome:=by
  rw [zafe,(r.val k).isSome_eq,Option.isSome_map]
 unfold putK storedH
 rw [e]
 by_cases q:(atKey xs k).isSome=true
 ·rw [if_pos q,if_pos q]; exact r.repl k ry
 ·rw [if_neg q,if_neg q]; exact Paired.snoc r ⟨rfl,hb,ry⟩
theorem KT.keeps {H H':Hp}{kvs:List (List Key × V)}{xs:List (List Key × Addr × Value)} (r:KT H kvs xs) (ht:∀ b ys,H b=some (.tup ys)→H' b=some (.tup ys)):KT H' kvs xs :=
 Paired.mapP r fun _ _ z=>⟨z.1,ht _ _ z.2.1,z.2.2⟩
section
variable {P:Program}{w:World}{H:Hp}{h:Heap}{a:Addr}
theorem zatl {u:HO} (ok:HOk P w H h) (e:Rd H a u):ObjOk P w H h a u:=e.ok ok
theorem zahx {kvs:List (Key × V)} (ok:HOk P w H h) (e:Rd H a (.dK kvs)):kvs.length≤sizeLine∧(a == sysModules)=false∧∃ vs,KV kvs vs∧h.DictOf (mixKind P w) a vs :=
 show ObjOk P w H h a (.dK kvs) from zatl ok e
theorem zatm {kvs:List (Key × V)} (ok:HOk P w H h) (e:H a=some (.dK kvs)):kvs.length≤sizeLine∧(a == sysModules)=false∧∃ vs,KV kvs vs∧h.DictOf (mixKind P w) a vs:=zahx ok (.inl e)
theorem zagd {ks:List Key} (ok:HOk P w H h) (e:H a=some (.tup (ks.map kV))):(tupleKind (mixKind P w)).is h ks a:=by
 obtain ⟨_,its,r,o,h1,h2,n,h3⟩:=(show ObjOk P w H h a (.tup (ks.map kV)) from ok a _ e)
 exact ⟨o,its.toArray,n,h1,h2,h3,by simpa using zahw r⟩
theorem zain {kvs:List (List Key × V)} (ok:HOk P w H h) (e:Rd H a (.dT kvs)):kvs.length≤sizeLine∧(a == sysModules)=false ∧
  ∃ xs,KT H kvs xs∧h.DictOfH (tupleKind (mixKind P w)) a xs:=by
 obtain ⟨z,y,xs,r,o,es,ep,h1,h2,h3,h4,h5⟩:=(show ObjOk P w H h a (.dT kvs) from zatl ok e)
 refine ⟨z,y,xs,r,o,es,ep,h1,h2,h3,h4,fun x hx=>?_,h5⟩
 have all:∀ {l:List (List Key × V)}{m:List (List Key × Addr × Value)},KT H l m→∀ x∈m,(tupleKind (mixKind P w)).is h x.1 x.2.1:=by
  intro l m q
  induction q with
  | nil=>intro x hx; exact nomatch hx
  | @cons p q ps qs hq t ih =>
   intro x hx
   rcases List.mem_cons.mp hx with e | hx
   ·subst e
    exact zagd ok (by rw [← hq.1]; exact hq.2.1)
   ·exact ih x hx
 exact all r x hx
theorem zau6 {kvs:List (List Key × V)} (ok:HOk P w H h) (e:H a=some (.dT kvs)):kvs.length≤sizeLine∧(a == sysModules)=false ∧
  ∃ xs,KT H kvs xs∧h.DictOfH (tupleKind (mixKind P w)) a xs:=zain ok (.inl e)
end
def DGet (H:Hp) (a:Addr) (y:V) (r:Option V):Prop :=
 (∃ kvs k,Rd H a (.dK kvs)∧y=kV k∧r=valV kvs k)∨∃ kvs k b,Rd H a (.dT kvs)∧y=.ref b∧H b=some (.tup (k.map kV))∧r=valV kvs k
def DPut (H:Hp) (a:Addr) (y v:V) (H':Hp):Prop :=
 (∃ kvs k,H a=some (.dK kvs)∧y=kV k∧kvs.length < sizeLine∧H'=upd H a (.dK (putK kvs k v))) ∨
 ∃ kvs k b,H a=some (.dT kvs)∧y=.ref b∧H b=some (.tup (k.map kV))∧kvs.length < sizeLine∧H'=upd H a (.dT (putK kvs k v))
theorem DGet.k {H:Hp}{a:Addr}{kvs:List (Key × V)}{k:Key} (e:H a=some (.dK kvs)):DGet H a (kV k) (valV kvs k):=.inl ⟨kvs,k,.inl e,rfl,rfl⟩
theorem DGet.t {H:Hp}{a b:Addr}{kvs:List (List Key × V)}{k:List Key} (e:H a=some (.dT kvs)) (eb:H b=some (.tup (k.map kV))):DGet H a (.ref b) (valV kvs k):=.inr ⟨kvs,k,b,.inl e,rfl,eb,rfl⟩
theorem DPut.k {H:Hp}{a:Addr}{kvs:List (Key × V)}{k:Key}{v:V} (e:H a=some (.dK kvs)) (hl:kvs.length < sizeLine):DPut H a (kV k) v (upd H a (.dK (putK kvs k v))):=.inl ⟨kvs,k,e,rfl,hl,rfl⟩
theorem DPut.t {H:Hp}{a b:Addr}{kvs:List (List Key × V)}{k:List Key}{v:V} (e:H a=some (.dT kvs)) (eb:H b=some (.tup (k.map kV))) (hl:kvs.length < sizeLine) :
  DPut H a (.ref b) v (upd H a (.dT (putK kvs k v))):=.inr ⟨kvs,k,b,e,rfl,eb,hl,rfl⟩
section
variable {X:Cx}{pins:List (Addr × Obj)}{σ:St}{H:Hp}{s:Shared}{a:Addr}{y v:V}{u r:Value}{o:Option V}{A:Around}{E:Value→Shared→Prop}
theorem Inv.big (I:Inv X pins σ H s):sysModules < s.heap.objs.size:=by
 have h:mainGlobals < s.heap.objs.size:=(I.mod.glob.keeps I.bk).lt
 exact Nat.lt_trans (by decide) h
theorem zalz {Q:Value→Shared→Prop} (hu:A.units + 1 < cLine) (I:Inv X pins σ H s) (g:DGet H a y (some v)) (ry:RelV y u) (h:∀ w' s',Inv X pins σ H s'→RelV v w'→Q w' s') :
  wpAny (model X.prog X.w) A (getItem (.ref a) u) Q E s:=by
 rcases g with ⟨kvs,k,e,ey,l⟩ | ⟨kvs,k,b,e,ey,eb,l⟩
 ·subst ey
  obtain ⟨z,hd,vs,rel,dd⟩:=zahx I.hok e
  obtain ⟨w',hw,rw'⟩:=RelO.some_of (v:=v) (o:=valueAt vs k) (by rw [l]; exact rel.val k)
  exact wpAny_getItem_of (zaf8 ry) dd.mapOf hw (h w' _ (I.tok _) rw')
 ·subst ey
  cases (show u=Value.ref b from ry)
  obtain ⟨z,hd,xs,rel,dd⟩:=zain I.hok e
  obtain ⟨w',hw,rw'⟩:=RelO.some_of (v:=v) (o:=(atKey xs k).map (·.2)) (by rw [l]; exact rel.val k)
  obtain ⟨p,hp,hp2⟩:=Option.map_eq_some_iff.mp hw
  refine wpAny_getItem_heap (tupleKind_room_in1 hu) (zagd I.hok eb) dd hp ?_
  rw [hp2]
  exact h w' _ (I.tok _) rw'
theorem d_in {Q:Value→Shared→Prop} (hu:A.units + 1 < cLine) (I:Inv X pins σ H s) (g:DGet H a y o) (ry:RelV y u) (h:∀ s',Inv X pins σ H s'→Q (.bool o.isSome) s') :
  wpAny (model X.prog X.w) A (compareOp .In u (.ref a)) Q E s:=by
 rcases g with ⟨kvs,k,e,ey,l⟩ | ⟨kvs,k,b,e,ey,eb,l⟩
 ·subst ey
  obtain ⟨z,hd,vs,rel,dd⟩:=zahx I.hok e
  refine wpAny_in_of (zaf8 ry) hd dd.mapOf ?_
  rw [← (rel.val k).isSome_eq,← l]
  exact h _ (I.tok _)
 ·subst ey
  cases (show u=Value.ref b from ry)
  obtain ⟨z,hd,xs,rel,dd⟩:=zain I.hok e
  refine wpAny_in_heap (tupleKind_room_in1 hu) (zagd I.hok eb) hd dd ?_
  have q:=(rel.val k).isSome_eq
  rw [Option.isSome_map] at q
  rw [← q,← l]
  exact h _ (I.tok _)
theorem zaq0 {Q:Value→Shared→Prop} (hu:A.units + 1 < cLine) (I:Inv X pins σ H s) (g:DGet H a y o) (ry:RelV y u) (h:∀ s',Inv X pins σ H s'→Q (.bool (!o.isSome)) s') :
  wpAny (model X.prog X.w) A (compareOp .NotIn u (.ref a)) Q E s:=by
 rcases g with ⟨kvs,k,e,ey,l⟩ | ⟨kvs,k,b,e,ey,eb,l⟩
 ·subst ey
  obtain ⟨z,hd,vs,rel,dd⟩:=zahx I.hok e
  refine wpAny_notIn_of (zaf8 ry) hd dd.mapOf ?_
  rw [← (rel.val k).isSome_eq,← l]
  exact h _ (I.tok _)
 ·subst ey
  cases (show u=Value.ref b from ry)
  obtain ⟨z,hd,xs,rel,dd⟩:=zain I.hok e
  refine wpAny_notIn_heap (tupleKind_room_in1 hu) (zagd I.hok eb) hd dd ?_
  have q:=(rel.val k).isSome_eq
  rw [Option.isSome_map] at q
  rw [← q,← l]
  exact h _ (I.tok _)
theorem zaio {h':Heap}{t':Nat}{ob:HO} (I:Inv X pins σ H s) (mu:Mut (H a)) (hs:Heap.SameBut a s.heap h') (he:∃ q,h'.get? a=some q) (new:ObjOk X.prog X.w (upd H a ob) h' a ob) :
  Inv X pins σ (upd H a ob) { s with heap:=h',toks:=t' } :=
 I.write (x:=a) (e:=a) mu (.inl rfl) (fun b q hb z=>(hs.2 b hb).trans z) he new
theorem zapn {P:Program}{w:World}{H':Hp}{h':Heap}{kvs:List (Key × V)}{vs:List (Key × Value)} (z:kvs.length≤sizeLine) (hd:(a == sysModules)=false) (rel:KV kvs vs) (dd:h'.DictOf (mixKind P w) a vs) :
  ObjOk P w H' h' a (.dK kvs):=⟨z,hd,vs,rel,dd⟩
theorem zal0 {H':Hp}{Q:Unit→Shared→Prop} (hu:A.units + 1 < cLine) (I:Inv X pins σ H s) (g:DPut H a y v H') (ry:RelV y u) (rv:RelV v r) (h:∀ s',Inv X pins σ H' s'→Q () s') :
  wpAny (model X.prog X.w) A (setItem (.ref a) u r) Q E s:=by
 rcases g with ⟨kvs,k,e,ey,l,eH⟩ | ⟨kvs,k,b,e,ey,eb,l,eH⟩
 ·subst ey eH
  obtain ⟨z,hd,vs,rel,dd⟩:=zatm I.hok e
  have hz:vs.length≤sizeLine:=by rw [← rel.length]; exact z
  have hl:(putK kvs k v).length≤sizeLine:=by have:=zac5 kvs k v; omega
  refine wpAny_setItem_pairs (hsz:=hz) (zaf8 ry) dd fun h' dd' hs=>h _ ?_
  have he:∃ q,h'.get? a=some q:=let ⟨q,_,_,hq,_⟩:=dd'; ⟨q,hq⟩
  exact zaio I (by rw [e]; exact True.intro) hs he (zapn hl hd (rel.put k rv) dd')
 ·subst ey eH
  cases (show u=Value.ref b from ry)
  obtain ⟨z,hd,xs,rel,dd⟩:=zau6 I.hok e
  have hz:xs.length≤sizeLine:=by rw [← Paired.length rel]; exact z
  have hl:(putK kvs k v).length≤sizeLine:=by have:=zac5 kvs k v; omega
  refine wpAny_setItem_heap (hsz:=hz) (tupleKind_room_in1 hu) (zagd I.hok eb) dd fun h' dd' hs=>h _ ?_
  obtain ⟨q,es,ep,hq,h2,h3,h4,_,h5⟩:=dd'
  refine zaio I (by rw [e]; exact True.intro) hs ⟨q,hq⟩ ⟨hl,hd,_,(rel.put k eb rv).keeps fun c ys ec=>?_,q,es,ep,hq,h2,h3,h4,h5⟩
  rw [zabq (zadb ec e (fun z=>nomatch z))]
  exact ec
end
def NoSl (i:Expr):Prop:=∀ ov iv,subscripted i false ov iv=operate [ov,iv] (getItem ov iv)
theorem zal1 {prog:Program}{w:World}{A:Around}{E:Value→Shared→Prop}{s:Shared}{env:Env}{value slice:Expr}{pos:Pos}{T id:String}{Q:Value→Shared→Prop}
  (hl:typeLookup (.type T) "__getitem__" = pure (some (.builtin id))) (hs:NoSl slice)
  (h:wpAny (model prog w) A (eval value env) (fun o s₁=>wpAny (model prog w) A (eval slice env) (fun i s₂=>s₂.TypeIs o T∧wpAny (model prog w) A (getItem o i) Q E s₂) E s₁) E s) :
  wpAny (model prog w) A (eval (.Subscript value slice pos) env) Q E s:=by
 refine Subscript_ (wpAny_mono h (fun o s₁ h₁=>wpAny_mono h₁ (fun i s₂ h₂=>?_) fun _ _ x=>x) fun _ _ x=>x)
 obtain ⟨hT,h₂⟩:=h₂
 unfold subscriptTail
 refine wpAny_bind ?_
 rw [getitemInPython_of_ne hT.not_modules]
 refine wpAny_bind (wpAny_specialOf hT hl ?_)
 have fin:wpAny (model prog w) A (subscripted slice false o i) (fun r s₃=>wpAny (model prog w) A (letTemporaryGo value o r >>= fun _=>pure r) Q E s₃) E s₂:=by
  rw [hs o i]
  exact wpAny_operating (wpAny_mono h₂ (fun r s₃ h₃=>wpAny_bind (wpAny_letTemporaryGo (wpAny_pure h₃))) fun _ _ x=>x)
 first
  | exact wpAny_pure (wpAny_bind fin)
  | exact wpAny_bind (wpAny_pure (wpAny_bind fin))
  | exact wpAny_bind fin
theorem zaip {X:Cx}{pins:List (Addr × Obj)}{σ:St}{H:Hp}{s:Shared}{a:Addr}{y:V}{o:Option V} (I:Inv X pins σ H s) (g:DGet H a y o):s.TypeIs (.ref a) "dict" := by
 rcases g with ⟨kvs,k,e,_,_⟩ | ⟨kvs,k,b,e,_,_,_⟩
 ·obtain ⟨_,_,vs,_,dd⟩:=zahx I.hok e
  exact dd.typeIs
 ·obtain ⟨_,_,xs,_,dd⟩:=zain I.hok e
  exact dd.typeIs
def tDGet (td ty:TE):TE:=fun σ H Q=>td σ H fun x H1=>ty σ H1 fun y H2=>∃ a v,x=.ref a∧DGet H2 a y (some v)∧Q v H2
def tDIn (ty td:TE):TE:=fun σ H Q=>ty σ H fun y H1=>td σ H1 fun x H2=>∃ a o,x=.ref a∧DGet H2 a y o∧Q (.bl o.isSome) H2
def tDNotIn (ty td:TE):TE:=fun σ H Q=>ty σ H fun y H1=>td σ H1 fun x H2=>∃ a o,x=.ref a∧DGet H2 a y o∧Q (.bl (!o.isSome)) H2
def sDPut (td ty tv:TE):TS:=fun D σ H=>tv σ H fun v H1=>td σ H1 fun x H2=>ty σ H2 fun y H3=>∃ a H4,x=.ref a∧DPut H3 a y v H4∧D.nx σ H4
section
variable {X:Cx}{o i e value:Expr}{pos pos' tpos:Pos}{td ty tv:TE}
theorem zaq1 (hu:X.A.units + 1 < cLine) (ho:PE X o td) (hi:PE X i ty) (hs:NoSl i):PE X (.Subscript o i pos) (tDGet td ty):=by
 intro pins s σ H Q I h
 refine zal1 PySem.F.slot_dict_getitem.lookup hs (thn (ho pins s σ H _ I h) fun u s1 ⟨x,H1,I1,rx,q1⟩=>thn (hi pins s1 σ H1 _ I1 q1) fun iv s2 ⟨y,H2,I2,ry,a,v,ex,g,q2⟩=>?_)
 subst ex
 obtain rfl:u=Value.ref a:=rx
 exact ⟨zaip I2 g,zalz hu I2 g ry fun w' s3 I3 rw'=>⟨v,H2,I3,rw',q2⟩⟩
theorem zatn (hu:X.A.units + 1 < cLine) (hi:PE X i ty) (ho:PE X o td):PC X .In i o (tDIn ty td):=by
 intro pins s σ H Q I h
 refine thn (hi pins s σ H _ I h) fun iv s1 ⟨y,H1,I1,ry,q1⟩=>thn (ho pins s1 σ H1 _ I1 q1) fun u s2 ⟨x,H2,I2,rx,a,ov,ex,g,q2⟩=>?_
 subst ex
 obtain rfl:u=Value.ref a:=rx
 exact d_in hu I2 g ry fun s3 I3=>⟨.bl ov.isSome,H2,I3,rfl,q2⟩
theorem zal2 (hu:X.A.units + 1 < cLine) (hi:PE X i ty) (ho:PE X o td):PC X .NotIn i o (tDNotIn ty td):=by
 intro pins s σ H Q I h
 refine thn (hi pins s σ H _ I h) fun iv s1 ⟨y,H1,I1,ry,q1⟩=>thn (ho pins s1 σ H1 _ I1 q1) fun u s2 ⟨x,H2,I2,rx,a,ov,ex,g,q2⟩=>?_
 subst ex
 obtain rfl:u=Value.ref a:=rx
 exact zaq0 hu I2 g ry fun s3 I3=>⟨.bl (!ov.isSome),H2,I3,rfl,q2⟩
theorem zaq2 (hu:X.A.units + 1 < cLine) (ho:PE X o td) (hi:PE X i ty) (hv:PE X value tv) (hs:swapsWith value (some (.Subscript o i pos')) pos.line X.env=pure false) :
  PS X (.Assign [.Subscript o i pos'] value pos) (sDPut td ty tv):=by
 intro pins s σ H D I h
 refine wpAny_Assign_Subscript (thn (hv pins s σ H _ I h) fun r s1 ⟨v,H1,I1,rv,q1⟩=>thn (ho pins s1 σ H1 _ I1 q1) fun u s2 ⟨x,H2,I2,rx,q2⟩=>thn (hi pins s2 σ H2 _ I2 q2) fun iv s3 ⟨y,H3,I3,ry,a,H4,ex,g,q3⟩=>?_) hs
 subst ex
 obtain rfl:u=Value.ref a:=rx
 exact zal0 hu I3 g ry rv fun s4 I4=>⟨σ,H4,I4,q3⟩
end
theorem zaj3 {P:Program}{w:World}{H:Hp} (h:Heap) (hb:sysModules < h.objs.size):ObjOk P w H (h.push { cls:=.type "dict",data:=.dict #[] }) h.objs.size (.dK []) :=
 ⟨Nat.zero_le _,beq_eq_false_iff_ne.mpr (Ne.symm (Nat.ne_of_lt hb)),[],.nil,Heap.DictOf.new h⟩
theorem zaok {P:Program}{w:World}{H:Hp} (h:Heap) (hb:sysModules < h.objs.size):ObjOk P w H (h.push { cls:=.type "dict",data:=.dict #[] }) h.objs.size (.dT []) :=
 ⟨Nat.zero_le _,beq_eq_false_iff_ne.mpr (Ne.symm (Nat.ne_of_lt hb)),[],.nil,_,#[],0,Heap.get?_push_size _ rfl,⟨rfl,rfl,rfl⟩,rfl,rfl,List.nodup_nil⟩
def tDNewK:TE:=fun _ H Q=>∀ p,H p=none→Q (.ref p) (upd H p (.dK []))
def tDNewT:TE:=fun _ H Q=>∀ p,H p=none→Q (.ref p) (upd H p (.dT []))
section
variable {X:Cx}{pos:Pos}
theorem zaol:PE X (.Dict [] [] pos) tDNewK:=fun pins s σ H Q I h =>
 wpAny_Dict_empty ⟨.ref s.heap.objs.size,_,I.laid (a:=s.heap.objs.size) (o:=.dK []) (t':=s.toks) (fun _ _ q=>Heap.get?_push_of_some _ q) (Nat.le_refl _) (zaj3 s.heap I.big),rfl,h _ (I.hok.fresh (Nat.le_refl _))⟩
theorem zaom:PE X (.Dict [] [] pos) tDNewT:=fun pins s σ H Q I h =>
 wpAny_Dict_empty ⟨.ref s.heap.objs.size,_,I.laid (a:=s.heap.objs.size) (o:=.dT []) (t':=s.toks) (fun _ _ q=>Heap.get?_push_of_some _ q) (Nat.le_refl _) (zaok s.heap I.big),rfl,h _ (I.hok.fresh (Nat.le_refl _))⟩
end
def tPairs:List (TE × TE)→St→Hp→(List (V × V)→Hp→Prop)→Prop
 | [],_,H,Q=>Q [] H
 | (tk,tv) :: r,σ,H,Q=>tk σ H fun x H1=>tv σ H1 fun y H2=>tPairs r σ H2 fun ps H3=>Q ((x,y) :: ps) H3
abbrev VV:List (V × V)→List (Value × Value)→Prop:=Paired fun p q=>RelV p.1 q.1∧RelV p.2 q.2
def PPs (X:Cx) (pos:Pos) (keys:List (Option Expr)) (values:List Expr) (trs:List (TE × TE)):Prop :=
 ∀ (pins:List (Addr × Obj)) (s:Shared) (σ:St) (H:Hp) (Q:List (V × V)→Hp→Prop),Inv X pins σ H s→tPairs trs σ H Q →
  wpAny (model X.prog X.w) X.A (evalPairs (pairTrees keys values X.env pos)) (fun vs s'=>∃ ps H',Inv X pins σ H' s'∧VV ps vs∧Q ps H') X.xe s
theorem zaq3 {X:Cx}{pos:Pos}:PPs X pos [] [] []:=fun pins s σ H Q I h=>pairTrees_nil_walk ⟨[],H,I,.nil,h⟩
theorem zaon {X:Cx}{pos:Pos}{k v:Expr}{ks:List (Option Expr)}{vs:List Expr}{tk tv:TE}{trs:List (TE × TE)} (hk:PE X k tk) (hv:PE X v tv) (hr:PPs X pos ks vs trs) :
  PPs X pos (some k :: ks) (v :: vs) ((tk,tv) :: trs):=fun pins s σ H Q I h =>
 pairTrees_cons_walk (thn (hk pins s σ H _ I h) fun u s1 ⟨x,H1,I1,rx,q1⟩=>thn (hv pins s1 σ H1 _ I1 q1) fun w2 s2 ⟨y,H2,I2,ry,q2⟩ =>
  thn (hr pins s2 σ H2 _ I2 q2) fun ws s3 ⟨ps,H3,I3,rel,q3⟩=>⟨(x,y) :: ps,H3,I3,.cons ⟨rx,ry⟩ rel,q3⟩)
def mergeK (kvs more:List (Key × V)):List (Key × V):=more.foldl (fun acc kv=>putK acc kv.1 kv.2) kvs
theorem KV.merge:∀ {more:List (Key × V)}{rs:List (Key × Value)}{kvs:List (Key × V)}{vs:List (Key × Value)},KV more rs→KV kvs vs→KV (mergeK kvs more) (merged vs rs):=by
 intro more rs kvs vs r
 unfold KV at r
 induction r generalizing kvs vs with
 | nil=>intro q; exact q
 | @cons p q ps qs h t ih =>
  intro r0
  have e:KV (putK kvs p.1 p.2) (stored vs q.1 q.2):=by
   have:=r0.put p.1 h.2
   rw [← h.1]; exact this
  exact ih e
theorem zaeb:∀ (more kvs:List (Key × V)),(mergeK kvs more).length≤kvs.length + more.length
 | [],kvs=>by show kvs.length≤kvs.length + 0; omega
 | p :: r,kvs=>by
  have h1:=zaeb r (putK kvs p.1 p.2)
  have h2:=zac5 kvs p.1 p.2
  show (mergeK (putK kvs p.1 p.2) r).length≤_
  rw [List.length_cons]; omega
theorem zage {P:Program}{w:World}:∀ {kvs:List (Key × V)}{ws:List (Value × Value)},VV (kvs.map fun kv=>(kV kv.1,kv.2)) ws→∃ rs,Carries (mixKind P w) ws rs∧KV kvs rs
 | [],_,r=>by rw [List.map_nil] at r; cases r; exact ⟨[],True.intro,.nil⟩
 | p :: kvs,_,r=>by
  rw [List.map_cons] at r
  cases r with
  | @cons a b as bs h t =>
   obtain ⟨rs,c,q⟩:=zage (P:=P) (w:=w) t
   obtain ⟨b1,b2⟩:=b
   exact ⟨(p.1,b2) :: rs,⟨zaf8 h.1,rfl,c⟩,.cons ⟨rfl,h.2⟩ q⟩
def tDisp (trs:List (TE × TE)):TE:=fun σ H Q=>∀ p,H p=none→tPairs trs σ (upd H p (.dK [])) fun ps H2=>H2 p=some (.dK [])∧∃ kvs:List (Key × V),ps=kvs.map (fun kv=>(kV kv.1,kv.2))∧kvs.length≤15∧Q (.ref p) (upd H2 p (.dK (mergeK [] kvs)))
theorem zaq4 {X:Cx}{pos:Pos}{keys:List (Option Expr)}{values:List Expr}{trs:List (TE × TE)} (h:PPs X pos keys values trs) (hall:keys.all (·.isSome)=true) (hl:keys.length=values.length) (h0:keys≠[])
  (h15:keys.length≤15):PE X (.Dict keys values pos) (tDisp trs):=by
 intro pins s σ H Q I q
 have hn:=I.hok.fresh (Nat.le_refl s.heap.objs.size)
 have I1:=I.laid (a:=s.heap.objs.size) (o:=.dK []) (h':=s.heap.push { cls:=.type "dict",data:=.dict #[] }) (t':=s.toks) (fun _ _ q=>Heap.get?_push_of_some _ q) (Nat.le_refl _) (zaj3 s.heap I.big)
 refine wpAny_Dict_walk (knd:=mixKind X.prog X.w) hall hl h0 h15 (thn (h pins _ σ _ _ I1 (q _ hn)) fun ws s2 ⟨ps,H2,I2,rel,e,kvs,ep,lk,q2⟩=>?_)
 subst ep
 obtain ⟨rs,c,rk⟩:=zage (P:=X.prog) (w:=X.w) rel
 obtain ⟨z,hd,vs0,r0,dd⟩:=zatm I2.hok e
 cases r0
 refine ⟨rs,c,dd,fun h' dd' hs=>⟨.ref s.heap.objs.size,_,?_,rfl,q2⟩⟩
 have hz:(mergeK [] kvs).length≤sizeLine:=by
  have h1:=zaeb kvs []
  rw [List.length_nil] at h1
  rw [sizeLine_eq]; omega
 have he:∃ q,h'.get? s.heap.objs.size=some q:=let ⟨q,_,_,hq,_⟩:=dd'; ⟨q,hq⟩
 exact zaio I2 (by rw [e]; exact True.intro) hs he (zapn hz hd (rk.merge .nil) dd')
structure M2 (X:Cx) (o:Expr) (m:Str) (apos:Pos) (e f:Expr) (cpos:Pos):Prop where
 base:attributeBase o m X.env (eval o X.env)=eval o X.env
 few:((backTo cpos (starEach [e,f] X.env)).all (fun x=>!x.1) && (backToKw cpos (keywordEach [] X.env)).all (fun x=>x.1.isSome)
  && decide (([e,f]:List Expr).length + ([]:List Keyword).length + (if ([]:List Keyword).isEmpty then 0 else 1) < 30))=true
 line:(apos.endLine == cpos.line)=true
 trees:backTo cpos (starEach [e,f] X.env)=[(false,eval e X.env),(false,eval f X.env)]
def IsD (H:Hp) (a:Addr):Prop:=(∃ kvs,Rd H a (.dK kvs))∨∃ kvs,Rd H a (.dT kvs)
theorem zato {X:Cx}{pins:List (Addr × Obj)}{σ:St}{H:Hp}{s:Shared}{a:Addr} (I:Inv X pins σ H s) (d:IsD H a) :
  s.TypeIs (.ref a) "dict" ∧ (∀ b,Value.ref a=.ref b→∃ ob,s.heap.get? b=some ob∧ob.dict=none)∧(a == sysModules)=false:=by
 rcases d with ⟨kvs,e⟩ | ⟨kvs,e⟩
 ·obtain ⟨_,hd,vs,_,dd⟩:=zahx I.hok e
  refine ⟨dd.typeIs,fun b q=>?_,hd⟩
  cases q
  obtain ⟨ob,_,_,h1,h2,_⟩:=dd
  exact ⟨ob,h1,h2.2.1⟩
 ·obtain ⟨_,hd,xs,_,dd⟩:=zain I.hok e
  refine ⟨dd.typeIs,fun b q=>?_,hd⟩
  cases q
  obtain ⟨ob,_,_,h1,h2,_⟩:=dd
  exact ⟨ob,h1,h2.2.1⟩
section
variable {X:Cx}{pins:List (Addr × Obj)}{σ:St}{H:Hp}{s:Shared}{a:Addr}{y d:V}{u r:Value}{o:Option V}{A:Around}{E:Value→Shared→Prop}
theorem zatp {Q:Value→Shared→Prop} (hu:A.units + 1 < cLine) (I:Inv X pins σ H s) (g:DGet H a y o) (ry:RelV y u) (rd:RelV d r) (h:∀ w' s',Inv X pins σ H s'→RelV (o.getD d) w'→Q w' s') :
  wpAny (model X.prog X.w) A (call (.builtin "dict.get") [.ref a,u,r]) Q E s:=by
 rcases g with ⟨kvs,k,e,ey,l⟩ | ⟨kvs,k,b,e,ey,eb,l⟩
 ·subst ey
  obtain ⟨z,hd,vs,rel,dd⟩:=zahx I.hok e
  refine call_meetsIn PySem.F.slot_dict_get dd.typeIs PySem.F.entry_dict_get (PySem.F.args_dict_get_3 _ _ _) (meets_dict_get_default (mixKind X.prog X.w) a (zaf8 ry) hd r) ⟨_,dd.mapOf,h _ _ (I.tok _) ?_⟩
  rw [l]
  exact (rel.val k).getD rd
 ·subst ey
  cases (show u=Value.ref b from ry)
  obtain ⟨z,hd,xs,rel,dd⟩:=zain I.hok e
  refine call_meetsIn PySem.F.slot_dict_get dd.typeIs PySem.F.entry_dict_get (PySem.F.args_dict_get_3 _ _ _) (meetsH_dict_get_default (tupleKind (mixKind X.prog X.w)) a b hd r) ⟨tupleKind_room_in1 hu,k,xs,zagd I.hok eb,dd,h _ _ (I.tok _) ?_⟩
  rw [l]
  exact (rel.val k).getD rd
end
def tDGet2 (td ty tx:TE):TE:=fun σ H Q=>td σ H fun x H1=>∃ a,x=.ref a∧IsD H1 a∧ty σ H1 fun y H2=>tx σ H2 fun z H3=>∃ o,DGet H3 a y o∧Q (o.getD z) H3
section
variable {X:Cx}{o e f:Expr}{apos cpos:Pos}{td ty tx:TE}
theorem zaoo (hu:X.A.units + 1 < cLine) (ho:PE X o td) (he:PE X e ty) (hf:PE X f tx) (m:M2 X o "get" apos e f cpos):PE X (.Call (.Attribute o "get" apos) [e,f] [] cpos) (tDGet2 td ty tx):=by
 intro pins s σ H Q I h
 refine wpAny_Call_method m.base m.few m.line PySem.F.plainAttrs_dict PySem.F.slot_dict_get PySem.F.type_dict_get (thn (ho pins s σ H _ I h) fun u s1 ⟨x,H1,I1,rx,a,ex,d,q1⟩=>?_)
 subst ex
 obtain rfl:u=Value.ref a:=rx
 obtain ⟨t1,t2,_⟩:=zato I1 d
 refine ⟨t1,t2,?_⟩
 rw [m.trees]
 refine Calls.callWith_builtin rfl (Calls.evalArgs_plain (Calls.spliced_cons (thn (he pins s1 σ H1 _ I1 q1) fun iv s2 ⟨y,H2,I2,ry,q2⟩ =>
  Calls.spliced_cons (thn (hf pins s2 σ H2 _ I2 q2) fun fv s3 ⟨z,H3,I3,rz,ov,g,q3⟩=>Calls.spliced_nil ?_))))
 exact zatp hu I3 g ry rz fun w' s4 I4 rw'=>⟨_,H3,I4,rw',q3⟩
end
end L2

namespace L2
open PySem PySem.Spec PyProof.Rows
structure DefOk (P:Program) (w:World) (K:PySem.W.Frag) (mg:Str→Option Value) (base:Heap) (CX:CXT) (k:Nat) (x:Str) (ps:List Str) (sp:Sp):Prop where
 ex:∃ (f:Addr) (fd:FuncData),FnOk P w K mg base CX k f fd ps sp∧Binds K fd ps []∧PySem.W.keepIn K (.ref f)=true∧mg x=some (.ref f)
theorem DefOk.mono {P:Program}{w:World}{K:PySem.W.Frag}{mg:Str→Option Value}{base:Heap}{CX:CXT}{j k:Nat}{x:Str}{ps:List Str}{sp:Sp} (D:DefOk P w K mg base CX j x ps sp) (h:j≤k):DefOk P w K mg base CX k x ps sp:=by
 obtain ⟨f,fd,F,b⟩:=D.ex
 exact ⟨f,fd,F.mono h,b⟩
section
variable {X:Cx}{CX:CXT}{k:Nat}{ps:List Str}{sp:Sp}{E:XK}{x:Str}{p pos:Pos}{e:Expr}{es:List Expr}{t:TA}
theorem zaop (D:DefOk X.prog X.w X.K X.mg X.base CX k x ps sp) (hr:Room k X.A) (hg:Gl X x) (hx:Passes CX X E) (ha:PA X (e :: es) t) (hdb:(x == ("__debug__" : Str))=false:=by decide)
  (he:starEach (e :: es) X.env=(false,eval e X.env) :: starEach es X.env:=by rfl) (hpl:(backTo pos (starEach es X.env)).any (·.1)=false:=by rfl) :
  PE X (.Call (.Name x p) (e :: es) [] pos) (tCall sp [] E t):=by
 obtain ⟨f,fd,F,b,kp,m⟩:=D.ex
 exact zaqs F hr hg m kp b .nil hx ha hdb he hpl
end
def CDivW (_ j:Int):Prop:=0 < j∧j < 2 ^ 64
theorem zacw {X:Cx}:OpR X (binaryOp .FloorDiv) (rI CDivW fun i j=>.int (i / j)):=opI fun i j _ _ _ _ _ hc q=>by
 have h1:(0:Int) < j:=hc.1
 have h2:j < 2 ^ 64:=hc.2
 have h3:j.natAbs.log2 < 64:=(Nat.log2_lt (by omega)).mpr (by omega)
 exact floordiv_int (by omega) (by rw [Int.fdiv_eq_ediv_of_nonneg i (by omega)]; exact q) (.inl (PyProof.noPylong_of_log2 (by omega)))
def Ch (W:List Addr) (H H':Hp):Prop:=∀ b o,H b=some o→b ∉ W→H' b=some o
theorem Ch.refl (W:List Addr) (H:Hp):Ch W H H:=fun _ _ h _=>h
theorem Ch.trans {W:List Addr}{H H1 H2:Hp} (a:Ch W H H1) (b:Ch W H1 H2):Ch W H H2:=fun c o h n=>b c o (a c o h n) n
theorem Ch.get {W:List Addr}{H H':Hp}{b:Addr}{o:HO} (c:Ch W H H') (h:H b=some o) (n:b ∉ W):H' b=some o:=c b o h n
theorem Ch.mono {W W':List Addr}{H H':Hp} (c:Ch W H H') (h:∀ b∈W,b∈W'):Ch W' H H':=fun b o q n=>c b o q fun z=>n (h b z)
theorem Ch.wk {W:List Addr}{H H':Hp} (c:Ch [] H H'):Ch W H H':=c.mono fun b h=>nomatch h
theorem Ch.new {W:List Addr}{H:Hp}{p:Addr} (h:H p=none) (o:HO):Ch W H (upd H p o):=fun b u q _=>by rw [zabq (zaa7 q h)]; exact q
theorem Ch.put {H:Hp}{p:Addr}{o:HO}:Ch [p] H (upd H p o):=fun b u q n=>by rw [zabq (fun z=>n (by simp [z]))]; exact q
def Scr (K:PySem.W.Frag) (H:Hp) (a:Addr) (ns:List Int):Prop :=
 ns.length≤63∧((∃ o,H a=some (.frz o (.lst (ns.map V.int)))) ∨
  ∃ (o:Obj) (its:Array Value) (n:Nat),K.lookup a=some o∧o.cls=.type "list" ∧ o.dict=none∧o.data=.seq its n∧its.size≤sizeLine∧Vals (ns.map V.int) its.toList)
theorem Scr.sq {K:PySem.W.Frag}{H:Hp}{a:Addr}{ns:List Int} (S:Scr K H a ns):SqL K H a (ns.map V.int):=by
 rcases S.2 with ⟨o,h⟩ | h
 ·exact .inl (.inr ⟨o,h⟩)
 ·exact .inr h
theorem Scr.ch {K:PySem.W.Frag}{H H':Hp}{a b:Addr}{ns:List Int}{xs:List V} (S:Scr K H a ns) (hb:H b=some (.lst xs)) (c:Ch [b] H H'):Scr K H' a ns:=by
 refine ⟨S.1,?_⟩
 rcases S.2 with ⟨o,h⟩ | h
 ·exact .inl ⟨o,c.get h (by
   intro z
   have e:a=b:=by simpa using z
   subst e
   rw [h] at hb
   cases hb)⟩
 ·exact .inr h
theorem Scr.same {K:PySem.W.Frag}{H H':Hp}{a:Addr}{ns:List Int} (S:Scr K H a ns) (c:Ch [] H H'):Scr K H' a ns:=by
 refine ⟨S.1,?_⟩
 rcases S.2 with ⟨o,h⟩ | h
 ·exact .inl ⟨o,c.get h (by simp)⟩
 ·exact .inr h
theorem Scr.of {K:PySem.W.Frag}{H:Hp}{a:Addr}{ns:List Int} (h:SqL K H a (ns.map V.int)) (hl:ns.length≤63) (hO:Only H):Scr K H a ns:=by
 refine ⟨hl,?_⟩
 rcases h with (h | ⟨o,h⟩) | h
 ·rcases hO a with z | ⟨o,xs,z⟩
  ·rw [h] at z; cases z
  ·rw [h] at z; cases z
 ·exact .inl ⟨o,h⟩
 ·exact .inr h
theorem zacf {H:Hp}{p q:Addr}{o u:HO} (hq:H q=none) (h:H p=some o):upd H q u p=some o:=by rw [zabq (zaa7 h hq)]; exact h
theorem zac1 {H:Hp}{p q:Addr}{o u:HO} (n:p≠q) (h:H p=some o):upd H q u p=some o:=by rw [zabq n]; exact h
structure Loop (J:It) (g:TG) (tb:TS) (D:Ends) (σ:St) (H:Hp):Prop where
 ex:∃ W:Nat→Nat→St→Hp→Prop,(∃ m,W 0 m σ H)∧∀ i m σ H,W i m σ H →
  (J.stop i H∧D.nx σ H)∨(J.go i H∧∃ N:St→Hp→Prop,(∀ σ' H',N σ' H'→∃ m',m' < m∧W (i + 1) m' σ' H')∧∀ x H',J.yld i H x H'→g x σ H' fun σ2 H2=>tb { D with nx:=N,ct:=N,bk:=D.nx } σ2 H2)
def tLoop (wi:TI) (g:TG) (tb:TS):TS:=fun D σ H=>wi σ H fun J H1=>Loop J g tb D σ H1
theorem zaq5 {X:Cx}{tg iter:Expr}{body:List Stmt}{wi:TI}{g:TG}{tb:TS}{pos:Pos} (hp:PassesOwn (model X.prog X.w) X.A X.env X.xe) (hc:X.calm=true) (hi:PI X tg iter wi) (hg:PG X tg g) (hb:PSs X body tb)
  (hs:∀ x,foldedSetIterable iter X.env x=pure x:=by intro _; rfl):PS X (.For tg iter body [] pos) (tLoop wi g tb):=by
 have hi':PI X tg iter (fun σ H R=>∃ R0:It→Hp→Prop,wi σ H R0∧∀ J H1,R0 J H1→R J H1):=by
  intro pins s σ H R I ⟨R0,h,m⟩
  refine thn (hi pins s σ H _ I h) fun v s1 h1=>thn h1 fun itv s2 h2=>?_
  obtain ⟨it,fp,tn,J,H2,e,I2,T,st2,f2,r⟩:=h2
  exact ⟨it,fp,tn,J,H2,e,I2,T,st2,f2,m _ _ r⟩
 intro pins s σ H D I h
 exact zas8 hp hc hi' hg hb hs pins s σ H D I ⟨_,h,fun J H1 l=>l.ex⟩
theorem zafx {K:PySem.W.Frag}{a:Addr}{xs:List V}{g:TG}{tb:TS}{D:Ends}{σ:St}{H:Hp} (Pv:Nat→St→Hp→Prop) (h0:Pv 0 σ H) (hl:∀ i σ H,i≤xs.length→Pv i σ H→SqL K H a xs)
  (hs:∀ i x σ H,xs[i]?=some x→Pv i σ H→g x σ H fun σ2 H2=>tb { D with nx:=Pv (i + 1),ct:=Pv (i + 1),bk:=D.nx } σ2 H2) (hd:∀ σ H,Pv xs.length σ H→D.nx σ H):Loop (Itl K a) g tb D σ H:=⟨zan8 Pv h0 hl hs hd⟩
theorem zaoq {K:PySem.W.Frag}{a:Addr}{xs:List V}{g:TG}{tb:TS}{D:Ends}{σ:St}{H:Hp} (Pv:Nat→St→Hp→Prop) (h0:Pv 0 σ H) (hl:∀ i σ H,i≤xs.length→Pv i σ H→SqT K H a xs)
  (hs:∀ i x σ H,xs[i]?=some x→Pv i σ H→g x σ H fun σ2 H2=>tb { D with nx:=Pv (i + 1),ct:=Pv (i + 1),bk:=D.nx } σ2 H2) (hd:∀ σ H,Pv xs.length σ H→D.nx σ H):Loop (Itt K a) g tb D σ H:=⟨zaql Pv h0 hl hs hd⟩
theorem zac6 {lo:Int}{n:Nat}{g:TG}{tb:TS}{D:Ends}{σ:St}{H:Hp} (Pv:Nat→St→Hp→Prop) (h0:Pv 0 σ H)
  (hs:∀ i σ H,i < n→Pv i σ H→g (.int (lo + i)) σ H fun σ2 H2=>tb { D with nx:=Pv (i + 1),ct:=Pv (i + 1),bk:=D.nx } σ2 H2) (hd:∀ σ H,Pv n σ H→D.nx σ H):Loop (Itr lo n) g tb D σ H:=⟨zalh Pv h0 hs hd⟩
structure Cut (t u:TS) (D:Ends) (σ:St) (H:Hp):Prop where
 ex:∃ P:St→Hp→Prop,t { D with nx:=P } σ H∧∀ σ' H',P σ' H'→u D σ' H'
def tCut (t u:TS):TS:=fun D σ H=>Cut t u D σ H
theorem zaq6 {X:Cx}{st:Stmt}{rest:List Stmt}{t u:TS} (h1:PS X st t) (h2:PSs X rest u):PSs X (st :: rest) (tCut t u):=by
 intro pins s σ H D I h
 obtain ⟨P,a,b⟩:=h.ex
 have h1':PS X st (fun D' σ' H'=>∃ P:St→Hp→Prop,t { D' with nx:=P } σ' H'∧∀ σ2 H2,P σ2 H2→D'.nx σ2 H2):=by
  intro pins s σ H D I ⟨P,a,b⟩
  refine thn (h1 pins s σ H _ I a) fun f s' q=>?_
  cases f with
  | next=>obtain ⟨σ7,H7,I7,n7⟩:=q; exact ⟨σ7,H7,I7,b _ _ n7⟩
  | cont=>exact q
  | brk=>exact q
  | ret v=>exact q
 exact zajw h1' h2 pins s σ H D I ⟨P,a,b⟩
theorem zacr {t u:TS}{D:Ends}{σ:St}{H:Hp} (P:St→Hp→Prop) (h1:t { D with nx:=P } σ H) (h2:∀ σ' H',P σ' H'→u D σ' H'):Cut t u D σ H:=⟨P,h1,h2⟩
theorem zaj4 {ns:List Int}{i:Int} (h0:0≤i) (h1:i < (ns.length:Int)):∃ n:Int,atI (ns.map V.int) i=some (.int n):=by
 have hk:i.toNat < ns.length:=by omega
 have ek:i=((i.toNat:Nat):Int):=by omega
 have q:atI (ns.map V.int) ((i.toNat:Nat):Int)=some (.int ns[i.toNat]):=zacx (by rw [List.getElem?_map,List.getElem?_eq_getElem hk]; rfl)
 rw [← ek] at q
 exact ⟨_,q⟩
end L2

namespace L2
open PySem PySem.Spec PyProof.Rows
structure Atx {α:Type} (xs:List α) (i:Int) (R:α→Prop):Prop where
 ex:∃ v,atI xs i=some v∧R v
theorem Atx.of {α:Type}{xs:List α}{i:Int}{v:α}{R:α→Prop} (h:atI xs i=some v) (r:R v):Atx xs i R:=⟨v,h,r⟩
section
variable {X:Cx}
theorem IxR.imp {r r':R2} (h:IxR X r) (f:∀ x y H Q,r' x y H Q→r x y H Q):IxR X r':=fun value slice pins s σ H x y v u Q I rx ry q hs=>h value slice pins s σ H x y v u Q I rx ry (f _ _ _ _ q) hs
def aIxL (K:PySem.W.Frag):R2:=fun x y H Q=>∃ p xs i,x=.ref p∧y=.int i∧SqL K H p xs∧Atx xs i fun v=>Q v H
def aIxT (K:PySem.W.Frag):R2:=fun x y H Q=>∃ p xs i,x=.ref p∧y=.int i∧SqT K H p xs∧Atx xs i fun v=>Q v H
theorem zaaw:IxR X (aIxL X.K):=zaqx.imp fun x y H Q ⟨p,xs,i,e1,e2,h,a⟩=>let ⟨v,hv,q⟩:=a.ex; ⟨p,xs,i,v,e1,e2,h,hv,q⟩
theorem zaa0:IxR X (aIxT X.K):=zath.imp fun x y H Q ⟨p,xs,i,e1,e2,h,a⟩=>let ⟨v,hv,q⟩:=a.ex; ⟨p,xs,i,v,e1,e2,h,hv,q⟩
end
end L2
namespace L2
open PySem
section
variable {es:List Expr}{env:Env}
theorem zaac {x pos}:starEach (.Name x pos :: es) env=(false,eval (.Name x pos) env) :: starEach es env:=rfl
theorem zaaj {c k pos}:starEach (.Constant c k pos :: es) env=(false,eval (.Constant c k pos) env) :: starEach es env:=rfl
theorem zaco {a o b pos}:starEach (.BinOp a o b pos :: es) env=(false,eval (.BinOp a o b pos) env) :: starEach es env:=rfl
theorem zakw {a o pos}:starEach (.UnaryOp o a pos :: es) env=(false,eval (.UnaryOp o a pos) env) :: starEach es env:=rfl
theorem zabi {a o b pos}:starEach (.Call a o b pos :: es) env=(false,eval (.Call a o b pos) env) :: starEach es env:=rfl
theorem zab1 {a k pos}:starEach (.Tuple a k pos :: es) env=(false,eval (.Tuple a k pos) env) :: starEach es env:=rfl
theorem zal3 {a pos}:starEach (.List a pos :: es) env=(false,eval (.List a pos) env) :: starEach es env:=rfl
theorem zaaq {a b pos}:starEach (.Subscript a b pos :: es) env=(false,eval (.Subscript a b pos) env) :: starEach es env:=rfl
theorem zagq {a b c pos}:starEach (.IfExp a b c pos :: es) env=(false,eval (.IfExp a b c pos) env) :: starEach es env:=rfl
theorem zabf {a b pos}:starEach (.Attribute a b pos :: es) env=(false,eval (.Attribute a b pos) env) :: starEach es env:=rfl
theorem zabg {a b c pos}:starEach (.ListComp a b c pos :: es) env=(false,eval (.ListComp a b c pos) env) :: starEach es env:=rfl
end
end L2
namespace L2
open PySem
theorem Ch.own {W:List Addr}{H H':Hp}{p:Addr}{o:HO} (n:H p=none) (c:Ch W H H'):Ch W H (upd H' p o):=fun b u h k=>by
 rw [zabq (zaa7 h n)]
 exact c b u h k
theorem cut1 (x:V) (ys:List V):cutV (x :: ys) (some 1) none=ys:=by
 unfold cutV
 have e:HT.sIx (x :: ys).length 0 (some 1)=1:=by
  have z:=HT.sIx_nat (x :: ys).length 0 1
  rw [List.length_cons] at z ⊢
  refine z.trans ?_
  omega
 rw [e,HT.sIx_none,List.drop_succ_cons,List.drop_zero,List.take_of_length_le]
 simp
theorem zaor (x:V) (ys:List V):¬ (HT.sIx (x :: ys).length 0 (some 1)=0∧HT.sIx (x :: ys).length (x :: ys).length none=(x :: ys).length):=by
 intro h
 have e:HT.sIx (x :: ys).length 0 (some 1)=1:=by
  have z:=HT.sIx_nat (x :: ys).length 0 1
  rw [List.length_cons] at z ⊢
  refine z.trans ?_
  omega
 rw [e] at h
 exact absurd h.1 (by decide)
end L2
namespace L2
open PySem
theorem Atx.head {α:Type}{x:α}{xs:List α}{R:α→Prop} (r:R x):Atx (x :: xs) 0 R:=⟨x,zacx (j:=0) rfl,r⟩
end L2

namespace L2
open PySem PySem.Spec PyProof.Rows
inductive SK where
 | list | tuple
def SIt (k:SK) (h:Heap) (it l:Addr) (i:Nat):Prop:=match k with
 | .list=>h.IsListIter it l i
 | .tuple=>h.IsTupleIter it l i
def SIs (k:SK) (h:Heap) (l:Addr) (items:Array Value):Prop:=match k with
 | .list=>h.IsList l items
 | .tuple=>h.IsTuple l items
def Sq (k:SK) (K:PySem.W.Frag) (H:Hp) (a:Addr) (xs:List V):Prop:=match k with
 | .list=>SqL K H a xs
 | .tuple=>SqT K H a xs
theorem SIt.at {k:SK}{h h':Heap}{a l i} (x:SIt k h a l i) (e:∀ o,h.get? a=some o→h'.get? a=some o):SIt k h' a l i:=by
 cases k with
 | list=>exact Heap.IsListIter.at x e
 | tuple=>exact Heap.IsTupleIter.at x e
theorem SIt.obj {k:SK}{h:Heap}{a l i} (x:SIt k h a l i):∃ o,h.get? a=some o∧∀ v,o.data≠.cell v:=by
 cases k with
 | list=>obtain ⟨o,e,c,d⟩:=(show h.IsListIter a l i from x); exact ⟨o,e,fun v z=>by rw [d] at z; cases z⟩
 | tuple=>obtain ⟨o,e,c,d⟩:=(show h.IsTupleIter a l i from x); exact ⟨o,e,fun v z=>by rw [d] at z; cases z⟩
theorem SIs.at {k:SK}{h h':Heap}{a items} (x:SIs k h a items) (e:∀ o,h.get? a=some o→h'.get? a=some o):SIs k h' a items:=by
 cases k with
 | list=>exact Heap.IsList.at x e
 | tuple=>obtain ⟨o,ho,r⟩:=(show h.IsTuple a items from x); exact ⟨o,e _ ho,r⟩
theorem SIs.lt {k:SK}{h:Heap}{a items} (x:SIs k h a items):a < h.objs.size:=by
 cases k with
 | list=>obtain ⟨_,e,_⟩:=(show h.IsList a items from x); exact Heap.lt_size e
 | tuple=>obtain ⟨_,e,_⟩:=(show h.IsTuple a items from x); exact Heap.lt_size e
section
variable {prog:Program}{w:World}{A:Around}{E:Value→Shared→Prop}{s:Shared}
theorem zaep {it l:Addr}{i:Nat}{items}{x:Value}{Q:Value→Shared→Prop} (hit:s.heap.IsTupleIter it l i)
  (hl:s.heap.IsTuple l items) (hx:items[i]?=some x)
  (hQ:∀ h',h'.IsTupleIter it l (i + 1)→Heap.SameBut it s.heap h'→Q x { s with heap:=h' }) :
  wpAny (model prog w) A (Builtin.SmallTypes.nextOf (.ref it)) Q E s:=by
 obtain ⟨o,ho,hc,hd⟩:=id hit
 obtain ⟨ol,hol,_,nl,hdl⟩:=hl
 unfold Builtin.SmallTypes.nextOf
 refine wpAny_bind (wpAny_callSpecial?_slot (name:=Str.ofString "__next__") hit.typeIs F.slot_tuple_iterator_next
  (wpAny_call_entry F.slot_tuple_iterator_next hit.typeIs F.entry_tuple_iterator_next ?_ (F.args_tuple_iterator_next_1 _)))
 show wpAny _ _ (field (.ref it) 0 >>= _) _ _ s
 refine wpAny_bind (wpAny_field ho hd (x:=.ref l) rfl ?_)
 show wpAny _ _ (if (Value.ref l == Value.none)=true then _ else _) _ _ s
 rw [if_neg (show ¬ ((Value.ref l == Value.none)=true) from Bool.false_ne_true)]
 show wpAny _ _ (field (.ref it) 1 >>= _) _ _ s
 refine wpAny_bind (wpAny_field ho hd (x:=.int i 0) rfl ?_)
 show wpAny _ _ (seqItems? (.ref l) >>= _) _ _ s
 refine wpAny_bind (wpAny_seqItems hol hdl ?_)
 simp only [Int.toNat_natCast,hx]
 refine wpAny_bind (wpAny_setField ho hd (by simp) (wpAny_pure ⟨x,rfl,wpAny_pure (hQ _ ?_ (Heap.SameBut.update ..))⟩))
 exact ⟨_,Heap.get?_update_self _ ho (Obj.isFreed_of_fields (Obj.data_mapFields hd _)),(Obj.cls_mapFields ..).trans hc,by
  rw [Obj.data_mapFields hd]; simp [rawInt]⟩
theorem zafc {it l:Addr}{i:Nat}{items}{Q:Value→Shared→Prop} (hh:A.handled=none)
  (hit:s.heap.IsTupleIter it l i) (hl:s.heap.IsTuple l items) (hx:items[i]?=none)
  (hE:∀ h' e,Heap.ExtBut it s.heap h'→(∃ o,h'.get? e=some o∧o.cls=.type "StopIteration")→E (.ref e) { s with heap:=h' }) :
  wpAny (model prog w) A (Builtin.SmallTypes.nextOf (.ref it)) Q E s:=by
 obtain ⟨o,ho,hc,hd⟩:=id hit
 obtain ⟨ol,hol,_,nl,hdl⟩:=hl
 unfold Builtin.SmallTypes.nextOf
 refine wpAny_bind (wpAny_callSpecial?_slot (name:=Str.ofString "__next__") hit.typeIs F.slot_tuple_iterator_next
  (wpAny_call_entry F.slot_tuple_iterator_next hit.typeIs F.entry_tuple_iterator_next ?_ (F.args_tuple_iterator_next_1 _)))
 show wpAny _ _ (field (.ref it) 0 >>= _) _ _ s
 refine wpAny_bind (wpAny_field ho hd (x:=.ref l) rfl ?_)
 show wpAny _ _ (if (Value.ref l == Value.none)=true then _ else _) _ _ s
 rw [if_neg (show ¬ ((Value.ref l == Value.none)=true) from Bool.false_ne_true)]
 show wpAny _ _ (field (.ref it) 1 >>= _) _ _ s
 refine wpAny_bind (wpAny_field ho hd (x:=.int i 0) rfl ?_)
 show wpAny _ _ (seqItems? (.ref l) >>= _) _ _ s
 refine wpAny_bind (wpAny_seqItems hol hdl ?_)
 simp only [Int.toNat_natCast,hx]
 refine wpAny_bind (wpAny_rule (wpAny_bind (wpAny_setField ho hd (by simp) ?_)))
 show wpAny _ _ (newExc (.type "StopIteration") [] >>= _) _ _ _
 refine wpAny_bind ?_
 simp only [newExc,newTuple]
 refine wpAny_bind (wpAny_newObj_type ?_ (by size_fits))
 refine wpAny_bind (m:=firstArgMember _ _) (wpAny_of_eq (a:=Value.none) (by first | rfl | (simp only [firstArgMember]; rfl)) ?_)
 refine wpAny_newObj_type ?_ (by size_fits)
 simp only [raiseNew]
 refine wpAny_bind (wpAny_handled ?_)
 first | rw [show A.in1.handled=none from hh] | rw [hh]
 refine wpAny_bind (wpAny_pure (wpAny_throw ?_))
 exact hE _ _ (((Heap.SameBut.update ..).extBut.push _).push _) ⟨_,Heap.get?_push_size _ rfl,rfl⟩
theorem zadp {k:SK}{it l:Addr}{i:Nat}{items}{x:Value}{Q:Value→Shared→Prop} (hit:SIt k s.heap it l i) (hl:SIs k s.heap l items) (hx:items[i]?=some x)
  (hQ:∀ h',SIt k h' it l (i + 1)→Heap.SameBut it s.heap h'→Q x { s with heap:=h' }):wpAny (model prog w) A (Builtin.SmallTypes.nextOf (.ref it)) Q E s:=by
 cases k with
 | list=>exact wpAny_nextOf_list_item hit hl hx hQ
 | tuple=>exact zaep hit hl hx hQ
theorem zaeq {k:SK}{it l:Addr}{i:Nat}{items}{Q:Value→Shared→Prop} (hh:A.handled=none) (hit:SIt k s.heap it l i) (hl:SIs k s.heap l items) (hx:items[i]?=none)
  (hE:∀ h' e,Heap.ExtBut it s.heap h'→(∃ o,h'.get? e=some o∧o.cls=.type "StopIteration")→E (.ref e) { s with heap:=h' }) :
  wpAny (model prog w) A (Builtin.SmallTypes.nextOf (.ref it)) Q E s:=by
 cases k with
 | list=>exact wpAny_nextOf_list_end hh hit hl hx hE
 | tuple=>exact zafc hh hit hl hx hE
theorem SIt.ext {k:SK}{h h':Heap}{a b l i} (x:SIt k h a l i) (hs:Heap.ExtBut b h h') (hab:a≠b):SIt k h' a l i:=x.at fun o e=>hs _ _ hab e
theorem SIs.ext {k:SK}{h h':Heap}{a b items} (x:SIs k h a items) (hs:Heap.ExtBut b h h') (hab:a≠b):SIs k h' a items:=x.at fun o e=>hs _ _ hab e
theorem zal4 {k1 k2:SK}{z TI TO i1 i2 l1 l2:Addr}{n1 n2:Nat}{xs ys:Array Value}{x y a b:Value}{Q:Value→Shared→Prop} (D:ZipApart z TI TO i1 i2 l1 l2)
  (hz:IsZip s.heap z TI TO .none) (hTI:IsPair s.heap TI (.ref i1) (.ref i2)) (hTO:IsPair s.heap TO a b)
  (h1:SIt k1 s.heap i1 l1 n1) (h2:SIt k2 s.heap i2 l2 n2) (hl1:SIs k1 s.heap l1 xs) (hl2:SIs k2 s.heap l2 ys) (hx:xs[n1]?=some x) (hy:ys[n2]?=some y)
  (hQ:∀ h',IsZip h' z TI TO (rawInt s.heap.objs.size)→IsPair h' TO x y→SIt k1 h' i1 l1 (n1 + 1)→SIt k2 h' i2 l2 (n2 + 1)→IsPair h' s.heap.objs.size x y→h'.objs.size=s.heap.objs.size + 1 →
   (∀ c o,c≠z→c≠TO→c≠i1→c≠i2→s.heap.get? c=some o→h'.get? c=some o)→Q (.ref s.heap.objs.size) { s with heap:=h' }) :
  wpAny (model prog w) A (Builtin.«zip.__next__» ⟨[.ref z],[]⟩) (fun fin s'=>∃ v,fin=.done (.ret v)∧Q v s') E s:=by
 show wpAny _ _ (field (.ref z) 2 >>= _) _ _ _
 refine wpAny_bind (wpAny_field hz rfl (x:=.bool false) rfl ?_)
 show wpAny _ _ (field (.ref z) 3 >>= _) _ _ _
 refine wpAny_bind (wpAny_field hz rfl (x:=.ref TI) rfl ?_)
 refine wpAny_bind (wpAny_seqItems hTI rfl ?_)
 show wpAny _ _ (Builtin.SmallTypes.ownedTupleIsFree (.ref z) >>= _) _ _ _
 refine wpAny_bind ?_
 unfold Builtin.SmallTypes.ownedTupleIsFree
 refine wpAny_bind (wpAny_field hz rfl (x:=.none) rfl (wpAny_pure ?_))
 simp only [if_true]
 refine wpAny_bind (wpAny_rule ?_)
 refine wpAny_bind (wpAny_field hz rfl (x:=.ref TO) rfl ?_)
 refine wpAny_bind (wpAny_setField_rec hz (by simp) fun h₁ hz₁ hs₁=>?_)
 replace hz₁:IsZip h₁ z TI TO .ellipsis:=hz₁
 refine wpAny_bind ?_
 simp only [List.zipIdx_cons,List.zipIdx_nil,List.forIn_cons,List.forIn_nil]
 refine wpAny_bind (wpAny_bind (wpAny_onRaise ?_))
 show wpAny _ _ (Builtin.SmallTypes.nextOf (.ref i1) >>= _) _ _ _
 refine wpAny_bind (zadp (h1.ext hs₁.extBut D.i1z) (hl1.ext hs₁.extBut D.l1z) hx fun h₂ h1₂ hs₂=>wpAny_pure ?_)
 have hTO₂:IsPair h₂ TO a b:=hs₂.extBut _ _ D.TOi1 (hs₁.extBut _ _ D.TOz hTO)
 refine wpAny_bind (wpAny_seqItems hTO₂ rfl ?_)
 refine wpAny_bind (wpAny_updateSeq_pair hTO₂ fun h₃ hTO₃ hs₃=>?_)
 replace hTO₃:IsPair h₃ TO x b:=hTO₃
 refine wpAny_bind (wpAny_letGo (wpAny_pure ?_))
 refine wpAny_bind (wpAny_bind (wpAny_onRaise ?_))
 show wpAny _ _ (Builtin.SmallTypes.nextOf (.ref i2) >>= _) _ _ _
 refine wpAny_bind (zadp (((h2.ext hs₁.extBut D.i2z).ext hs₂.extBut D.i12.symm).ext hs₃.extBut D.TOi2.symm)
  (((hl2.ext hs₁.extBut D.l2z).ext hs₂.extBut D.l2i1).ext hs₃.extBut D.l2TO) hy fun h₄ h2₄ hs₄=>wpAny_pure ?_)
 have hTO₄:IsPair h₄ TO x b:=hs₄.extBut _ _ D.TOi2 hTO₃
 refine wpAny_bind (wpAny_seqItems hTO₄ rfl ?_)
 refine wpAny_bind (wpAny_updateSeq_pair hTO₄ fun h₅ hTO₅ hs₅=>?_)
 replace hTO₅:IsPair h₅ TO x y:=hTO₅
 refine wpAny_bind (wpAny_letGo (wpAny_pure (wpAny_pure ?_)))
 refine wpAny_bind (wpAny_seqItems hTO₅ rfl ?_)
 refine wpAny_bind (wpAny_newTuple ?_)
 have hsz:h₅.objs.size=s.heap.objs.size:=by rw [hs₅.1,hs₄.1,hs₃.1,hs₂.1,hs₁.1]
 have hz₅:IsZip h₅ z TI TO .ellipsis:=hs₅.extBut _ _ D.TOz.symm (hs₄.extBut _ _ D.i2z.symm (hs₃.extBut _ _ D.TOz.symm (hs₂.extBut _ _ D.i1z.symm hz₁)))
 have hk₅:∀ c o,c≠z→c≠TO→c≠i1→c≠i2→s.heap.get? c=some o→h₅.get? c=some o:=fun c o c1 c2 c3 c4 e =>
  hs₅.extBut _ _ c2 (hs₄.extBut _ _ c4 (hs₃.extBut _ _ c2 (hs₂.extBut _ _ c3 (hs₁.extBut _ _ c1 e))))
 have h1₅:SIt k1 h₅ i1 l1 (n1 + 1):=((h1₂.ext hs₃.extBut D.TOi1.symm).ext hs₄.extBut D.i12).ext hs₅.extBut D.TOi1.symm
 have h2₅:SIt k2 h₅ i2 l2 (n2 + 1):=h2₄.ext hs₅.extBut D.TOi2.symm
 have hzlt:z < h₅.objs.size:=Heap.lt_size hz₅
 show wpAny _ _ (Builtin.SmallTypes.ownedTupleHandOut (.ref z) (.ref h₅.objs.size) >>= _) _ _ _
 refine wpAny_bind ?_
 unfold Builtin.SmallTypes.ownedTupleHandOut
 have hz₆:IsZip (h₅.push { cls:=.type "tuple",data:=.seq #[x,y] }) z TI TO .ellipsis:=Heap.get?_push_of_some _ hz₅
 refine wpAny_bind (wpAny_setField_rec hz₆ (by simp) fun h₇ hz₇ hs₇=>?_)
 replace hz₇:IsZip h₇ z TI TO (rawInt h₅.objs.size):=hz₇
 refine wpAny_setField_rec hz₇ (by simp) fun h₈ hz₈ hs₈=>?_
 replace hz₈:IsZip h₈ z TI TO (rawInt h₅.objs.size):=hz₈
 have up:∀ c o,c≠z→h₅.get? c=some o→h₈.get? c=some o:=fun c o c1 e=>hs₈.extBut _ _ c1 (hs₇.extBut _ _ c1 (Heap.get?_push_of_some _ e))
 have hT₈:IsPair h₈ h₅.objs.size x y:=hs₈.extBut _ _ (Nat.ne_of_gt hzlt) (hs₇.extBut _ _ (Nat.ne_of_gt hzlt) (Heap.get?_push_size _ rfl))
 have hz8:h₈.objs.size=h₅.objs.size + 1:=by rw [hs₈.1,hs₇.1,Heap.size_push]
 rw [hsz] at hz₈ hT₈ hz8
 refine wpAny_pure ⟨_,rfl,?_⟩
 show Q (.ref h₅.objs.size) _
 rw [hsz]
 exact hQ h₈ hz₈ (up _ _ D.TOz hTO₅) (h1₅.at fun o e=>up _ o D.i1z e) (h2₅.at fun o e=>up _ o D.i2z e) hT₈ hz8 fun c o c1 c2 c3 c4 e=>up c o c1 (hk₅ c o c1 c2 c3 c4 e)
theorem zaos {k1 k2:SK}{z TI TO i1 i2 l1 l2:Addr}{n1 n2:Nat}{xs ys:Array Value}{a b:Value}{Q:Fin→Shared→Prop} (hh:A.handled=none) (D:ZipApart z TI TO i1 i2 l1 l2)
  (hz:IsZip s.heap z TI TO .none) (hTI:IsPair s.heap TI (.ref i1) (.ref i2)) (hTO:IsPair s.heap TO a b)
  (h1:SIt k1 s.heap i1 l1 n1) (h2:SIt k2 s.heap i2 l2 n2) (hl1:SIs k1 s.heap l1 xs) (hl2:SIs k2 s.heap l2 ys) (hend:xs[n1]?=none∨ys[n2]?=none)
  (hE:∀ h' e,(∀ c o,c≠z→c≠TO→c≠i1→c≠i2→s.heap.get? c=some o→h'.get? c=some o)→(∃ o,h'.get? e=some o∧o.cls=.type "StopIteration")→E (.ref e) { s with heap:=h' }) :
  wpAny (model prog w) A (Builtin.«zip.__next__» ⟨[.ref z],[]⟩) Q E s:=by
 show wpAny _ _ (field (.ref z) 2 >>= _) _ _ _
 refine wpAny_bind (wpAny_field hz rfl (x:=.bool false) rfl ?_)
 show wpAny _ _ (field (.ref z) 3 >>= _) _ _ _
 refine wpAny_bind (wpAny_field hz rfl (x:=.ref TI) rfl ?_)
 refine wpAny_bind (wpAny_seqItems hTI rfl ?_)
 show wpAny _ _ (Builtin.SmallTypes.ownedTupleIsFree (.ref z) >>= _) _ _ _
 refine wpAny_bind ?_
 unfold Builtin.SmallTypes.ownedTupleIsFree
 refine wpAny_bind (wpAny_field hz rfl (x:=.none) rfl (wpAny_pure ?_))
 simp only [if_true]
 refine wpAny_bind (wpAny_rule ?_)
 refine wpAny_bind (wpAny_field hz rfl (x:=.ref TO) rfl ?_)
 refine wpAny_bind (wpAny_setField_rec hz (by simp) fun h₁ hz₁ hs₁=>?_)
 replace hz₁:IsZip h₁ z TI TO .ellipsis:=hz₁
 refine wpAny_bind ?_
 simp only [List.zipIdx_cons,List.zipIdx_nil,List.forIn_cons,List.forIn_nil]
 refine wpAny_bind (wpAny_bind (wpAny_onRaise ?_))
 show wpAny _ _ (Builtin.SmallTypes.nextOf (.ref i1) >>= _) _ _ _
 cases hx:xs[n1]? with
 | none =>
  refine wpAny_bind (zaeq hh (h1.ext hs₁.extBut D.i1z) (hl1.ext hs₁.extBut D.l1z) hx fun h₂ e hs₂ he=>?_)
  obtain ⟨oe,hoe,hce⟩:=he
  have hz₂:IsZip h₂ z TI TO .ellipsis:=hs₂ _ _ D.i1z.symm hz₁
  have hez:e≠z:=fun x=>by subst x; rw [hz₂] at hoe; cases hoe; simp at hce
  refine wpAny_setField_rec hz₂ (by simp) fun h₃ _ hs₃=>hE h₃ e (fun c o c1 _ c3 _ x=>hs₃.extBut _ _ c1 (hs₂ _ _ c3 (hs₁.extBut _ _ c1 x))) ⟨oe,hs₃.extBut _ _ hez hoe,hce⟩
 | some x =>
  have hy:ys[n2]?=none:=by rcases hend with h | h; rw [hx] at h; cases h; exact h
  refine wpAny_bind (zadp (h1.ext hs₁.extBut D.i1z) (hl1.ext hs₁.extBut D.l1z) hx fun h₂ h1₂ hs₂=>wpAny_pure ?_)
  have hTO₂:IsPair h₂ TO a b:=hs₂.extBut _ _ D.TOi1 (hs₁.extBut _ _ D.TOz hTO)
  refine wpAny_bind (wpAny_seqItems hTO₂ rfl ?_)
  refine wpAny_bind (wpAny_updateSeq_pair hTO₂ fun h₃ hTO₃ hs₃=>?_)
  refine wpAny_bind (wpAny_letGo (wpAny_pure ?_))
  refine wpAny_bind (wpAny_bind (wpAny_onRaise ?_))
  show wpAny _ _ (Builtin.SmallTypes.nextOf (.ref i2) >>= _) _ _ _
  refine wpAny_bind (zaeq hh (((h2.ext hs₁.extBut D.i2z).ext hs₂.extBut D.i12.symm).ext hs₃.extBut D.TOi2.symm)
   (((hl2.ext hs₁.extBut D.l2z).ext hs₂.extBut D.l2i1).ext hs₃.extBut D.l2TO) hy fun h₄ e hs₄ he=>?_)
  obtain ⟨oe,hoe,hce⟩:=he
  have hz₄:IsZip h₄ z TI TO .ellipsis:=hs₄ _ _ D.i2z.symm (hs₃.extBut _ _ D.TOz.symm (hs₂.extBut _ _ D.i1z.symm hz₁))
  have hez:e≠z:=fun x=>by subst x; rw [hz₄] at hoe; cases hoe; simp at hce
  refine wpAny_setField_rec hz₄ (by simp) fun h₅ _ hs₅=>hE h₅ e (fun c o c1 c2 c3 c4 x=>hs₅.extBut _ _ c1 (hs₄ _ _ c4 (hs₃.extBut _ _ c2 (hs₂.extBut _ _ c3 (hs₁.extBut _ _ c1 x))))) ⟨oe,hs₅.extBut _ _ hez hoe,hce⟩
end
section
variable {X:Cx}{pins:List (Addr × Obj)}{σ:List (Option V)}{H H':Hp}{s:Shared}{h':Heap}
theorem Inv.turnedL {t':Nat}{its:List Addr} (I:Inv X pins σ H s) (k:∀ b o,b ∉ its→s.heap.get? b=some o→h'.get? b=some o) (hf:∀ b∈its,FpOk X pins H b):Inv X pins σ H { s with heap:=h',toks:=t' }:=by
 have nit:∀ b u,H b=some u→b ∉ its:=fun b u e z=>by rw [(hf b z).1] at e; cases e
 refine I.step (g':=s.gens) (d':=s.drawn) (ch:=its) (fun b hb=>?_) (fun b o _ _ hc e _=>k b o hc e) (fun b o _ _ hc e _=>⟨o.slots,k b o hc e⟩) (fun _ _ _ _ n=>n)
  (fun b o hc e=>⟨o,k b o hc e⟩) (fun _ _ e=>e) (fun _ _ _ e=>e) (fun b ps e=>⟨#[],by rw [e]; simp⟩) (fun m hm=>?_) (fun b u e=>?_) I.bare
 ·obtain ⟨f0,f1,f2,f3,f4,f5⟩:=hf b hb
  exact ⟨f3,f1,f4,f5⟩
 ·obtain ⟨o,es,ep,ho,r⟩:=hm
  exact ⟨o,es,ep,k _ o (fun z=>(hf _ z).2.1 rfl) ho,r⟩
 ·refine (I.hok b u e).stay (fun c v hc q=>k c v ?_ q) (fun _ q=>q) fun _ _ q=>q
  rcases hc with z | z
  ·rw [z]; exact nit b u e
  ·exact nit c _ z
theorem Inv.turnedNew {t':Nat}{its:List Addr}{T:Addr}{o:HO} (I:Inv X pins σ H s) (k:∀ b ob,b ∉ its→s.heap.get? b=some ob→h'.get? b=some ob) (hf:∀ b∈its,FpOk X pins H b)
  (hT:s.heap.objs.size≤T) (new:ObjOk X.prog X.w (upd H T o) h' T o):Inv X pins σ (upd H T o) { s with heap:=h',toks:=t' }:=by
 have nit:∀ b u,H b=some u→b ∉ its:=fun b u e z=>by rw [(hf b z).1] at e; cases e
 have hn:H T=none:=I.hok.fresh hT
 have neT:∀ b ob,s.heap.get? b=some ob→b≠T:=fun b ob e=>Nat.ne_of_lt (Nat.lt_of_lt_of_le (Heap.lt_size e) hT)
 have up:∀ b u,H b=some u→upd H T o b=some u:=fun b u e=>by rw [zabq (zaa7 e hn)]; exact e
 refine I.step (g':=s.gens) (d':=s.drawn) (ch:=its) (fun b hb=>?_) (fun b ob _ _ hc e _=>k b ob hc e) (fun b ob _ _ hc e _=>⟨ob.slots,k b ob hc e⟩) (fun b ob _ e n=>by rw [zabq (neT b ob e)]; exact n)
  (fun b ob hc e=>⟨ob,k b ob hc e⟩) (fun b _ e=>up b _ e) (fun b _ _ e=>up b _ e) (fun b ps e=>⟨#[],by rw [up b _ e]; simp⟩) (fun m hm=>?_) (fun b u e=>?_) I.bare
 ·obtain ⟨f0,f1,f2,f3,f4,f5⟩:=hf b hb
  exact ⟨f3,f1,f4,f5⟩
 ·obtain ⟨ob,es,ep,ho,r⟩:=hm
  exact ⟨ob,es,ep,k _ ob (fun z=>(hf _ z).2.1 rfl) ho,r⟩
 ·by_cases hb:b=T
  ·subst hb; rw [zaaf] at e; cases e; exact new
  ·rw [zabq hb] at e
   refine (I.hok b u e).stay (fun c v hc q=>k c v ?_ q) (fun c q=>up c _ q) fun c xs q=>up c _ q
   rcases hc with z | z
   ·rw [z]; exact nit b u e
   ·exact nit c _ z
end
theorem Inv.sis {X:Cx}{pins:List (Addr × Obj)}{σ:St}{H:Hp}{s:Shared}{k:SK}{a:Addr}{xs:List V} (I:Inv X pins σ H s) (h:Sq k X.K H a xs):∃ its:List Value,Vals xs its∧SIs k s.heap a its.toArray:=by
 cases k with
 | list=>obtain ⟨its,r,p,_⟩:=I.list h; exact ⟨its,r,p.isList⟩
 | tuple=>obtain ⟨its,r,p,_⟩:=I.tuple h; exact ⟨its,r,(show s.heap.IsTuple a its.toArray from p)⟩
theorem Inv.sq_inj {X:Cx}{pins:List (Addr × Obj)}{σ:St}{H:Hp}{s:Shared}{k:SK}{a:Addr}{xs ys:List V} (I:Inv X pins σ H s) (h:Sq k X.K H a xs) (h':Sq k X.K H a ys):xs=ys:=by
 cases k with
 | list=>exact I.list_inj h h'
 | tuple=>exact I.tuple_inj h h'
def Itz (K:PySem.W.Frag) (k1 k2:SK) (a b:Addr):It :=
 ⟨fun i H=>∃ xs ys x y,Sq k1 K H a xs∧Sq k2 K H b ys∧xs[i]?=some x∧ys[i]?=some y,
  fun i H v H'=>∃ T,H T=none∧v=.ref T∧∀ xs ys,Sq k1 K H a xs→Sq k2 K H b ys→∃ x y,xs[i]?=some x∧ys[i]?=some y∧H'=upd H T (.tup [x,y]),
  fun i H=>∃ xs ys,Sq k1 K H a xs∧Sq k2 K H b ys∧(xs.length≤i∨ys.length≤i)⟩
theorem zaot {P:Program}{w:World}{K:PySem.W.Frag}{elts:List Expr}{kk:Nat}{tpos:Pos}{k1 k2:SK}{z TI TO i1 i2 a b:Addr} (D:ZipApart z TI TO i1 i2 a b) :
  Turn P w K (.Tuple elts kk tpos) (Itz K k1 k2 a b) [z,TI,TO,i1,i2] z (fun i h=>IsZip h z TI TO .none∧IsPair h TI (.ref i1) (.ref i2)∧(∃ c d,IsPair h TO c d)∧SIt k1 h i1 a i∧SIt k2 h i2 b i) where
 mem:=by simp
 obj:=fun i h st b hb=>by
  obtain ⟨hz,hTI,⟨c,d,hTO⟩,h1,h2⟩:=st
  simp only [List.mem_cons,List.not_mem_nil,or_false] at hb
  rcases hb with rfl | rfl | rfl | rfl | rfl
  ·exact ⟨_,hz,fun v q=>nomatch q⟩
  ·exact ⟨_,hTI,fun v q=>nomatch q⟩
  ·exact ⟨_,hTO,fun v q=>nomatch q⟩
  ·exact h1.obj
  ·exact h2.obj
 keep:=fun i h h' st k=>by
  obtain ⟨hz,hTI,⟨c,d,hTO⟩,h1,h2⟩:=st
  exact ⟨k _ (by simp) _ hz,k _ (by simp) _ hTI,⟨c,d,k _ (by simp) _ hTO⟩,h1.at fun o e=>k _ (by simp) o e,h2.at fun o e=>k _ (by simp) o e⟩
 item:=by
  intro X hP hw hK hc i pins s σ H E I hf st hg
  subst hP hw hK
  obtain ⟨hz,hTI,⟨c,d,hTO⟩,h1,h2⟩:=st
  obtain ⟨xs,ys,x,y,q1,q2,hx,hy⟩:=hg
  obtain ⟨ix,rx,px⟩:=I.sis q1
  obtain ⟨iy,ry,py⟩:=I.sis q2
  obtain ⟨u,hu,ru⟩:=rx.get hx
  obtain ⟨v,hv,rv⟩:=ry.get hy
  have hT:s.TypeIs (.ref z) "zip" := ⟨_,hz,rfl⟩
  unfold pyNext
  refine wpAny_bind (wpAny_attempt (wpAny_callSpecial?_slot (name:=Str.ofString "__next__") hT F.slot_zip_next
   (wpAny_call_entry F.slot_zip_next hT F.entry_zip_next
    (zal4 D hz hTI hTO h1 h2 px py (x:=u) (y:=v) (by simpa using hu) (by simpa using hv) fun h' a1 a2 a3 a4 a5 a6 a7=>wpAny_pure ?_) (F.args_zip_next_1 _))))
  refine ⟨_,rfl,wpAny_letOwnedTupleGo_zip (s:={ s with heap:=h' }) a1 fun h'' b1 b2=>?_⟩
  have zlt:z < s.heap.objs.size:=Heap.lt_size hz
  have k2:∀ c o,c ∉ [z,TI,TO,i1,i2]→s.heap.get? c=some o→h''.get? c=some o:=fun c o hc e=>by
   simp only [List.mem_cons,List.not_mem_nil,or_false,not_or] at hc
   exact b2.extBut _ _ hc.1 (a7 c o hc.1 hc.2.2.1 hc.2.2.2.1 hc.2.2.2.2 e)
  have hT2:IsPair h'' s.heap.objs.size u v:=b2.extBut _ _ (Nat.ne_of_gt zlt) a5
  refine ⟨.ref s.heap.objs.size,upd H s.heap.objs.size (.tup [x,y]),I.turnedNew (t':=s.toks) (o:=.tup [x,y]) k2 hf (Nat.le_refl _) ⟨by show 2≤sizeLine; decide,[u,v],.cons ru (.cons rv .nil),⟨_,hT2,rfl,_,rfl⟩⟩,rfl,
   ⟨_,I.hok.fresh (Nat.le_refl _),rfl,fun xs' ys' e1 e2=>?_⟩,⟨b1,?_,⟨_,_,b2.extBut _ _ D.TOz a2⟩,a3.at fun o e=>b2.extBut _ _ D.i1z e,a4.at fun o e=>b2.extBut _ _ D.i2z e⟩,fun b hb=>?_⟩
  ·rw [I.sq_inj e1 q1,I.sq_inj e2 q2]
   exact ⟨x,y,hx,hy,rfl⟩
  ·exact b2.extBut _ _ D.TIz (a7 _ _ D.TIz D.TITO D.TIi1 D.TIi2 hTI)
  ·have blt:b < s.heap.objs.size:=by
    simp only [List.mem_cons,List.not_mem_nil,or_false] at hb
    rcases hb with rfl | rfl | rfl | rfl | rfl
    ·exact zlt
    ·exact Heap.lt_size hTI
    ·exact Heap.lt_size hTO
    ·obtain ⟨o,e,_⟩:=h1.obj; exact Heap.lt_size e
    ·obtain ⟨o,e,_⟩:=h2.obj; exact Heap.lt_size e
   rw [zabq (Nat.ne_of_lt blt)]
   exact (hf b hb).1
 done:=by
  intro X hP hw hK hc i pins s σ H E I hf st hg
  subst hP hw hK
  obtain ⟨hz,hTI,⟨c,d,hTO⟩,h1,h2⟩:=st
  obtain ⟨xs,ys,q1,q2,hl⟩:=hg
  obtain ⟨ix,rx,px⟩:=I.sis q1
  obtain ⟨iy,ry,py⟩:=I.sis q2
  have l1:=rx.length
  have l2:=ry.length
  have hend:ix.toArray[i]?=none∨iy.toArray[i]?=none:=by
   rcases hl with h | h
   ·exact .inl (by simp; omega)
   ·exact .inr (by simp; omega)
  have hT:s.TypeIs (.ref z) "zip" := ⟨_,hz,rfl⟩
  unfold pyNext
  refine wpAny_bind (wpAny_attempt (wpAny_callSpecial?_slot (name:=Str.ofString "__next__") hT F.slot_zip_next
   (wpAny_call_entry F.slot_zip_next hT F.entry_zip_next (zaos (I.ok.hd hc) D hz hTI hTO h1 h2 px py hend fun h' e hk he=>?_) (F.args_zip_next_1 _))))
  obtain ⟨o,ho,hc'⟩:=he
  refine wpAny_bind (wpAny_isInstance (T := "StopIteration") (b:=true) ⟨o,ho,hc'⟩ isSubtype_stop ?_)
  refine wpAny_pure ⟨rfl,I.turnedL (t':=s.toks) (its:=[z,TI,TO,i1,i2]) (fun b o hb e=>?_) hf⟩
  simp only [List.mem_cons,List.not_mem_nil,or_false,not_or] at hb
  exact hk b o hb.1 hb.2.2.1 hb.2.2.2.1 hb.2.2.2.2 e
 self:=fun _ _ _ _ _ st h=>wpAny_pyIter_zip st.1 h
def itObj (k:SK) (l:Addr):Obj:=match k with
 | .list=>{ cls:=.type "list_iterator",data:=.fields #[.ref l,.int 0 0] }
 | .tuple=>{ cls:=.type "tuple_iterator",data:=.fields #[.ref l,.int 0 0] }
theorem zagr {k:SK}{l it:Addr}{h:Heap} (e:h.get? it=some (itObj k l)):SIt k h it l 0:=by
 cases k with
 | list=>exact ⟨_,e,rfl,rfl⟩
 | tuple=>exact ⟨_,e,rfl,rfl⟩
abbrev zS1 (h:Heap) (k1:SK) (l1:Addr):Heap:=h.push (itObj k1 l1)
abbrev zS2 (h:Heap) (k1 k2:SK) (l1 l2:Addr):Heap:=(zS1 h k1 l1).push (itObj k2 l2)
abbrev zS3 (h:Heap) (k1 k2:SK) (l1 l2:Addr):Heap:=(zS2 h k1 k2 l1 l2).push { cls:=.type "tuple",data:=.seq #[.ref h.objs.size,.ref (zS1 h k1 l1).objs.size] }
abbrev zS4 (h:Heap) (k1 k2:SK) (l1 l2:Addr):Heap:=(zS3 h k1 k2 l1 l2).push { cls:=.type "tuple",data:=.seq #[.none,.none] }
abbrev zS5 (h:Heap) (k1 k2:SK) (l1 l2:Addr):Heap:=(zS4 h k1 k2 l1 l2).push { cls:=.type "zip",data:=.fields #[.none,.bool false,.bool false,.ref (zS2 h k1 k2 l1 l2).objs.size,.ref (zS3 h k1 k2 l1 l2).objs.size] }
set_option maxHeartbeats 4000000 in
theorem zaf9 (k1 k2:SK) (l1 l2:Addr) (xs ys:Array Value) :
  Meets (Builtin.«zip.__new__» ⟨[.type "zip",.ref l1,.ref l2],[]⟩) (fun _ R s=>SIs k1 s.heap l1 xs∧SIs k2 s.heap l2 ys ∧
   R (.ok (.ret (.ref (zS4 s.heap k1 k2 l1 l2).objs.size))) { s with heap:=zS5 s.heap k1 k2 l1 l2 }):=by
 cases k1 with
 | list =>
  cases k2 with
  | list =>
   exact .of_wp fun prog w A R s h=>by
    obtain ⟨hp,g,d,tk,os⟩:=s; obtain ⟨hl1,hl2,h⟩:=h
    have hsub:=sub_zip
    have hL1:Heap.IsList (Shared.heap ⟨hp,g,d,tk,os⟩) l1 xs:=hl1
    have hL2:Heap.IsList (Shared.heap ⟨hp.push { cls:=.type "list_iterator",data:=.fields #[.ref l1,.int 0 0] },g,d,tk,os⟩) l2 ys:=Heap.IsList.push hl2 _
    wp_walk using wpAny_pyIter_list hL1,wpAny_pyIter_list hL2
    exact ⟨_,rfl,h⟩
  | tuple =>
   exact .of_wp fun prog w A R s h=>by
    obtain ⟨hp,g,d,tk,os⟩:=s; obtain ⟨hl1,hl2,h⟩:=h
    have hsub:=sub_zip
    have hL1:Heap.IsList (Shared.heap ⟨hp,g,d,tk,os⟩) l1 xs:=hl1
    have hL2:Heap.IsTuple (Shared.heap ⟨hp.push { cls:=.type "list_iterator",data:=.fields #[.ref l1,.int 0 0] },g,d,tk,os⟩) l2 ys:=SIs.at (k:=.tuple) hl2 fun o e=>Heap.get?_push_of_some _ e
    wp_walk using wpAny_pyIter_list hL1,wpAny_pyIter_tuple hL2
    exact ⟨_,rfl,h⟩
 | tuple =>
  cases k2 with
  | list =>
   exact .of_wp fun prog w A R s h=>by
    obtain ⟨hp,g,d,tk,os⟩:=s; obtain ⟨hl1,hl2,h⟩:=h
    have hsub:=sub_zip
    have hL1:Heap.IsTuple (Shared.heap ⟨hp,g,d,tk,os⟩) l1 xs:=hl1
    have hL2:Heap.IsList (Shared.heap ⟨hp.push { cls:=.type "tuple_iterator",data:=.fields #[.ref l1,.int 0 0] },g,d,tk,os⟩) l2 ys:=SIs.at (k:=.list) hl2 fun o e=>Heap.get?_push_of_some _ e
    wp_walk using wpAny_pyIter_tuple hL1,wpAny_pyIter_list hL2
    exact ⟨_,rfl,h⟩
  | tuple =>
   exact .of_wp fun prog w A R s h=>by
    obtain ⟨hp,g,d,tk,os⟩:=s; obtain ⟨hl1,hl2,h⟩:=h
    have hsub:=sub_zip
    have hL1:Heap.IsTuple (Shared.heap ⟨hp,g,d,tk,os⟩) l1 xs:=hl1
    have hL2:Heap.IsTuple (Shared.heap ⟨hp.push { cls:=.type "tuple_iterator",data:=.fields #[.ref l1,.int 0 0] },g,d,tk,os⟩) l2 ys:=SIs.at (k:=.tuple) hl2 fun o e=>Heap.get?_push_of_some _ e
    wp_walk using wpAny_pyIter_tuple hL1,wpAny_pyIter_tuple hL2
    exact ⟨_,rfl,h⟩
section
variable {prog:Program}{w:World}{A:Around}{E:Value→Shared→Prop}{s:Shared}
theorem zal5 {k1 k2:SK}{l1 l2:Addr}{xs ys:Array Value}{Q:Value→Shared→Prop} (hl1:SIs k1 s.heap l1 xs) (hl2:SIs k2 s.heap l2 ys)
  (h:∀ h',IsZip h' (s.heap.objs.size + 4) (s.heap.objs.size + 2) (s.heap.objs.size + 3) .none→IsPair h' (s.heap.objs.size + 2) (.ref s.heap.objs.size) (.ref (s.heap.objs.size + 1)) →
   IsPair h' (s.heap.objs.size + 3) .none .none→SIt k1 h' s.heap.objs.size l1 0→SIt k2 h' (s.heap.objs.size + 1) l2 0 →
   (∀ c o,s.heap.get? c=some o→h'.get? c=some o)→Q (.ref (s.heap.objs.size + 4)) { s with heap:=h' }) :
  wpAny (model prog w) A (call (.type "zip") [.ref l1,.ref l2]) Q E s:=by
 refine callType_new F.called_zip (by decide) (F.typeCall_zip_2 _ _) (F.newCall_zip_2 _ _) (fun obj=>F.args_object_init_3 obj _ _) F.entry_zip_new
  (zaf9 k1 k2 l1 l2 xs ys) ⟨hl1,hl2,?_⟩
 have z1:(zS1 s.heap k1 l1).objs.size=s.heap.objs.size + 1:=Heap.size_push ..
 have z2:(zS2 s.heap k1 k2 l1 l2).objs.size=s.heap.objs.size + 2:=by rw [Heap.size_push,z1]
 have z3:(zS3 s.heap k1 k2 l1 l2).objs.size=s.heap.objs.size + 3:=by rw [Heap.size_push,z2]
 have z4:(zS4 s.heap k1 k2 l1 l2).objs.size=s.heap.objs.size + 4:=by rw [Heap.size_push,z3]
 have r1:(itObj k1 l1).isFreed=false:=by cases k1 <;> rfl
 have r2:(itObj k2 l2).isFreed=false:=by cases k2 <;> rfl
 have g5:(zS5 s.heap k1 k2 l1 l2).get? (zS4 s.heap k1 k2 l1 l2).objs.size=some _:=Heap.get?_push_size _ rfl
 have g4:(zS5 s.heap k1 k2 l1 l2).get? (zS3 s.heap k1 k2 l1 l2).objs.size=some _:=Heap.get?_push_of_some _ (Heap.get?_push_size _ rfl)
 have g3:(zS5 s.heap k1 k2 l1 l2).get? (zS2 s.heap k1 k2 l1 l2).objs.size=some _:=Heap.get?_push_of_some _ (Heap.get?_push_of_some _ (Heap.get?_push_size _ rfl))
 have g2:(zS5 s.heap k1 k2 l1 l2).get? (zS1 s.heap k1 l1).objs.size=some _:=Heap.get?_push_of_some _ (Heap.get?_push_of_some _ (Heap.get?_push_of_some _ (Heap.get?_push_size _ r2)))
 have g1:(zS5 s.heap k1 k2 l1 l2).get? s.heap.objs.size=some _:=Heap.get?_push_of_some _ (Heap.get?_push_of_some _ (Heap.get?_push_of_some _ (Heap.get?_push_of_some _ (Heap.get?_push_size _ r1))))
 show _∧_
 rw [z2,z3,z4] at g5
 rw [z1,z2] at g3
 rw [z3] at g4
 rw [z1] at g2
 rw [z4]
 exact ⟨⟨_,g5,rfl⟩,h _ g5 g3 g4 (zagr g1) (zagr g2) fun c o x =>
  Heap.get?_push_of_some _ (Heap.get?_push_of_some _ (Heap.get?_push_of_some _ (Heap.get?_push_of_some _ (Heap.get?_push_of_some _ x))))⟩
end
section
variable {X:Cx}{elts:List Expr}{kk:Nat}{tpos:Pos}
def iZip (K:PySem.W.Frag) (k1 k2:SK) (ta:TA):TI:=fun σ H R=>ta σ H fun vs H1=>∃ a b,vs=[.ref a,.ref b]∧(∃ xs,Sq k1 K H1 a xs)∧(∃ ys,Sq k2 K H1 b ys)∧R (Itz K k1 k2 a b) H1
theorem zatq (k1 k2:SK) {a b:Expr}{ta:TA}{p pos:Pos} (hg:Gl X "zip") (hm:X.mg "zip" = none) (ha:PA X [a,b] ta) (hs:starEach [a,b] X.env=[(false,eval a X.env),(false,eval b X.env)]:=by rfl) (hs2:starEach [b] X.env=[(false,eval b X.env)]:=by rfl) :
  PI X (.Tuple elts kk tpos) (.Call (.Name "zip" p) [a,b] [] pos) (iZip X.K k1 k2 ta):=by
 intro pins s σ H R I h
 refine Call_ (zafo I hg hm boot_zip (PyProof.Rows.callWith_type1 (thn (ha pos pins s σ H _ I h) fun us s1 ⟨vs,H1,I1,r1,q1⟩=>?_) (by rw [hs,hs2]) (by rw [hs2]; rfl)))
 obtain ⟨a',b',e,⟨xs,qx⟩,⟨ys,qy⟩,q⟩:=q1
 subst e
 obtain ⟨u,v,rfl,ru,rv⟩:=vals2 r1
 cases ru
 cases rv
 obtain ⟨ix,rx,px⟩:=I1.sis qx
 obtain ⟨iy,ry,py⟩:=I1.sis qy
 refine zal5 px py fun h' b1 b2 b3 b4 b5 b6=>wpAny_pyIter_zip (s:={ s1 with heap:=h' }) b1 ?_
 have nn:∀ b,s1.heap.objs.size≤b→FpOk X pins H1 b:=fun b hb=>I1.fpOk hb (I1.hok.fresh hb)
 refine ⟨_,[s1.heap.objs.size + 4,s1.heap.objs.size + 2,s1.heap.objs.size + 3,s1.heap.objs.size,s1.heap.objs.size + 1],_,_,H1,rfl,I1.kept (t':=s1.toks) b6,zaot (k1:=k1) (k2:=k2) (zipApart_new px.lt py.lt),⟨b1,b2,⟨_,_,b3⟩,b4,b5⟩,fun b hb=>?_,q⟩
 simp only [List.mem_cons,List.not_mem_nil,or_false] at hb
 rcases hb with rfl | rfl | rfl | rfl | rfl
 ·exact nn _ (Nat.le_add_right _ _)
 ·exact nn _ (Nat.le_add_right _ _)
 ·exact nn _ (Nat.le_add_right _ _)
 ·exact nn _ (Nat.le_refl _)
 ·exact nn _ (Nat.le_add_right _ _)
theorem zafg {K:PySem.W.Frag}{k1 k2:SK}{a b:Addr}{xs ys:List V}{g:TG}{tb:TS}{D:Ends}{σ:St}{H:Hp} (Pv:Nat→St→Hp→Prop) (h0:Pv 0 σ H)
  (hl:∀ i σ H,i≤min xs.length ys.length→Pv i σ H→Sq k1 K H a xs∧Sq k2 K H b ys)
  (hs:∀ i x y σ H T,xs[i]?=some x→ys[i]?=some y→Pv i σ H→H T=none→g (.ref T) σ (upd H T (.tup [x,y])) fun σ2 H2=>tb { D with nx:=Pv (i + 1),ct:=Pv (i + 1),bk:=D.nx } σ2 H2)
  (hd:∀ σ H,Pv (min xs.length ys.length) σ H→D.nx σ H):Loop (Itz K k1 k2 a b) g tb D σ H:=by
 refine ⟨fun i m σ H=>m=min xs.length ys.length - i∧i≤min xs.length ys.length∧Pv i σ H,⟨min xs.length ys.length,by simp,Nat.zero_le _,h0⟩,?_⟩
 rintro i m σ H ⟨rfl,hi,p⟩
 obtain ⟨q1,q2⟩:=hl i σ H hi p
 by_cases hlt:i < min xs.length ys.length
 ·have l1:i < xs.length:=by omega
  have l2:i < ys.length:=by omega
  refine .inr ⟨⟨xs,ys,xs[i],ys[i],q1,q2,by simp [l1],by simp [l2]⟩,Pv (i + 1),fun σ' H' p'=>⟨min xs.length ys.length - (i + 1),by omega,rfl,hlt,p'⟩,fun x H' y=>?_⟩
  obtain ⟨T,hT,rfl,y⟩:=y
  obtain ⟨u,v,e1,e2,rfl⟩:=y xs ys q1 q2
  exact hs i u v σ H T e1 e2 p hT
 ·have e:i=min xs.length ys.length:=by omega
  refine .inl ⟨⟨xs,ys,q1,q2,by omega⟩,?_⟩
  subst e
  exact hd σ H p
end
end L2

namespace L2
open PySem PySem.Spec PyProof.Rows PySem.Builtin PySem.Builtin.Str
section
variable {X:Cx}
def rIsT (K:PySem.W.Frag):List V→Hp→VK→Prop:=fun xs H Q=>∃ x T t b,xs=[x,.ty T]∧TyOf K H x t∧PySem.W.kitOne K t (.type T)=some b∧Q (.bl b) H
theorem zaa2:CallR X (.builtin "isinstance") (rIsT X.K):=by
 intro pins s σ H xs us Q I r h
 obtain ⟨x,T,t,b,rfl,ty,e,q⟩:=h
 obtain ⟨u,v,rfl,ru,rv⟩:=vals2 r
 cases rv
 exact zahn I ru ty e fun tk=>⟨.bl b,H,I.tok _,rfl,q⟩
example (K:PySem.W.Frag):PySem.W.kitOne K (.type "int") (.type "int")=some true:=rfl
example (K:PySem.W.Frag):PySem.W.kitOne K (.type "str") (.type "int")=some false:=rfl
example (K:PySem.W.Frag):PySem.W.kitOne K (.type "tuple") (.type "int")=some false:=rfl
example (K:PySem.W.Frag):PySem.W.kitOne K (.type "bool") (.type "int")=some true:=rfl
end
def ent (w:World) (x:Str × Tok × Value):DictEntry:=⟨hashStr w x.1,.str x.1 x.2.1,x.2.2⟩
structure KD (P:Program) (w:World) (K:PySem.W.Frag) (a:Addr) (kvs:List (Key × V)):Prop where
 ex:∃ (o:Obj) (es:Array DictEntry) (ep:Nat) (vs:List (Key × Value)),K.lookup a=some o∧o.ExactDict∧o.data=.dict es ep∧KeysOf (mixKind P w) es∧Pairs (mixKind P w) es.toList vs∧(vs.map (·.1)).Nodup∧KV kvs vs
 ns:(a == sysModules)=false
def DK (P:Program) (w:World) (K:PySem.W.Frag) (H:Hp) (a:Addr) (kvs:List (Key × V)):Prop:=Rd H a (.dK kvs)∨KD P w K a kvs
theorem Inv.dict {X:Cx}{pins:List (Addr × Obj)}{σ:St}{H:Hp}{s:Shared}{a:Addr}{kvs:List (Key × V)} (I:Inv X pins σ H s) (h:DK X.prog X.w X.K H a kvs) :
  (a == sysModules)=false∧∃ vs,KV kvs vs∧s.heap.DictOf (mixKind X.prog X.w) a vs:=by
 rcases h with h | h
 ·obtain ⟨_,b,c⟩:=zahx I.hok h
  exact ⟨b,c⟩
 ·obtain ⟨o,es,ep,vs,h1,h2,h3,h4,h5,h6,h7⟩:=h.ex
  exact ⟨h.ns,vs,h7,o,es,ep,I.kIn a o h1,h2,h3,h4,h5,h6⟩
theorem zaiq {P:Program}{w:World}{s:Shared}{a:Addr}{vs:List (Key × Value)} (d:s.heap.DictOf (mixKind P w) a vs):s.TypeIs (.ref a) "dict" := by
 obtain ⟨o,es,ep,h1,h2,_⟩:=d
 exact ⟨o,h1,h2.1⟩
section
variable {X:Cx}
def rIxD (X:Cx):R2:=fun x y H Q=>∃ a kvs k v,x=.ref a∧y=kV k∧DK X.prog X.w X.K H a kvs∧valV kvs k=some v∧Q v H
theorem zatr {o i:Expr}{td ty:TE}{pos:Pos} (ho:PE X o td) (hi:PE X i ty) (hs:NoSl i):PE X (.Subscript o i pos) (tOp (rIxD X) td ty):=by
 intro pins s σ H Q I h
 refine zal1 PySem.F.slot_dict_getitem.lookup hs (thn (ho pins s σ H _ I h) fun u s1 ⟨x,H1,I1,rx,q1⟩=>thn (hi pins s1 σ H1 _ I1 q1) fun iv s2 ⟨y,H2,I2,ry,q2⟩=>?_)
 obtain ⟨a,kvs,k,v,rfl,rfl,dk,hv,q⟩:=q2
 obtain rfl:u=Value.ref a:=rx
 obtain ⟨_,vs,rel,dd⟩:=I2.dict dk
 obtain ⟨w',hw,rw'⟩:=RelO.some_of (v:=v) (o:=valueAt vs k) (by rw [← hv]; exact rel.val k)
 exact ⟨zaiq dd,wpAny_getItem_of (zaf8 ry) dd.mapOf hw ⟨v,H2,I2.tok _,rw',q⟩⟩
def rInD (X:Cx) (neg:Bool):R2:=fun x y H Q=>∃ a kvs k,y=.ref a∧x=kV k∧DK X.prog X.w X.K H a kvs∧Q (.bl (if neg then !(valV kvs k).isSome else (valV kvs k).isSome)) H
theorem zakx:OpR X (compareOp .In) (rInD X false):=by
 intro pins s σ H x y v u Q I rx ry h
 obtain ⟨a,kvs,k,rfl,rfl,dk,q⟩:=h
 obtain rfl:u=Value.ref a:=ry
 obtain ⟨hd,vs,rel,dd⟩:=I.dict dk
 refine wpAny_in_of (zaf8 rx) hd dd.mapOf ?_
 rw [← (rel.val k).isSome_eq]
 exact ⟨.bl (valV kvs k).isSome,H,I.tok _,rfl,q⟩
theorem zags:OpR X (compareOp .NotIn) (rInD X true):=by
 intro pins s σ H x y v u Q I rx ry h
 obtain ⟨a,kvs,k,rfl,rfl,dk,q⟩:=h
 obtain rfl:u=Value.ref a:=ry
 obtain ⟨hd,vs,rel,dd⟩:=I.dict dk
 refine wpAny_notIn_of (zaf8 rx) hd dd.mapOf ?_
 rw [← (rel.val k).isSome_eq]
 exact ⟨.bl (!(valV kvs k).isSome),H,I.tok _,rfl,q⟩
end
theorem zats {P:Program}{w:World}{K:PySem.W.Frag}{a:Addr}{od:Option Addr}{ep:Nat}{sl:Array (Option Value)}{es:Array DictEntry} (xs:List (Str × Tok × Value)) (vs:List V)
  (l:K.lookup a=some ⟨.type "dict",od,.dict es ep,sl⟩) (he:es.toList=xs.map (ent w)) (hx:(⟨.type "dict",od,.dict es ep,sl⟩:Obj).ExactDict) (ns:(a == sysModules)=false)
  (nd:(xs.map (·.1)).Nodup) (hv:Vals vs (xs.map (·.2.2))):KD P w K a ((xs.map fun x=>(Sum.inr x.1:Key)).zip vs):=by
 refine ⟨⟨_,es,ep,xs.map fun x=>(Sum.inr x.1,x.2.2),l,hx,rfl,?_,?_,?_,?_⟩,ns⟩
 ·intro e h
  rw [← Array.mem_toList_iff,he] at h
  obtain ⟨x,hx,rfl⟩:=List.mem_map.mp h
  exact ⟨Sum.inr x.1,zafn x.1 x.2.1,rfl⟩
 ·rw [he]
  clear he nd hv l hx
  induction xs with
  | nil=>exact .nil
  | cons x xs ih=>exact .cons (zafn x.1 x.2.1) rfl ih
 ·rw [List.map_map]
  have e:(xs.map (fun x=>(Sum.inr x.1:Key)))=(xs.map (·.1)).map Sum.inr:=by rw [List.map_map]; rfl
  show (xs.map (fun x=>(Sum.inr x.1:Key))).Nodup
  rw [e]
  exact List.Pairwise.map _ (fun a b h z=>h (Sum.inr.inj z)) nd
 ·clear he nd l hx
  induction xs generalizing vs with
  | nil=>cases hv; exact .nil
  | cons x xs ih =>
   cases hv with
   | cons r rr=>exact .cons ⟨rfl,r⟩ (ih _ rr)
end L2

namespace L2
open PySem PySem.Spec PyProof.Rows
structure Pr (p:Prop):Prop where
 h:p
section
variable {X:Cx}
theorem zal6 {i:Nat}{x:Str}{pos:Pos} (hN:X.N[i]?=some x) (hv:Vis X.env.scope x) (hd:(x == ("__debug__" : Str))=false:=by decide) (hcd:(x == ("__classdict__" : Str))=false:=by decide):Pr (PE X (.Name x pos) (tVar i)):=⟨zass hN hv hd hcd⟩
theorem zaag {i j pos}:Pr (PE X (.Constant (.int i) j pos) (tC (.int i))):=⟨zast⟩
theorem zabl {b j pos}:Pr (PE X (.Constant (.bool b) j pos) (tC (.bl b))):=⟨zauw⟩
theorem zacs {j pos}:Pr (PE X (.Constant .none j pos) (tC .non)):=⟨zasu⟩
theorem zaas {x j pos}:Pr (PE X (.Constant (.str x) j pos) (tC (.str x))):=⟨zasv⟩
theorem zad3 {x:Str}{v:V}{u:Value}{pos:Pos} (hg:Gl X x) (hm:X.mg x=some u) (r:RelV v u) (hd:(x == ("__debug__" : Str))=false:=by decide):Pr (PE X (.Name x pos) (tC v)):=⟨zaqb hg hm r hd⟩
theorem zaaz {x:Str}{v:V}{u:Value}{pos:Pos} (hg:Gl X x) (hm:X.mg x=none) (hv:bootBuiltins x=some u) (r:RelV v u) (hn:x ≠ "__name__" := by decide) (hd:(x == ("__debug__" : Str))=false:=by decide):Pr (PE X (.Name x pos) (tC v)):=⟨zaqc hg hm hv r hn hd⟩
end
section
variable {X:Cx}{a b c:Expr}{ta tb tc:TE}{pos:Pos}
theorem zaa4 {op:Operator}{r:R2} (ho:OpR X (binaryOp op) r) (ha:Pr (PE X a ta)) (hb:Pr (PE X b tb)):Pr (PE X (.BinOp a op b pos) (tOp r ta tb)):=⟨zau0 ho ha.h hb.h⟩
theorem zatt {op:UnaryOp}{r:V→Hp→VK→Prop} (ho:UnR X (unaryOp op) r) (ha:Pr (PE X a ta)):Pr (PE X (.UnaryOp op a pos) (tUn r ta)):=⟨zau1 ho ha.h⟩
theorem zaa3 {op:CmpOp}{r:R2} (ho:OpR X (compareOp op) r) (ha:Pr (PE X a ta)) (hb:Pr (PE X b tb)) (hm:behindInMarks op b=false):Pr (PE X (.Compare a [op] [b] pos) (tOp r ta tb)):=⟨zaqm ho ha.h hb.h hm⟩
theorem zal7 {op op':CmpOp}{r r':R2} (ho:OpR X (compareOp op) r) (ho':OpR X (compareOp op') r') (ha:Pr (PE X a ta)) (hb:Pr (PE X b tb)) (hc:Pr (PE X c tc)) (hm:lastMarks [op,op'] [b,c]=false:=by with_unfolding_all rfl):Pr (PE X (.Compare a [op,op'] [b,c] pos) (tChain r r' ta tb tc)):=⟨zaoa ho ho' ha.h hb.h hc.h hm⟩
end
section
variable {X:Cx}
variable {a b:Expr}{ta tb:TE}{pos:Pos}
variable {tA tB':TT}{rest:List Expr}
theorem zaa8 (ha:Pr (PE X a ta)) (hb:Pr (PE X (.BoolOp .And (b :: rest) pos) tb)):Pr (PE X (.BoolOp .And (a :: b :: rest) pos) (tAndV ta tb)):=⟨zas1 ha.h hb.h⟩
end
section
variable {X:Cx}
variable {a b:Expr}{ta tb:TE}{pos:Pos}
variable {tA tB':TT}{rest:List Expr}
theorem zaec (ha:Pr (PE X a ta)) (hb:Pr (PE X (.BoolOp .Or (b :: rest) pos) tb)):Pr (PE X (.BoolOp .Or (a :: b :: rest) pos) (tOrV ta tb)):=⟨zauy ha.h hb.h⟩
end
section
variable {X:Cx}
variable {a b:Expr}{ta tb:TE}{pos:Pos}
variable {tA tB':TT}{rest:List Expr}
theorem zaa9 {op}{t:TE} (h:Pr (PE X a t)):Pr (PE X (.BoolOp op [a] pos) t):=⟨zas0 h.h⟩
end
section
variable {X:Cx}
variable {a b:Expr}{ta tb:TE}{pos:Pos}
variable {tA tB':TT}{rest:List Expr}
theorem zagt (ha:Pr (PE X a ta)):Pr (PE X (.UnaryOp .Not a pos) (tNotV ta)):=⟨zas2 ha.h⟩
end
section
variable {X:Cx}
variable {a b:Expr}{ta tb:TE}{pos:Pos}
variable {tA tB':TT}{rest:List Expr}
theorem zaed {c:Expr} (hc:Pr (PT X c tA)) (ha:Pr (PE X a ta)) (hb:Pr (PE X b tb)):Pr (PE X (.IfExp c a b pos) (tIf tA ta tb)):=⟨zan4 hc.h ha.h hb.h⟩
end
section
variable {X:Cx}{e:Expr}{es:List Expr}{te:TE}{t:TA}{pos:Pos}
theorem zaax {x1} (h:Pr (PA X es t)):Pr (PE X (.Tuple es x1 pos) (tTup t)):=⟨zate h.h⟩
theorem zact (h:Pr (PA X es t)):Pr (PE X (.List es pos) (tLst t)):=⟨zatf h.h⟩
end
section
variable {X:Cx}{e:Expr}{te:TE}{lo hi:Option Expr}{tl th:TO}{pos p2:Pos}
theorem zaee {r:V→Option Int→Option Int→Hp→VK→Prop} (hr:SlR X r) (he:Pr (PE X e te)) (hl:Pr (PO X lo tl)) (hu:Pr (PO X hi th)):Pr (PE X (.Subscript e (.Slice lo hi none p2) pos) (tSl r te tl th)):=⟨zaoh hr he.h hl.h hu.h⟩
end
section
variable {X:Cx}{a b:Expr}{ta tb:TE}{pos:Pos}
theorem zaat {r:R2} (hr:IxR X r) (ha:Pr (PE X a ta)) (hb:Pr (PE X b tb)) (hs:PlainIx b):Pr (PE X (.Subscript a b pos) (tOp r ta tb)):=⟨zau4 hr ha.h hb.h hs⟩
end
section
variable {X:Cx}
theorem zal8 {o i:Expr}{td ty:TE}{pos:Pos} (ho:Pr (PE X o td)) (hi:Pr (PE X i ty)) (hs:NoSl i):Pr (PE X (.Subscript o i pos) (tOp (rIxD X) td ty)):=⟨zatr ho.h hi.h hs⟩
end
section
variable {X:Cx}{o e value:Expr}{f:Str}{pos pos' tpos:Pos}{ta tv:TE}
theorem zabj (he:Pr (PE X e ta)) (hb:attributeBase e f X.env (eval e X.env)=eval e X.env):Pr (PE X (.Attribute e f pos) (tFld X.K ta f)):=⟨zatb he.h hb⟩
end
section
variable {X:Cx}{CX:CXT}{k:Nat}{ps:List Str}{sp:Sp}{E:XK}{x:Str}{p pos:Pos}{e:Expr}{es:List Expr}{t:TA}
theorem zaai (D:DefOk X.prog X.w X.K X.mg X.base CX k x ps sp) (hr:Room k X.A) (hg:Gl X x) (hx:Passes CX X E) (ha:Pr (PA X (e :: es) t)) (hdb:(x == ("__debug__" : Str))=false:=by decide) (he:starEach (e :: es) X.env=(false,eval e X.env) :: starEach es X.env:=by rfl) (hpl:(backTo pos (starEach es X.env)).any (·.1)=false:=by rfl):Pr (PE X (.Call (.Name x p) (e :: es) [] pos) (tCall sp [] E t)):=⟨zaop D hr hg hx ha.h hdb he hpl⟩
end
section
variable {X:Cx}{x:Str}{p pos:Pos}{e:Expr}{es:List Expr}{t:TA}{id T:String}{r:List V→Hp→VK→Prop}
theorem zaah (hc:CallR X (.builtin id) r) (hg:Gl X x) (hm:X.mg x=none) (hv:bootBuiltins x=some (.builtin id)) (ha:Pr (PA X (e :: es) t)) (hn:x ≠ "__name__" := by decide) (hdb:(x == ("__debug__" : Str))=false:=by decide) (he:starEach (e :: es) X.env=(false,eval e X.env) :: starEach es X.env:=by rfl) (hpl:(backTo pos (starEach es X.env)).any (·.1)=false:=by rfl):Pr (PE X (.Call (.Name x p) (e :: es) [] pos) (tCB r t)):=⟨zaof hc hg hm hv ha.h hn hdb he hpl⟩
theorem zabd (hc:CallR X (.type T) r) (hg:Gl X x) (hm:X.mg x=none) (hv:bootBuiltins x=some (.type T)) (ha:Pr (PA X (e :: es) t)) (hn:x ≠ "__name__" := by decide) (hdb:(x == ("__debug__" : Str))=false:=by decide) (he:starEach (e :: es) X.env=(false,eval e X.env) :: starEach es X.env:=by rfl) (hpl:(backTo pos (starEach es X.env)).any (·.1)=false:=by rfl):Pr (PE X (.Call (.Name x p) (e :: es) [] pos) (tCB r t)):=⟨zalr hc hg hm hv ha.h hn hdb he hpl⟩
end
section
variable {X:Cx}{a b:Expr}{ta tb:TE}{pos:Pos}
variable {o e:Expr}{es:List Expr}{to:TE}{t:TA}{name:Str}{apos cpos:Pos}{T id:String}{r:V→List V→Hp→VK→Prop}
theorem zado (pa:PlainAttrs T) (slot:Slot T name id) (hty:typeOf (.builtin id)=pure (.type "method_descriptor")) (hm:MtR X id r) (ho:Pr (PE X o to)) (ha:Pr (PA X (e :: es) t)) (hbase:attributeBase o name X.env (eval o X.env)=eval o X.env:=by rfl) (hfew:((backTo cpos (starEach (e :: es) X.env)).all (fun x=>!x.1) && (backToKw cpos (keywordEach [] X.env)).all (fun x=>x.1.isSome)
   && decide ((e :: es).length + ([]:List Keyword).length + (if ([]:List Keyword).isEmpty then 0 else 1) < 30))=true:=by rfl) (hline:(apos.endLine == cpos.line)=true:=by rfl) (hs:starEach (e :: es) X.env=(false,eval e X.env) :: starEach es X.env:=by rfl) (hplain:(backTo cpos (starEach es X.env)).any (·.1)=false:=by rfl):Pr (PE X (.Call (.Attribute o name apos) (e :: es) [] cpos) (tBM X.K T r to t)):=⟨zau5 pa slot hty hm ho.h ha.h hbase hfew hline hs hplain⟩
end
section
variable {X:Cx}{a b c:Expr}{ta tb tc:TE}{pos:Pos}
theorem zaar {op:CmpOp}{r:R2} (ho:OpR X (compareOp op) r) (ha:Pr (PE X a ta)) (hb:Pr (PE X b tb)) (hm:behindInMarks op b=false):Pr (PT X (.Compare a [op] [b] pos) (tTest (tOp r ta tb))):=⟨zaqn ho ha.h hb.h hm⟩
end
section
variable {X:Cx}
variable {a b:Expr}{ta tb:TE}{pos:Pos}
variable {tA tB':TT}{rest:List Expr}
theorem zab6 (ha:Pr (PT X a tA)):Pr (PT X (.UnaryOp .Not a pos) (tNot tA)):=⟨zasz ha.h⟩
end
section
variable {X:Cx}
variable {a b:Expr}{ta tb:TE}{pos:Pos}
theorem zaay {e:Expr}{t:TE} (h:Pr (PE X e t)) (he:∀ whole,isTrue e X.env whole=(do let v ← whole; standAt e.pos; holding [v] (truthy v)):=by intro _; rfl):Pr (PT X e (tB t)):=⟨zasw h.h he⟩
end
section
theorem zabt {X:Cx}{e:Expr}{t:TT} (h:Pr (PW X e t)):Pr (PT X e t):=⟨PW.pt h.h⟩
end
section
variable {X:Cx}
variable {a b:Expr}{ta tb:TE}{pos:Pos}
variable {tA tB':TT}{rest:List Expr}
theorem zadq (ha:Pr (PT X a tA)) (hb:Pr (PW X (.BoolOp .And (b :: rest) pos) tB')):Pr (PW X (.BoolOp .And (a :: b :: rest) pos) (tAnd tA tB')):=⟨zasy ha.h hb.h⟩
end
section
variable {X:Cx}
variable {a b:Expr}{ta tb:TE}{pos:Pos}
variable {tA tB':TT}{rest:List Expr}
theorem zade (ha:Pr (PT X a tA)):Pr (PW X (.BoolOp .And [a] pos) tA):=⟨zaqd ha.h⟩
end
section
variable {X:Cx}
variable {a b:Expr}{ta tb:TE}{pos:Pos}
variable {tA tB':TT}{rest:List Expr}
theorem zabz (ha:Pr (PT X a tA)) (hb:Pr (PW X (.BoolOp .Or (b :: rest) pos) tB')):Pr (PW X (.BoolOp .Or (a :: b :: rest) pos) (tOr tA tB')):=⟨zaux ha.h hb.h⟩
end
section
variable {X:Cx}
variable {a b:Expr}{ta tb:TE}{pos:Pos}
variable {tA tB':TT}{rest:List Expr}
theorem zabr (ha:Pr (PT X a tA)):Pr (PW X (.BoolOp .Or [a] pos) tA):=⟨zasx ha.h⟩
end
section
variable {X:Cx}{e:Expr}{es:List Expr}{te:TE}{t:TA}{pos:Pos}
theorem zaab  : Pr (PA X [] tNil):=⟨zatd⟩
theorem zaaa (ha:Pr (PE X e te)) (hr:Pr (PA X es t)) (hs:starEach (e :: es) X.env=(false,eval e X.env) :: starEach es X.env:=by rfl):Pr (PA X (e :: es) (tCons te t)):=⟨zaqr ha.h hr.h hs⟩
end
section
variable {X:Cx}{e:Expr}{te:TE}{lo hi:Option Expr}{tl th:TO}{pos p2:Pos}
theorem zafh  : Pr (PO X none tNoPart):=⟨zaqv⟩
theorem zafi (h:Pr (PE X e te)):Pr (PO X (some e) (tPart te)):=⟨zaqw h.h⟩
end
section
variable {X:Cx}{tg:Expr}
theorem zacj {l:Expr}{tl:TE} (hl:Pr (PE X l tl)):Pr (PI X tg l (iList X.K tl)):=⟨zaqk hl.h⟩
theorem zad7 {l:Expr}{tl:TE} (hl:Pr (PE X l tl)):Pr (PI X tg l (iTup X.K tl)):=⟨zas7 hl.h⟩
theorem zacy {a:Expr}{ta:TA}{p pos:Pos} (hg:Gl X "range") (hm:X.mg "range" = none) (ha:Pr (PA X [a] ta)) (hs:starEach [a] X.env=[(false,eval a X.env)]:=by rfl):Pr (PI X tg (.Call (.Name "range" p) [a] [] pos) (iRng1 ta)):=⟨zalf hg hm ha.h hs⟩
theorem zaky {a b:Expr}{ta:TA}{p pos:Pos} (hg:Gl X "range") (hm:X.mg "range" = none) (ha:Pr (PA X [a,b] ta)) (hs:starEach [a,b] X.env=[(false,eval a X.env),(false,eval b X.env)]:=by rfl) (hs2:starEach [b] X.env=[(false,eval b X.env)]:=by rfl):Pr (PI X tg (.Call (.Name "range" p) [a,b] [] pos) (iRng2 ta)):=⟨zalg hg hm ha.h hs hs2⟩
end
section
variable {X:Cx}{elts:List Expr}{kk:Nat}{tpos:Pos}
theorem zad8 (k1 k2:SK) {a b:Expr}{ta:TA}{p pos:Pos} (hg:Gl X "zip") (hm:X.mg "zip" = none) (ha:Pr (PA X [a,b] ta)) (hs:starEach [a,b] X.env=[(false,eval a X.env),(false,eval b X.env)]:=by rfl) (hs2:starEach [b] X.env=[(false,eval b X.env)]:=by rfl):Pr (PI X (.Tuple elts kk tpos) (.Call (.Name "zip" p) [a,b] [] pos) (iZip X.K k1 k2 ta)):=⟨zatq k1 k2 hg hm ha.h hs hs2⟩
end
section
variable {X:Cx}{pos:Pos}
theorem zaau {i:Nat}{x:Str} (hN:X.N.Nodup) (hi:X.N[i]?=some x) (hx:Loc X.env.scope x) (hf:X.fn x=true∨X.env.scope.names.lookup x=some .local:=by first | exact .inl rfl | exact .inr rfl | assumption):Pr (PG X (.Name x pos) (gName i)):=⟨zaqh hN hi hx hf⟩
theorem zacc  : Pr (PGs X [] gNil):=⟨zaqi⟩
theorem zaa5 {e:Expr}{es:List Expr}{t:TG}{u:TGs} (h1:Pr (PG X e t)) (h2:Pr (PGs X es u)) (hs:(assignEach (e :: es) X.env).map (·.2)=assign e X.env :: (assignEach es X.env).map (·.2):=by rfl):Pr (PGs X (e :: es) (gCons t u)):=⟨zan6 h1.h h2.h hs⟩
theorem zac7 {es:List Expr}{k:Nat}{t:TGs}{n:Nat} (hc:X.calm=true) (h:Pr (PGs X es t)) (hn:(assignEach es X.env).length=n:=by rfl) (hst:(assignEach es X.env).findIdx? (·.1)=none:=by rfl):Pr (PG X (.Tuple es k pos) (gTup X.K n t)):=⟨zapi hc h.h hn hst⟩
theorem zair {o i:Expr}{to ti:TE}{t:TSet} (ho:Pr (PE X o to)) (hi:Pr (PE X i ti)) (hs:PSet X t) (ha:∀ v,assign (.Subscript o i pos) X.env v=(do
   let ov ← holding [v] (eval o X.env)
   let iv ← holding [v,ov] (eval i X.env)
   standAt pos
   holding [v,ov,iv] (setItem ov iv v)
   release [v,ov,iv] []):=by intro _; rfl):Pr (PG X (.Subscript o i pos) (gSub to ti t)):=⟨zas4 ho.h hi.h hs ha⟩
end
section
variable {X:Cx}{st:Stmt}{rest:List Stmt}{t u:TS}{e:Expr}{te:TE}{pos:Pos}
theorem zaak (he:Pr (PE X e te)):Pr (PS X (.Return (some e) pos) (tRet te)):=⟨zas3 he.h⟩
end
section
variable {X:Cx}{pos:Pos}
theorem zaa1 {i:Nat}{x:Str}{e:Expr}{te:TE}{pos':Pos} (hN:X.N.Nodup) (hi:X.N[i]?=some x) (hx:Loc X.env.scope x) (he:Pr (PE X e te)) (hs:swapsWith e (some (.Name x pos')) pos.line X.env=pure false:=by rfl) (hf:X.fn x=true∨X.env.scope.names.lookup x=some .local:=by first | exact .inl rfl | exact .inr rfl | assumption):Pr (PS X (.Assign [.Name x pos'] e pos) (tAsg te (gName i))):=⟨zas6 hN hi hx he.h hs hf⟩
theorem zadx {tg e:Expr}{te:TE}{g:TG} (he:Pr (PE X e te)) (hg:Pr (PG X tg g)) (hs:swapsWithSole [tg] e pos.line X.env=pure false:=by rfl) (hw:swappedStores [tg] e X.env=pure none:=by rfl) (h1:(assignEach [tg] X.env).map (·.2)=[assign tg X.env]:=by rfl):Pr (PS X (.Assign [tg] e pos) (tAsg te g)):=⟨zas5 he.h hg.h hs hw h1⟩
end
section
variable {X:Cx}{st:Stmt}{rest:List Stmt}{t u:TS}{e:Expr}{te:TE}{pos:Pos}
theorem zaav {c:Expr}{a b:List Stmt}{tc:TT} (hc:Pr (PT X c tc)) (ha:Pr (PSs X a t)) (hb:Pr (PSs X b u)):Pr (PS X (.If c a b pos) (tIfS tc t u)):=⟨zauz hc.h ha.h hb.h⟩
end
section
theorem zaca {X:Cx}{tg iter:Expr}{body:List Stmt}{wi:TI}{g:TG}{tb:TS}{pos:Pos} (hp:PassesOwn (model X.prog X.w) X.A X.env X.xe) (hc:X.calm=true) (hi:Pr (PI X tg iter wi)) (hg:Pr (PG X tg g)) (hb:Pr (PSs X body tb)) (hs:∀ x,foldedSetIterable iter X.env x=pure x:=by intro _; rfl):Pr (PS X (.For tg iter body [] pos) (tLoop wi g tb)):=⟨zaq5 hp hc hi.h hg.h hb.h hs⟩
end
section
variable {X:Cx}{pos:Pos}
theorem zal9 {c:Expr}{body:List Stmt}{tc:TT}{tb:TS} (hp:PassesOwn (model X.prog X.w) X.A X.env X.xe) (hc:Pr (PT X c tc)) (hb:Pr (PSs X body tb)):Pr (PS X (.While c body [] pos) (tWhile tc tb)):=⟨zan7 hp hc.h hb.h⟩
end
section
variable {X:Cx}{st:Stmt}{rest:List Stmt}{t u:TS}{e:Expr}{te:TE}{pos:Pos}
theorem zacp (he:Pr (PE X e te)) (hs:swapsWith e none pos.line X.env=pure false:=by rfl):Pr (PS X (.Expr e pos) (tDrop te)):=⟨zaqg he.h hs⟩
theorem zahy  : Pr (PS X (.Continue pos) tCont):=⟨zail⟩
theorem zaal  : Pr (PSs X [] tNext):=⟨zaqe⟩
theorem zaae (h1:Pr (PS X st t)):Pr (PSs X [st] t):=⟨zaqf h1.h⟩
theorem zaad (h1:Pr (PS X st t)) (h2:Pr (PSs X rest u)):Pr (PSs X (st :: rest) (tSeq t u)):=⟨zajw h1.h h2.h⟩
end
section
theorem zabs {X:Cx}{st:Stmt}{rest:List Stmt}{t u:TS} (h1:Pr (PS X st t)) (h2:Pr (PSs X rest u)):Pr (PSs X (st :: rest) (tCut t u)):=⟨zaq6 h1.h h2.h⟩
end
section
variable {X:Cx}{o e value:Expr}{f:Str}{pos pos' tpos:Pos}{ta tv:TE}
theorem zagu (ha:Pr (PE X o ta)) (hv:Pr (PE X value tv)) (hs:swapsWith value (some (.Attribute o f pos')) pos.line X.env=pure false):Pr (PS X (.Assign [.Attribute o f pos'] value pos) (sFld X.K ta tv f)):=⟨zatc ha.h hv.h hs⟩
end
end L2

namespace L2
open PySem PySem.Spec PyProof.Rows
def relab (sc outer:Scope):Scope :=
 { sc with names:=sc.names.map fun (n,k)=>if (k == .free && outer.kind == .function && outer.names.lookup n == some .cell) then (n,.cell) else (n,k) }
structure CompOk (sc outer:Scope) (own:List Str) (N:List Str) (fr:List Nat) (N':List Str):Prop where
 kind:sc.kind=.function
 nocell:∀ y∈sc.names,y.2≠.cell
 loc:∀ y∈sc.names,y.2=.local→sc.names.lookup y.1=some .local
 fre:∀ y∈sc.names,y.2=.free→outer.names.lookup y.1=some .cell∨outer.names.lookup y.1=some .free
 nd:N'.Nodup
 all:N'.map some=own.map some++fr.map fun j=>N[j]?
 frk:∀ j∈fr,∀ x,N[j]?=some x→sc.names.lookup x=some .free∧(outer.names.lookup x=some .cell∨outer.names.lookup x=some .free)
def cst (n:Nat) (fr:List Nat) (σ:St):St:=List.replicate n none++fr.map fun j=>(σ[j]?).join
theorem zafy {env:Env}{sc:Scope} (h:∀ y∈sc.names,y.2=.free→∃ c,env.cells.lookup y.1=some c) :
  ∃ cl,closureFor sc env=pure cl∧(∀ x c,cl.lookup x=some c→env.cells.lookup x=some c)∧∀ y∈sc.names,y.2=.free→∃ c,cl.lookup y.1=some c:=by
 have key:∀ (l:List (Str × NameKind)) (cs:List (Str × Addr)),(∀ y∈l,y.2=.free→∃ c,env.cells.lookup y.1=some c)→(∀ x c,cs.lookup x=some c→env.cells.lookup x=some c) →
   ∃ cl,(forIn l cs fun x r=>if (x.2 == NameKind.free)=true then do let a ← cellOf env x.1; pure (ForInStep.yield ((x.1,a) :: r)) else pure (ForInStep.yield r))=(pure cl:Sem _)∧(∀ x c,cl.lookup x=some c→env.cells.lookup x=some c) ∧
    (∀ x,(∃ c,cs.lookup x=some c)→∃ c,cl.lookup x=some c)∧∀ y∈l,y.2=.free→∃ c,cl.lookup y.1=some c:=by
  intro l
  induction l with
  | nil=>intro cs _ h2; exact ⟨cs,rfl,h2,fun _ z=>z,fun y hy=>nomatch hy⟩
  | cons y l ih =>
   intro cs h1 h2
   obtain ⟨n,k⟩:=y
   by_cases hk:k=.free
   ·subst hk
    obtain ⟨c,hc⟩:=h1 (n,.free) List.mem_cons_self rfl
    obtain ⟨cl,e,a,b,d⟩:=ih ((n,c) :: cs) (fun y hy=>h1 y (List.mem_cons_of_mem _ hy)) (fun x c' hx=>by
     rw [List.lookup_cons] at hx
     split at hx
     ·rename_i q
      have:x=n:=by simpa using q
      cases hx; subst this; exact hc
     ·exact h2 x c' hx)
    refine ⟨cl,?_,a,fun x ⟨c',hx⟩=>b x ?_,fun y hy hf=>?_⟩
    ·rw [List.forIn_cons]
     have e1:cellOf env n=pure c:=by unfold cellOf; rw [hc]
     simp only [beq_self_eq_true,if_true,e1,pure_bind]
     exact e
    ·rw [List.lookup_cons]
     split
     ·exact ⟨_,rfl⟩
     ·exact ⟨c',hx⟩
    ·rcases List.mem_cons.mp hy with rfl | hy
     ·exact b n ⟨c,by simp [List.lookup_cons]⟩
     ·exact d y hy hf
   ·obtain ⟨cl,e,a,b,d⟩:=ih cs (fun y hy=>h1 y (List.mem_cons_of_mem _ hy)) h2
    refine ⟨cl,?_,a,b,fun y hy hf=>?_⟩
    ·rw [List.forIn_cons]
     have hb:(k == NameKind.free)=false:=by simpa using hk
     simp only [hb,Bool.false_eq_true,if_false,pure_bind]
     exact e
    ·rcases List.mem_cons.mp hy with rfl | hy
     ·exact absurd hf hk
     ·exact d y hy hf
 obtain ⟨cl,e,a,_,d⟩:=key sc.names [] h (fun x c hx=>by simp at hx)
 refine ⟨cl,?_,a,d⟩
 unfold closureFor
 simp only [e,pure_bind]
def cxC (X:Cx) (sc:Scope) (cl:List (Str × Addr)) (N':List Str) (C:Addr) (s:Shared) (H:Hp) (fp:List Addr):Cx :=
 { X with N:=N',s₀:=s,H₀:=H,env:=compEnvC sc cl C X.env,outer:=X.stack,stack:=X.stack,ex:=fp,fn:=fun _=>false,pn:=[],xe:=fun _ _=>False }
theorem zadf {outer:Scope}:∀ {names:List (Str × NameKind)}{x:Str}{k:NameKind},
  (names.map fun (n,k)=>if (k == NameKind.free && outer.kind == .function && outer.names.lookup n == some .cell) then (n,NameKind.cell) else (n,k)).lookup x=some k →
   names.lookup x=some k∨(names.lookup x=some .free∧k=.cell)
 | [],x,k,h=>by simp at h
 | (n,k') :: r,x,k,h=>by
  rw [List.map_cons] at h
  by_cases hc:(k' == NameKind.free && outer.kind == .function && outer.names.lookup n == some .cell)=true
  ·simp only [hc,if_true] at h
   rw [List.lookup_cons] at h ⊢
   cases hx:x == n with
   | true =>
    rw [hx] at h
    simp only [Option.some.injEq] at h
    have hf:k'=.free:=by
     have:=(Bool.and_eq_true_iff.mp (Bool.and_eq_true_iff.mp hc).1).1
     simpa using this
    exact .inr ⟨by simp [hf],h.symm⟩
   | false=>rw [hx] at h; exact zadf h
  ·simp only [hc,Bool.false_eq_true,if_false] at h
   rw [List.lookup_cons] at h ⊢
   cases hx:x == n with
   | true=>rw [hx] at h; exact .inl (by simpa using h)
   | false=>rw [hx] at h; exact zadf h
theorem zaer {outer:Scope}:∀ {names:List (Str × NameKind)}{x:Str},names.lookup x=some .free →
  (names.map fun (n,k)=>if (k == NameKind.free && outer.kind == .function && outer.names.lookup n == some .cell) then (n,NameKind.cell) else (n,k)).lookup x=some .cell ∨
  (names.map fun (n,k)=>if (k == NameKind.free && outer.kind == .function && outer.names.lookup n == some .cell) then (n,NameKind.cell) else (n,k)).lookup x=some .free
 | [],x,h=>by simp at h
 | (n,k') :: r,x,h=>by
  rw [List.lookup_cons] at h
  rw [List.map_cons]
  by_cases hc:(k' == NameKind.free && outer.kind == .function && outer.names.lookup n == some .cell)=true
  ·simp only [hc,if_true]
   rw [List.lookup_cons]
   cases hx:x == n with
   | true=>exact .inl rfl
   | false=>rw [hx] at h; exact zaer h
  ·simp only [hc,Bool.false_eq_true,if_false]
   rw [List.lookup_cons]
   cases hx:x == n with
   | true=>rw [hx] at h; exact .inr h
   | false=>rw [hx] at h; exact zaer h
theorem zadr {α:Type}:∀ {l:List (Str × α)}{x:Str}{k:α},l.lookup x=some k→(x,k)∈l
 | [],_,_,h=>by simp at h
 | (n,k') :: r,x,k,h=>by
  rw [List.lookup_cons] at h
  cases hx:x == n with
  | true =>
   rw [hx] at h
   have e:x=n:=by simpa using hx
   have e2:k'=k:=by simpa using h
   rw [e,e2]; exact List.mem_cons_self
  | false=>rw [hx] at h; exact List.mem_cons_of_mem _ (zadr h)
section
variable {X:Cx}{pins:List (Addr × Obj)}{σ:St}{H:Hp}{s:Shared}{sc:Scope}{own:List Str}{fr:List Nat}{N':List Str}{cl:List (Str × Addr)}
theorem zais (I:Inv X pins σ H s) (cs:CompOk sc X.env.scope own X.N fr N') (h1:∀ x c,cl.lookup x=some c→X.env.cells.lookup x=some c) (h2:∀ y∈sc.names,y.2=.free→∃ c,cl.lookup y.1=some c)
  {fp:List Addr} (hf:∀ b∈fp,FpOk X pins H b∧∃ o,s.heap.get? b=some o) {h':Heap}{t':Nat}{C D:Addr}{o:Obj} (hC:s.heap.objs.size≤C) (hD:s.heap.objs.size≤D) (hDC:D≠C)
  (k:∀ b u,s.heap.get? b=some u→h'.get? b=some u) (hn:h'.Ns C fun _=>none) (hDo:h'.get? D=some o) (hd:∀ v,o.data≠.cell v) :
  Inv (cxC X sc cl N' C s H fp) [(D,o)] (cst own.length fr σ) H { s with heap:=h',toks:=t' }:=by
 have lt:∀ b u,s.heap.get? b=some u→b < s.heap.objs.size:=fun b u e=>Heap.lt_size e
 have fpC:∀ b∈fp,b≠C:=fun b hb z=>by
  obtain ⟨_,o,e⟩:=hf b hb
  have:=lt b o e
  rw [z] at this
  exact absurd (Nat.lt_of_lt_of_le this hC) (Nat.lt_irrefl _)
 have lenN:N'.length=own.length + fr.length:=by
  have:=congrArg List.length cs.all
  simpa using this
 refine ⟨⟨I.ok.mod,cs.kind,I.ok.glob,I.ok.blt,hC,fun x y c e1 e2=>I.ok.inj x y c (h1 x c e1) (h1 y c e2),fun x hx=>?_,fun x c z=>absurd z Bool.false_ne_true,I.ok.hd,I.ok.frames,.inl rfl,fun b hb=>⟨fpC b hb,fun x c e=>(hf b hb).1.2.2.2.2.1 x c (h1 x c e)⟩,
   I.bs,Nat.le_trans I.ok.bsz I.sz,fun b o' e hb=>?_,fun b hb z=>?_,I.stack,I.stkFree⟩,
  rfl,I.bare,Un.kept k,⟨_,hn,fun i x v e1 e2 e3=>?_⟩,fun x c e=>?_,I.hok.fresh hC,fun x c e=>I.freeC x c (h1 x c e),fun p hp=>?_,I.hok.kept k,?_⟩
 ·have hx':(relab sc X.env.scope).names.lookup x=some .cell∨(relab sc X.env.scope).names.lookup x=some .free:=hx
  have hfree:sc.names.lookup x=some .free:=by
   rcases hx' with z | z
   ·rcases zadf z with q | q
    ·exact absurd rfl (cs.nocell _ (zadr q))
    ·exact q.1
   ·rcases zadf z with q | q
    ·exact q
    ·exact q.1
  exact h2 (x,.free) (zadr hfree) rfl
 ·have q:=(hf b hb).1.2.2.2.1
  rcases q with q | q
  ·exact I.ok.noex b o' e q
  ·exact absurd (Nat.lt_of_lt_of_le (Heap.lt_size (I.ok.bs b o' e).1) q) (Nat.lt_irrefl _)
 ·have z':b∈frs X.stack:=z
  rcases List.mem_cons.mp (I.stkSub b z') with q | q
  ·exact (hf b hb).1.2.1 q
  ·exact (hf b hb).1.2.2.1 q
 ·-- a name of the block at its entry is one of the def's
  have hi:own.length≤i:=by
   by_cases hi:i < own.length
   ·have e2':(cst own.length fr σ)[i]?=some none:=by
     unfold cst
     rw [List.getElem?_append_left (by simpa using hi),List.getElem?_replicate,if_pos hi]
    rw [e2'] at e2; cases e2
   ·omega
  have e2':(fr.map fun j=>(σ[j]?).join)[i - own.length]?=some (some v):=by
   unfold cst at e2
   rwa [List.getElem?_append_right (by simpa using hi),List.length_replicate] at e2
  rw [List.getElem?_map] at e2'
  have e1a:(N'.map some)[i]?=some (some x):=by
   have e1:N'[i]?=some x:=e1
   rw [List.getElem?_map,e1]; rfl
  rw [cs.all,List.getElem?_append_right (by simpa using hi),List.length_map,List.getElem?_map] at e1a
  cases ej:fr[i - own.length]? with
  | none=>rw [ej] at e2'; cases e2'
  | some j =>
   rw [ej] at e2' e1a
   have hj:j∈fr:=List.mem_of_getElem? ej
   have nj:X.N[j]?=some x:=by simpa using e1a
   have sj:σ[j]?=some (some v):=by
    have:(σ[j]?).join=some v:=by simpa using e2'
    cases q:σ[j]? with
    | none=>rw [q] at this; cases this
    | some y=>rw [q] at this; simp at this; rw [this]
   obtain ⟨kf,ko⟩:=cs.frk j hj x nj
   obtain ⟨m,hm,hl⟩:=I.loc
   obtain ⟨u,r,l⟩:=hl j x v nj sj (.inr ko)
   refine ⟨u,r,.inr ?_⟩
   have lk:X.env.kindOf x=some .cell∨X.env.kindOf x=some .free:=ko
   rcases l with ⟨z,_⟩ | ⟨_,c,ec,ic⟩
   ·rcases lk with q | q <;> rw [z] at q <;> cases q
   ·obtain ⟨c',hc'⟩:=h2 (x,.free) (zadr kf) rfl
    have:c'=c:=by
     have:=h1 x c' hc'
     rw [ec] at this; exact (Option.some.inj this).symm
    subst this
    refine ⟨zaer kf,c',hc',?_⟩
    obtain ⟨oc,hoc,hcd⟩:=ic
    exact ⟨oc,k c' oc hoc,hcd⟩
 ·obtain ⟨v,oc,hoc,hcd⟩:=I.cell x c (h1 x c e)
  exact ⟨v,oc,k c oc hoc,hcd⟩
 ·have hp':p∈[(D,o)]:=hp
  have e:p=(D,o):=by simpa using hp'
  subst e
  refine ⟨hDo,I.hok.fresh hD,hDC,fun z=>?_,hd⟩
  have z':D∈frs X.stack:=z
  obtain ⟨_,o2,ho2,_⟩:=I.stack.mem z'
  exact absurd (Nat.lt_of_lt_of_le (Heap.lt_size ho2) hD) (Nat.lt_irrefl _)
 ·show (cst own.length fr σ).length=N'.length
  unfold cst
  rw [List.length_append,List.length_replicate,List.length_map,lenN]
theorem zama (I:Inv X pins σ H s) {fp:List Addr} (hf:∀ b∈fp,FpOk X pins H b∧∃ o,s.heap.get? b=some o) {C D:Addr}{its:List Value}{ys:List V}{n:Nat}{σ':St}{H':Hp}{s':Shared}
  (hD:s.heap.objs.size≤D) (J:Inv (cxC X sc cl N' C s H fp) [(D,{ cls:=.type "list",data:=.seq its.toArray n })] σ' H' s') (r:Vals ys its) (hz:ys.length≤sizeLine):Inv X pins σ (upd H' D (.lst ys)) s':=by
 obtain ⟨hDo,hDn,hDC,hDf,hDc⟩:=J.pin (D,{ cls:=.type "list",data:=.seq its.toArray n }) (List.mem_append_right _ List.mem_cons_self)
 have u:Un (frs X.stack) fp H H' s.heap s'.heap:=J.base
 have os:s'.os=s.os:=J.os
 have lt:∀ b ob,s.heap.get? b=some ob→b≠D:=fun b ob e z=>by
  have:=Heap.lt_size e
  rw [z] at this
  exact absurd (Nat.lt_of_lt_of_le this hD) (Nat.lt_irrefl _)
 refine I.call' (ch:=fp) os ⟨u.keep,u.slot,fun b ob e n hx=>?_,u.there,fun b xs e=>?_,fun b ob x e=>?_,fun b ps e=>?_⟩ ?_ J.bare (fun b hb=>?_)
 ·rw [zabq (lt b ob e)]; exact u.free b ob e n hx
 ·have:=u.tups b xs e
  rw [zabq (zaa7 this hDn)]; exact this
 ·have:=u.frzs b ob x e
  rw [zabq (zaa7 this hDn)]; exact this
 ·obtain ⟨m,q⟩:=u.tbls b ps e
  exact ⟨m,by rw [zabq (zaa7 q hDn)]; exact q⟩
 ·intro b ob e
  by_cases hb:b=D
  ·subst hb
   rw [zaaf] at e; cases e
   exact ⟨hz,its,n,r,hDo⟩
  ·rw [zabq hb] at e
   exact (J.hok b ob e).stay (fun c v _ q=>q) (fun c q=>by rw [zabq (zaa7 q hDn)]; exact q) fun c xs q=>by rw [zabq (zaa7 q hDn)]; exact q
 ·obtain ⟨_,f1,_,f3,f4,f5⟩:=(hf b hb).1
  exact ⟨f3,f1,f4,f5⟩
end
def PIf (X:Cx) (ifs:List Expr) (t:TT):Prop :=
 ∀ (pins:List (Addr × Obj)) (s:Shared) (σ:St) (H:Hp) (Q:Bool→Hp→Prop),Inv X pins σ H s→t σ H Q →
  wpAny (model X.prog X.w) X.A (forIn ifs true fun c r=>if r=true then do let ok ← isTrue c X.env (eval c X.env); pure (ForInStep.yield ok) else pure (ForInStep.yield r)) (TP X pins σ Q) X.xe s
def tYes:TT:=fun _ H Q=>Q true H
theorem zaq7 {X:Cx}:PIf X [] tYes:=fun _ _ _ H _ I h=>wpAny_tests_nil ⟨H,I,h⟩
theorem zaq8 {X:Cx}{c:Expr}{t:TT} (h:PT X c t):PIf X [c] t:=fun pins s σ H Q I q=>wpAny_tests_one (h pins s σ H Q I q)
structure Comp (J:It) (g:TG) (tt:TT) (te:TE) (Q:List V→Hp→Prop) (σ:St) (H:Hp):Prop where
 ex:∃ W:Nat→Nat→List V→St→Hp→Prop,(∃ m,W 0 m [] σ H)∧∀ i m ys σ H,W i m ys σ H→ys.length < sizeLine ∧
  ((J.stop i H∧Q ys H)∨(J.go i H∧∃ N:List V→St→Hp→Prop,(∀ ys' σ' H',N ys' σ' H'→∃ m',m' < m∧W (i + 1) m' ys' σ' H') ∧
    ∀ x H',J.yld i H x H'→g x σ H' fun σ2 H2=>tt σ2 H2 fun b H3=>if b=true then te σ2 H3 fun y H4=>N (ys++[y]) σ2 H4 else N ys σ2 H3))
section
variable {prog:Program}{w:World}{A:Around}{R:Result→Shared→Prop}{s:Shared}
theorem zahz {elt target iter:Expr}{ifs:List Expr}{scope:Scope}{pos:Pos}{it acc:Value}{env:Env} (I:Nat→Shared→Prop)
  (turn:∀ n s,I n s→wpAny (model prog w) A (pyNext it) (fun r s₁=>match r with
   | none=>R (.ok .next) s₁
   | some v=>wpAny (model prog w) A (letOwnedTupleGo target it v) (fun _ s₁=>wpAny (model prog w) A (assign target env v) (fun _ s₂ =>
     wpAny (model prog w) A (forIn ifs true fun c r=>if r=true then do let ok ← isTrue c env (eval c env); pure (ForInStep.yield ok) else pure (ForInStep.yield r)) (fun ok s₃ =>
      if ok=true then wpAny (model prog w) A (eval elt env) (fun x s₄ =>
       wpAny (model prog w) A (call (.builtin "list.append") [acc,x]) (fun _ s₅=>∃ m,m < n∧I m s₅) (fun _ _=>False) s₄) (fun _ _=>False) s₃
      else ∃ m,m < n∧I m s₃) (fun _ _=>False) s₂) (fun _ _=>False) s₁) (fun _ _=>False) s₁) (fun _ _=>False) s)
  (n:Nat) (h:I n s):codeAny (model prog w) A (.compLoop (.ListComp elt [⟨target,iter,ifs,0⟩] scope pos) 0 it acc env) R s:=by
 refine codeAny_loop rfl I (fun n s hI=>?_) n h
 show wpAny _ A ((compTurn (.ListComp elt [⟨target,iter,ifs,0⟩] scope pos) 0 it acc env).onRaise (fun x=>do noteFrame x env; theTreesLotGoes x)) _ _ s
 refine wpAny_noted (wpAny_noRaise ?_)
 rw [compTurn_list]
 refine wpAny_bind (wpAny_standAt (wpAny_bind (wpAny_mono (turn n s hI) (fun r s₁ h₁=>?_) fun _ _ h'=>h')))
 cases r with
 | none=>exact wpAny_pure h₁
 | some v =>
  refine wpAny_bind (wpAny_mono h₁ (fun _ s₁ h₁=>?_) fun _ _ h'=>h')
  refine wpAny_bind (wpAny_mono h₁ (fun _ s₂ h₂=>wpAny_bind (wpAny_mono h₂ (fun ok s₃ h₃=>?_) fun _ _ h'=>h')) fun _ _ h'=>h')
  cases ok with
  | false=>exact wpAny_pure ⟨rfl,h₃⟩
  | true =>
   exact wpAny_bind (wpAny_bind (wpAny_mono h₃ (fun x s₄ h₄=>wpAny_bind (wpAny_mono h₄ (fun _ s₅ h₅=>wpAny_pure (wpAny_pure ⟨rfl,h₅⟩)) fun _ _ h'=>h')) fun _ _ h'=>h'))
end
end L2

namespace L2
open PySem PySem.Spec PyProof.Rows
structure TurnX (G:Cx→Prop) (P:Program) (w:World) (K:PySem.W.Frag) (tg:Expr) (J:It) (fp:List Addr) (it:Addr) (tn:Nat→Heap→Prop):Prop where
 obj:∀ i h,tn i h→∀ b∈fp,∃ o,h.get? b=some o∧∀ v,o.data≠.cell v
 keep:∀ i h h',tn i h→(∀ b∈fp,∀ o,h.get? b=some o→h'.get? b=some o)→tn i h'
 item:∀ (X:Cx),X.prog=P→X.w=w→X.K=K→G X→∀ (i:Nat) (pins:List (Addr × Obj)) (s:Shared) (σ:St) (H:Hp) (E:Value→Shared→Prop),Inv X pins σ H s→(∀ b∈fp,FpOk X pins H b)→tn i s.heap→J.go i H →
  wpAny (model P w) X.A (pyNext (.ref it)) (fun r s1=>∃ u,r=some u ∧
   wpAny (model P w) X.A (letOwnedTupleGo tg (.ref it) u) (fun _ s2=>∃ x H',Inv X pins σ H' s2∧RelV x u∧J.yld i H x H'∧tn (i + 1) s2.heap∧∀ b∈fp,H' b=none) E s1) E s
 done:∀ (X:Cx),X.prog=P→X.w=w→X.K=K→G X→∀ (i:Nat) (pins:List (Addr × Obj)) (s:Shared) (σ:St) (H:Hp) (E:Value→Shared→Prop),Inv X pins σ H s→(∀ b∈fp,FpOk X pins H b)→tn i s.heap→J.stop i H →
  wpAny (model P w) X.A (pyNext (.ref it)) (fun r s1=>r=none∧Inv X pins σ H s1) E s
 self:∀ (A:Around) (i:Nat) (s:Shared) (Q:Value→Shared→Prop) (E:Value→Shared→Prop),tn i s.heap→Q (.ref it) s→wpAny (model P w) A (pyIter (.ref it)) Q E s
theorem Turn.x {P:Program}{w:World}{K:PySem.W.Frag}{tg:Expr}{J:It}{fp:List Addr}{it:Addr}{tn:Nat→Heap→Prop} (T:Turn P w K tg J fp it tn):TurnX (fun X=>X.calm=true) P w K tg J fp it tn:=⟨T.obj,T.keep,T.item,T.done,T.self⟩
section
variable {X:Cx}{sc:Scope}{own:List Str}{fr:List Nat}{N':List Str}{tg elt iter:Expr}{ifs:List Expr}{g:TG}{tt:TT}{te:TE}{wi:TI}{pos:Pos}
theorem zagf {G:Cx→Prop}{pins:List (Addr × Obj)}{σ:St}{H:Hp}{s2:Shared}{it:Addr}{fp:List Addr}{tn:Nat→Heap→Prop}{J:It}{QQ:List V→Hp→Prop}{cl:List (Str × Addr)}{RR:Value→Addr→Result→Shared→Prop}{E:Value→Shared→Prop}
  (I2:Inv X pins σ H s2) (hc:∀ cl C s H fp,G (cxC X sc cl N' C s H fp)) (T:TurnX G X.prog X.w X.K tg J fp it tn) (st:tn 0 s2.heap) (f2:∀ b∈fp,FpOk X pins H b) (cs:CompOk sc X.env.scope own X.N fr N')
  (h1:∀ x c,cl.lookup x=some c→X.env.cells.lookup x=some c) (h2:∀ y∈sc.names,y.2=.free→∃ c,cl.lookup y.1=some c)
  (hg:∀ cl C s H fp,PG (cxC X sc cl N' C s H fp) tg g) (hif:∀ cl C s H fp,PIf (cxC X sc cl N' C s H fp) ifs tt) (he:∀ cl C s H fp,PE (cxC X sc cl N' C s H fp) elt te)
  (KK:Comp J g tt te QQ (cst own.length fr σ) H)
  (hRR:∀ D C m H' ys s',s2.heap.objs.size≤C→s'.heap.Ns C m→H' D=none→(upd H' D (.lst ys)) C=none→QQ ys H'→Inv X pins σ (upd H' D (.lst ys)) s'→RR (.ref D) C (.ok .next) s') :
  wpAny (model X.prog X.w) X.A (newList []) (fun acc s₃=>wpAny (model X.prog X.w) X.A (newFunctionEnv sc X.env.globals cl [] X.env.qual none .none (some X.env)) (fun cenv s₄ =>
   codeAny (model X.prog X.w) X.A (.compStart (.ListComp elt [⟨tg,iter,ifs,0⟩] sc pos) 0 (.ref it) acc { cenv with scope:=relabel sc X.env }) (RR acc cenv.locals) s₄) E s₃) E s2:=by
 refine wpAny_newObj_type (wpAny_newFunctionEnv cs.nocell (by intro y hy; simp at hy) (fun h₁ hns₁ hsb₁=>?_) cs.kind)
 dsimp only at hns₁ hsb₁ ⊢
 generalize hH2:s2.heap.push { cls:=.type "list",dict:=none,data:=.seq ([]:List Value).toArray }=H2 at hns₁ hsb₁ ⊢
 have hC:H2.objs.size=s2.heap.objs.size + 1:=by rw [← hH2,Heap.size_push]
 have hDC:s2.heap.objs.size≠H2.objs.size:=by rw [hC]; exact Nat.ne_of_lt (Nat.lt_succ_self _)
 have hCle:s2.heap.objs.size≤H2.objs.size:=by rw [hC]; exact Nat.le_succ _
 have below:∀ b,b < s2.heap.objs.size→b≠H2.objs.size∧b≠s2.heap.objs.size:=fun b hb=>⟨by rw [hC]; exact Nat.ne_of_lt (Nat.lt_succ_of_lt hb),Nat.ne_of_lt hb⟩
 have old:∀ b o,s2.heap.get? b=some o→h₁.get? b=some o:=fun b o e=>hsb₁.extBut b o (below b (Heap.lt_size e)).1 (Heap.get?_push_of_some _ (hH2 ▸ Heap.get?_push_of_some _ e))
 have hacc:h₁.get? s2.heap.objs.size=some { cls:=.type "list",data:=.seq ([]:List Value).toArray 0 }:=hsb₁.extBut _ _ hDC (Heap.get?_push_of_some _ (hH2 ▸ Heap.get?_push_size _ rfl))
 have fpo:∀ b∈fp,FpOk X pins H b∧∃ o,s2.heap.get? b=some o:=fun b hb=>⟨f2 b hb,let ⟨o,e,_⟩:=T.obj 0 _ st b hb; ⟨o,e⟩⟩
 have st1:tn 0 h₁:=T.keep _ _ _ st fun b hb o e=>old b o e
 have hns:h₁.Ns H2.objs.size fun _=>none:=by simpa using hns₁
 obtain ⟨W,⟨m0,w0⟩,turn⟩:=KK.ex
 have loop:∀ s₃:Shared,s₃={ s2 with heap:=h₁,toks:=s2.toks + ([]:List (Str × Value)).length } →
   codeAny (model X.prog X.w) X.A (.compLoop (.ListComp elt [⟨tg,iter,ifs,0⟩] sc pos) 0 (.ref it) (.ref s2.heap.objs.size) (compEnvC sc cl H2.objs.size X.env)) (RR (.ref s2.heap.objs.size) H2.objs.size) s₃:=by
  rintro s₃ rfl
  have J0:Inv (cxC X sc cl N' H2.objs.size s2 H fp) [(s2.heap.objs.size,{ cls:=.type "list",data:=.seq ([]:List Value).toArray 0 })] (cst own.length fr σ) H { s2 with heap:=h₁,toks:=s2.toks + ([]:List (Str × Value)).length } :=
   zais I2 cs h1 h2 fpo hCle (Nat.le_refl _) hDC old hns hacc (fun v z=>by cases z)
  have stat:∀ {pl:List (Addr × Obj)}{H':Hp},(∀ p∈pl,p.1=s2.heap.objs.size)→(∀ b∈fp,H' b=none)→∀ b∈fp,FpOk (cxC X sc cl N' H2.objs.size s2 H fp) pl H' b:=fun {pl H'} hpl hn b hb=>by
   obtain ⟨f,ob,e⟩:=fpo b hb
   refine ⟨hn b hb,(below b (Heap.lt_size e)).1,fun z=>?_,.inl hb,fun x c ec=>f.2.2.2.2.1 x c (h1 x c ec),fun p hp=>?_⟩
   ·have z':b∈frs X.stack:=z
    rcases List.mem_cons.mp (I2.stkSub b z') with q | q
    ·exact f.2.1 q
    ·exact f.2.2.1 q
   ·have hp':p∈pl:=hp
    rw [hpl p hp']
    exact Ne.symm (below b (Heap.lt_size e)).2
  have one:∀ (o:Obj),∀ p∈[(s2.heap.objs.size,o)],p.1=s2.heap.objs.size:=fun o p hp=>by
   have:p=(s2.heap.objs.size,o):=by simpa using hp
   rw [this]
  refine zahz (env:=compEnvC sc cl H2.objs.size X.env) (fun n s'=>∃ i ys its k σ' H',Inv (cxC X sc cl N' H2.objs.size s2 H fp) [(s2.heap.objs.size,{ cls:=.type "list",data:=.seq (its:List Value).toArray k })] σ' H' s'∧tn i s'.heap∧(∀ b∈fp,H' b=none)∧Vals ys its∧W i n ys σ' H')
   ?_ m0 ⟨0,[],[],0,_,H,J0,st1,fun b hb=>(f2 b hb).1,.nil,w0⟩
  rintro n s3 ⟨i,ys,its,k,σ3,H3,I3,st3,fr3,rv,w3⟩
  obtain ⟨hlen,alt⟩:=turn i n ys σ3 H3 w3
  rcases alt with ⟨stop,qn⟩ | ⟨go,N,hN,step⟩
  ·refine wpAny_mono (T.done (cxC X sc cl N' H2.objs.size s2 H fp) rfl rfl rfl (hc _ _ _ _ _) i _ s3 σ3 H3 (fun _ _=>False) I3 (stat (one _) fr3) st3 stop) (fun r s4 ⟨hr,I4⟩=>?_) fun _ _ z=>z
   subst hr
   obtain ⟨m,hm,_⟩:=I4.loc
   have hDn:H3 s2.heap.objs.size=none:=(I4.pin (s2.heap.objs.size,{ cls:=.type "list",data:=.seq its.toArray k }) (List.mem_append_right _ List.mem_cons_self)).2.1
   exact hRR _ _ m H3 ys s4 hCle hm hDn (by rw [zabq (Ne.symm hDC)]; exact I4.free) qn (zama I2 fpo (Nat.le_refl _) I4 rv (Nat.le_of_lt hlen))
  ·refine wpAny_mono (T.item (cxC X sc cl N' H2.objs.size s2 H fp) rfl rfl rfl (hc _ _ _ _ _) i _ s3 σ3 H3 (fun _ _=>False) I3 (stat (one _) fr3) st3 go) (fun r s4 ⟨u,hr,h4⟩=>?_) fun _ _ z=>z
   subst hr
   refine wpAny_mono h4 (fun _ s5 ⟨x,H5,I5,r5,y5,st5,fr5⟩=>?_) fun _ _ z=>z
   have I5':=I5.pinned (stat (one _) fr5) (T.obj _ _ st5)
   refine wpAny_mono (hg cl H2.objs.size s2 H fp _ s5 σ3 H5 x u _ I5' r5 (step x H5 y5)) (fun _ s6 ⟨σ6,H6,I6,q6⟩=>?_) fun _ _ z=>z
   refine wpAny_mono (hif cl H2.objs.size s2 H fp _ s6 σ6 H6 _ I6 q6) (fun b s7 ⟨H7,I7,q7⟩=>?_) fun _ _ z=>z
   have fps:∀ {σ8:St}{H8:Hp}{s8:Shared},Inv (cxC X sc cl N' H2.objs.size s2 H fp) ([(s2.heap.objs.size,{ cls:=.type "list",data:=.seq its.toArray k })]++pinsAt fp s5.heap) σ8 H8 s8 →
     tn (i + 1) s8.heap∧∀ b∈fp,H8 b=none:=fun {σ8 H8 s8} I8=>by
    refine ⟨T.keep _ _ _ st5 fun b hb o e=>(I8.pin (b,o) (List.mem_append_right _ (List.mem_append_right _ (zad2 hb e)))).1,fun b hb=>?_⟩
    obtain ⟨o,e,d⟩:=T.obj _ _ st5 b hb
    exact (I8.pin (b,o) (List.mem_append_right _ (List.mem_append_right _ (zad2 hb e)))).2.1
   cases b with
   | false =>
    obtain ⟨m',hm,w7⟩:=hN ys σ6 H7 q7
    exact ⟨m',hm,i + 1,ys,its,k,σ6,H7,I7.unpinned,(fps I7).1,(fps I7).2,rv,w7⟩
   | true =>
    have q7':te σ6 H7 fun y H4=>N (ys++[y]) σ6 H4:=q7
    refine wpAny_mono (he cl H2.objs.size s2 H fp _ s7 σ6 H7 _ I7 q7') (fun uy s8 ⟨y,H8,I8,r8,n8⟩=>?_) fun _ _ z=>z
    obtain ⟨m',hm,w8⟩:=hN _ _ _ n8
    obtain ⟨hDo,hDn,hDL,hDf,_⟩:=I8.pin (s2.heap.objs.size,{ cls:=.type "list",data:=.seq its.toArray k }) (List.mem_append_right _ (List.mem_append_left _ List.mem_cons_self))
    have hys:its.toArray.size≤sizeLine:=by rw [List.size_toArray,← rv.length]; exact Nat.le_of_lt hlen
    refine wpAny_list_append_plain (hsz:=hys) (⟨k,hDo⟩:s8.heap.PlainList s2.heap.objs.size its.toArray) fun h9 ⟨k',hl9⟩ hs9=>?_
    have hDp:∀ p∈(cxC X sc cl N' H2.objs.size s2 H fp).pn++pinsAt fp s5.heap,p.1≠s2.heap.objs.size:=fun p hp=>by
     have hp':p∈pinsAt fp s5.heap:=by
      have hp2:p∈([]:List (Addr × Obj))++pinsAt fp s5.heap:=hp
      simpa using hp2
     obtain ⟨hb,_⟩:=zahm hp'
     obtain ⟨_,ob,e⟩:=fpo p.1 hb
     exact (below p.1 (Heap.lt_size e)).2
    have I8':Inv (cxC X sc cl N' H2.objs.size s2 H fp) (pinsAt fp s5.heap) σ6 H8 s8:=I8.pins_of fun p hp=>I8.pin p (List.mem_append_right _ (List.mem_append_right _ hp))
    have I9:Inv (cxC X sc cl N' H2.objs.size s2 H fp) (pinsAt fp s5.heap) σ6 H8 { s8 with heap:=h9 }:=I8'.turned (t':=s8.toks) (it:=s2.heap.objs.size) (fun b o hb e=>(hs9.2 b hb).trans e) hDn hDL (.inr (Nat.le_refl _))
     (fun x c e z=>by
      obtain ⟨v,q⟩:=I2.cell x c (h1 x c e)
      have:=q.lt
      rw [z] at this
      exact absurd this (Nat.lt_irrefl _)) hDp
    have key:=fps I8
    refine ⟨m',hm,i + 1,ys++[y],its++[uy],k',σ6,H8,I9.pins_of fun p hp=>?_,T.keep _ _ _ key.1 fun b hb o e=>?_,key.2,rv.append (.cons r8 .nil),w8⟩
    ·have e:p=(s2.heap.objs.size,{ cls:=.type "list",data:=.seq (its++[uy]).toArray k' }):=by simpa using hp
     subst e
     refine ⟨?_,hDn,hDL,hDf,fun v z=>by cases z⟩
     have:(its++[uy]).toArray=its.toArray.push uy:=by simp
     rw [this]; exact hl9
    ·obtain ⟨_,ob,e2⟩:=fpo b hb
     exact (hs9.2 b (below b (Heap.lt_size e2)).2).trans e
 exact codeAny_compStart_list (loop _ rfl) (wpAny_mono (T.self X.A 0 _ (fun it' s'=>it'=.ref it∧s'={ s2 with heap:=h₁,toks:=s2.toks + ([]:List (Str × Value)).length }) _ st1 ⟨rfl,rfl⟩) (fun it' s' ⟨e1,e2⟩=>by subst e1 e2; exact loop _ rfl) fun _ _ z=>z)
def tComp (n:Nat) (fr:List Nat) (wi:TI) (g:TG) (tt:TT) (te:TE):TE:=fun σ H Q=>wi σ H fun J H1=>Comp J g tt te (fun ys H2=>∀ D,H2 D=none→Q (.ref D) (upd H2 D (.lst ys))) (cst n fr σ) H1
theorem zaq9 (hc:X.calm=true) (cs:CompOk sc X.env.scope own X.N fr N') (hi:PI X tg iter wi) (hg:∀ cl C s H fp,PG (cxC X sc cl N' C s H fp) tg g) (hif:∀ cl C s H fp,PIf (cxC X sc cl N' C s H fp) ifs tt)
  (he:∀ cl C s H fp,PE (cxC X sc cl N' C s H fp) elt te) (hs:∀ x,foldedSetIterable iter X.env x=pure x:=by intro _; rfl):PE X (.ListComp elt [⟨tg,iter,ifs,0⟩] sc pos) (tComp own.length fr wi g tt te):=by
 intro pins s σ H Q I h
 obtain ⟨cl,ecl,h1,h2⟩:=zafy (env:=X.env) (sc:=sc) fun y hy hf=>I.ok.has y.1 (cs.fre y hy hf)
 rw [eval_ListComp]
 refine wpAny_comprehension_free (use:=none) rfl hs ecl cs.kind cs.loc (thn (hi pins s σ H _ I h) fun v s1 q1=>thn q1 fun itv s2 q2=>?_)
 obtain ⟨it,fp,tn,J,H2,rfl,I2,T,st,f2,KK⟩:=q2
 refine zagf (RR:=fun acc C=>compPost (model X.prog X.w) X.A X.xe none (EP X pins σ Q) acc C) I2 (fun _ _ _ _ _=>hc) T.x st f2 cs h1 h2 hg hif he KK fun D C m H' ys s' hC hn hD hCn hq I'=>?_
 refine ⟨m,hn,fun h' hs'=>⟨.ref D,upd H' D (.lst ys),?_,rfl,hq D hD⟩⟩
 obtain ⟨f0,f1,f2,f3,f4,f5⟩:=I2.fpOk hC hCn
 exact I'.turned (t':=s'.toks) (it:=C) (fun b o hb e=>(hs'.2 b hb).trans e) f0 (Ne.symm (Ne.symm f1)) f3 f4 f5
def tSetC (i n:Nat) (fr:List Nat) (wi:TI) (g:TG) (tt:TT) (te:TE):TS:=fun D σ H=>wi σ H fun J H1=>Comp J g tt te (fun ys H2=>∀ p,H2 p=none→D.nx (σ.set i (some (.ref p))) (upd H2 p (.lst ys))) (cst n fr σ) H1
theorem zara {i:Nat}{y:Str}{py spos:Pos} (hN:X.N.Nodup) (hy:X.N[i]?=some y) (hx:Loc X.env.scope y) (hc:X.calm=true) (cs:CompOk sc X.env.scope own X.N fr N') (hi:PI X tg iter wi)
  (hg:∀ cl C s H fp,PG (cxC X sc cl N' C s H fp) tg g) (hif:∀ cl C s H fp,PIf (cxC X sc cl N' C s H fp) ifs tt) (he:∀ cl C s H fp,PE (cxC X sc cl N' C s H fp) elt te)
  (hsw:swapsWith (.ListComp elt [⟨tg,iter,ifs,0⟩] sc pos) (some (.Name y py)) spos.line X.env=pure true) (hfn:X.fn y=true∨X.env.scope.names.lookup y=some .local:=by first | exact .inl rfl | exact .inr rfl | assumption) (hs:∀ x,foldedSetIterable iter X.env x=pure x:=by intro _; rfl) :
  PS X (.Assign [.Name y py] (.ListComp elt [⟨tg,iter,ifs,0⟩] sc pos) spos) (tSetC i own.length fr wi g tt te):=by
 intro pins s σ H D I h
 obtain ⟨cl,ecl,h1,h2⟩:=zafy (env:=X.env) (sc:=sc) fun y hy hf=>I.ok.has y.1 (cs.fre y hy hf)
 rw [exec_Assign_Name_used _ _ _ _ hsw]
 refine wpAny_bind (wpAny_standAt (wpAny_bind ?_))
 show wpAny _ X.A (do let _ ← comprehension (.ListComp elt [⟨tg,iter,ifs,0⟩] sc pos) sc X.env _ (newList []) false (eval iter X.env) (some (assign (.Name y py) X.env))) _ _ s
 refine wpAny_bind (wpAny_mono (wpAny_comprehension_free (use:=some (assign (.Name y py) X.env)) (Q:=fun _ s'=>∃ σ' H',Inv X pins σ' H' s'∧D.nx σ' H') rfl hs ecl cs.kind cs.loc (thn (hi pins s σ H _ I h) fun v s1 q1=>thn q1 fun itv s2 q2=>?_))
  (fun _ s' hq=>wpAny_pure (wpAny_pure hq)) fun _ _ e=>e)
 obtain ⟨it,fp,tn,J,H2,rfl,I2,T,st,f2,KK⟩:=q2
 refine zagf (RR:=fun acc C=>compPost (model X.prog X.w) X.A X.xe (some (assign (.Name y py) X.env)) (fun _ s'=>∃ σ' H',Inv X pins σ' H' s'∧D.nx σ' H') acc C) I2 (fun _ _ _ _ _=>hc) T.x st f2 cs h1 h2 hg hif he KK fun p C m H' ys s' hC hn hD hCn hq I'=>?_
 obtain ⟨f0,f1,f2,f3,f4,f5⟩:=I2.fpOk hC hCn
 show wpAny _ X.A (assign (.Name y py) X.env (.ref p)) _ _ _
 refine wpAny_assign_Name (zahl (v:=.ref p) I' hN hy hx rfl (fun s'' I'' ⟨a,hsa,ha⟩=>?_) hfn)
 have hCa:C≠a:=by
  rcases ha with z | z
  ·rw [z]; exact f1
  ·exact Ne.symm (f4 y a z)
 refine ⟨m,hn.sameBut hsa hCa,fun h' hs'=>⟨_,_,?_,hq p hD⟩⟩
 exact I''.turned (t':=s''.toks) (it:=C) (fun b o hb e=>(hs'.2 b hb).trans e) f0 f1 f3 f4 f5
end
theorem zafz {J:It}{g:TG}{tt:TT}{te:TE}{Q:List V→Hp→Prop}{σ:St}{H:Hp} (n:Nat) (Pv:Nat→List V→St→Hp→Prop) (h0:Pv 0 [] σ H) (hl:∀ i ys σ H,i≤n→Pv i ys σ H→ys.length < sizeLine)
  (go:∀ i ys σ H,i < n→Pv i ys σ H→J.go i H) (stop:∀ ys σ H,Pv n ys σ H→J.stop n H)
  (turn:∀ i ys σ H,i < n→Pv i ys σ H→∀ x H',J.yld i H x H'→g x σ H' fun σ2 H2=>tt σ2 H2 fun b H3=>if b=true then te σ2 H3 fun y H4=>Pv (i + 1) (ys++[y]) σ2 H4 else Pv (i + 1) ys σ2 H3)
  (after:∀ ys σ H,Pv n ys σ H→Q ys H):Comp J g tt te Q σ H:=by
 refine ⟨fun i m ys σ H=>i≤n∧m=n - i∧Pv i ys σ H,⟨n,Nat.zero_le _,rfl,h0⟩,fun i m ys σ H ⟨hi,hm,p⟩=>⟨hl i ys σ H hi p,?_⟩⟩
 rcases Nat.lt_or_ge i n with h | h
 ·exact .inr ⟨go i ys σ H h p,Pv (i + 1),fun ys' σ' H' q=>⟨n - (i + 1),by omega,h,rfl,q⟩,turn i ys σ H h p⟩
 ·have e:i=n:=Nat.le_antisymm hi h
  subst e
  exact .inl ⟨stop ys σ H p,after ys σ H p⟩
theorem zagg {lo:Int}{n:Nat}{g:TG}{tt:TT}{te:TE}{Q:List V→Hp→Prop}{σ:St}{H:Hp} (Pv:Nat→List V→St→Hp→Prop) (hn:n < sizeLine) (h0:Pv 0 [] σ H) (hl:∀ i ys σ H,i≤n→Pv i ys σ H→ys.length≤i)
  (turn:∀ i ys σ H,i < n→Pv i ys σ H→g (.int (lo + i)) σ H fun σ2 H2=>tt σ2 H2 fun b H3=>if b=true then te σ2 H3 fun y H4=>Pv (i + 1) (ys++[y]) σ2 H4 else Pv (i + 1) ys σ2 H3)
  (after:∀ ys σ H,Pv n ys σ H→Q ys H):Comp (Itr lo n) g tt te Q σ H :=
 zafz n Pv h0 (fun i ys σ H hi p=>Nat.lt_of_le_of_lt (Nat.le_trans (hl i ys σ H hi p) hi) hn) (fun i _ _ _ hi _=>hi) (fun _ _ _ _=>Nat.le_refl _) (fun i ys σ H hi p x H' y=>by obtain ⟨rfl,rfl⟩:=y; exact turn i ys σ _ hi p) after
theorem zac4 {K:PySem.W.Frag}{a:Addr} (xs:List V) {g:TG}{tt:TT}{te:TE}{Q:List V→Hp→Prop}{σ:St}{H:Hp} (Pv:Nat→List V→St→Hp→Prop) (hn:xs.length < sizeLine) (h0:Pv 0 [] σ H) (hl:∀ i ys σ H,i≤xs.length→Pv i ys σ H→ys.length≤i∧SqL K H a xs)
  (turn:∀ i ys σ H x,xs[i]?=some x→Pv i ys σ H→g x σ H fun σ2 H2=>tt σ2 H2 fun b H3=>if b=true then te σ2 H3 fun y H4=>Pv (i + 1) (ys++[y]) σ2 H4 else Pv (i + 1) ys σ2 H3)
  (after:∀ ys σ H,Pv xs.length ys σ H→Q ys H):Comp (Itl K a) g tt te Q σ H :=
 zafz xs.length Pv h0 (fun i ys σ H hi p=>Nat.lt_of_le_of_lt (Nat.le_trans (hl i ys σ H hi p).1 hi) hn) (fun i ys σ H hi p=>⟨xs,xs[i],(hl i ys σ H (Nat.le_of_lt hi) p).2,List.getElem?_eq_getElem hi⟩)
  (fun ys σ H p=>⟨xs,(hl _ ys σ H (Nat.le_refl _) p).2,Nat.le_refl _⟩) (fun i ys σ H hi p x H' y=>by obtain ⟨rfl,y⟩:=y; exact turn i ys σ _ x (y xs (hl i ys σ _ (Nat.le_of_lt hi) p).2) p) after
theorem zaef {K:PySem.W.Frag}{a:Addr} (xs:List V) {g:TG}{tt:TT}{te:TE}{Q:List V→Hp→Prop}{σ:St}{H:Hp} (Pv:Nat→List V→St→Hp→Prop) (hn:xs.length < sizeLine) (h0:Pv 0 [] σ H) (hl:∀ i ys σ H,i≤xs.length→Pv i ys σ H→ys.length≤i∧SqT K H a xs)
  (turn:∀ i ys σ H x,xs[i]?=some x→Pv i ys σ H→g x σ H fun σ2 H2=>tt σ2 H2 fun b H3=>if b=true then te σ2 H3 fun y H4=>Pv (i + 1) (ys++[y]) σ2 H4 else Pv (i + 1) ys σ2 H3)
  (after:∀ ys σ H,Pv xs.length ys σ H→Q ys H):Comp (Itt K a) g tt te Q σ H :=
 zafz xs.length Pv h0 (fun i ys σ H hi p=>Nat.lt_of_le_of_lt (Nat.le_trans (hl i ys σ H hi p).1 hi) hn) (fun i ys σ H hi p=>⟨xs,xs[i],(hl i ys σ H (Nat.le_of_lt hi) p).2,List.getElem?_eq_getElem hi⟩)
  (fun ys σ H p=>⟨xs,(hl _ ys σ H (Nat.le_refl _) p).2,Nat.le_refl _⟩) (fun i ys σ H hi p x H' y=>by obtain ⟨rfl,y⟩:=y; exact turn i ys σ _ x (y xs (hl i ys σ _ (Nat.le_of_lt hi) p).2) p) after
end L2

namespace L2
open PySem PySem.Spec PyProof.Rows
open AutoSeq1 (wpAny_loadPart') in
set_option maxHeartbeats 4000000 in
theorem zaf0 (k:SK) (l:Addr) (xs:Array Value) :
  Meets (Builtin.«enumerate.__new__» ⟨[.type "enumerate",.ref l],[]⟩) (fun _ R s=>SIs k s.heap l xs ∧
   R (.ok (.ret (.ref (s.heap.push (itObj k l)).objs.size))) { s with heap:=(s.heap.push (itObj k l)).push { cls:=.type "enumerate",data:=.fields #[.none,.bool false,.ref s.heap.objs.size,rawInt 0,.none,.none] } }):=by
 cases k with
 | list =>
  exact .of_wp fun prog w A R s h=>by
   obtain ⟨hp,g,d,tk,os⟩:=s; obtain ⟨hL,h⟩:=h
   have hsub:=sub_enumerate
   have hL:Heap.IsList (Shared.heap ⟨hp,g,d,tk,os⟩) l xs:=hL
   obtain ⟨ol,hl,hlc,nl,hld⟩:=id hL
   wp_walk using wpAny_loadPart' hl
   refine wpAny_stack_any fun st=>wpAny_pure ?_
   split
   ·rename_i c _ _ _ _ _
    cases (c == Value.type "enumerate")
    ·wp_walk using wpAny_loadPart' hl,wpAny_pyIter_list hL
     exact ⟨_,rfl,h⟩
    ·wp_walk using wpAny_loadPart' hl,wpAny_pyIter_list hL
     exact ⟨_,rfl,h⟩
   ·wp_walk using wpAny_loadPart' hl,wpAny_pyIter_list hL
    exact ⟨_,rfl,h⟩
 | tuple =>
  exact .of_wp fun prog w A R s h=>by
   obtain ⟨hp,g,d,tk,os⟩:=s; obtain ⟨hL,h⟩:=h
   have hsub:=sub_enumerate
   have hL:Heap.IsTuple (Shared.heap ⟨hp,g,d,tk,os⟩) l xs:=hL
   obtain ⟨ol,hl,hlc,nl,hld⟩:=id hL
   wp_walk using wpAny_loadPart' hl
   refine wpAny_stack_any fun st=>wpAny_pure ?_
   split
   ·rename_i c _ _ _ _ _
    cases (c == Value.type "enumerate")
    ·wp_walk using wpAny_loadPart' hl,wpAny_pyIter_tuple hL
     exact ⟨_,rfl,h⟩
    ·wp_walk using wpAny_loadPart' hl,wpAny_pyIter_tuple hL
     exact ⟨_,rfl,h⟩
   ·wp_walk using wpAny_loadPart' hl,wpAny_pyIter_tuple hL
    exact ⟨_,rfl,h⟩
section
variable {prog:Program}{w:World}{A:Around}{E:Value→Shared→Prop}{s:Shared}
theorem zakz {k:SK}{l:Addr}{xs:Array Value}{Q:Value→Shared→Prop} (hL:SIs k s.heap l xs)
  (h:∀ h',IsEnum h' (s.heap.objs.size + 1) s.heap.objs.size 0 .none→SIt k h' s.heap.objs.size l 0→(∀ b o,s.heap.get? b=some o→h'.get? b=some o)→Q (.ref (s.heap.objs.size + 1)) { s with heap:=h' }) :
  wpAny (model prog w) A (call (.type "enumerate") [.ref l]) Q E s:=by
 refine callType_new F.called_enumerate (by decide) (F.typeCall_enumerate_1 _) (F.newCall_enumerate_1 _) (fun obj=>F.args_object_init_2 obj _) F.entry_enumerate_new (zaf0 k l xs) ⟨hL,?_⟩
 have hz:(s.heap.push (itObj k l)).objs.size=s.heap.objs.size + 1:=Heap.size_push ..
 have r1:(itObj k l).isFreed=false:=by cases k <;> rfl
 have he:=Heap.get?_push_size (s.heap.push (itObj k l)) (o:={ cls:=.type "enumerate",data:=.fields #[.none,.bool false,.ref s.heap.objs.size,rawInt 0,.none,.none] }) rfl
 rw [hz] at he
 show _∧_
 rw [hz]
 exact ⟨⟨_,he,rfl⟩,h _ he (zagr (Heap.get?_push_of_some _ (Heap.get?_push_size _ r1))) fun b o x=>Heap.get?_push_of_some _ (Heap.get?_push_of_some _ x)⟩
theorem zak0 {k:SK}{e it l:Addr}{i:Nat}{items:Array Value}{x old:Value}{Q:Value→Shared→Prop}
  (he:IsEnum s.heap e it i old) (hit:SIt k s.heap it l i) (hl:SIs k s.heap l items) (hx:items[i]?=some x) (hne:e≠it)
  (hQ:∀ h',IsEnumOut h' e it ((i:Int) + 1) x s.heap.objs.size→SIt k h' it l (i + 1) →
   h'.get? s.heap.objs.size=some { cls:=.type "tuple",data:=.seq #[.int i s.toks,x] }→h'.objs.size=s.heap.objs.size + 1 →
   (∀ b o,b≠e→b≠it→s.heap.get? b=some o→h'.get? b=some o)→Q (.ref s.heap.objs.size) { s with heap:=h',toks:=s.toks + 1 }) :
  wpAny (model prog w) A (Builtin.«enumerate.__next__» ⟨[.ref e],[]⟩) (fun fin s'=>∃ v,fin=.done (.ret v)∧Q v s') E s:=by
 obtain ⟨hp,g,d,tk,os⟩:=s
 show wpAny _ _ (field (.ref e) 2 >>= _) _ _ _
 refine wpAny_bind (wpAny_field he rfl (x:=.ref it) rfl ?_)
 refine wpAny_bind (zadp hit hl hx fun h₁ hit₁ hs₁=>?_)
 replace hs₁:Heap.SameBut it hp h₁:=hs₁
 have he₁:IsEnum h₁ e it i old:=(hs₁.2 e hne).trans he
 show wpAny _ _ (field (.ref e) 3 >>= _) _ _ ⟨h₁,g,d,tk,os⟩
 refine wpAny_bind (wpAny_field he₁ rfl (x:=rawInt i) rfl ?_)
 show wpAny _ _ (field (.ref e) 4 >>= _) _ _ ⟨h₁,g,d,tk,os⟩
 refine wpAny_bind (wpAny_field he₁ rfl (x:=.none) rfl ?_)
 show wpAny _ _ (mkInt i >>= _) _ _ ⟨h₁,g,d,tk,os⟩
 refine wpAny_bind (wpAny_mkInt ?_)
 show wpAny _ _ (setField (.ref e) 3 (rawInt ((i:Int) + 1)) >>= _) _ _ ⟨h₁,g,d,tk + 1,os⟩
 refine wpAny_bind (wpAny_setField_rec he₁ (by simp) fun h₂ he₂ hs₂=>?_)
 replace hs₂:Heap.SameBut e h₁ h₂:=hs₂
 replace he₂:IsEnum h₂ e it ((i:Int) + 1) old:=he₂
 show wpAny _ _ (setField (.ref e) 4 .none >>= _) _ _ ⟨h₂,g,d,tk + 1,os⟩
 refine wpAny_bind (wpAny_setField_rec he₂ (by simp) fun h₃ he₃ hs₃=>?_)
 replace hs₃:Heap.SameBut e h₂ h₃:=hs₃
 replace he₃:IsEnum h₃ e it ((i:Int) + 1) old:=he₃
 show wpAny _ _ (newTuple [.int i tk,x] >>= _) _ _ ⟨h₃,g,d,tk + 1,os⟩
 refine wpAny_bind (wpAny_newTuple ?_)
 have he₄:IsEnum (h₃.push { cls:=.type "tuple",data:=.seq #[.int i tk,x] }) e it ((i:Int) + 1) old:=Heap.get?_push_of_some _ he₃
 generalize hh₄:h₃.push { cls:=.type "tuple",data:=.seq #[.int i tk,x] }=h₄ at he₄
 have hsz:h₃.objs.size=hp.objs.size:=by rw [hs₃.1,hs₂.1,hs₁.1]
 have hel:e < hp.objs.size:=Heap.lt_size he
 have ht₄:h₄.get? hp.objs.size=some { cls:=.type "tuple",data:=.seq #[.int i tk,x] }:=by rw [← hh₄,← hsz]; exact Heap.get?_push_size _ rfl
 have hz₄:h₄.objs.size=hp.objs.size + 1:=by rw [← hh₄,Heap.size_push,hsz]
 have hk₄:∀ b o,b≠e→b≠it→hp.get? b=some o→h₄.get? b=some o:=fun b o hbe hbi hb=>by
  rw [← hh₄]; exact Heap.get?_push_of_some _ (hs₃.extBut b o hbe (hs₂.extBut b o hbe (hs₁.extBut b o hbi hb)))
 have hit₄:SIt k h₄ it l (i + 1):=by
  rw [← hh₄]; exact ((hit₁.ext hs₂.extBut (Ne.symm hne)).ext hs₃.extBut (Ne.symm hne)).at fun o ho=>Heap.get?_push_of_some _ ho
 show wpAny _ _ (Builtin.SmallTypes.ownedTupleIsFree (.ref e) >>= _) _ _ ⟨h₄,g,d,tk + 1,os⟩
 rw [hsz]
 clear hh₄ he₃ hs₃ he₂ hs₂ he₁ hs₁ hit₁ hsz h₃ h₂ h₁
 refine wpAny_bind ?_
 ·unfold Builtin.SmallTypes.ownedTupleIsFree
  refine wpAny_bind (wpAny_field he₄ rfl (x:=.none) rfl (wpAny_pure ?_))
  simp only [if_true]
  refine wpAny_bind (wpAny_rule ?_)
  refine wpAny_bind (wpAny_field he₄ rfl (x:=old) rfl ?_)
  refine wpAny_bind (wpAny_setField_rec he₄ (by simp) fun h₅ he₅ hs₅=>?_)
  replace hs₅:Heap.SameBut e h₄ h₅:=hs₅
  replace he₅:IsEnum h₅ e it ((i:Int) + 1) x:=he₅
  show wpAny _ _ (Builtin.SmallTypes.ownedTupleHandOut (.ref e) (.ref hp.objs.size) >>= _) _ _ ⟨h₅,g,d,tk + 1,os⟩
  refine wpAny_bind ?_
  ·unfold Builtin.SmallTypes.ownedTupleHandOut
   refine wpAny_bind (wpAny_setField_rec he₅ (by simp) fun h₆ he₆ hs₆=>?_)
   replace hs₆:Heap.SameBut e h₅ h₆:=hs₆
   replace he₆:IsEnumOut h₆ e it ((i:Int) + 1) x hp.objs.size:=he₆
   refine wpAny_setField_rec he₆ (by simp) fun h₇ he₇ hs₇=>?_
   replace hs₇:Heap.SameBut e h₆ h₇:=hs₇
   replace he₇:IsEnumOut h₇ e it ((i:Int) + 1) x hp.objs.size:=he₇
   refine wpAny_bind (wpAny_letGo (wpAny_pure ⟨_,rfl,hQ h₇ he₇ ?_ ?_ ?_ ?_⟩))
   ·exact ((hit₄.ext hs₅.extBut (Ne.symm hne)).ext hs₆.extBut (Ne.symm hne)).ext hs₇.extBut (Ne.symm hne)
   ·exact hs₇.extBut _ _ (Nat.ne_of_gt hel) (hs₆.extBut _ _ (Nat.ne_of_gt hel) (hs₅.extBut _ _ (Nat.ne_of_gt hel) ht₄))
   ·rw [hs₇.1,hs₆.1,hs₅.1,hz₄]
   ·exact fun b o hbe hbi hb=>hs₇.extBut b o hbe (hs₆.extBut b o hbe (hs₅.extBut b o hbe (hk₄ b o hbe hbi hb)))
theorem zaes {k:SK}{e it l:Addr}{i:Nat}{items:Array Value}{x old:Value}{Q:Option Value→Shared→Prop}
  (he:IsEnum s.heap e it i old) (hit:SIt k s.heap it l i) (hl:SIs k s.heap l items) (hx:items[i]?=some x) (hne:e≠it)
  (hQ:∀ h',IsEnumOut h' e it ((i:Int) + 1) x s.heap.objs.size→SIt k h' it l (i + 1) →
   h'.get? s.heap.objs.size=some { cls:=.type "tuple",data:=.seq #[.int i s.toks,x] }→h'.objs.size=s.heap.objs.size + 1 →
   (∀ b o,b≠e→b≠it→s.heap.get? b=some o→h'.get? b=some o)→Q (some (.ref s.heap.objs.size)) { s with heap:=h',toks:=s.toks + 1 }) :
  wpAny (model prog w) A (pyNext (.ref e)) Q E s:=by
 have hT:s.TypeIs (.ref e) "enumerate" := ⟨_,he,rfl⟩
 unfold pyNext
 exact wpAny_bind (wpAny_attempt (wpAny_callSpecial?_slot (name:=Str.ofString "__next__") hT F.slot_enumerate_next
  (wpAny_call_entry F.slot_enumerate_next hT F.entry_enumerate_next
   (zak0 he hit hl hx hne fun h' a b c d k=>wpAny_pure (hQ h' a b c d k)) (F.args_enumerate_next_1 _))))
theorem zafd {k:SK}{e it l:Addr}{i:Nat}{items:Array Value}{old:Value}{Q:Option Value→Shared→Prop} (hh:A.handled=none)
  (he:IsEnum s.heap e it i old) (hit:SIt k s.heap it l i) (hl:SIs k s.heap l items) (hx:items[i]?=none)
  (hQ:∀ h',Heap.ExtBut it s.heap h'→Q none { s with heap:=h' }):wpAny (model prog w) A (pyNext (.ref e)) Q E s:=by
 have hT:s.TypeIs (.ref e) "enumerate" := ⟨_,he,rfl⟩
 unfold pyNext
 refine wpAny_bind (wpAny_attempt (wpAny_callSpecial?_slot (name:=Str.ofString "__next__") hT F.slot_enumerate_next
  (wpAny_call_entry F.slot_enumerate_next hT F.entry_enumerate_next ?_ (F.args_enumerate_next_1 _))))
 show wpAny _ _ (field (.ref e) 2 >>= _) _ _ _
 refine wpAny_bind (wpAny_field he rfl (x:=.ref it) rfl ?_)
 refine wpAny_bind (zaeq hh hit hl hx fun h' x he' hx'=>?_)
 obtain ⟨o,ho,hc⟩:=hx'
 refine wpAny_bind (wpAny_isInstance (T := "StopIteration") (b:=true) ⟨o,ho,hc⟩ isSubtype_stop ?_)
 exact wpAny_pure (hQ _ he')
end
def Itn (K:PySem.W.Frag) (k:SK) (a:Addr):It :=
 ⟨fun i H=>∃ xs x,Sq k K H a xs∧xs[i]?=some x,
  fun i H v H'=>∃ T,H T=none∧v=.ref T∧∀ xs,Sq k K H a xs→∃ x,xs[i]?=some x∧H'=upd H T (.tup [.int i,x]),
  fun i H=>∃ xs,Sq k K H a xs∧xs.length≤i⟩
theorem zamb {P:Program}{w:World}{K:PySem.W.Frag}{elts:List Expr}{kk:Nat}{tpos:Pos}{k:SK}{e it a:Addr} (hne:e≠it) :
  Turn P w K (.Tuple elts kk tpos) (Itn K k a) [e,it] e (fun i h=>(∃ old,IsEnum h e it i old)∧SIt k h it a i) where
 mem:=by simp
 obj:=fun i h st b hb=>by
  obtain ⟨⟨old,he⟩,h1⟩:=st
  simp only [List.mem_cons,List.not_mem_nil,or_false] at hb
  rcases hb with rfl | rfl
  ·exact ⟨_,he,fun v q=>nomatch q⟩
  ·exact h1.obj
 keep:=fun i h h' st k=>by
  obtain ⟨⟨old,he⟩,h1⟩:=st
  exact ⟨⟨old,k _ (by simp) _ he⟩,h1.at fun o e=>k _ (by simp) o e⟩
 item:=by
  intro X hP hw hK hc i pins s σ H E I hf st hg
  subst hP hw hK
  obtain ⟨⟨old,he⟩,h1⟩:=st
  obtain ⟨xs,x,q1,hx⟩:=hg
  obtain ⟨ix,rx,px⟩:=I.sis q1
  obtain ⟨u,hu,ru⟩:=rx.get hx
  refine zaes he h1 px (x:=u) (by simpa using hu) hne fun h' a1 a2 a3 a4 a5=>?_
  refine ⟨_,rfl,wpAny_letOwnedTupleGo_enum (s:={ s with heap:=h',toks:=s.toks + 1 }) a1 fun h'' b1 b2=>?_⟩
  have elt:e < s.heap.objs.size:=Heap.lt_size he
  have ilt:it < s.heap.objs.size:=by obtain ⟨o,ho,_⟩:=h1.obj; exact Heap.lt_size ho
  have k2:∀ c o,c ∉ [e,it]→s.heap.get? c=some o→h''.get? c=some o:=fun c o hc ec=>by
   simp only [List.mem_cons,List.not_mem_nil,or_false,not_or] at hc
   exact b2.extBut _ _ hc.1 (a5 c o hc.1 hc.2 ec)
  have hT2:h''.get? s.heap.objs.size=some { cls:=.type "tuple",data:=.seq #[.int i s.toks,u] }:=b2.extBut _ _ (Nat.ne_of_gt elt) a3
  refine ⟨.ref s.heap.objs.size,upd H s.heap.objs.size (.tup [.int i,x]),I.turnedNew (t':=s.toks + 1) (o:=.tup [.int i,x]) k2 hf (Nat.le_refl _)
   ⟨by show 2≤sizeLine; decide,[.int i s.toks,u],.cons ⟨_,rfl⟩ (.cons ru .nil),⟨_,hT2,rfl,_,rfl⟩⟩,rfl,
   ⟨_,I.hok.fresh (Nat.le_refl _),rfl,fun xs' e1=>?_⟩,⟨⟨u,by simpa using b1⟩,a2.at fun o eo=>b2.extBut _ _ (Ne.symm hne) eo⟩,fun b hb=>?_⟩
  ·rw [I.sq_inj e1 q1]
   exact ⟨x,hx,rfl⟩
  ·have blt:b < s.heap.objs.size:=by
    simp only [List.mem_cons,List.not_mem_nil,or_false] at hb
    rcases hb with rfl | rfl
    ·exact elt
    ·exact ilt
   rw [zabq (Nat.ne_of_lt blt)]
   exact (hf b hb).1
 done:=by
  intro X hP hw hK hc i pins s σ H E I hf st hg
  subst hP hw hK
  obtain ⟨⟨old,he⟩,h1⟩:=st
  obtain ⟨xs,q1,hl⟩:=hg
  obtain ⟨ix,rx,px⟩:=I.sis q1
  have l1:=rx.length
  refine zafd (I.ok.hd hc) he h1 px (by simp; omega) fun h' hk=>⟨rfl,I.turnedL (t':=s.toks) (its:=[e,it]) (fun b o hb eb=>?_) hf⟩
  simp only [List.mem_cons,List.not_mem_nil,or_false,not_or] at hb
  exact hk b o hb.2 eb
 self:=fun _ _ _ _ _ st h=>by
  obtain ⟨⟨old,he⟩,_⟩:=st
  exact wpAny_pyIter_enum he h
section
variable {X:Cx}{elts:List Expr}{kk:Nat}{tpos:Pos}
def iEnum (K:PySem.W.Frag) (k:SK) (ta:TA):TI:=fun σ H R=>ta σ H fun vs H1=>∃ a,vs=[.ref a]∧(∃ xs,Sq k K H1 a xs)∧R (Itn K k a) H1
theorem zarb (k:SK) {a:Expr}{ta:TA}{p pos:Pos} (hg:Gl X "enumerate") (hm:X.mg "enumerate" = none) (ha:PA X [a] ta) (hs:starEach [a] X.env=[(false,eval a X.env)]:=by rfl) :
  PI X (.Tuple elts kk tpos) (.Call (.Name "enumerate" p) [a] [] pos) (iEnum X.K k ta):=by
 intro pins s σ H R I h
 refine Call_ (zafo I hg hm PyProof.Rows.Boot.«enumerate» (PyProof.Rows.callWith_type1 (thn (ha pos pins s σ H _ I h) fun us s1 ⟨vs,H1,I1,r1,q1⟩=>?_) hs rfl))
 obtain ⟨a',e,⟨xs,qx⟩,q⟩:=q1
 subst e
 cases r1 with
 | cons r rr =>
  cases rr
  cases r
  obtain ⟨ix,rx,px⟩:=I1.sis qx
  refine zakz px fun h' b1 b2 b3=>wpAny_pyIter_enum (s:={ s1 with heap:=h' }) b1 ?_
  have nn:∀ b,s1.heap.objs.size≤b→FpOk X pins H1 b:=fun b hb=>I1.fpOk hb (I1.hok.fresh hb)
  refine ⟨_,[s1.heap.objs.size + 1,s1.heap.objs.size],_,_,H1,rfl,I1.kept (t':=s1.toks) b3,zamb (k:=k) (Nat.ne_of_gt (Nat.lt_succ_self _)),⟨⟨_,b1⟩,b2⟩,fun b hb=>?_,q⟩
  simp only [List.mem_cons,List.not_mem_nil,or_false] at hb
  rcases hb with rfl | rfl
  ·exact nn _ (Nat.le_succ _)
  ·exact nn _ (Nat.le_refl _)
end
theorem zaf1 {K:PySem.W.Frag}{k:SK}{a:Addr}{xs:List V}{g:TG}{tb:TS}{D:Ends}{σ:St}{H:Hp} (Pv:Nat→St→Hp→Prop) (h0:Pv 0 σ H)
  (hl:∀ i σ H,i≤xs.length→Pv i σ H→Sq k K H a xs)
  (hs:∀ i x σ H T,xs[i]?=some x→Pv i σ H→H T=none→g (.ref T) σ (upd H T (.tup [.int i,x])) fun σ2 H2=>tb { D with nx:=Pv (i + 1),ct:=Pv (i + 1),bk:=D.nx } σ2 H2)
  (hd:∀ σ H,Pv xs.length σ H→D.nx σ H):Loop (Itn K k a) g tb D σ H:=by
 refine ⟨fun i m σ H=>m=xs.length - i∧i≤xs.length∧Pv i σ H,⟨xs.length,by simp,Nat.zero_le _,h0⟩,?_⟩
 rintro i m σ H ⟨rfl,hi,p⟩
 have q1:=hl i σ H hi p
 by_cases hlt:i < xs.length
 ·refine .inr ⟨⟨xs,xs[i],q1,by simp [hlt]⟩,Pv (i + 1),fun σ' H' p'=>⟨xs.length - (i + 1),by omega,rfl,hlt,p'⟩,fun x H' y=>?_⟩
  obtain ⟨T,hT,rfl,y⟩:=y
  obtain ⟨u,e1,rfl⟩:=y xs q1
  exact hs i u σ H T e1 p hT
 ·have e:i=xs.length:=by omega
  refine .inl ⟨⟨xs,q1,by omega⟩,?_⟩
  subst e
  exact hd σ H p
theorem zamc {K:PySem.W.Frag}{k:SK}{a:Addr} (xs:List V) {g:TG}{tt:TT}{te:TE}{Q:List V→Hp→Prop}{σ:St}{H:Hp} (Pv:Nat→List V→St→Hp→Prop) (hn:xs.length < sizeLine) (h0:Pv 0 [] σ H) (hl:∀ i ys σ H,i≤xs.length→Pv i ys σ H→ys.length≤i∧Sq k K H a xs)
  (turn:∀ i ys σ H x T,xs[i]?=some x→Pv i ys σ H→H T=none→g (.ref T) σ (upd H T (.tup [.int i,x])) fun σ2 H2=>tt σ2 H2 fun b H3=>if b=true then te σ2 H3 fun y H4=>Pv (i + 1) (ys++[y]) σ2 H4 else Pv (i + 1) ys σ2 H3)
  (after:∀ ys σ H,Pv xs.length ys σ H→Q ys H):Comp (Itn K k a) g tt te Q σ H :=
 zafz xs.length Pv h0 (fun i ys σ H hi p=>Nat.lt_of_le_of_lt (Nat.le_trans (hl i ys σ H hi p).1 hi) hn) (fun i ys σ H hi p=>⟨xs,xs[i],(hl i ys σ H (Nat.le_of_lt hi) p).2,List.getElem?_eq_getElem hi⟩)
  (fun ys σ H p=>⟨xs,(hl _ ys σ H (Nat.le_refl _) p).2,Nat.le_refl _⟩) (fun i ys σ H hi p x H' y=>by
   obtain ⟨T,hT,rfl,y⟩:=y
   obtain ⟨u,e1,rfl⟩:=y xs (hl i ys σ _ (Nat.le_of_lt hi) p).2
   exact turn i ys σ _ u T e1 p hT) after
theorem zaj5 {K:PySem.W.Frag}{k1 k2:SK}{a b:Addr} (xs zs:List V) {g:TG}{tt:TT}{te:TE}{Q:List V→Hp→Prop}{σ:St}{H:Hp} (Pv:Nat→List V→St→Hp→Prop) (hn:xs.length < sizeLine) (hz:xs.length=zs.length) (h0:Pv 0 [] σ H) (hl:∀ i ys σ H,i≤xs.length→Pv i ys σ H→ys.length≤i∧Sq k1 K H a xs∧Sq k2 K H b zs)
  (turn:∀ i ys σ H x z T,xs[i]?=some x→zs[i]?=some z→Pv i ys σ H→H T=none→g (.ref T) σ (upd H T (.tup [x,z])) fun σ2 H2=>tt σ2 H2 fun b H3=>if b=true then te σ2 H3 fun y H4=>Pv (i + 1) (ys++[y]) σ2 H4 else Pv (i + 1) ys σ2 H3)
  (after:∀ ys σ H,Pv xs.length ys σ H→Q ys H):Comp (Itz K k1 k2 a b) g tt te Q σ H :=
 zafz xs.length Pv h0 (fun i ys σ H hi p=>Nat.lt_of_le_of_lt (Nat.le_trans (hl i ys σ H hi p).1 hi) hn)
  (fun i ys σ H hi p=>⟨xs,zs,xs[i],zs[i]'(hz ▸ hi),(hl i ys σ H (Nat.le_of_lt hi) p).2.1,(hl i ys σ H (Nat.le_of_lt hi) p).2.2,List.getElem?_eq_getElem hi,List.getElem?_eq_getElem (hz ▸ hi)⟩)
  (fun ys σ H p=>⟨xs,zs,(hl _ ys σ H (Nat.le_refl _) p).2.1,(hl _ ys σ H (Nat.le_refl _) p).2.2,.inl (Nat.le_refl _)⟩) (fun i ys σ H hi p x H' y=>by
   obtain ⟨T,hT,rfl,y⟩:=y
   obtain ⟨u,v,e1,e2,rfl⟩:=y xs zs (hl i ys σ _ (Nat.le_of_lt hi) p).2.1 (hl i ys σ _ (Nat.le_of_lt hi) p).2.2
   exact turn i ys σ _ u v T e1 e2 p hT) after
end L2

namespace L2
open PySem PySem.Spec PyProof.Rows
section
variable {X:Cx}
theorem zait {prog:Program}{w:World}{A:Around}{bs:List Bool}:TruthOf prog w A (fun i v=>(bs.map fun b=>Value.bool b).toArray[i]?=some v) (fun i=>bs.getD i false):=by
 intro i v s Q E hP hQ
 have hP':(bs.map fun b=>Value.bool b)[i]?=some v:=by simpa using hP
 rw [List.getElem?_map] at hP'
 cases e:bs[i]? with
 | none=>rw [e] at hP'; cases hP'
 | some b =>
  rw [e] at hP'
  cases hP'
  have:bs.getD i false=b:=by rw [List.getD_eq_getElem?_getD,e]; rfl
  have hQ:Q (bs.getD i false) s:=hQ
  rw [this] at hQ
  exact wpAny_pure hQ
theorem zamd (bs:List Bool):((List.range bs.length).all fun i=>bs.getD i false)=bs.all id:=by
 rw [Bool.eq_iff_iff,List.all_eq_true,List.all_eq_true]
 constructor
 ·intro h b hb
  obtain ⟨i,hi,rfl⟩:=List.mem_iff_getElem.mp hb
  have:=h i (List.mem_range.mpr hi)
  rw [List.getD_eq_getElem?_getD,List.getElem?_eq_getElem hi] at this
  exact this
 ·intro h i hi
  have hi:=List.mem_range.mp hi
  rw [List.getD_eq_getElem?_getD,List.getElem?_eq_getElem hi]
  exact h _ (List.getElem_mem hi)
theorem zagh:∀ {bs:List Bool}{its:List Value},Vals (bs.map V.bl) its→its=bs.map fun b=>Value.bool b
 | [],_,.nil=>rfl
 | b :: bs,_,.cons r t=>by rw [List.map_cons,zagh t]; cases r; rfl
theorem zac9 (hc:X.calm=true):CallR X (.builtin "all") (fun xs H Q=>∃ (p:Addr) (bs:List Bool),xs=[.ref p]∧H p=some (.lst (bs.map V.bl))∧Q (.bl (bs.all id)) H):=by
 intro pins s σ H xs us Q I r h
 obtain ⟨p,bs,rfl,hp,q⟩:=h
 obtain ⟨u,rfl,ru⟩:=vals1 r
 cases ru
 obtain ⟨z,its,n,rv,e⟩:=I.hok p _ hp
 have ei:=zagh rv
 subst ei
 have hl:s.heap.IsList p (bs.map fun b=>Value.bool b).toArray:=⟨_,e,rfl,n,rfl⟩
 refine call_all_walk (wpAny_pyIter_list hl ?_)
 have hne:p≠s.heap.objs.size:=Nat.ne_of_lt (Heap.lt_size e)
 refine ⟨s.heap.objs.size,_,_,_,_,_,_,rfl,Walks.list (by first | exact I.ok.hd hc | (show X.A.in1.handled=none; exact I.ok.hd hc)) s.heap.objs.size p hne (bs.map fun b=>Value.bool b).toArray,
  ⟨⟨_,Heap.get?_push_size _ rfl,rfl,rfl⟩,⟨_,Heap.get?_push_of_some _ e,rfl,n,rfl⟩⟩,zait,fun h' tk hk=>?_⟩
 have sz:(bs.map fun b=>Value.bool b).toArray.size=bs.length:=by simp
 rw [sz,zamd]
 exact ⟨.bl (bs.all id),H,I.kept (t':=tk) fun b o eb=>hk b o (by simp; exact Nat.ne_of_lt (Heap.lt_size eb)) (Heap.get?_push_of_some _ eb),rfl,q⟩
end
end L2

namespace L2
open PySem PySem.Spec PyProof.Rows
section
variable {X:Cx}{pins:List (Addr × Obj)}{σ:St}{H:Hp}{s:Shared}{A:Around}{E:Value→Shared→Prop}{Q:Value→Shared→Prop}{b:Bool}
theorem zak1 {x:V}{u t:Value}{tp:Addr}{its:List Value}{o:Obj}{n:Nat} (I:Inv X pins σ H s) (rx:RelV x u) (ty:TyOf X.K H x t) (ho:s.heap.get? tp=some o) (hoc:o.cls=.type "tuple") (hod:o.data=.seq its.toArray n)
  (e:PySem.W.kitAny X.K t its=some b) (h:∀ tk,Q (.bool b) { s with toks:=tk }) :
  wpAny (model X.prog X.w) A (call (.builtin "isinstance") [u,.ref tp]) Q E s:=by
 obtain ⟨c0,d0,t0,l0⟩:=o
 replace hoc:c0=.type "tuple" := hoc
 replace hod:t0=.seq its.toArray n:=hod
 subst hoc hod
 cases ty with
 | non=>cases (show u=Value.none from rx); exact PySem.W.kia_tup PySem.W.kitx_none I.kIn True.intro ho e (fun z=>nomatch z) h
 | bl y=>cases (show u=Value.bool y from rx); exact PySem.W.kia_tup PySem.W.kitx_bool I.kIn True.intro ho e (fun z=>nomatch z) h
 | int i=>obtain ⟨t,q⟩:=(show ∃ t,u=Value.int i t from rx); cases q; exact PySem.W.kia_tup PySem.W.kitx_int I.kIn True.intro ho e (fun z=>nomatch z) h
 | str y=>obtain ⟨t,q⟩:=(show ∃ t,u=Value.str y t from rx); cases q; exact PySem.W.kia_tup PySem.W.kitx_str I.kIn True.intro ho e (fun z=>nomatch z) h
 | flt y=>obtain ⟨t,q⟩:=(show ∃ t,u=Value.float y t from rx); cases q; exact PySem.W.kia_tup PySem.W.kitx_float I.kIn True.intro ho e (fun z=>nomatch z) h
 | @lst a xs ea =>
  cases (show u=Value.ref a from rx)
  obtain ⟨_,_,n,_,h1⟩:=(show ObjOk X.prog X.w H s.heap a (.lst xs) from I.hok a _ ea)
  exact PySem.W.kia_tup PySem.W.kitx_list I.kIn ⟨_,h1,rfl⟩ ho e (fun z=>nomatch z) h
 | @frz a ob xs ea =>
  cases (show u=Value.ref a from rx)
  obtain ⟨_,_,_,n,_,h1⟩:=(show ObjOk X.prog X.w H s.heap a (.frz ob (.lst xs)) from I.hok a _ ea)
  exact PySem.W.kia_tup PySem.W.kitx_list I.kIn ⟨_,h1,rfl⟩ ho e (fun z=>nomatch z) h
 | @tup a xs ea =>
  cases (show u=Value.ref a from rx)
  obtain ⟨_,_,_,p⟩:=(show ObjOk X.prog X.w H s.heap a (.tup xs) from I.hok a _ ea)
  obtain ⟨o,h1,h2,_⟩:=p
  exact PySem.W.kia_tup PySem.W.kitx_tuple I.kIn ⟨o,h1,h2⟩ ho e (fun z=>nomatch z) h
 | @dK a kvs ea =>
  cases (show u=Value.ref a from rx)
  obtain ⟨_,_,vs,_,p⟩:=(show ObjOk X.prog X.w H s.heap a (.dK kvs) from I.hok a _ ea)
  obtain ⟨o,es,ep,h1,h2,_⟩:=p
  exact PySem.W.kia_tup PySem.W.kitx_dict I.kIn ⟨o,h1,h2.1⟩ ho e (fun z=>nomatch z) h
 | @dT a kvs ea =>
  cases (show u=Value.ref a from rx)
  obtain ⟨_,_,xs,_,o,es,ep,h1,h2,_⟩:=(show ObjOk X.prog X.w H s.heap a (.dT kvs) from I.hok a _ ea)
  exact PySem.W.kia_tup PySem.W.kitx_dict I.kIn ⟨o,h1,h2.1⟩ ho e (fun z=>nomatch z) h
 | @ins a C dx fs ea cl ha hn htk hm =>
  cases (show u=Value.ref a from rx)
  obtain ⟨mA,O,_⟩:=zafu I.hok ea
  obtain ⟨od,J,_⟩:=O.look
  exact PySem.W.kia_tup (PySem.W.kitx_own (cl.get _) cl.hd ha hn htk hm) I.kIn J ho e (fun z=>nomatch z) h
end
def rIsTs (K:PySem.W.Frag):List V→Hp→VK→Prop:=fun xs H Q=>∃ (x:V) (p:Addr) (Ts:List String) (t:Value) (b:Bool),xs=[x,.ref p]∧H p=some (.tup (Ts.map V.ty))∧TyOf K H x t∧PySem.W.kitAny K t (Ts.map Value.type)=some b∧Q (.bl b) H
theorem zaj6:∀ {Ts:List String}{us:List Value},Vals (Ts.map V.ty) us→us=Ts.map Value.type
 | [],_,.nil=>rfl
 | T :: Ts,_,.cons r t=>by rw [List.map_cons,zaj6 t]; cases r; rfl
theorem zame {X:Cx}:CallR X (.builtin "isinstance") (rIsTs X.K):=by
 intro pins s σ H xs us Q I r h
 obtain ⟨x,p,Ts,t,b,rfl,hp,ty,e,q⟩:=h
 obtain ⟨u,v,rfl,ru,rv⟩:=vals2 r
 cases rv
 obtain ⟨_,its,rt,o,ho,hoc,n,hod⟩:=I.hok p _ hp
 have:=zaj6 rt
 subst this
 exact zak1 I ru ty ho hoc hod e fun tk=>⟨.bl b,H,I.tok _,rfl,q⟩
example (K:PySem.W.Frag):PySem.W.kitAny K (.type "list") [.type "list",.type "tuple"]=some true:=rfl
example (K:PySem.W.Frag):PySem.W.kitAny K (.type "tuple") [.type "list",.type "tuple"]=some true:=rfl
example (K:PySem.W.Frag):PySem.W.kitAny K (.type "int") [.type "list",.type "tuple"]=some false:=rfl
end L2

namespace L2
open PySem PySem.Spec PyProof.Rows
structure MethOk (P:Program) (w:World) (K:PySem.W.Frag) (mg:Str→Option Value) (base:Heap) (CX:CXT) (k:Nat) (C:Addr) (m:Str) (ps:List Str) (sp:Sp):Prop where
 cl:Cls K C
 ex:∃ (f:Addr) (fd:FuncData),FnOk P w K mg base CX k f fd ps sp∧Binds K fd ps []∧Meth K C m f
theorem MethOk.mono {P:Program}{w:World}{K:PySem.W.Frag}{mg:Str→Option Value}{base:Heap}{CX:CXT}{j k:Nat}{C:Addr}{m:Str}{ps:List Str}{sp:Sp} (D:MethOk P w K mg base CX j C m ps sp) (h:j≤k):MethOk P w K mg base CX k C m ps sp:=by
 obtain ⟨f,fd,F,b⟩:=D.ex
 exact ⟨D.cl,f,fd,F.mono h,b⟩
structure MakeOk (P:Program) (w:World) (K:PySem.W.Frag) (mg:Str→Option Value) (base:Heap) (CX:CXT) (k:Nat) (C:Addr) (x:Str) (ps:List Str) (sp:Sp):Prop where
 ex:∃ (f:Addr) (fd:FuncData),FnOk P w K mg base CX k f fd ps sp∧Binds K fd ps []∧Mk K C f∧mg x=some (.ref C)
theorem MakeOk.mono {P:Program}{w:World}{K:PySem.W.Frag}{mg:Str→Option Value}{base:Heap}{CX:CXT}{j k:Nat}{C:Addr}{x:Str}{ps:List Str}{sp:Sp} (D:MakeOk P w K mg base CX j C x ps sp) (h:j≤k):MakeOk P w K mg base CX k C x ps sp:=by
 obtain ⟨f,fd,F,b⟩:=D.ex
 exact ⟨f,fd,F.mono h,b⟩
section
variable {X:Cx}{CX:CXT}{k:Nat}{C:Addr}{ps:List Str}{sp:Sp}{E:XK}{x m:Str}{p pos apos:Pos}{e o:Expr}{es:List Expr}{ta:TE}{t:TA}
theorem zaa6 {pl:Sem Bool} (he:Pr (PE X o ta)) (D:MethOk X.prog X.w X.K X.mg X.base CX k C m ps sp) (hr:Room k X.A) (hx:Passes CX X E) (ha:Pr (PA X (e :: es) t))
  (hst:starEach (e :: es) X.env=(false,eval e X.env) :: starEach es X.env:=by rfl) (hpl:(backTo pos (starEach es X.env)).any (·.1)=false:=by rfl)
  (ht:eval (.Call (.Attribute o m apos) (e :: es) [] pos) X.env=(do
   let ov ← eval o X.env
   standAt apos.atName
   let (f,first) ← holding [ov] (getMethod ov m pl)
   callWith pos f first (backTo pos (starEach (e :: es) X.env)) (backToKw pos (keywordEach [] X.env))):=by rfl) :
  Pr (PE X (.Call (.Attribute o m apos) (e :: es) [] pos) (tMeth C m sp [] E ta t)):=by
 obtain ⟨f,fd,F,b,hm⟩:=D.ex
 exact ⟨zaqt he.h D.cl hm F hr b .nil hx ha.h hst hpl ht⟩
theorem zada {pl:Sem Bool} (he:Pr (PE X o ta)) (D:MethOk X.prog X.w X.K X.mg X.base CX k C m ps sp) (hr:Room k X.A) (hx:Passes CX X E)
  (ht:eval (.Call (.Attribute o m apos) [] [] pos) X.env=(do
   let ov ← eval o X.env
   standAt apos.atName
   let (f,first) ← holding [ov] (getMethod ov m pl)
   callWith pos f first (backTo pos (starEach [] X.env)) (backToKw pos (keywordEach [] X.env))):=by rfl) :
  Pr (PE X (.Call (.Attribute o m apos) [] [] pos) (tMeth C m sp [] E ta tNil)):=by
 obtain ⟨f,fd,F,b,hm⟩:=D.ex
 exact ⟨zaod he.h D.cl hm F hr b .nil hx ht⟩
theorem zah0 (D:MakeOk X.prog X.w X.K X.mg X.base CX k C x ps sp) (hr:Room (k + 1) X.A) (hg:Gl X x) (hx:Passes CX X E)
  (ha:Pr (PA X (e :: es) t)) (hdb:(x == ("__debug__" : Str))=false:=by decide) (he:starEach (e :: es) X.env=(false,eval e X.env) :: starEach es X.env:=by rfl) (hpl:(backTo pos (starEach es X.env)).any (·.1)=false:=by rfl) :
  Pr (PE X (.Call (.Name x p) (e :: es) [] pos) (tMake C sp [] E t)):=by
 obtain ⟨f,fd,F,b,M,hm⟩:=D.ex
 exact ⟨zaqu M F hr hg hm b .nil hx ha.h hdb he hpl⟩
end
section
variable {X:Cx}{sc:Scope}{own:List Str}{fr:List Nat}{N':List Str}{tg elt iter:Expr}{ifs:List Expr}{g:TG}{tt:TT}{te:TE}{wi:TI}{pos:Pos}
theorem zabx:Pr (PIf X [] tYes):=⟨zaq7⟩
theorem zafj {c:Expr}{t:TT} (h:Pr (PT X c t)):Pr (PIf X [c] t):=⟨zaq8 h.h⟩
theorem zacb (hc:X.calm=true) (cs:CompOk sc X.env.scope own X.N fr N') (hi:Pr (PI X tg iter wi)) (hg:∀ cl C s H fp,Pr (PG (cxC X sc cl N' C s H fp) tg g)) (hif:∀ cl C s H fp,Pr (PIf (cxC X sc cl N' C s H fp) ifs tt))
  (he:∀ cl C s H fp,Pr (PE (cxC X sc cl N' C s H fp) elt te)) (hs:∀ x,foldedSetIterable iter X.env x=pure x:=by intro _; rfl):Pr (PE X (.ListComp elt [⟨tg,iter,ifs,0⟩] sc pos) (tComp own.length fr wi g tt te)) :=
 ⟨zaq9 hc cs hi.h (fun a b c d e=>(hg a b c d e).h) (fun a b c d e=>(hif a b c d e).h) (fun a b c d e=>(he a b c d e).h) hs⟩
theorem zad4 {i:Nat}{y:Str}{py spos:Pos} (hN:X.N.Nodup) (hy:X.N[i]?=some y) (hx:Loc X.env.scope y) (hc:X.calm=true) (cs:CompOk sc X.env.scope own X.N fr N') (hi:Pr (PI X tg iter wi))
  (hg:∀ cl C s H fp,Pr (PG (cxC X sc cl N' C s H fp) tg g)) (hif:∀ cl C s H fp,Pr (PIf (cxC X sc cl N' C s H fp) ifs tt)) (he:∀ cl C s H fp,Pr (PE (cxC X sc cl N' C s H fp) elt te))
  (hsw:swapsWith (.ListComp elt [⟨tg,iter,ifs,0⟩] sc pos) (some (.Name y py)) spos.line X.env=pure true) (hfn:X.fn y=true∨X.env.scope.names.lookup y=some .local:=by first | exact .inl rfl | exact .inr rfl | assumption) (hs:∀ x,foldedSetIterable iter X.env x=pure x:=by intro _; rfl) :
  Pr (PS X (.Assign [.Name y py] (.ListComp elt [⟨tg,iter,ifs,0⟩] sc pos) spos) (tSetC i own.length fr wi g tt te)) :=
 ⟨zara hN hy hx hc cs hi.h (fun a b c d e=>(hg a b c d e).h) (fun a b c d e=>(hif a b c d e).h) (fun a b c d e=>(he a b c d e).h) hsw hfn hs⟩
theorem zafk (k:SK) {elts:List Expr}{kk:Nat}{tpos:Pos}{a:Expr}{ta:TA}{p pos:Pos} (hg:Gl X "enumerate") (hm:X.mg "enumerate" = none) (ha:Pr (PA X [a] ta)) (hs:starEach [a] X.env=[(false,eval a X.env)]:=by rfl) :
  Pr (PI X (.Tuple elts kk tpos) (.Call (.Name "enumerate" p) [a] [] pos) (iEnum X.K k ta)):=⟨zarb k hg hm ha.h hs⟩
theorem zaou:Pr (PPs X pos [] [] []):=⟨zaq3⟩
theorem zaeg {k v:Expr}{ks:List (Option Expr)}{vs:List Expr}{tk tv:TE}{trs:List (TE × TE)} (hk:Pr (PE X k tk)) (hv:Pr (PE X v tv)) (hr:Pr (PPs X pos ks vs trs)):Pr (PPs X pos (some k :: ks) (v :: vs) ((tk,tv) :: trs)):=⟨zaon hk.h hv.h hr.h⟩
theorem zaov {keys:List (Option Expr)}{values:List Expr}{trs:List (TE × TE)} (h:Pr (PPs X pos keys values trs)) (hall:keys.all (·.isSome)=true) (hl:keys.length=values.length) (h0:keys≠[])
  (h15:keys.length≤15):Pr (PE X (.Dict keys values pos) (tDisp trs)):=⟨zaq4 h.h hall hl h0 h15⟩
theorem zah1:Pr (PE X (.Dict [] [] pos) tDNewK):=⟨zaol⟩
theorem zamf {o e f:Expr}{td ty tx:TE}{apos cpos:Pos} (hu:X.A.units + 1 < cLine) (ho:Pr (PE X o td)) (he:Pr (PE X e ty)) (hf:Pr (PE X f tx)) (m:M2 X o "get" apos e f cpos):Pr (PE X (.Call (.Attribute o "get" apos) [e,f] [] cpos) (tDGet2 td ty tx)):=⟨zaoo hu ho.h he.h hf.h m⟩
theorem zah2 {st:Stmt}:Pr (PS X st tNever):=⟨zan5⟩
theorem compOk {sc outer:Scope}{own N:List Str}{fr:List Nat}{N':List Str} (h1:sc.kind=.function) (h2:∀ y∈sc.names,y.2≠.cell) (h3:∀ y∈sc.names,y.2=.local→sc.names.lookup y.1=some .local)
  (h4:∀ y∈sc.names,y.2=.free→outer.names.lookup y.1=some .cell∨outer.names.lookup y.1=some .free) (h5:N'.Nodup) (h6:N'.map some=own.map some++fr.map fun j=>N[j]?)
  (h7:∀ x∈fr.filterMap (fun j=>N[j]?),sc.names.lookup x=some .free∧(outer.names.lookup x=some .cell∨outer.names.lookup x=some .free)):CompOk sc outer own N fr N' :=
 ⟨h1,h2,h3,h4,h5,h6,fun j hj x hx=>h7 x (List.mem_filterMap.mpr ⟨j,hj,hx⟩)⟩
end
def rIsT2 (K:PySem.W.Frag):List V→Hp→VK→Prop:=fun xs H Q=>∃ (x:V) (p:Addr) (T1 T2:String) (t:Value) (b:Bool),xs=[x,.ref p]∧H p=some (.tup [.ty T1,.ty T2])∧TyOf K H x t∧PySem.W.kitAny K t [.type T1,.type T2]=some b∧Q (.bl b) H
theorem zamg {X:Cx}:CallR X (.builtin "isinstance") (rIsT2 X.K):=fun pins s σ H xs us Q I r h=>by
 obtain ⟨x,p,T1,T2,t,b,e,hp,ty,k,q⟩:=h
 exact zame pins s σ H xs us Q I r ⟨x,p,[T1,T2],t,b,e,hp,ty,k,q⟩
theorem iteD {c:Prop} [Decidable c] {A B:Prop} (hc:c) (h:A):if decide c=true then A else B:=by rw [if_pos (decide_eq_true hc)]; exact h
theorem iteNn {c:Prop} [Decidable c] {A B:Prop} (hc:c) (h:B):if (!decide c)=true then A else B:=by rw [if_neg (by simp [hc])]; exact h
def Tu (H H':Hp):Prop:=∀ b xs,H b=some (.tup xs)→H' b=some (.tup xs)
theorem Tu.same {H H':Hp} (c:Ch [] H H'):Tu H H':=fun b xs h=>c b _ h (by simp)
theorem Tu.ch {H H':Hp}{b:Addr}{o:HO} (c:Ch [b] H H') (hb:H b=some o) (ho:∀ xs,o≠.tup xs):Tu H H':=fun d xs h=>c d _ h (by
 intro z
 have e:d=b:=by simpa using z
 subst e
 rw [hb] at h
 exact ho xs (Option.some.inj h))
theorem Tu.lst {H H':Hp}{b:Addr}{ys:List V} (c:Ch [b] H H') (hb:H b=some (.lst ys)):Tu H H':=Tu.ch c hb (fun xs z=>by cases z)
theorem Tu.new {H:Hp}{p:Addr} (o:HO) (h:H p=none):Tu H (upd H p o):=Tu.same (Ch.new h o)
end L2

namespace L2
open PySem PySem.Spec PyProof.Rows
section
variable {X:Cx}{a b o e value:Expr}{es:List Expr}{f:Str}{ta tb te:TE}{pos:Pos}{tg l:Expr}
theorem zacv (K:PySem.W.Frag) (hK:X.K=K):IxR X (aIxL K):=hK ▸ zaaw
theorem zadg (K:PySem.W.Frag) (hK:X.K=K):IxR X (aIxT K):=hK ▸ zaa0
theorem zagv (K:PySem.W.Frag) (hK:X.K=K):CallR X (.builtin "len") (fun xs H Q=>∃ p ys,xs=[.ref p]∧(SqL K H p ys∨SqT K H p ys)∧Q (.int ys.length) H):=hK ▸ zaap
theorem zaet (K:PySem.W.Frag) (hK:X.K=K):OpR X (compareOp .In) (rIn K false):=hK ▸ zaea
theorem zaf2 (K:PySem.W.Frag) (hK:X.K=K):CallR X (.builtin "isinstance") (rIsT K):=hK ▸ zaa2
theorem zaeh (K:PySem.W.Frag) (n:Nat) (hK:X.K=K) {k:Nat}{t:TGs} (hc:X.calm=true) (h:Pr (PGs X es t)) (hn:(assignEach es X.env).length=n:=by rfl) (hst:(assignEach es X.env).findIdx? (·.1)=none:=by rfl) :
  Pr (PG X (.Tuple es k pos) (gTup K n t)):=hK ▸ ⟨zapi hc h.h hn hst⟩
end
end L2

namespace L2
open PySem PySem.Spec PyProof.Rows PySem.SeqAt
def Sca (x:V):Prop:=(∃ i,x=.int i)∨∃ t,x=.str t
structure ScaL (xs:List V):Prop where
 h:∀ z∈xs,Sca z
theorem zarc {α:Type} [BEq α] [LawfulBEq α] [DecidableEq α] (a b:α):(a == b)=decide (a=b):=by
 by_cases h:a=b
 ·subst h; simp
 ·rw [decide_eq_false h]; exact beq_eq_false_iff_ne.mpr h
theorem zatu {A:Around}{s:Shared}{x y:V}{u v:Value} (hx:Sca x) (hy:Sca y) (ru:RelV x u) (rv:RelV y v):EqAt A s u v (decide (x=y)):=by
 rcases hx with ⟨i,rfl⟩ | ⟨i,rfl⟩ <;> rcases hy with ⟨j,rfl⟩ | ⟨j,rfl⟩ <;> obtain ⟨t,rfl⟩:=ru <;> obtain ⟨t',rfl⟩:=rv
 ·have:=EqAt.int_int (A:=A) (s:=s) i t j t'
  rw [zarc] at this
  rwa [show decide (V.int i=V.int j)=decide (i=j) from by by_cases h:i=j <;> simp [h]]
 ·rw [show decide (V.int i=V.str j)=false from by simp]
  exact EqAt.int_str i t j t'
 ·rw [show decide (V.str i=V.int j)=false from by simp]
  exact EqAt.str_int i t j t'
 ·have:=EqAt.str_str (A:=A) (s:=s) i t j t'
  rw [show decide (V.str i=V.str j)=(i == j) from by
   by_cases h:i=j
   ·subst h; simp
   ·rw [decide_eq_false (fun z=>h (V.str.inj z))]; exact (beq_eq_false_iff_ne.mpr h).symm]
  exact this
theorem zah3 {xs ys:List V}:((List.range (min xs.length ys.length)).all (fun j=>decide (xs[j]?=ys[j]?)) && xs.length == ys.length)=decide (xs=ys):=by
 by_cases h:xs=ys
 ·subst h
  simp
 ·rw [decide_eq_false h]
  by_cases hl:xs.length=ys.length
  ·rw [Bool.and_eq_false_iff]
   refine .inl ?_
   rw [List.all_eq_false]
   refine Classical.byContradiction fun z=>h (List.ext_getElem? fun j=>?_)
   by_cases hj:j < xs.length
   ·refine Classical.byContradiction fun y=>z ⟨j,List.mem_range.mpr (by omega),by simpa using y⟩
   ·rw [List.getElem?_eq_none (by omega),List.getElem?_eq_none (by omega)]
  ·rw [Bool.and_eq_false_iff]
   exact .inr (beq_eq_false_iff_ne.mpr hl)
theorem zaj7 {A:Around}{s:Shared}{xs ys:List V}{us vs:List Value} (hx:ScaL xs) (hy:ScaL ys) (ru:Vals xs us) (rv:Vals ys vs) (j:Nat) (h1:j < us.toArray.size) (h2:j < vs.toArray.size) :
  EqAt A s us.toArray[j] vs.toArray[j] (decide (xs[j]?=ys[j]?)):=by
 have l1:=ru.length
 have l2:=rv.length
 have h1':j < us.length:=by simpa using h1
 have h2':j < vs.length:=by simpa using h2
 have gx:xs[j]?=some (xs[j]'(by omega)):=List.getElem?_eq_getElem (by omega)
 have gy:ys[j]?=some (ys[j]'(by omega)):=List.getElem?_eq_getElem (by omega)
 obtain ⟨w1,hw1,r1⟩:=ru.get gx
 obtain ⟨w2,hw2,r2⟩:=rv.get gy
 have k1:us.toArray[j]=w1:=by
  have:=List.getElem?_eq_getElem h1'
  rw [hw1] at this
  simpa using (Option.some.inj this).symm
 have k2:vs.toArray[j]=w2:=by
  have:=List.getElem?_eq_getElem h2'
  rw [hw2] at this
  simpa using (Option.some.inj this).symm
 rw [k1,k2,gx,gy]
 have e:decide (some (xs[j]'(by omega))=some (ys[j]'(by omega)))=decide (xs[j]'(by omega)=ys[j]'(by omega)):=by
  by_cases h:(xs[j]'(by omega))=(ys[j]'(by omega)) <;> simp [h]
 rw [e]
 exact zatu (hx.h _ (List.getElem_mem _)) (hy.h _ (List.getElem_mem _)) r1 r2
section
variable {X:Cx}
def rEqT:R2:=fun x y H Q=>∃ (a b:Addr) (xs ys:List V),x=.ref a∧y=.ref b∧H a=some (.tup xs)∧H b=some (.tup ys)∧ScaL xs∧ScaL ys∧Q (.bl (decide (xs=ys))) H
def rNeT:R2:=fun x y H Q=>∃ (a b:Addr) (xs ys:List V),x=.ref a∧y=.ref b∧H a=some (.tup xs)∧H b=some (.tup ys)∧ScaL xs∧ScaL ys∧Q (.bl (!decide (xs=ys))) H
theorem zadc (hu:X.A.units + 64 < cLine):OpR X (compareOp .Eq) rEqT:=by
 intro pins s σ H x y v u Q I rx ry h
 obtain ⟨a,b,xs,ys,rfl,rfl,ha,hb,hx,hy,q⟩:=h
 cases rx
 cases ry
 obtain ⟨z,its,rv,t1⟩:=I.hok a _ ha
 obtain ⟨z2,its2,rv2,t2⟩:=I.hok b _ hb
 have key:=RcAt.tuples (A:=X.A) (s:=s) t1 t2 (by omega) (zaj7 hx hy rv rv2)
 have e:((List.range (min its.toArray.size its2.toArray.size)).all (fun j=>decide (xs[j]?=ys[j]?)) && its.toArray.size == its2.toArray.size)=decide (xs=ys):=by
  rw [← zah3,List.size_toArray,List.size_toArray,← rv.length,← rv2.length]
 rw [e] at key
 exact key X.prog X.w X.xe _ ⟨.bl _,H,I,rfl,q⟩
theorem zatv (hu:X.A.units + 64 < cLine):OpR X (compareOp .NotEq) rNeT:=by
 intro pins s σ H x y v u Q I rx ry h
 obtain ⟨a,b,xs,ys,rfl,rfl,ha,hb,hx,hy,q⟩:=h
 cases rx
 cases ry
 obtain ⟨z,its,rv,t1⟩:=I.hok a _ ha
 obtain ⟨z2,its2,rv2,t2⟩:=I.hok b _ hb
 have key:=RcNeAt.tuples (A:=X.A) (s:=s) t1 t2 (by omega) (zaj7 hx hy rv rv2)
 have e:((List.range (min its.toArray.size its2.toArray.size)).all (fun j=>decide (xs[j]?=ys[j]?)) && its.toArray.size == its2.toArray.size)=decide (xs=ys):=by
  rw [← zah3,List.size_toArray,List.size_toArray,← rv.length,← rv2.length]
 rw [e] at key
 exact key X.prog X.w X.xe _ ⟨.bl _,H,I,rfl,q⟩
def rInN:R2:=fun x y H Q=>∃ (b:Addr) (ys:List V),x=.non∧y=.ref b∧H b=some (.lst ys)∧(∀ z∈ys,∃ p,z=.ref p∧((∃ zs,H p=some (.lst zs))∨∃ zs,H p=some (.tup zs)))∧Q (.bl false) H
theorem zatw (hu:X.A.units + 64 < cLine):OpR X (compareOp .In) rInN:=by
 intro pins s σ H x y v u Q I rx ry h
 obtain ⟨b,ys,rfl,rfl,hb,hz,q⟩:=h
 cases rx
 cases ry
 obtain ⟨z,its,n,rv,e⟩:=I.hok b _ hb
 have i1:s.heap.IsList b its.toArray:=⟨_,e,rfl,n,rfl⟩
 refine in_listAt (fun _=>false) i1 (fun y hy=>?_) ⟨.bl false,H,I,by simp [RelV],q⟩
 obtain ⟨j,hj⟩:=List.getElem?_of_mem (by simpa using hy:y∈its)
 have hjl:=(List.getElem?_eq_some_iff.mp hj).1
 have gx:ys[j]?=some (ys[j]'(by have:=rv.length; omega)):=List.getElem?_eq_getElem (by have:=rv.length; omega)
 obtain ⟨w1,hw1,r1⟩:=rv.get gx
 rw [hj] at hw1
 cases hw1
 obtain ⟨p,ep,hp⟩:=hz _ (List.getElem_mem _)
 rw [ep] at r1
 cases r1
 rcases hp with ⟨zs,hp⟩ | ⟨zs,hp⟩
 ·obtain ⟨_,as,m,ra,ea⟩:=I.hok p _ hp
  exact EqAt.list_none ⟨_,ea,rfl,m,rfl⟩ (by show X.A.units + 1 < cLine; omega)
 ·obtain ⟨_,as,ra,ta⟩:=I.hok p _ hp
  exact EqAt.tuple_none ta (by show X.A.units + 1 < cLine; omega)
end
end L2


namespace L2
open PySem PySem.W PyProof.Rows PySem.SeqAt
theorem zatx (k:Key):Sca (kV k):=by
 cases k with
 | inl i=>exact .inl ⟨i,rfl⟩
 | inr x=>exact .inr ⟨x,rfl⟩
end L2

namespace L2
open PySem PySem.W PyProof.Rows
section
variable {X:Cx}{o e f:Expr}{apos cpos:Pos}{td ty tx:TE}
theorem zamh {pos:Pos}:Pr (PE X (.Dict [] [] pos) tDNewT):=⟨zaom⟩
theorem zard {i:Expr}{pos:Pos} (hu:X.A.units + 1 < cLine) (hi:Pr (PE X i ty)) (ho:Pr (PE X o td)) (h1:behindInMarks .In o=false:=by rfl):Pr (PT X (.Compare i [.In] [o] pos) (tB (tDIn ty td))):=⟨zaph (zatn hu hi.h ho.h) h1⟩
theorem zaeu {i:Expr}{pos:Pos} (hu:X.A.units + 1 < cLine) (hi:Pr (PE X i ty)) (ho:Pr (PE X o td)) (h1:behindInMarks .NotIn o=false:=by rfl):Pr (PT X (.Compare i [.NotIn] [o] pos) (tB (tDNotIn ty td))):=⟨zaph (zal2 hu hi.h ho.h) h1⟩
theorem zaei {i:Expr}{pos:Pos} (hu:X.A.units + 1 < cLine) (ho:Pr (PE X o td)) (hi:Pr (PE X i ty)) (hs:NoSl i):Pr (PE X (.Subscript o i pos) (tDGet td ty)):=⟨zaq1 hu ho.h hi.h hs⟩
theorem zafl {i value:Expr}{tv:TE}{pos pos':Pos} (hu:X.A.units + 1 < cLine) (ho:Pr (PE X o td)) (hi:Pr (PE X i ty)) (hv:Pr (PE X value tv)) (hs:swapsWith value (some (.Subscript o i pos')) pos.line X.env=pure false) :
  Pr (PS X (.Assign [.Subscript o i pos'] value pos) (sDPut td ty tv)):=⟨zaq2 hu ho.h hi.h hv.h hs⟩
theorem zare (ho:Pr (PE X o td)) (hbase:attributeBase o "pop" X.env (eval o X.env)=eval o X.env:=by rfl) (hline:(apos.endLine == cpos.line)=true:=by rfl):Pr (PE X (.Call (.Attribute o "pop" apos) [] [] cpos) (tBM0 X.K "list" rPop td)) :=
 ⟨zapm PySem.F.plainAttrs_list PySem.F.slot_list_pop PySem.F.type_list_pop zatj ho.h hbase hline⟩
end
end L2

namespace L2
open PySem PySem.W PyProof.Rows
theorem zami {H:Hp}{a b:Addr}{kvs:List (List Key × V)}{k:List Key}{v:V} (e:H a=some (.dT kvs)) (eb:H b=some (.tup (k.map kV))) (h:valV kvs k=some v):DGet H a (.ref b) (some v):=h ▸ DGet.t e eb
theorem zamj {H:Hp}{a b:Addr}{kvs:List (List Key × V)}{k:List Key} (e:H a=some (.dT kvs)) (eb:H b=some (.tup (k.map kV))) (h:valV kvs k=none):DGet H a (.ref b) none:=h ▸ DGet.t e eb
end L2

namespace L2
open PySem PySem.Spec PyProof.Rows PySem.SeqAt
section
variable {X:Cx}
theorem zaf3 {α β:Type}{R:α→β→Prop}:∀ {xs:List α}{ys:List β},Paired R xs ys→∀ (j:Nat) (h1:j < xs.length) (h2:j < ys.length),R xs[j] ys[j]
 | _,_,.nil,j,h1,_=>absurd h1 (Nat.not_lt_zero _)
 | _,_,.cons a t,0,_,_=>a
 | _,_,.cons a t,j + 1,h1,h2=>by
  have:=zaf3 t j (by simpa using h1) (by simpa using h2)
  simpa using this
end
end L2

namespace L2
open PySem PySem.Spec PyProof.Rows PySem.SeqAt
theorem zaev {H:Hp}{a:Addr}{kvs:List (Key × V)}{i:Int}{v:V} (e:H a=some (.dK kvs)) (h:valV kvs (.inl i)=some v):DGet H a (.int i) (some v):=h ▸ DGet.k (k:=.inl i) e
theorem zaew {H:Hp}{a:Addr}{kvs:List (Key × V)}{i:Int} (e:H a=some (.dK kvs)) (h:valV kvs (.inl i)=none):DGet H a (.int i) none:=h ▸ DGet.k (k:=.inl i) e
theorem dputI {H:Hp}{a:Addr}{kvs:List (Key × V)}{i:Int}{v:V} (e:H a=some (.dK kvs)) (hl:kvs.length < sizeLine):DPut H a (.int i) v (upd H a (.dK (putK kvs (.inl i) v))):=DPut.k (k:=.inl i) e hl
end L2

namespace L2
open PySem
structure AF (sc:Scope) (N:List Str):Prop where
 h:∀ x∈N,(sc.names.lookup x=some .local∨sc.names.lookup x=some .cell)∧(x == ("__debug__" : Str))=false∧(x == ("__classdict__" : Str))=false
structure AV (sc:Scope) (N:List Str):Prop where
 h:∀ x∈N,(sc.names.lookup x=some .local∨sc.names.lookup x=some .cell∨sc.names.lookup x=some .free)∧(x == ("__debug__" : Str))=false∧(x == ("__classdict__" : Str))=false
structure AK (sc:Scope) (N:List Str):Prop where
 h:∀ x∈N,sc.names.lookup x=some .local
structure AG (sc:Scope) (N:List Str):Prop where
 h:∀ x∈N,sc.names.lookup x=some .globalImplicit
theorem AF.l {sc:Scope}{N:List Str} (A:AF sc N) (i:Nat) {x:Str} (e:N[i]?=some x):sc.names.lookup x=some .local∨sc.names.lookup x=some .cell:=(A.h x (List.mem_of_getElem? e)).1
theorem AK.k {sc:Scope}{N:List Str} (A:AK sc N) (i:Nat) {x:Str} (e:N[i]?=some x):sc.names.lookup x=some .local:=A.h x (List.mem_of_getElem? e)
theorem AG.g {sc:Scope}{N:List Str} (A:AG sc N) (i:Nat) {x:Str} (e:N[i]?=some x):sc.names.lookup x=some .globalImplicit:=A.h x (List.mem_of_getElem? e)
theorem qv {X:Cx}{x:Str}{pos:Pos} (A:AF X.env.scope X.N) (i:Nat) (e:X.N[i]?=some x):Pr (PE X (.Name x pos) (tVar i)) :=
 have a:=A.h x (List.mem_of_getElem? e)
 zal6 e (a.1.elim .inl fun h=>.inr (.inl h)) a.2.1 a.2.2
theorem qw {X:Cx}{x:Str}{pos:Pos} (A:AV X.env.scope X.N) (i:Nat) (e:X.N[i]?=some x):Pr (PE X (.Name x pos) (tVar i)) :=
 have a:=A.h x (List.mem_of_getElem? e)
 zal6 e a.1 a.2.1 a.2.2
end L2

namespace B17
open PySem L2 PySem.Spec PyProof.Rows PySem.SeqAt
def rMin2T:List V→Hp→VK→Prop:=fun xs H Q=>∃ (p:Addr) (a b:Int),xs=[.ref p]∧H p=some (.tup [.int a,.int b])∧Q (.int (min a b)) H
def rMax2T:List V→Hp→VK→Prop:=fun xs H Q=>∃ (p:Addr) (a b:Int),xs=[.ref p]∧H p=some (.tup [.int a,.int b])∧Q (.int (max a b)) H
theorem zaj8 {a b:Int}{its:List Value} (r:Vals [V.int a,V.int b] its):∃ t u,its=[.int a t,.int b u]:=by
 obtain ⟨x,y,rfl,⟨t,rfl⟩,⟨u,rfl⟩⟩:=vals2 r
 exact ⟨t,u,rfl⟩
section
variable {prog:Program}{w:World}{A:Around}{E:Value→Shared→Prop}{s:Shared}{l:Addr}{its:Array Value}
theorem zaj9 {Q:Value→Shared→Prop} (hl:s.heap.IsTuple l its)
  (h:∀ s₂:Shared,s₂={ s with heap:=s.heap.push { cls:=.type "tuple_iterator",data:=.fields #[.ref l,.int 0 0] } }→(s₂.heap.IsTupleIter s.heap.objs.size l 0∧s₂.heap.IsTuple l its)→(∀ b∈[s.heap.objs.size,l],b < s₂.heap.objs.size)→l≠s.heap.objs.size →
   (∀ h':Heap,(∀ b o,b ∉ [s.heap.objs.size]→s₂.heap.get? b=some o→h'.get? b=some o)→∀ b o,s.heap.get? b=some o→h'.get? b=some o)→Q (.ref s.heap.objs.size) s₂):wpAny (model prog w) A (pyIter (.ref l)) Q E s:=by
 have hlt:l < s.heap.objs.size:=by obtain ⟨_,e,_⟩:=id hl; exact Heap.lt_size e
 refine wpAny_pyIter_tuple hl (h _ rfl ⟨⟨_,Heap.get?_push_size _ rfl,rfl,rfl⟩,hl.push _⟩ (fun b hb=>?_) (Nat.ne_of_lt hlt) fun h' k b o e=>k b o (fun m=>?_) (Heap.get?_push_of_some _ e))
 ·show b < (s.heap.push _).objs.size
  rw [Heap.size_push]
  simp only [List.mem_cons,List.not_mem_nil,or_false] at hb
  rcases hb with rfl | rfl
  ·exact Nat.lt_succ_self _
  ·exact Nat.lt_succ_of_lt hlt
 ·simp only [List.mem_cons,List.not_mem_nil,or_false] at m
  exact absurd (m ▸ Heap.lt_size e) (Nat.lt_irrefl _)
end
theorem zaka {a b:Int}{t u:Tok} (i:Nat) (v:Value) (h:(#[Value.int a t,Value.int b u]:Array Value)[i]?=some v):∃ t,v=.int ([a,b].getD i 0) t:=by
 match i with
 | 0=>exact ⟨t,by simpa using h.symm⟩
 | 1=>exact ⟨u,by simpa using h.symm⟩
 | i + 2=>simp at h
theorem zak2 {X:Cx} (hc:X.calm=true):CallR X (.builtin "min") rMin2T:=by
 intro pins s σ H xs us Q I r h
 obtain ⟨p,a,b,rfl,hp,q⟩:=h
 obtain ⟨u,rfl,ru⟩:=vals1 r
 cases ru
 obtain ⟨z,its,rv,ta⟩:=I.hok p _ hp
 obtain ⟨t,u,rfl⟩:=zaj8 rv
 refine call_min_walk (zaj9 ta fun s₂ e st hfp hlI old=>?_)
 subst e
 refine ⟨_,_,_,2,_,_,_,rfl,Walks.tuple (A:=X.A.in1) (I.ok.hd hc) _ p hlI #[.int a t,.int b u],st,hfp,by decide,CmpOf.ints_lt (fun i=>[a,b].getD i 0) zaka,fun v h' tk hP hk=>?_⟩
 obtain ⟨t',rfl⟩:=zaka _ v hP
 have e:[a,b].getD (argBest (fun i j=>decide ([a,b].getD i 0 < [a,b].getD j 0)) (2 - 1)) 0=min a b:=by
  by_cases g:b < a
  ·simp [argBest,g]; omega
  ·simp [argBest,g]; omega
 exact ⟨.int _,H,I.kept (t':=tk) (old h' hk),⟨t',by rw [e]⟩,q⟩
theorem zak3 {X:Cx} (hc:X.calm=true):CallR X (.builtin "max") rMax2T:=by
 intro pins s σ H xs us Q I r h
 obtain ⟨p,a,b,rfl,hp,q⟩:=h
 obtain ⟨u,rfl,ru⟩:=vals1 r
 cases ru
 obtain ⟨z,its,rv,ta⟩:=I.hok p _ hp
 obtain ⟨t,u,rfl⟩:=zaj8 rv
 refine call_max_walk (zaj9 ta fun s₂ e st hfp hlI old=>?_)
 subst e
 refine ⟨_,_,_,2,_,_,_,rfl,Walks.tuple (A:=X.A.in1) (I.ok.hd hc) _ p hlI #[.int a t,.int b u],st,hfp,by decide,CmpOf.ints_gt (fun i=>[a,b].getD i 0) zaka,fun v h' tk hP hk=>?_⟩
 obtain ⟨t',rfl⟩:=zaka _ v hP
 have e:[a,b].getD (argBest (fun i j=>decide ([a,b].getD i 0 > [a,b].getD j 0)) (2 - 1)) 0=max a b:=by
  by_cases g:a < b
  ·simp [argBest,g]; omega
  ·simp [argBest,g]; omega
 exact ⟨.int _,H,I.kept (t':=tk) (old h' hk),⟨t',by rw [e]⟩,q⟩
end B17

namespace L2
open PySem PySem.W PyProof.Rows PySem.Calls
theorem zadh {α β:Type}{R:α→β→Prop}:∀ {xs:List α}{ys:List β},xs.length=ys.length→(∀ (j:Nat) x y,xs[j]?=some x→ys[j]?=some y→R x y)→Paired R xs ys
 | [],[],_,_=>.nil
 | x :: xs,y :: ys,e,h=>.cons (h 0 x y rfl rfl) (zadh (by simpa using e) fun j a b h1 h2=>h (j + 1) a b (by simpa using h1) (by simpa using h2))
structure TabOk (P:Program) (w:World) (K:PySem.W.Frag) (mg:Str→Option Value) (base:Heap) (CX:CXT) (k:Nat) (ps:List Str) (sp:Addr→Sp) (A:Addr→Prop):Prop where
 at_:∀ f,A f→∃ fd:FuncData,FnOk P w K mg base CX k f fd ps (sp f)∧Binds K fd ps []∧PySem.W.keepIn K (.ref f)=true
def tCallV (sp:Addr→Sp) (A:Addr→Prop) (E:XK) (tf:TE) (t:TA):TE:=fun σ H Q=>tf σ H fun x H1=>∃ f,x=.ref f∧A f∧t σ H1 fun vs H2=>sp f vs H2 Q E
section
variable {X:Cx}
theorem zamk {CX:CXT}{k:Nat}{ps:List Str}{sp:Addr→Sp}{A:Addr→Prop}{E:XK}{o i e:Expr}{es:List Expr}{p pos:Pos}{tf:TE}{t:TA} (T:TabOk X.prog X.w X.K X.mg X.base CX k ps sp A) (hr:Room k X.A) (hx:Passes CX X E) (hf:Pr (PE X (.Subscript o i p) tf)) (ha:Pr (PA X (e :: es) t))
  (ht:eval (.Call (.Subscript o i p) (e :: es) [] pos) X.env=(eval (.Subscript o i p) X.env >>= fun f=>callWith pos f [] (backTo pos (starEach (e :: es) X.env)) (backToKw pos (keywordEach [] X.env))):=by rfl)
  (he:starEach (e :: es) X.env=(false,eval e X.env) :: starEach es X.env:=by rfl) (hpl:(backTo pos (starEach es X.env)).any (·.1)=false:=by rfl) :
  Pr (PE X (.Call (.Subscript o i p) (e :: es) [] pos) (tCallV sp A E tf t)):=by
 refine ⟨fun pins s σ H Q I h=>?_⟩
 rw [ht]
 refine wpAny_bind (thn (hf.h pins s σ H _ I h) fun u s1 ⟨x,H1,I1,rx,f,ex,af,q⟩=>?_)
 subst ex
 obtain rfl:u=Value.ref f:=rx
 obtain ⟨fd,F,b,kp⟩:=T.at_ f af
 refine PySem.W.callWith_K (h₀:=X.base) I.ok.mod.kin kp (thn (ha.h pos pins s1 σ H1 _ I1 q) fun us s2 ⟨vs,H2,I2,r,q2⟩=>⟨I2.kIn,?_⟩) he hpl
 exact zajy F hr b .nil hx I2 r (by rw [List.append_nil]; exact q2)
end
end L2

namespace L2
open PySem PySem.Spec PyProof.Rows
section
variable {X:Cx}
theorem zaiu {o:Expr}{td:TE}{apos cpos:Pos} (ho:Pr (PE X o td)) (hbase:attributeBase o "reverse" X.env (eval o X.env)=eval o X.env:=by rfl) (hline:(apos.endLine == cpos.line)=true:=by rfl):Pr (PE X (.Call (.Attribute o "reverse" apos) [] [] cpos) (tBM0 X.K "list" rReverse td)) :=
 ⟨zapm PySem.F.plainAttrs_list PySem.F.slot_list_reverse PySem.F.type_list_reverse zakv ho.h hbase hline⟩
end
end L2

namespace L2
open PySem PySem.Spec PyProof.Rows
theorem zaej {X:Cx} (K:PySem.W.Frag) (hK:X.K=K):CallR X (.type "list") (fun xs H Q=>∃ p ys,xs=[V.ref p]∧(SqL K H p ys∨SqT K H p ys)∧∀ (l:Addr),H l=none→Q (V.ref l) (upd H l (HO.lst ys))):=by subst hK; exact zab2
end L2

namespace L2
open PySem PySem.Spec PyProof.Rows
section
variable {X:Cx}
theorem zapo:OpR X (compareOp .Is) (fun x y H Q=>∃ a b,x=.bl a∧y=.bl b∧Q (.bl (a == b)) H):=by
 intro pins s σ H x y v u Q I rx ry h
 obtain ⟨a,b,rfl,rfl,q⟩:=h
 cases rx
 cases ry
 exact is_bool (zabw I q rfl)
end
end L2

set_option maxHeartbeats 4000000
namespace B17
open PySem L2
abbrev Vs (sc:Scope) (x:Str):Prop:=sc.names.lookup x=some NameKind.local∨sc.names.lookup x=some NameKind.cell∨sc.names.lookup x=some NameKind.free
abbrev Lc (sc:Scope) (x:Str):Prop:=sc.names.lookup x=some NameKind.local∨sc.names.lookup x=some NameKind.cell
abbrev Gi (sc:Scope) (x:Str):Prop:=sc.names.lookup x=some NameKind.globalImplicit
abbrev Nd (x:Str):Prop:=(x == ("__debug__" : Str))=false
abbrev Nc (x:Str):Prop:=(x == ("__classdict__" : Str))=false
local macro_rules | `(tactic| walk_at "few")=>`(tactic| (with_reducible show (List.length (α:=Str × V) _) < 1000); first | exact (by decide:0 < 1000) | exact (by decide:1 < 1000) | exact (by decide:2 < 1000) | exact (by decide:3 < 1000) | exact (by decide:4 < 1000) | exact (by decide:5 < 1000) | exact (by decide:6 < 1000))
local macro_rules | `(tactic| walk_at "get")=>`(tactic| first
 | with_reducible assumption
 | exact zaaf
 | (apply zacf; (focus with_reducible assumption); (focus walk_at "get"))
 | (apply zac1; (focus walk_at "ne"); (focus walk_at "get"))
 | (apply Ch.get; (focus with_reducible assumption); (focus walk_at "get"); (focus walk_at "notin")))
local macro_rules | `(tactic| walk_at "ne")=>`(tactic| first | with_reducible assumption | (apply Ne.symm; with_reducible assumption) | (apply zadb; (focus with_reducible assumption); (focus with_reducible assumption); (focus (intro z; cases z))))
local macro_rules | `(tactic| walk_at "notin")=>`(tactic| first | exact List.not_mem_nil | (simp only [List.mem_cons,List.not_mem_nil,or_false,not_or,not_false_eq_true]; first | walk_at "ne" | trivial))
local macro_rules | `(tactic| walk_at "scr")=>`(tactic| first
 | with_reducible assumption
 | (apply Scr.ch; (focus with_reducible assumption); (focus with_reducible assumption); (focus walk_at "ch"))
 | (apply Scr.same; (focus with_reducible assumption); (focus walk_at "ch")))
local macro_rules | `(tactic| walk_at "ch")=>`(tactic| first
 | with_reducible assumption
 | exact Ch.refl _ _
 | exact Ch.put
 | (apply Ch.new; with_reducible assumption)
 | (apply Ch.wk; with_reducible assumption)
 | (apply Ch.own; (focus with_reducible assumption); (focus walk_at "ch"))
 | (apply Ch.trans; (rotate_left; focus with_reducible assumption); (focus walk_at "ch"))
 | (apply Ch.trans; (rotate_left; focus (apply Ch.wk; with_reducible assumption)); (focus walk_at "ch"))
 | (apply Ch.trans; (rotate_left; focus exact Ch.put); (focus walk_at "ch"))
 | (apply Ch.trans; (rotate_left; focus (apply Ch.new; with_reducible assumption)); (focus walk_at "ch")))
local macro_rules | `(tactic| walk_at "sq")=>`(tactic| first
 | (apply Scr.sq; walk_at "scr")
 | (apply Exists.intro; walk_at "sq")
 | (refine (‹∀ H:Hp,SqT _ H _ _›) _)
 | (apply SqL.of; walk_at "get")
 | (apply SqT.of; walk_at "get")
 | (apply Or.inl; apply Scr.sq; walk_at "scr")
 | (apply Or.inl; apply SqL.of; walk_at "get")
 | (apply Or.inr; apply SqT.of; walk_at "get"))
local macro_rules | `(tactic| walk_at "arith")=>`(tactic| first
 | omega
 | (simp only [List.length_map,List.length_cons,List.length_nil,List.length_append,List.length_singleton,List.length_replicate]; done)
 | ((try dsimp only); (try simp only [List.length_map,List.length_cons,List.length_nil,List.length_append,List.length_singleton,List.length_replicate,sizeLine_eq]); omega)
 | ((try dsimp only); (try simp only [List.length_map,List.length_cons,List.length_nil,List.length_append,List.length_singleton,List.length_replicate,sizeLine_eq] at *); omega))
local macro_rules | `(tactic| walk_at "cond")=>`(tactic| first
 | (refine Or.inl (And.intro ?_ ?_) <;> walk_at "arith")
 | (refine Or.inr (And.intro ?_ ?_) <;> walk_at "arith")
 | (refine And.intro ?_ (And.intro ?_ ?_) <;> walk_at "arith")
 | (refine And.intro ?_ ?_ <;> walk_at "arith"))
local macro_rules | `(tactic| walk_at "len")=>`(tactic| first
 | with_reducible assumption
 | exact len_one
 | (apply len_slice; walk_at "len")
 | (apply len_app; (focus walk_at "len"); (focus walk_at "len"))
 | exact Nat.le_refl _)
local macro_rules | `(tactic| walk_at "lens")=>`(tactic| first
 | (apply len_sum; (focus walk_at "len"); (focus walk_at "len"); (focus first | decide +kernel | walk_at "arith"))
 | (apply len_top; (focus walk_at "len"); (focus first | decide +kernel | walk_at "arith")))
local macro_rules | `(tactic| walk_at "side")=>`(tactic| first
 | with_reducible rfl | with_reducible assumption | walk_at "sq" | walk_at "get" | walk_at "scr" | walk_at "ch" | walk_at "ty" | exact TyOf.int _ | exact TyOf.str _ | (apply TyOf.tup; walk_at "get") | (apply TyOf.lst; walk_at "get") | exact TyOf.bl _ | exact TyOf.non | walk_at "few" | decide | omega | walk_at "arith" | walk_at "cond" | ((try simp only [List.length_map]); with_reducible assumption) | walk_at "lens" | (apply Or.inr; with_reducible assumption) | walk_at "user" | exact rfl | assumption)
local macro_rules | `(tactic| walk_at "ty")=>`(tactic| (refine Or.inl (And.intro rfl ?_); apply Exists.intro; walk_at "sq"))
local macro_rules | `(tactic| walk_at "user")=>`(tactic| fail)
local macro_rules | `(tactic| walk_at "rd1")=>`(tactic| first
 | apply Exists.intro
 | (refine And.intro rfl ?_)
 | (refine And.intro (show V.str _=L2.kV (Sum.inr _) from rfl) ?_)
 | (refine And.intro (show V.int _=L2.kV (Sum.inl _) from rfl) ?_)
 | (refine And.intro (L2.zaor _ _) ?_)
 | (apply And.intro; (focus (walk_at "side"; done)))
 | apply Atx.head
 | (apply Atx.of; (focus first | exact rfl | with_reducible assumption | ((try simp only [List.length_map]); with_reducible assumption)))
 | (apply Or.inl; apply Exists.intro; (refine And.intro rfl ?_))
 | (apply Or.inr; apply Exists.intro; (refine And.intro rfl ?_))
 | (apply Or.inl; apply And.intro; (focus walk_at "sq"))
 | (apply Or.inr; apply And.intro; (focus walk_at "sq"))
 | (intro _)
 | walk_at "fin")
local macro_rules | `(tactic| walk_at "fin")=>`(tactic| first | exact rfl | (walk_at "get"; done))
local macro_rules | `(tactic| walk_at "rd")=>`(tactic| repeat walk_at "rd1")
section
def top (i:Nat):Stmt:=PySem.Challenge.pw_bitfloor_k24_made_small_shown.main.body.getD i (.Pass ⟨0,0,0,0⟩)
def SqX (k:SK) (H:Hp) (a:Addr) (xs:List V):Prop:=match k with
 | .list=>H a=some (.lst xs)
 | .tuple=>H a=some (.tup xs)
section
variable {P:Program}{w:World}{K:PySem.W.Frag}{mg:Str→Option Value}{base:Heap}{f:Addr}{fd:FuncData}{k:Nat}
theorem zaam:bootBuiltins "isinstance" = some (.builtin "isinstance"):=by decide +kernel
theorem zagw:bootBuiltins "bool" = some (.type "bool"):=by decide +kernel
theorem zagx:("bool" : Str) ≠ "__name__" := by decide +kernel
theorem zagy:Nd "bool" := by decide +kernel
theorem zaan:("isinstance" : Str) ≠ "__name__" := by decide +kernel
theorem zaao:Nd "isinstance" := by decide +kernel
theorem zakb:bootBuiltins "int" = some (.type "int"):=by decide +kernel
theorem zakc:("int" : Str) ≠ "__name__" := by decide +kernel
theorem zakd:Nd "int" := by decide +kernel
theorem zaiv:Nd "is_whole" := by decide +kernel
theorem zabm:bootBuiltins "tuple" = some (.type "tuple"):=by decide +kernel
theorem zabn:("tuple" : Str) ≠ "__name__" := by decide +kernel
theorem zabo:Nd "tuple" := by decide +kernel
theorem zab7:bootBuiltins "list" = some (.type "list"):=by decide +kernel
theorem zab8:("list" : Str) ≠ "__name__" := by decide +kernel
theorem zab9:Nd "list" := by decide +kernel
theorem zae8:bootBuiltins "str" = some (.type "str"):=by decide +kernel
theorem zae9:("str" : Str) ≠ "__name__" := by decide +kernel
theorem zafa:Nd "str" := by decide +kernel
theorem zaba:("len" : Str) ≠ "__name__" := by decide +kernel
theorem zabb:Nd "len" := by decide +kernel
theorem zadd:Nd "is_below" := by decide +kernel
theorem zad6:Nd "FEED_COUNTS" := by decide +kernel
theorem zaek:bootBuiltins "all" = some (.builtin "all"):=by decide +kernel
theorem zael:("all" : Str) ≠ "__name__" := by decide +kernel
theorem zaem:Nd "all" := by decide +kernel
theorem zagi:Nd "is_gate" := by decide +kernel
theorem gl4:AG (defScope (top 4)) ["isinstance", "bool", "int"]:=⟨by decide +kernel⟩
theorem av4:AF (defScope (top 4)) ["thing"]:=⟨by decide +kernel⟩
def spWhole:Sp:=fun vs H Q _=>∃ i:Int,vs=[.int i]∧Q (.bl true) H
theorem scWhole:FnScope ["thing"] ["thing"] (defScope (top 4)):=⟨rfl,rfl,rfl,by decide +kernel,rfl,by decide +kernel,by decide +kernel⟩
theorem zaow (F:Fun K "is_whole" "is_whole" (top 4) f fd) (z_isinstance:mg "isinstance" = none) (z_int:mg "int" = none) (z_bool:mg "bool" = none):FnOk P w K mg base CX0 (k + 1) f fd ["thing"] spWhole:=by
 have nd:=scWhole.nd
 refine F.ok scWhole (fun vs H Q E h=>by obtain ⟨i,rfl,_⟩:=h; rfl) (fun cdv A outer s H vs Q E hr h=>?_)
 obtain ⟨i,rfl,q⟩:=h
 refine ⟨_,(Pr.h (zaae (zaak (zaa8 (zaah zaa2 (gl4.g 0 rfl) z_isinstance zaam (zaaa (qv av4 0 rfl) (zaaa (zaaz (v:=.ty "int") (gl4.g 2 rfl) z_int zakb rfl zakc zakd) zaab)) zaan zaao) (zaa9 (zagt (zaah zaa2 (gl4.g 0 rfl) z_isinstance zaam (zaaa (qv av4 0 rfl) (zaaa (zaaz (v:=.ty "bool") (gl4.g 1 rfl) z_bool zagw rfl zagx zagy) zaab)) zaan zaao))))))),?_⟩
 (try dsimp only [cxOf])
 walk_at "rd"
 exact q
theorem av5:AF (defScope (top 5)) ["thing", "bound"]:=⟨by decide +kernel⟩
theorem gl5:AG (defScope (top 5)) ["is_whole"]:=⟨by decide +kernel⟩
def spBelow:Sp:=fun vs H Q _=>∃ i b:Int,vs=[.int i,.int b]∧0≤i∧i < b∧Q (.bl true) H
theorem scBelow:FnScope ["thing", "bound"] ["thing", "bound"] (defScope (top 5)):=⟨rfl,rfl,rfl,by decide +kernel,rfl,by decide +kernel,by decide +kernel⟩
theorem zaox (F:Fun K "is_below" "is_below" (top 5) f fd) (Dis_whole:DefOk P w K mg base CX0 k "is_whole" ["thing"] spWhole):FnOk P w K mg base CX0 (k + 1) f fd ["thing", "bound"] spBelow:=by
 have nd:=scBelow.nd
 refine F.ok scBelow (fun vs H Q E h=>by obtain ⟨i,b,rfl,_⟩:=h; rfl) (fun cdv A outer s H vs Q E hr h=>?_)
 obtain ⟨i,b,rfl,h0,h1,q⟩:=h
 refine ⟨_,(Pr.h (zaae (zaak (zaa8 (zaai Dis_whole hr (gl5.g 0 rfl) pass0 (zaaa (qv av5 0 rfl) zaab zaac) zaiv) (zaa9 (zal7 zau2 zata zaag (qv av5 0 rfl) (qv av5 1 rfl))))))),?_⟩
 (try dsimp only [cxOf])
 walk_at "rd"
 refine iteD h0 ?_
 walk_at "rd"
 show Q (.bl (decide (i < b))) H
 rw [decide_eq_true h1]
 exact q
theorem gl6:AG (defScope (top 6)) ["tuple", "list", "isinstance"]:=⟨by decide +kernel⟩
theorem av6:AF (defScope (top 6)) ["thing"]:=⟨by decide +kernel⟩
def spListed:Sp:=fun vs H Q _=>∃ (kd:SK) (a:Addr) (xs:List V),vs=[.ref a]∧SqX kd H a xs∧∀ H',Ch [] H H'→Q (.bl true) H'
theorem scListed:FnScope ["thing"] ["thing"] (defScope (top 6)):=⟨rfl,rfl,rfl,by decide +kernel,rfl,by decide +kernel,by decide +kernel⟩
theorem zaml (F:Fun K "is_listed" "is_listed" (top 6) f fd) (z_isinstance:mg "isinstance" = none) (z_list:mg "list" = none) (z_tuple:mg "tuple" = none):FnOk P w K mg base CX0 (k + 1) f fd ["thing"] spListed:=by
 have nd:=scListed.nd
 refine F.ok scListed (fun vs H Q E h=>by obtain ⟨kd,a,xs,rfl,_⟩:=h; rfl) (fun cdv A outer s H vs Q E hr h=>?_)
 obtain ⟨kd,a,xs,rfl,hx,q⟩:=h
 refine ⟨_,(Pr.h (zaae (zaak (zaah zamg (gl6.g 2 rfl) z_isinstance zaam (zaaa (qv av6 0 rfl) (zaaa (zaax (zaaa (zaaz (v:=.ty "list") (gl6.g 1 rfl) z_list zab7 rfl zab8 zab9) (zaaa (zaaz (v:=.ty "tuple") (gl6.g 0 rfl) z_tuple zabm rfl zabn zabo) zaab zaac) zaac)) zaab)) zaan zaao)))),?_⟩
 (try dsimp only [cxOf])
 cases kd with
 | list =>
  have hx:H a=some (.lst xs):=hx
  walk_at "rd"
  exact q _ (Ch.new (by assumption) _)
 | tuple =>
  have hx:H a=some (.tup xs):=hx
  walk_at "rd"
  exact q _ (Ch.new (by assumption) _)
end
inductive Gt where
 | inp | zero | one
 | keep (f:Int) (a:Nat)
 | not (a:Nat)
 | and (a b:Nat)
 | or (a b:Nat)
 | xor (a b:Nat)
 | pick (a b c:Nat)
deriving DecidableEq
def Gt.vs:Gt→List V
 | .inp=>[.str "in"]
 | .zero=>[.str "zero"]
 | .one=>[.str "one"]
 | .keep f a=>[.str "keep",.int f,.int a]
 | .not a=>[.str "not",.int a]
 | .and a b=>[.str "and",.int a,.int b]
 | .or a b=>[.str "or",.int a,.int b]
 | .xor a b=>[.str "xor",.int a,.int b]
 | .pick a b c=>[.str "pick",.int a,.int b,.int c]
def Gt.ok (i n:Nat):Gt→Prop
 | .inp=>True
 | .zero=>True
 | .one=>True
 | .keep f a=>0≤f∧f < 2∧a < n
 | .not a=>a < i
 | .and a b=>a < i∧b < i
 | .or a b=>a < i∧b < i
 | .xor a b=>a < i∧b < i
 | .pick a b c=>a < i∧b < i∧c < i
structure Gs (H:Hp) (gs:List Gt) (xs:List V):Prop where
 len:xs.length=gs.length
 at_:∀ (i:Nat) (g:Gt),gs[i]?=some g→∃ p,xs[i]?=some (.ref p)∧H p=some (.tup g.vs)
theorem Gs.tu {H H':Hp}{gs:List Gt}{xs:List V} (h:Gs H gs xs) (t:Tu H H'):Gs H' gs xs:=⟨h.len,fun i g e=>let ⟨p,a,b⟩:=h.at_ i g e; ⟨p,a,t p _ b⟩⟩
def Oks (gs:List Gt):Prop:=∀ (i:Nat) (g:Gt),gs[i]?=some g→g.ok i gs.length
def FC:List (Str × Int):=[("in",0),("zero",0),("one",0),("not",1),("and",2),("or",2),("xor",2),("pick",3)]
theorem zacz {K:PySem.W.Frag}{pt:Addr}{zs:List Int}{i:Int}{H:Hp}{Q':List V→Hp→Prop} (hz:∀ z∈zs,0≤z∧z < i) (hp:H pt=some (.tup (zs.map V.int))) (hl:zs.length < 100)
  (h:∀ ys H',Ch [] H H'→ys=List.replicate zs.length (V.bl true)→Q' ys H'):Comp (Itt K pt) (gName 0) tYes (tCall spBelow [] E0 (tCons (tVar 0) (tCons (tVar 1) tNil))) Q' [none,some (.int i)] H:=by
 refine zaef (zs.map V.int) (fun j ys σ H'=>H'=H∧ys=List.replicate j (V.bl true)∧∃ u,σ=[u,some (.int i)]) (by rw [List.length_map,sizeLine_eq]; omega) ⟨rfl,rfl,_,rfl⟩ ?_ ?_ ?_
 ·rintro j ys σ H' hj ⟨rfl,rfl,u,rfl⟩
  exact ⟨by simp,SqT.of hp⟩
 ·rintro j ys σ H' x hx ⟨rfl,rfl,u,rfl⟩
  obtain ⟨z,hz',rfl⟩:∃ z∈zs,x=.int z:=by
   rw [List.getElem?_map] at hx
   obtain ⟨z,h1,h2⟩:=Option.map_eq_some_iff.mp hx
   exact ⟨z,List.mem_of_getElem? h1,h2.symm⟩
  obtain ⟨h0,h1⟩:=hz z hz'
  exact ⟨_,rfl,_,rfl,z,i,rfl,h0,h1,rfl,by rw [← List.replicate_succ'],_,rfl⟩
 ·rintro ys σ H' ⟨rfl,rfl,_⟩
  exact h _ _ (Ch.refl _ _) (by rw [List.length_map])
section
variable {P:Program}{w:World}{K:PySem.W.Frag}{mg:Str→Option Value}{base:Heap}{f:Addr}{fd:FuncData}{k:Nat}
theorem gl10:AG (defScope (top 10)) ["isinstance", "str", "len", "tuple", "is_below", "FEED_COUNTS", "all"]:=⟨by decide +kernel⟩
theorem av10:AF (defScope (top 10)) ["thing", "ahead", "total"]:=⟨by decide +kernel⟩
def zagz:Scope:={ kind:=PySem.ScopeKind.function,names:=[ (PySem.Str.ofString ".0",PySem.NameKind.local),(PySem.Str.ofString "feed",PySem.NameKind.local),(PySem.Str.ofString "is_below",PySem.NameKind.globalImplicit),(PySem.Str.ofString "ahead",PySem.NameKind.free)],isGenerator:=false,isCoroutine:=false,more:=[]:PySem.Scope }
theorem zamm:CompOk zagz (defScope (top 10)) (["feed"]:List Str) (["thing", "ahead", "total"]:List Str) [1] (["feed", "ahead"]:List Str):=compOk rfl (by decide +kernel) (by decide +kernel) (by decide +kernel) (by decide +kernel) rfl (by decide +kernel)
theorem zamn:AK (relab zagz (defScope (top 10))) ["feed"]:=⟨by decide +kernel⟩
theorem zarf:AG (relab zagz (defScope (top 10))) ["is_below"]:=⟨by decide +kernel⟩
theorem zamo:AV (relab zagz (defScope (top 10))) ["feed", "ahead"]:=⟨by decide +kernel⟩
def spGate:Sp:=fun vs H Q _=>∃ (p:Addr) (g:Gt) (i n:Nat) (i' n':Int),vs=[.ref p,.int i',.int n']∧H p=some (.tup g.vs)∧i'=(i:Int)∧n'=(n:Int)∧g.ok i n∧∀ H',Ch [] H H'→Q (.bl true) H'
theorem scGate:FnScope ["thing", "ahead", "total"] ["thing", "ahead", "total"] (defScope (top 10)):=⟨rfl,rfl,rfl,by decide +kernel,rfl,by decide +kernel,by decide +kernel⟩
theorem zarg {fa:Addr}{kvs:List (Key × V)} (F:Fun K "is_gate" "is_gate" (top 10) f fd) (Dis_below:DefOk P w K mg base CX0 k "is_below" ["thing", "bound"] spBelow)
  (m_FEED_COUNTS:mg "FEED_COUNTS" = some (.ref fa)) (hKD:KD P w K fa kvs) (hF:∀ w n,(w,n)∈FC→valV kvs (Sum.inr w)=some (.int n))
  (z_isinstance:mg "isinstance" = none) (z_tuple:mg "tuple" = none) (z_str:mg "str" = none) (z_len:mg "len" = none) (z_all:mg "all" = none):FnOk P w K mg base CX0 (k + 1) f fd ["thing", "ahead", "total"] spGate:=by
 have nd:=scGate.nd
 refine F.ok scGate (fun vs H Q E h=>by obtain ⟨p,g,i,n,i',n',rfl,_⟩:=h; rfl) (fun cdv A outer s H vs Q E hr h=>?_)
 obtain ⟨p,g,i,n,i',n',rfl,hp,rfl,rfl,hok,q⟩:=h
 refine ⟨_,(Pr.h (zaad (zaav (zabt (zabz (zab6 (zaay (zaah zaa2 (gl10.g 0 rfl) z_isinstance zaam (zaaa (qv av10 0 rfl) (zaaa (zaaz (v:=.ty "tuple") (gl10.g 3 rfl) z_tuple zabm rfl zabn zabo) zaab)) zaan zaao))) (zabz (zaar zabh (zaah zaap (gl10.g 2 rfl) z_len PySem.boot_len (zaaa (qv av10 0 rfl) zaab zaac) zaba zabb) zaag (nomark _)) (zabr (zab6 (zaay (zaah zaa2 (gl10.g 0 rfl) z_isinstance zaam (zaaa (zaat zaa0 (qv av10 0 rfl) zaag (fun _ _=>rfl)) (zaaa (zaaz (v:=.ty "str") (gl10.g 1 rfl) z_str zae8 rfl zae9 zafa) zaab)) zaan zaao))))))) (zaae (zaak zabl)) zaal) (zaad (zaav (zaar zabh (zaat zaa0 (qv av10 0 rfl) zaag (fun _ _=>rfl)) zaas (nomark _)) (zaae (zaak (zaa8 (zaa3 zabh (zaah zaap (gl10.g 2 rfl) z_len PySem.boot_len (zaaa (qv av10 0 rfl) zaab zaac) zaba zabb) zaag (nomark _)) (zaa8 (zaai Dis_below hr (gl10.g 4 rfl) pass0 (zaaa (zaat zaa0 (qv av10 0 rfl) zaag (fun _ _=>rfl)) (zaaa zaag zaab zaaj) zaaq) zadd) (zaa9 (zaai Dis_below hr (gl10.g 4 rfl) pass0 (zaaa (zaat zaa0 (qv av10 0 rfl) zaag (fun _ _=>rfl)) (zaaa (qv av10 2 rfl) zaab zaac) zaaq) zadd)))))) zaal) (zaad (zaav (zabt (zabz (zaar zags (zaat zaa0 (qv av10 0 rfl) zaag (fun _ _=>rfl)) (zad3 (v:=.ref _) (gl10.g 5 rfl) m_FEED_COUNTS rfl zad6) rfl) (zabr (zaar zadn (zaah zaap (gl10.g 2 rfl) z_len PySem.boot_len (zaaa (qv av10 0 rfl) zaab zaac) zaba zabb) (zaa4 zadm zaag (zal8 (zad3 (v:=.ref _) (gl10.g 5 rfl) m_FEED_COUNTS rfl zad6) (zaat zaa0 (qv av10 0 rfl) zaag (fun _ _=>rfl)) (fun _ _=>rfl))) (nomark _))))) (zaae (zaak zabl)) zaal) (zaae (zaak (zaah (zac9 rfl) (gl10.g 6 rfl) z_all zaek (zaaa (zacb rfl zamm (zad7 (zaee zaj1 (qv av10 0 rfl) (zafi zaag) zafh)) (fun _ _ _ _ _=>(zaau (i:=0) zamm.nd rfl (Or.inl (zamn.k 0 rfl)) (Or.inr (zamn.k 0 rfl)))) (fun _ _ _ _ _=>zabx) (fun _ _ _ _ _=>(zaai Dis_below hr (zarf.g 0 rfl) pass0 (zaaa (qw zamo 0 rfl) (zaaa (qw zamo 1 rfl) zaab zaac) zaac) zadd))) zaab zabg) zael zaem))))))),?_⟩
 (try dsimp only [cxOf])
 cases g with
 | inp =>
  have hv:=hF "in" 0 (by decide +kernel)
  have hp:H p=some (.tup [.str "in"]):=hp
  walk_at "rd"
  rw [hv]
  refine iteF ?_
  walk_at "rd"
  rename_i pt hpt
  refine zacz (zs:=[]) (by simp <;> omega) (by rw [zaaf,cut1]; rfl) (by simp) fun ys H' c e=>?_
  subst e
  intro D hD
  exact ⟨D,[],rfl,zaaf,q _ (((Ch.new hpt _).trans c).trans (Ch.new hD _))⟩
 | zero =>
  have hv:=hF "zero" 0 (by decide +kernel)
  have hp:H p=some (.tup [.str "zero"]):=hp
  walk_at "rd"
  rw [hv]
  refine iteF ?_
  walk_at "rd"
  rename_i pt hpt
  refine zacz (zs:=[]) (by simp <;> omega) (by rw [zaaf,cut1]; rfl) (by simp) fun ys H' c e=>?_
  subst e
  intro D hD
  exact ⟨D,[],rfl,zaaf,q _ (((Ch.new hpt _).trans c).trans (Ch.new hD _))⟩
 | one =>
  have hv:=hF "one" 0 (by decide +kernel)
  have hp:H p=some (.tup [.str "one"]):=hp
  walk_at "rd"
  rw [hv]
  refine iteF ?_
  walk_at "rd"
  rename_i pt hpt
  refine zacz (zs:=[]) (by simp <;> omega) (by rw [zaaf,cut1]; rfl) (by simp) fun ys H' c e=>?_
  subst e
  intro D hD
  exact ⟨D,[],rfl,zaaf,q _ (((Ch.new hpt _).trans c).trans (Ch.new hD _))⟩
 | not a =>
  have hv:=hF "not" 1 (by decide +kernel)
  have hp:H p=some (.tup [.str "not",.int a]):=hp
  have ha:a < i:=hok
  walk_at "rd"
  rw [hv]
  refine iteF ?_
  walk_at "rd"
  rename_i pt hpt
  refine zacz (zs:=[(a:Int)]) (by simp <;> omega) (by rw [zaaf,cut1]; rfl) (by simp) fun ys H' c e=>?_
  subst e
  intro D hD
  exact ⟨D,[true],rfl,zaaf,q _ (((Ch.new hpt _).trans c).trans (Ch.new hD _))⟩
 | and a b =>
  have hv:=hF "and" 2 (by decide +kernel)
  have hp:H p=some (.tup [.str "and",.int a,.int b]):=hp
  obtain ⟨ha,hb⟩:a < i∧b < i:=hok
  walk_at "rd"
  rw [hv]
  refine iteF ?_
  walk_at "rd"
  rename_i pt hpt
  refine zacz (zs:=[(a:Int),(b:Int)]) (by simp <;> omega) (by rw [zaaf,cut1]; rfl) (by simp) fun ys H' c e=>?_
  subst e
  intro D hD
  exact ⟨D,[true,true],rfl,zaaf,q _ (((Ch.new hpt _).trans c).trans (Ch.new hD _))⟩
 | or a b =>
  have hv:=hF "or" 2 (by decide +kernel)
  have hp:H p=some (.tup [.str "or",.int a,.int b]):=hp
  obtain ⟨ha,hb⟩:a < i∧b < i:=hok
  walk_at "rd"
  rw [hv]
  refine iteF ?_
  walk_at "rd"
  rename_i pt hpt
  refine zacz (zs:=[(a:Int),(b:Int)]) (by simp <;> omega) (by rw [zaaf,cut1]; rfl) (by simp) fun ys H' c e=>?_
  subst e
  intro D hD
  exact ⟨D,[true,true],rfl,zaaf,q _ (((Ch.new hpt _).trans c).trans (Ch.new hD _))⟩
 | xor a b =>
  have hv:=hF "xor" 2 (by decide +kernel)
  have hp:H p=some (.tup [.str "xor",.int a,.int b]):=hp
  obtain ⟨ha,hb⟩:a < i∧b < i:=hok
  walk_at "rd"
  rw [hv]
  refine iteF ?_
  walk_at "rd"
  rename_i pt hpt
  refine zacz (zs:=[(a:Int),(b:Int)]) (by simp <;> omega) (by rw [zaaf,cut1]; rfl) (by simp) fun ys H' c e=>?_
  subst e
  intro D hD
  exact ⟨D,[true,true],rfl,zaaf,q _ (((Ch.new hpt _).trans c).trans (Ch.new hD _))⟩
 | pick a b c =>
  have hv:=hF "pick" 3 (by decide +kernel)
  have hp:H p=some (.tup [.str "pick",.int a,.int b,.int c]):=hp
  obtain ⟨ha,hb,hc⟩:a < i∧b < i∧c < i:=hok
  walk_at "rd"
  rw [hv]
  refine iteF ?_
  walk_at "rd"
  rename_i pt hpt
  refine zacz (zs:=[(a:Int),(b:Int),(c:Int)]) (by simp <;> omega) (by rw [zaaf,cut1]; rfl) (by simp) fun ys H' c e=>?_
  subst e
  intro D hD
  exact ⟨D,[true,true,true],rfl,zaaf,q _ (((Ch.new hpt _).trans c).trans (Ch.new hD _))⟩
 | keep ff a =>
  have hp:H p=some (.tup [.str "keep",.int ff,.int a]):=hp
  obtain ⟨h1,h2,h3⟩:0≤ff∧ff < 2∧a < n:=hok
  walk_at "rd"
  exact q _ (Ch.refl _ _)
theorem av13:AF (defScope (top 13)) ["gate"]:=⟨by decide +kernel⟩
theorem gl13:AG (defScope (top 13)) ["list"]:=⟨by decide +kernel⟩
def Gt.feeds:Gt→List Nat
 | .inp=>[]
 | .zero=>[]
 | .one=>[]
 | .keep f a=>[a]
 | .not a=>[a]
 | .and a b=>[a,b]
 | .or a b=>[a,b]
 | .xor a b=>[a,b]
 | .pick a b c=>[a,b,c]
theorem freeN {H:Hp}{p r:Addr}{o:HO} (hp:H p=none) (hr:upd H p o r=none):H r=none:=by
 by_cases e:r=p
 ·rw [e]; exact hp
 ·rw [zabq e] at hr; exact hr
def nV (a:Nat):V:=.int (a:Int)
def spFeeds:Sp:=fun vs H Q _=>∃ (p:Addr) (g:Gt),vs=[.ref p]∧H p=some (.tup g.vs)∧∀ r H',Ch [] H H'→H r=none→H' r=some (.lst (g.feeds.map nV))→Q (.ref r) H'
theorem scFeeds:FnScope ["gate"] ["gate"] (defScope (top 13)):=⟨rfl,rfl,rfl,by decide +kernel,rfl,by decide +kernel,by decide +kernel⟩
theorem zaoy (F:Fun K "feeds_of" "feeds_of" (top 13) f fd) (z_list:mg "list" = none):FnOk P w K mg base CX0 (k + 1) f fd ["gate"] spFeeds:=by
 have nd:=scFeeds.nd
 refine F.ok scFeeds (fun vs H Q E h=>by obtain ⟨p,g,rfl,_⟩:=h; rfl) (fun cdv A outer s H vs Q E hr h=>?_)
 obtain ⟨p,g,rfl,hp,q⟩:=h
 refine ⟨_,(Pr.h (zaad (zaav (zaar zabh (zaat zaa0 (qv av13 0 rfl) zaag (fun _ _=>rfl)) zaas (nomark _)) (zaae (zaak (zact (zaaa (zaat zaa0 (qv av13 0 rfl) zaag (fun _ _=>rfl)) zaab zaaq)))) zaal) (zaae (zaak (zabd zab2 (gl13.g 0 rfl) z_list zab7 (zaaa (zaee zaj1 (qv av13 0 rfl) (zafi zaag) zafh) zaab zaaq) zab8 zab9))))),?_⟩
 (try dsimp only [cxOf])
 cases g with
 | keep ff a =>
  have hp:H p=some (.tup [.str "keep",.int ff,.int a]):=hp
  walk_at "rd"
  exact q _ _ (Ch.new (by assumption) _) (by assumption) zaaf
 | inp =>
  have hp:H p=some (.tup [.str "in"]):=hp
  walk_at "rd"
  rename_i pt hpt r hr1
  exact q _ _ ((Ch.new hpt _).trans (Ch.new hr1 _)) (freeN hpt hr1) (by rw [zaaf,cut1]; rfl)
 | zero =>
  have hp:H p=some (.tup [.str "zero"]):=hp
  walk_at "rd"
  rename_i pt hpt r hr1
  exact q _ _ ((Ch.new hpt _).trans (Ch.new hr1 _)) (freeN hpt hr1) (by rw [zaaf,cut1]; rfl)
 | one =>
  have hp:H p=some (.tup [.str "one"]):=hp
  walk_at "rd"
  rename_i pt hpt r hr1
  exact q _ _ ((Ch.new hpt _).trans (Ch.new hr1 _)) (freeN hpt hr1) (by rw [zaaf,cut1]; rfl)
 | not a =>
  have hp:H p=some (.tup [.str "not",.int a]):=hp
  walk_at "rd"
  rename_i pt hpt r hr1
  exact q _ _ ((Ch.new hpt _).trans (Ch.new hr1 _)) (freeN hpt hr1) (by rw [zaaf,cut1]; rfl)
 | and a b =>
  have hp:H p=some (.tup [.str "and",.int a,.int b]):=hp
  walk_at "rd"
  rename_i pt hpt r hr1
  exact q _ _ ((Ch.new hpt _).trans (Ch.new hr1 _)) (freeN hpt hr1) (by rw [zaaf,cut1]; rfl)
 | or a b =>
  have hp:H p=some (.tup [.str "or",.int a,.int b]):=hp
  walk_at "rd"
  rename_i pt hpt r hr1
  exact q _ _ ((Ch.new hpt _).trans (Ch.new hr1 _)) (freeN hpt hr1) (by rw [zaaf,cut1]; rfl)
 | xor a b =>
  have hp:H p=some (.tup [.str "xor",.int a,.int b]):=hp
  walk_at "rd"
  rename_i pt hpt r hr1
  exact q _ _ ((Ch.new hpt _).trans (Ch.new hr1 _)) (freeN hpt hr1) (by rw [zaaf,cut1]; rfl)
 | pick a b c =>
  have hp:H p=some (.tup [.str "pick",.int a,.int b,.int c]):=hp
  walk_at "rd"
  rename_i pt hpt r hr1
  exact q _ _ ((Ch.new hpt _).trans (Ch.new hr1 _)) (freeN hpt hr1) (by rw [zaaf,cut1]; rfl)
def numsOf (t:Gt→Bool):List Gt→Nat→List Nat
 | [],_=>[]
 | g :: gs,i=>if t g then i :: numsOf t gs (i + 1) else numsOf t gs (i + 1)
def Gt.isIn:Gt→Bool
 | .inp=>true
 | _=>false
def Gt.isKeep:Gt→Bool
 | .keep _ _=>true
 | _=>false
theorem zads (t:Gt→Bool):∀ (a b:List Gt) (i:Nat),numsOf t (a++b) i=numsOf t a i++numsOf t b (i + a.length)
 | [],b,i=>by simp [numsOf]
 | g :: a,b,i=>by
  have:=zads t a b (i + 1)
  simp only [List.cons_append,numsOf,List.length_cons]
  rw [this,show i + 1 + a.length=i + (a.length + 1) by omega]
  split <;> simp
theorem zaiw (t:Gt→Bool) {gs:List Gt}{i:Nat}{g:Gt} (h:gs[i]?=some g):numsOf t (gs.take (i + 1)) 0=numsOf t (gs.take i) 0++if t g then [i] else []:=by
 have hi:i < gs.length:=(List.getElem?_eq_some_iff.mp h).1
 rw [List.take_add_one,h,zads]
 simp only [Option.toList_some,numsOf,Nat.zero_add,List.length_take,Nat.min_eq_left (Nat.le_of_lt hi)]
theorem zagj (t:Gt→Bool):∀ (gs:List Gt) (i:Nat),(numsOf t gs i).length≤gs.length
 | [],_=>by simp [numsOf]
 | g :: gs,i=>by
  have:=zagj t gs (i + 1)
  simp only [numsOf,List.length_cons]
  split <;> simp <;> omega
end
theorem chFree {H H':Hp} (c:Ch [] H H') {r:Addr} (h:H' r=none):H r=none:=by
 cases e:H r with
 | none=>rfl
 | some o=>rw [c r o e (by simp)] at h; cases h
def fldsNet (gp op:Addr):List (Str × V):=[("gates",.ref gp),("outs",.ref op)]
theorem zack (gp op:Addr):List.lookup (Str.ofString "gates") (fldsNet gp op)=some (.ref gp):=rfl
theorem zac0 (gp op:Addr):List.lookup (Str.ofString "outs") (fldsNet gp op)=some (.ref op):=rfl
structure NetAt (C:Addr) (H:Hp) (nt gp op:Addr) (gs:List Gt) (xs:List V) (os:List Nat):Prop where
 ob:∃ dx,H nt=some (.ins C dx (fldsNet gp op))
 gt:H gp=some (.tup xs)
 gg:Gs H gs xs
 ot:H op=some (.tup (os.map nV))
section
variable {P:Program}{w:World}{K:PySem.W.Frag}{mg:Str→Option Value}{base:Heap}{f:Addr}{fd:FuncData}{k:Nat}
theorem zag0:∀ g:Gt,∃ (wd:Str) (rs:List V),g.vs=.str wd :: rs∧decide (V.str wd=V.str "in")=g.isIn
 | .inp=>⟨_,_,rfl,rfl⟩
 | .zero=>⟨_,_,rfl,rfl⟩
 | .one=>⟨_,_,rfl,rfl⟩
 | .keep _ _=>⟨_,_,rfl,rfl⟩
 | .not _=>⟨_,_,rfl,rfl⟩
 | .and _ _=>⟨_,_,rfl,rfl⟩
 | .or _ _=>⟨_,_,rfl,rfl⟩
 | .xor _ _=>⟨_,_,rfl,rfl⟩
 | .pick _ _ _=>⟨_,_,rfl,rfl⟩
theorem zah4:∀ g:Gt,∃ (wd:Str) (rs:List V),g.vs=.str wd :: rs∧decide (V.str wd=V.str "keep")=g.isKeep
 | .inp=>⟨_,_,rfl,rfl⟩
 | .zero=>⟨_,_,rfl,rfl⟩
 | .one=>⟨_,_,rfl,rfl⟩
 | .keep _ _=>⟨_,_,rfl,rfl⟩
 | .not _=>⟨_,_,rfl,rfl⟩
 | .and _ _=>⟨_,_,rfl,rfl⟩
 | .or _ _=>⟨_,_,rfl,rfl⟩
 | .xor _ _=>⟨_,_,rfl,rfl⟩
 | .pick _ _ _=>⟨_,_,rfl,rfl⟩
theorem gl12:AG (defScope (top 12)) ["enumerate"]:=⟨by decide +kernel⟩
theorem av12:AF (defScope (top 12)) ["net"]:=⟨by decide +kernel⟩
def zaix:Scope:={ kind:=PySem.ScopeKind.function,names:=[ (PySem.Str.ofString ".0",PySem.NameKind.local),(PySem.Str.ofString "number",PySem.NameKind.local),(PySem.Str.ofString "gate",PySem.NameKind.local)],isGenerator:=false,isCoroutine:=false,more:=[]:PySem.Scope }
theorem zaiy:CompOk zaix (defScope (top 12)) (["number", "gate"]:List Str) (["net"]:List Str) [] (["number", "gate"]:List Str):=compOk rfl (by decide +kernel) (by decide +kernel) (by decide +kernel) (by decide +kernel) rfl (by decide +kernel)
theorem zag1:AK (relab zaix (defScope (top 12))) ["number", "gate"]:=⟨by decide +kernel⟩
theorem zamp:AV (relab zaix (defScope (top 12))) ["number", "gate"]:=⟨by decide +kernel⟩
def spIns (C:Addr):Sp:=fun vs H Q _=>∃ (nt gp op:Addr) (gs:List Gt) (xs:List V) (os:List Nat),vs=[.ref nt]∧NetAt C H nt gp op gs xs os∧gs.length≤1000∧∀ r H',Ch [] H H'→H r=none→H' r=some (.lst ((numsOf Gt.isIn gs 0).map nV))→Q (.ref r) H'
theorem scIns:FnScope ["net"] ["net"] (defScope (top 12)):=⟨rfl,rfl,rfl,by decide +kernel,rfl,by decide +kernel,by decide +kernel⟩
theorem zamq {C:Addr} (F:Fun K "ins_of" "ins_of" (top 12) f fd) (cl:Cls K C) (nG:NoAttr K C "gates") (z_enumerate:mg "enumerate" = none):FnOk P w K mg base CX0 (k + 1) f fd ["net"] (spIns C):=by
 have nd:=scIns.nd
 refine F.ok scIns (fun vs H Q E h=>by obtain ⟨nt,gp,op,gs,xs,os,rfl,_⟩:=h; rfl) (fun cdv A outer s H vs Q E hr h=>?_)
 obtain ⟨nt,gp,op,gs,xs,os,rfl,⟨⟨dx,hn⟩,hg,hgs,ho⟩,hlen,q⟩:=h
 refine ⟨_,(Pr.h (zaae (zaak (zacb rfl zaiy (zafk .tuple (gl12.g 0 rfl) z_enumerate (zaaa (zabj (qv av12 0 rfl) rfl) zaab zabf)) (fun _ _ _ _ _=>(zaeh K 2 rfl rfl (zaa5 (zaau (i:=0) zaiy.nd rfl (Or.inl (zag1.k 0 rfl)) (Or.inr (zag1.k 0 rfl))) (zaa5 (zaau (i:=1) zaiy.nd rfl (Or.inl (zag1.k 1 rfl)) (Or.inr (zag1.k 1 rfl))) zacc)))) (fun _ _ _ _ _=>(zafj (zaar zabh (zaat (zadg K rfl) (qw zamp 1 rfl) zaag (fun _ _=>rfl)) zaas (nomark _)))) (fun _ _ _ _ _=>(qw zamp 0 rfl)))))),?_⟩
 (try dsimp only [cxOf])
 have fg:=zack gp op
 have hx:=hgs.len
 walk_at "rd"
 refine zamc xs (fun i ys σ H'=>Ch [] H H'∧ys=(numsOf Gt.isIn (gs.take i) 0).map nV∧∃ u v,σ=[u,v]) (by rw [sizeLine_eq]; omega) ⟨Ch.refl _ _,rfl,_,_,rfl⟩ ?_ ?_ ?_
 ·rintro i ys σ H' hi ⟨c,rfl,_⟩
  refine ⟨?_,SqT.of (c.get hg (by simp))⟩
  have:=zagj Gt.isIn (gs.take i) 0
  rw [List.length_take] at this
  rw [List.length_map]; omega
 ·rintro i ys σ H' x T hx' ⟨c,rfl,u,v,rfl⟩ hT
  have hi:i < gs.length:=by rw [← hx]; exact (List.getElem?_eq_some_iff.mp hx').1
  obtain ⟨g,hgi⟩:∃ g,gs[i]?=some g:=⟨_,List.getElem?_eq_getElem hi⟩
  obtain ⟨p,ep,hp⟩:=hgs.at_ i g hgi
  rw [hx'] at ep
  cases ep
  have hp1:H' p=some (.tup g.vs):=c.get hp (by simp)
  have nt:=zaiw Gt.isIn hgi
  obtain ⟨wd,rs,ev,hd⟩:=zag0 g
  rw [ev] at hp1
  walk_at "rd"
  rw [hd]
  cases ht:Gt.isIn g with
  | true =>
   refine iteT ?_
   walk_at "rd"
   refine ⟨?_,_,_,rfl⟩
   rw [nt,ht]; simp [nV]
  | false =>
   refine iteF ?_
   refine ⟨c.trans (Ch.new hT _),?_,_,_,rfl⟩
   rw [nt,ht]; simp
 ·rintro ys σ H' ⟨c,rfl,_⟩
  intro D hD
  refine q _ _ (c.trans (Ch.new hD _)) (chFree c hD) ?_
  rw [zaaf,hx,List.take_length]
theorem gl11m0:AG (defScope (inClass (top 11) 0)) ["enumerate", "is_gate", "len", "is_below", "tuple"]:=⟨by decide +kernel⟩
theorem av11m0:AF (defScope (inClass (top 11) 0)) ["self", "gates", "outs", "number", "gate", "out"]:=⟨by decide +kernel⟩
def spNet (C:Addr):Sp:=fun vs H Q _=>∃ (nt dx gl ol:Addr) (gs:List Gt) (xs:List V) (os:List Nat),vs=[.ref nt,.ref gl,.ref ol]∧H nt=some (.ins C dx [])∧H gl=some (.lst xs)∧Gs H gs xs∧Oks gs∧gs.length≤1000 ∧
 H ol=some (.lst (os.map nV))∧(∀ o∈os,o < gs.length)∧os.length≤1000∧∀ gp op H',Ch [nt] H H'→NetAt C H' nt gp op gs xs os→Q .non H'
theorem scNet:FnScope ["self", "gates", "outs", "number", "gate", "out"] ["self", "gates", "outs"] (defScope (inClass (top 11) 0)):=⟨rfl,rfl,rfl,by decide +kernel,rfl,by decide +kernel,by decide +kernel⟩
theorem zaty {C:Addr} (F:Fun K "__init__" "Net.__init__" (inClass (top 11) 0) f fd) (cl:Cls K C) (nG:NoAttr K C "gates") (nO:NoAttr K C "outs") (Dis_gate:DefOk P w K mg base CX0 k "is_gate" ["thing", "ahead", "total"] spGate)
  (Dis_below:DefOk P w K mg base CX0 k "is_below" ["thing", "bound"] spBelow) (z_enumerate:mg "enumerate" = none) (z_len:mg "len" = none) (z_tuple:mg "tuple" = none):FnOk P w K mg base CX0 (k + 1) f fd ["self", "gates", "outs"] (spNet C):=by
 have nd:=scNet.nd
 refine F.ok scNet (fun vs H Q E h=>by obtain ⟨nt,dx,gl,ol,gs,xs,os,rfl,_⟩:=h; rfl) (fun cdv A outer s H vs Q E hr h=>?_)
 obtain ⟨nt,dx,gl,ol,gs,xs,os,rfl,hn,hg,hgs,hok,hlen,ho,hos,hol,q⟩:=h
 refine ⟨_,(Pr.h (zaad (zaca PassesOwn.never rfl (zafk .list (gl11m0.g 0 rfl) z_enumerate (zaaa (qv av11m0 1 rfl) zaab zaac)) (zac7 rfl (zaa5 (zaau (i:=3) nd rfl (av11m0.l 3 rfl)) (zaa5 (zaau (i:=4) nd rfl (av11m0.l 4 rfl)) zacc))) (zaae (zaav (zab6 (zaay (zaai Dis_gate hr (gl11m0.g 1 rfl) pass0 (zaaa (qv av11m0 4 rfl) (zaaa (qv av11m0 3 rfl) (zaaa (zaah zaap (gl11m0.g 2 rfl) z_len PySem.boot_len (zaaa (qv av11m0 1 rfl) zaab zaac) zaba zabb) zaab zabi) zaac) zaac) zagi))) (zaae zah2) zaal))) (zaad (zaca PassesOwn.never rfl (zacj (qv av11m0 2 rfl)) (zaau (i:=5) nd rfl (av11m0.l 5 rfl)) (zaae (zaav (zab6 (zaay (zaai Dis_below hr (gl11m0.g 3 rfl) pass0 (zaaa (qv av11m0 5 rfl) (zaaa (zaah zaap (gl11m0.g 2 rfl) z_len PySem.boot_len (zaaa (qv av11m0 1 rfl) zaab zaac) zaba zabb) zaab zabi) zaac) zadd))) (zaae zah2) zaal))) (zaad (zagu (qv av11m0 0 rfl) (zabd zab0 (gl11m0.g 4 rfl) z_tuple zabm (zaaa (qv av11m0 1 rfl) zaab zaac) zabn zabo) rfl) (zaae (zagu (qv av11m0 0 rfl) (zabd zab0 (gl11m0.g 4 rfl) z_tuple zabm (zaaa (qv av11m0 2 rfl) zaab zaac) zabn zabo) rfl)))))),?_⟩
 (try dsimp only [cxOf])
 have hx:=hgs.len
 walk_at "rd"
 refine zaf1 (xs:=xs) (fun i σ H'=>Ch [] H H'∧∃ u v r,σ=[some (.ref nt),some (.ref gl),some (.ref ol),u,v,r]) ⟨Ch.refl _ _,_,_,_,rfl⟩ ?_ ?_ ?_
 ·rintro i σ H' hi ⟨c,_⟩
  exact SqL.of (c.get hg (by simp))
 ·rintro i x σ H' T hx' ⟨c,u,v,r,rfl⟩ hT
  have hi:i < gs.length:=by rw [← hx]; exact (List.getElem?_eq_some_iff.mp hx').1
  obtain ⟨g,hgi⟩:∃ g,gs[i]?=some g:=⟨_,List.getElem?_eq_getElem hi⟩
  obtain ⟨p,ep,hp⟩:=hgs.at_ i g hgi
  rw [hx'] at ep
  cases ep
  have hp1:H' p=some (.tup g.vs):=c.get hp (by simp)
  have hg1:H' gl=some (.lst xs):=c.get hg (by simp)
  have hok1:g.ok i xs.length:=by rw [hx]; exact hok i g hgi
  walk_at "rd"
 ·rintro σ H1 ⟨c1,u,v,r,rfl⟩
  have ho1:H1 ol=some (.lst (os.map nV)):=c1.get ho (by simp)
  have hg1:H1 gl=some (.lst xs):=c1.get hg (by simp)
  walk_at "rd"
  refine zafx (xs:=os.map nV) (fun i σ H'=>Ch [] H H'∧∃ u v r,σ=[some (.ref nt),some (.ref gl),some (.ref ol),u,v,r]) ⟨c1,_,_,_,rfl⟩ ?_ ?_ ?_
  ·rintro i σ H' hi ⟨c,_⟩
   exact SqL.of (c.get ho (by simp))
  ·rintro i x σ H' hx' ⟨c,u,v,r,rfl⟩
   obtain ⟨o,ho',rfl⟩:∃ o∈os,x=nV o:=by
    rw [List.getElem?_map] at hx'
    obtain ⟨z,h1,h2⟩:=Option.map_eq_some_iff.mp hx'
    exact ⟨z,List.mem_of_getElem? h1,h2.symm⟩
   have:=hos o ho'
   have hg2:H' gl=some (.lst xs):=c.get hg (by simp)
   unfold nV
   walk_at "rd"
  ·rintro σ H2 ⟨c2,u,v,r,rfl⟩
   have ho2:H2 ol=some (.lst (os.map nV)):=c2.get ho (by simp)
   have hg2:H2 gl=some (.lst xs):=c2.get hg (by simp)
   have hn2:H2 nt=some (.ins C dx []):=c2.get hn (by simp)
   walk_at "rd"
   rename_i l1 hl1 l2 hl2
   (try refine ⟨by show 1 < 1000; decide,?_⟩)
   have n1:l1≠nt:=(zaa7 hn2 hl1).symm
   have n2:l2≠nt:=by
    intro z
    rw [z,zaaf] at hl2
    cases hl2
   have cF:Ch [nt] H (upd (upd (upd (upd H2 l1 (.tup xs)) nt (.ins C dx (putF "gates" (.ref l1) []))) l2 (.tup (os.map nV))) nt (.ins C dx (putF "outs" (.ref l2) (putF "gates" (.ref l1) [])))) :=
    ((((Ch.wk c2).trans (Ch.new hl1 _)).trans Ch.put).trans (Ch.new hl2 _)).trans Ch.put
   refine q l1 l2 _ cF ⟨⟨dx,zaaf⟩,?_,hgs.tu (Tu.ch cF hn (fun xs z=>by cases z)),?_⟩
   ·exact zac1 n1 (zacf hl2 (zac1 n1 zaaf))
   ·exact zac1 n2 zaaf
end
end

section
def spNext (K:PySem.W.Frag):Sp:=fun vs H Q _=>∃ (a b:Addr) (ns:List Int) (c:Int),vs=[.ref a,.ref b]∧Scr K H a ns∧H b=some (.lst [.int c])∧0≤c∧c < 2 ^ 60 ∧
 ∀ (n:Int) (H':Hp),0≤n→n < 2147483629→Ch [b] H H'→H' b=some (.lst [.int (c + 1)])→Q (.int n) H'
theorem zake {α:Type} (x:α):∀ n:Nat,(List.replicate n [x]).flatten=List.replicate n x
 | 0=>rfl
 | n + 1=>by rw [List.replicate_succ,List.flatten_cons,zake x n,List.replicate_succ]; rfl
section
variable {P:Program}{w:World}{K:PySem.W.Frag}{mg:Str→Option Value}{base:Heap}{f:Addr}{fd:FuncData}{k:Nat}
theorem av46:AF (defScope (top 46)) ["_law_script", "_law_at", "_law_cell", "_law_figures", "_law_k", "_law_m"]:=⟨by decide +kernel⟩
theorem gl46:AG (defScope (top 46)) ["len", "range"]:=⟨by decide +kernel⟩
theorem scNext:FnScope ["_law_script", "_law_at", "_law_cell", "_law_figures", "_law_k", "_law_m"] ["_law_script", "_law_at"] (defScope (top 46)):=⟨rfl,rfl,rfl,by decide +kernel,rfl,by decide +kernel,by decide +kernel⟩
theorem zarh (F:Fun K "_law_next" "_law_next" (top 46) f fd) (z_len:mg "len" = none) (z_range:mg "range" = none) :
  FnOk P w K mg base CX0 (k + 1) f fd ["_law_script", "_law_at"] (spNext K):=by
 have nd:=scNext.nd
 refine F.ok scNext (fun vs H Q E h=>?_) (fun cdv A outer s H vs Q E hr h=>?_)
 ·obtain ⟨a,b,ns,c,rfl,_⟩:=h
  rfl
 obtain ⟨a,b,ns,c,rfl,hS,hb,h0,h1,q⟩:=h
 refine ⟨_,(Pr.h (zaad (zadx (zaa4 zadm (zaat zaaw (qv av46 1 rfl) zaag (fun _ _=>rfl)) zaag) (zair (qv av46 1 rfl) zaag zagp)) (zaad (zaa1 (i:=2) nd rfl (av46.l 2 rfl) zaag) (zabs (zaav (zaar zan9 (zaah zaap (gl46.g 0 rfl) z_len PySem.boot_len (zaaa (qv av46 0 rfl) zaab zaac) zaba zabb) zaag (nomark _)) (zaae (zaa1 (i:=2) nd rfl (av46.l 2 rfl) (zaat zaaw (qv av46 0 rfl) (zaa4 zacd (zaat zaaw (qv av46 1 rfl) zaag (fun _ _=>rfl)) (zaah zaap (gl46.g 0 rfl) z_len PySem.boot_len (zaaa (qv av46 0 rfl) zaab zaac) zaba zabb)) (fun _ _=>rfl)))) zaal) (zabs (zaav (zabt (zadq (zaar zan9 (zaah zaap (gl46.g 0 rfl) z_len PySem.boot_len (zaaa (qv av46 0 rfl) zaab zaac) zaba zabb) zaag (nomark _)) (zade (zaar zabh (zaa4 zacd (zaat zaaw (qv av46 0 rfl) zaag (fun _ _=>rfl)) zaag) zaag (nomark _))))) (zaad (zaa1 (i:=3) nd rfl (av46.l 3 rfl) (qv av46 2 rfl)) (zaad (zaca PassesOwn.never rfl (zacy (gl46.g 1 rfl) z_range (zaaa (zaa4 zacd (zaa4 zacw (zaat zaaw (qv av46 1 rfl) zaag (fun _ _=>rfl)) (zaah zaap (gl46.g 0 rfl) z_len PySem.boot_len (zaaa (qv av46 0 rfl) zaab zaac) zaba zabb)) zaag) zaab zaco)) (zaau (i:=4) nd rfl (av46.l 4 rfl)) (zaae (zaa1 (i:=3) nd rfl (av46.l 3 rfl) (zaa4 zacw (qv av46 3 rfl) zaag)))) (zaae (zaav (zabt (zabz (zaar zae7 (qv av46 3 rfl) (zaax (zaaa zaag (zaaa (zatt zas9 zaag) zaab zakw) zaaj)) rfl) (zabr (zaar zata (zaat zaaw (qv av46 1 rfl) zaag (fun _ _=>rfl)) (zaah zaap (gl46.g 0 rfl) z_len PySem.boot_len (zaaa (qv av46 0 rfl) zaab zaac) zaba zabb) (nomark _))))) (zaae (zaak (zaa4 zacd (qv av46 3 rfl) zaag))) zaal)))) zaal) (zaad (zaa1 (i:=5) nd rfl (av46.l 5 rfl) (zaa4 zacd (zaa4 zafq (zaa4 zadm (zaa4 zadm (zaa4 zacd (qv av46 2 rfl) zaag) (zaa4 zafq (zaa4 zafq (zaat zaaw (qv av46 1 rfl) zaag (fun _ _=>rfl)) (zaat zaaw (qv av46 1 rfl) zaag (fun _ _=>rfl))) zaag)) zaag) zaag) zaag)) (zaad (zaa1 (i:=5) nd rfl (av46.l 5 rfl) (zaa4 zacd (zaa4 zafq (qv av46 5 rfl) (qv av46 5 rfl)) zaag)) (zaae (zaak (zaa4 zacd (zaa4 zafq (zaa4 zadm (qv av46 5 rfl) (zaa4 zafq (zaat zaaw (qv av46 1 rfl) zaag (fun _ _=>rfl)) zaag)) zaag) zaag)))))))))),?_⟩
 have h63:ns.length≤63:=hS.1
 (try dsimp only [cxOf])
 walk_at "rd"
 refine zacr (fun σ H'=>∃ n:Int,σ=[some (.ref a),some (.ref b),some (.int n),none,none,none]∧Ch [b] H H'∧H' b=some (.lst [.int (c + 1)])) ?_ ?_
 ·walk_at "rd"
  refine ite2 (fun hc=>?_) (fun hc=>?_)
  ·have hc':0 < (ns.length:Int):=by simpa using hc
   have e1:0≤(c + 1) % (ns.length:Int):=Int.emod_nonneg _ (by omega)
   have e2:(c + 1) % (ns.length:Int) < (ns.length:Int):=Int.emod_lt_of_pos _ hc'
   obtain ⟨n,hn⟩:=zaj4 e1 e2
   walk_at "rd"
  ·walk_at "rd"
 ·rintro σ H1 ⟨n,rfl,c1,b1⟩
  have hS1:Scr K H1 a ns:=hS.ch hb c1
  refine zacr (fun σ H'=>∃ u v w,σ=[some (.ref a),some (.ref b),some (.int n),u,v,w]∧Ch [b] H H'∧H' b=some (.lst [.int (c + 1)])) ?_ ?_
  ·walk_at "rd"
   refine ite2 (fun hc=>?_) (fun hc=>iteF ?_)
   ·have hc':0 < (ns.length:Int):=by simpa using hc
    obtain ⟨n0,hn0⟩:=zaj4 (ns:=ns) (i:=0) (by omega) hc'
    walk_at "rd"
    refine ite2 (fun hd=>?_) (fun hd=>?_)
    ·walk_at "rd"
     refine zac6 (fun i σ H'=>H'=H1∧∃ g kk,σ=[some (.ref a),some (.ref b),some (.int n),some (.int g),kk,none]) ⟨rfl,_,_,rfl⟩ ?_ ?_
     ·rintro i σ H' hi ⟨rfl,g,kk,rfl⟩
      walk_at "rd"
     ·rintro σ H' ⟨rfl,g,kk,rfl⟩
      walk_at "rd"
      refine ite2 (fun hd=>iteT ?_) (fun hd=>?_)
      ·walk_at "rd"
       exact q _ _ (Int.emod_nonneg _ (by decide)) (Int.lt_of_lt_of_le (Int.emod_lt_of_pos _ (by decide)) (by decide)) (c1.trans (Ch.new (by assumption) _)) (by walk_at "get")
      ·walk_at "rd"
       refine ite2 (fun he=>?_) (fun he=>?_)
       ·walk_at "rd"
        exact q _ _ (Int.emod_nonneg _ (by decide)) (Int.lt_of_lt_of_le (Int.emod_lt_of_pos _ (by decide)) (by decide)) (c1.trans (Ch.new (by assumption) _)) (by walk_at "get")
       ·walk_at "rd"
    ·walk_at "rd"
   ·walk_at "rd"
  ·rintro σ H2 ⟨u,v,w,rfl,c2,b2⟩
   walk_at "rd"
   exact q _ _ (Int.emod_nonneg _ (by decide)) (Int.emod_lt_of_pos _ (by decide)) c2 b2
end
theorem Gs.push {H:Hp}{gs:List Gt}{xs:List V}{gl p:Addr}{g:Gt}{ys:List V} (h:Gs H gs xs) (hg:H gl=some (.lst ys)) (hp:H p=some (.tup g.vs)):Gs (upd H gl (.lst (xs++[.ref p]))) (gs++[g]) (xs++[.ref p]):=by
 have t:Tu H (upd H gl (.lst (xs++[.ref p]))):=Tu.lst Ch.put hg
 refine ⟨by simp [h.len],fun i g' e=>?_⟩
 by_cases hi:i < gs.length
 ·rw [List.getElem?_append_left hi] at e
  obtain ⟨p',h1,h2⟩:=h.at_ i g' e
  exact ⟨p',by rw [List.getElem?_append_left (by rw [h.len]; exact hi)]; exact h1,t _ _ h2⟩
 ·rw [List.getElem?_append_right (by omega)] at e
  have hi0:i - gs.length=0:=by
   rcases Nat.eq_zero_or_pos (i - gs.length) with z | z
   ·exact z
   ·rw [List.getElem?_eq_none (by simp; omega)] at e; cases e
  rw [hi0] at e
  cases e
  refine ⟨p,?_,t _ _ hp⟩
  rw [List.getElem?_append_right (by rw [h.len]; omega),h.len,hi0]; rfl
theorem Gs.set {H:Hp}{gs:List Gt}{xs:List V}{gl p:Addr}{g:Gt}{ys:List V}{j:Nat} (h:Gs H gs xs) (hg:H gl=some (.lst ys)) (hp:H p=some (.tup g.vs)):Gs (upd H gl (.lst (xs.set j (.ref p)))) (gs.set j g) (xs.set j (.ref p)):=by
 have t:Tu H (upd H gl (.lst (xs.set j (.ref p)))):=Tu.lst Ch.put hg
 refine ⟨by simp [h.len],fun i g' e=>?_⟩
 rw [List.getElem?_set] at e ⊢
 split at e
 ·split at e
  ·cases e
   rename_i h1 h2
   refine ⟨p,?_,t _ _ hp⟩
   rw [if_pos h1,if_pos (by rw [h.len]; exact h2)]
  ·cases e
 ·rename_i h1
  obtain ⟨p',h2,h3⟩:=h.at_ i g' e
  exact ⟨p',by rw [if_neg h1]; exact h2,t _ _ h3⟩
theorem Gt.ok_mono {g:Gt}{i n m:Nat} (h:g.ok i n) (hm:n≤m):g.ok i m:=by
 cases g <;> simp only [Gt.ok] at * <;> first | trivial | omega
theorem Oks.push {gs:List Gt}{g:Gt} (h:Oks gs) (hg:g.ok gs.length (gs.length + 1)):Oks (gs++[g]):=by
 intro i g' e
 rw [List.length_append,List.length_singleton]
 by_cases hi:i < gs.length
 ·rw [List.getElem?_append_left hi] at e
  exact Gt.ok_mono (h i g' e) (by omega)
 ·rw [List.getElem?_append_right (by omega)] at e
  have hi0:i - gs.length=0:=by
   rcases Nat.eq_zero_or_pos (i - gs.length) with z | z
   ·exact z
   ·rw [List.getElem?_eq_none (by simp; omega)] at e; cases e
  rw [hi0] at e
  cases e
  rw [show i=gs.length by omega]; exact hg
theorem Oks.set {gs:List Gt}{g:Gt}{j:Nat} (h:Oks gs) (hg:g.ok j gs.length):Oks (gs.set j g):=by
 intro i g' e
 rw [List.length_set]
 rw [List.getElem?_set] at e
 split at e
 ·split at e
  ·cases e
   rename_i h1 _
   rw [← h1]; exact hg
  ·cases e
 ·exact h i g' e
theorem zaex {t:Gt→Bool}{g g':Gt}:∀ {gs:List Gt}{j:Nat},gs[j]?=some g→t g=t g'→(gs.set j g').countP t=gs.countP t
 | [],_,h,_=>by simp at h
 | a :: gs,0,h,e=>by
  simp at h
  subst h
  simp [List.countP_cons,e]
 | a :: gs,j + 1,h,e=>by
  have:=zaex (gs:=gs) (j:=j) (by simpa using h) e
  simp [List.countP_cons,this]
def WS:List Str:=["and", "or", "xor", "pick", "not", "and", "xor", "or", "zero", "one"]
def arW (x:Str):Nat:=if x = "zero" then 0 else if x = "one" then 0 else if x = "not" then 1 else if x = "pick" then 3 else 2
theorem mkG {x:Str} (hx:x∈WS) {fs:List Nat} (hl:fs.length=arW x) {i:Nat} (hf:∀ a∈fs,a < i):∃ g:Gt,g.vs=.str x :: fs.map nV∧g.ok i (i + 1)∧g.isIn=false∧g.isKeep=false:=by
 have two:∀ {fs:List Nat},fs.length=2→∃ a b,fs=[a,b]:=fun {fs} h=>by
  match fs,h with
  | [a,b],_=>exact ⟨a,b,rfl⟩
 have d2:∀ {y:Str},arW y=2→fs.length=arW y→∃ a b,fs=[a,b]:=fun h1 h2=>two (h2.trans h1)
 simp only [WS,List.mem_cons,List.not_mem_nil,or_false] at hx
 rcases hx with rfl | rfl | rfl | rfl | rfl | rfl | rfl | rfl | rfl | rfl
 ·obtain ⟨a,b,rfl⟩:=d2 (by decide +kernel) hl
  exact ⟨.and a b,rfl,⟨hf a (by simp),hf b (by simp)⟩,rfl,rfl⟩
 ·obtain ⟨a,b,rfl⟩:=d2 (by decide +kernel) hl
  exact ⟨.or a b,rfl,⟨hf a (by simp),hf b (by simp)⟩,rfl,rfl⟩
 ·obtain ⟨a,b,rfl⟩:=d2 (by decide +kernel) hl
  exact ⟨.xor a b,rfl,⟨hf a (by simp),hf b (by simp)⟩,rfl,rfl⟩
 ·have hl:fs.length=3:=hl.trans (by decide +kernel)
  match fs,hl with
  | [a,b,c],_=>exact ⟨.pick a b c,rfl,⟨hf a (by simp),hf b (by simp),hf c (by simp)⟩,rfl,rfl⟩
 ·have hl:fs.length=1:=hl.trans (by decide +kernel)
  match fs,hl with
  | [a],_=>exact ⟨.not a,rfl,hf a (by simp),rfl,rfl⟩
 ·obtain ⟨a,b,rfl⟩:=d2 (by decide +kernel) hl
  exact ⟨.and a b,rfl,⟨hf a (by simp),hf b (by simp)⟩,rfl,rfl⟩
 ·obtain ⟨a,b,rfl⟩:=d2 (by decide +kernel) hl
  exact ⟨.xor a b,rfl,⟨hf a (by simp),hf b (by simp)⟩,rfl,rfl⟩
 ·obtain ⟨a,b,rfl⟩:=d2 (by decide +kernel) hl
  exact ⟨.or a b,rfl,⟨hf a (by simp),hf b (by simp)⟩,rfl,rfl⟩
 ·have hl:fs.length=0:=hl.trans (by decide +kernel)
  match fs,hl with
  | [],_=>exact ⟨.zero,rfl,trivial,rfl,rfl⟩
 ·have hl:fs.length=0:=hl.trans (by decide +kernel)
  match fs,hl with
  | [],_=>exact ⟨.one,rfl,trivial,rfl,rfl⟩
end

section
section
variable {P:Program}{w:World}{K:PySem.W.Frag}{mg:Str→Option Value}{base:Heap}{f:Addr}{fd:FuncData}{k:Nat}
theorem zab3:Nd "_law_next" := by decide +kernel
theorem zapp:bootBuiltins "max" = some (.builtin "max"):=by decide +kernel
theorem zapq:("max" : Str) ≠ "__name__" := by decide +kernel
theorem zapr:Nd "max" := by decide +kernel
theorem zaps:bootBuiltins "min" = some (.builtin "min"):=by decide +kernel
theorem zapt:("min" : Str) ≠ "__name__" := by decide +kernel
theorem zapu:Nd "min" := by decide +kernel
structure NS (H0 H':Hp) (b gl:Addr) (c B:Int) (gs:List Gt) (xs:List V) (ins:Nat):Prop where
 ch:Ch [b] H0 H'
 at_:∃ c',H' b=some (.lst [.int c'])∧c≤c'∧c'≤c + B
 gl:H' gl=some (.lst xs)
 gg:Gs H' gs xs
 ok:Oks gs
 ci:gs.countP Gt.isIn=ins
 lo:∀ i,i < ins→gs[i]?=some .inp
theorem NS.bump {H0 H' H1:Hp}{b gl:Addr}{c c' B:Int}{gs:List Gt}{xs:List V}{ins:Nat} (n:NS H0 H' b gl c B gs xs ins) (nb:gl≠b) (hb:H' b=some (.lst [.int c'])) (c1:Ch [b] H' H1) (hb1:H1 b=some (.lst [.int (c' + 1)])):NS H0 H1 b gl c (B + 1) gs xs ins:=by
 obtain ⟨c'',h1,h2,h3⟩:=n.at_
 rw [hb] at h1
 injection h1 with h1; injection h1 with h1; injection h1 with h1 _; injection h1 with h1
 subst h1
 exact ⟨n.ch.trans c1,⟨c' + 1,hb1,by omega,by omega⟩,c1.get n.gl (by simpa using nb),n.gg.tu (Tu.lst c1 hb),n.ok,n.ci,n.lo⟩
theorem NS.wk {H0 H':Hp}{b gl:Addr}{c B B':Int}{gs:List Gt}{xs:List V}{ins:Nat} (n:NS H0 H' b gl c B gs xs ins) (h:B≤B'):NS H0 H' b gl c B' gs xs ins:=by
 obtain ⟨c'',h1,h2,h3⟩:=n.at_
 exact ⟨n.ch,⟨c'',h1,h2,by omega⟩,n.gl,n.gg,n.ok,n.ci,n.lo⟩
theorem NS.same {H0 H' H1:Hp}{b gl:Addr}{c B:Int}{gs:List Gt}{xs:List V}{ins:Nat} (n:NS H0 H' b gl c B gs xs ins) (c1:Ch [] H' H1):NS H0 H1 b gl c B gs xs ins:=by
 obtain ⟨c'',h1,h2,h3⟩:=n.at_
 exact ⟨n.ch.trans (Ch.wk c1),⟨c'',c1.get h1 (by simp),h2,h3⟩,c1.get n.gl (by simp),n.gg.tu (Tu.same c1),n.ok,n.ci,n.lo⟩
theorem NS.push {H0 H':Hp}{b gl p:Addr}{c B:Int}{gs:List Gt}{xs:List V}{ins:Nat}{g:Gt} (n:NS H0 H' b gl c B gs xs ins) (nb:gl≠b) (fg:H0 gl=none) (hp:H' p=some (.tup g.vs)) (hg:g.ok gs.length (gs.length + 1)) (hi:g.isIn=false):NS H0 (upd H' gl (.lst (xs++[.ref p]))) b gl c B (gs++[g]) (xs++[.ref p]) ins:=by
 obtain ⟨c'',h1,h2,h3⟩:=n.at_
 refine ⟨Ch.own fg n.ch,⟨c'',zac1 nb.symm h1,h2,h3⟩,zaaf,n.gg.push n.gl hp,n.ok.push hg,?_,fun i h=>?_⟩
 ·rw [List.countP_append,n.ci]; simp [hi]
 ·have:=n.lo i h
  rw [List.getElem?_append_left (List.getElem?_eq_some_iff.mp this).1]; exact this
theorem NS.set {H0 H':Hp}{b gl p:Addr}{c B:Int}{gs:List Gt}{xs:List V}{ins j:Nat}{g g0:Gt} (n:NS H0 H' b gl c B gs xs ins) (nb:gl≠b) (fg:H0 gl=none) (hp:H' p=some (.tup g.vs)) (hj:gs[j]?=some g0) (hg:g.ok j gs.length) (hi:g0.isIn=g.isIn) (hl:ins≤j):NS H0 (upd H' gl (.lst (xs.set j (.ref p)))) b gl c B (gs.set j g) (xs.set j (.ref p)) ins:=by
 obtain ⟨c'',h1,h2,h3⟩:=n.at_
 refine ⟨Ch.own fg n.ch,⟨c'',zac1 nb.symm h1,h2,h3⟩,zaaf,n.gg.set n.gl hp,n.ok.set hg,?_,fun i h=>?_⟩
 ·rw [zaex hj hi,n.ci]
 ·rw [List.getElem?_set_ne (by omega)]; exact n.lo i h
theorem NS.own {H0 H':Hp}{b gl p:Addr}{c B:Int}{gs:List Gt}{xs ys zs:List V}{ins:Nat} (n:NS H0 H' b gl c B gs xs ins) (f:H0 p=none) (pb:p≠b) (pg:p≠gl) (hp:H' p=some (.lst ys)):NS H0 (upd H' p (.lst zs)) b gl c B gs xs ins:=by
 obtain ⟨c'',h1,h2,h3⟩:=n.at_
 exact ⟨Ch.own f n.ch,⟨c'',zac1 pb.symm h1,h2,h3⟩,zac1 pg.symm n.gl,n.gg.tu (Tu.lst Ch.put hp),n.ok,n.ci,n.lo⟩
theorem NS.fresh {H0 H':Hp}{b gl p:Addr}{c B c0:Int}{gs:List Gt}{xs:List V}{ins:Nat} (n:NS H0 H' b gl c B gs xs ins) (hb:H0 b=some (.lst [.int c0])) (h:H' p=none):H0 p=none∧p≠b∧p≠gl:=by
 have f:H0 p=none:=by
  cases e:H0 p with
  | none=>rfl
  | some o =>
   by_cases z:p=b
   ·obtain ⟨c9,h9,_⟩:=n.at_
    rw [z,h9] at h; cases h
   ·have:=n.ch.get e (by simpa using z)
    rw [this] at h; cases h
 exact ⟨f,(zaa7 hb f).symm,(zaa7 n.gl h).symm⟩
structure KP (gs:List Gt) (lo hi:Nat):Prop where
 of:∀ j,lo≤j→j < hi→∃ ff a,gs[j]?=some (.keep ff a)
theorem KP.push {gs:List Gt}{lo hi:Nat} (h:KP gs lo hi) (g:Gt):KP (gs++[g]) lo hi:=.mk fun j a b=>by
 obtain ⟨ff,x,e⟩:=h.of j a b
 exact ⟨ff,x,by rw [List.getElem?_append_left (List.getElem?_eq_some_iff.mp e).1]; exact e⟩
theorem KP.more {gs:List Gt}{lo:Nat}{ff:Int}{x:Nat} (h:KP gs lo gs.length):KP (gs++[.keep ff x]) lo (gs.length + 1):=.mk fun j a b=>by
 by_cases e:j < gs.length
 ·exact (h.push _).of j a e
 ·refine ⟨ff,x,?_⟩
  rw [List.getElem?_append_right (by omega),show j - gs.length=0 by omega]; rfl
theorem KP.set {gs:List Gt}{lo hi i:Nat}{ff:Int}{x:Nat} (h:KP gs lo hi):KP (gs.set i (.keep ff x)) lo hi:=.mk fun j a b=>by
 obtain ⟨ff',x',e⟩:=h.of j a b
 rw [List.getElem?_set]
 split
 ·rw [if_pos (by rename_i z; rw [z]; exact (List.getElem?_eq_some_iff.mp e).1)]; exact ⟨_,_,rfl⟩
 ·exact ⟨_,_,e⟩
theorem zau7 {m:Int} (h0:0≤m) (h1:m < 10):∃ x∈WS,atI (WS.map V.str) m=some (.str x):=by
 have hk:m.toNat < WS.length:=by show m.toNat < 10; omega
 have e:m=((m.toNat:Nat):Int):=by omega
 refine ⟨WS[m.toNat],List.getElem_mem hk,?_⟩
 have:=zacx (xs:=WS.map V.str) (j:=m.toNat) (v:=.str WS[m.toNat]) (by rw [List.getElem?_map,List.getElem?_eq_getElem hk]; simp)
 rw [← e] at this
 exact this
structure Below (fs:List Nat) (n:Nat):Prop where
 of:∀ a∈fs,a < n
theorem Below.nil {n:Nat}:Below [] n:=⟨fun a h=>by cases h⟩
theorem Below.snoc {fs:List Nat}{n a:Nat} (h:Below fs n) (ha:a < n):Below (fs++[a]) n:=⟨fun b hb=>by
 rcases List.mem_append.mp hb with h1 | h1
 ·exact h.of b h1
 ·rw [List.mem_singleton.mp h1]; exact ha⟩
def DD:List (Key × V):=[(Sum.inr "zero",.int 0),(Sum.inr "one",.int 0),(Sum.inr "not",.int 1),(Sum.inr "pick",.int 3)]
theorem zatz {x:Str} (hx:x∈WS):(valV (mergeK [] DD) (Sum.inr x)).getD (.int 2)=.int (arW x:Int):=by
 simp only [WS,List.mem_cons,List.not_mem_nil,or_false] at hx
 rcases hx with rfl | rfl | rfl | rfl | rfl | rfl | rfl | rfl | rfl | rfl <;> decide +kernel
theorem zat0 {x:Str} (hx:x∈WS):arW x≤3:=by
 simp only [WS,List.mem_cons,List.not_mem_nil,or_false] at hx
 rcases hx with rfl | rfl | rfl | rfl | rfl | rfl | rfl | rfl | rfl | rfl <;> decide +kernel
theorem zau8 {m:Int} (h0:0≤m) (h1:m < 2):∃ x∈WS,arW x=0∧atI [V.str "zero",V.str "one"] m=some (.str x):=by
 have:m=0∨m=1:=by omega
 rcases this with rfl | rfl
 ·exact ⟨"zero",by decide +kernel,by decide +kernel,rfl⟩
 ·exact ⟨"one",by decide +kernel,by decide +kernel,rfl⟩
theorem av47:AF (defScope (top 47)) ["_law_script", "_law_at", "_law_ins", "_law_keeps", "_law_many", "_law_gates", "_law_k", "_law_m", "_law_word", "_law_feeds", "_law_j", "_law_outs"]:=⟨by decide +kernel⟩
theorem gl47:AG (defScope (top 47)) ["range", "_law_next", "len", "max", "tuple", "min"]:=⟨by decide +kernel⟩
def spLNet (K:PySem.W.Frag):Sp:=fun vs H Q _=>∃ (a b:Addr) (ns:List Int) (c ins' keeps' many':Int) (ins keeps many:Nat),vs=[.ref a,.ref b,.int ins',.int keeps',.int many']∧ins'=(ins:Int)∧keeps'=(keeps:Int)∧many'=(many:Int)∧ins≤12∧keeps≤12∧many≤24 ∧
 Scr K H a ns∧H b=some (.lst [.int c])∧0≤c∧c < 2 ^ 59 ∧
 ∀ (R gl ol:Addr) (gs:List Gt) (xs:List V) (os:List Nat) (H':Hp),NS H H' b gl c 1000 gs xs ins→H' R=some (.tup [.ref gl,.ref ol])→(gs.length≤48∧many≤gs.length)→H' ol=some (.lst (os.map nV))→(∀ o∈os,o < gs.length)→os.length≤4→H gl=none→H ol=none→Q (.ref R) H'
theorem scLNet:FnScope ["_law_script", "_law_at", "_law_ins", "_law_keeps", "_law_many", "_law_gates", "_law_k", "_law_m", "_law_word", "_law_feeds", "_law_j", "_law_outs"] ["_law_script", "_law_at", "_law_ins", "_law_keeps", "_law_many"] (defScope (top 47)):=⟨rfl,rfl,rfl,by decide +kernel,rfl,by decide +kernel,by decide +kernel⟩
theorem zari (F:Fun K "_law_net" "_law_net" (top 47) f fd) (D_law_next:DefOk P w K mg base CX0 k "_law_next" ["_law_script", "_law_at"] (spNext K)) (z_len:mg "len" = none) (z_range:mg "range" = none) (z_max:mg "max" = none) (z_min:mg "min" = none) (z_tuple:mg "tuple" = none) :
  FnOk P w K mg base CX0 (k + 1) f fd ["_law_script", "_law_at", "_law_ins", "_law_keeps", "_law_many"] (spLNet K):=by
 have nd:=scLNet.nd
 refine F.ok scLNet (fun vs H Q E h=>by obtain ⟨a,b,ns,c,ins',keeps',many',ins,keeps,many,rfl,_⟩:=h; rfl) (fun cdv A outer s H vs Q E hr h=>?_)
 obtain ⟨a,b,ns,c,ins',keeps',many',ins,keeps,many,rfl,rfl,rfl,rfl,hi,hk,hm,hS,hb,h0,h1,q⟩:=h
 have hu:=zaly hr
 refine ⟨_,(Pr.h (zaad (zaa1 (i:=5) nd rfl (av47.l 5 rfl) (zaa4 zatk (zact (zaaa (zaax (zaaa zaas zaab zaaj)) zaab zab1)) (qv av47 2 rfl))) (zaad (zaca PassesOwn.never rfl (zacy (gl47.g 0 rfl) z_range (zaaa (qv av47 3 rfl) zaab zaac)) (zaau (i:=6) nd rfl (av47.l 6 rfl)) (zaae (zacp (zado PySem.F.plainAttrs_list PySem.F.slot_list_append PySem.F.type_list_append zacl (qv av47 5 rfl) (zaaa (zaax (zaaa zaas (zaaa (zaa4 zacd (zaai D_law_next hr (gl47.g 1 rfl) pass0 (zaaa (qv av47 0 rfl) (zaaa (qv av47 1 rfl) zaab zaac) zaac) zab3) zaag) (zaaa zaag zaab zaaj) zaco) zaaj)) zaab zab1))))) (zaad (zaca PassesOwn.never rfl (zacy (gl47.g 0 rfl) z_range (zaaa (qv av47 4 rfl) zaab zaac)) (zaau (i:=6) nd rfl (av47.l 6 rfl)) (zaad (zaa1 (i:=7) nd rfl (av47.l 7 rfl) (zaai D_law_next hr (gl47.g 1 rfl) pass0 (zaaa (qv av47 0 rfl) (zaaa (qv av47 1 rfl) zaab zaac) zaac) zab3)) (zaad (zaa1 (i:=8) nd rfl (av47.l 8 rfl) (zaat zaaw (zact (zaaa zaas (zaaa zaas (zaaa zaas (zaaa zaas (zaaa zaas (zaaa zaas (zaaa zaas (zaaa zaas (zaaa zaas (zaaa zaas zaab zaaj) zaaj) zaaj) zaaj) zaaj) zaaj) zaaj) zaaj) zaaj) zaaj)) (zaa4 zacd (qv av47 7 rfl) zaag) (fun _ _=>rfl))) (zabs (zaav (zabt (zadq (zaar zabh (zaah zaap (gl47.g 2 rfl) z_len PySem.boot_len (zaaa (qv av47 5 rfl) zaab zaac) zaba zabb) zaag (nomark _)) (zade (zaar zae7 (qv av47 8 rfl) (zaax (zaaa zaas (zaaa zaas zaab zaaj) zaaj)) rfl)))) (zaae (zaa1 (i:=8) nd rfl (av47.l 8 rfl) (zaat zaaw (zact (zaaa zaas (zaaa zaas zaab zaaj) zaaj)) (zaa4 zacd (zaa4 zacw (qv av47 7 rfl) zaag) zaag) (fun _ _=>rfl)))) zaal) (zaad (zaa1 (i:=9) nd rfl (av47.l 9 rfl) (zact zaab)) (zaad (zaca PassesOwn.never rfl (zacy (gl47.g 0 rfl) z_range (zaaa (zamf hu (zaov (zaeg zaas zaag (zaeg zaas zaag (zaeg zaas zaag (zaeg zaas zaag zaou)))) rfl rfl (by intro z; cases z) (by decide)) (qv av47 8 rfl) zaag ⟨rfl,rfl,rfl,rfl⟩) zaab zabi)) (zaau (i:=10) nd rfl (av47.l 10 rfl)) (zaad (zaa1 (i:=7) nd rfl (av47.l 7 rfl) (zaai D_law_next hr (gl47.g 1 rfl) pass0 (zaaa (qv av47 0 rfl) (zaaa (qv av47 1 rfl) zaab zaac) zaac) zab3)) (zaae (zacp (zado PySem.F.plainAttrs_list PySem.F.slot_list_append PySem.F.type_list_append zacl (qv av47 9 rfl) (zaaa (zaed (zaar zabh (zaa4 zacd (qv av47 7 rfl) zaag) zaag (nomark _)) (zaa4 zacd (zaa4 zacw (qv av47 7 rfl) zaag) (zaah zaap (gl47.g 2 rfl) z_len PySem.boot_len (zaaa (qv av47 5 rfl) zaab zaac) zaba zabb)) (zaah (zalm rfl) (gl47.g 3 rfl) z_max zapp (zaaa zaag (zaaa (zaa4 zafp (zaa4 zafp (zaah zaap (gl47.g 2 rfl) z_len PySem.boot_len (zaaa (qv av47 5 rfl) zaab zaac) zaba zabb) zaag) (zaa4 zacd (zaa4 zacw (qv av47 7 rfl) zaag) zaag)) zaab zaco) zaaj) zapq zapr)) zaab zagq)))))) (zaae (zacp (zado PySem.F.plainAttrs_list PySem.F.slot_list_append PySem.F.type_list_append zacl (qv av47 5 rfl) (zaaa (zabd zab0 (gl47.g 4 rfl) z_tuple zabm (zaaa (zaa4 zaht (zact (zaaa (qv av47 8 rfl) zaab zaac)) (qv av47 9 rfl)) zaab zaco) zabn zabo) zaab zabi)))))))))) (zaad (zaca PassesOwn.never rfl (zaky (gl47.g 0 rfl) z_range (zaaa (qv av47 2 rfl) (zaaa (zaa4 zadm (qv av47 2 rfl) (qv av47 3 rfl)) zaab zaco) zaac)) (zaau (i:=6) nd rfl (av47.l 6 rfl)) (zaae (zadx (zaax (zaaa zaas (zaaa (zaat zaa0 (zaat zaaw (qv av47 5 rfl) (qv av47 6 rfl) (fun _ _=>rfl)) zaag (fun _ _=>rfl)) (zaaa (zaa4 zacd (zaai D_law_next hr (gl47.g 1 rfl) pass0 (zaaa (qv av47 0 rfl) (zaaa (qv av47 1 rfl) zaab zaac) zaac) zab3) (zaah zaap (gl47.g 2 rfl) z_len PySem.boot_len (zaaa (qv av47 5 rfl) zaab zaac) zaba zabb)) zaab zaco) zaaq) zaaj)) (zair (qv av47 5 rfl) (qv av47 6 rfl) zagp)))) (zaad (zaa1 (i:=11) nd rfl (av47.l 11 rfl) (zact zaab)) (zaad (zaca PassesOwn.never rfl (zacy (gl47.g 0 rfl) z_range (zaaa (zaa4 zadm zaag (zaa4 zacd (zaai D_law_next hr (gl47.g 1 rfl) pass0 (zaaa (qv av47 0 rfl) (zaaa (qv av47 1 rfl) zaab zaac) zaac) zab3) zaag)) zaab zaco)) (zaau (i:=6) nd rfl (av47.l 6 rfl)) (zaae (zaav (zaar zan9 (zaah zaap (gl47.g 2 rfl) z_len PySem.boot_len (zaaa (qv av47 5 rfl) zaab zaac) zaba zabb) zaag (nomark _)) (zaad (zaa1 (i:=7) nd rfl (av47.l 7 rfl) (zaai D_law_next hr (gl47.g 1 rfl) pass0 (zaaa (qv av47 0 rfl) (zaaa (qv av47 1 rfl) zaab zaac) zaac) zab3)) (zaae (zacp (zado PySem.F.plainAttrs_list PySem.F.slot_list_append PySem.F.type_list_append zacl (qv av47 11 rfl) (zaaa (zaed (zaar zabh (zaa4 zacd (qv av47 7 rfl) zaag) zaag (nomark _)) (zaa4 zacd (zaa4 zacw (qv av47 7 rfl) zaag) (zaah zaap (gl47.g 2 rfl) z_len PySem.boot_len (zaaa (qv av47 5 rfl) zaab zaac) zaba zabb)) (zaa4 zafp (zaa4 zafp (zaah zaap (gl47.g 2 rfl) z_len PySem.boot_len (zaaa (qv av47 5 rfl) zaab zaac) zaba zabb) zaag) (zaa4 zacd (zaa4 zacw (qv av47 7 rfl) zaag) (zaah (zaln rfl) (gl47.g 5 rfl) z_min zaps (zaaa zaag (zaaa (zaah zaap (gl47.g 2 rfl) z_len PySem.boot_len (zaaa (qv av47 5 rfl) zaab zaac) zaba zabb) zaab zabi) zaaj) zapt zapu)))) zaab zagq))))) zaal))) (zaae (zaak (zaax (zaaa (qv av47 5 rfl) (zaaa (qv av47 11 rfl) zaab zaac) zaac))))))))))),?_⟩
 (try dsimp only [cxOf])
 walk_at "rd"
 rename_i p1 hp1 p2 hp2 gl hgl
 have fg:H gl=none:=freeN hp1 (freeN hp2 hgl)
 have nb:gl≠b:=(zaa7 hb fg).symm
 have st0:NS H (upd (upd (upd H p1 (HO.tup [V.str (Str.ofString "in")])) p2 (HO.lst [V.ref p1])) gl (HO.lst (List.replicate ((ins:Int)).toNat [V.ref p1]).flatten)) b gl c 0 (List.replicate ins .inp) (List.replicate ins (.ref p1)) ins:=by
  have cc:Ch [] H (upd (upd (upd H p1 (HO.tup [V.str (Str.ofString "in")])) p2 (HO.lst [V.ref p1])) gl (HO.lst (List.replicate ((ins:Int)).toNat [V.ref p1]).flatten)):=((Ch.new hp1 _).trans (Ch.new hp2 _)).trans (Ch.new hgl _)
  refine ⟨Ch.wk cc,⟨c,cc.get hb (by simp),by omega,by omega⟩,by rw [zaaf,zake]; simp,⟨by simp,fun i g e=>?_⟩,fun i g e=>?_,by rw [List.countP_replicate]; rfl,fun i h=>by rw [List.getElem?_replicate,if_pos h]⟩
  ·rw [List.getElem?_replicate] at e
   split at e
   ·cases e
    rename_i hi2
    exact ⟨p1,by rw [List.getElem?_replicate,if_pos hi2],zacf hgl (zacf hp2 zaaf)⟩
   ·cases e
  ·rw [List.getElem?_replicate] at e
   split at e
   ·cases e
    exact True.intro
   ·cases e
 generalize (upd (upd (upd H p1 (HO.tup [V.str (Str.ofString "in")])) p2 (HO.lst [V.ref p1])) gl (HO.lst (List.replicate ((ins:Int)).toNat [V.ref p1]).flatten))=H0 at st0 ⊢
 clear hgl hp2 hp1
 refine zac6 (fun i σ H'=>∃ gs xs u,σ=[some (.ref a),some (.ref b),some (.int (ins:Int)),some (.int (keeps:Int)),some (.int (many:Int)),some (.ref gl),u,none,none,none,none,none]∧NS H H' b gl c (i:Int) gs xs ins∧gs.length=ins + i∧KP gs ins gs.length) ⟨_,_,_,rfl,st0,by simp,.mk fun j h1 h2=>?_⟩ ?_ ?_
 ·simp at h2; omega
 ·rintro i σ H' hi' ⟨gs,xs,u,rfl,n,hl,kp⟩
  have hi2:i < keeps:=by simpa using hi'
  obtain ⟨c',hb1,hc1,hc2⟩:=n.at_
  have hS1:Scr K H' a ns:=hS.ch hb n.ch
  have hxl:=n.gg.len
  have gl1:=n.gl
  have nc:=n.ch
  walk_at "rd"
  rename_i z H2 hz0 hz1 c2 hb2 p hp
  have n2:=(n.bump nb hb1 c2 hb2).same (Ch.new hp (HO.tup [V.str (Str.ofString "keep"),V.int (z % 2),V.int 0]))
  have n3:=n2.push (g:=.keep (z % 2) 0) nb fg zaaf ⟨by omega,by omega,by omega⟩ rfl
  have gl2:=n2.gl
  walk_at "rd"
  rw [List.length_append]; exact kp.more
 ·rintro σ H' ⟨gs,xs,u,rfl,n,hl,kp⟩
  have hl:gs.length=ins + keeps:=by simpa using hl
  rw [hl] at kp
  walk_at "rd"
  refine zac6 (fun i σ H'=>∃ gs xs u1 u2 u3 u4 u5,σ=[some (.ref a),some (.ref b),some (.int (ins:Int)),some (.int (keeps:Int)),some (.int (many:Int)),some (.ref gl),u1,u2,u3,u4,u5,none]∧NS H H' b gl c (12 + 4 * i:Int) gs xs ins∧gs.length=ins + keeps + i∧KP gs ins (ins + keeps)) ⟨_,_,_,_,_,_,_,rfl,n.wk (by simp; omega),by omega,kp⟩ ?_ ?_
  ·skip
   rintro i σ H' hi' ⟨gs,xs,u1,u2,u3,u4,u5,rfl,n,hl,kp⟩
   have hi2:i < many:=by simpa using hi'
   obtain ⟨c',hb1,hc1,hc2⟩:=n.at_
   have hS1:Scr K H' a ns:=hS.ch hb n.ch
   have hxl:=n.gg.len
   have gl1:=n.gl
   have nc:=n.ch
   walk_at "rd"
   rename_i m H2 hm0 hm1 c2 hb2 p hp
   obtain ⟨x,hx,hat⟩:=zau7 (m:=m % 10) (by omega) (by omega)
   refine Atx.of hat ?_
   have n2:=(n.bump nb hb1 c2 hb2).same (Ch.new hp (HO.lst (WS.map V.str)))
   have gl2:=n2.gl
   walk_at "rd"
   refine zacr (fun σ H3=>∃ x2,x2∈WS∧(gs.length=0→arW x2=0)∧σ=[some (.ref a),some (.ref b),some (.int (ins:Int)),some (.int (keeps:Int)),some (.int (many:Int)),some (.ref gl),some (.int (0 + (i:Int))),some (.int m),some (.str x2),u4,u5,none]∧NS H H3 b gl c (12 + 4 * i + 1:Int) gs xs ins) ?_ ?_
   ·walk_at "rd"
    refine ite2 (fun hc=>?_) (fun hc=>iteF ?_)
    ·walk_at "rd"
     rename_i pz hpz
     refine ite2 (fun hd=>?_) (fun hd=>?_)
     ·obtain ⟨x2,hx2,hx3,hat2⟩:=zau8 (m:=m / 10 % 2) (by omega) (by omega)
      walk_at "rd"
      exact (n2.same (Ch.new hpz _)).same (Ch.new (by assumption) _)
     ·have hz:arW x=0:=by
       clear hat
       simp only [WS,List.mem_cons,List.not_mem_nil,or_false] at hx
       rcases hx with rfl | rfl | rfl | rfl | rfl | rfl | rfl | rfl | rfl | rfl <;> first | decide +kernel | (exfalso; revert hd; decide +kernel)
      exact ⟨x,hx,fun _=>hz,rfl,n2.same (Ch.new hpz _)⟩
    ·refine ⟨x,hx,fun z=>?_,rfl,n2⟩
     rw [← hxl] at z
     exact absurd (by rw [z]; decide) hc
   ·rintro σ H3 ⟨x2,hx2,hx0,rfl,n3⟩
    walk_at "rd"
    rename_i fl hfl dp hdp
    refine ⟨(rfl:_=List.map (fun kv=>(kV kv.1,kv.2)) DD),by decide,?_⟩
    have hal:=zat0 hx2
    have hdg:=zatz hx2
    have n4:=(n3.same (Ch.new hfl (HO.lst []))).same (Ch.own (o:=HO.dK (mergeK [] DD)) hdp (Ch.new hdp (HO.dK [])))
    have fl4:upd (upd (upd H3 fl (HO.lst [])) dp (HO.dK [])) dp (HO.dK (mergeK [] DD)) fl=some (HO.lst []):=Ch.get (W:=[]) (Ch.own hdp (Ch.new hdp (HO.dK []))) zaaf (by simp)
    have ffl:H fl=none:=by
     cases e:H fl with
     | none=>rfl
     | some o =>
      by_cases z:fl=b
      ·obtain ⟨c9,h9,_⟩:=n3.at_
       rw [z,h9] at hfl; cases hfl
      ·have:=n3.ch.get e (by simpa using z)
       rw [this] at hfl; cases hfl
    have nfb:fl≠b:=(zaa7 hb ffl).symm
    have nfg:fl≠gl:=(zaa7 n3.gl hfl).symm
    refine ⟨dp,rfl,Or.inl ⟨_,Or.inl zaaf⟩,_,rfl,_,DGet.k (k:=Sum.inr x2) zaaf,?_⟩
    rw [hdg]
    generalize upd (upd (upd H3 fl (HO.lst [])) dp (HO.dK [])) dp (HO.dK (mergeK [] DD))=H4 at n4 fl4 ⊢
    walk_at "rd"
    refine zac6 (fun j σ H5=>∃ fs u2 u5,σ=[some (.ref a),some (.ref b),some (.int (ins:Int)),some (.int (keeps:Int)),some (.int (many:Int)),some (.ref gl),some (.int (0 + (i:Int))),u2,some (.str x2),some (.ref fl),u5,none]∧NS H H5 b gl c (12 + 4 * i + 1 + j:Int) gs xs ins∧H5 fl=some (.lst (List.map nV fs))∧fs.length=j∧Below fs gs.length) ⟨[],_,_,rfl,n4.wk (by simp),fl4,rfl,.nil⟩ ?_ ?_
    ·rintro j σ H5 hj ⟨fs,v2,v5,rfl,n5,gf5,lf5,bf5⟩
     have hj2:j < arW x2:=by simpa using hj
     have hgp:0 < gs.length:=by
      rcases Nat.eq_zero_or_pos gs.length with z | z
      ·have:=hx0 z; omega
      ·exact z
     obtain ⟨c5,hb5,hc5,hd5⟩:=n5.at_
     have hS5:Scr K H5 a ns:=hS.ch hb n5.ch
     have gl5:=n5.gl
     walk_at "rd"
     rename_i z H6 hz0 hz1 c6 hb6
     have n6:=n5.bump nb hb5 c6 hb6
     have gl6:=n6.gl
     have gf6:H6 fl=some (.lst (List.map nV fs)):=c6.get gf5 (by simpa using nfb)
     refine ite2 (fun he=>?_) (fun he=>?_)
     ·obtain ⟨q1,hq1,hq2⟩:∃ q1:Nat,z / 2 % (xs.length:Int)=(q1:Int)∧q1 < gs.length:=by
       have h1:0≤z / 2 % (xs.length:Int):=Int.emod_nonneg _ (by omega)
       have h2:z / 2 % (xs.length:Int) < (xs.length:Int):=Int.emod_lt_of_pos _ (by omega)
       exact ⟨(z / 2 % (xs.length:Int)).toNat,by omega,by omega⟩
      walk_at "rd"
      refine ⟨(n6.own ffl nfb nfg gf6).wk (by omega),(by rw [zaaf]; (try dsimp only); rw [hq1]; simp [nV]:_=some (HO.lst (List.map nV (fs++[q1])))),by simp [lf5],bf5.snoc hq2⟩
     ·obtain ⟨q1,hq1,hq2⟩:∃ q1:Nat,(if (xs.length:Int) - 1 - z / 2 % 4 > 0 then (xs.length:Int) - 1 - z / 2 % 4 else 0)=(q1:Int)∧q1 < gs.length:=by
       refine ⟨(if (xs.length:Int) - 1 - z / 2 % 4 > 0 then (xs.length:Int) - 1 - z / 2 % 4 else 0).toNat,?_,?_⟩ <;> split <;> omega
      walk_at "rd"
      refine ⟨(n6.own ffl nfb nfg gf6).wk (by omega),(by rw [zaaf]; (try dsimp only); rw [hq1]; simp [nV]:_=some (HO.lst (List.map nV (fs++[q1])))),by simp [lf5],bf5.snoc hq2⟩
    ·rintro σ H5 ⟨fs,v2,v5,rfl,n5,gf5,lf5,bf5⟩
     have lf5:fs.length=arW x2:=by simpa using lf5
     have gl5:=n5.gl
     obtain ⟨g,eg,g1,g2,g3⟩:=mkG hx2 lf5 bf5.of
     walk_at "rd"
     rename_i e1 he1 e2 he2 e3 he3
     have n7:=((n5.same (Ch.new he1 (HO.lst [V.str x2]))).same (Ch.new he2 (HO.lst ([V.str x2]++List.map nV fs)))).same (Ch.new he3 (HO.tup ([V.str x2]++List.map nV fs)))
     have n8:=n7.push (g:=g) nb fg (by rw [zaaf,eg]; rfl) g1 g2
     exact ⟨n8.wk (by omega),by simp; omega,kp.push _⟩
  ·skip
   rintro σ H' ⟨gs,xs,u1,u2,u3,u4,u5,rfl,n,hl,kp⟩
   have hl:gs.length=ins + keeps + many:=by simpa using hl
   have n:=n.wk (B':=108) (by simp; omega)
   walk_at "rd"
   refine zac6 (fun i σ H'=>∃ gs xs u1,σ=[some (.ref a),some (.ref b),some (.int (ins:Int)),some (.int (keeps:Int)),some (.int (many:Int)),some (.ref gl),u1,u2,u3,u4,u5,none]∧NS H H' b gl c (108 + i:Int) gs xs ins∧gs.length=ins + keeps + many∧KP gs ins (ins + keeps)) ⟨_,_,_,rfl,n.wk (by simp),hl,kp⟩ ?_ ?_
   ·skip
    rintro i σ H' hi' ⟨gs,xs,u1,rfl,n,hl,kp⟩
    have hi2:i < keeps:=by omega
    obtain ⟨ff,a0,hj⟩:=kp.of (ins + i) (by omega) (by omega)
    obtain ⟨f0,f1,_⟩:0≤ff∧ff < 2∧_:=n.ok _ _ hj
    obtain ⟨p,ep,hp⟩:=n.gg.at_ _ _ hj
    have hp:H' p=some (.tup [.str "keep",.int ff,.int a0]):=hp
    obtain ⟨c',hb1,hc1,hc2⟩:=n.at_
    have hS1:Scr K H' a ns:=hS.ch hb n.ch
    have hxl:=n.gg.len
    have gl1:=n.gl
    have hat:atI xs ((ins:Int) + (i:Int))=some (.ref p):=by
     have:=zacx ep
     rwa [Int.natCast_add] at this
    have hix:ixN xs.length ((ins:Int) + (i:Int))=some (ins + i):=by
     unfold ixN; rw [if_pos (by omega),if_pos (by omega)]; congr 1
    walk_at "rd"
    rename_i z H2 hz0 hz1 c2 hb2 tp htp
    have n2:=n.bump nb hb1 c2 hb2
    have h1:0≤z % (xs.length:Int):=Int.emod_nonneg _ (by omega)
    have h2:z % (xs.length:Int) < (xs.length:Int):=Int.emod_lt_of_pos _ (by omega)
    have n3:=n2.same (Ch.new htp (HO.tup [V.str (Str.ofString "keep"),V.int ff,V.int (z % (xs.length:Int))]))
    have gl3:=n3.gl
    have n4:=n3.set (g:=.keep ff (z % (xs.length:Int)).toNat) nb fg (by rw [zaaf]; show _=some (HO.tup [_,_,V.int (((z % (xs.length:Int)).toNat:Nat):Int)]); rw [show (((z % (xs.length:Int)).toNat:Nat):Int)=z % (xs.length:Int) by omega]) hj ⟨f0,f1,by omega⟩ rfl (by omega)
    exact ⟨n4.wk (by omega),by simp [hl],kp.set⟩
   ·skip
    rintro σ H' ⟨gs,xs,u1,rfl,n,hl,kp⟩
    have n:=n.wk (B':=120) (by omega)
    obtain ⟨c',hb1,hc1,hc2⟩:=n.at_
    have hS1:Scr K H' a ns:=hS.ch hb n.ch
    have hxl:=n.gg.len
    walk_at "rd"
    rename_i ol hol z H2 hz0 hz1 c2 hb2
    obtain ⟨fol,ob,og⟩:=n.fresh hb hol
    have n2:=(n.same (Ch.new hol (HO.lst []))).bump nb (zacf hol hb1) c2 hb2
    have o2:H2 ol=some (.lst (List.map nV [])):=c2.get zaaf (by simpa using ob)
    refine zac6 (fun j σ H5=>∃ os u6 u7,σ=[some (.ref a),some (.ref b),some (.int (ins:Int)),some (.int (keeps:Int)),some (.int (many:Int)),some (.ref gl),u6,u7,u3,u4,u5,some (.ref ol)]∧NS H H5 b gl c (121 + j:Int) gs xs ins∧H5 ol=some (.lst (List.map nV os))∧os.length≤j∧Below os gs.length) ⟨[],_,_,rfl,n2.wk (by omega),o2,by simp,.nil⟩ ?_ ?_
    ·rintro j σ H5 hj ⟨os,v2,v5,rfl,n5,gf5,lf5,bf5⟩
     have hj2:j < 4:=by omega
     obtain ⟨c5,hb5,hc5,hd5⟩:=n5.at_
     have hS5:Scr K H5 a ns:=hS.ch hb n5.ch
     have gl5:=n5.gl
     walk_at "rd"
     refine ite2 (fun hc=>?_) (fun hc=>?_)
     ·have hgp:0 < gs.length:=by
       have:0 < (xs.length:Int):=by simpa using hc
       omega
      walk_at "rd"
      rename_i z H6 hz0 hz1 c6 hb6
      have n6:=n5.bump nb hb5 c6 hb6
      have gl6:=n6.gl
      have gf6:H6 ol=some (.lst (List.map nV os)):=c6.get gf5 (by simpa using ob)
      refine ite2 (fun he=>?_) (fun he=>?_)
      ·obtain ⟨q1,hq1,hq2⟩:∃ q1:Nat,z / 2 % (xs.length:Int)=(q1:Int)∧q1 < gs.length:=by
        have h1:0≤z / 2 % (xs.length:Int):=Int.emod_nonneg _ (by omega)
        have h2:z / 2 % (xs.length:Int) < (xs.length:Int):=Int.emod_lt_of_pos _ (by omega)
        exact ⟨(z / 2 % (xs.length:Int)).toNat,by omega,by omega⟩
       walk_at "rd"
       refine ⟨(n6.own fol ob og gf6).wk (by omega),(by rw [zaaf]; (try dsimp only); rw [hq1]; simp [nV]:_=some (HO.lst (List.map nV (os++[q1])))),by simp; omega,bf5.snoc hq2⟩
      ·obtain ⟨q1,hq1,hq2⟩:∃ q1:Nat,(xs.length:Int) - 1 - z / 2 % (if (xs.length:Int) < 3 then (xs.length:Int) else 3)=(q1:Int)∧q1 < gs.length:=by
        have h1:0≤z / 2 % (if (xs.length:Int) < 3 then (xs.length:Int) else 3):=Int.emod_nonneg _ (by split <;> omega)
        have h2:z / 2 % (if (xs.length:Int) < 3 then (xs.length:Int) else 3) < (if (xs.length:Int) < 3 then (xs.length:Int) else 3):=Int.emod_lt_of_pos _ (by split <;> omega)
        have h3:(if (xs.length:Int) < 3 then (xs.length:Int) else 3)≤(xs.length:Int):=by split <;> omega
        refine ⟨((xs.length:Int) - 1 - z / 2 % (if (xs.length:Int) < 3 then (xs.length:Int) else 3)).toNat,?_,?_⟩ <;> (generalize (if (xs.length:Int) < 3 then (xs.length:Int) else 3)=W3 at *; generalize z / 2 % W3=Y3 at *; omega)
       walk_at "rd"
       refine ⟨(n6.own fol ob og gf6).wk (by omega),(by rw [zaaf]; (try dsimp only); rw [hq1]; simp [nV]:_=some (HO.lst (List.map nV (os++[q1])))),by simp; omega,bf5.snoc hq2⟩
     ·refine ⟨os,_,_,rfl,n5.wk (by omega),gf5,by omega,bf5⟩
    ·rintro σ H5 ⟨os,v2,v5,rfl,n5,gf5,lf5,bf5⟩
     walk_at "rd"
     rename_i R hR
     exact q R gl ol gs xs os _ ((n5.same (Ch.new hR _)).wk (by omega)) zaaf (by omega) (zacf hR gf5) bf5.of (by omega) fg fol
end
end

section
structure Box (Pd:Prop):Prop where
 h:Pd
theorem zaf4 {n:Int} (h:0≤n):∃ m:Nat,n=(m:Int):=Int.eq_ofNat_of_zero_le h
structure DN (H0 H':Hp) (b gl ol:Addr) (c B:Int) (gs:List Gt) (xs:List V) (os:List Nat):Prop where
 ch:Ch [b] H0 H'
 at_:∃ c',H' b=some (.lst [.int c'])∧c≤c'∧c'≤c + B
 gl:H' gl=some (.lst xs)
 gg:Gs H' gs xs
 ok:Oks gs
 ol:H' ol=some (.lst (os.map nV))
 oo:∀ o∈os,o < gs.length
structure DF (H0:Hp) (b gl ol:Addr):Prop where
 g:H0 gl=none
 o:H0 ol=none
 gb:gl≠b
 ob:ol≠b
 go:gl≠ol
theorem DN.push {H0 H':Hp}{b gl ol p:Addr}{c B:Int}{gs:List Gt}{xs:List V}{os:List Nat}{g:Gt} (n:DN H0 H' b gl ol c B gs xs os) (f:DF H0 b gl ol) (hp:H' p=some (.tup g.vs)) (hg:g.ok gs.length (gs.length + 1)):DN H0 (upd H' gl (.lst (xs++[.ref p]))) b gl ol c B (gs++[g]) (xs++[.ref p]) os:=by
 obtain ⟨c'',h1,h2,h3⟩:=n.at_
 exact ⟨Ch.own f.g n.ch,⟨c'',zac1 f.gb.symm h1,h2,h3⟩,zaaf,n.gg.push n.gl hp,n.ok.push hg,zac1 f.go.symm n.ol,fun o m=>by have:=n.oo o m; simp; omega⟩
theorem DN.same {H0 H' H1:Hp}{b gl ol:Addr}{c B:Int}{gs:List Gt}{xs:List V}{os:List Nat} (n:DN H0 H' b gl ol c B gs xs os) (c1:Ch [] H' H1):DN H0 H1 b gl ol c B gs xs os:=by
 obtain ⟨c'',h1,h2,h3⟩:=n.at_
 exact ⟨n.ch.trans (Ch.wk c1),⟨c'',c1.get h1 (by simp),h2,h3⟩,c1.get n.gl (by simp),n.gg.tu (Tu.same c1),n.ok,c1.get n.ol (by simp),n.oo⟩
theorem DN.out {H0 H':Hp}{b gl ol:Addr}{c B:Int}{gs:List Gt}{xs:List V}{os:List Nat}{o:Nat} (n:DN H0 H' b gl ol c B gs xs os) (f:DF H0 b gl ol) (ho:o < gs.length):DN H0 (upd H' ol (.lst ((os++[o]).map nV))) b gl ol c B gs xs (os++[o]):=by
 obtain ⟨c'',h1,h2,h3⟩:=n.at_
 refine ⟨Ch.own f.o n.ch,⟨c'',zac1 f.ob.symm h1,h2,h3⟩,zac1 f.go n.gl,n.gg.tu (Tu.lst Ch.put n.ol),n.ok,zaaf,fun x m=>?_⟩
 rcases List.mem_append.mp m with m | m
 ·exact n.oo x m
 ·rw [List.mem_singleton.mp m]; exact ho
theorem DN.bump {H0 H' H1:Hp}{b gl ol:Addr}{c c' B:Int}{gs:List Gt}{xs:List V}{os:List Nat} (n:DN H0 H' b gl ol c B gs xs os) (f:DF H0 b gl ol) (hb:H' b=some (.lst [.int c'])) (c1:Ch [b] H' H1) (hb1:H1 b=some (.lst [.int (c' + 1)])):DN H0 H1 b gl ol c (B + 1) gs xs os:=by
 obtain ⟨c'',h1,h2,h3⟩:=n.at_
 rw [hb] at h1
 injection h1 with h1; injection h1 with h1; injection h1 with h1 _; injection h1 with h1
 subst h1
 exact ⟨n.ch.trans c1,⟨c' + 1,hb1,by omega,by omega⟩,c1.get n.gl (by simpa using f.gb),n.gg.tu (Tu.lst c1 hb),n.ok,c1.get n.ol (by simpa using f.ob),n.oo⟩
theorem zapv {H H3:Hp}{b p:Addr}{o:HO} (c:Ch [b] H H3) (hb:H3 b=some o) (hp:H3 p=none):H p=none∧p≠b:=by
 have n:p≠b:=fun z=>by rw [z,hb] at hp; cases hp
 refine ⟨?_,n⟩
 cases e:H p with
 | none=>rfl
 | some o=>rw [c.get e (by simpa using n)] at hp; cases hp
theorem mk4 {j:Nat} (h:j < 4):j=0∨j=1∨j=2∨j=3:=by omega
section
variable {P:Program}{w:World}{K:PySem.W.Frag}{mg:Str→Option Value}{base:Heap}{f:Addr}{fd:FuncData}{k:Nat}
theorem zaiz:Nd "_law_net" := by decide +kernel
theorem av49:AF (defScope (top 49)) ["_law_script", "_law_at", "_law_ins", "_law_keeps", "_law_gates", "_law_outs", "_law_m", "_law_k", "_law_one", "_law_other", "_law_some"]:=⟨by decide +kernel⟩
theorem gl49:AG (defScope (top 49)) ["_law_next", "_law_net", "len", "range"]:=⟨by decide +kernel⟩
def spDr (K:PySem.W.Frag):Sp:=fun vs H Q _=>∃ (a b:Addr) (ns:List Int) (c:Int),vs=[.ref a,.ref b]∧Scr K H a ns∧H b=some (.lst [.int c])∧0≤c∧c < 2 ^ 58 ∧
 ∀ (R gl ol:Addr) (gs:List Gt) (xs:List V) (os:List Nat) (H':Hp),DN H H' b gl ol c 1010 gs xs os→H' R=some (.tup [.ref gl,.ref ol])→gs.length≤60→os.length≤8→(H gl=none∧ol≠b)→Q (.ref R) H'
theorem scDr:FnScope ["_law_script", "_law_at", "_law_ins", "_law_keeps", "_law_gates", "_law_outs", "_law_m", "_law_k", "_law_one", "_law_other", "_law_some"] ["_law_script", "_law_at"] (defScope (top 49)):=⟨rfl,rfl,rfl,by decide +kernel,rfl,by decide +kernel,by decide +kernel⟩
theorem zau9 (F:Fun K "_law_drawn" "_law_drawn" (top 49) f fd) (D_law_next:DefOk P w K mg base CX0 k "_law_next" ["_law_script", "_law_at"] (spNext K)) (D_law_net:DefOk P w K mg base CX0 k "_law_net" ["_law_script", "_law_at", "_law_ins", "_law_keeps", "_law_many"] (spLNet K)) (z_len:mg "len" = none) (z_range:mg "range" = none):FnOk P w K mg base CX0 (k + 1) f fd ["_law_script", "_law_at"] (spDr K):=by
 have nd:=scDr.nd
 refine F.ok scDr (fun vs H Q E h=>by obtain ⟨a,b,ns,c,rfl,_⟩:=h; rfl) (fun cdv A outer s H vs Q E hr h=>?_)
 obtain ⟨a,b,ns,c,rfl,hS,hb,h0,h1,q⟩:=h
 refine ⟨_,(Pr.h (zaad (zaa1 (i:=2) nd rfl (av49.l 2 rfl) (zaa4 zacd (zaai D_law_next hr (gl49.g 0 rfl) pass0 (zaaa (qv av49 0 rfl) (zaaa (qv av49 1 rfl) zaab zaac) zaac) zab3) zaag)) (zaad (zaa1 (i:=3) nd rfl (av49.l 3 rfl) (zaa4 zacd (zaai D_law_next hr (gl49.g 0 rfl) pass0 (zaaa (qv av49 0 rfl) (zaaa (qv av49 1 rfl) zaab zaac) zaac) zab3) zaag)) (zaad (zadx (zaai D_law_net hr (gl49.g 1 rfl) pass0 (zaaa (qv av49 0 rfl) (zaaa (qv av49 1 rfl) (zaaa (qv av49 2 rfl) (zaaa (qv av49 3 rfl) (zaaa (zaa4 zadm zaag (zaa4 zacd (zaai D_law_next hr (gl49.g 0 rfl) pass0 (zaaa (qv av49 0 rfl) (zaaa (qv av49 1 rfl) zaab zaac) zaac) zab3) zaag)) zaab zaco) zaac) zaac) zaac) zaac) zaiz) (zac7 rfl (zaa5 (zaau (i:=4) nd rfl (av49.l 4 rfl)) (zaa5 (zaau (i:=5) nd rfl (av49.l 5 rfl)) zacc)))) (zaad (zaa1 (i:=6) nd rfl (av49.l 6 rfl) (zaai D_law_next hr (gl49.g 0 rfl) pass0 (zaaa (qv av49 0 rfl) (zaaa (qv av49 1 rfl) zaab zaac) zaac) zab3)) (zabs (zaav (zaar zabh (zaa4 zacd (qv av49 6 rfl) zaag) zaag (nomark _)) (zaad (zacp (zado PySem.F.plainAttrs_list PySem.F.slot_list_append PySem.F.type_list_append zacl (qv av49 4 rfl) (zaaa (zaax (zaaa zaas zaab zaaj)) zaab zab1))) (zaae (zacp (zado PySem.F.plainAttrs_list PySem.F.slot_list_append PySem.F.type_list_append zacl (qv av49 5 rfl) (zaaa (zaa4 zafp (zaah zaap (gl49.g 2 rfl) z_len PySem.boot_len (zaaa (qv av49 4 rfl) zaab zaac) zaba zabb) zaag) zaab zaco))))) zaal) (zabs (zaav (zaar zabh (zaa4 zacd (zaa4 zacw (qv av49 6 rfl) zaag) zaag) zaag (nomark _)) (zaad (zaca PassesOwn.never rfl (zacy (gl49.g 3 rfl) z_range (zaaa (zaa4 zadm zaag (zaa4 zacd (zaa4 zacw (qv av49 6 rfl) zaag) zaag)) zaab zaco)) (zaau (i:=7) nd rfl (av49.l 7 rfl)) (zaad (zaa1 (i:=8) nd rfl (av49.l 8 rfl) (zaa4 zacd (zaa4 zacw (qv av49 6 rfl) (zaa4 zadm zaag (qv av49 7 rfl))) (zaah zaap (gl49.g 2 rfl) z_len PySem.boot_len (zaaa (qv av49 4 rfl) zaab zaac) zaba zabb))) (zaad (zaa1 (i:=9) nd rfl (av49.l 9 rfl) (zaa4 zacd (zaa4 zacw (qv av49 6 rfl) (zaa4 zadm zaag (zaa4 zafq zaag (qv av49 7 rfl)))) (zaah zaap (gl49.g 2 rfl) z_len PySem.boot_len (zaaa (qv av49 4 rfl) zaab zaac) zaba zabb))) (zaad (zaa1 (i:=10) nd rfl (av49.l 10 rfl) (zact (zaaa (zaax (zaaa zaas (zaaa (qv av49 8 rfl) zaab zaac) zaaj)) (zaaa (zaax (zaaa zaas (zaaa (qv av49 8 rfl) (zaaa (qv av49 9 rfl) zaab zaac) zaac) zaaj)) (zaaa (zaax (zaaa zaas (zaaa (qv av49 9 rfl) (zaaa (qv av49 8 rfl) zaab zaac) zaac) zaaj)) (zaaa (zaax (zaaa zaas (zaaa (qv av49 8 rfl) (zaaa (qv av49 9 rfl) (zaaa (qv av49 8 rfl) zaab zaac) zaac) zaac) zaaj)) zaab zab1) zab1) zab1) zab1))) (zaae (zacp (zado PySem.F.plainAttrs_list PySem.F.slot_list_append PySem.F.type_list_append zacl (qv av49 4 rfl) (zaaa (zaat zaaw (qv av49 10 rfl) (zaa4 zacd (zaa4 zacw (qv av49 6 rfl) (zaa4 zadm zaag (qv av49 7 rfl))) zaag) (fun _ _=>rfl)) zaab zaaq)))))))) (zaae (zaa1 (i:=5) nd rfl (av49.l 5 rfl) (zaa4 zaht (qv av49 5 rfl) (zact (zaaa (zaa4 zafp (zaah zaap (gl49.g 2 rfl) z_len PySem.boot_len (zaaa (qv av49 4 rfl) zaab zaac) zaba zabb) zaag) zaab zaco)))))) zaal) (zaae (zaak (zaax (zaaa (qv av49 4 rfl) (zaaa (qv av49 5 rfl) zaab zaac) zaac))))))))))),?_⟩
 (try dsimp only [cxOf])
 have bx:Box (Scr K H a ns):=⟨hS⟩
 clear hS
 walk_at "rd"
 refine ⟨bx.h,hb,h0,by omega,fun z1 H1 z10 z11 c1 b1=>?_⟩
 have bx1:Box (Scr K H1 a ns):=⟨bx.h.ch hb c1⟩
 walk_at "rd"
 refine ⟨bx1.h,b1,by omega,by omega,fun z2 H2 z20 z21 c2 b2=>?_⟩
 have bx2:Box (Scr K H2 a ns):=⟨bx1.h.ch b1 c2⟩
 walk_at "rd"
 refine ⟨bx2.h,b2,by omega,by omega,fun z3 H3 z30 z31 c3 b3=>?_⟩
 have hS3:=bx2.h.ch b2 c3
 obtain ⟨ins,e1⟩:=zaf4 (show 0≤z1 % 4 by omega)
 obtain ⟨kee,e2⟩:=zaf4 (show 0≤z2 % 4 by omega)
 obtain ⟨man,e3⟩:=zaf4 (show 0≤1 + z3 % 18 by omega)
 have bx3:Box (Scr K H3 a ns):=⟨hS3⟩
 clear hS3 bx2 bx1 bx
 walk_at "rd"
 refine ⟨bx3.h,b3,by omega,by omega,fun R gl ol gs xs os H4 ns4 hR4 lz4 ho4 oo4 zo4 fg4 fo4=>?_⟩
 have cH3:Ch [b] H H3:=(c1.trans c2).trans c3
 have dn4:DN H H4 b gl ol c 1003 gs xs os:=by
  obtain ⟨c',h1,h2,h3⟩:=ns4.at_
  exact ⟨cH3.trans ns4.ch,⟨c',h1,by omega,by omega⟩,ns4.gl,ns4.gg,ns4.ok,ho4,oo4⟩
 obtain ⟨fg,gb⟩:=zapv cH3 b3 fg4
 obtain ⟨fo,ob⟩:=zapv cH3 b3 fo4
 have go:gl≠ol:=fun z=>by
  have h1:man≤gs.length:=lz4.2
  have h2:0 < gs.length:=by omega
  obtain ⟨p,ep,_⟩:=ns4.gg.at_ 0 _ (List.getElem?_eq_getElem h2)
  have:=ns4.gl
  rw [z,ho4] at this
  cases this
  rw [List.getElem?_map] at ep
  obtain ⟨o,_,e⟩:=Option.map_eq_some_iff.mp ep
  cases e
 have df:DF H b gl ol:=⟨fg,fo,gb,ob,go⟩
 obtain ⟨c4,b4,hc4,hd4⟩:=dn4.at_
 have bx4:Box (Scr K H4 a ns):=⟨bx3.h.ch b3 ns4.ch⟩
 have l1:1≤gs.length:=by omega
 walk_at "rd"
 refine ⟨bx4.h,b4,by omega,by omega,fun m H5 m0 m1 c5 b5=>?_⟩
 have dn5:=dn4.bump df b4 c5 b5
 have lz5:gs.length≤48:=lz4.1
 clear dn4 ns4 c5 b5 b4 bx3 bx4 hR4 ho4 oo4 lz4
 walk_at "rd"
 refine zacr (fun σ H'=>∃ gs xs os,σ=[some (.ref a),some (.ref b),some (.int (z1 % 4)),some (.int (z2 % 4)),some (.ref gl),some (.ref ol),some (.int m),none,none,none,none]∧DN H H' b gl ol c 1004 gs xs os∧gs.length≤49∧1≤gs.length∧os.length≤5) ?_ ?_
 ·have gl5:=dn5.gl
  have ol5:=dn5.ol
  have lx5:=dn5.gg.len
  walk_at "rd"
  refine ite2 (fun hc=>?_) (fun hc=>?_)
  ·walk_at "rd"
   rename_i T hT
   have d6:=(dn5.same (Ch.new hT (.tup [.str "in"]))).push df (g:=.inp) zaaf trivial
   have d7:=d6.out df (o:=gs.length) (by simp)
   have ee:List.map nV os++[V.int (((xs++[V.ref T]).length:Nat) - 1:Int)]=(os++[gs.length]).map nV:=by simp [nV,lx5]
   (try dsimp only)
   rw [ee]
   exact ⟨d7,by simp; omega,by simp,by simp; omega⟩
  ·exact ⟨gs,xs,os,rfl,dn5,by omega,l1,by omega⟩
 rintro σ H6 ⟨gs,xs,os,rfl,dn6,z6,l6,y6⟩
 refine zacr (fun σ H'=>∃ ol2 gs xs os u3 u4 u5 u6,σ=[some (.ref a),some (.ref b),some (.int (z1 % 4)),some (.int (z2 % 4)),some (.ref gl),some (.ref ol2),some (.int m),u3,u4,u5,u6]∧DN H H' b gl ol2 c 1004 gs xs os∧gs.length≤55∧os.length≤6∧ol2≠b) ?_ ?_
 ·walk_at "rd"
  refine ite2 (fun hc=>?_) (fun hc=>?_)
  ·obtain ⟨n6,en6⟩:=zaf4 (show 0≤1 + m / 6 % 6 by omega)
   walk_at "rd"
   refine zac6 (fun i σ H'=>∃ gs xs u3 u4 u5 u6,σ=[some (.ref a),some (.ref b),some (.int (z1 % 4)),some (.int (z2 % 4)),some (.ref gl),some (.ref ol),some (.int m),u3,u4,u5,u6]∧DN H H' b gl ol c 1004 gs xs os∧gs.length≤49 + i∧1≤gs.length) ⟨gs,xs,_,_,_,_,rfl,dn6,by omega,l6⟩ ?_ ?_
   ·clear dn6 z6 l6
    rintro i σ H' hi ⟨gs,xs,u3,u4,u5,u6,rfl,dn,zz,l6⟩
    have hi6:i < 6:=by omega
    have hgl:=dn.gl
    have lx:=dn.gg.len
    have lp:0 < (xs.length:Int):=by omega
    obtain ⟨o1,eo1⟩:=zaf4 (Int.emod_nonneg (m / (11 + (0 + (i:Int)))) (show (xs.length:Int)≠0 by omega))
    obtain ⟨o2,eo2⟩:=zaf4 (Int.emod_nonneg (m / (101 + 7 * (0 + (i:Int)))) (show (xs.length:Int)≠0 by omega))
    have lo1:o1 < gs.length:=by have:=Int.emod_lt_of_pos (m / (11 + (0 + (i:Int)))) lp; omega
    have lo2:o2 < gs.length:=by have:=Int.emod_lt_of_pos (m / (101 + 7 * (0 + (i:Int)))) lp; omega
    obtain ⟨o3,eo3⟩:=zaf4 (show 0≤m / (37 + (0 + (i:Int))) % 4 by omega)
    have lo3:o3 < 4:=by omega
    walk_at "rd"
    rename_i p1 h1 p2 h2 p3 h3 p4 h4 p5 h5
    dsimp only at h1 h2 h3 h4 h5 ⊢
    simp only [eo1,eo2,eo3] at h1 h2 h3 h4 h5 ⊢
    have cc:Ch [] H' (upd (upd (upd (upd (upd H' p1 (.tup [.str "not",.int o1])) p2 (.tup [.str "xor",.int o1,.int o2])) p3 (.tup [.str "and",.int o2,.int o1])) p4 (.tup [.str "pick",.int o1,.int o2,.int o1])) p5 (.lst [.ref p1,.ref p2,.ref p3,.ref p4])):=((((Ch.new h1 _).trans (Ch.new h2 _)).trans (Ch.new h3 _)).trans (Ch.new h4 _)).trans (Ch.new h5 _)
    have f4:=zacf (u:=.lst [.ref p1,.ref p2,.ref p3,.ref p4]) h5 zaaf
    have f3:=zacf (u:=.lst [.ref p1,.ref p2,.ref p3,.ref p4]) h5 (zacf h4 zaaf)
    have f2:=zacf (u:=.lst [.ref p1,.ref p2,.ref p3,.ref p4]) h5 (zacf h4 (zacf h3 zaaf))
    have f1:=zacf (u:=.lst [.ref p1,.ref p2,.ref p3,.ref p4]) h5 (zacf h4 (zacf h3 (zacf h2 zaaf)))
    have dc:=dn.same cc
    have hgc:=dc.gl
    generalize upd (upd (upd (upd (upd H' p1 (.tup [.str "not",.int o1])) p2 (.tup [.str "xor",.int o1,.int o2])) p3 (.tup [.str "and",.int o2,.int o1])) p4 (.tup [.str "pick",.int o1,.int o2,.int o1])) p5 (.lst [.ref p1,.ref p2,.ref p3,.ref p4])=HC at f1 f2 f3 f4 dc hgc ⊢
    clear h1 h2 h3 h4 h5 cc
    rcases mk4 lo3 with rfl | rfl | rfl | rfl
    ·walk_at "rd"
     exact ⟨dc.push df (g:=.not o1) f1 lo1,by simp; omega,by simp⟩
    ·walk_at "rd"
     exact ⟨dc.push df (g:=.xor o1 o2) f2 ⟨lo1,lo2⟩,by simp; omega,by simp⟩
    ·walk_at "rd"
     exact ⟨dc.push df (g:=.and o2 o1) f3 ⟨lo2,lo1⟩,by simp; omega,by simp⟩
    ·walk_at "rd"
     exact ⟨dc.push df (g:=.pick o1 o2 o1) f4 ⟨lo1,lo2,lo1⟩,by simp; omega,by simp⟩
   ·rintro σ H' ⟨gs,xs,u3,u4,u5,u6,rfl,dn,zz,l6⟩
    have hgl:=dn.gl
    have hol:=dn.ol
    have lx:=dn.gg.len
    walk_at "rd"
    rename_i p1 hp1 p2 hp2
    have c9:Ch [] H' (upd (upd H' p1 (.lst [.int ((xs.length:Int) - 1)])) p2 (.lst (List.map nV os++[.int ((xs.length:Int) - 1)]))):=(Ch.new hp1 _).trans (Ch.new hp2 _)
    have dx:=dn.same c9
    have e8:(xs.length:Int) - 1=((gs.length - 1:Nat):Int):=by omega
    exact ⟨⟨dx.ch,dx.at_,dx.gl,dx.gg,dx.ok,(by rw [zaaf]; dsimp only; rw [e8]; simp [nV]:_=some (HO.lst ((os++[gs.length - 1]).map nV))),fun o m=>by
     rcases List.mem_append.mp m with m | m
     ·exact dx.oo o m
     ·rw [List.mem_singleton.mp m]; omega⟩,by omega,by simp; omega,by obtain ⟨c8,b8,_⟩:=dn.at_; exact (zaa7 (zacf hp1 b8) hp2).symm⟩
  ·exact ⟨ol,gs,xs,os,_,_,_,_,rfl,dn6,by omega,by omega,ob⟩
 rintro σ H7 ⟨ol2,gs,xs,os,u3,u4,u5,u6,rfl,dn7,z7,y7,ob2⟩
 walk_at "rd"
 rename_i R hR
 obtain ⟨c',h1,h2,h3⟩:=dn7.at_
 have d8:=dn7.same (Ch.new hR (.tup [.ref gl,.ref ol2]))
 exact q R gl ol2 gs xs os _ ⟨d8.ch,by obtain ⟨c9,a1,a2,a3⟩:=d8.at_; exact ⟨c9,a1,a2,by omega⟩,d8.gl,d8.gg,d8.ok,d8.ol,d8.oo⟩ zaaf (by omega) (by omega) ⟨fg,ob2⟩
end
end

section
def Gt.src:Gt→Bool
 | .inp=>true
 | .keep _ _=>true
 | _=>false
def Gt.wd:Gt→Str
 | .inp => "in"
 | .zero => "zero"
 | .one => "one"
 | .keep _ _ => "keep"
 | .not _ => "not"
 | .and _ _ => "and"
 | .or _ _ => "or"
 | .xor _ _ => "xor"
 | .pick _ _ _ => "pick"
def Gt.ks:Gt→List Key
 | .inp=>[.inr "in"]
 | .zero=>[.inr "zero"]
 | .one=>[.inr "one"]
 | .keep f a=>[.inr "keep",.inl f,.inl a]
 | .not a=>[.inr "not",.inl a]
 | .and a b=>[.inr "and",.inl a,.inl b]
 | .or a b=>[.inr "or",.inl a,.inl b]
 | .xor a b=>[.inr "xor",.inl a,.inl b]
 | .pick a b c=>[.inr "pick",.inl a,.inl b,.inl c]
theorem Gt.vs_ks (g:Gt):g.vs=g.ks.map kV:=by cases g <;> rfl
theorem Gt.ks_wd (g:Gt):g.ks.head?=some (.inr g.wd):=by cases g <;> rfl
theorem Gt.wd_inj {g h:Gt} (e:g.wd=h.wd):g.ctorIdx=h.ctorIdx:=by
 cases g <;> cases h <;> first | rfl | (exfalso; revert e; simp only [Gt.wd]; decide +kernel)
theorem Gt.ks_inj {g h:Gt} (e:g.ks=h.ks):g=h:=by
 have e1:g.wd=h.wd:=by
  have:=congrArg List.head? e
  rw [Gt.ks_wd,Gt.ks_wd] at this
  exact Sum.inr.inj (Option.some.inj this)
 have e2:=Gt.wd_inj e1
 cases g <;> cases h <;> first | rfl | (exfalso; revert e2; simp [Gt.ctorIdx]; done) | (simp only [Gt.ks,List.cons.injEq,Sum.inl.injEq,Int.natCast_inj,and_true,true_and] at e; simp [e])
theorem Gt.vs_inj {g h:Gt} (e:g.vs=h.vs):g=h:=by
 refine Gt.ks_inj ?_
 rw [Gt.vs_ks,Gt.vs_ks] at e
 refine List.map_inj_right (f:=kV) (fun a b z=>?_) |>.mp e
 cases a <;> cases b <;> simp [kV] at z <;> simp [z]
theorem Gt.vs_sca (g:Gt):ScaL g.vs:=by
 refine ⟨fun z hz=>?_⟩
 rw [Gt.vs_ks] at hz
 obtain ⟨k,_,rfl⟩:=List.mem_map.mp hz
 exact zatx k
def Gt.nf:Gt→Gt
 | .and a b=>.and (min a b) (max a b)
 | .or a b=>.or (min a b) (max a b)
 | .xor a b=>.xor (min a b) (max a b)
 | g=>g
def fiP (g h:Gt):Bool:=!h.src && decide (h.nf=g.nf)
def findI (gs:List Gt) (g:Gt):Option Nat:=gs.findIdx? (fiP g)
theorem zaey {gs:List Gt}{g:Gt}{i:Nat} (h:findI gs g=some i):∃ h',gs[i]?=some h'∧h'.src=false∧h'.nf=g.nf:=by
 obtain ⟨hi,hp,_⟩:=List.findIdx?_eq_some_iff_getElem.mp h
 simp only [fiP,Bool.and_eq_true,Bool.not_eq_true',decide_eq_true_eq] at hp
 exact ⟨_,List.getElem?_eq_getElem hi,hp.1,hp.2⟩
theorem zagk {gs:List Gt}{g:Gt} (h:findI gs g=none) {i:Nat}{h':Gt} (e:gs[i]?=some h') (hs:h'.src=false):h'.nf≠g.nf:=by
 intro z
 have:=List.findIdx?_eq_none_iff.mp h h' (List.mem_of_getElem? e)
 simp [fiP,hs,z] at this
theorem zah5 (gs:List Gt) (h g:Gt):findI (gs++[h]) g=(findI gs g).or (if fiP g h then some gs.length else none):=by
 unfold findI
 rw [List.findIdx?_append]
 congr 1
 cases e:fiP g h <;> simp [List.findIdx?_cons,e]
theorem zaoz {gs:List Gt}{g h:Gt} (e:g.nf=h.nf):findI gs g=findI gs h:=by
 unfold findI
 congr 1
 funext x
 simp [fiP,e]
def like (gs:List Gt) (g:Gt):List Gt × Nat:=match findI gs g with
 | some i=>(gs,i)
 | none=>(gs++[g],gs.length)
abbrev Rs:=List Gt × Nat × Str
def lk (gs:List Gt) (g:Gt) (y:Str):Rs:=((like gs g).1,(like gs g).2,y)
def isZ (gs:List Gt) (n:Nat):Bool:=decide (gs[n]?=some .zero)
def isO (gs:List Gt) (n:Nat):Bool:=decide (gs[n]?=some .one)
def opsd (gs:List Gt) (a b:Nat):Bool:=decide (gs[a]?=some (.not b)) || decide (gs[b]?=some (.not a))
def opp (gs:List Gt) (n:Nat):List Gt × Nat:=match gs[n]? with
 | some (.not a)=>(gs,a)
 | _=>like gs (.not n)
def plain (gs:List Gt) (g:Gt):Rs:=((like gs g).1,(like gs g).2,if (like gs g).1[(like gs g).2]?=some g then "same" else "turned")
def notP (gs:List Gt) (x:Nat):Rs :=
 if isZ gs x then lk gs .one "one" else if isO gs x then lk gs .zero "zero" else match gs[x]? with
  | some (.not a)=>(gs,a, "inner")
  | _=>plain gs (.not x)
def andP (gs:List Gt) (x y:Nat):Rs :=
 if isO gs y || decide (x=y) then (gs,x, "first") else if isO gs x then (gs,y, "second") else if isZ gs x || (isZ gs y || opsd gs x y) then lk gs .zero "zero" else plain gs (.and x y)
def orP (gs:List Gt) (x y:Nat):Rs :=
 if isZ gs y || decide (x=y) then (gs,x, "first") else if isZ gs x then (gs,y, "second") else if isO gs x || (isO gs y || opsd gs x y) then lk gs .one "one" else plain gs (.or x y)
def xorP (gs:List Gt) (x y:Nat):Rs :=
 if isZ gs y then (gs,x, "first") else if isZ gs x then (gs,y, "second") else if x=y then lk gs .zero "zero" else if opsd gs x y then lk gs .one "one"
 else if isO gs y then ((opp gs x).1,(opp gs x).2, "not") else if isO gs x then ((opp gs y).1,(opp gs y).2, "not") else plain gs (.xor x y)
def pickP (gs:List Gt) (x y z:Nat):Rs :=
 if isO gs x || decide (y=z) then (gs,y, "second") else if isZ gs x then (gs,z, "third") else if isO gs y && isZ gs z then (gs,x, "first") else if isZ gs y && isO gs z then ((opp gs x).1,(opp gs x).2, "not") else plain gs (.pick x y z)
def gpair (gs:List Gt) (ρ:Nat→Nat):Gt→Rs
 | .not a=>notP gs (ρ a)
 | .and a b=>andP gs (ρ a) (ρ b)
 | .or a b=>orP gs (ρ a) (ρ b)
 | .xor a b=>xorP gs (ρ a) (ρ b)
 | .pick a b c=>pickP gs (ρ a) (ρ b) (ρ c)
 | g=>plain gs g
structure Cn (gs:List Gt) (a:Nat):Prop where
 of:gs[a]?=some .zero∨gs[a]?=some .one
def FW (gs:List Gt):Gt→Prop
 | .not a=>¬ Cn gs a∧∀ b,gs[a]?≠some (.not b)
 | .and a b=>¬ Cn gs a∧¬ Cn gs b∧a≠b
 | .or a b=>¬ Cn gs a∧¬ Cn gs b∧a≠b
 | .xor a b=>¬ Cn gs a∧¬ Cn gs b∧a≠b
 | .pick a b c=>¬ Cn gs a∧¬ (Cn gs b∧Cn gs c)∧b≠c
 | _=>True
structure WF (gs:List Gt):Prop where
 ok:∀ (i:Nat) (g:Gt),gs[i]?=some g→g.src=false→g.ok i 0∧FW gs g
 un:∀ (i j:Nat) (g h:Gt),gs[i]?=some g→gs[j]?=some h→g.src=false→h.src=false→g.nf=h.nf→i=j
theorem Cn.of_app {gs:List Gt}{h:Gt}{a:Nat} (ha:a < gs.length):Cn (gs++[h]) a↔Cn gs a:=by
 constructor <;> rintro ⟨e⟩ <;> refine ⟨?_⟩
 ·rwa [List.getElem?_append_left ha] at e
 ·rwa [List.getElem?_append_left ha]
theorem FW.app {gs:List Gt}{h g:Gt}{i n:Nat} (hg:FW gs g) (ok:g.ok i n) (hs:g.src=false) (hi:i≤gs.length):FW (gs++[h]) g:=by
 cases g <;> simp only [FW,Gt.ok,Gt.src] at *
 case not a=>rw [Cn.of_app (by omega),List.getElem?_append_left (by omega)]; exact hg
 case and a b=>rw [Cn.of_app (by omega),Cn.of_app (by omega)]; exact hg
 case or a b=>rw [Cn.of_app (by omega),Cn.of_app (by omega)]; exact hg
 case xor a b=>rw [Cn.of_app (by omega),Cn.of_app (by omega)]; exact hg
 case pick a b c=>rw [Cn.of_app (by omega),Cn.of_app (by omega),Cn.of_app (by omega)]; exact hg
theorem zady {gs:List Gt}{h g:Gt}{i:Nat} (e:(gs++[h])[i]?=some g):(i < gs.length∧gs[i]?=some g)∨(i=gs.length∧g=h):=by
 by_cases hi:i < gs.length
 ·rw [List.getElem?_append_left hi] at e; exact .inl ⟨hi,e⟩
 ·rw [List.getElem?_append_right (by omega)] at e
  have hi0:i - gs.length=0:=by
   rcases Nat.eq_zero_or_pos (i - gs.length) with z | z
   ·exact z
   ·rw [List.getElem?_eq_none (by simp; omega)] at e; cases e
  rw [hi0] at e
  exact .inr ⟨by omega,by simpa using e.symm⟩
theorem WF.lay {gs:List Gt} (w:WF gs) {h:Gt} (hs:h.src=true):WF (gs++[h]):=by
 constructor
 ·intro i g e s
  rcases zady e with ⟨hi,e⟩ | ⟨_,rfl⟩
  ·obtain ⟨a,b⟩:=w.ok i g e s
   exact ⟨a,b.app a s (by omega)⟩
  ·rw [hs] at s; cases s
 ·intro i j g g' e e' s s' n
  rcases zady e with ⟨hi,e⟩ | ⟨_,rfl⟩
  ·rcases zady e' with ⟨hj,e'⟩ | ⟨_,rfl⟩
   ·exact w.un i j g g' e e' s s' n
   ·rw [hs] at s'; cases s'
  ·rw [hs] at s; cases s
theorem Gt.ok_any {g:Gt}{i n m:Nat} (h:g.ok i n) (hs:g.src=false):g.ok i m:=by
 cases g <;> simp only [Gt.ok,Gt.src] at * <;> first | trivial | omega | (cases hs)
theorem zadt {g:Gt}{i n:Nat} (h:g.ok i n) (hs:g.src=false):∀ a∈g.feeds,a < i:=by
 intro a ha
 cases g <;> simp only [Gt.ok,Gt.src,Gt.feeds,List.mem_cons,List.not_mem_nil,or_false,List.mem_singleton] at * <;> first | omega | (cases hs)
structure May (gs:List Gt) (g:Gt):Prop where
 s:g.src=false
 ok:g.ok gs.length 0
 fw:FW gs g
theorem WF.like {gs:List Gt} (w:WF gs) {h:Gt} (m:May gs h):WF (like gs h).1∧(like gs h).2 < (like gs h).1.length∧gs.length≤(like gs h).1.length:=by
 unfold B17.like
 cases e:findI gs h with
 | some i =>
  obtain ⟨h',e',_⟩:=zaey e
  exact ⟨w,(List.getElem?_eq_some_iff.mp e').1,Nat.le_refl _⟩
 | none =>
  refine ⟨⟨?_,?_⟩,by simp,by simp⟩
  ·intro i g e1 s
   rcases zady e1 with ⟨hi,e1⟩ | ⟨rfl,rfl⟩
   ·obtain ⟨a,b⟩:=w.ok i g e1 s
    exact ⟨a,b.app a s (by omega)⟩
   ·exact ⟨m.ok,m.fw.app m.ok m.s (Nat.le_refl _)⟩
  ·intro i j g g' e1 e2 s s' n
   rcases zady e1 with ⟨hi,d1⟩ | ⟨z1,z2⟩
   ·rcases zady e2 with ⟨hj,d2⟩ | ⟨z3,z4⟩
    ·exact w.un i j g g' d1 d2 s s' n
    ·exact absurd (z4 ▸ n) (zagk e d1 s)
   ·rcases zady e2 with ⟨hj,d2⟩ | ⟨z3,z4⟩
    ·exact absurd (z2 ▸ n).symm (zagk e d2 s')
    ·rw [z1,z3]
def Ext (gs:List Gt) (r:Rs):Prop:=(r.1=gs∧r.2.1 < gs.length)∨∃ h,May gs h∧r.1=(like gs h).1∧r.2.1=(like gs h).2
theorem zao0 (gs:List Gt):May gs .zero:=⟨rfl,trivial,trivial⟩
theorem zao1 (gs:List Gt):May gs .one:=⟨rfl,trivial,trivial⟩
theorem zag2 {gs:List Gt}{x:Nat} (h1:¬ isZ gs x=true) (h2:¬ isO gs x=true):¬ Cn gs x:=by
 rintro ⟨z | z⟩
 ·exact h1 (decide_eq_true z)
 ·exact h2 (decide_eq_true z)
theorem zapw {gs:List Gt} (w:WF gs) {x y:Nat} (h1:¬ isZ gs x=true) (h2:isO gs y=true) (n:x≠y):¬ Cn gs x:=by
 rintro ⟨z | z⟩
 ·exact h1 (decide_eq_true z)
 ·exact n (w.un _ _ _ _ z (of_decide_eq_true h2) rfl rfl rfl)
theorem zah6 {gs:List Gt} (w:WF gs) {x a:Nat} (h:gs[x]?=some (.not a)):a < gs.length:=by
 have h1:=(w.ok x _ h rfl).1
 have h2:=(List.getElem?_eq_some_iff.mp h).1
 exact Nat.lt_trans h1 h2
theorem zai0 {gs:List Gt} (w:WF gs) {x:Nat} (hx:x < gs.length) (hc:¬ Cn gs x) (y:Str):Ext gs ((opp gs x).1,(opp gs x).2,y):=by
 unfold opp
 split
 ·rename_i a e
  exact .inl ⟨rfl,zah6 w e⟩
 ·rename_i e
  exact .inr ⟨.not x,⟨rfl,hx,hc,e⟩,rfl,rfl⟩
theorem zarj {gs:List Gt} (w:WF gs) {x:Nat} (hx:x < gs.length):Ext gs (notP gs x):=by
 unfold notP
 split
 ·exact .inr ⟨_,zao1 gs,rfl,rfl⟩
 rename_i h1
 split
 ·exact .inr ⟨_,zao0 gs,rfl,rfl⟩
 rename_i h2
 split
 ·rename_i a e
  exact .inl ⟨rfl,zah6 w e⟩
 ·rename_i e
  exact .inr ⟨.not x,⟨rfl,hx,zag2 h1 h2,e⟩,rfl,rfl⟩
theorem zark {gs:List Gt} (w:WF gs) {x y:Nat} (hx:x < gs.length) (hy:y < gs.length):Ext gs (andP gs x y):=by
 unfold andP
 split
 ·exact .inl ⟨rfl,hx⟩
 rename_i h1
 split
 ·exact .inl ⟨rfl,hy⟩
 rename_i h2
 split
 ·exact .inr ⟨_,zao0 gs,rfl,rfl⟩
 rename_i h3
 simp only [Bool.or_eq_true,decide_eq_true_eq,not_or] at h1 h3
 exact .inr ⟨.and x y,⟨rfl,⟨hx,hy⟩,zag2 h3.1 h2,zag2 h3.2.1 h1.1,h1.2⟩,rfl,rfl⟩
theorem zat1 {gs:List Gt} (w:WF gs) {x y:Nat} (hx:x < gs.length) (hy:y < gs.length):Ext gs (orP gs x y):=by
 unfold orP
 split
 ·exact .inl ⟨rfl,hx⟩
 rename_i h1
 split
 ·exact .inl ⟨rfl,hy⟩
 rename_i h2
 split
 ·exact .inr ⟨_,zao1 gs,rfl,rfl⟩
 rename_i h3
 simp only [Bool.or_eq_true,decide_eq_true_eq,not_or] at h1 h3
 exact .inr ⟨.or x y,⟨rfl,⟨hx,hy⟩,zag2 h2 h3.1,zag2 h1.1 h3.2.1,h1.2⟩,rfl,rfl⟩
theorem zarl {gs:List Gt} (w:WF gs) {x y:Nat} (hx:x < gs.length) (hy:y < gs.length):Ext gs (xorP gs x y):=by
 unfold xorP
 split
 ·exact .inl ⟨rfl,hx⟩
 rename_i h1
 split
 ·exact .inl ⟨rfl,hy⟩
 rename_i h2
 split
 ·exact .inr ⟨_,zao0 gs,rfl,rfl⟩
 rename_i h3
 split
 ·exact .inr ⟨_,zao1 gs,rfl,rfl⟩
 split
 ·rename_i h5
  exact zai0 w hx (zapw w h2 h5 h3) _
 rename_i h5
 split
 ·rename_i h6
  exact zai0 w hy (zapw w h1 h6 (Ne.symm h3)) _
 rename_i h6
 exact .inr ⟨.xor x y,⟨rfl,⟨hx,hy⟩,zag2 h2 h6,zag2 h1 h5,h3⟩,rfl,rfl⟩
theorem zao2 {gs:List Gt} (w:WF gs) {x y z:Nat} (hx:x < gs.length) (hy:y < gs.length) (hz:z < gs.length):Ext gs (pickP gs x y z):=by
 unfold pickP
 split
 ·exact .inl ⟨rfl,hy⟩
 rename_i h1
 split
 ·exact .inl ⟨rfl,hz⟩
 rename_i h2
 simp only [Bool.or_eq_true,decide_eq_true_eq,not_or] at h1
 split
 ·exact .inl ⟨rfl,hx⟩
 rename_i h3
 split
 ·exact zai0 w hx (zag2 h2 h1.1) _
 rename_i h4
 refine .inr ⟨.pick x y z,⟨rfl,⟨hx,hy,hz⟩,zag2 h2 h1.1,?_,h1.2⟩,rfl,rfl⟩
 rintro ⟨⟨a | a⟩,⟨b | b⟩⟩
 ·exact h1.2 (w.un _ _ _ _ a b rfl rfl rfl)
 ·exact h4 (by rw [Bool.and_eq_true]; exact ⟨decide_eq_true a,decide_eq_true b⟩)
 ·exact h3 (by rw [Bool.and_eq_true]; exact ⟨decide_eq_true a,decide_eq_true b⟩)
 ·exact h1.2 (w.un _ _ _ _ a b rfl rfl rfl)
theorem zamr {gs:List Gt} (w:WF gs) {ρ:Nat→Nat}{g:Gt} (hs:g.src=false) (hf:∀ a∈g.feeds,ρ a < gs.length):Ext gs (gpair gs ρ g):=by
 cases g with
 | inp=>cases hs
 | keep _ _=>cases hs
 | zero=>exact .inr ⟨_,zao0 gs,rfl,rfl⟩
 | one=>exact .inr ⟨_,zao1 gs,rfl,rfl⟩
 | not a=>exact zarj w (hf a (by simp [Gt.feeds]))
 | and a b=>exact zark w (hf a (by simp [Gt.feeds])) (hf b (by simp [Gt.feeds]))
 | or a b=>exact zat1 w (hf a (by simp [Gt.feeds])) (hf b (by simp [Gt.feeds]))
 | xor a b=>exact zarl w (hf a (by simp [Gt.feeds])) (hf b (by simp [Gt.feeds]))
 | pick a b c=>exact zao2 w (hf a (by simp [Gt.feeds])) (hf b (by simp [Gt.feeds])) (hf c (by simp [Gt.feeds]))
theorem Ext.wf {gs:List Gt} (w:WF gs) {r:Rs} (h:Ext gs r):WF r.1∧r.2.1 < r.1.length∧gs.length≤r.1.length:=by
 rcases h with ⟨e,h⟩ | ⟨g,m,e,e'⟩
 ·rw [e]; exact ⟨w,h,Nat.le_refl _⟩
 ·rw [e,e']; exact w.like m
theorem Ext.len {gs:List Gt}{r:Rs} (h:Ext gs r):r.1.length≤gs.length + 1:=by
 rcases h with ⟨e,h⟩ | ⟨g,m,e,e'⟩
 ·rw [e]; omega
 ·rw [e]
  unfold like
  split <;> simp
end

section
def fldsS (gl d:Addr):List (Str × V):=[("gates",.ref gl),("numbers",.ref d)]
theorem fs_g (gl d:Addr):List.lookup (Str.ofString "gates") (fldsS gl d)=some (.ref gl):=rfl
theorem fs_n (gl d:Addr):List.lookup (Str.ofString "numbers") (fldsS gl d)=some (.ref d):=rfl
structure FsN (gl d:Addr):Prop where
 l:List.lookup (Str.ofString "lay") (fldsS gl d)=none
 k:List.lookup (Str.ofString "gate_like") (fldsS gl d)=none
 z:List.lookup (Str.ofString "zero") (fldsS gl d)=none
 o:List.lookup (Str.ofString "one") (fldsS gl d)=none
 p:List.lookup (Str.ofString "opposite") (fldsS gl d)=none
 iz:List.lookup (Str.ofString "is_zero") (fldsS gl d)=none
 io:List.lookup (Str.ofString "is_one") (fldsS gl d)=none
 ao:List.lookup (Str.ofString "are_opposed") (fldsS gl d)=none
theorem fsn (gl d:Addr):FsN gl d:=⟨rfl,rfl,rfl,rfl,rfl,rfl,rfl,rfl⟩
def Gt.mk (g:Gt):List Key:=g.nf.ks
structure Num (gs:List Gt) (kvs:List (List Key × V)):Prop where
 len:kvs.length≤gs.length
 val:∀ g:Gt,valV kvs g.mk=(findI gs g).map nV
theorem Num.nil:Num [] []:=⟨Nat.le_refl _,fun g=>rfl⟩
theorem Num.lay {gs:List Gt}{kvs:List (List Key × V)} (n:Num gs kvs) {h:Gt} (hs:h.src=true):Num (gs++[h]) kvs:=by
 refine ⟨by have:=n.len; simp; omega,fun g=>?_⟩
 have:fiP g h=false:=by simp [fiP,hs]
 rw [zah5,n.val,this]
 simp
theorem Num.put {gs:List Gt}{kvs:List (List Key × V)} (n:Num gs kvs) {h:Gt} (hs:h.src=false) (hf:findI gs h=none):Num (gs++[h]) (putK kvs h.mk (nV gs.length)):=by
 refine ⟨Nat.le_trans (zac5 _ _ _) (by have:=n.len; simp; omega),fun g=>?_⟩
 rw [zaff,zah5]
 by_cases e:g.mk=h.mk
 ·have e2:g.nf=h.nf:=Gt.ks_inj e
  have:fiP g h=true:=by simp [fiP,hs,e2]
  rw [if_pos e,zaoz e2,hf,this]
  simp
 ·have:fiP g h=false:=by
   simp only [fiP,Bool.and_eq_false_iff]
   exact .inr (decide_eq_false fun z=>e (by unfold Gt.mk; rw [z]))
  rw [if_neg e,n.val,this]
  simp
structure ShAt (C:Addr) (H:Hp) (y gl d:Addr) (gs:List Gt):Prop where
 ob:∃ dy,H y=some (.ins C dy (fldsS gl d))
 g:∃ xs,H gl=some (.lst xs)∧Gs H gs xs
 n:∃ kvs,H d=some (.dT kvs)∧Num gs kvs
theorem ShAt.ch {C:Addr}{H H':Hp}{y gl d:Addr}{gs:List Gt} (r:ShAt C H y gl d gs) (c:Ch [] H H'):ShAt C H' y gl d gs :=
 ⟨r.ob.imp fun _ h=>c.get h (by simp),let ⟨xs,a,b⟩:=r.g; ⟨xs,c.get a (by simp),b.tu (Tu.same c)⟩,let ⟨k,a,b⟩:=r.n; ⟨k,c.get a (by simp),b⟩⟩
theorem Ch.mono {W W':List Addr}{H H':Hp} (c:Ch W H H') (h:∀ x∈W,x∈W'):Ch W' H H':=fun a o e n=>c a o e fun z=>n (h a z)
theorem ShAt.lay {C:Addr}{H:Hp}{y gl d p:Addr}{gs:List Gt}{xs:List V}{g:Gt} (r:ShAt C H y gl d gs) (hg:H gl=some (.lst xs)) (hp:H p=some (.tup g.vs)) (hs:g.src=true):ShAt C (upd H gl (.lst (xs++[.ref p]))) y gl d (gs++[g]):=by
 obtain ⟨⟨dy,hy⟩,⟨xs2,hg2,gg⟩,⟨kvs,hd,n⟩⟩:=r
 rw [hg] at hg2
 cases hg2
 exact ⟨⟨dy,zac1 (zadb hy hg (by intro z; cases z)) hy⟩,⟨_,zaaf,gg.push hg hp⟩,⟨kvs,zac1 (zadb hd hg (by intro z; cases z)) hd,n.lay hs⟩⟩
theorem ShAt.put {C:Addr}{H:Hp}{y gl d p:Addr}{gs:List Gt}{xs:List V}{kvs:List (List Key × V)}{g:Gt} (r:ShAt C H y gl d gs) (hg:H gl=some (.lst xs)) (hd:H d=some (.dT kvs)) (hp:H p=some (.tup g.vs)) (hs:g.src=false) (hf:findI gs g=none) :
  ShAt C (upd (upd H gl (.lst (xs++[.ref p]))) d (.dT (putK kvs g.mk (nV gs.length)))) y gl d (gs++[g]):=by
 obtain ⟨⟨dy,hy⟩,⟨xs2,hg2,gg⟩,⟨kvs2,hd2,n⟩⟩:=r
 rw [hg] at hg2
 cases hg2
 rw [hd] at hd2
 cases hd2
 have n1:=zadb hy hg (by intro z; cases z)
 have n2:=zadb hy hd (by intro z; cases z)
 have n3:=zadb hg hd (by intro z; cases z)
 exact ⟨⟨dy,zac1 n2 (zac1 n1 hy)⟩,⟨_,zac1 n3 zaaf,(gg.push hg hp).tu (Tu.ch Ch.put (zac1 n3.symm hd) (fun _ z=>by cases z))⟩,⟨_,zaaf,n.put hs hf⟩⟩
theorem ShAt.at {C:Addr}{H:Hp}{y gl d:Addr}{gs:List Gt} (r:ShAt C H y gl d gs) {n:Nat}{g:Gt} (h:gs[n]?=some g):∃ xs p,H gl=some (.lst xs)∧atI xs (n:Int)=some (.ref p)∧H p=some (.tup g.vs)∧n < xs.length:=by
 obtain ⟨xs,hg,gg⟩:=r.g
 obtain ⟨p,ep,hp⟩:=gg.at_ n g h
 exact ⟨xs,p,hg,zacx ep,hp,(List.getElem?_eq_some_iff.mp ep).1⟩
theorem zava (g h:Gt):decide (g.vs=h.vs)=decide (g=h):=by
 by_cases e:g=h
 ·subst e; simp
 ·rw [decide_eq_false e,decide_eq_false fun z=>e (Gt.vs_inj z)]
theorem zaez (g:Gt):∃ rs:List V,g.vs=.str g.wd :: rs:=by cases g <;> exact ⟨_,rfl⟩
local macro_rules | `(tactic| walk_at "user")=>`(tactic| first
 | (apply ShAt.ch; (focus with_reducible assumption); (focus walk_at "ch"))
 | exact Gt.vs_sca _
 | (apply Or.inr; refine (‹∀ H:Hp,SqT _ H _ _›) _)
 | (apply isD_t; walk_at "get")
 | (apply zami; (focus walk_at "get"); (focus walk_at "get"); (focus with_reducible assumption))
 | (apply zamj; (focus walk_at "get"); (focus walk_at "get"); (focus with_reducible assumption))
 | (apply DPut.t; (focus walk_at "get"); (focus walk_at "get"); (focus walk_at "arith")))
section
variable {P:Program}{w:World}{K:PySem.W.Frag}{mg:Str→Option Value}{base:Heap}{f:Addr}{fd:FuncData}{k:Nat}
theorem zah7:Nd "TWO_SIDED" := by decide +kernel
theorem av16m0:AF (defScope (inClass (top 16) 0)) ["self"]:=⟨by decide +kernel⟩
def spShr (C:Addr):Sp:=fun vs H Q _=>∃ (y dy:Addr),vs=[.ref y]∧H y=some (.ins C dy [])∧∀ gl d H',Ch [y] H H'→H gl=none→H d=none→ShAt C H' y gl d []→Q .non H'
theorem scShr:FnScope ["self"] ["self"] (defScope (inClass (top 16) 0)):=⟨rfl,rfl,rfl,by decide +kernel,rfl,by decide +kernel,by decide +kernel⟩
theorem zat2 {C:Addr} (F:Fun K "__init__" "Shrinker.__init__" (inClass (top 16) 0) f fd) (cl:Cls K C) (nG:NoAttr K C "gates") (nN:NoAttr K C "numbers"):FnOk P w K mg base CX0 (k + 1) f fd ["self"] (spShr C):=by
 have nd:=scShr.nd
 refine F.ok scShr (fun vs H Q E h=>by obtain ⟨y,dy,rfl,_⟩:=h; rfl) (fun cdv A outer s H vs Q E hr h=>?_)
 obtain ⟨y,dy,rfl,hy,q⟩:=h
 refine ⟨_,(Pr.h (zaad (zagu (qv av16m0 0 rfl) (zact zaab) rfl) (zaae (zagu (qv av16m0 0 rfl) zamh rfl)))),?_⟩
 (try dsimp only [cxOf])
 walk_at "rd"
 rename_i gl hgl cd hcd
 have ngy:gl≠y:=(zaa7 hy hgl).symm
 have ncy:cd≠y:=fun z=>by rw [z,zaaf] at hcd; cases hcd
 have fcd:H cd=none:=by
  rw [zabq ncy] at hcd
  exact chFree (Ch.new hgl _) hcd
 exact q gl cd _ ((((Ch.new hgl _).wk.trans Ch.put).trans (Ch.new hcd _)).trans Ch.put) hgl fcd ⟨⟨dy,zaaf⟩,⟨[],zac1 ngy (zacf hcd (zac1 ngy zaaf)),rfl,fun i g e=>by simp at e⟩,⟨[],zac1 ncy zaaf,Num.nil⟩⟩
theorem av16m1:AF (defScope (inClass (top 16) 1)) ["self", "gate"]:=⟨by decide +kernel⟩
theorem gl16m1:AG (defScope (inClass (top 16) 1)) ["len"]:=⟨by decide +kernel⟩
def spLay (C:Addr):Sp:=fun vs H Q _=>∃ (y p gl d dy:Addr) (xs:List V),vs=[.ref y,.ref p]∧H y=some (.ins C dy (fldsS gl d))∧H gl=some (.lst xs)∧xs.length≤900∧Q (.int (xs.length:Int)) (upd H gl (.lst (xs++[.ref p])))
theorem scLay:FnScope ["self", "gate"] ["self", "gate"] (defScope (inClass (top 16) 1)):=⟨rfl,rfl,rfl,by decide +kernel,rfl,by decide +kernel,by decide +kernel⟩
theorem zat3 {C:Addr} (F:Fun K "lay" "Shrinker.lay" (inClass (top 16) 1) f fd) (cl:Cls K C) (nG:NoAttr K C "gates") (z_len:mg "len" = none):FnOk P w K mg base CX0 (k + 1) f fd ["self", "gate"] (spLay C):=by
 have nd:=scLay.nd
 refine F.ok scLay (fun vs H Q E h=>by obtain ⟨y,p,gl,d,dy,xs,rfl,_⟩:=h; rfl) (fun cdv A outer s0 H vs Q E hr h=>?_)
 obtain ⟨y,p,gl,d,dy,xs,rfl,hy,hg,sz,q⟩:=h
 refine ⟨_,(Pr.h (zaad (zacp (zado PySem.F.plainAttrs_list PySem.F.slot_list_append PySem.F.type_list_append zacl (zabj (qv av16m1 0 rfl) rfl) (zaaa (qv av16m1 1 rfl) zaab zaac))) (zaae (zaak (zaa4 zafp (zaah zaap (gl16m1.g 0 rfl) z_len PySem.boot_len (zaaa (zabj (qv av16m1 0 rfl) rfl) zaab zabf) zaba zabb) zaag))))),?_⟩
 (try dsimp only [cxOf])
 have f1:=fs_g gl d
 have nyg:y≠gl:=zadb hy hg (by intro z; cases z)
 walk_at "rd"
 refine Eq.mp (congrArg (fun z=>Q (.int z) _) ?_) q
 rw [List.length_append]
 simp
theorem av16m2:AF (defScope (inClass (top 16) 2)) ["self", "gate", "mark"]:=⟨by decide +kernel⟩
theorem gl16m2:AG (defScope (inClass (top 16) 2)) ["TWO_SIDED", "max", "min"]:=⟨by decide +kernel⟩
def spLike (C:Addr):Sp:=fun vs H Q _=>∃ (y p gl d:Addr) (gs:List Gt) (g:Gt),vs=[.ref y,.ref p]∧ShAt C H y gl d gs∧H p=some (.tup g.vs)∧g.src=false∧gs.length≤900∧∀ H',Ch [gl,d] H H'→ShAt C H' y gl d (like gs g).1→Q (nV (like gs g).2) H'
theorem scLike:FnScope ["self", "gate", "mark"] ["self", "gate"] (defScope (inClass (top 16) 2)):=⟨rfl,rfl,rfl,by decide +kernel,rfl,by decide +kernel,by decide +kernel⟩
theorem zarm {C T2:Addr} (F:Fun K "gate_like" "Shrinker.gate_like" (inClass (top 16) 2) f fd) (cl:Cls K C) (nN:NoAttr K C "numbers") (MShrinker_lay:MethOk P w K mg base CX0 k C "lay" ["self", "gate"] (spLay C))
  (m_TWO_SIDED:mg "TWO_SIDED" = some (.ref T2)) (hT2:∀ H,SqT K H T2 [.str "and",.str "or",.str "xor"]) (z_min:mg "min" = none) (z_max:mg "max" = none):FnOk P w K mg base CX0 (k + 1) f fd ["self", "gate"] (spLike C):=by
 have nd:=scLike.nd
 refine F.ok scLike (fun vs H Q E h=>by obtain ⟨y,p,gl,d,gs,g,rfl,_⟩:=h; rfl) (fun cdv A outer s0 H vs Q E hr h=>?_)
 obtain ⟨y,p,gl,d,gs,g,rfl,r,hp,hs,sz,q⟩:=h
 have hu:=zaly hr
 refine ⟨_,(Pr.h (zaad (zaa1 (i:=2) nd rfl (av16m2.l 2 rfl) (qv av16m2 1 rfl)) (zabs (zaav (zaar zaea (zaat zaa0 (qv av16m2 1 rfl) zaag (fun _ _=>rfl)) (zad3 (v:=.ref _) (gl16m2.g 0 rfl) m_TWO_SIDED rfl zah7) rfl) (zaae (zaa1 (i:=2) nd rfl (av16m2.l 2 rfl) (zaax (zaaa (zaat zaa0 (qv av16m2 1 rfl) zaag (fun _ _=>rfl)) (zaaa (zaah (zak2 rfl) (gl16m2.g 2 rfl) z_min zaps (zaaa (zaee zaj1 (qv av16m2 1 rfl) (zafi zaag) zafh) zaab zaaq) zapt zapu) (zaaa (zaah (zak3 rfl) (gl16m2.g 1 rfl) z_max zapp (zaaa (zaee zaj1 (qv av16m2 1 rfl) (zafi zaag) zafh) zaab zaaq) zapq zapr) zaab zabi) zabi) zaaq)))) zaal) (zabs (zaav (zaeu hu (qv av16m2 2 rfl) (zabj (qv av16m2 0 rfl) rfl)) (zaae (zafl hu (zabj (qv av16m2 0 rfl) rfl) (qv av16m2 2 rfl) (zaa6 (qv av16m2 0 rfl) MShrinker_lay hr pass0 (zaaa (qv av16m2 1 rfl) zaab zaac)) rfl)) zaal) (zaae (zaak (zaei hu (zabj (qv av16m2 0 rfl) rfl) (qv av16m2 2 rfl) (fun _ _=>rfl)))))))),?_⟩
 (try dsimp only [cxOf])
 walk_at "rd"
 refine zacr (fun σ H'=>∃ m,σ=[some (.ref y),some (.ref p),some (.ref m)]∧Ch [] H H'∧H' m=some (.tup (g.mk.map kV))) ?_ ?_
 ·cases g with
  | inp=>cases hs
  | keep _ _=>cases hs
  | zero =>
   have hp:H p=some (.tup [.str "zero"]):=hp
   walk_at "rd"
   exact hp
  | one =>
   have hp:H p=some (.tup [.str "one"]):=hp
   walk_at "rd"
   exact hp
  | not a =>
   have hp:H p=some (.tup [.str "not",.int a]):=hp
   walk_at "rd"
   exact hp
  | pick a b c =>
   have hp:H p=some (.tup [.str "pick",.int a,.int b,.int c]):=hp
   walk_at "rd"
   exact hp
  | and a b =>
   have hp:H p=some (.tup [.str "and",.int a,.int b]):=hp
   walk_at "rd"
   rw [zaaf]; simp [Gt.mk,Gt.nf,Gt.ks,kV]; omega
  | or a b =>
   have hp:H p=some (.tup [.str "or",.int a,.int b]):=hp
   walk_at "rd"
   rw [zaaf]; simp [Gt.mk,Gt.nf,Gt.ks,kV]; omega
  | xor a b =>
   have hp:H p=some (.tup [.str "xor",.int a,.int b]):=hp
   walk_at "rd"
   rw [zaaf]; simp [Gt.mk,Gt.nf,Gt.ks,kV]; omega
 ·rintro σ H1 ⟨m,rfl,c1,hm⟩
  obtain ⟨⟨dy,hy⟩,⟨xs,hg,gg⟩,⟨kvs,hd,nm⟩⟩:=id (r.ch c1)
  have f1:=fs_n gl d
  have f2:=(fsn gl d).l
  have kl:=nm.len
  have lx:=gg.len
  have hp1:H1 p=some (.tup g.vs):=c1.get hp (by simp)
  have vk:=nm.val g
  have nmg:m≠gl:=zadb hm hg (by intro z; cases z)
  have nmd:m≠d:=zadb hm hd (by intro z; cases z)
  have ngd:gl≠d:=zadb hg hd (by intro z; cases z)
  have nyg:y≠gl:=zadb hy hg (by intro z; cases z)
  refine zacr (fun σ H'=>∃ kvs',σ=[some (.ref y),some (.ref p),some (.ref m)]∧Ch [gl,d] H H'∧ShAt C H' y gl d (like gs g).1∧H' d=some (.dT kvs')∧valV kvs' g.mk=some (nV (like gs g).2)∧H' m=some (.tup (g.mk.map kV))) ?_ ?_
  ·cases e:findI gs g with
   | some i =>
    have el:like gs g=(gs,i):=by unfold like; rw [e]
    rw [e] at vk
    have vk:valV kvs g.mk=some (nV i):=vk
    rw [el]
    walk_at "rd"
   | none =>
    have el:like gs g=(gs++[g],gs.length):=by unfold like; rw [e]
    rw [e] at vk
    have vk:valV kvs g.mk=none:=vk
    rw [el]
    have rp:=(r.ch c1).put hg hd hp1 hs e
    rw [show nV gs.length=V.int (xs.length:Int) from by rw [lx]; rfl] at rp
    walk_at "rd"
    exact ⟨((Ch.mono c1 (by simp)).trans (Ch.mono Ch.put (by simp))).trans (Ch.mono Ch.put (by simp)),rp,zaaf,by rw [zaff,if_pos rfl,lx]; rfl,zac1 nmd (zac1 nmg hm)⟩
  ·rintro σ H2 ⟨kvs2,rfl,c2,r2,hd2,vk2,hm2⟩
   obtain ⟨⟨dy2,hy2⟩,_,_⟩:=id r2
   walk_at "rd"
   exact q _ c2 r2
theorem av16m3:AF (defScope (inClass (top 16) 3)) ["self"]:=⟨by decide +kernel⟩
def spCon (C:Addr) (g:Gt):Sp:=fun vs H Q _=>∃ (y gl d:Addr) (gs:List Gt),vs=[.ref y]∧ShAt C H y gl d gs∧gs.length≤900∧∀ H',Ch [gl,d] H H'→ShAt C H' y gl d (like gs g).1→Q (nV (like gs g).2) H'
theorem scZero:FnScope ["self"] ["self"] (defScope (inClass (top 16) 3)):=⟨rfl,rfl,rfl,by decide +kernel,rfl,by decide +kernel,by decide +kernel⟩
theorem zarn {C:Addr} (F:Fun K "zero" "Shrinker.zero" (inClass (top 16) 3) f fd) (cl:Cls K C) (MShrinker_gate_like:MethOk P w K mg base CX0 k C "gate_like" ["self", "gate"] (spLike C)):FnOk P w K mg base CX0 (k + 1) f fd ["self"] (spCon C .zero):=by
 have nd:=scZero.nd
 refine F.ok scZero (fun vs H Q E h=>by obtain ⟨y,gl,d,gs,rfl,_⟩:=h; rfl) (fun cdv A outer s0 H vs Q E hr h=>?_)
 obtain ⟨y,gl,d,gs,rfl,r,sz,q⟩:=h
 refine ⟨_,(Pr.h (zaae (zaak (zaa6 (qv av16m3 0 rfl) MShrinker_gate_like hr pass0 (zaaa (zaax (zaaa zaas zaab zaaj)) zaab zab1))))),?_⟩
 (try dsimp only [cxOf])
 obtain ⟨⟨dy,hy⟩,_,_⟩:=id r
 have f2:=(fsn gl d).k
 walk_at "rd"
 rename_i T hT
 exact ⟨(show _=some (HO.tup (Gt.vs .zero)) from zaaf),rfl,sz,fun H2 c2 r2=>q H2 ((Ch.new hT _).trans c2) r2⟩
theorem av16m4:AF (defScope (inClass (top 16) 4)) ["self"]:=⟨by decide +kernel⟩
theorem scOne:FnScope ["self"] ["self"] (defScope (inClass (top 16) 4)):=⟨rfl,rfl,rfl,by decide +kernel,rfl,by decide +kernel,by decide +kernel⟩
theorem zat4 {C:Addr} (F:Fun K "one" "Shrinker.one" (inClass (top 16) 4) f fd) (cl:Cls K C) (MShrinker_gate_like:MethOk P w K mg base CX0 k C "gate_like" ["self", "gate"] (spLike C)):FnOk P w K mg base CX0 (k + 1) f fd ["self"] (spCon C .one):=by
 have nd:=scOne.nd
 refine F.ok scOne (fun vs H Q E h=>by obtain ⟨y,gl,d,gs,rfl,_⟩:=h; rfl) (fun cdv A outer s0 H vs Q E hr h=>?_)
 obtain ⟨y,gl,d,gs,rfl,r,sz,q⟩:=h
 refine ⟨_,(Pr.h (zaae (zaak (zaa6 (qv av16m4 0 rfl) MShrinker_gate_like hr pass0 (zaaa (zaax (zaaa zaas zaab zaaj)) zaab zab1))))),?_⟩
 (try dsimp only [cxOf])
 obtain ⟨⟨dy,hy⟩,_,_⟩:=id r
 have f2:=(fsn gl d).k
 walk_at "rd"
 rename_i T hT
 exact ⟨(show _=some (HO.tup (Gt.vs .one)) from zaaf),rfl,sz,fun H2 c2 r2=>q H2 ((Ch.new hT _).trans c2) r2⟩
theorem av16m5:AF (defScope (inClass (top 16) 5)) ["self", "number"]:=⟨by decide +kernel⟩
def spOpp (C:Addr):Sp:=fun vs H Q _=>∃ (y gl d:Addr) (gs:List Gt) (n:Nat),vs=[.ref y,nV n]∧ShAt C H y gl d gs∧n < gs.length∧gs.length≤900∧∀ H',Ch [gl,d] H H'→ShAt C H' y gl d (opp gs n).1→Q (nV (opp gs n).2) H'
theorem scOpp:FnScope ["self", "number"] ["self", "number"] (defScope (inClass (top 16) 5)):=⟨rfl,rfl,rfl,by decide +kernel,rfl,by decide +kernel,by decide +kernel⟩
theorem zapx {g:Gt} (h:∀ a,g≠.not a):decide (V.str g.wd=V.str "not")=false:=by
 cases g <;> first | exact absurd rfl (h _) | rfl
theorem zao3 {gs:List Gt}{n:Nat}{g:Gt} (h:gs[n]?=some g) (hn:∀ a,g≠.not a):opp gs n=like gs (.not n):=by
 unfold opp
 split
 ·rename_i a e
  rw [h] at e
  exact absurd (Option.some.inj e) (hn a)
 ·rfl
theorem zat5 {C:Addr} (F:Fun K "opposite" "Shrinker.opposite" (inClass (top 16) 5) f fd) (cl:Cls K C) (nG:NoAttr K C "gates") (MShrinker_gate_like:MethOk P w K mg base CX0 k C "gate_like" ["self", "gate"] (spLike C)):FnOk P w K mg base CX0 (k + 1) f fd ["self", "number"] (spOpp C):=by
 have nd:=scOpp.nd
 refine F.ok scOpp (fun vs H Q E h=>by obtain ⟨y,gl,d,gs,n,rfl,_⟩:=h; rfl) (fun cdv A outer s0 H vs Q E hr h=>?_)
 obtain ⟨y,gl,d,gs,n,rfl,r,hn,sz,q⟩:=h
 unfold nV at *
 refine ⟨_,(Pr.h (zaad (zaav (zaar zabh (zaat zaa0 (zaat zaaw (zabj (qv av16m5 0 rfl) rfl) (qv av16m5 1 rfl) (fun _ _=>rfl)) zaag (fun _ _=>rfl)) zaas (nomark _)) (zaae (zaak (zaat zaa0 (zaat zaaw (zabj (qv av16m5 0 rfl) rfl) (qv av16m5 1 rfl) (fun _ _=>rfl)) zaag (fun _ _=>rfl)))) zaal) (zaae (zaak (zaa6 (qv av16m5 0 rfl) MShrinker_gate_like hr pass0 (zaaa (zaax (zaaa zaas (zaaa (qv av16m5 1 rfl) zaab zaac) zaaj)) zaab zab1)))))),?_⟩
 (try dsimp only [cxOf])
 obtain ⟨⟨dy,hy⟩,_,_⟩:=id r
 have f1:=fs_g gl d
 have f2:=(fsn gl d).k
 obtain ⟨g,eg⟩:∃ g,gs[n]?=some g:=⟨_,List.getElem?_eq_getElem hn⟩
 obtain ⟨xs,p,hg,at1,hp,lx⟩:=r.at eg
 by_cases hh:∃ a,g=.not a
 ·obtain ⟨a,rfl⟩:=hh
  have hp:H p=some (.tup [.str "not",.int a]):=hp
  have eo:opp gs n=(gs,a):=by unfold opp; rw [eg]
  rw [eo] at q
  walk_at "rd"
  exact q _ (Ch.refl _ _) r
 ·have hh:∀ a,g≠.not a:=fun a e=>hh ⟨a,e⟩
  obtain ⟨rs,ev⟩:=zaez g
  rw [ev] at hp
  have hw:=zapx hh
  rw [zao3 eg hh] at q
  walk_at "rd"
  rw [hw]
  refine iteF ?_
  walk_at "rd"
  rename_i T hT
  exact ⟨(show _=some (HO.tup (Gt.vs (.not n))) from zaaf),rfl,sz,fun H2 c2 r2=>q H2 ((Ch.new hT _).trans c2) r2⟩
theorem av16m6:AF (defScope (inClass (top 16) 6)) ["self", "number"]:=⟨by decide +kernel⟩
def spIs (C:Addr) (t:List Gt→Nat→Bool):Sp:=fun vs H Q _=>∃ (y gl d:Addr) (gs:List Gt) (n:Nat),vs=[.ref y,nV n]∧ShAt C H y gl d gs∧n < gs.length∧∀ H',Ch [] H H'→Q (.bl (t gs n)) H'
theorem scIsZ:FnScope ["self", "number"] ["self", "number"] (defScope (inClass (top 16) 6)):=⟨rfl,rfl,rfl,by decide +kernel,rfl,by decide +kernel,by decide +kernel⟩
theorem zabu {gs:List Gt}{n:Nat}{g h:Gt} (e:gs[n]?=some g):decide (gs[n]?=some h)=decide (g.vs=h.vs):=by
 rw [e,zava]
 by_cases z:g=h <;> simp [z]
theorem zat6 {C:Addr} (F:Fun K "is_zero" "Shrinker.is_zero" (inClass (top 16) 6) f fd) (cl:Cls K C) (nG:NoAttr K C "gates"):FnOk P w K mg base CX0 (k + 1) f fd ["self", "number"] (spIs C isZ):=by
 have nd:=scIsZ.nd
 refine F.ok scIsZ (fun vs H Q E h=>by obtain ⟨y,gl,d,gs,n,rfl,_⟩:=h; rfl) (fun cdv A outer s0 H vs Q E hr h=>?_)
 obtain ⟨y,gl,d,gs,n,rfl,r,hn,q⟩:=h
 unfold nV at *
 refine ⟨_,(Pr.h (zaae (zaak (zaa3 (zadc hr.units) (zaat zaaw (zabj (qv av16m6 0 rfl) rfl) (qv av16m6 1 rfl) (fun _ _=>rfl)) (zaax (zaaa zaas zaab zaaj)) (nomark _))))),?_⟩
 (try dsimp only [cxOf])
 obtain ⟨⟨dy,hy⟩,_,_⟩:=id r
 have f1:=fs_g gl d
 obtain ⟨g,eg⟩:∃ g,gs[n]?=some g:=⟨_,List.getElem?_eq_getElem hn⟩
 obtain ⟨xs,p,hg,at1,hp,lx⟩:=r.at eg
 have sc:=Gt.vs_sca g
 have sc2:=Gt.vs_sca .zero
 have q:∀ H',Ch [] H H'→Q (.bl (decide (gs[n]?=some .zero))) H':=q
 rw [zabu eg] at q
 walk_at "rd"
 rename_i T hT
 exact q _ (Ch.new hT _)
theorem av16m7:AF (defScope (inClass (top 16) 7)) ["self", "number"]:=⟨by decide +kernel⟩
theorem scIsO:FnScope ["self", "number"] ["self", "number"] (defScope (inClass (top 16) 7)):=⟨rfl,rfl,rfl,by decide +kernel,rfl,by decide +kernel,by decide +kernel⟩
theorem zat7 {C:Addr} (F:Fun K "is_one" "Shrinker.is_one" (inClass (top 16) 7) f fd) (cl:Cls K C) (nG:NoAttr K C "gates"):FnOk P w K mg base CX0 (k + 1) f fd ["self", "number"] (spIs C isO):=by
 have nd:=scIsO.nd
 refine F.ok scIsO (fun vs H Q E h=>by obtain ⟨y,gl,d,gs,n,rfl,_⟩:=h; rfl) (fun cdv A outer s0 H vs Q E hr h=>?_)
 obtain ⟨y,gl,d,gs,n,rfl,r,hn,q⟩:=h
 unfold nV at *
 refine ⟨_,(Pr.h (zaae (zaak (zaa3 (zadc hr.units) (zaat zaaw (zabj (qv av16m7 0 rfl) rfl) (qv av16m7 1 rfl) (fun _ _=>rfl)) (zaax (zaaa zaas zaab zaaj)) (nomark _))))),?_⟩
 (try dsimp only [cxOf])
 obtain ⟨⟨dy,hy⟩,_,_⟩:=id r
 have f1:=fs_g gl d
 obtain ⟨g,eg⟩:∃ g,gs[n]?=some g:=⟨_,List.getElem?_eq_getElem hn⟩
 obtain ⟨xs,p,hg,at1,hp,lx⟩:=r.at eg
 have sc:=Gt.vs_sca g
 have sc2:=Gt.vs_sca .one
 have q:∀ H',Ch [] H H'→Q (.bl (decide (gs[n]?=some .one))) H':=q
 rw [zabu eg] at q
 walk_at "rd"
 rename_i T hT
 exact q _ (Ch.new hT _)
theorem av16m8:AF (defScope (inClass (top 16) 8)) ["self", "number", "other"]:=⟨by decide +kernel⟩
def spOp2 (C:Addr):Sp:=fun vs H Q _=>∃ (y gl d:Addr) (gs:List Gt) (a b:Nat),vs=[.ref y,nV a,nV b]∧ShAt C H y gl d gs∧a < gs.length∧b < gs.length∧∀ H',Ch [] H H'→Q (.bl (opsd gs a b)) H'
theorem scOp2:FnScope ["self", "number", "other"] ["self", "number", "other"] (defScope (inClass (top 16) 8)):=⟨rfl,rfl,rfl,by decide +kernel,rfl,by decide +kernel,by decide +kernel⟩
theorem zat8 {C:Addr} (F:Fun K "are_opposed" "Shrinker.are_opposed" (inClass (top 16) 8) f fd) (cl:Cls K C) (nG:NoAttr K C "gates"):FnOk P w K mg base CX0 (k + 1) f fd ["self", "number", "other"] (spOp2 C):=by
 have nd:=scOp2.nd
 refine F.ok scOp2 (fun vs H Q E h=>by obtain ⟨y,gl,d,gs,a,b,rfl,_⟩:=h; rfl) (fun cdv A outer s0 H vs Q E hr h=>?_)
 obtain ⟨y,gl,d,gs,a,b,rfl,r,ha,hb,q⟩:=h
 unfold nV at *
 refine ⟨_,(Pr.h (zaae (zaak (zaec (zaa3 (zadc hr.units) (zaat zaaw (zabj (qv av16m8 0 rfl) rfl) (qv av16m8 1 rfl) (fun _ _=>rfl)) (zaax (zaaa zaas (zaaa (qv av16m8 2 rfl) zaab zaac) zaaj)) (nomark _)) (zaa9 (zaa3 (zadc hr.units) (zaat zaaw (zabj (qv av16m8 0 rfl) rfl) (qv av16m8 2 rfl) (fun _ _=>rfl)) (zaax (zaaa zaas (zaaa (qv av16m8 1 rfl) zaab zaac) zaaj)) (nomark _))))))),?_⟩
 (try dsimp only [cxOf])
 obtain ⟨⟨dy,hy⟩,_,_⟩:=id r
 have f1:=fs_g gl d
 obtain ⟨g,eg⟩:∃ g,gs[a]?=some g:=⟨_,List.getElem?_eq_getElem ha⟩
 obtain ⟨xs,p,hg,at1,hp,lx⟩:=r.at eg
 obtain ⟨g2,eg2⟩:∃ g2,gs[b]?=some g2:=⟨_,List.getElem?_eq_getElem hb⟩
 obtain ⟨xs2,p2,hg2,at2,hp2,lx2⟩:=r.at eg2
 rw [hg] at hg2
 cases hg2
 have sc:=Gt.vs_sca g
 have sc1:=Gt.vs_sca g2
 have sc2:=Gt.vs_sca (.not b)
 have sc3:=Gt.vs_sca (.not a)
 have q:∀ H',Ch [] H H'→Q (.bl (decide (gs[a]?=some (.not b)) || decide (gs[b]?=some (.not a)))) H':=q
 rw [zabu eg,zabu eg2] at q
 cases e1:decide (g.vs=(Gt.not b).vs) with
 | true =>
  have e2:decide (g.vs=[V.str "not",V.int b])=true:=e1
  rw [e1,Bool.true_or] at q
  walk_at "rd"
  rename_i T hT
  rw [e2]
  exact q _ (Ch.new hT _)
 | false =>
  have e2:decide (g.vs=[V.str "not",V.int b])=false:=e1
  rw [e1,Bool.false_or] at q
  walk_at "rd"
  rename_i T hT
  rw [e2]
  refine iteF ?_
  walk_at "rd"
  rename_i T2 hT2
  exact q _ ((Ch.new hT _).trans (Ch.new hT2 _))
end
end

section
local macro_rules | `(tactic| walk_at "user")=>`(tactic| first
 | (apply ShAt.ch; (focus with_reducible assumption); (focus walk_at "ch"))
 | exact Gt.vs_sca _)
theorem ShAt.tu {C:Addr}{H H':Hp}{y gl d:Addr}{gs:List Gt} (r:ShAt C H y gl d gs) (c:Ch [gl,d] H H'):Tu H H':=fun b xs h=>by
 obtain ⟨⟨dy,hy⟩,⟨ys,hg,gg⟩,⟨kvs,hd,nm⟩⟩:=r
 exact c.get h (by simpa using ⟨zadb h hg (by intro z; cases z),zadb h hd (by intro z; cases z)⟩)
structure PR (C y gl d:Addr) (H:Hp) (Q:VK) (R:Rs):Prop where
 of:∀ r H',Ch [gl,d] H H'→H' r=some (.tup [nV R.2.1,.str R.2.2])→ShAt C H' y gl d R.1→Q (.ref r) H'
theorem PR.ch {C y gl d:Addr}{H H1:Hp}{Q:VK}{R:Rs} (h:PR C y gl d H Q R) (c:Ch [] H H1):PR C y gl d H1 Q R:=⟨fun r H' c' a b=>h.of r H' ((Ch.mono c (by simp)).trans c') a b⟩
theorem zaro (gs:List Gt) (g:Gt):∃ h,(like gs g).1[(like gs g).2]?=some h:=by
 unfold like
 cases e:findI gs g with
 | some i=>obtain ⟨h,e',_⟩:=zaey e; exact ⟨h,e'⟩
 | none=>exact ⟨g,by simp⟩
section
variable {P:Program}{w:World}{K:PySem.W.Frag}{mg:Str→Option Value}{base:Heap}{f:Addr}{fd:FuncData}{k:Nat}
theorem zacq:Nd "plain_pair" := by decide +kernel
theorem av17:AF (defScope (top 17)) ["shrinker", "gate", "number"]:=⟨by decide +kernel⟩
def spPl (C:Addr):Sp:=fun vs H Q _=>∃ (y p gl d:Addr) (gs:List Gt) (g:Gt),vs=[.ref y,.ref p]∧ShAt C H y gl d gs∧H p=some (.tup g.vs)∧g.src=false∧gs.length≤900∧PR C y gl d H Q (plain gs g)
theorem scPl:FnScope ["shrinker", "gate", "number"] ["shrinker", "gate"] (defScope (top 17)):=⟨rfl,rfl,rfl,by decide +kernel,rfl,by decide +kernel,by decide +kernel⟩
theorem zavb {C:Addr} (F:Fun K "plain_pair" "plain_pair" (top 17) f fd) (cl:Cls K C) (nG:NoAttr K C "gates") (MShrinker_gate_like:MethOk P w K mg base CX0 k C "gate_like" ["self", "gate"] (spLike C)):FnOk P w K mg base CX0 (k + 1) f fd ["shrinker", "gate"] (spPl C):=by
 have nd:=scPl.nd
 refine F.ok scPl (fun vs H Q E h=>by obtain ⟨y,p,gl,d,gs,g,rfl,_⟩:=h; rfl) (fun cdv A outer s0 H vs Q E hr h=>?_)
 obtain ⟨y,p,gl,d,gs,g,rfl,r,hp,hs,sz,q⟩:=h
 refine ⟨_,(Pr.h (zabs (zaa1 (i:=2) nd rfl (av17.l 2 rfl) (zaa6 (qv av17 0 rfl) MShrinker_gate_like hr pass0 (zaaa (qv av17 1 rfl) zaab zaac))) (zaae (zaak (zaax (zaaa (qv av17 2 rfl) (zaaa (zaed (zaar (zadc hr.units) (zaat zaaw (zabj (qv av17 0 rfl) rfl) (qv av17 2 rfl) (fun _ _=>rfl)) (qv av17 1 rfl) (nomark _)) zaas zaas) zaab zagq) zaac)))))),?_⟩
 (try dsimp only [cxOf])
 obtain ⟨⟨dy,hy⟩,_,_⟩:=id r
 have f1:=fs_g gl d
 have f2:=(fsn gl d).k
 walk_at "rd"
 refine zacr (fun σ H2=>σ=[some (.ref y),some (.ref p),some (nV (like gs g).2)]∧Ch [gl,d] H H2∧ShAt C H2 y gl d (like gs g).1) ?_ ?_
 ·walk_at "rd"
 rintro σ H2 ⟨rfl,c2,r2⟩
 obtain ⟨h,eh⟩:=zaro gs g
 obtain ⟨⟨dy2,hy2⟩,_,_⟩:=id r2
 obtain ⟨xs,p2,hg,at1,hp2,lx⟩:=r2.at eh
 have hp3:=r.tu c2 _ _ hp
 have sc:=Gt.vs_sca h
 have sc2:=Gt.vs_sca g
 have sd:=zabu (h:=g) eh
 have q:=q.of
 unfold plain nV at q
 unfold nV
 walk_at "rd"
 refine ite2 (fun z=>?_) (fun z=>?_)
 ·have z:decide (h.vs=g.vs)=true:=z
  rw [z] at sd
  rw [if_pos (of_decide_eq_true sd)] at q
  walk_at "rd"
  exact q _ _ (c2.trans (Ch.new (by assumption) _)) zaaf (r2.ch (Ch.new (by assumption) _))
 ·have z:decide (h.vs=g.vs)=false:=by simpa using z
  rw [z] at sd
  rw [if_neg (of_decide_eq_false sd)] at q
  walk_at "rd"
  exact q _ _ (c2.trans (Ch.new (by assumption) _)) zaaf (r2.ch (Ch.new (by assumption) _))
theorem av18:AF (defScope (top 18)) ["shrinker", "x"]:=⟨by decide +kernel⟩
theorem gl18:AG (defScope (top 18)) ["plain_pair"]:=⟨by decide +kernel⟩
theorem zak4 {gs:List Gt}{x a:Nat} (e:gs[x]?=some (.not a)):notP gs x=((gs,a, "inner"):Rs):=by
 have h1:¬ isZ gs x=true:=by simp [isZ,e]
 have h2:¬ isO gs x=true:=by simp [isO,e]
 unfold notP
 rw [if_neg h1,if_neg h2]
 simp [e]
theorem zak5 {gs:List Gt}{x:Nat}{g:Gt} (h1:¬ isZ gs x=true) (h2:¬ isO gs x=true) (e:gs[x]?=some g) (hh:∀ a,g≠.not a):notP gs x=plain gs (.not x):=by
 unfold notP
 rw [if_neg h1,if_neg h2]
 split
 ·rename_i a e'
  rw [e] at e'
  exact absurd (Option.some.inj e') (hh a)
 ·rfl
def spNotP (C:Addr):Sp:=fun vs H Q _=>∃ (y gl d:Addr) (gs:List Gt) (x:Nat),vs=[.ref y,nV x]∧ShAt C H y gl d gs∧x < gs.length∧gs.length≤900∧PR C y gl d H Q (notP gs x)
theorem scNotP:FnScope ["shrinker", "x"] ["shrinker", "x"] (defScope (top 18)):=⟨rfl,rfl,rfl,by decide +kernel,rfl,by decide +kernel,by decide +kernel⟩
theorem zarp {C:Addr} (F:Fun K "not_pair" "not_pair" (top 18) f fd) (cl:Cls K C) (nG:NoAttr K C "gates") (MShrinker_is_zero:MethOk P w K mg base CX0 k C "is_zero" ["self", "number"] (spIs C isZ)) (MShrinker_is_one:MethOk P w K mg base CX0 k C "is_one" ["self", "number"] (spIs C isO))
  (MShrinker_zero:MethOk P w K mg base CX0 k C "zero" ["self"] (spCon C .zero)) (MShrinker_one:MethOk P w K mg base CX0 k C "one" ["self"] (spCon C .one)) (MShrinker_opposite:MethOk P w K mg base CX0 k C "opposite" ["self", "number"] (spOpp C)) (Dplain_pair:DefOk P w K mg base CX0 k "plain_pair" ["shrinker", "gate"] (spPl C)):FnOk P w K mg base CX0 (k + 1) f fd ["shrinker", "x"] (spNotP C):=by
 have nd:=scNotP.nd
 refine F.ok scNotP (fun vs H Q E h=>by obtain ⟨y,gl,d,gs,x,rfl,_⟩:=h; rfl) (fun cdv A outer s0 H vs Q E hr h=>?_)
 obtain ⟨y,gl,d,gs,x,rfl,r,hx,sz,q⟩:=h
 refine ⟨_,(Pr.h (zaad (zaav (zaay (zaa6 (qv av18 0 rfl) MShrinker_is_zero hr pass0 (zaaa (qv av18 1 rfl) zaab zaac))) (zaae (zaak (zaax (zaaa (zada (qv av18 0 rfl) MShrinker_one hr pass0) (zaaa zaas zaab zaaj) zabi)))) zaal) (zaad (zaav (zaay (zaa6 (qv av18 0 rfl) MShrinker_is_one hr pass0 (zaaa (qv av18 1 rfl) zaab zaac))) (zaae (zaak (zaax (zaaa (zada (qv av18 0 rfl) MShrinker_zero hr pass0) (zaaa zaas zaab zaaj) zabi)))) zaal) (zaad (zaav (zaar zabh (zaat zaa0 (zaat zaaw (zabj (qv av18 0 rfl) rfl) (qv av18 1 rfl) (fun _ _=>rfl)) zaag (fun _ _=>rfl)) zaas (nomark _)) (zaae (zaak (zaax (zaaa (zaa6 (qv av18 0 rfl) MShrinker_opposite hr pass0 (zaaa (qv av18 1 rfl) zaab zaac)) (zaaa zaas zaab zaaj) zabi)))) zaal) (zaae (zaak (zaai Dplain_pair hr (gl18.g 0 rfl) pass0 (zaaa (qv av18 0 rfl) (zaaa (zaax (zaaa zaas (zaaa (qv av18 1 rfl) zaab zaac) zaaj)) zaab zab1) zaac) zacq))))))),?_⟩
 (try dsimp only [cxOf])
 obtain ⟨⟨dy,hy⟩,_,_⟩:=id r
 have f1:=fs_g gl d
 have f2:=fsn gl d
 obtain ⟨fl,fk,fz,fo,fp,fiz,fio,fao⟩:=f2
 walk_at "rd"
 rename_i H1 c1
 dsimp only
 obtain ⟨g,eg⟩:∃ g,gs[x]?=some g:=⟨_,List.getElem?_eq_getElem hx⟩
 refine ite2 (fun hz=>?_) (fun hz=>?_)
 ·have e:notP gs x=lk gs .one "one" := by unfold notP; rw [if_pos hz]
  rw [e] at q
  have hy1:=c1.get hy (by simp)
  walk_at "rd"
  rename_i H2 c2 r2 T hT
  exact q.of _ _ (((Ch.wk c1).trans c2).trans (Ch.new hT _)) zaaf (r2.ch (Ch.new hT _))
 ·have hy1:=c1.get hy (by simp)
  walk_at "rd"
  rename_i H2 c2
  dsimp only
  have c12:=c1.trans c2
  have r2:=r.ch c12
  have hy2:=c12.get hy (by simp)
  refine ite2 (fun ho=>?_) (fun ho=>?_)
  ·have e:notP gs x=lk gs .zero "zero" := by unfold notP; rw [if_neg hz,if_pos ho]
   rw [e] at q
   clear c2 c1
   walk_at "rd"
   rename_i H3 c3 r3 T hT
   exact q.of _ _ (((Ch.wk c12).trans c3).trans (Ch.new hT _)) zaaf (r3.ch (Ch.new hT _))
  ·obtain ⟨xs,p,hg,at1,hp,lx⟩:=r2.at eg
   clear c2 c1
   unfold nV
   by_cases hh:∃ a,g=.not a
   ·obtain ⟨a,rfl⟩:=hh
    have hp:H2 p=some (.tup [.str "not",.int a]):=hp
    have eo:opp gs x=(gs,a):=by unfold opp; rw [eg]
    rw [zak4 eg] at q
    walk_at "rd"
    rename_i H3 c3 r3 T hT
    rw [eo] at r3
    refine q.of _ _ (((Ch.wk c12).trans c3).trans (Ch.new hT _)) ?_ (r3.ch (Ch.new hT _))
    rw [zaaf,eo]
   ·have hh:∀ a,g≠.not a:=fun a e=>hh ⟨a,e⟩
    obtain ⟨rs,ev⟩:=zaez g
    rw [ev] at hp
    have hw:=zapx hh
    rw [zak5 hz ho eg hh] at q
    walk_at "rd"
    rw [hw]
    refine iteF ?_
    walk_at "rd"
    rename_i T hT
    exact ⟨(show _=some (HO.tup (Gt.vs (.not x))) from zaaf),rfl,sz,q.ch (c12.trans (Ch.new hT _))⟩
theorem av19:AF (defScope (top 19)) ["shrinker", "x", "y"]:=⟨by decide +kernel⟩
theorem gl19:AG (defScope (top 19)) ["plain_pair"]:=⟨by decide +kernel⟩
def spAndP (C:Addr):Sp:=fun vs H Q _=>∃ (y0 gl d:Addr) (gs:List Gt) (x y:Nat),vs=[.ref y0,nV x,nV y]∧ShAt C H y0 gl d gs∧x < gs.length∧y < gs.length∧gs.length≤900∧PR C y0 gl d H Q (andP gs x y)
theorem scAndP:FnScope ["shrinker", "x", "y"] ["shrinker", "x", "y"] (defScope (top 19)):=⟨rfl,rfl,rfl,by decide +kernel,rfl,by decide +kernel,by decide +kernel⟩
theorem zarq {C:Addr} (F:Fun K "and_pair" "and_pair" (top 19) f fd) (cl:Cls K C) (MShrinker_is_zero:MethOk P w K mg base CX0 k C "is_zero" ["self", "number"] (spIs C isZ)) (MShrinker_is_one:MethOk P w K mg base CX0 k C "is_one" ["self", "number"] (spIs C isO)) (MShrinker_zero:MethOk P w K mg base CX0 k C "zero" ["self"] (spCon C .zero)) (MShrinker_are_opposed:MethOk P w K mg base CX0 k C "are_opposed" ["self", "number", "other"] (spOp2 C)) (Dplain_pair:DefOk P w K mg base CX0 k "plain_pair" ["shrinker", "gate"] (spPl C)):FnOk P w K mg base CX0 (k + 1) f fd ["shrinker", "x", "y"] (spAndP C):=by
 have nd:=scAndP.nd
 refine F.ok scAndP (fun vs H Q E h=>by obtain ⟨y0,gl,d,gs,x,y,rfl,_⟩:=h; rfl) (fun cdv A outer s0 H vs Q E hr h=>?_)
 obtain ⟨y0,gl,d,gs,x,y,rfl,r0,lx,ly,sz,q⟩:=h
 unfold nV
 refine ⟨_,(Pr.h (zaad (zaav (zabt (zabz (zaay (zaa6 (qv av19 0 rfl) MShrinker_is_one hr pass0 (zaaa (qv av19 2 rfl) zaab zaac))) (zabr (zaar zabh (qv av19 1 rfl) (qv av19 2 rfl) (nomark _))))) (zaae (zaak (zaax (zaaa (qv av19 1 rfl) (zaaa zaas zaab zaaj) zaac)))) zaal) (zaad (zaav (zaay (zaa6 (qv av19 0 rfl) MShrinker_is_one hr pass0 (zaaa (qv av19 1 rfl) zaab zaac))) (zaae (zaak (zaax (zaaa (qv av19 2 rfl) (zaaa zaas zaab zaaj) zaac)))) zaal) (zaad (zaav (zabt (zabz (zaay (zaa6 (qv av19 0 rfl) MShrinker_is_zero hr pass0 (zaaa (qv av19 1 rfl) zaab zaac))) (zabz (zaay (zaa6 (qv av19 0 rfl) MShrinker_is_zero hr pass0 (zaaa (qv av19 2 rfl) zaab zaac))) (zabr (zaay (zaa6 (qv av19 0 rfl) MShrinker_are_opposed hr pass0 (zaaa (qv av19 1 rfl) (zaaa (qv av19 2 rfl) zaab zaac) zaac))))))) (zaae (zaak (zaax (zaaa (zada (qv av19 0 rfl) MShrinker_zero hr pass0) (zaaa zaas zaab zaaj) zabi)))) zaal) (zaae (zaak (zaai Dplain_pair hr (gl19.g 0 rfl) pass0 (zaaa (qv av19 0 rfl) (zaaa (zaax (zaaa zaas (zaaa (qv av19 1 rfl) (zaaa (qv av19 2 rfl) zaab zaac) zaac) zaaj)) zaab zab1) zaac) zacq))))))),?_⟩
 (try dsimp only [cxOf])
 obtain ⟨⟨dy,hy0⟩,_,_⟩:=id r0
 have c0:=Ch.refl [] H
 obtain ⟨fl,fk,fz,fo,fp,fiz,fio,fao⟩:=fsn gl d
 walk_at "rd"
 rename_i H1 d1
 dsimp only
 have c1:=c0.trans d1
 have r1:=r0.ch d1
 have hy1:=d1.get hy0 (by simp)
 clear d1 c0 r0 hy0
 refine ite2 (fun h0=>?_) (fun h0=>?_)
 ·rw [show andP gs x y=((gs,x, "first"):Rs) from by unfold andP; simp [h0]] at q
  walk_at "rd"
  rename_i T hT
  exact q.of _ _ ((Ch.wk c1).trans (Ch.new hT _)) zaaf (r1.ch (Ch.new hT _))
 ·walk_at "rd"
  refine ite2 (fun ez=>?_) (fun ez=>?_)
  ·have h1:x=y:=by simp at ez; omega
   clear ez
   rw [show andP gs x y=((gs,x, "first"):Rs) from by unfold andP; simp [h0,h1]] at q
   walk_at "rd"
   rename_i T hT
   exact q.of _ _ ((Ch.wk c1).trans (Ch.new hT _)) zaaf (r1.ch (Ch.new hT _))
  ·have h1:¬ x=y:=by simp at ez; omega
   clear ez
   walk_at "rd"
   rename_i H2 d2
   dsimp only
   have c2:=c1.trans d2
   have r2:=r1.ch d2
   have hy2:=d2.get hy1 (by simp)
   clear d2 c1 r1 hy1
   refine ite2 (fun h2=>?_) (fun h2=>?_)
   ·rw [show andP gs x y=((gs,y, "second"):Rs) from by unfold andP; simp [h0,h1,h2]] at q
    walk_at "rd"
    rename_i T hT
    exact q.of _ _ ((Ch.wk c2).trans (Ch.new hT _)) zaaf (r2.ch (Ch.new hT _))
   ·walk_at "rd"
    rename_i H3 d3
    dsimp only
    have c3:=c2.trans d3
    have r3:=r2.ch d3
    have hy3:=d3.get hy2 (by simp)
    clear d3 c2 r2 hy2
    refine ite2 (fun h3=>?_) (fun h3=>?_)
    ·rw [show andP gs x y=lk gs .zero "zero" from by unfold andP; simp [h0,h1,h2,h3]] at q
     walk_at "rd"
     rename_i H9 c9 r9 T hT
     exact q.of _ _ (((Ch.wk c3).trans c9).trans (Ch.new hT _)) zaaf (r9.ch (Ch.new hT _))
    ·walk_at "rd"
     rename_i H4 d4
     dsimp only
     have c4:=c3.trans d4
     have r4:=r3.ch d4
     have hy4:=d4.get hy3 (by simp)
     clear d4 c3 r3 hy3
     refine ite2 (fun h4=>?_) (fun h4=>?_)
     ·rw [show andP gs x y=lk gs .zero "zero" from by unfold andP; simp [h0,h1,h2,h3,h4]] at q
      walk_at "rd"
      rename_i H9 c9 r9 T hT
      exact q.of _ _ (((Ch.wk c4).trans c9).trans (Ch.new hT _)) zaaf (r9.ch (Ch.new hT _))
     ·walk_at "rd"
      rename_i H5 d5
      dsimp only
      have c5:=c4.trans d5
      have r5:=r4.ch d5
      have hy5:=d5.get hy4 (by simp)
      clear d5 c4 r4 hy4
      refine ite2 (fun h5=>?_) (fun h5=>?_)
      ·rw [show andP gs x y=lk gs .zero "zero" from by unfold andP; simp [h0,h1,h2,h3,h4,h5]] at q
       walk_at "rd"
       rename_i H9 c9 r9 T hT
       exact q.of _ _ (((Ch.wk c5).trans c9).trans (Ch.new hT _)) zaaf (r9.ch (Ch.new hT _))
      ·rw [show andP gs x y=plain gs (.and x y) from by unfold andP; simp [h0,h1,h2,h3,h4,h5]] at q
       walk_at "rd"
       rename_i T hT
       exact ⟨(show _=some (HO.tup (Gt.vs (.and x y))) from zaaf),rfl,sz,q.ch (c5.trans (Ch.new hT _))⟩
theorem av20:AF (defScope (top 20)) ["shrinker", "x", "y"]:=⟨by decide +kernel⟩
theorem gl20:AG (defScope (top 20)) ["plain_pair"]:=⟨by decide +kernel⟩
def spOrP (C:Addr):Sp:=fun vs H Q _=>∃ (y0 gl d:Addr) (gs:List Gt) (x y:Nat),vs=[.ref y0,nV x,nV y]∧ShAt C H y0 gl d gs∧x < gs.length∧y < gs.length∧gs.length≤900∧PR C y0 gl d H Q (orP gs x y)
theorem scOrP:FnScope ["shrinker", "x", "y"] ["shrinker", "x", "y"] (defScope (top 20)):=⟨rfl,rfl,rfl,by decide +kernel,rfl,by decide +kernel,by decide +kernel⟩
theorem zat9 {C:Addr} (F:Fun K "or_pair" "or_pair" (top 20) f fd) (cl:Cls K C) (MShrinker_is_zero:MethOk P w K mg base CX0 k C "is_zero" ["self", "number"] (spIs C isZ)) (MShrinker_is_one:MethOk P w K mg base CX0 k C "is_one" ["self", "number"] (spIs C isO)) (MShrinker_one:MethOk P w K mg base CX0 k C "one" ["self"] (spCon C .one)) (MShrinker_are_opposed:MethOk P w K mg base CX0 k C "are_opposed" ["self", "number", "other"] (spOp2 C)) (Dplain_pair:DefOk P w K mg base CX0 k "plain_pair" ["shrinker", "gate"] (spPl C)):FnOk P w K mg base CX0 (k + 1) f fd ["shrinker", "x", "y"] (spOrP C):=by
 have nd:=scOrP.nd
 refine F.ok scOrP (fun vs H Q E h=>by obtain ⟨y0,gl,d,gs,x,y,rfl,_⟩:=h; rfl) (fun cdv A outer s0 H vs Q E hr h=>?_)
 obtain ⟨y0,gl,d,gs,x,y,rfl,r0,lx,ly,sz,q⟩:=h
 unfold nV
 refine ⟨_,(Pr.h (zaad (zaav (zabt (zabz (zaay (zaa6 (qv av20 0 rfl) MShrinker_is_zero hr pass0 (zaaa (qv av20 2 rfl) zaab zaac))) (zabr (zaar zabh (qv av20 1 rfl) (qv av20 2 rfl) (nomark _))))) (zaae (zaak (zaax (zaaa (qv av20 1 rfl) (zaaa zaas zaab zaaj) zaac)))) zaal) (zaad (zaav (zaay (zaa6 (qv av20 0 rfl) MShrinker_is_zero hr pass0 (zaaa (qv av20 1 rfl) zaab zaac))) (zaae (zaak (zaax (zaaa (qv av20 2 rfl) (zaaa zaas zaab zaaj) zaac)))) zaal) (zaad (zaav (zabt (zabz (zaay (zaa6 (qv av20 0 rfl) MShrinker_is_one hr pass0 (zaaa (qv av20 1 rfl) zaab zaac))) (zabz (zaay (zaa6 (qv av20 0 rfl) MShrinker_is_one hr pass0 (zaaa (qv av20 2 rfl) zaab zaac))) (zabr (zaay (zaa6 (qv av20 0 rfl) MShrinker_are_opposed hr pass0 (zaaa (qv av20 1 rfl) (zaaa (qv av20 2 rfl) zaab zaac) zaac))))))) (zaae (zaak (zaax (zaaa (zada (qv av20 0 rfl) MShrinker_one hr pass0) (zaaa zaas zaab zaaj) zabi)))) zaal) (zaae (zaak (zaai Dplain_pair hr (gl20.g 0 rfl) pass0 (zaaa (qv av20 0 rfl) (zaaa (zaax (zaaa zaas (zaaa (qv av20 1 rfl) (zaaa (qv av20 2 rfl) zaab zaac) zaac) zaaj)) zaab zab1) zaac) zacq))))))),?_⟩
 (try dsimp only [cxOf])
 obtain ⟨⟨dy,hy0⟩,_,_⟩:=id r0
 have c0:=Ch.refl [] H
 obtain ⟨fl,fk,fz,fo,fp,fiz,fio,fao⟩:=fsn gl d
 walk_at "rd"
 rename_i H1 d1
 dsimp only
 have c1:=c0.trans d1
 have r1:=r0.ch d1
 have hy1:=d1.get hy0 (by simp)
 clear d1 c0 r0 hy0
 refine ite2 (fun h0=>?_) (fun h0=>?_)
 ·rw [show orP gs x y=((gs,x, "first"):Rs) from by unfold orP; simp [h0]] at q
  walk_at "rd"
  rename_i T hT
  exact q.of _ _ ((Ch.wk c1).trans (Ch.new hT _)) zaaf (r1.ch (Ch.new hT _))
 ·walk_at "rd"
  refine ite2 (fun ez=>?_) (fun ez=>?_)
  ·have h1:x=y:=by simp at ez; omega
   clear ez
   rw [show orP gs x y=((gs,x, "first"):Rs) from by unfold orP; simp [h0,h1]] at q
   walk_at "rd"
   rename_i T hT
   exact q.of _ _ ((Ch.wk c1).trans (Ch.new hT _)) zaaf (r1.ch (Ch.new hT _))
  ·have h1:¬ x=y:=by simp at ez; omega
   clear ez
   walk_at "rd"
   rename_i H2 d2
   dsimp only
   have c2:=c1.trans d2
   have r2:=r1.ch d2
   have hy2:=d2.get hy1 (by simp)
   clear d2 c1 r1 hy1
   refine ite2 (fun h2=>?_) (fun h2=>?_)
   ·rw [show orP gs x y=((gs,y, "second"):Rs) from by unfold orP; simp [h0,h1,h2]] at q
    walk_at "rd"
    rename_i T hT
    exact q.of _ _ ((Ch.wk c2).trans (Ch.new hT _)) zaaf (r2.ch (Ch.new hT _))
   ·walk_at "rd"
    rename_i H3 d3
    dsimp only
    have c3:=c2.trans d3
    have r3:=r2.ch d3
    have hy3:=d3.get hy2 (by simp)
    clear d3 c2 r2 hy2
    refine ite2 (fun h3=>?_) (fun h3=>?_)
    ·rw [show orP gs x y=lk gs .one "one" from by unfold orP; simp [h0,h1,h2,h3]] at q
     walk_at "rd"
     rename_i H9 c9 r9 T hT
     exact q.of _ _ (((Ch.wk c3).trans c9).trans (Ch.new hT _)) zaaf (r9.ch (Ch.new hT _))
    ·walk_at "rd"
     rename_i H4 d4
     dsimp only
     have c4:=c3.trans d4
     have r4:=r3.ch d4
     have hy4:=d4.get hy3 (by simp)
     clear d4 c3 r3 hy3
     refine ite2 (fun h4=>?_) (fun h4=>?_)
     ·rw [show orP gs x y=lk gs .one "one" from by unfold orP; simp [h0,h1,h2,h3,h4]] at q
      walk_at "rd"
      rename_i H9 c9 r9 T hT
      exact q.of _ _ (((Ch.wk c4).trans c9).trans (Ch.new hT _)) zaaf (r9.ch (Ch.new hT _))
     ·walk_at "rd"
      rename_i H5 d5
      dsimp only
      have c5:=c4.trans d5
      have r5:=r4.ch d5
      have hy5:=d5.get hy4 (by simp)
      clear d5 c4 r4 hy4
      refine ite2 (fun h5=>?_) (fun h5=>?_)
      ·rw [show orP gs x y=lk gs .one "one" from by unfold orP; simp [h0,h1,h2,h3,h4,h5]] at q
       walk_at "rd"
       rename_i H9 c9 r9 T hT
       exact q.of _ _ (((Ch.wk c5).trans c9).trans (Ch.new hT _)) zaaf (r9.ch (Ch.new hT _))
      ·rw [show orP gs x y=plain gs (.or x y) from by unfold orP; simp [h0,h1,h2,h3,h4,h5]] at q
       walk_at "rd"
       rename_i T hT
       exact ⟨(show _=some (HO.tup (Gt.vs (.or x y))) from zaaf),rfl,sz,q.ch (c5.trans (Ch.new hT _))⟩
theorem av21:AF (defScope (top 21)) ["shrinker", "x", "y"]:=⟨by decide +kernel⟩
theorem gl21:AG (defScope (top 21)) ["plain_pair"]:=⟨by decide +kernel⟩
def spXorP (C:Addr):Sp:=fun vs H Q _=>∃ (y0 gl d:Addr) (gs:List Gt) (x y:Nat),vs=[.ref y0,nV x,nV y]∧ShAt C H y0 gl d gs∧x < gs.length∧y < gs.length∧gs.length≤900∧PR C y0 gl d H Q (xorP gs x y)
theorem scXorP:FnScope ["shrinker", "x", "y"] ["shrinker", "x", "y"] (defScope (top 21)):=⟨rfl,rfl,rfl,by decide +kernel,rfl,by decide +kernel,by decide +kernel⟩
theorem zarr {C:Addr} (F:Fun K "xor_pair" "xor_pair" (top 21) f fd) (cl:Cls K C) (MShrinker_is_zero:MethOk P w K mg base CX0 k C "is_zero" ["self", "number"] (spIs C isZ)) (MShrinker_is_one:MethOk P w K mg base CX0 k C "is_one" ["self", "number"] (spIs C isO)) (MShrinker_zero:MethOk P w K mg base CX0 k C "zero" ["self"] (spCon C .zero)) (MShrinker_one:MethOk P w K mg base CX0 k C "one" ["self"] (spCon C .one)) (MShrinker_are_opposed:MethOk P w K mg base CX0 k C "are_opposed" ["self", "number", "other"] (spOp2 C)) (MShrinker_opposite:MethOk P w K mg base CX0 k C "opposite" ["self", "number"] (spOpp C)) (Dplain_pair:DefOk P w K mg base CX0 k "plain_pair" ["shrinker", "gate"] (spPl C)):FnOk P w K mg base CX0 (k + 1) f fd ["shrinker", "x", "y"] (spXorP C):=by
 have nd:=scXorP.nd
 refine F.ok scXorP (fun vs H Q E h=>by obtain ⟨y0,gl,d,gs,x,y,rfl,_⟩:=h; rfl) (fun cdv A outer s0 H vs Q E hr h=>?_)
 obtain ⟨y0,gl,d,gs,x,y,rfl,r0,lx,ly,sz,q⟩:=h
 unfold nV
 refine ⟨_,(Pr.h (zaad (zaav (zaay (zaa6 (qv av21 0 rfl) MShrinker_is_zero hr pass0 (zaaa (qv av21 2 rfl) zaab zaac))) (zaae (zaak (zaax (zaaa (qv av21 1 rfl) (zaaa zaas zaab zaaj) zaac)))) zaal) (zaad (zaav (zaay (zaa6 (qv av21 0 rfl) MShrinker_is_zero hr pass0 (zaaa (qv av21 1 rfl) zaab zaac))) (zaae (zaak (zaax (zaaa (qv av21 2 rfl) (zaaa zaas zaab zaaj) zaac)))) zaal) (zaad (zaav (zaar zabh (qv av21 1 rfl) (qv av21 2 rfl) (nomark _)) (zaae (zaak (zaax (zaaa (zada (qv av21 0 rfl) MShrinker_zero hr pass0) (zaaa zaas zaab zaaj) zabi)))) zaal) (zaad (zaav (zaay (zaa6 (qv av21 0 rfl) MShrinker_are_opposed hr pass0 (zaaa (qv av21 1 rfl) (zaaa (qv av21 2 rfl) zaab zaac) zaac))) (zaae (zaak (zaax (zaaa (zada (qv av21 0 rfl) MShrinker_one hr pass0) (zaaa zaas zaab zaaj) zabi)))) zaal) (zaad (zaav (zaay (zaa6 (qv av21 0 rfl) MShrinker_is_one hr pass0 (zaaa (qv av21 2 rfl) zaab zaac))) (zaae (zaak (zaax (zaaa (zaa6 (qv av21 0 rfl) MShrinker_opposite hr pass0 (zaaa (qv av21 1 rfl) zaab zaac)) (zaaa zaas zaab zaaj) zabi)))) zaal) (zaad (zaav (zaay (zaa6 (qv av21 0 rfl) MShrinker_is_one hr pass0 (zaaa (qv av21 1 rfl) zaab zaac))) (zaae (zaak (zaax (zaaa (zaa6 (qv av21 0 rfl) MShrinker_opposite hr pass0 (zaaa (qv av21 2 rfl) zaab zaac)) (zaaa zaas zaab zaaj) zabi)))) zaal) (zaae (zaak (zaai Dplain_pair hr (gl21.g 0 rfl) pass0 (zaaa (qv av21 0 rfl) (zaaa (zaax (zaaa zaas (zaaa (qv av21 1 rfl) (zaaa (qv av21 2 rfl) zaab zaac) zaac) zaaj)) zaab zab1) zaac) zacq)))))))))),?_⟩
 (try dsimp only [cxOf])
 obtain ⟨⟨dy,hy0⟩,_,_⟩:=id r0
 have c0:=Ch.refl [] H
 obtain ⟨fl,fk,fz,fo,fp,fiz,fio,fao⟩:=fsn gl d
 walk_at "rd"
 rename_i H1 d1
 dsimp only
 have c1:=c0.trans d1
 have r1:=r0.ch d1
 have hy1:=d1.get hy0 (by simp)
 clear d1 c0 r0 hy0
 refine ite2 (fun h0=>?_) (fun h0=>?_)
 ·rw [show xorP gs x y=((gs,x, "first"):Rs) from by unfold xorP; simp [h0]] at q
  walk_at "rd"
  rename_i T hT
  exact q.of _ _ ((Ch.wk c1).trans (Ch.new hT _)) zaaf (r1.ch (Ch.new hT _))
 ·walk_at "rd"
  rename_i H2 d2
  dsimp only
  have c2:=c1.trans d2
  have r2:=r1.ch d2
  have hy2:=d2.get hy1 (by simp)
  clear d2 c1 r1 hy1
  refine ite2 (fun h1=>?_) (fun h1=>?_)
  ·rw [show xorP gs x y=((gs,y, "second"):Rs) from by unfold xorP; simp [h0,h1]] at q
   walk_at "rd"
   rename_i T hT
   exact q.of _ _ ((Ch.wk c2).trans (Ch.new hT _)) zaaf (r2.ch (Ch.new hT _))
  ·walk_at "rd"
   refine ite2 (fun ez=>?_) (fun ez=>?_)
   ·have h2:x=y:=by simp at ez; omega
    clear ez
    rw [show xorP gs x y=lk gs .zero "zero" from by unfold xorP; simp [h0,h1,h2]] at q
    walk_at "rd"
    rename_i H9 c9 r9 T hT
    exact q.of _ _ (((Ch.wk c2).trans c9).trans (Ch.new hT _)) zaaf (r9.ch (Ch.new hT _))
   ·have h2:¬ x=y:=by simp at ez; omega
    clear ez
    walk_at "rd"
    rename_i H3 d3
    dsimp only
    have c3:=c2.trans d3
    have r3:=r2.ch d3
    have hy3:=d3.get hy2 (by simp)
    clear d3 c2 r2 hy2
    refine ite2 (fun h3=>?_) (fun h3=>?_)
    ·rw [show xorP gs x y=lk gs .one "one" from by unfold xorP; simp [h0,h1,h2,h3]] at q
     walk_at "rd"
     rename_i H9 c9 r9 T hT
     exact q.of _ _ (((Ch.wk c3).trans c9).trans (Ch.new hT _)) zaaf (r9.ch (Ch.new hT _))
    ·walk_at "rd"
     rename_i H4 d4
     dsimp only
     have c4:=c3.trans d4
     have r4:=r3.ch d4
     have hy4:=d4.get hy3 (by simp)
     clear d4 c3 r3 hy3
     refine ite2 (fun h4=>?_) (fun h4=>?_)
     ·rw [show xorP gs x y=(((opp gs x).1,(opp gs x).2, "not"):Rs) from by unfold xorP; simp [h0,h1,h2,h3,h4]] at q
      walk_at "rd"
      rename_i H9 c9 r9 T hT
      exact q.of _ _ (((Ch.wk c4).trans c9).trans (Ch.new hT _)) zaaf (r9.ch (Ch.new hT _))
     ·walk_at "rd"
      rename_i H5 d5
      dsimp only
      have c5:=c4.trans d5
      have r5:=r4.ch d5
      have hy5:=d5.get hy4 (by simp)
      clear d5 c4 r4 hy4
      refine ite2 (fun h5=>?_) (fun h5=>?_)
      ·rw [show xorP gs x y=(((opp gs y).1,(opp gs y).2, "not"):Rs) from by unfold xorP; simp [h0,h1,h2,h3,h4,h5]] at q
       walk_at "rd"
       rename_i H9 c9 r9 T hT
       exact q.of _ _ (((Ch.wk c5).trans c9).trans (Ch.new hT _)) zaaf (r9.ch (Ch.new hT _))
      ·rw [show xorP gs x y=plain gs (.xor x y) from by unfold xorP; simp [h0,h1,h2,h3,h4,h5]] at q
       walk_at "rd"
       rename_i T hT
       exact ⟨(show _=some (HO.tup (Gt.vs (.xor x y))) from zaaf),rfl,sz,q.ch (c5.trans (Ch.new hT _))⟩
theorem av22:AF (defScope (top 22)) ["shrinker", "x", "y", "z"]:=⟨by decide +kernel⟩
theorem gl22:AG (defScope (top 22)) ["plain_pair"]:=⟨by decide +kernel⟩
def spPickP (C:Addr):Sp:=fun vs H Q _=>∃ (y0 gl d:Addr) (gs:List Gt) (x y z:Nat),vs=[.ref y0,nV x,nV y,nV z]∧ShAt C H y0 gl d gs∧x < gs.length∧y < gs.length∧z < gs.length∧gs.length≤900∧PR C y0 gl d H Q (pickP gs x y z)
theorem scPickP:FnScope ["shrinker", "x", "y", "z"] ["shrinker", "x", "y", "z"] (defScope (top 22)):=⟨rfl,rfl,rfl,by decide +kernel,rfl,by decide +kernel,by decide +kernel⟩
theorem zao4 {C:Addr} (F:Fun K "pick_pair" "pick_pair" (top 22) f fd) (cl:Cls K C) (MShrinker_is_zero:MethOk P w K mg base CX0 k C "is_zero" ["self", "number"] (spIs C isZ)) (MShrinker_is_one:MethOk P w K mg base CX0 k C "is_one" ["self", "number"] (spIs C isO)) (MShrinker_opposite:MethOk P w K mg base CX0 k C "opposite" ["self", "number"] (spOpp C)) (Dplain_pair:DefOk P w K mg base CX0 k "plain_pair" ["shrinker", "gate"] (spPl C)):FnOk P w K mg base CX0 (k + 1) f fd ["shrinker", "x", "y", "z"] (spPickP C):=by
 have nd:=scPickP.nd
 refine F.ok scPickP (fun vs H Q E h=>by obtain ⟨y0,gl,d,gs,x,y,z,rfl,_⟩:=h; rfl) (fun cdv A outer s0 H vs Q E hr h=>?_)
 obtain ⟨y0,gl,d,gs,x,y,z,rfl,r0,lx,ly,lz,sz,q⟩:=h
 unfold nV
 refine ⟨_,(Pr.h (zaad (zaav (zabt (zabz (zaay (zaa6 (qv av22 0 rfl) MShrinker_is_one hr pass0 (zaaa (qv av22 1 rfl) zaab zaac))) (zabr (zaar zabh (qv av22 2 rfl) (qv av22 3 rfl) (nomark _))))) (zaae (zaak (zaax (zaaa (qv av22 2 rfl) (zaaa zaas zaab zaaj) zaac)))) zaal) (zaad (zaav (zaay (zaa6 (qv av22 0 rfl) MShrinker_is_zero hr pass0 (zaaa (qv av22 1 rfl) zaab zaac))) (zaae (zaak (zaax (zaaa (qv av22 3 rfl) (zaaa zaas zaab zaaj) zaac)))) zaal) (zaad (zaav (zabt (zadq (zaay (zaa6 (qv av22 0 rfl) MShrinker_is_one hr pass0 (zaaa (qv av22 2 rfl) zaab zaac))) (zade (zaay (zaa6 (qv av22 0 rfl) MShrinker_is_zero hr pass0 (zaaa (qv av22 3 rfl) zaab zaac)))))) (zaae (zaak (zaax (zaaa (qv av22 1 rfl) (zaaa zaas zaab zaaj) zaac)))) zaal) (zaad (zaav (zabt (zadq (zaay (zaa6 (qv av22 0 rfl) MShrinker_is_zero hr pass0 (zaaa (qv av22 2 rfl) zaab zaac))) (zade (zaay (zaa6 (qv av22 0 rfl) MShrinker_is_one hr pass0 (zaaa (qv av22 3 rfl) zaab zaac)))))) (zaae (zaak (zaax (zaaa (zaa6 (qv av22 0 rfl) MShrinker_opposite hr pass0 (zaaa (qv av22 1 rfl) zaab zaac)) (zaaa zaas zaab zaaj) zabi)))) zaal) (zaae (zaak (zaai Dplain_pair hr (gl22.g 0 rfl) pass0 (zaaa (qv av22 0 rfl) (zaaa (zaax (zaaa zaas (zaaa (qv av22 1 rfl) (zaaa (qv av22 2 rfl) (zaaa (qv av22 3 rfl) zaab zaac) zaac) zaac) zaaj)) zaab zab1) zaac) zacq)))))))),?_⟩
 (try dsimp only [cxOf])
 obtain ⟨⟨dy,hy0⟩,_,_⟩:=id r0
 have c0:=Ch.refl [] H
 obtain ⟨fl,fk,fz,fo,fp,fiz,fio,fao⟩:=fsn gl d
 walk_at "rd"
 rename_i H1 d1
 dsimp only
 have c1:=c0.trans d1
 have r1:=r0.ch d1
 have hy1:=d1.get hy0 (by simp)
 clear d1 c0 r0 hy0
 refine ite2 (fun h0=>?_) (fun h0=>?_)
 ·rw [show pickP gs x y z=((gs,y, "second"):Rs) from by unfold pickP; simp [h0]] at q
  walk_at "rd"
  rename_i T hT
  exact q.of _ _ ((Ch.wk c1).trans (Ch.new hT _)) zaaf (r1.ch (Ch.new hT _))
 ·walk_at "rd"
  refine ite2 (fun ez=>?_) (fun ez=>?_)
  ·have h1:y=z:=by simp at ez; omega
   clear ez
   rw [show pickP gs x y z=((gs,y, "second"):Rs) from by unfold pickP; simp [h0,h1]] at q
   walk_at "rd"
   rename_i T hT
   exact q.of _ _ ((Ch.wk c1).trans (Ch.new hT _)) zaaf (r1.ch (Ch.new hT _))
  ·have h1:¬ y=z:=by simp at ez; omega
   clear ez
   walk_at "rd"
   rename_i H2 d2
   dsimp only
   have c2:=c1.trans d2
   have r2:=r1.ch d2
   have hy2:=d2.get hy1 (by simp)
   clear d2 c1 r1 hy1
   refine ite2 (fun h2=>?_) (fun h2=>?_)
   ·rw [show pickP gs x y z=((gs,z, "third"):Rs) from by unfold pickP; simp [h0,h1,h2]] at q
    walk_at "rd"
    rename_i T hT
    exact q.of _ _ ((Ch.wk c2).trans (Ch.new hT _)) zaaf (r2.ch (Ch.new hT _))
   ·walk_at "rd"
    rename_i H3 d3
    dsimp only
    have c3:=c2.trans d3
    have r3:=r2.ch d3
    have hy3:=d3.get hy2 (by simp)
    clear d3 c2 r2 hy2
    refine ite2 (fun h3=>?_) (fun h3=>?_)
    ·walk_at "rd"
     rename_i H4 d4
     dsimp only
     have c4:=c3.trans d4
     have r4:=r3.ch d4
     have hy4:=d4.get hy3 (by simp)
     clear d4 c3 r3 hy3
     refine ite2 (fun h4=>?_) (fun h4=>?_)
     ·rw [show pickP gs x y z=((gs,x, "first"):Rs) from by unfold pickP; simp [h0,h1,h2,h3,h4]] at q
      walk_at "rd"
      rename_i T hT
      exact q.of _ _ ((Ch.wk c4).trans (Ch.new hT _)) zaaf (r4.ch (Ch.new hT _))
     ·walk_at "rd"
      rename_i H5 d5
      dsimp only
      have c5:=c4.trans d5
      have r5:=r4.ch d5
      have hy5:=d5.get hy4 (by simp)
      clear d5 c4 r4 hy4
      refine ite2 (fun h5=>?_) (fun h5=>?_)
      ·exfalso; simp only [isZ,isO,decide_eq_true_eq] at h3 h5; rw [h3] at h5; cases h5
      ·rw [show pickP gs x y z=plain gs (.pick x y z) from by unfold pickP; simp [h0,h1,h2,h3,h4,h5]] at q
       walk_at "rd"
       rename_i T hT
       exact ⟨(show _=some (HO.tup (Gt.vs (.pick x y z))) from zaaf),rfl,sz,q.ch (c5.trans (Ch.new hT _))⟩
    ·walk_at "rd"
     rename_i H4 d4
     dsimp only
     have c4:=c3.trans d4
     have r4:=r3.ch d4
     have hy4:=d4.get hy3 (by simp)
     clear d4 c3 r3 hy3
     refine ite2 (fun h4=>?_) (fun h4=>?_)
     ·walk_at "rd"
      rename_i H5 d5
      dsimp only
      have c5:=c4.trans d5
      have r5:=r4.ch d5
      have hy5:=d5.get hy4 (by simp)
      clear d5 c4 r4 hy4
      refine ite2 (fun h5=>?_) (fun h5=>?_)
      ·rw [show pickP gs x y z=(((opp gs x).1,(opp gs x).2, "not"):Rs) from by unfold pickP; simp [h0,h1,h2,h3,h4,h5]] at q
       walk_at "rd"
       rename_i H9 c9 r9 T hT
       exact q.of _ _ (((Ch.wk c5).trans c9).trans (Ch.new hT _)) zaaf (r9.ch (Ch.new hT _))
      ·rw [show pickP gs x y z=plain gs (.pick x y z) from by unfold pickP; simp [h0,h1,h2,h3,h4,h5]] at q
       walk_at "rd"
       rename_i T hT
       exact ⟨(show _=some (HO.tup (Gt.vs (.pick x y z))) from zaaf),rfl,sz,q.ch (c5.trans (Ch.new hT _))⟩
     ·rw [show pickP gs x y z=plain gs (.pick x y z) from by unfold pickP; simp [h0,h1,h2,h3,h4]] at q
      walk_at "rd"
      rename_i T hT
      exact ⟨(show _=some (HO.tup (Gt.vs (.pick x y z))) from zaaf),rfl,sz,q.ch (c4.trans (Ch.new hT _))⟩
end
end

section
local macro_rules | `(tactic| walk_at "user")=>`(tactic| first
 | (apply ShAt.ch; (focus with_reducible assumption); (focus walk_at "ch"))
 | exact Gt.vs_sca _)
theorem zak6 {X:Cx}{CX:CXT}{k:Nat}{C:Addr}{x:Str}{ps:List Str}{sp:Sp}{E:XK}{p pos:Pos} (D:MakeOk X.prog X.w X.K X.mg X.base CX k C x ps sp) (hr:Room (k + 1) X.A) (hg:Gl X x) (hx:Passes CX X E) (hdb:(x == ("__debug__" : Str))=false:=by decide) :
  Pr (PE X (.Call (.Name x p) [] [] pos) (tMake C sp [] E tNil)):=by
 obtain ⟨f,fd,F,b,M,hm⟩:=D.ex
 exact ⟨zaoe M F hr hg hm b .nil hx hdb⟩
theorem Ch.forget {W:List Addr}{H H':Hp} (c:Ch W H H') (h:∀ w∈W,H w=none):Ch [] H H':=fun a o e _=>c a o e fun z=>by rw [h a z] at e; cases e
theorem Ch.inst {H:Hp}{x dx C:Addr} (hx:H x=none) (hd:H dx=none) (n:dx≠x):Ch [] H (upd (upd H dx (.own x)) x (.ins C dx [])):=(Ch.new hd _).trans (Ch.new (by rw [zabq n.symm]; exact hx) _)
theorem Ch.two {H0 H1 H2:Hp}{a b:Addr} (c:Ch [] H0 H1) (c2:Ch [a,b] H1 H2) (ha:H0 a=none) (hb:H0 b=none):Ch [] H0 H2 :=
 Ch.forget ((Ch.wk c).trans c2) (by simp only [List.mem_cons,List.not_mem_nil,or_false]; rintro w (rfl | rfl) <;> assumption)
abbrev SS:=List Gt × List (Nat × Str)
def rho (prs:List (Nat × Str)) (a:Nat):Nat:=(prs.getD a (0,Str.empty)).1
def stp (s:SS) (g:Gt):SS:=if g.src then (s.1++[g],s.2++[(s.1.length,g.wd)]) else ((gpair s.1 (rho s.2) g).1,s.2++[(gpair s.1 (rho s.2) g).2])
def shr (net:List Gt):SS:=net.foldl stp ([],[])
theorem zag3 {net:List Gt}{i:Nat}{g:Gt} (h:net[i]?=some g):shr (net.take (i + 1))=stp (shr (net.take i)) g:=by
 unfold shr
 rw [List.take_add_one,h,List.foldl_append]
 rfl
def Gt.big:Gt→Bool
 | .inp=>false
 | .zero=>false
 | .one=>false
 | _=>true
structure SI (net:List Gt) (i:Nat) (s:SS):Prop where
 len:s.2.length=i
 lt:∀ (j:Nat) (p:Nat × Str),s.2[j]?=some p→p.1 < s.1.length
 wf:WF s.1
 sz:s.1.length≤i
 src:∀ (j:Nat) (g:Gt) (p:Nat × Str),net[j]?=some g→s.2[j]?=some p→g.src=true→s.1[p.1]?=some g
 kp:∀ (n:Nat) (g:Gt),s.1[n]?=some g→g.src=true→∃ (j:Nat) (p:Nat × Str),net[j]?=some g∧s.2[j]?=some p∧p.1=n
 inj:∀ (j j':Nat) (g g':Gt) (p p':Nat × Str),net[j]?=some g→net[j']?=some g'→s.2[j]?=some p→s.2[j']?=some p'→g.src=true→g'.src=true→p.1=p'.1→j=j'
 ci:∀ t:Gt→Bool,(∀ g,t g=true→g.src=true)→s.1.countP t=(net.take i).countP t
 cb:s.1.countP Gt.big≤(net.take i).countP Gt.big
 od:∀ (j:Nat) (g:Gt) (p:Nat × Str),net[j]?=some g→s.2[j]?=some p→g.src=true→∀ t:Gt→Bool,(∀ g,t g=true→g.src=true)→(s.1.take p.1).countP t=(net.take j).countP t
theorem SI.zero (net:List Gt):SI net 0 ([],[]):=⟨rfl,fun j p h=>by simp at h,⟨fun i g h=>by simp at h,fun i j g h e=>by simp at e⟩,Nat.le_refl _,fun j g p _ h=>by simp at h,fun n g h=>by simp at h,fun j j' g g' p p' _ _ h=>by simp at h,fun t _=>rfl,Nat.le_refl _,fun j g p _ h=>by simp at h⟩
theorem SI.rho {net:List Gt}{i:Nat}{s:SS} (h:SI net i s) {a:Nat} (ha:a < i):∃ p,s.2[a]?=some p∧rho s.2 a=p.1∧p.1 < s.1.length:=by
 have hl:a < s.2.length:=by rw [h.len]; exact ha
 refine ⟨_,List.getElem?_eq_getElem hl,?_,h.lt a _ (List.getElem?_eq_getElem hl)⟩
 unfold B17.rho
 rw [List.getD_eq_getElem?_getD,List.getElem?_eq_getElem hl]; rfl
theorem Ext.at {gs:List Gt}{r:Rs} (h:Ext gs r) {j:Nat}{g:Gt} (e:gs[j]?=some g):r.1[j]?=some g:=by
 rcases h with ⟨z,_⟩ | ⟨g',m,z,_⟩
 ·rw [z]; exact e
 ·rw [z]
  unfold like
  split
  ·exact e
  ·rw [List.getElem?_append_left (List.getElem?_eq_some_iff.mp e).1]; exact e
theorem zace {α:Type}{l:List α}{x y:α}{i:Nat} (e:(l++[x])[i]?=some y):(i < l.length∧l[i]?=some y)∨(i=l.length∧y=x):=by
 by_cases hi:i < l.length
 ·rw [List.getElem?_append_left hi] at e; exact .inl ⟨hi,e⟩
 ·rw [List.getElem?_append_right (by omega)] at e
  have hi0:i - l.length=0:=by
   rcases Nat.eq_zero_or_pos (i - l.length) with z | z
   ·exact z
   ·rw [List.getElem?_eq_none (by simp; omega)] at e; cases e
  rw [hi0] at e
  exact .inr ⟨by omega,by simpa using e.symm⟩
theorem SI.ext {net:List Gt}{i:Nat}{s:SS}{g:Gt} (h:SI net i s) (ok:g.ok i net.length) (hs:g.src=false):Ext s.1 (gpair s.1 (B17.rho s.2) g) :=
 zamr h.wf hs fun a ha=>by obtain ⟨p,_,e,l⟩:=h.rho (zadt ok hs a ha); rw [e]; exact l
theorem zao5 {gs:List Gt}{h:Gt} (hs:h.src=false) {n:Nat}{g:Gt} (e:(like gs h).1[n]?=some g) (hg:g.src=true):gs[n]?=some g:=by
 unfold like at e
 split at e
 ·exact e
 ·rcases zady e with ⟨_,e⟩ | ⟨_,rfl⟩
  ·exact e
  ·rw [hs] at hg; cases hg
theorem Ext.srcs {gs:List Gt}{r:Rs} (h:Ext gs r) {n:Nat}{g:Gt} (e:r.1[n]?=some g) (hg:g.src=true):gs[n]?=some g:=by
 rcases h with ⟨z,_⟩ | ⟨h',m,z,_⟩
 ·rw [← z]; exact e
 ·rw [z] at e; exact zao5 m.s e hg
theorem zakf (t:Gt→Bool) (gs:List Gt) (h:Gt):(like gs h).1.countP t≤gs.countP t + if t h then 1 else 0:=by
 unfold like
 split
 ·simp
 ·rw [List.countP_append]; simp
theorem Ext.ins {gs:List Gt}{r:Rs} (h:Ext gs r) {t:Gt→Bool} (ht:∀ g,t g=true→g.src=true):r.1.countP t=gs.countP t:=by
 rcases h with ⟨z,_⟩ | ⟨h',m,z,_⟩
 ·rw [z]
 ·rw [z]
  have hi:t h'=false:=by
   cases e:t h' with
   | false=>rfl
   | true=>have:=ht h' e; rw [m.s] at this; cases this
  unfold like
  split
  ·rfl
  ·rw [List.countP_append]; simp [hi]
theorem Ext.pre {gs:List Gt}{r:Rs} (h:Ext gs r) {n:Nat} (hn:n≤gs.length):r.1.take n=gs.take n:=by
 rcases h with ⟨z,_⟩ | ⟨h',m,z,_⟩
 ·rw [z]
 ·rw [z]
  unfold like
  split
  ·rfl
  ·exact List.take_append_of_le_length hn
theorem Ext.big {gs:List Gt}{ρ:Nat→Nat}{g:Gt} (h:Ext gs (gpair gs ρ g)):(gpair gs ρ g).1.countP Gt.big≤gs.countP Gt.big + if g.big then 1 else 0:=by
 cases hb:g.big with
 | true =>
  rcases h with ⟨z,_⟩ | ⟨h',m,z,_⟩
  ·rw [z]; simp
  ·rw [z]
   have:=zakf Gt.big gs h'
   split at this <;> simp <;> omega
 | false =>
  cases g <;> first | (cases hb; done) | exact zakf Gt.big gs _
theorem SI.step {net:List Gt}{i:Nat}{s:SS}{g:Gt} (h:SI net i s) (e:net[i]?=some g) (ok:g.ok i net.length):SI net (i + 1) (stp s g):=by
 unfold stp
 cases hs:g.src with
 | true =>
  rw [if_pos rfl]
  refine ⟨by simp [h.len],fun j p z=>?_,h.wf.lay hs,by have:=h.sz; simp; omega,fun j g' p z1 z2 z3=>?_,fun n g' z1 z2=>?_,fun j j' g1 g2 p p' z1 z2 z3 z4 z5 z6 z7=>?_,fun t ht=>?_,?_,fun j g' p z1 z2 z3 t ht=>?_⟩
  ·rcases zace z with ⟨_,z⟩ | ⟨_,rfl⟩
   ·have:=h.lt j p z; simp; omega
   ·simp
  ·rcases zace z2 with ⟨_,z⟩ | ⟨z,rfl⟩
   ·have:=h.src j g' p z1 z z3
    rw [List.getElem?_append_left (List.getElem?_eq_some_iff.mp this).1]; exact this
   ·rw [z,h.len,e] at z1
    cases z1
    simp
  ·rcases zace z1 with ⟨_,z⟩ | ⟨z,rfl⟩
   ·obtain ⟨j,p,a,b,c⟩:=h.kp n g' z z2
    exact ⟨j,p,a,by rw [List.getElem?_append_left (List.getElem?_eq_some_iff.mp b).1]; exact b,c⟩
   ·exact ⟨i,(s.1.length,g'.wd),e,by rw [← h.len]; simp,z.symm⟩
  ·rcases zace z3 with ⟨_,y3⟩ | ⟨y3,e3⟩
   ·rcases zace z4 with ⟨_,y4⟩ | ⟨y4,e4⟩
    ·exact h.inj j j' g1 g2 p p' z1 z2 y3 y4 z5 z6 z7
    ·have:=h.lt j p y3; rw [z7,e4] at this; exact absurd this (Nat.lt_irrefl _)
   ·rcases zace z4 with ⟨_,y4⟩ | ⟨y4,e4⟩
    ·have:=h.lt j' p' y4; rw [← z7,e3] at this; exact absurd this (Nat.lt_irrefl _)
    ·rw [y3,y4]
  ·rw [List.take_add_one,e,List.countP_append,List.countP_append,h.ci t ht]; rfl
  ·rw [List.take_add_one,e,List.countP_append,List.countP_append]; exact Nat.add_le_add_right h.cb _
  ·rcases zace z2 with ⟨_,y2⟩ | ⟨y2,e2⟩
   ·rw [List.take_append_of_le_length (Nat.le_of_lt (h.lt j p y2))]; exact h.od j g' p z1 y2 z3 t ht
   ·rw [e2,y2,h.len,List.take_append_of_le_length (Nat.le_refl _),List.take_length]; exact h.ci t ht
 | false =>
  rw [if_neg (by simp)]
  have x:=h.ext ok hs
  obtain ⟨w1,w2,w3⟩:=x.wf h.wf
  refine ⟨by simp [h.len],fun j p z=>?_,w1,by have:=x.len; have:=h.sz; simp; omega,fun j g' p z1 z2 z3=>?_,fun n g' z1 z2=>?_,fun j j' g1 g2 p p' z1 z2 z3 z4 z5 z6 z7=>?_,fun t ht=>?_,?_,fun j g' p z1 z2 z3 t ht=>?_⟩
  ·rcases zace z with ⟨_,z⟩ | ⟨_,rfl⟩
   ·have:=h.lt j p z; simp; omega
   ·exact w2
  ·rcases zace z2 with ⟨_,z⟩ | ⟨z,rfl⟩
   ·exact x.at (h.src j g' p z1 z z3)
   ·rw [z,h.len,e] at z1
    cases z1
    rw [hs] at z3; cases z3
  ·obtain ⟨j,p,a,b,c⟩:=h.kp n g' (x.srcs z1 z2) z2
   exact ⟨j,p,a,by rw [List.getElem?_append_left (List.getElem?_eq_some_iff.mp b).1]; exact b,c⟩
  ·rcases zace z3 with ⟨_,y3⟩ | ⟨y3,e3⟩
   ·rcases zace z4 with ⟨_,y4⟩ | ⟨y4,e4⟩
    ·exact h.inj j j' g1 g2 p p' z1 z2 y3 y4 z5 z6 z7
    ·rw [y4,h.len,e] at z2
     cases z2
     rw [hs] at z6; cases z6
   ·rw [y3,h.len,e] at z1
    cases z1
    rw [hs] at z5; cases z5
  ·have ni:t g=false:=by
    cases e:t g with
    | false=>rfl
    | true=>have:=ht g e; rw [hs] at this; cases this
   rw [List.take_add_one,e,List.countP_append]
   show (gpair s.1 (B17.rho s.2) g).1.countP t=_
   rw [x.ins ht,h.ci t ht]
   simp [ni]
  ·rw [List.take_add_one,e,List.countP_append]
   show (gpair s.1 (B17.rho s.2) g).1.countP Gt.big≤_
   have:=x.big
   have:=h.cb
   have e9:List.countP Gt.big (some g).toList=if g.big then 1 else 0:=by simp [List.countP_cons]
   rw [e9]
   omega
  ·rcases zace z2 with ⟨_,y2⟩ | ⟨y2,_⟩
   ·show ((gpair s.1 (B17.rho s.2) g).1.take p.1).countP t=_
    rw [x.pre (Nat.le_of_lt (h.lt j p y2))]; exact h.od j g' p z1 y2 z3 t ht
   ·rw [y2,h.len,e] at z1
    cases z1
    rw [hs] at z3; cases z3
theorem SI.all {net:List Gt} (ok:Oks net):∀ i,i≤net.length→SI net i (shr (net.take i))
 | 0,_=>SI.zero net
 | i + 1,hi=>by
  have e:net[i]?=some net[i]:=List.getElem?_eq_getElem (by omega)
  rw [zag3 e]
  exact (SI.all ok i (by omega)).step e (ok _ _ e)
def ref1 (prs:List (Nat × Str)) (gs:List Gt) (gp:Gt × (Nat × Str)):List Gt:=match gp.1 with
 | .keep f a=>gs.set gp.2.1 (.keep f (rho prs a))
 | _=>gs
def refd (net:List Gt) (prs:List (Nat × Str)) (gs:List Gt) (i:Nat):List Gt:=((net.zip prs).take i).foldl (ref1 prs) gs
theorem zah8 {net:List Gt}{prs:List (Nat × Str)}{gs:List Gt}{i:Nat}{g:Gt}{p:Nat × Str} (h1:net[i]?=some g) (h2:prs[i]?=some p):refd net prs gs (i + 1)=ref1 prs (refd net prs gs i) (g,p):=by
 unfold refd
 have:(net.zip prs)[i]?=some (g,p):=by rw [List.getElem?_zip_eq_some]; exact ⟨h1,h2⟩
 rw [List.take_add_one,this,List.foldl_append]
 rfl
theorem zao6 (prs:List (Nat × Str)) (gs:List Gt) (gp:Gt × (Nat × Str)):(ref1 prs gs gp).length=gs.length:=by
 unfold ref1; split <;> simp
theorem zao7 (net:List Gt) (prs:List (Nat × Str)) (gs:List Gt) (i:Nat):(refd net prs gs i).length=gs.length:=by
 unfold refd
 generalize (net.zip prs).take i=l
 induction l generalizing gs with
 | nil=>rfl
 | cons x l ih=>rw [List.foldl_cons,ih,zao6]
def gsF (net:List Gt):List Gt:=refd net (shr net).2 (shr net).1 net.length
structure Prs (H:Hp) (prs:List (Nat × Str)) (ps:List V):Prop where
 len:ps.length=prs.length
 at_:∀ (i:Nat) (p:Nat × Str),prs[i]?=some p→∃ a,ps[i]?=some (.ref a)∧H a=some (.tup [nV p.1,.str p.2])
theorem Prs.tu {H H':Hp}{prs:List (Nat × Str)}{ps:List V} (h:Prs H prs ps) (t:Tu H H'):Prs H' prs ps:=⟨h.len,fun i g e=>let ⟨p,a,b⟩:=h.at_ i g e; ⟨p,a,t p _ b⟩⟩
theorem Prs.push {H:Hp}{prs:List (Nat × Str)}{ps:List V}{a:Addr}{p:Nat × Str} (h:Prs H prs ps) (ha:H a=some (.tup [nV p.1,.str p.2])):Prs H (prs++[p]) (ps++[.ref a]):=by
 refine ⟨by simp [h.len],fun i x e=>?_⟩
 rcases zace e with ⟨hi,e⟩ | ⟨rfl,rfl⟩
 ·obtain ⟨b,h1,h2⟩:=h.at_ i x e
  exact ⟨b,by rw [List.getElem?_append_left (by rw [h.len]; exact hi)]; exact h1,h2⟩
 ·exact ⟨a,by rw [← h.len]; simp,ha⟩
section
variable {P:Program}{w:World}{K:PySem.W.Frag}{mg:Str→Option Value}{base:Heap}{f:Addr}{fd:FuncData}{k:Nat}
theorem zai1:Nd "not_pair" := by decide +kernel
theorem zai2:Nd "and_pair" := by decide +kernel
theorem zak7:Nd "or_pair" := by decide +kernel
theorem zai3:Nd "xor_pair" := by decide +kernel
theorem zah9:Nd "pick_pair" := by decide +kernel
theorem av23:AF (defScope (top 23)) ["shrinker", "gate", "feeds"]:=⟨by decide +kernel⟩
theorem gl23:AG (defScope (top 23)) ["not_pair", "and_pair", "or_pair", "xor_pair", "pick_pair", "plain_pair"]:=⟨by decide +kernel⟩
def spGp (C:Addr):Sp:=fun vs H Q _=>∃ (y p fl gl d:Addr) (gs:List Gt) (g:Gt) (ρ:Nat→Nat),vs=[.ref y,.ref p,.ref fl]∧ShAt C H y gl d gs∧H p=some (.tup g.vs)∧g.src=false∧H fl=some (.lst (g.feeds.map fun a=>nV (ρ a)))∧(∀ a∈g.feeds,ρ a < gs.length)∧gs.length≤900∧PR C y gl d H Q (gpair gs ρ g)
theorem scGp:FnScope ["shrinker", "gate", "feeds"] ["shrinker", "gate", "feeds"] (defScope (top 23)):=⟨rfl,rfl,rfl,by decide +kernel,rfl,by decide +kernel,by decide +kernel⟩
theorem zavc {C:Addr} (F:Fun K "gate_pair" "gate_pair" (top 23) f fd) (Dnot_pair:DefOk P w K mg base CX0 k "not_pair" ["shrinker", "x"] (spNotP C)) (Dand_pair:DefOk P w K mg base CX0 k "and_pair" ["shrinker", "x", "y"] (spAndP C)) (Dor_pair:DefOk P w K mg base CX0 k "or_pair" ["shrinker", "x", "y"] (spOrP C))
  (Dxor_pair:DefOk P w K mg base CX0 k "xor_pair" ["shrinker", "x", "y"] (spXorP C)) (Dpick_pair:DefOk P w K mg base CX0 k "pick_pair" ["shrinker", "x", "y", "z"] (spPickP C)) (Dplain_pair:DefOk P w K mg base CX0 k "plain_pair" ["shrinker", "gate"] (spPl C)):FnOk P w K mg base CX0 (k + 1) f fd ["shrinker", "gate", "feeds"] (spGp C):=by
 have nd:=scGp.nd
 refine F.ok scGp (fun vs H Q E h=>by obtain ⟨y,p,fl,gl,d,gs,g,ρ,rfl,_⟩:=h; rfl) (fun cdv A outer s0 H vs Q E hr h=>?_)
 obtain ⟨y,p,fl,gl,d,gs,g,ρ,rfl,r,hp,hs,hf,lf,sz,q⟩:=h
 refine ⟨_,(Pr.h (zaad (zaav (zaar zabh (zaat zaa0 (qv av23 1 rfl) zaag (fun _ _=>rfl)) zaas (nomark _)) (zaae (zaak (zaai Dnot_pair hr (gl23.g 0 rfl) pass0 (zaaa (qv av23 0 rfl) (zaaa (zaat zaaw (qv av23 2 rfl) zaag (fun _ _=>rfl)) zaab zaaq) zaac) zai1))) zaal) (zaad (zaav (zaar zabh (zaat zaa0 (qv av23 1 rfl) zaag (fun _ _=>rfl)) zaas (nomark _)) (zaae (zaak (zaai Dand_pair hr (gl23.g 1 rfl) pass0 (zaaa (qv av23 0 rfl) (zaaa (zaat zaaw (qv av23 2 rfl) zaag (fun _ _=>rfl)) (zaaa (zaat zaaw (qv av23 2 rfl) zaag (fun _ _=>rfl)) zaab zaaq) zaaq) zaac) zai2))) zaal) (zaad (zaav (zaar zabh (zaat zaa0 (qv av23 1 rfl) zaag (fun _ _=>rfl)) zaas (nomark _)) (zaae (zaak (zaai Dor_pair hr (gl23.g 2 rfl) pass0 (zaaa (qv av23 0 rfl) (zaaa (zaat zaaw (qv av23 2 rfl) zaag (fun _ _=>rfl)) (zaaa (zaat zaaw (qv av23 2 rfl) zaag (fun _ _=>rfl)) zaab zaaq) zaaq) zaac) zak7))) zaal) (zaad (zaav (zaar zabh (zaat zaa0 (qv av23 1 rfl) zaag (fun _ _=>rfl)) zaas (nomark _)) (zaae (zaak (zaai Dxor_pair hr (gl23.g 3 rfl) pass0 (zaaa (qv av23 0 rfl) (zaaa (zaat zaaw (qv av23 2 rfl) zaag (fun _ _=>rfl)) (zaaa (zaat zaaw (qv av23 2 rfl) zaag (fun _ _=>rfl)) zaab zaaq) zaaq) zaac) zai3))) zaal) (zaad (zaav (zaar zabh (zaat zaa0 (qv av23 1 rfl) zaag (fun _ _=>rfl)) zaas (nomark _)) (zaae (zaak (zaai Dpick_pair hr (gl23.g 4 rfl) pass0 (zaaa (qv av23 0 rfl) (zaaa (zaat zaaw (qv av23 2 rfl) zaag (fun _ _=>rfl)) (zaaa (zaat zaaw (qv av23 2 rfl) zaag (fun _ _=>rfl)) (zaaa (zaat zaaw (qv av23 2 rfl) zaag (fun _ _=>rfl)) zaab zaaq) zaaq) zaaq) zaac) zah9))) zaal) (zaae (zaak (zaai Dplain_pair hr (gl23.g 5 rfl) pass0 (zaaa (qv av23 0 rfl) (zaaa (qv av23 1 rfl) zaab zaac) zaac) zacq))))))))),?_⟩
 (try dsimp only [cxOf])
 cases g with
 | inp=>cases hs
 | keep _ _=>cases hs
 | zero =>
  have hp0:H p=some (.tup [.str "zero"]):=hp
  have q:PR C y gl d H Q (plain gs .zero):=q
  walk_at "rd"
 | one =>
  have hp0:H p=some (.tup [.str "one"]):=hp
  have q:PR C y gl d H Q (plain gs .one):=q
  walk_at "rd"
 | not a =>
  have hp0:H p=some (.tup [.str "not",.int a]):=hp
  have hf:H fl=some (.lst [nV (ρ a)]):=hf
  have l1:=lf a (by simp [Gt.feeds])
  have q:PR C y gl d H Q (notP gs (ρ a)):=q
  walk_at "rd"
 | and a b =>
  have hp0:H p=some (.tup [.str "and",.int a,.int b]):=hp
  have hf:H fl=some (.lst [nV (ρ a),nV (ρ b)]):=hf
  have l1:=lf a (by simp [Gt.feeds])
  have l2:=lf b (by simp [Gt.feeds])
  have q:PR C y gl d H Q (andP gs (ρ a) (ρ b)):=q
  walk_at "rd"
 | or a b =>
  have hp0:H p=some (.tup [.str "or",.int a,.int b]):=hp
  have hf:H fl=some (.lst [nV (ρ a),nV (ρ b)]):=hf
  have l1:=lf a (by simp [Gt.feeds])
  have l2:=lf b (by simp [Gt.feeds])
  have q:PR C y gl d H Q (orP gs (ρ a) (ρ b)):=q
  walk_at "rd"
 | xor a b =>
  have hp0:H p=some (.tup [.str "xor",.int a,.int b]):=hp
  have hf:H fl=some (.lst [nV (ρ a),nV (ρ b)]):=hf
  have l1:=lf a (by simp [Gt.feeds])
  have l2:=lf b (by simp [Gt.feeds])
  have q:PR C y gl d H Q (xorP gs (ρ a) (ρ b)):=q
  walk_at "rd"
 | pick a b c =>
  have hp0:H p=some (.tup [.str "pick",.int a,.int b,.int c]):=hp
  have hf:H fl=some (.lst [nV (ρ a),nV (ρ b),nV (ρ c)]):=hf
  have l1:=lf a (by simp [Gt.feeds])
  have l2:=lf b (by simp [Gt.feeds])
  have l3:=lf c (by simp [Gt.feeds])
  have q:PR C y gl d H Q (pickP gs (ρ a) (ρ b) (ρ c)):=q
  walk_at "rd"
end
end

section
local macro_rules | `(tactic| walk_at "user")=>`(tactic| first
 | (apply ShAt.ch; (focus with_reducible assumption); (focus walk_at "ch"))
 | exact Gt.vs_sca _)
structure SW (C:Addr) (H0 H:Hp) (y gl d pl:Addr) (s:SS):Prop where
 ch:Ch [] H0 H
 sh:ShAt C H y gl d s.1
 pl:∃ ps,H pl=some (.lst ps)∧Prs H s.2 ps
structure SF (H0:Hp) (gl d pl:Addr):Prop where
 g:H0 gl=none
 d:H0 d=none
 p:H0 pl=none
theorem SW.same {C:Addr}{H0 H H1:Hp}{y gl d pl:Addr}{s:SS} (h:SW C H0 H y gl d pl s) (c:Ch [] H H1):SW C H0 H1 y gl d pl s :=
 ⟨h.ch.trans c,h.sh.ch c,let ⟨ps,a,b⟩:=h.pl; ⟨ps,c.get a (by simp),b.tu (Tu.same c)⟩⟩
theorem SW.put {C:Addr}{H0 H:Hp}{y gl d pl a:Addr}{gs:List Gt}{prs:List (Nat × Str)}{ps:List V}{p:Nat × Str} (ch:Ch [] H0 H) (sh:ShAt C H y gl d gs) (hp:H pl=some (.lst ps)) (pp:Prs H prs ps) (f:SF H0 gl d pl) (ng:pl≠gl) (ha:H a=some (.tup [nV p.1,.str p.2])) :
  SW C H0 (upd H pl (.lst (ps++[.ref a]))) y gl d pl (gs,prs++[p]):=by
 obtain ⟨⟨dy,hy⟩,⟨xs,hg,gg⟩,⟨kvs,hd,nm⟩⟩:=sh
 refine ⟨Ch.own f.p ch,⟨⟨dy,zac1 (zadb hy hp (by intro z; cases z)) hy⟩,⟨xs,zac1 ng.symm hg,gg.tu (Tu.lst Ch.put hp)⟩,⟨kvs,zac1 (zadb hd hp (by intro z; cases z)) hd,nm⟩⟩,_,zaaf,(pp.push ha).tu (Tu.lst Ch.put hp)⟩
theorem zao8:∀ g:Gt,inV (.str g.wd) [.str "in",.str "keep"]=g.src
 | .inp=>(by decide +kernel:inV (.str "in") [.str "in",.str "keep"]=true)
 | .zero=>(by decide +kernel:inV (.str "zero") [.str "in",.str "keep"]=false)
 | .one=>(by decide +kernel:inV (.str "one") [.str "in",.str "keep"]=false)
 | .keep _ _=>(by decide +kernel:inV (.str "keep") [.str "in",.str "keep"]=true)
 | .not _=>(by decide +kernel:inV (.str "not") [.str "in",.str "keep"]=false)
 | .and _ _=>(by decide +kernel:inV (.str "and") [.str "in",.str "keep"]=false)
 | .or _ _=>(by decide +kernel:inV (.str "or") [.str "in",.str "keep"]=false)
 | .xor _ _=>(by decide +kernel:inV (.str "xor") [.str "in",.str "keep"]=false)
 | .pick _ _ _=>(by decide +kernel:inV (.str "pick") [.str "in",.str "keep"]=false)
section
variable {P:Program}{w:World}{K:PySem.W.Frag}{mg:Str→Option Value}{base:Heap}{f:Addr}{fd:FuncData}{k:Nat}
theorem zai4:Nd "Shrinker" := by decide +kernel
theorem zadu:Nd "feeds_of" := by decide +kernel
theorem zaia:Nd "gate_pair" := by decide +kernel
theorem av24:AF (defScope (top 24)) ["net", "shrinker", "pairs", "gate", "pair"]:=⟨by decide +kernel⟩
theorem gl24:AG (defScope (top 24)) ["Shrinker", "gate_pair", "feeds_of", "zip"]:=⟨by decide +kernel⟩
def zai5:Scope:={ kind:=PySem.ScopeKind.function,names:=[ (PySem.Str.ofString ".0",PySem.NameKind.local),(PySem.Str.ofString "feed",PySem.NameKind.local),(PySem.Str.ofString "pairs",PySem.NameKind.free)],isGenerator:=false,isCoroutine:=false,more:=[]:PySem.Scope }
theorem zams:CompOk zai5 (defScope (top 24)) (["feed"]:List Str) (["net", "shrinker", "pairs", "gate", "pair"]:List Str) [2] (["feed", "pairs"]:List Str):=compOk rfl (by decide +kernel) (by decide +kernel) (by decide +kernel) (by decide +kernel) rfl (by decide +kernel)
theorem zamt:AK (relab zai5 (defScope (top 24))) ["feed"]:=⟨by decide +kernel⟩
theorem zamu:AV (relab zai5 (defScope (top 24))) ["feed", "pairs"]:=⟨by decide +kernel⟩
def spShk (CN:Addr):Sp:=fun vs H Q _=>∃ (nt gp op:Addr) (net:List Gt) (xs:List V) (os:List Nat),vs=[.ref nt]∧NetAt CN H nt gp op net xs os∧Oks net∧net.length≤200 ∧
 ∀ (R gl pl:Addr) (xs' ps:List V) (H':Hp),Ch [] H H'→H' R=some (.tup [.ref gl,.ref pl])→H' gl=some (.lst xs')→Gs H' (gsF net) xs'→H' pl=some (.lst ps)→Prs H' (shr net).2 ps→Q (.ref R) H'
theorem scShk:FnScope ["net", "shrinker", "pairs", "gate", "pair"] ["net"] (defScope (top 24)):=⟨rfl,rfl,rfl,by decide +kernel,rfl,by decide +kernel,by decide +kernel⟩
theorem zaua {CN C:Addr} (F:Fun K "shrunk" "shrunk" (top 24) f fd) (clN:Cls K CN) (nNG:NoAttr K CN "gates") (cl:Cls K C) (nG:NoAttr K C "gates") (MkShrinker:MakeOk P w K mg base CX0 k C "Shrinker" ["self"] (spShr C)) (MShrinker_lay:MethOk P w K mg base CX0 (k + 1) C "lay" ["self", "gate"] (spLay C))
  (Dgate_pair:DefOk P w K mg base CX0 (k + 1) "gate_pair" ["shrinker", "gate", "feeds"] (spGp C)) (Dfeeds_of:DefOk P w K mg base CX0 (k + 1) "feeds_of" ["gate"] spFeeds) (z_zip:mg "zip" = none):FnOk P w K mg base CX0 (k + 2) f fd ["net"] (spShk CN):=by
 have nd:=scShk.nd
 refine F.ok scShk (fun vs H Q E h=>by obtain ⟨nt,gp,op,net,xs,os,rfl,_⟩:=h; rfl) (fun cdv A outer s0 H vs Q E hr h=>?_)
 obtain ⟨nt,gp,op,net,xs,os,rfl,⟨⟨dn,hn⟩,hg,gg,ho⟩,ok,sz,q⟩:=h
 have hrm:=hr
 refine ⟨_,(Pr.h (zaad (zaa1 (i:=1) nd rfl (av24.l 1 rfl) (zak6 MkShrinker hrm (gl24.g 0 rfl) pass0 zai4)) (zaad (zaa1 (i:=2) nd rfl (av24.l 2 rfl) (zact zaab)) (zaad (zaca PassesOwn.never rfl (zad7 (zabj (qv av24 0 rfl) rfl)) (zaau (i:=3) nd rfl (av24.l 3 rfl)) (zaae (zaav (zaar zaea (zaat zaa0 (qv av24 3 rfl) zaag (fun _ _=>rfl)) (zaax (zaaa zaas (zaaa zaas zaab zaaj) zaaj)) rfl) (zaae (zacp (zado PySem.F.plainAttrs_list PySem.F.slot_list_append PySem.F.type_list_append zacl (qv av24 2 rfl) (zaaa (zaax (zaaa (zaa6 (qv av24 1 rfl) MShrinker_lay hr pass0 (zaaa (qv av24 3 rfl) zaab zaac)) (zaaa (zaat zaa0 (qv av24 3 rfl) zaag (fun _ _=>rfl)) zaab zaaq) zabi)) zaab zab1)))) (zaae (zacp (zado PySem.F.plainAttrs_list PySem.F.slot_list_append PySem.F.type_list_append zacl (qv av24 2 rfl) (zaaa (zaai Dgate_pair hr (gl24.g 1 rfl) pass0 (zaaa (qv av24 1 rfl) (zaaa (qv av24 3 rfl) (zaaa (zacb rfl zams (zacj (zaai Dfeeds_of hr (gl24.g 2 rfl) pass0 (zaaa (qv av24 3 rfl) zaab zaac) zadu)) (fun _ _ _ _ _=>(zaau (i:=0) zams.nd rfl (Or.inl (zamt.k 0 rfl)) (Or.inr (zamt.k 0 rfl)))) (fun _ _ _ _ _=>zabx) (fun _ _ _ _ _=>(zaat (zadg K rfl) (zaat (zacv K rfl) (qw zamu 1 rfl) (qw zamu 0 rfl) (fun _ _=>rfl)) zaag (fun _ _=>rfl)))) zaab zabg) zaac) zaac) zaia) zaab zabi))))))) (zaad (zaca PassesOwn.never rfl (zad8 .tuple .list (gl24.g 3 rfl) z_zip (zaaa (zabj (qv av24 0 rfl) rfl) (zaaa (qv av24 2 rfl) zaab zaac) zabf)) (zac7 rfl (zaa5 (zaau (i:=3) nd rfl (av24.l 3 rfl)) (zaa5 (zaau (i:=4) nd rfl (av24.l 4 rfl)) zacc))) (zaae (zaav (zaar zabh (zaat zaa0 (qv av24 3 rfl) zaag (fun _ _=>rfl)) zaas (nomark _)) (zaae (zadx (zaax (zaaa zaas (zaaa (zaat zaa0 (qv av24 3 rfl) zaag (fun _ _=>rfl)) (zaaa (zaat zaa0 (zaat zaaw (qv av24 2 rfl) (zaat zaa0 (qv av24 3 rfl) zaag (fun _ _=>rfl)) (fun _ _=>rfl)) zaag (fun _ _=>rfl)) zaab zaaq) zaaq) zaaj)) (zair (zabj (qv av24 1 rfl) rfl) (zaat zaa0 (qv av24 4 rfl) zaag (fun _ _=>rfl)) zagp))) zaal))) (zaae (zaak (zaax (zaaa (zabj (qv av24 1 rfl) rfl) (zaaa (qv av24 2 rfl) zaab zaac) zabf))))))))),?_⟩
 (try dsimp only [cxOf])
 have f1:=zack gp op
 have lx:=gg.len
 walk_at "rd"
 rename_i y dy hy hdy ny gl d H1 c1 fgl fd' rg1 pl hpl
 have i1:=Ch.inst (C:=C) hy hdy ny
 have c01:Ch [] H H1:=Ch.forget (i1.wk.trans c1) (by simpa using hy)
 have sf:SF H gl d pl:=⟨chFree i1 fgl,chFree i1 fd',chFree c01 hpl⟩
 have npg:pl≠gl:=fun z=>by obtain ⟨xs,h,_⟩:=rg1.g; rw [z,h] at hpl; cases hpl
 obtain ⟨H2,e2⟩:∃ H2,upd H1 pl (HO.lst [])=H2:=⟨_,rfl⟩
 have sw0:SW C H H2 y gl d pl ([],[]):=by
  have c12:Ch [] H1 H2:=by rw [← e2]; exact Ch.new hpl _
  exact ⟨c01.trans c12,rg1.ch c12,[],by rw [← e2]; exact zaaf,rfl,fun i p e=>by simp at e⟩
 rw [e2]
 have hn2:=sw0.ch.get hn (by simp)
 have hg2:=sw0.ch.get hg (by simp)
 have fN:=fsn gl d
 have fG:=fs_g gl d
 walk_at "rd"
 clear e2 rg1 c1 hpl fgl fd' i1
 refine zaoq (xs:=xs) (fun i σ H'=>SW C H H' y gl d pl (shr (net.take i))∧∃ u v,σ=[some (.ref nt),some (.ref y),some (.ref pl),u,v]) ⟨sw0,_,_,rfl⟩ ?_ ?_ ?_
 ·rintro i σ H' hi ⟨sw,_⟩
  exact SqT.of (sw.ch.get hg (by simp))
 ·clear sw0 hn2 hg2
  rintro i x σ H' hx ⟨sw,u,v,rfl⟩
  have hi:i < net.length:=by rw [← lx]; exact (List.getElem?_eq_some_iff.mp hx).1
  obtain ⟨g,hgi⟩:∃ g,net[i]?=some g:=⟨_,List.getElem?_eq_getElem hi⟩
  obtain ⟨p,ep,hp⟩:=gg.at_ i g hgi
  rw [hx] at ep
  cases ep
  have hp1:H' p=some (.tup g.vs):=sw.ch.get hp (by simp)
  have si:=SI.all ok i (by omega)
  have okg:=ok i g hgi
  rw [zag3 hgi]
  generalize shr (net.take i)=s at *
  obtain ⟨rs,ev⟩:=zaez g
  have hp2:H' p=some (.tup (.str g.wd :: rs)):=by rw [← ev]; exact hp1
  have hw:=zao8 g
  have ls:=si.sz
  walk_at "rd"
  rename_i T hT
  have cT:=Ch.new (W:=[]) hT (.tup [.str "in",.str "keep"])
  have sw1:=sw.same cT
  have hp3:=cT.get hp2 (by simp)
  have hp4:=cT.get hp1 (by simp)
  show if inV (.str g.wd) [.str "in",.str "keep"]=true then _ else _
  rw [hw]
  generalize upd H' T (HO.tup [.str "in",.str "keep"])=H1 at sw1 hp3 hp4 ⊢
  clear sw hp1 hp2
  obtain ⟨⟨dy1,hy1⟩,⟨ys,hgl,ggl⟩,_⟩:=id sw1.sh
  obtain ⟨ps,hpl,pp⟩:=sw1.pl
  have lp:=pp.len
  have ln:=si.len
  have l3:=ggl.len
  have fl:=fN.l
  unfold stp
  cases hs:g.src with
  | true =>
   refine iteT ?_
   rw [if_pos rfl]
   have sl:=sw1.sh.lay hgl hp4 hs
   have hplL:upd H1 gl (.lst (ys++[.ref p])) pl=some (.lst ps):=zac1 npg hpl
   have ppL:=pp.tu (Tu.lst (Ch.put (o:=.lst (ys++[.ref p]))) hgl)
   have chL:=Ch.own (o:=.lst (ys++[.ref p])) sf.g sw1.ch
   have hpL:upd H1 gl (.lst (ys++[.ref p])) p=some (.tup (.str g.wd :: rs)):=zac1 (zadb hp3 hgl (by intro z; cases z)) hp3
   clear hp4
   walk_at "rd"
   rename_i T2 hT2
   refine ⟨?_,_,_,rfl⟩
   exact SW.put (p:=(s.1.length,g.wd)) (chL.trans (Ch.new hT2 _)) (sl.ch (Ch.new hT2 _)) (zacf hT2 hplL) (ppL.tu (Tu.new _ hT2)) sf npg (by rw [zaaf,l3]; rfl)
  | false =>
   refine iteF ?_
   rw [if_neg (by simp)]
   clear hp3
   have fo:=zadt okg hs
   have fl3:g.feeds.length≤3:=by cases g <;> simp [Gt.feeds]
   walk_at "rd"
   rename_i fr H2 c2 nfr hfr
   have sw2:=sw1.same c2
   have hp5:=c2.get hp4 (by simp)
   have hpl2:=c2.get hpl (by simp)
   clear hp4 hpl sw1 hgl ggl hy1
   refine zac4 (g.feeds.map nV) (fun j zs σ H'=>H'=H2∧zs=(g.feeds.take j).map (fun a=>nV (rho s.2 a))∧∃ u,σ=[u,some (.ref pl)]) (by rw [List.length_map,sizeLine_eq]; omega) ⟨rfl,rfl,_,rfl⟩ ?_ ?_ ?_
   ·rintro j zs σ H' hj ⟨rfl,rfl,_⟩
    exact ⟨by simp [List.length_take]; omega,SqL.of hfr⟩
   ·rintro j zs σ H' x hx ⟨rfl,rfl,u,rfl⟩
    rw [List.getElem?_map] at hx
    obtain ⟨a,ha,rfl⟩:=Option.map_eq_some_iff.mp hx
    obtain ⟨pr,e1,e2,e3⟩:=si.rho (fo a (List.mem_of_getElem? ha))
    obtain ⟨ap,e4,e5⟩:=(pp.tu (Tu.same c2)).at_ a pr e1
    have at4:=zacx e4
    unfold nV
    walk_at "rd"
    refine ⟨?_,_,rfl⟩
    rw [List.take_add_one,ha]
    simp [e2,nV]
   ·rintro zs σ H' ⟨rfl,rfl,_⟩
    rw [List.length_map,List.take_length]
    have lr:∀ a∈g.feeds,rho s.2 a < s.1.length:=fun a ha=>by obtain ⟨pr,e1,e2,e3⟩:=si.rho (fo a ha); rw [e2]; exact e3
    intro D hD
    have cD:=Ch.new (W:=[]) hD (.lst (g.feeds.map fun a=>nV (rho s.2 a)))
    have sw3:=sw2.same cD
    have hp6:=cD.get hp5 (by simp)
    have hf6:upd H' D (.lst (g.feeds.map fun a=>nV (rho s.2 a))) D=_:=zaaf
    have hpl3:=cD.get hpl2 (by simp)
    have pp3:=pp.tu (Tu.same (c2.trans cD))
    generalize upd H' D (HO.lst (g.feeds.map fun a=>nV (rho s.2 a)))=H3 at sw3 hp6 hf6 hpl3 pp3 ⊢
    clear sw2 hp5 hpl2 cD hfr
    have sh3:=sw3.sh
    have sz9:s.1.length≤900:=by omega
    obtain ⟨gs3,prs3⟩:=s
    refine ⟨y,p,D,gl,d,gs3,g,rho prs3,rfl,sh3,hp6,hs,hf6,lr,sz9,⟨fun r H4 c4 hr4 s4=>?_⟩⟩
    have npd:pl≠d:=by obtain ⟨kvs,hd,_⟩:=sh3.n; exact zadb hpl3 hd (by intro z; cases z)
    have hpl4:=c4.get hpl3 (by simpa using ⟨npg,npd⟩)
    have pp4:=pp3.tu (sh3.tu c4)
    have ch4:=Ch.two sw3.ch c4 sf.g sf.d
    walk_at "rd"
    refine ⟨?_,_,_,rfl⟩
    exact SW.put (p:=(gpair gs3 (rho prs3) g).2) ch4 s4 hpl4 pp4 sf npg hr4
 ·clear sw0 hn2 hg2
  rintro σ H3 ⟨sw,u,v,rfl⟩
  rw [lx,List.take_length] at sw
  have si:=SI.all ok net.length (Nat.le_refl _)
  rw [List.take_length] at si
  have hn3:=sw.ch.get hn (by simp)
  have hg3:=sw.ch.get hg (by simp)
  have ch3:=sw.ch
  obtain ⟨⟨dy3,hy3⟩,⟨ys3,hgl3,ggl3⟩,_⟩:=id sw.sh
  obtain ⟨ps,hpl,pp⟩:=sw.pl
  have lp:=pp.len
  have ln:=si.len
  have lz:=si.sz
  unfold gsF at q
  generalize shr net=s at *
  walk_at "rd"
  refine zafg (xs:=xs) (ys:=ps) (fun i σ H'=>∃ ys,H' gl=some (.lst ys)∧Gs H' (refd net s.2 s.1 i) ys∧Ch [] H H'∧Ch [gl] H3 H'∧∃ u v,σ=[some (.ref nt),some (.ref y),some (.ref pl),u,v]) ⟨ys3,hgl3,ggl3,ch3,Ch.refl _ _,_,_,rfl⟩ ?_ ?_ ?_
  ·rintro i σ H' hi ⟨ys,h1,h2,h3,h4,_⟩
   exact ⟨SqT.of (h3.get hg (by simp)),SqL.of (h4.get hpl (by simpa using npg))⟩
  ·rintro i x z σ H' T hx hz ⟨ys,h1,h2,h3,h4,u,v,rfl⟩ hT
   have hi:i < net.length:=by rw [← lx]; exact (List.getElem?_eq_some_iff.mp hx).1
   obtain ⟨g,hgi⟩:∃ g,net[i]?=some g:=⟨_,List.getElem?_eq_getElem hi⟩
   obtain ⟨pr,hpi⟩:∃ pr,s.2[i]?=some pr:=⟨_,List.getElem?_eq_getElem (by omega)⟩
   obtain ⟨p,ep,hp⟩:=gg.at_ i g hgi
   obtain ⟨pa,ea,ha⟩:=(pp.tu (Tu.lst h4 hgl3)).at_ i pr hpi
   rw [hx] at ep
   cases ep
   rw [hz] at ea
   cases ea
   have cT:=Ch.new (W:=[]) hT (.tup [.ref p,.ref pa])
   have hT1:upd H' T (.tup [.ref p,.ref pa]) T=_:=zaaf
   have ha1:=cT.get ha (by simp)
   have hp1:=cT.get (h3.get hp (by simp)) (by simp)
   have hgl1:=cT.get h1 (by simp)
   have gg1:=h2.tu (Tu.same cT)
   have h31:=h3.trans cT
   have h41:=h4.trans (Ch.wk cT)
   have hpl1:=h41.get hpl (by simpa using npg)
   have pp1:=pp.tu (Tu.lst h41 hgl3)
   have hy1:=h41.get hy3 (by simpa using zadb hy3 hgl3 (by intro z; cases z))
   rw [zah8 hgi hpi]
   generalize upd H' T (HO.tup [.ref p,.ref pa])=H1 at *
   clear h1 h2 h3 h4 hT cT ha
   obtain ⟨rs,ev⟩:=zaez g
   obtain ⟨wd,rs2,ev2,hk⟩:=zah4 g
   rw [ev] at ev2
   have hwk:decide (V.str g.wd=V.str "keep")=g.isKeep:=by cases ev2; exact hk
   have lr:=si.lt i pr hpi
   have lgs:=gg1.len
   rw [zao7] at lgs
   cases hkk:g.isKeep with
   | false =>
    have er:ref1 s.2 (refd net s.2 s.1 i) (g,pr)=refd net s.2 s.1 i:=by cases g <;> first | rfl | (cases hkk)
    rw [hkk] at hwk
    have hp2:H1 p=some (.tup (.str g.wd :: rs)):=by rw [← ev]; exact hp1
    clear hp1
    rw [er]
    walk_at "rd"
    rw [hwk]
    refine iteF ?_
    exact ⟨ys,hgl1,gg1,h31,h41,_,_,rfl⟩
   | true =>
    obtain ⟨ff,a,rfl⟩:∃ ff a,g=.keep ff a:=by cases g <;> first | exact ⟨_,_,rfl⟩ | (cases hkk)
    have hp2:H1 p=some (.tup [.str "keep",.int ff,.int a]):=hp1
    obtain ⟨_,_,la⟩:0≤ff∧ff < 2∧a < net.length:=ok i _ hgi
    obtain ⟨pr2,e1,e2,e3⟩:=si.rho la
    obtain ⟨ap,e4,e5⟩:=pp1.at_ a pr2 e1
    have at4:=zacx e4
    have hN:ixN ys.length (pr.1:Int)=some pr.1:=by unfold ixN; rw [if_pos (by omega),if_pos (by omega)]; exact congrArg some (Int.toNat_natCast _)
    have er:ref1 s.2 (refd net s.2 s.1 i) (.keep ff a,pr)=(refd net s.2 s.1 i).set pr.1 (.keep ff pr2.1):=by show List.set _ _ _=_; rw [e2]
    rw [er]
    clear hp1
    unfold nV at *
    walk_at "rd"
    rename_i T2 hT2
    exact ⟨(gg1.tu (Tu.new _ hT2)).set (g:=.keep ff pr2.1) (zacf hT2 hgl1) zaaf,Ch.own sf.g (h31.trans (Ch.new hT2 _)),(h41.trans (Ch.new hT2 _)).trans Ch.put,_,_,rfl⟩
  ·rintro σ H5 ⟨ys,h1,h2,h3,h4,u,v,rfl⟩
   have hy5:=h4.get hy3 (by simpa using zadb hy3 hgl3 (by intro z; cases z))
   have hpl5:=h4.get hpl (by simpa using npg)
   have pp5:=pp.tu (Tu.lst h4 hgl3)
   have lm:min xs.length ps.length=net.length:=by omega
   rw [lm] at h2
   walk_at "rd"
   rename_i R hR
   exact q R gl pl ys ps _ (h3.trans (Ch.new hR _)) zaaf (zacf hR h1) (h2.tu (Tu.new _ hR)) (zacf hR hpl5) (pp5.tu (Tu.new _ hR))
end
end

section
local macro_rules | `(tactic| walk_at "user")=>`(tactic| first
 | (apply zaev; (focus walk_at "get"); (focus with_reducible assumption))
 | (apply zaew; (focus walk_at "get"); (focus with_reducible assumption))
 | (apply dputI; (focus walk_at "get"); (focus walk_at "arith")))
def wput (W:Nat→Bool) (n:Nat):Nat→Bool:=fun m=>if m=n then true else W m
def unw (N:Nat) (W:Nat→Bool):Nat:=(List.range N).countP fun m=>!W m
theorem zakg {W:Nat→Bool}{n:Nat} (h:W n=false):∀ l:List Nat,l.Nodup→n∈l→(l.countP fun m=>!wput W n m) + 1=l.countP fun m=>!W m
 | [],_,m=>by cases m
 | x :: l,nd,m=>by
  rw [List.countP_cons,List.countP_cons]
  obtain ⟨h1,h2⟩:=List.nodup_cons.mp nd
  by_cases e:x=n
  ·subst e
   have:(l.countP fun m=>!wput W x m)=l.countP fun m=>!W m:=by
    refine List.countP_congr fun y hy=>?_
    have:y≠x:=fun z=>h1 (z ▸ hy)
    simp [wput,this]
   rw [this]
   simp [wput,h]
  ·have ih:=zakg h l h2 (by rcases List.mem_cons.mp m with z | z; exact absurd z.symm e; exact z)
   have:wput W n x=W x:=by simp [wput,e]
   rw [this]
   omega
theorem zamv {N n:Nat}{W:Nat→Bool} (h:W n=false) (hn:n < N):unw N (wput W n) + 1=unw N W:=zakg h _ List.nodup_range (List.mem_range.mpr hn)
structure DW (N:Nat) (W:Nat→Bool) (kvs:List (Key × V)):Prop where
 len:kvs.length + unw N W≤N
 val:∀ n:Nat,valV kvs (.inl (n:Int))=if W n then some (.bl true) else none
theorem DW.nil (N:Nat):DW N (fun _=>false) []:=⟨by show 0 + unw N _≤N; unfold unw; have:=List.countP_le_length (p:=fun m=>!(fun _=>false) m) (l:=List.range N); simp at this ⊢,fun n=>rfl⟩
theorem DW.put {N n:Nat}{W:Nat→Bool}{kvs:List (Key × V)} (h:DW N W kvs) (hw:W n=false) (hn:n < N):DW N (wput W n) (putK kvs (.inl (n:Int)) (.bl true)):=by
 refine ⟨?_,fun m=>?_⟩
 ·have:=zac5 kvs (.inl (n:Int)) (.bl true)
  have:=zamv hw hn
  have:=h.len
  omega
 ·rw [zaff]
  by_cases e:m=n
  ·subst e; simp [wput]
  ·rw [if_neg (fun z=>e (by have:=Sum.inl.inj z; omega)),h.val]
   simp [wput,e]
inductive Wn (gs:List Gt) (os:List Nat):Nat→Prop where
 | inp {n:Nat}:gs[n]?=some .inp→Wn gs os n
 | out {n:Nat}:n∈os→Wn gs os n
 | fed {n m:Nat}{h:Gt}:Wn gs os m→gs[m]?=some h→n∈h.feeds→Wn gs os n
structure Wd (gs:List Gt) (os:List Nat) (W:Nat→Bool):Prop where
 lt:∀ n,W n=true→n < gs.length
 ins:∀ n:Nat,gs[n]?=some .inp→W n=true
 out:∀ o∈os,W o=true
 cl:∀ (n:Nat) (g:Gt) (a:Nat),W n=true→gs[n]?=some g→a∈g.feeds→W a=true
 of:∀ (n:Nat) (g:Gt),W n=true→gs[n]?=some g→g≠.inp→n∈os∨∃ (m:Nat) (h:Gt),W m=true∧gs[m]?=some h∧n∈h.feeds
 rc:∀ n,W n=true→Wn gs os n
structure Wy (gs:List Gt) (os:List Nat) (W:Nat→Bool) (vs:List Nat):Prop where
 lt:∀ n,W n=true→n < gs.length
 ins:∀ n:Nat,gs[n]?=some .inp→W n=true
 out:∀ o∈os,W o=true∨o∈vs
 cl:∀ (n:Nat) (g:Gt) (a:Nat),W n=true→gs[n]?=some g→a∈g.feeds→W a=true∨a∈vs
 of:∀ (n:Nat) (g:Gt),W n=true→gs[n]?=some g→g≠.inp→n∈os∨∃ (m:Nat) (h:Gt),W m=true∧gs[m]?=some h∧n∈h.feeds
 ws:∀ n∈vs,n < gs.length∧(n∈os∨∃ (m:Nat) (h:Gt),W m=true∧gs[m]?=some h∧n∈h.feeds)
 rc:∀ n,W n=true→Wn gs os n
 wr:∀ n∈vs,Wn gs os n
theorem Wy.done {gs:List Gt}{os:List Nat}{W:Nat→Bool} (h:Wy gs os W []):Wd gs os W :=
 ⟨h.lt,h.ins,fun o m=>(h.out o m).resolve_right (by simp),fun n g a x y z=>(h.cl n g a x y z).resolve_right (by simp),h.of,h.rc⟩
theorem Wy.skip {gs:List Gt}{os:List Nat}{W:Nat→Bool}{ws:List Nat}{n:Nat} (h:Wy gs os W (ws++[n])) (hn:W n=true):Wy gs os W ws:=by
 refine ⟨h.lt,h.ins,fun o m=>?_,fun k g a x y z=>?_,h.of,fun k m=>h.ws k (List.mem_append_left _ m),h.rc,fun k m=>h.wr k (List.mem_append_left _ m)⟩
 ·rcases h.out o m with e | e
  ·exact .inl e
  ·rcases List.mem_append.mp e with e | e
   ·exact .inr e
   ·exact .inl (by rw [List.mem_singleton.mp e]; exact hn)
 ·rcases h.cl k g a x y z with e | e
  ·exact .inl e
  ·rcases List.mem_append.mp e with e | e
   ·exact .inr e
   ·exact .inl (by rw [List.mem_singleton.mp e]; exact hn)
theorem zaen {W:Nat→Bool}{n m:Nat} (h:W m=true):wput W n m=true:=by unfold wput; split <;> simp [h]
theorem zafm {W:Nat→Bool}{n m:Nat} (h:wput W n m=true):m=n∨W m=true:=by
 unfold wput at h
 split at h
 ·exact .inl ‹_›
 ·exact .inr h
theorem Wy.take {gs:List Gt}{os:List Nat}{W:Nat→Bool}{ws:List Nat}{n:Nat}{g:Gt} (h:Wy gs os W (ws++[n])) (hg:gs[n]?=some g) (hf:∀ a∈g.feeds,a < gs.length):Wy gs os (wput W n) (ws++g.feeds):=by
 have wn:wput W n n=true:=by simp [wput]
 have pv:∀ {k:Nat},(k∈os∨∃ (m:Nat) (h:Gt),W m=true∧gs[m]?=some h∧k∈h.feeds)→(k∈os∨∃ (m:Nat) (h:Gt),wput W n m=true∧gs[m]?=some h∧k∈h.feeds):=fun z=>z.imp id fun ⟨m,h,a,b⟩=>⟨m,h,zaen a,b⟩
 refine ⟨fun k z=>?_,fun k z=>zaen (h.ins k z),fun o m=>?_,fun k g' a x y z=>?_,fun k g' x y z=>?_,fun k m=>?_,fun k z=>?_,fun k m=>?_⟩
 ·rcases zafm z with rfl | z
  ·exact (List.getElem?_eq_some_iff.mp hg).1
  ·exact h.lt k z
 ·rcases h.out o m with e | e
  ·exact .inl (zaen e)
  ·rcases List.mem_append.mp e with e | e
   ·exact .inr (List.mem_append_left _ e)
   ·exact .inl (by rw [List.mem_singleton.mp e]; exact wn)
 ·rcases zafm x with rfl | x
  ·rw [hg] at y
   cases y
   exact .inr (List.mem_append_right _ z)
  ·rcases h.cl k g' a x y z with e | e
   ·exact .inl (zaen e)
   ·rcases List.mem_append.mp e with e | e
    ·exact .inr (List.mem_append_left _ e)
    ·exact .inl (by rw [List.mem_singleton.mp e]; exact wn)
 ·rcases zafm x with rfl | x
  ·exact pv (h.ws k (by simp)).2
  ·exact pv (h.of k g' x y z)
 ·rcases List.mem_append.mp m with e | e
  ·exact ⟨(h.ws k (List.mem_append_left _ e)).1,pv (h.ws k (List.mem_append_left _ e)).2⟩
  ·exact ⟨hf k e,.inr ⟨n,g,wn,hg,e⟩⟩
 ·rcases zafm z with rfl | z
  ·exact h.wr k (by simp)
  ·exact h.rc k z
 ·rcases List.mem_append.mp m with e | e
  ·exact h.wr k (List.mem_append_left _ e)
  ·exact .fed (h.wr n (by simp)) hg e
theorem Wy.start {gs:List Gt}{os:List Nat}{W:Nat→Bool} (hW:∀ n,W n=true↔gs[n]?=some .inp) (ho:∀ o∈os,o < gs.length):Wy gs os W os:=by
 refine ⟨fun n z=>(List.getElem?_eq_some_iff.mp ((hW n).mp z)).1,fun n z=>(hW n).mpr z,fun o m=>.inr m,fun n g a x y z=>?_,fun n g x y z=>?_,fun n m=>⟨ho n m,.inl m⟩,fun n z=>.inp ((hW n).mp z),fun n m=>.out m⟩
 ·rw [(hW n).mp x] at y
  cases y
  cases z
 ·rw [(hW n).mp x] at y
  cases y
  exact absurd rfl z
theorem Wd.le {gs:List Gt}{os:List Nat}{W W':Nat→Bool} (h:Wd gs os W) (h':Wd gs os W') {n:Nat} (z:W n=true):W' n=true:=by
 have r:=h.rc n z
 clear z
 induction r with
 | inp e=>exact h'.ins _ e
 | out m=>exact h'.out _ m
 | fed _ e m ih=>exact h'.cl _ _ _ ih e m
theorem Wd.un {gs:List Gt}{os:List Nat}{W W':Nat→Bool} (h:Wd gs os W) (h':Wd gs os W'):W=W':=funext fun n=>by
 cases e:W n with
 | true=>exact (h.le h' e).symm
 | false =>
  cases e':W' n with
  | false=>rfl
  | true=>rw [h'.le h e'] at e; cases e
section
variable {P:Program}{w:World}{K:PySem.W.Frag}{mg:Str→Option Value}{base:Heap}{f:Addr}{fd:FuncData}{k:Nat}
theorem av25:AF (defScope (top 25)) ["gates", "outs", "wanted", "number", "gate", "waiting"]:=⟨by decide +kernel⟩
theorem gl25:AG (defScope (top 25)) ["enumerate", "list", "len", "feeds_of"]:=⟨by decide +kernel⟩
def spWan:Sp:=fun vs H Q _=>∃ (gl ol:Addr) (gs:List Gt) (xs:List V) (os:List Nat),vs=[.ref gl,.ref ol]∧H gl=some (.lst xs)∧Gs H gs xs∧H ol=some (.lst (os.map nV))∧(∀ o∈os,o < gs.length)∧(∀ (i:Nat) (g:Gt),gs[i]?=some g→∀ a∈g.feeds,a < gs.length)∧gs.length≤200∧os.length≤200 ∧
 ∀ (d:Addr) (W:Nat→Bool) (kvs:List (Key × V)) (H':Hp),Ch [] H H'→H' d=some (.dK kvs)→DW gs.length W kvs→Wd gs os W→Q (.ref d) H'
theorem scWan:FnScope ["gates", "outs", "wanted", "number", "gate", "waiting"] ["gates", "outs"] (defScope (top 25)):=⟨rfl,rfl,rfl,by decide +kernel,rfl,by decide +kernel,by decide +kernel⟩
theorem zaub (F:Fun K "wanted_of" "wanted_of" (top 25) f fd) (Dfeeds_of:DefOk P w K mg base CX0 k "feeds_of" ["gate"] spFeeds) (z_enumerate:mg "enumerate" = none) (z_list:mg "list" = none) (z_len:mg "len" = none):FnOk P w K mg base CX0 (k + 1) f fd ["gates", "outs"] spWan:=by
 have nd:=scWan.nd
 refine F.ok scWan (fun vs H Q E h=>by obtain ⟨gl,ol,gs,xs,os,rfl,_⟩:=h; rfl) (fun cdv A outer s0 H vs Q E hr h=>?_)
 obtain ⟨gl,ol,gs,xs,os,rfl,hg,gg,ho,lo,lf,zg,zo,q⟩:=h
 have hu:=zaly hr
 refine ⟨_,(Pr.h (zaad (zaa1 (i:=2) nd rfl (av25.l 2 rfl) zah1) (zaad (zaca PassesOwn.never rfl (zafk .list (gl25.g 0 rfl) z_enumerate (zaaa (qv av25 0 rfl) zaab zaac)) (zac7 rfl (zaa5 (zaau (i:=3) nd rfl (av25.l 3 rfl)) (zaa5 (zaau (i:=4) nd rfl (av25.l 4 rfl)) zacc))) (zaae (zaav (zaar zabh (zaat zaa0 (qv av25 4 rfl) zaag (fun _ _=>rfl)) zaas (nomark _)) (zaae (zafl hu (qv av25 2 rfl) (qv av25 3 rfl) zabl rfl)) zaal))) (zabs (zaa1 (i:=5) nd rfl (av25.l 5 rfl) (zabd zab2 (gl25.g 1 rfl) z_list zab7 (zaaa (qv av25 1 rfl) zaab zaac) zab8 zab9)) (zaad (zal9 PassesOwn.never (zaar zan9 (zaah zaap (gl25.g 2 rfl) z_len PySem.boot_len (zaaa (qv av25 5 rfl) zaab zaac) zaba zabb) zaag (nomark _)) (zaad (zaa1 (i:=3) nd rfl (av25.l 3 rfl) (zare (qv av25 5 rfl))) (zaae (zaav (zaeu hu (qv av25 3 rfl) (qv av25 2 rfl)) (zaad (zafl hu (qv av25 2 rfl) (qv av25 3 rfl) zabl rfl) (zaae (zacp (zado PySem.F.plainAttrs_list PySem.F.slot_list_extend PySem.F.type_list_extend zalv (qv av25 5 rfl) (zaaa (zaai Dfeeds_of hr (gl25.g 3 rfl) pass0 (zaaa (zaat zaaw (qv av25 0 rfl) (qv av25 3 rfl) (fun _ _=>rfl)) zaab zaaq) zadu) zaab zabi))))) zaal)))) (zaae (zaak (qv av25 2 rfl)))))))),?_⟩
 (try dsimp only [cxOf])
 have lx:=gg.len
 walk_at "rd"
 rename_i d hd
 refine zaf1 (xs:=xs) (fun i σ H'=>∃ W kvs u v,σ=[some (.ref gl),some (.ref ol),some (.ref d),u,v,none]∧Ch [] H H'∧H' d=some (.dK kvs)∧DW gs.length W kvs∧∀ n,W n=true↔n < i∧gs[n]?=some .inp) ⟨_,[],_,_,rfl,Ch.new hd _,zaaf,DW.nil _,fun n=>by simp⟩ ?_ ?_ ?_
 ·rintro i σ H' hi ⟨W,kvs,u,v,rfl,c,_⟩
  exact SqL.of (c.get hg (by simp))
 ·rintro i x σ H' T hx ⟨W,kvs,u,v,rfl,c,hk,dw,hW⟩ hT
  have hi:i < gs.length:=by rw [← lx]; exact (List.getElem?_eq_some_iff.mp hx).1
  obtain ⟨g,hgi⟩:∃ g,gs[i]?=some g:=⟨_,List.getElem?_eq_getElem hi⟩
  obtain ⟨p,ep,hp⟩:=gg.at_ i g hgi
  rw [hx] at ep
  cases ep
  have hp1:H' p=some (.tup g.vs):=c.get hp (by simp)
  obtain ⟨wd,rs,ev,hin⟩:=zag0 g
  rw [ev] at hp1
  have kl:=dw.len
  walk_at "rd"
  rw [hin]
  cases hh:g.isIn with
  | true =>
   have eg:g=.inp:=by cases g <;> first | rfl | (cases hh)
   subst eg
   have wi:W i=false:=by
    cases z:W i with
    | false=>rfl
    | true=>have:=((hW i).mp z).1; omega
   refine iteT ?_
   walk_at "rd"
   refine ⟨dw.put wi hi,fun n=>?_⟩
   by_cases e:n=i
   ·subst e; simp [wput,hgi]
   ·have:wput W i n=W n:=by simp [wput,e]
    rw [this,hW n]
    constructor <;> rintro ⟨a,b⟩ <;> exact ⟨by omega,b⟩
  | false =>
   refine iteF ?_
   refine ⟨W,kvs,_,_,rfl,c.trans (Ch.new hT _),zacf hT hk,dw,fun n=>?_⟩
   rw [hW n]
   constructor
   ·rintro ⟨a,b⟩; exact ⟨by omega,b⟩
   ·rintro ⟨a,b⟩
    refine ⟨?_,b⟩
    by_cases e:n=i
    ·subst e; rw [hgi] at b; cases b; cases hh
    ·omega
 ·rintro σ H1 ⟨W,kvs,u,v,rfl,c,hk,dw,hW⟩
  have hW:∀ n,W n=true↔gs[n]?=some .inp:=fun n=>by
   rw [hW n,lx]
   exact ⟨fun h=>h.2,fun h=>⟨(List.getElem?_eq_some_iff.mp h).1,h⟩⟩
  have wy0:=Wy.start hW lo
  have ho1:=c.get ho (by simp)
  have kl1:=dw.len
  walk_at "rd"
  refine zacr (fun σ H'=>∃ wl,σ=[some (.ref gl),some (.ref ol),some (.ref d),u,v,some (.ref wl)]∧Ch [] H H'∧H' d=some (.dK kvs)∧H' wl=some (.lst (os.map nV))∧H wl=none∧d≠wl) ?_ ?_
  ·walk_at "rd"
   rename_i wl hwl
   exact ⟨chFree c hwl,zaa7 hk hwl⟩
  rintro σ H2 ⟨wl,rfl,c2,hk2,hw2,fwl,ndw⟩
  refine ⟨(fun m σ H'=>∃ (W:Nat→Bool) (kvs:List (Key × V)) (ws:List Nat) (u3 u4:Option V),σ=[some (.ref gl),some (.ref ol),some (.ref d),u3,u4,some (.ref wl)]∧Ch [] H H'∧H' d=some (.dK kvs)∧DW gs.length W kvs∧Wy gs os W ws∧H' wl=some (.lst (ws.map nV))∧m=ws.length + 4 * unw gs.length W∧m≤1000),⟨_,W,kvs,os,_,_,rfl,c2,hk2,dw,wy0,hw2,rfl,by omega⟩,?_⟩
  rintro m σ H1 ⟨W,kvs,ws,u3,u4,rfl,c,hk,dw,wy,hw,rfl,hm⟩
  walk_at "rd"
  refine ite2 (fun hc=>?_) (fun hc=>?_)
  ·refine ⟨_,fun σ' H' z=>z,?_⟩
   have hne:ws≠[]:=by rintro rfl; simp at hc
   obtain ⟨ws,n,rfl⟩:∃ ws' n,ws=ws'++[n]:=⟨ws.dropLast,ws.getLast hne,(List.dropLast_concat_getLast hne).symm⟩
   have hla:((ws++[n]).map nV)[((ws++[n]).map nV).length - 1]?=some (nV n):=by simp
   have edl:((ws++[n]).map nV).dropLast=ws.map nV:=by rw [List.map_append]; exact List.dropLast_concat
   have cP:=Ch.own (o:=.lst (ws.map nV)) fwl c
   have hkP:upd H1 wl (.lst (ws.map nV)) d=some (.dK kvs):=zac1 ndw hk
   have hwP:upd H1 wl (.lst (ws.map nV)) wl=some (.lst (ws.map nV)):=zaaf
   refine ⟨_,rfl,.inl ⟨rfl,_,SqL.of hw⟩,wl,_,_,rfl,rfl,hw,hla,?_⟩
   rw [edl]
   generalize upd H1 wl (.lst (ws.map nV))=H3 at cP hkP hwP ⊢
   clear hk hw c c2 hk2 hw2
   have nlt:=(wy.ws n (by simp)).1
   obtain ⟨g,egn⟩:∃ g,gs[n]?=some g:=⟨_,List.getElem?_eq_getElem nlt⟩
   have dv:=dw.val n
   have kl:=dw.len
   rw [List.length_append,List.length_singleton] at hm ⊢
   cases hW:W n with
   | true =>
    rw [hW] at dv
    have dv:valV kvs (.inl (n:Int))=some (.bl true):=dv
    unfold nV
    walk_at "rd"
    exact ⟨(by omega:ws.length + 4 * unw gs.length W < ws.length + 1 + 4 * unw gs.length W),W,kvs,ws,_,_,rfl,cP,hkP,dw,wy.skip hW,hwP,rfl,by omega⟩
   | false =>
    rw [hW] at dv
    have dv:valV kvs (.inl (n:Int))=none:=dv
    obtain ⟨p,ep,hp⟩:=gg.at_ n g egn
    have hp3:=cP.get hp (by simp)
    have hg3:=cP.get hg (by simp)
    have at1:=zacx ep
    have fl3:g.feeds.length≤3:=by cases g <;> simp [Gt.feeds]
    have up:=zamv hW nlt
    have np:p≠d:=zadb hp3 hkP (by intro z; cases z)
    have ng:gl≠d:=zadb hg3 hkP (by intro z; cases z)
    have cD:=Ch.own (o:=.dK (putK kvs (.inl (n:Int)) (.bl true))) hd cP
    unfold nV
    walk_at "rd"
    rename_i r H4 c4 nr hr4
    exact ⟨(by simp; omega:(ws++g.feeds).length + 4 * unw gs.length (wput W n) < ws.length + 1 + 4 * unw gs.length W),wput W n,_,ws++g.feeds,_,_,rfl,Ch.own fwl (cD.trans c4),zac1 ndw (c4.get zaaf (by simp)),dw.put hW nlt,wy.take egn (lf n g egn),by rw [zaaf,List.map_append]; rfl,rfl,by simp; omega⟩
  ·have hnil:ws=[]:=by
    cases ws with
    | nil=>rfl
    | cons _ _=>exact absurd hc (by simp)
   subst hnil
   walk_at "rd"
   exact q d W kvs _ c hk dw wy.done
end
end

section
structure RF (net:List Gt) (s:SS) (i:Nat) (gs:List Gt):Prop where
 len:gs.length=s.1.length
 oth:∀ (n:Nat) (g:Gt),s.1[n]?=some g→g.isKeep=false→gs[n]?=some g
 kee:∀ (n:Nat) (f:Int) (a:Nat),s.1[n]?=some (.keep f a)→∃ b,gs[n]?=some (.keep f b)
 fed:∀ (j:Nat) (f:Int) (a:Nat) (p:Nat × Str),j < i→net[j]?=some (.keep f a)→s.2[j]?=some p→gs[p.1]?=some (.keep f (rho s.2 a))
 cnt:∀ t:Gt→Bool,(∀ f a b,t (.keep f a)=t (.keep f b))→gs.countP t=s.1.countP t
theorem RF.all {net:List Gt}{s:SS} (si:SI net net.length s):∀ i,i≤net.length→RF net s i (refd net s.2 s.1 i)
 | 0,_=>⟨rfl,fun n g h _=>h,fun n f a h=>⟨a,h⟩,fun j f a p h=>absurd h (Nat.not_lt_zero _),fun t _=>rfl⟩
 | i + 1,hi=>by
  have r:=RF.all si i (by omega)
  have e:net[i]?=some net[i]:=List.getElem?_eq_getElem (by omega)
  have e2:s.2[i]?=some (s.2[i]'(by rw [si.len]; omega)):=List.getElem?_eq_getElem (by rw [si.len]; omega)
  generalize net[i]=g at e
  generalize s.2[i]'(by rw [si.len]; omega)=p at e2
  rw [zah8 e e2]
  by_cases hk:∃ f a,g=.keep f a
  ·obtain ⟨f,a,rfl⟩:=hk
   have h0:=si.src i _ p e e2 rfl
   obtain ⟨b0,hb0⟩:=r.kee p.1 f a h0
   have hl:=(List.getElem?_eq_some_iff.mp hb0).1
   show RF net s (i + 1) ((refd net s.2 s.1 i).set p.1 (.keep f (rho s.2 a)))
   refine ⟨by rw [List.length_set]; exact r.len,fun n g h hg=>?_,fun n f' a' h=>?_,fun j f' a' p' hj h1 h2=>?_,fun t ht=>?_⟩
   ·have:p.1≠n:=fun z=>by rw [← z,h0] at h; cases h; cases hg
    rw [List.getElem?_set_ne this]; exact r.oth n g h hg
   ·by_cases z:p.1=n
    ·subst z
     rw [h0] at h
     cases h
     exact ⟨_,by rw [List.getElem?_set_self hl]⟩
    ·rw [List.getElem?_set_ne z]; exact r.kee n f' a' h
   ·by_cases z:j=i
    ·subst z
     rw [e] at h1
     cases h1
     rw [e2] at h2
     cases h2
     rw [List.getElem?_set_self hl]
    ·have:p.1≠p'.1:=fun y=>z (si.inj j i _ _ p' p h1 e h2 e2 rfl rfl y.symm)
     rw [List.getElem?_set_ne this]; exact r.fed j f' a' p' (by omega) h1 h2
   ·rw [zaex hb0 (ht _ _ _)]; exact r.cnt t ht
  ·have er:ref1 s.2 (refd net s.2 s.1 i) (g,p)=refd net s.2 s.1 i:=by
    cases g <;> first | rfl | exact absurd ⟨_,_,rfl⟩ hk
   rw [er]
   refine ⟨r.len,r.oth,r.kee,fun j f' a' p' hj h1 h2=>?_,r.cnt⟩
   by_cases z:j=i
   ·subst z
    rw [e] at h1
    cases h1
    exact absurd ⟨_,_,rfl⟩ hk
   ·exact r.fed j f' a' p' (by omega) h1 h2
structure LG (net:List Gt) (prs:List (Nat × Str)) (gs:List Gt):Prop where
 ok:Oks gs
 fw:∀ (n:Nat) (g:Gt),gs[n]?=some g→g.src=false→FW gs g
 un:∀ (i j:Nat) (g h:Gt),gs[i]?=some g→gs[j]?=some h→g.src=false→h.src=false→g.nf=h.nf→i=j
 ci:gs.countP Gt.isIn=net.countP Gt.isIn
 cb:gs.countP Gt.big≤net.countP Gt.big
 pl:prs.length=net.length
 pt:∀ (j:Nat) (p:Nat × Str),prs[j]?=some p→p.1 < gs.length
 sz:gs.length≤net.length
theorem RF.cn {net:List Gt}{s:SS}{i:Nat}{gs:List Gt} (r:RF net s i gs) {a:Nat} (ha:a < s.1.length):Cn gs a↔Cn s.1 a:=by
 obtain ⟨g,eg⟩:∃ g,s.1[a]?=some g:=⟨_,List.getElem?_eq_getElem ha⟩
 by_cases hk:g.isKeep=true
 ·obtain ⟨f,b,rfl⟩:∃ f b,g=.keep f b:=by cases g <;> first | exact ⟨_,_,rfl⟩ | (cases hk)
  obtain ⟨b',e'⟩:=r.kee a f b eg
  constructor <;> rintro ⟨z | z⟩
  ·rw [e'] at z; cases z
  ·rw [e'] at z; cases z
  ·rw [eg] at z; cases z
  ·rw [eg] at z; cases z
 ·have e':=r.oth a g eg (by simpa using hk)
  constructor <;> rintro ⟨z⟩ <;> refine ⟨?_⟩
  ·rw [e'] at z; rw [eg]; exact z
  ·rw [eg] at z; rw [e']; exact z
theorem RF.back {net:List Gt}{s:SS}{i:Nat}{gs:List Gt} (r:RF net s i gs) {n:Nat}{g:Gt} (h:gs[n]?=some g):(g.isKeep=false∧s.1[n]?=some g)∨∃ f a b,g=.keep f b∧s.1[n]?=some (.keep f a):=by
 have hl:n < s.1.length:=by rw [← r.len]; exact (List.getElem?_eq_some_iff.mp h).1
 obtain ⟨g',eg⟩:∃ g',s.1[n]?=some g':=⟨_,List.getElem?_eq_getElem hl⟩
 by_cases hk:g'.isKeep=true
 ·obtain ⟨f,b,rfl⟩:∃ f b,g'=.keep f b:=by cases g' <;> first | exact ⟨_,_,rfl⟩ | (cases hk)
  obtain ⟨b',e'⟩:=r.kee n f b eg
  rw [h] at e'
  exact .inr ⟨f,b,b',Option.some.inj e',eg⟩
 ·have hk:g'.isKeep=false:=by simpa using hk
  have e':=r.oth n g' eg hk
  rw [h] at e'
  cases e'
  exact .inl ⟨hk,eg⟩
theorem RF.lg {net:List Gt}{s:SS}{gs:List Gt} (ok:Oks net) (si:SI net net.length s) (r:RF net s net.length gs):LG net s.2 gs:=by
 have hn:∀ {n:Nat}{g:Gt},gs[n]?=some g→g.src=false→s.1[n]?=some g:=fun h hs=>by
  rcases r.back h with ⟨_,e⟩ | ⟨f,a,b,e,_⟩
  ·exact e
  ·rw [e] at hs; cases hs
 refine ⟨fun i g h=>?_,fun n g h hs=>?_,fun i j g g' h h' hs hs' e=>si.wf.un i j g g' (hn h hs) (hn h' hs') hs hs' e,?_,?_,si.len,fun j p h=>by rw [r.len]; exact si.lt j p h,by rw [r.len]; exact si.sz⟩
 ·by_cases hs:g.src=false
  ·exact Gt.ok_any (si.wf.ok i g (hn h hs) hs).1 hs
  ·rcases r.back h with ⟨hk,e⟩ | ⟨f,a,b,rfl,e⟩
   ·cases g <;> first | trivial | exact absurd rfl hs | (cases hk)
   ·obtain ⟨j,p,h1,h2,h3⟩:=si.kp i _ e rfl
    obtain ⟨o1,o2,o3⟩:=ok j _ h1
    have:=r.fed j f a p (List.getElem?_eq_some_iff.mp h1).1 h1 h2
    rw [h3,h] at this
    cases this
    obtain ⟨q,q1,q2,q3⟩:=si.rho o3
    exact ⟨o1,o2,by rw [q2,r.len]; exact q3⟩
 ·obtain ⟨o,fw⟩:=si.wf.ok n g (hn h hs) hs
  have hl:n < s.1.length:=(List.getElem?_eq_some_iff.mp (hn h hs)).1
  cases g <;> simp only [FW,Gt.ok,Gt.src] at *
  case not a =>
   rw [r.cn (by omega)]
   refine ⟨fw.1,fun b z=>?_⟩
   rcases r.back z with ⟨_,e⟩ | ⟨_,_,_,e,_⟩
   ·exact fw.2 b e
   ·cases e
  case and a b=>rw [r.cn (by omega),r.cn (by omega)]; exact fw
  case or a b=>rw [r.cn (by omega),r.cn (by omega)]; exact fw
  case xor a b=>rw [r.cn (by omega),r.cn (by omega)]; exact fw
  case pick a b c=>rw [r.cn (by omega),r.cn (by omega),r.cn (by omega)]; exact fw
 ·rw [r.cnt _ (fun _ _ _=>rfl),si.ci _ (fun g h=>by cases g <;> first | rfl | (cases h)),List.take_length]
 ·rw [r.cnt _ (fun _ _ _=>rfl)]
  have:=si.cb
  rwa [List.take_length] at this
theorem zamw {net:List Gt} (ok:Oks net):LG net (shr net).2 (gsF net):=by
 have si:=SI.all ok net.length (Nat.le_refl _)
 rw [List.take_length] at si
 exact RF.lg ok si (RF.all si net.length (Nat.le_refl _))
def cW (W:Nat→Bool) (n:Nat):Nat:=((List.range n).filter W).length
def kp (W:Nat→Bool) (N:Nat):List Nat:=(List.range N).filter W
def nW (W:Nat→Bool):Nat→Bool:=fun n=>!W n
theorem zadz (W:Nat→Bool) (N:Nat):kp W (N + 1)=kp W N++if W N then [N] else []:=by
 unfold kp
 rw [List.range_succ,List.filter_append]
 cases h:W N <;> simp [h]
theorem zak8 {W:Nat→Bool}{n:Nat} (h:W n=true):∀ {N:Nat},n < N→(kp W N)[cW W n]?=some n
 | 0,z=>absurd z (Nat.not_lt_zero _)
 | N + 1,z=>by
  rw [zadz]
  by_cases e:n=N
  ·subst e
   rw [h,if_pos rfl]
   show (kp W n++[n])[(kp W n).length]?=some n
   simp
  ·have:=zak8 h (N:=N) (by omega)
   rw [List.getElem?_append_left (List.getElem?_eq_some_iff.mp this).1]; exact this
theorem zars (W:Nat→Bool) (N:Nat):(kp W N).Nodup:=List.nodup_range.filter _
theorem zapy {l:List Nat} (h:l.Nodup) {i j x:Nat} (e:l[i]?=some x) (e':l[j]?=some x):i=j:=by
 exact (List.getElem?_inj (List.getElem?_eq_some_iff.mp e).1 h).mp (e.trans e'.symm)
theorem zakh {W:Nat→Bool}{N j n:Nat} (h:(kp W N)[j]?=some n):W n=true∧n < N∧j=cW W n:=by
 have m:=List.mem_of_getElem? h
 unfold kp at m
 obtain ⟨m1,m2⟩:=List.mem_filter.mp m
 exact ⟨m2,List.mem_range.mp m1,zapy (zars W N) h (zak8 m2 (List.mem_range.mp m1))⟩
theorem zart {W:Nat→Bool}{a n:Nat} (h:W a=true) (l:a < n):cW W a < cW W n:=(List.getElem?_eq_some_iff.mp (zak8 h l)).1
def rk (W:Nat→Bool) (N n:Nat):Nat:=if W n then cW W n else cW W N + cW (nW W) n
theorem rk_w {W:Nat→Bool}{N n:Nat} (h:W n=true):rk W N n=cW W n:=by unfold rk; rw [if_pos h]
def od (W:Nat→Bool) (N:Nat):List Nat:=kp W N++kp (nW W) N
theorem zaru {W:Nat→Bool}{N n:Nat} (h:n < N):(od W N)[rk W N n]?=some n:=by
 unfold od rk
 by_cases e:W n=true
 ·rw [if_pos e]
  have:=zak8 e h
  rw [List.getElem?_append_left (List.getElem?_eq_some_iff.mp this).1]; exact this
 ·rw [if_neg e,List.getElem?_append_right (by show (kp W N).length≤(kp W N).length + _; omega)]
  show (kp (nW W) N)[(kp W N).length + cW (nW W) n - (kp W N).length]?=some n
  rw [Nat.add_sub_cancel_left]
  exact zak8 (by simp [nW,e]) h
theorem zavd (W:Nat→Bool) (N:Nat):(od W N).Nodup:=by
 refine List.nodup_append.mpr ⟨zars _ _,zars _ _,fun a ha b hb e=>?_⟩
 unfold kp at ha hb
 have h1:=(List.mem_filter.mp ha).2
 have h2:=(List.mem_filter.mp hb).2
 rw [← e] at h2
 simp [nW,h1] at h2
theorem zaib (W:Nat→Bool):∀ N,(od W N).length=N
 | 0=>rfl
 | N + 1=>by
  have:=zaib W N
  unfold od at this ⊢
  rw [zadz,zadz]
  cases h:W N <;> simp [nW,h] at this ⊢ <;> omega
def Gt.ren (ρ:Nat→Nat):Gt→Gt
 | .inp=>.inp
 | .zero=>.zero
 | .one=>.one
 | .keep f a=>.keep f (ρ a)
 | .not a=>.not (ρ a)
 | .and a b=>.and (ρ a) (ρ b)
 | .or a b=>.or (ρ a) (ρ b)
 | .xor a b=>.xor (ρ a) (ρ b)
 | .pick a b c=>.pick (ρ a) (ρ b) (ρ c)
theorem zaki (ρ:Nat→Nat) (g:Gt):(g.ren ρ).isIn=g.isIn:=by cases g <;> rfl
def sel (gs:List Gt) (ρ:Nat→Nat) (l:List Nat):List Gt:=l.map fun n=>(gs.getD n .inp).ren ρ
theorem zapz {gs:List Gt}{ρ:Nat→Nat}{l:List Nat}{j n:Nat}{g:Gt} (h:l[j]?=some n) (e:gs[n]?=some g):(sel gs ρ l)[j]?=some (g.ren ρ):=by
 unfold sel
 rw [List.getElem?_map,h]
 simp [List.getD_eq_getElem?_getD,e]
theorem zamx {gs:List Gt}{ρ:Nat→Nat}{l:List Nat}{j:Nat}{t:Gt} (h:(sel gs ρ l)[j]?=some t):∃ n,l[j]?=some n∧t=(gs.getD n .inp).ren ρ:=by
 unfold sel at h
 rw [List.getElem?_map] at h
 obtain ⟨n,a,b⟩:=Option.map_eq_some_iff.mp h
 exact ⟨n,a,b.symm⟩
def sml (gs:List Gt) (W:Nat→Bool):List Gt:=sel gs (rk W gs.length) (kp W gs.length)
section
variable {net gs:List Gt}{prs:List (Nat × Str)}{os:List Nat}{W:Nat→Bool}
theorem zap0 (w:Wd gs os W) {n:Nat}{g:Gt} (hn:W n=true) (h:gs[n]?=some g):(sml gs W)[rk W gs.length n]?=some (g.ren (rk W gs.length)):=by
 rw [rk_w hn]
 exact zapz (zak8 hn (w.lt n hn)) h
theorem zarv (w:Wd gs os W) {j:Nat}{t:Gt} (h:(sml gs W)[j]?=some t):∃ n g,W n=true∧gs[n]?=some g∧j=rk W gs.length n∧t=g.ren (rk W gs.length):=by
 obtain ⟨n,a,b⟩:=zamx h
 obtain ⟨h1,h2,h3⟩:=zakh a
 have e:gs[n]?=some gs[n]:=List.getElem?_eq_getElem h2
 refine ⟨n,gs[n],h1,e,by rw [rk_w h1]; exact h3,?_⟩
 rw [b,List.getD_eq_getElem?_getD,e]; rfl
theorem zadk (w:Wd gs os W) {a b:Nat} (ha:W a=true) (hb:W b=true) (l:a < b):rk W gs.length a < rk W gs.length b:=by
 rw [rk_w ha,rk_w hb]; exact zart ha l
theorem zarw (w:Wd gs os W) {a:Nat} (ha:W a=true):rk W gs.length a < (sml gs W).length:=by
 obtain ⟨g,e⟩:∃ g,gs[a]?=some g:=⟨_,List.getElem?_eq_getElem (w.lt a ha)⟩
 exact (List.getElem?_eq_some_iff.mp (zap0 w ha e)).1
theorem zamy (w:Wd gs os W) (ok:Oks gs):Oks (sml gs W):=by
 intro j t h
 obtain ⟨n,g,h1,h2,h3,rfl⟩:=zarv w h
 have o:=ok n g h2
 have cl:=fun a=>w.cl n g a h1 h2
 rw [h3]
 cases g <;> simp only [Gt.ok,Gt.ren,Gt.feeds,List.mem_cons,List.not_mem_nil,or_false,List.mem_singleton] at *
 case keep f a=>exact ⟨o.1,o.2.1,zarw w (cl a rfl)⟩
 case not a=>exact zadk w (cl a rfl) h1 o
 case and a b=>exact ⟨zadk w (cl a (.inl rfl)) h1 o.1,zadk w (cl b (.inr rfl)) h1 o.2⟩
 case or a b=>exact ⟨zadk w (cl a (.inl rfl)) h1 o.1,zadk w (cl b (.inr rfl)) h1 o.2⟩
 case xor a b=>exact ⟨zadk w (cl a (.inl rfl)) h1 o.1,zadk w (cl b (.inr rfl)) h1 o.2⟩
 case pick a b c=>exact ⟨zadk w (cl a (.inl rfl)) h1 o.1,zadk w (cl b (.inr (.inl rfl))) h1 o.2.1,zadk w (cl c (.inr (.inr rfl))) h1 o.2.2⟩
end
end

section
local macro_rules | `(tactic| walk_at "user")=>`(tactic| first
 | (apply zaev; (focus walk_at "get"); (focus with_reducible assumption))
 | (apply zaew; (focus walk_at "get"); (focus with_reducible assumption))
 | (apply dputI; (focus walk_at "get"); (focus walk_at "arith")))
theorem zauc (ρ:Nat→Nat) {g:Gt} (h:g.isKeep=false):(g.ren ρ).vs=.str g.wd :: (g.feeds.map fun a=>nV (ρ a)):=by cases g <;> first | rfl | (cases h)
theorem zak9 (g:Gt):decide (V.str g.wd=V.str "keep")=g.isKeep:=by
 obtain ⟨rs,ev⟩:=zaez g
 obtain ⟨wd,rs2,ev2,hk⟩:=zah4 g
 rw [ev] at ev2
 cases ev2; exact hk
section
variable {P:Program}{w:World}{K:PySem.W.Frag}{mg:Str→Option Value}{base:Heap}{f:Addr}{fd:FuncData}{k:Nat}
theorem av26:AF (defScope (top 26)) ["gate", "places", "feeds"]:=⟨by decide +kernel⟩
theorem gl26:AG (defScope (top 26)) ["feeds_of", "tuple"]:=⟨by decide +kernel⟩
def zai6:Scope:={ kind:=PySem.ScopeKind.function,names:=[ (PySem.Str.ofString ".0",PySem.NameKind.local),(PySem.Str.ofString "feed",PySem.NameKind.local),(PySem.Str.ofString "places",PySem.NameKind.free)],isGenerator:=false,isCoroutine:=false,more:=[]:PySem.Scope }
theorem zamz:CompOk zai6 (defScope (top 26)) (["feed"]:List Str) (["gate", "places", "feeds"]:List Str) [1] (["feed", "places"]:List Str):=compOk rfl (by decide +kernel) (by decide +kernel) (by decide +kernel) (by decide +kernel) rfl (by decide +kernel)
theorem zam0:AK (relab zai6 (defScope (top 26))) ["feed"]:=⟨by decide +kernel⟩
theorem zam1:AV (relab zai6 (defScope (top 26))) ["feed", "places"]:=⟨by decide +kernel⟩
def spRen:Sp:=fun vs H Q _=>∃ (p d:Addr) (g:Gt) (ρ:Nat→Nat) (kvs:List (Key × V)),vs=[.ref p,.ref d]∧H p=some (.tup g.vs)∧H d=some (.dK kvs)∧(∀ a∈g.feeds,valV kvs (.inl (a:Int))=some (nV (ρ a)))∧∀ r H',Ch [] H H'→H' r=some (.tup (g.ren ρ).vs)→Q (.ref r) H'
theorem scRen:FnScope ["gate", "places", "feeds"] ["gate", "places"] (defScope (top 26)):=⟨rfl,rfl,rfl,by decide +kernel,rfl,by decide +kernel,by decide +kernel⟩
theorem zaud (F:Fun K "renumbered" "renumbered" (top 26) f fd) (Dfeeds_of:DefOk P w K mg base CX0 k "feeds_of" ["gate"] spFeeds) (z_tuple:mg "tuple" = none):FnOk P w K mg base CX0 (k + 1) f fd ["gate", "places"] spRen:=by
 have nd:=scRen.nd
 refine F.ok scRen (fun vs H Q E h=>by obtain ⟨p,d,g,ρ,kvs,rfl,_⟩:=h; rfl) (fun cdv A outer s0 H vs Q E hr h=>?_)
 obtain ⟨p,d,g,ρ,kvs,rfl,hp,hd,hv,q⟩:=h
 have hu:=zaly hr
 refine ⟨_,(Pr.h (zaad (zad4 (i:=2) nd rfl (av26.l 2 rfl) rfl zamz (zacj (zaai Dfeeds_of hr (gl26.g 0 rfl) pass0 (zaaa (qv av26 0 rfl) zaab zaac) zadu)) (fun _ _ _ _ _=>(zaau (i:=0) zamz.nd rfl (Or.inl (zam0.k 0 rfl)) (Or.inr (zam0.k 0 rfl)))) (fun _ _ _ _ _=>zabx) (fun _ _ _ _ _=>(zaei hu (qw zam1 1 rfl) (qw zam1 0 rfl) (fun _ _=>rfl))) rfl) (zaad (zaav (zaar zabh (zaat zaa0 (qv av26 0 rfl) zaag (fun _ _=>rfl)) zaas (nomark _)) (zaae (zaak (zaax (zaaa zaas (zaaa (zaat zaa0 (qv av26 0 rfl) zaag (fun _ _=>rfl)) (zaaa (zaat zaaw (qv av26 2 rfl) zaag (fun _ _=>rfl)) zaab zaaq) zaaq) zaaj)))) zaal) (zaae (zaak (zabd zab0 (gl26.g 1 rfl) z_tuple zabm (zaaa (zaa4 zaht (zact (zaaa (zaat zaa0 (qv av26 0 rfl) zaag (fun _ _=>rfl)) zaab zaaq)) (qv av26 2 rfl)) zaab zaco) zabn zabo)))))),?_⟩
 (try dsimp only [cxOf])
 have fl3:g.feeds.length≤3:=by cases g <;> simp [Gt.feeds]
 walk_at "rd"
 rename_i fr H2 c2 nfr hfr
 have hd2:=c2.get hd (by simp)
 have hp2:=c2.get hp (by simp)
 refine zac4 (g.feeds.map nV) (fun j zs σ H'=>H'=H2∧zs=(g.feeds.take j).map (fun a=>nV (ρ a))∧∃ u,σ=[u,some (.ref d)]) (by rw [List.length_map,sizeLine_eq]; omega) ⟨rfl,rfl,_,rfl⟩ ?_ ?_ ?_
 ·rintro j zs σ H' hj ⟨rfl,rfl,_⟩
  exact ⟨by simp [List.length_take]; omega,SqL.of hfr⟩
 ·rintro j zs σ H' x hx ⟨rfl,rfl,u,rfl⟩
  rw [List.getElem?_map] at hx
  obtain ⟨a,ha,rfl⟩:=Option.map_eq_some_iff.mp hx
  have va:=hv a (List.mem_of_getElem? ha)
  unfold nV at *
  walk_at "rd"
  refine ⟨?_,_,rfl⟩
  rw [List.take_add_one,ha]
  simp
 ·rintro zs σ H' ⟨rfl,rfl,_⟩
  rw [List.length_map,List.take_length]
  intro D hD
  have cD:=Ch.new (W:=[]) hD (.lst (g.feeds.map fun a=>nV (ρ a)))
  have hp3:=cD.get hp2 (by simp)
  have hD3:upd H' D (.lst (g.feeds.map fun a=>nV (ρ a))) D=_:=zaaf
  have c3:=c2.trans cD
  generalize upd H' D (HO.lst (g.feeds.map fun a=>nV (ρ a)))=H3 at hp3 hD3 c3 ⊢
  clear hp2 hd2 cD hD
  have hk2:=zak9 g
  obtain ⟨rs,ev⟩:=zaez g
  cases hk:g.isKeep with
  | true =>
   obtain ⟨ff,a,rfl⟩:∃ ff a,g=.keep ff a:=by cases g <;> first | exact ⟨_,_,rfl⟩ | (cases hk)
   have hp3:H3 p=some (.tup [.str "keep",.int ff,.int a]):=hp3
   have hD3:H3 D=some (.lst [nV (ρ a)]):=hD3
   walk_at "rd"
   rename_i T hT
   exact q _ _ (c3.trans (Ch.new hT _)) zaaf
  | false =>
   rw [hk] at hk2
   have rv:=zauc ρ hk
   rw [ev] at hp3
   walk_at "rd"
   rw [hk2]
   refine iteF ?_
   walk_at "rd"
   rename_i e1 he1 e2 he2 e3 he3
   exact q _ _ (((c3.trans (Ch.new he1 _)).trans (Ch.new he2 _)).trans (Ch.new he3 _)) (by rw [zaaf,rv]; rfl)
end
end

section
local macro_rules | `(tactic| walk_at "user")=>`(tactic| first
 | (apply zaev; (focus walk_at "get"); (focus with_reducible assumption))
 | (apply zaew; (focus walk_at "get"); (focus with_reducible assumption))
 | (apply dputI; (focus walk_at "get"); (focus walk_at "arith")))
structure MS (H0 H:Hp) (gl pl:Addr) (gs:List Gt) (prs:List (Nat × Str)):Prop where
 ch:Ch [] H0 H
 g:∃ xs,H gl=some (.lst xs)∧Gs H gs xs
 p:∃ ps,H pl=some (.lst ps)∧Prs H prs ps
theorem MS.same {H0 H H1:Hp}{gl pl:Addr}{gs:List Gt}{prs:List (Nat × Str)} (m:MS H0 H gl pl gs prs) (c:Ch [] H H1):MS H0 H1 gl pl gs prs :=
 ⟨m.ch.trans c,let ⟨xs,a,b⟩:=m.g; ⟨xs,c.get a (by simp),b.tu (Tu.same c)⟩,let ⟨xs,a,b⟩:=m.p; ⟨xs,c.get a (by simp),b.tu (Tu.same c)⟩⟩
structure PD (l:List Nat) (i:Nat) (kvs:List (Key × V)):Prop where
 len:kvs.length≤i
 val:∀ j n:Nat,j < i→l[j]?=some n→valV kvs (.inl (n:Int))=some (nV j)
theorem PD.put {l:List Nat}{i n:Nat}{kvs:List (Key × V)} (h:PD l i kvs) (nd:l.Nodup) (e:l[i]?=some n):PD l (i + 1) (putK kvs (.inl (n:Int)) (nV i)):=by
 refine ⟨Nat.le_trans (zac5 _ _ _) (by have:=h.len; omega),fun j m hj em=>?_⟩
 rw [zaff]
 by_cases z:m=n
 ·subst z
  rw [if_pos rfl,zapy nd e em]
 ·rw [if_neg (fun y=>z (by have:=Sum.inl.inj y; omega))]
  refine h.val j m ?_ em
  by_cases y:j=i
  ·subst y; rw [e] at em; exact absurd (Option.some.inj em).symm z
  ·omega
theorem PD.all {W:Nat→Bool}{N:Nat}{kvs:List (Key × V)} (h:PD (od W N) N kvs) {n:Nat} (hn:n < N):valV kvs (.inl (n:Int))=some (nV (rk W N n)):=by
 have e:=zaru (W:=W) hn
 refine h.val _ n ?_ e
 have:=(List.getElem?_eq_some_iff.mp e).1
 rwa [zaib] at this
theorem zakj (W:Nat→Bool) (N:Nat):(kp W N).length≤N:=by
 have:=List.length_filter_le W (List.range N)
 rwa [List.length_range] at this
theorem Gs.snoc {H:Hp}{gs:List Gt}{xs:List V}{p:Addr}{g:Gt} (h:Gs H gs xs) (hp:H p=some (.tup g.vs)):Gs H (gs++[g]) (xs++[.ref p]):=by
 refine ⟨by simp [h.len],fun i g' e=>?_⟩
 rcases zace e with ⟨hi,e⟩ | ⟨rfl,rfl⟩
 ·obtain ⟨p',h1,h2⟩:=h.at_ i g' e
  exact ⟨p',by rw [List.getElem?_append_left (by rw [h.len]; exact hi)]; exact h1,h2⟩
 ·exact ⟨p,by rw [← h.len]; simp,hp⟩
theorem Gs.nil (H:Hp):Gs H [] []:=⟨rfl,fun i g e=>by simp at e⟩
theorem NetAt.ch {C:Addr}{H H':Hp}{nt gp op:Addr}{gs:List Gt}{xs:List V}{os:List Nat} (n:NetAt C H nt gp op gs xs os) (c:Ch [] H H'):NetAt C H' nt gp op gs xs os :=
 ⟨n.ob.imp fun _ h=>c.get h (by simp),c.get n.gt (by simp),n.gg.tu (Tu.same c),c.get n.ot (by simp)⟩
structure Mde (CN:Addr) (H0 H:Hp) (R:Addr) (net:List Gt) (os:List Nat) (W:Nat→Bool):Prop where
 wd:Wd (gsF net) (os.map (rho (shr net).2)) W
 ex:∃ nt pp ll ql gp op:Addr,∃ xs zs qs:List V,H R=some (.tup [.ref nt,.ref pp])∧H pp=some (.tup [.ref ll,.ref ql])∧NetAt CN H nt gp op (sml (gsF net) W) xs (os.map fun o=>rk W (gsF net).length (rho (shr net).2 o)) ∧
  H ll=some (.lst zs)∧Gs H (sel (gsF net) (rk W (gsF net).length) (kp (nW W) (gsF net).length)) zs∧H ql=some (.lst qs)∧Prs H ((shr net).2.map fun p=>(rk W (gsF net).length p.1,p.2)) qs∧H0 ll=none∧H0 ql=none
section
variable {P:Program}{w:World}{K:PySem.W.Frag}{mg:Str→Option Value}{base:Heap}{f:Addr}{fd:FuncData}{k:Nat}
theorem zam2:Nd "shrunk" := by decide +kernel
theorem zaic:Nd "wanted_of" := by decide +kernel
theorem zaeo:Nd "renumbered" := by decide +kernel
theorem zam3:Nd "Net" := by decide +kernel
theorem av27:AF (defScope (top 27)) ["net", "made", "gates", "pairs", "wanted", "kept", "lost", "places", "place", "number", "small", "lost_gates"]:=⟨by decide +kernel⟩
theorem gl27:AG (defScope (top 27)) ["shrunk", "wanted_of", "range", "len", "enumerate", "Net"]:=⟨by decide +kernel⟩
def zai7:Scope:={ kind:=PySem.ScopeKind.function,names:=[ (PySem.Str.ofString ".0",PySem.NameKind.local),(PySem.Str.ofString "out",PySem.NameKind.local),(PySem.Str.ofString "pairs",PySem.NameKind.free)],isGenerator:=false,isCoroutine:=false,more:=[]:PySem.Scope }
theorem zam4:CompOk zai7 (defScope (top 27)) (["out"]:List Str) (["net", "made", "gates", "pairs", "wanted", "kept", "lost", "places", "place", "number", "small", "lost_gates"]:List Str) [3] (["out", "pairs"]:List Str):=compOk rfl (by decide +kernel) (by decide +kernel) (by decide +kernel) (by decide +kernel) rfl (by decide +kernel)
theorem zam5:AK (relab zai7 (defScope (top 27))) ["out"]:=⟨by decide +kernel⟩
theorem zam6:AV (relab zai7 (defScope (top 27))) ["out", "pairs"]:=⟨by decide +kernel⟩
def zai8:Scope:={ kind:=PySem.ScopeKind.function,names:=[ (PySem.Str.ofString ".0",PySem.NameKind.local),(PySem.Str.ofString "number",PySem.NameKind.local),(PySem.Str.ofString "wanted",PySem.NameKind.free)],isGenerator:=false,isCoroutine:=false,more:=[]:PySem.Scope }
theorem zam7:CompOk zai8 (defScope (top 27)) (["number"]:List Str) (["net", "made", "gates", "pairs", "wanted", "kept", "lost", "places", "place", "number", "small", "lost_gates"]:List Str) [4] (["number", "wanted"]:List Str):=compOk rfl (by decide +kernel) (by decide +kernel) (by decide +kernel) (by decide +kernel) rfl (by decide +kernel)
theorem zam8:AK (relab zai8 (defScope (top 27))) ["number"]:=⟨by decide +kernel⟩
theorem zai9:AV (relab zai8 (defScope (top 27))) ["number", "wanted"]:=⟨by decide +kernel⟩
def zaja:Scope:={ kind:=PySem.ScopeKind.function,names:=[ (PySem.Str.ofString ".0",PySem.NameKind.local),(PySem.Str.ofString "number",PySem.NameKind.local),(PySem.Str.ofString "wanted",PySem.NameKind.free)],isGenerator:=false,isCoroutine:=false,more:=[]:PySem.Scope }
theorem zam9:CompOk zaja (defScope (top 27)) (["number"]:List Str) (["net", "made", "gates", "pairs", "wanted", "kept", "lost", "places", "place", "number", "small", "lost_gates"]:List Str) [4] (["number", "wanted"]:List Str):=compOk rfl (by decide +kernel) (by decide +kernel) (by decide +kernel) (by decide +kernel) rfl (by decide +kernel)
theorem zana:AK (relab zaja (defScope (top 27))) ["number"]:=⟨by decide +kernel⟩
theorem zajb:AV (relab zaja (defScope (top 27))) ["number", "wanted"]:=⟨by decide +kernel⟩
def zajc:Scope:={ kind:=PySem.ScopeKind.function,names:=[ (PySem.Str.ofString ".0",PySem.NameKind.local),(PySem.Str.ofString "out",PySem.NameKind.local),(PySem.Str.ofString "pairs",PySem.NameKind.free),(PySem.Str.ofString "places",PySem.NameKind.free)],isGenerator:=false,isCoroutine:=false,more:=[]:PySem.Scope }
theorem zanb:CompOk zajc (defScope (top 27)) (["out"]:List Str) (["net", "made", "gates", "pairs", "wanted", "kept", "lost", "places", "place", "number", "small", "lost_gates"]:List Str) [7,3] (["out", "places", "pairs"]:List Str):=compOk rfl (by decide +kernel) (by decide +kernel) (by decide +kernel) (by decide +kernel) rfl (by decide +kernel)
theorem zanc:AK (relab zajc (defScope (top 27))) ["out"]:=⟨by decide +kernel⟩
theorem zajd:AV (relab zajc (defScope (top 27))) ["out", "places", "pairs"]:=⟨by decide +kernel⟩
def zag4:Scope:={ kind:=PySem.ScopeKind.function,names:=[ (PySem.Str.ofString ".0",PySem.NameKind.local),(PySem.Str.ofString "number",PySem.NameKind.local),(PySem.Str.ofString "renumbered",PySem.NameKind.globalImplicit),(PySem.Str.ofString "gates",PySem.NameKind.free),(PySem.Str.ofString "places",PySem.NameKind.free)],isGenerator:=false,isCoroutine:=false,more:=[]:PySem.Scope }
theorem zand:CompOk zag4 (defScope (top 27)) (["number"]:List Str) (["net", "made", "gates", "pairs", "wanted", "kept", "lost", "places", "place", "number", "small", "lost_gates"]:List Str) [2,7] (["number", "gates", "places"]:List Str):=compOk rfl (by decide +kernel) (by decide +kernel) (by decide +kernel) (by decide +kernel) rfl (by decide +kernel)
theorem zane:AK (relab zag4 (defScope (top 27))) ["number"]:=⟨by decide +kernel⟩
theorem zarx:AG (relab zag4 (defScope (top 27))) ["renumbered"]:=⟨by decide +kernel⟩
theorem zaje:AV (relab zag4 (defScope (top 27))) ["number", "gates", "places"]:=⟨by decide +kernel⟩
def zag5:Scope:={ kind:=PySem.ScopeKind.function,names:=[ (PySem.Str.ofString ".0",PySem.NameKind.local),(PySem.Str.ofString "number",PySem.NameKind.local),(PySem.Str.ofString "renumbered",PySem.NameKind.globalImplicit),(PySem.Str.ofString "gates",PySem.NameKind.free),(PySem.Str.ofString "places",PySem.NameKind.free)],isGenerator:=false,isCoroutine:=false,more:=[]:PySem.Scope }
theorem zanf:CompOk zag5 (defScope (top 27)) (["number"]:List Str) (["net", "made", "gates", "pairs", "wanted", "kept", "lost", "places", "place", "number", "small", "lost_gates"]:List Str) [2,7] (["number", "gates", "places"]:List Str):=compOk rfl (by decide +kernel) (by decide +kernel) (by decide +kernel) (by decide +kernel) rfl (by decide +kernel)
theorem zang:AK (relab zag5 (defScope (top 27))) ["number"]:=⟨by decide +kernel⟩
theorem zary:AG (relab zag5 (defScope (top 27))) ["renumbered"]:=⟨by decide +kernel⟩
theorem zajf:AV (relab zag5 (defScope (top 27))) ["number", "gates", "places"]:=⟨by decide +kernel⟩
def zajg:Scope:={ kind:=PySem.ScopeKind.function,names:=[ (PySem.Str.ofString ".0",PySem.NameKind.local),(PySem.Str.ofString "number",PySem.NameKind.local),(PySem.Str.ofString "why",PySem.NameKind.local),(PySem.Str.ofString "places",PySem.NameKind.free)],isGenerator:=false,isCoroutine:=false,more:=[]:PySem.Scope }
theorem zajh:CompOk zajg (defScope (top 27)) (["number", "why"]:List Str) (["net", "made", "gates", "pairs", "wanted", "kept", "lost", "places", "place", "number", "small", "lost_gates"]:List Str) [7] (["number", "why", "places"]:List Str):=compOk rfl (by decide +kernel) (by decide +kernel) (by decide +kernel) (by decide +kernel) rfl (by decide +kernel)
theorem zag6:AK (relab zajg (defScope (top 27))) ["number", "why"]:=⟨by decide +kernel⟩
theorem zaji:AV (relab zajg (defScope (top 27))) ["number", "why", "places"]:=⟨by decide +kernel⟩
def spMad (CN:Addr):Sp:=fun vs H Q _=>∃ (nt gp op:Addr) (net:List Gt) (xs:List V) (os:List Nat),vs=[.ref nt]∧NetAt CN H nt gp op net xs os∧Oks net∧net.length≤200∧(∀ o∈os,o < net.length)∧os.length≤200 ∧
 ∀ (R:Addr) (W:Nat→Bool) (H':Hp),Ch [] H H'→Mde CN H H' R net os W→Q (.ref R) H'
theorem scMad:FnScope ["net", "made", "gates", "pairs", "wanted", "kept", "lost", "places", "place", "number", "small", "lost_gates"] ["net"] (defScope (top 27)):=⟨rfl,rfl,rfl,by decide +kernel,rfl,by decide +kernel,by decide +kernel⟩
theorem zaue {CN:Addr} (F:Fun K "made_small" "made_small" (top 27) f fd) (clN:Cls K CN) (nNG:NoAttr K CN "gates") (nNO:NoAttr K CN "outs") (MkNet:MakeOk P w K mg base CX0 k CN "Net" ["self", "gates", "outs"] (spNet CN)) (Dshrunk:DefOk P w K mg base CX0 (k + 1) "shrunk" ["net"] (spShk CN))
  (Dwanted_of:DefOk P w K mg base CX0 (k + 1) "wanted_of" ["gates", "outs"] spWan) (Drenumbered:DefOk P w K mg base CX0 (k + 1) "renumbered" ["gate", "places"] spRen) (z_range:mg "range" = none) (z_len:mg "len" = none) (z_enumerate:mg "enumerate" = none):FnOk P w K mg base CX0 (k + 2) f fd ["net"] (spMad CN):=by
 have nd:=scMad.nd
 refine F.ok scMad (fun vs H Q E h=>by obtain ⟨nt,gp,op,net,xs,os,rfl,_⟩:=h; rfl) (fun cdv A outer s0 H vs Q E hr h=>?_)
 obtain ⟨nt,gp,op,net,xs,os,rfl,na,ok,sz,lo,zo,q⟩:=h
 have hu:=zaly hr
 have hrm:=hr
 refine ⟨_,(Pr.h (zaad (zaa1 (i:=1) nd rfl (av27.l 1 rfl) (zaai Dshrunk hr (gl27.g 0 rfl) pass0 (zaaa (qv av27 0 rfl) zaab zaac) zam2)) (zaad (zaa1 (i:=2) nd rfl (av27.l 2 rfl) (zaat zaa0 (qv av27 1 rfl) zaag (fun _ _=>rfl))) (zabs (zaa1 (i:=3) nd rfl (av27.l 3 rfl) (zaat zaa0 (qv av27 1 rfl) zaag (fun _ _=>rfl))) (zabs (zaa1 (i:=4) nd rfl (av27.l 4 rfl) (zaai Dwanted_of hr (gl27.g 1 rfl) pass0 (zaaa (qv av27 2 rfl) (zaaa (zacb rfl zam4 (zad7 (zabj (qv av27 0 rfl) rfl)) (fun _ _ _ _ _=>(zaau (i:=0) zam4.nd rfl (Or.inl (zam5.k 0 rfl)) (Or.inr (zam5.k 0 rfl)))) (fun _ _ _ _ _=>zabx) (fun _ _ _ _ _=>(zaat (zadg K rfl) (zaat (zacv K rfl) (qw zam6 1 rfl) (qw zam6 0 rfl) (fun _ _=>rfl)) zaag (fun _ _=>rfl)))) zaab zabg) zaac) zaic)) (zaad (zad4 (i:=5) nd rfl (av27.l 5 rfl) rfl zam7 (zacy (gl27.g 2 rfl) z_range (zaaa (zaah zaap (gl27.g 3 rfl) z_len PySem.boot_len (zaaa (qv av27 2 rfl) zaab zaac) zaba zabb) zaab zabi)) (fun _ _ _ _ _=>(zaau (i:=0) zam7.nd rfl (Or.inl (zam8.k 0 rfl)) (Or.inr (zam8.k 0 rfl)))) (fun _ _ _ _ _=>(zafj (zard hu (qw zai9 0 rfl) (qw zai9 1 rfl)))) (fun _ _ _ _ _=>(qw zai9 0 rfl)) rfl) (zaad (zad4 (i:=6) nd rfl (av27.l 6 rfl) rfl zam9 (zacy (gl27.g 2 rfl) z_range (zaaa (zaah zaap (gl27.g 3 rfl) z_len PySem.boot_len (zaaa (qv av27 2 rfl) zaab zaac) zaba zabb) zaab zabi)) (fun _ _ _ _ _=>(zaau (i:=0) zam9.nd rfl (Or.inl (zana.k 0 rfl)) (Or.inr (zana.k 0 rfl)))) (fun _ _ _ _ _=>(zafj (zaeu hu (qw zajb 0 rfl) (qw zajb 1 rfl)))) (fun _ _ _ _ _=>(qw zajb 0 rfl)) rfl) (zabs (zaa1 (i:=7) nd rfl (av27.l 7 rfl) zah1) (zaad (zaca PassesOwn.never rfl (zafk .list (gl27.g 4 rfl) z_enumerate (zaaa (zaa4 zaht (qv av27 5 rfl) (qv av27 6 rfl)) zaab zaco)) (zac7 rfl (zaa5 (zaau (i:=8) nd rfl (av27.l 8 rfl)) (zaa5 (zaau (i:=9) nd rfl (av27.l 9 rfl)) zacc))) (zaae (zafl hu (qv av27 7 rfl) (qv av27 9 rfl) (qv av27 8 rfl) rfl))) (zabs (zaa1 (i:=10) nd rfl (av27.l 10 rfl) (zah0 MkNet hrm (gl27.g 5 rfl) pass0 (zaaa (zacb rfl zand (zacj (qv av27 5 rfl)) (fun _ _ _ _ _=>(zaau (i:=0) zand.nd rfl (Or.inl (zane.k 0 rfl)) (Or.inr (zane.k 0 rfl)))) (fun _ _ _ _ _=>zabx) (fun _ _ _ _ _=>(zaai Drenumbered hr (zarx.g 0 rfl) pass0 (zaaa (zaat (zacv K rfl) (qw zaje 1 rfl) (qw zaje 0 rfl) (fun _ _=>rfl)) (zaaa (qw zaje 2 rfl) zaab zaac) zaaq) zaeo))) (zaaa (zacb rfl zanb (zad7 (zabj (qv av27 0 rfl) rfl)) (fun _ _ _ _ _=>(zaau (i:=0) zanb.nd rfl (Or.inl (zanc.k 0 rfl)) (Or.inr (zanc.k 0 rfl)))) (fun _ _ _ _ _=>zabx) (fun _ _ _ _ _=>(zaei hu (qw zajd 1 rfl) (zaat (zadg K rfl) (zaat (zacv K rfl) (qw zajd 2 rfl) (qw zajd 0 rfl) (fun _ _=>rfl)) zaag (fun _ _=>rfl)) (fun _ _=>rfl)))) zaab zabg) zabg) zam3)) (zabs (zad4 (i:=11) nd rfl (av27.l 11 rfl) rfl zanf (zacj (qv av27 6 rfl)) (fun _ _ _ _ _=>(zaau (i:=0) zanf.nd rfl (Or.inl (zang.k 0 rfl)) (Or.inr (zang.k 0 rfl)))) (fun _ _ _ _ _=>zabx) (fun _ _ _ _ _=>(zaai Drenumbered hr (zary.g 0 rfl) pass0 (zaaa (zaat (zacv K rfl) (qw zajf 1 rfl) (qw zajf 0 rfl) (fun _ _=>rfl)) (zaaa (qw zajf 2 rfl) zaab zaac) zaaq) zaeo)) rfl) (zaae (zaak (zaax (zaaa (qv av27 10 rfl) (zaaa (zaax (zaaa (qv av27 11 rfl) (zaaa (zacb rfl zajh (zacj (qv av27 3 rfl)) (fun _ _ _ _ _=>(zaeh K 2 rfl rfl (zaa5 (zaau (i:=0) zajh.nd rfl (Or.inl (zag6.k 0 rfl)) (Or.inr (zag6.k 0 rfl))) (zaa5 (zaau (i:=1) zajh.nd rfl (Or.inl (zag6.k 1 rfl)) (Or.inr (zag6.k 1 rfl))) zacc)))) (fun _ _ _ _ _=>zabx) (fun _ _ _ _ _=>(zaax (zaaa (zaei hu (qw zaji 2 rfl) (qw zaji 0 rfl) (fun _ _=>rfl)) (zaaa (qw zaji 1 rfl) zaab zaac) zaaq)))) zaab zabg) zaac)) zaab zab1) zaac))))))))))))))),?_⟩
 (try dsimp only [cxOf])
 have lg:=zamw ok
 have zg:=lg.sz
 obtain ⟨⟨dn,hn⟩,hg,gg,ho⟩:=id na
 have f2:=zac0 gp op
 walk_at "rd"
 refine zacr (fun σ H'=>∃ made gl pl,σ=[some (.ref nt),some (.ref made),some (.ref gl),some (.ref pl),none,none,none,none,none,none,none,none]∧MS H H' gl pl (gsF net) (shr net).2) ?_ ?_
 ·walk_at "rd"
  rename_i R gl pl xs1 ps1 H1 c1 hR hgl ggl hpl pp
  exact ⟨c1,⟨_,hgl,ggl⟩,⟨_,hpl,pp⟩⟩
 rintro σ H1 ⟨made,gl,pl,rfl,ms1⟩
 clear gg
 obtain ⟨gs,egs⟩:∃ gs,gsF net=gs:=⟨_,rfl⟩
 obtain ⟨prs,eps⟩:∃ prs,(shr net).2=prs:=⟨_,rfl⟩
 rw [egs,eps] at lg ms1
 rw [egs] at zg
 have hrho:∀ {o:Nat},o < net.length→∃ p:Nat × Str,prs[o]?=some p∧rho prs o=p.1∧p.1 < gs.length:=fun {o} h=>by
  have hl:o < prs.length:=by rw [lg.pl]; exact h
  refine ⟨_,List.getElem?_eq_getElem hl,?_,lg.pt o _ (List.getElem?_eq_getElem hl)⟩
  unfold rho
  rw [List.getD_eq_getElem?_getD,List.getElem?_eq_getElem hl]; rfl
 refine zacr (fun σ H'=>∃ d W kvs,σ=[some (.ref nt),some (.ref made),some (.ref gl),some (.ref pl),some (.ref d),none,none,none,none,none,none,none]∧MS H H' gl pl gs prs∧H' d=some (.dK kvs)∧DW gs.length W kvs∧Wd gs (os.map (rho prs)) W) ?_ ?_
 ·have hn1:=ms1.ch.get hn (by simp)
  have ho1:=ms1.ch.get ho (by simp)
  walk_at "rd"
  refine zaef (os.map nV) (fun j zs σ H'=>H'=H1∧zs=((os.take j).map (rho prs)).map nV∧∃ u,σ=[u,some (.ref pl)]) (by rw [List.length_map,sizeLine_eq]; omega) ⟨rfl,rfl,_,rfl⟩ ?_ ?_ ?_
  ·rintro j zs σ H' hj ⟨rfl,rfl,_⟩
   exact ⟨by simp [List.length_take]; omega,SqT.of ho1⟩
  ·rintro j zs σ H' x hx ⟨rfl,rfl,u,rfl⟩
   rw [List.getElem?_map] at hx
   obtain ⟨o,ho',rfl⟩:=Option.map_eq_some_iff.mp hx
   obtain ⟨p,e1,e2,e3⟩:=hrho (lo o (List.mem_of_getElem? ho'))
   obtain ⟨ps,hps,pp⟩:=ms1.p
   obtain ⟨a,e4,e5⟩:=pp.at_ o p e1
   have at1:=zacx e4
   unfold nV at *
   walk_at "rd"
   refine ⟨?_,_,rfl⟩
   rw [List.take_add_one,ho']
   simp [e2]
  ·rintro zs σ H' ⟨rfl,rfl,_⟩
   rw [List.length_map,List.take_length]
   intro D hD
   have msD:=ms1.same (Ch.new hD (.lst ((os.map (rho prs)).map nV)))
   obtain ⟨xs2,hg2,gg2⟩:=msD.g
   have lo2:∀ o∈os.map (rho prs),o < gs.length:=fun o m=>by
    obtain ⟨o',m',rfl⟩:=List.mem_map.mp m
    obtain ⟨p,e1,e2,e3⟩:=hrho (lo o' m')
    rw [e2]; exact e3
   have lf2:∀ (i:Nat) (g:Gt),gs[i]?=some g→∀ a∈g.feeds,a < gs.length:=fun i g e a m=>by
    have o:=lg.ok i g e
    have hi:=(List.getElem?_eq_some_iff.mp e).1
    by_cases hs:g.src=true
    ·cases g <;> simp only [Gt.ok,Gt.feeds,List.mem_cons,List.not_mem_nil,or_false,List.mem_singleton] at * <;> first | (cases hs; done) | (rw [m]; exact o.2.2)
    ·exact Nat.lt_trans (zadt o (by simpa using hs) a m) hi
   refine ⟨gl,D,gs,xs2,os.map (rho prs),rfl,hg2,gg2,zaaf,lo2,lf2,by omega,by rw [List.length_map]; exact zo,fun d W kvs H3 c3 hd dw wd=>?_⟩
   exact ⟨d,W,kvs,rfl,msD.same c3,hd,dw,wd⟩
 rintro σ H2 ⟨d,W,kvs,rfl,ms2,hd,dw,wd⟩
 have xsl:∃ xs2,H2 gl=some (.lst xs2)∧xs2.length=gs.length:=by obtain ⟨xs2,hg2,gg2⟩:=ms2.g; exact ⟨xs2,hg2,gg2.len⟩
 obtain ⟨xs2,hg2,lx2⟩:=xsl
 walk_at "rd"
 refine zagg (fun i ys σ H'=>H'=H2∧ys=(kp W i).map nV∧∃ u,σ=[u,some (.ref d)]) (by rw [sizeLine_eq]; omega) ⟨rfl,rfl,_,rfl⟩ ?_ ?_ ?_
 ·rintro i ys σ H' hi ⟨rfl,rfl,_⟩
  rw [List.length_map]; exact zakj W i
 ·rintro i ys σ H' hi ⟨rfl,rfl,u,rfl⟩
  have dv:=dw.val i
  rw [Int.zero_add]
  cases hW:W i with
  | true =>
   rw [hW] at dv
   have dv:valV kvs (.inl (i:Int))=some (.bl true):=dv
   walk_at "rd"
   refine ⟨?_,_,rfl⟩
   rw [zadz,hW]; simp [nV]
  | false =>
   rw [hW] at dv
   have dv:valV kvs (.inl (i:Int))=none:=dv
   walk_at "rd"
   refine ⟨?_,_,rfl⟩
   rw [zadz,hW]; simp
 rintro ys σ H' ⟨rfl,rfl,_⟩
 intro kl hkl
 rw [show (xs2.length:Int).toNat=gs.length by omega]
 have cK:=Ch.new (W:=[]) hkl (.lst ((kp W gs.length).map nV))
 have hk3:upd H' kl (.lst ((kp W gs.length).map nV)) kl=_:=zaaf
 have ms3:=ms2.same cK
 have hd3:=cK.get hd (by simp)
 have hg3:=cK.get hg2 (by simp)
 generalize upd H' kl (HO.lst ((kp W gs.length).map nV))=H3 at hk3 ms3 hd3 hg3 ⊢
 clear hd hg2 ms2 cK hkl
 walk_at "rd"
 refine zagg (fun i ys σ H'=>H'=H3∧ys=(kp (nW W) i).map nV∧∃ u,σ=[u,some (.ref d)]) (by rw [sizeLine_eq]; omega) ⟨rfl,rfl,_,rfl⟩ ?_ ?_ ?_
 ·rintro i ys σ H' hi ⟨rfl,rfl,_⟩
  rw [List.length_map]; exact zakj _ i
 ·rintro i ys σ H' hi ⟨rfl,rfl,u,rfl⟩
  have dv:=dw.val i
  rw [Int.zero_add]
  cases hW:W i with
  | true =>
   rw [hW] at dv
   have dv:valV kvs (.inl (i:Int))=some (.bl true):=dv
   walk_at "rd"
   refine ⟨?_,_,rfl⟩
   rw [zadz]; simp [nW,hW]
  | false =>
   rw [hW] at dv
   have dv:valV kvs (.inl (i:Int))=none:=dv
   walk_at "rd"
   refine ⟨?_,_,rfl⟩
   rw [zadz]; simp [nW,hW,nV]
 rintro ys σ H' ⟨rfl,rfl,_⟩
 intro ll hll
 rw [show (xs2.length:Int).toNat=gs.length by omega]
 have cK:=Ch.new (W:=[]) hll (.lst ((kp (nW W) gs.length).map nV))
 have hl4:upd H' ll (.lst ((kp (nW W) gs.length).map nV)) ll=_:=zaaf
 have ms4:=ms3.same cK
 have hk4:=cK.get hk3 (by simp)
 generalize upd H' ll (HO.lst ((kp (nW W) gs.length).map nV))=H4 at hl4 ms4 hk4 ⊢
 clear hd3 hg3 ms3 cK hll hk3
 have lk1:=zakj W gs.length
 have lk2:=zakj (nW W) gs.length
 refine zacr (fun σ H'=>∃ pd,σ=[some (.ref nt),some (.ref made),some (.ref gl),some (.ref pl),some (.ref d),some (.ref kl),some (.ref ll),some (.ref pd),none,none,none,none]∧MS H H' gl pl gs prs∧H' pd=some (.dK [])∧Ch [] H4 H'∧H pd=none∧H4 pd=none) ?_ ?_
 ·walk_at "rd"
  rename_i pd hpd
  exact ⟨ms4.same (Ch.new hpd _),zaaf,Ch.new hpd _,chFree ms4.ch hpd,hpd⟩
 rintro σ H5 ⟨pd,rfl,ms5,hp5,c45,fpd,fpd4⟩
 have hk5:=c45.get hk4 (by simp)
 have hl5:=c45.get hl4 (by simp)
 walk_at "rd"
 rename_i ol hol
 have eod:(kp W gs.length).map nV++(kp (nW W) gs.length).map nV=(od W gs.length).map nV:=by unfold od; rw [List.map_append]
 rw [eod]
 have cO:=Ch.new (W:=[]) hol (.lst ((od W gs.length).map nV))
 have ho6:upd H5 ol (.lst ((od W gs.length).map nV)) ol=_:=zaaf
 have ms6:=ms5.same cO
 have hp6:=cO.get hp5 (by simp)
 have c46:=c45.trans cO
 have nop:ol≠pd:=(zaa7 hp5 hol).symm
 generalize upd H5 ol (HO.lst ((od W gs.length).map nV))=H6 at ho6 ms6 hp6 c46 ⊢
 have oln:(od W gs.length).length=gs.length:=zaib W gs.length
 refine zaf1 (xs:=(od W gs.length).map nV) (fun i σ H'=>∃ kv2 u v,σ=[some (.ref nt),some (.ref made),some (.ref gl),some (.ref pl),some (.ref d),some (.ref kl),some (.ref ll),some (.ref pd),u,v,none,none]∧H' pd=some (.dK kv2)∧PD (od W gs.length) i kv2∧Ch [] H4 H'∧Ch [pd] H6 H') ⟨[],_,_,rfl,hp6,⟨Nat.le_refl _,fun j n h=>absurd h (Nat.not_lt_zero _)⟩,c46,Ch.refl _ _⟩ ?_ ?_ ?_
 ·rintro i σ H' hi ⟨kv2,u,v,rfl,h1,h2,h3,h4⟩
  exact SqL.of (h4.get ho6 (by simpa using nop))
 ·rintro i x σ H' T hx ⟨kv2,u,v,rfl,h1,h2,h3,h4⟩ hT
  rw [List.getElem?_map] at hx
  obtain ⟨n,hn',rfl⟩:=Option.map_eq_some_iff.mp hx
  have hi:i < gs.length:=by rw [← oln]; exact (List.getElem?_eq_some_iff.mp hn').1
  have kl2:=h2.len
  have pu:=h2.put (zavd W gs.length) hn'
  unfold nV at *
  walk_at "rd"
  rename_i b o hb nb
  exact ((h4.trans (Ch.new hT _)).trans Ch.put) b o hb nb
 ·rintro σ H7 ⟨kv2,u,v,rfl,h1,h2,h3,h4⟩
  rw [List.length_map,oln] at h2
  have ms7:=ms4.same h3
  have hk7:=h3.get hk4 (by simp)
  have hl7:=h3.get hl4 (by simp)
  have hv:∀ n:Nat,n < gs.length→valV kv2 (.inl (n:Int))=some (nV (rk W gs.length n)):=fun n hn=>h2.all hn
  clear h2 h4 ms6 hp6 c46 ho6 ms5 hp5 hk5 hl5 c45 ms4 hk4 hl4 cO h3
  have comp2:∀ (l:List Nat) (la:Addr) (H8:Hp) (Q':List V→Hp→Prop),H8 la=some (.lst (l.map nV))→(∀ n∈l,n < gs.length)→l.length≤200→MS H H8 gl pl gs prs→H8 pd=some (.dK kv2) →
    (∀ ys H9,Ch [] H8 H9→Gs H9 (sel gs (rk W gs.length) l) ys→Q' ys H9)→Comp (Itl K la) (gName 0) tYes (tCall spRen [] E0 (tCons (tOp (aIxL K) (tVar 1) (tVar 0)) (tCons (tVar 2) tNil))) Q' [none,some (.ref gl),some (.ref pd)] H8:=by
   intro l la H8 Q' hla hl8 hz8 ms8 hp8 q8
   refine zac4 (l.map nV) (fun i ys σ H'=>Ch [] H8 H'∧Gs H' (sel gs (rk W gs.length) (l.take i)) ys∧∃ u,σ=[u,some (.ref gl),some (.ref pd)]) (by rw [List.length_map,sizeLine_eq]; omega) ⟨Ch.refl _ _,Gs.nil _,_,rfl⟩ ?_ ?_ ?_
   ·rintro i ys σ H' hi ⟨c,g9,_⟩
    refine ⟨?_,SqL.of (c.get hla (by simp))⟩
    have:=g9.len
    unfold sel at this
    rw [this,List.length_map,List.length_take]; omega
   ·rintro i ys σ H' x hx ⟨c,g9,u,rfl⟩
    rw [List.getElem?_map] at hx
    obtain ⟨n,hn',rfl⟩:=Option.map_eq_some_iff.mp hx
    have nl:=hl8 n (List.mem_of_getElem? hn')
    obtain ⟨g,eg⟩:∃ g,gs[n]?=some g:=⟨_,List.getElem?_eq_getElem nl⟩
    obtain ⟨xs9,hg9,gg9⟩:=(ms8.same c).g
    obtain ⟨p,ep,hp⟩:=gg9.at_ n g eg
    have at1:=zacx ep
    have hp9:=c.get hp8 (by simp)
    have hf:∀ a∈g.feeds,valV kv2 (.inl (a:Int))=some (nV (rk W gs.length a)):=fun a ha=>hv a (by
     have o:=lg.ok n g eg
     by_cases hs:g.src=true
     ·cases g <;> simp only [Gt.ok,Gt.feeds,List.mem_cons,List.not_mem_nil,or_false,List.mem_singleton] at * <;> first | (cases hs; done) | (rw [ha]; exact o.2.2)
     ·exact Nat.lt_trans (zadt o (by simpa using hs) a ha) nl)
    have es:sel gs (rk W gs.length) (l.take (i + 1))=sel gs (rk W gs.length) (l.take i)++[g.ren (rk W gs.length)]:=by
     unfold sel
     rw [List.take_add_one,hn',List.map_append]
     simp [List.getD_eq_getElem?_getD,eg]
    rw [es]
    unfold nV
    walk_at "rd"
    rename_i r9 H9 c9 hr9
    exact ⟨(g9.tu (Tu.same c9)).snoc hr9,_,rfl⟩
   ·rintro ys σ H' ⟨c,g9,_⟩
    rw [List.length_map,List.take_length] at g9
    exact q8 ys H' c g9
  have hro:∀ o∈os,rk W gs.length (rho prs o) < (sml gs W).length:=fun o m=>zarw wd (wd.out _ (List.mem_map.mpr ⟨o,m,rfl⟩))
  have ksz:(sml gs W).length≤200:=by unfold sml sel; rw [List.length_map]; omega
  have kmem:∀ n∈kp W gs.length,n < gs.length:=fun n m=>by obtain ⟨j,hj⟩:=List.getElem?_of_mem m; exact (zakh hj).2.1
  have lmem:∀ n∈kp (nW W) gs.length,n < gs.length:=fun n m=>by obtain ⟨j,hj⟩:=List.getElem?_of_mem m; exact (zakh hj).2.1
  refine zacr (fun σ H'=>∃ nt' gp' op' xs',σ=[some (.ref nt),some (.ref made),some (.ref gl),some (.ref pl),some (.ref d),some (.ref kl),some (.ref ll),some (.ref pd),u,v,some (.ref nt'),none]∧Ch [] H7 H'∧NetAt CN H' nt' gp' op' (sml gs W) xs' (os.map fun o=>rk W gs.length (rho prs o))) ?_ ?_
  ·walk_at "rd"
   refine comp2 (kp W gs.length) kl H7 _ hk7 kmem (by omega) ms7 h1 (fun ys H9 c9 g9=>?_)
   intro D hD
   have cD:=Ch.new (W:=[]) hD (.lst ys)
   have hD9:upd H9 D (.lst ys) D=some (.lst ys):=zaaf
   have g10:=g9.tu (Tu.same cD)
   have c7:=c9.trans cD
   generalize upd H9 D (HO.lst ys)=H10 at hD9 g10 c7 ⊢
   clear hD cD c9 g9
   have ms10:=ms7.same c7
   have hn10:=ms10.ch.get hn (by simp)
   have ho10:=ms10.ch.get ho (by simp)
   have hp10:=c7.get h1 (by simp)
   walk_at "rd"
   refine zaef (os.map nV) (fun j zs σ H'=>H'=H10∧zs=((os.take j).map (fun o=>rk W gs.length (rho prs o))).map nV∧∃ u,σ=[u,some (.ref pd),some (.ref pl)]) (by rw [List.length_map,sizeLine_eq]; omega) ⟨rfl,rfl,_,rfl⟩ ?_ ?_ ?_
   ·rintro j zs σ H' hj ⟨rfl,rfl,_⟩
    exact ⟨by simp [List.length_take]; omega,SqT.of ho10⟩
   ·rintro j zs σ H' x hx ⟨rfl,rfl,u,rfl⟩
    rw [List.getElem?_map] at hx
    obtain ⟨o,ho',rfl⟩:=Option.map_eq_some_iff.mp hx
    obtain ⟨p,e1,e2,e3⟩:=hrho (lo o (List.mem_of_getElem? ho'))
    obtain ⟨ps,hps,pp⟩:=ms10.p
    obtain ⟨a,e4,e5⟩:=pp.at_ o p e1
    have at1:=zacx e4
    have hv1:=hv p.1 e3
    unfold nV at *
    walk_at "rd"
    refine ⟨?_,_,rfl⟩
    rw [List.take_add_one,ho']
    simp [e2]
   ·rintro zs σ H' ⟨rfl,rfl,_⟩
    rw [List.length_map,List.take_length]
    intro D2 hD2
    have cD2:=Ch.new (W:=[]) hD2 (.lst ((os.map (fun o=>rk W gs.length (rho prs o))).map nV))
    have hD11:upd H' D2 (.lst ((os.map (fun o=>rk W gs.length (rho prs o))).map nV)) D2=_:=zaaf
    have hDD:=cD2.get hD9 (by simp)
    have g11:=g10.tu (Tu.same cD2)
    have c11:=c7.trans cD2
    generalize upd H' D2 (HO.lst ((os.map (fun o=>rk W gs.length (rho prs o))).map nV))=H11 at hD11 hDD g11 c11 ⊢
    clear hD2 cD2
    intro x dx hx hdx nx
    have ci:=Ch.inst (C:=CN) hx hdx nx
    refine ⟨x,dx,D,D2,sml gs W,ys,os.map (fun o=>rk W gs.length (rho prs o)),rfl,zaaf,ci.get hDD (by simp),g11.tu (Tu.same ci),zamy wd lg.ok,by omega,ci.get hD11 (by simp),fun o m=>?_,by rw [List.length_map]; omega,fun gp' op' H12 c12 na12=>⟨rfl,?_⟩⟩
    ·obtain ⟨o',m',rfl⟩:=List.mem_map.mp m
     exact hro o' m'
    ·exact ⟨x,gp',op',ys,rfl,c11.trans (Ch.forget (ci.wk.trans c12) (by simpa using hx)),na12⟩
  rintro σ H8 ⟨nt',gp',op',xs',rfl,c78,na8⟩
  have ms8:=ms7.same c78
  have hl8:=c78.get hl7 (by simp)
  have hp8:=c78.get h1 (by simp)
  refine zacr (fun σ H'=>∃ lg' zs,σ=[some (.ref nt),some (.ref made),some (.ref gl),some (.ref pl),some (.ref d),some (.ref kl),some (.ref ll),some (.ref pd),u,v,some (.ref nt'),some (.ref lg')]∧Ch [] H8 H'∧H' lg'=some (.lst zs)∧Gs H' (sel gs (rk W gs.length) (kp (nW W) gs.length)) zs∧H lg'=none) ?_ ?_
  ·walk_at "rd"
   refine comp2 (kp (nW W) gs.length) ll H8 _ hl8 lmem (by omega) ms8 hp8 (fun ys H9 c9 g9=>?_)
   intro D hD
   exact ⟨D,ys,rfl,c9.trans (Ch.new hD _),zaaf,g9.tu (Tu.new _ hD),chFree (ms8.ch.trans c9) hD⟩
  rintro σ H9 ⟨lg',zs,rfl,c89,hlg,gz,flg⟩
  have ms9:=ms8.same c89
  have hp9:=c89.get hp8 (by simp)
  obtain ⟨ps,hps,pp⟩:=ms9.p
  have lps:=pp.len
  have lpr:=lg.pl
  walk_at "rd"
  refine zac4 ps (fun j ys σ H'=>Ch [] H9 H'∧Prs H' ((prs.take j).map fun p=>(rk W gs.length p.1,p.2)) ys∧∃ u1 u2,σ=[u1,u2,some (.ref pd)]) (by rw [sizeLine_eq]; omega) ⟨Ch.refl _ _,⟨rfl,fun i p e=>by simp at e⟩,_,_,rfl⟩ ?_ ?_ ?_
  ·rintro j ys σ H' hj ⟨c,p9,_⟩
   refine ⟨?_,SqL.of (c.get hps (by simp))⟩
   rw [p9.len,List.length_map,List.length_take]; omega
  ·rintro j ys σ H' x hx ⟨c,p9,u1,u2,rfl⟩
   have hj:j < prs.length:=by rw [← lps]; exact (List.getElem?_eq_some_iff.mp hx).1
   obtain ⟨p,ep⟩:∃ p,prs[j]?=some p:=⟨_,List.getElem?_eq_getElem hj⟩
   obtain ⟨a,e4,e5⟩:=pp.at_ j p ep
   rw [hx] at e4
   cases e4
   have e6:=c.get e5 (by simp)
   have hv1:=hv p.1 (lg.pt j p ep)
   have hp10:=c.get hp9 (by simp)
   have es:(prs.take (j + 1)).map (fun p=>(rk W gs.length p.1,p.2))=(prs.take j).map (fun p=>(rk W gs.length p.1,p.2))++[(rk W gs.length p.1,p.2)]:=by
    rw [List.take_add_one,ep,List.map_append]; rfl
   rw [es]
   unfold nV at *
   walk_at "rd"
   rename_i T hT
   exact ⟨(p9.tu (Tu.new _ hT)).push zaaf,_,_,rfl⟩
  ·rintro ys σ H' ⟨c,p9,_⟩
   rw [lps,List.take_length] at p9
   intro D hD
   walk_at "rd"
   rename_i P1 hP1 P2 hP2
   subst egs
   subst eps
   have cF:Ch [] H' (upd (upd (upd H' D (.lst ys)) P1 (.tup [.ref lg',.ref D])) P2 (.tup [.ref nt',.ref P1])):=((Ch.new hD _).trans (Ch.new hP1 _)).trans (Ch.new hP2 _)
   exact q P2 W _ ((ms9.ch.trans c).trans cF) ⟨wd,nt',P1,lg',D,gp',op',xs',zs,ys,zaaf,zacf hP2 zaaf,na8.ch ((c89.trans c).trans cF),(c.trans cF).get hlg (by simp),gz.tu (Tu.same (c.trans cF)),zacf hP2 (zacf hP1 zaaf),p9.tu (Tu.same cF),flg,chFree (ms9.ch.trans c) hD⟩
end
end

section
structure GA (H:Hp) (gl:Addr) (al:List Gt):Prop where
 ex:∃ xs,H gl=some (.lst xs)∧Gs H al xs
theorem GA.ch {H H':Hp}{gl:Addr}{al:List Gt} (g:GA H gl al) (c:Ch [] H H'):GA H' gl al:=let ⟨xs,a,b⟩:=g.ex; ⟨xs,c.get a (by simp),b.tu (Tu.same c)⟩
theorem GA.at {H:Hp}{gl:Addr}{al:List Gt} (r:GA H gl al) {n:Nat}{g:Gt} (h:al[n]?=some g):∃ xs p,H gl=some (.lst xs)∧atI xs (n:Int)=some (.ref p)∧H p=some (.tup g.vs)∧n < xs.length:=by
 obtain ⟨xs,hg,gg⟩:=r.ex
 obtain ⟨p,ep,hp⟩:=gg.at_ n g h
 exact ⟨xs,p,hg,zacx ep,hp,(List.getElem?_eq_some_iff.mp ep).1⟩
theorem zag7 (a b:Nat):decide (V.int (a:Int)=V.int (b:Int))=decide (a=b):=by
 by_cases e:a=b
 ·subst e; simp
 ·rw [decide_eq_false e,decide_eq_false fun z=>e (by injection z with z; omega)]
theorem zab4 {a b:Str} (h:decide (V.str a=V.str b)=true):a=b:=V.str.inj (of_decide_eq_true h)
theorem zabk {a b:Str} (h:¬ decide (V.str a=V.str b)=true):¬ a=b:=fun z=>h (decide_eq_true (by rw [z]))
local macro_rules | `(tactic| walk_at "user")=>`(tactic| first
 | (apply GA.ch; (focus with_reducible assumption); (focus walk_at "ch"))
 | exact Gt.vs_sca _)
section
variable {P:Program}{w:World}{K:PySem.W.Frag}{mg:Str→Option Value}{base:Heap}{f:Addr}{fd:FuncData}{k:Nat}
theorem zacg:Nd "is_one" := by decide +kernel
theorem zab5:Nd "is_zero" := by decide +kernel
theorem zacm:Nd "are_opposed" := by decide +kernel
theorem av29:AF (defScope (top 29)) ["gates", "number"]:=⟨by decide +kernel⟩
theorem zagl:FnScope ["gates", "number"] ["gates", "number"] (defScope (top 29)):=⟨rfl,rfl,rfl,by decide +kernel,rfl,by decide +kernel,by decide +kernel⟩
def spIsG (t:List Gt→Nat→Bool):Sp:=fun vs H Q _=>∃ (gl:Addr) (al:List Gt) (n:Nat),vs=[.ref gl,.int (n:Int)]∧GA H gl al∧n < al.length∧∀ H',Ch [] H H'→Q (.bl (t al n)) H'
theorem zala (F:Fun K "is_zero" "is_zero" (top 29) f fd):FnOk P w K mg base CX0 (k + 1) f fd ["gates", "number"] (spIsG isZ):=by
 have nd:=zagl.nd
 refine F.ok zagl (fun vs H Q E h=>by obtain ⟨gl,al,n,rfl,_⟩:=h; rfl) (fun cdv A outer s0 H vs Q E hr h=>?_)
 obtain ⟨gl,al,n,rfl,r,hn,q⟩:=h
 refine ⟨_,(Pr.h (zaae (zaak (zaa3 (zadc hr.units) (zaat zaaw (qv av29 0 rfl) (qv av29 1 rfl) (fun _ _=>rfl)) (zaax (zaaa zaas zaab zaaj)) (nomark _))))),?_⟩
 (try dsimp only [cxOf])
 obtain ⟨g,eg⟩:∃ g,al[n]?=some g:=⟨_,List.getElem?_eq_getElem hn⟩
 obtain ⟨xs,p,hg,at1,hp,lx⟩:=r.at eg
 have sc:=Gt.vs_sca g
 have sc2:=Gt.vs_sca .zero
 have q:∀ H',Ch [] H H'→Q (.bl (decide (al[n]?=some .zero))) H':=q
 rw [zabu eg] at q
 walk_at "rd"
 rename_i T hT
 exact q _ (Ch.new hT _)
theorem av30:AF (defScope (top 30)) ["gates", "number"]:=⟨by decide +kernel⟩
theorem zaid:FnScope ["gates", "number"] ["gates", "number"] (defScope (top 30)):=⟨rfl,rfl,rfl,by decide +kernel,rfl,by decide +kernel,by decide +kernel⟩
theorem zanh (F:Fun K "is_one" "is_one" (top 30) f fd):FnOk P w K mg base CX0 (k + 1) f fd ["gates", "number"] (spIsG isO):=by
 have nd:=zaid.nd
 refine F.ok zaid (fun vs H Q E h=>by obtain ⟨gl,al,n,rfl,_⟩:=h; rfl) (fun cdv A outer s0 H vs Q E hr h=>?_)
 obtain ⟨gl,al,n,rfl,r,hn,q⟩:=h
 refine ⟨_,(Pr.h (zaae (zaak (zaa3 (zadc hr.units) (zaat zaaw (qv av30 0 rfl) (qv av30 1 rfl) (fun _ _=>rfl)) (zaax (zaaa zaas zaab zaaj)) (nomark _))))),?_⟩
 (try dsimp only [cxOf])
 obtain ⟨g,eg⟩:∃ g,al[n]?=some g:=⟨_,List.getElem?_eq_getElem hn⟩
 obtain ⟨xs,p,hg,at1,hp,lx⟩:=r.at eg
 have sc:=Gt.vs_sca g
 have sc2:=Gt.vs_sca .one
 have q:∀ H',Ch [] H H'→Q (.bl (decide (al[n]?=some .one))) H':=q
 rw [zabu eg] at q
 walk_at "rd"
 rename_i T hT
 exact q _ (Ch.new hT _)
theorem av31:AF (defScope (top 31)) ["gates", "number", "other"]:=⟨by decide +kernel⟩
def spOpG:Sp:=fun vs H Q _=>∃ (gl:Addr) (al:List Gt) (a b:Nat),vs=[.ref gl,.int (a:Int),.int (b:Int)]∧GA H gl al∧a < al.length∧b < al.length∧∀ H',Ch [] H H'→Q (.bl (opsd al a b)) H'
theorem zap1:FnScope ["gates", "number", "other"] ["gates", "number", "other"] (defScope (top 31)):=⟨rfl,rfl,rfl,by decide +kernel,rfl,by decide +kernel,by decide +kernel⟩
theorem zauf (F:Fun K "are_opposed" "are_opposed" (top 31) f fd):FnOk P w K mg base CX0 (k + 1) f fd ["gates", "number", "other"] spOpG:=by
 have nd:=zap1.nd
 refine F.ok zap1 (fun vs H Q E h=>by obtain ⟨gl,al,a,b,rfl,_⟩:=h; rfl) (fun cdv A outer s0 H vs Q E hr h=>?_)
 obtain ⟨gl,al,a,b,rfl,r,ha,hb,q⟩:=h
 refine ⟨_,(Pr.h (zaae (zaak (zaec (zaa3 (zadc hr.units) (zaat zaaw (qv av31 0 rfl) (qv av31 1 rfl) (fun _ _=>rfl)) (zaax (zaaa zaas (zaaa (qv av31 2 rfl) zaab zaac) zaaj)) (nomark _)) (zaa9 (zaa3 (zadc hr.units) (zaat zaaw (qv av31 0 rfl) (qv av31 2 rfl) (fun _ _=>rfl)) (zaax (zaaa zaas (zaaa (qv av31 1 rfl) zaab zaac) zaaj)) (nomark _))))))),?_⟩
 (try dsimp only [cxOf])
 obtain ⟨g,eg⟩:∃ g,al[a]?=some g:=⟨_,List.getElem?_eq_getElem ha⟩
 obtain ⟨xs,p,hg,at1,hp,lx⟩:=r.at eg
 obtain ⟨g2,eg2⟩:∃ g2,al[b]?=some g2:=⟨_,List.getElem?_eq_getElem hb⟩
 obtain ⟨xs2,p2,hg2,at2,hp2,lx2⟩:=r.at eg2
 rw [hg] at hg2
 cases hg2
 have sc:=Gt.vs_sca g
 have sc1:=Gt.vs_sca g2
 have sc2:=Gt.vs_sca (.not b)
 have sc3:=Gt.vs_sca (.not a)
 have q:∀ H',Ch [] H H'→Q (.bl (decide (al[a]?=some (.not b)) || decide (al[b]?=some (.not a)))) H':=q
 rw [zabu eg,zabu eg2] at q
 cases e1:decide (g.vs=(Gt.not b).vs) with
 | true =>
  have e2:decide (g.vs=[V.str "not",V.int b])=true:=e1
  rw [e1,Bool.true_or] at q
  walk_at "rd"
  rename_i T hT
  rw [e2]
  exact q _ (Ch.new hT _)
 | false =>
  have e2:decide (g.vs=[V.str "not",V.int b])=false:=e1
  rw [e1,Bool.false_or] at q
  walk_at "rd"
  rename_i T hT
  rw [e2]
  refine iteF ?_
  walk_at "rd"
  rename_i T2 hT2
  exact q _ ((Ch.new hT _).trans (Ch.new hT2 _))
theorem av32:AF (defScope (top 32)) ["gates", "why", "it", "feeds", "x"]:=⟨by decide +kernel⟩
theorem gl32:AG (defScope (top 32)) ["is_one", "is_zero"]:=⟨by decide +kernel⟩
def notB (al:List Gt) (why:Str) (it x:Nat):Bool:=if why = "inner" then decide (al[x]?=some (.not it)) else if why = "one" then isZ al x && isO al it else if why = "zero" then isO al x && isZ al it else false
def spNotB:Sp:=fun vs H Q _=>∃ (gl fl:Addr) (al:List Gt) (why:Str) (it x:Nat),vs=[.ref gl,.str why,.int (it:Int),.ref fl]∧GA H gl al∧H fl=some (.lst [.int (x:Int)])∧it < al.length∧x < al.length∧∀ H',Ch [] H H'→Q (.bl (notB al why it x)) H'
theorem scNotB:FnScope ["gates", "why", "it", "feeds", "x"] ["gates", "why", "it", "feeds"] (defScope (top 32)):=⟨rfl,rfl,rfl,by decide +kernel,rfl,by decide +kernel,by decide +kernel⟩
theorem zarz (F:Fun K "not_holds" "not_holds" (top 32) f fd) (Dis_zero:DefOk P w K mg base CX0 k "is_zero" ["gates", "number"] (spIsG isZ)) (Dis_one:DefOk P w K mg base CX0 k "is_one" ["gates", "number"] (spIsG isO)) (Dare_opposed:DefOk P w K mg base CX0 k "are_opposed" ["gates", "number", "other"] spOpG):FnOk P w K mg base CX0 (k + 1) f fd ["gates", "why", "it", "feeds"] spNotB:=by
 have nd:=scNotB.nd
 refine F.ok scNotB (fun vs H Q E h=>by obtain ⟨gl,fl,al,why,it,x,rfl,_⟩:=h; rfl) (fun cdv A outer s0 H vs Q E hr h=>?_)
 obtain ⟨gl,fl,al,why,it,x,rfl,r,hf,li,lx,q⟩:=h
 refine ⟨_,(Pr.h (zaad (zaa1 (i:=4) nd rfl (av32.l 4 rfl) (zaat zaaw (qv av32 3 rfl) zaag (fun _ _=>rfl))) (zaad (zaav (zaar zabh (qv av32 1 rfl) zaas (nomark _)) (zaae (zaak (zaa3 (zadc hr.units) (zaat zaaw (qv av32 0 rfl) (qv av32 4 rfl) (fun _ _=>rfl)) (zaax (zaaa zaas (zaaa (qv av32 2 rfl) zaab zaac) zaaj)) (nomark _)))) zaal) (zaad (zaav (zaar zabh (qv av32 1 rfl) zaas (nomark _)) (zaae (zaak (zaa8 (zaai Dis_zero hr (gl32.g 1 rfl) pass0 (zaaa (qv av32 0 rfl) (zaaa (qv av32 4 rfl) zaab zaac) zaac) zab5) (zaa9 (zaai Dis_one hr (gl32.g 0 rfl) pass0 (zaaa (qv av32 0 rfl) (zaaa (qv av32 2 rfl) zaab zaac) zaac) zacg))))) zaal) (zaad (zaav (zaar zabh (qv av32 1 rfl) zaas (nomark _)) (zaae (zaak (zaa8 (zaai Dis_one hr (gl32.g 0 rfl) pass0 (zaaa (qv av32 0 rfl) (zaaa (qv av32 4 rfl) zaab zaac) zaac) zacg) (zaa9 (zaai Dis_zero hr (gl32.g 1 rfl) pass0 (zaaa (qv av32 0 rfl) (zaaa (qv av32 2 rfl) zaab zaac) zaac) zab5))))) zaal) (zaae (zaak zabl))))))),?_⟩
 (try dsimp only [cxOf])
 have c0:=Ch.refl [] H
 obtain ⟨g,eg⟩:∃ g,al[x]?=some g:=⟨_,List.getElem?_eq_getElem lx⟩
 obtain ⟨xs,p,hg,at1,hp,lp⟩:=r.at eg
 have sc:=Gt.vs_sca g
 have sc2:=Gt.vs_sca (.not it)
 walk_at "rd"
 refine ite2 (fun ez=>?_) (fun ez=>?_)
 ·have hw:=zab4 ez
  subst hw
  clear ez
  have e0:=zabu (h:=.not it) eg
  rw [show notB al _ it x=decide (al[x]?=some (.not it)) from by simp [notB],e0] at q
  walk_at "rd"
  rename_i T hT
  exact q _ (Ch.new hT _)
 have w0:=zabk ez
 clear ez
 walk_at "rd"
 refine ite2 (fun ez=>?_) (fun ez=>?_)
 ·have hw:=zab4 ez
  subst hw
  clear ez
  have s0:¬ (Str.ofString "one" = Str.ofString "inner"):=by decide +kernel
  walk_at "rd"
  rename_i H1 d1
  have c1:=c0.trans d1
  (try dsimp only)
  refine ite2 (fun h1=>?_) (fun h1=>?_)
  ·walk_at "rd"
   rename_i H2 d2
   have c2:=c1.trans d2
   rw [show notB al (Str.ofString "one") it x=isO al it from by simp [notB,s0,h1]] at q
   exact q _ c2
  ·rw [show notB al (Str.ofString "one") it x=false from by simp [notB,s0,h1]] at q
   exact q _ c1
 have w1:=zabk ez
 clear ez
 walk_at "rd"
 refine ite2 (fun ez=>?_) (fun ez=>?_)
 ·have hw:=zab4 ez
  subst hw
  clear ez
  have s0:¬ (Str.ofString "zero" = Str.ofString "inner"):=by decide +kernel
  have s1:¬ (Str.ofString "zero" = Str.ofString "one"):=by decide +kernel
  walk_at "rd"
  rename_i H1 d1
  have c1:=c0.trans d1
  (try dsimp only)
  refine ite2 (fun h2=>?_) (fun h2=>?_)
  ·walk_at "rd"
   rename_i H2 d2
   have c2:=c1.trans d2
   rw [show notB al (Str.ofString "zero") it x=isZ al it from by simp [notB,s0,s1,h2]] at q
   exact q _ c2
  ·rw [show notB al (Str.ofString "zero") it x=false from by simp [notB,s0,s1,h2]] at q
   exact q _ c1
 have w2:=zabk ez
 clear ez
 walk_at "rd"
 rw [show notB al why it x=false from by simp [notB,w0,w1,w2]] at q
 exact q _ c0
theorem av33:AF (defScope (top 33)) ["gates", "why", "it", "feeds", "x", "y"]:=⟨by decide +kernel⟩
theorem gl33:AG (defScope (top 33)) ["is_one", "are_opposed", "is_zero"]:=⟨by decide +kernel⟩
def andB (al:List Gt) (why:Str) (it x y:Nat):Bool:=if why = "first" then decide (it=x) && (isO al y || decide (y=x)) else if why = "second" then decide (it=y) && isO al x else if why = "zero" then isZ al it && (isZ al x || (isZ al y || opsd al x y)) else false
def spAndB:Sp:=fun vs H Q _=>∃ (gl fl:Addr) (al:List Gt) (why:Str) (it x y:Nat),vs=[.ref gl,.str why,.int (it:Int),.ref fl]∧GA H gl al∧H fl=some (.lst [.int (x:Int),.int (y:Int)])∧it < al.length∧x < al.length∧y < al.length∧∀ H',Ch [] H H'→Q (.bl (andB al why it x y)) H'
theorem scAndB:FnScope ["gates", "why", "it", "feeds", "x", "y"] ["gates", "why", "it", "feeds"] (defScope (top 33)):=⟨rfl,rfl,rfl,by decide +kernel,rfl,by decide +kernel,by decide +kernel⟩
theorem zar0 (F:Fun K "and_holds" "and_holds" (top 33) f fd) (Dis_zero:DefOk P w K mg base CX0 k "is_zero" ["gates", "number"] (spIsG isZ)) (Dis_one:DefOk P w K mg base CX0 k "is_one" ["gates", "number"] (spIsG isO)) (Dare_opposed:DefOk P w K mg base CX0 k "are_opposed" ["gates", "number", "other"] spOpG):FnOk P w K mg base CX0 (k + 1) f fd ["gates", "why", "it", "feeds"] spAndB:=by
 have nd:=scAndB.nd
 refine F.ok scAndB (fun vs H Q E h=>by obtain ⟨gl,fl,al,why,it,x,y,rfl,_⟩:=h; rfl) (fun cdv A outer s0 H vs Q E hr h=>?_)
 obtain ⟨gl,fl,al,why,it,x,y,rfl,r,hf,li,lx,ly,q⟩:=h
 refine ⟨_,(Pr.h (zaad (zaa1 (i:=4) nd rfl (av33.l 4 rfl) (zaat zaaw (qv av33 3 rfl) zaag (fun _ _=>rfl))) (zaad (zaa1 (i:=5) nd rfl (av33.l 5 rfl) (zaat zaaw (qv av33 3 rfl) zaag (fun _ _=>rfl))) (zaad (zaav (zaar zabh (qv av33 1 rfl) zaas (nomark _)) (zaae (zaak (zaa8 (zaa3 zabh (qv av33 2 rfl) (qv av33 4 rfl) (nomark _)) (zaa9 (zaec (zaai Dis_one hr (gl33.g 0 rfl) pass0 (zaaa (qv av33 0 rfl) (zaaa (qv av33 5 rfl) zaab zaac) zaac) zacg) (zaa9 (zaa3 zabh (qv av33 5 rfl) (qv av33 4 rfl) (nomark _)))))))) zaal) (zaad (zaav (zaar zabh (qv av33 1 rfl) zaas (nomark _)) (zaae (zaak (zaa8 (zaa3 zabh (qv av33 2 rfl) (qv av33 5 rfl) (nomark _)) (zaa9 (zaai Dis_one hr (gl33.g 0 rfl) pass0 (zaaa (qv av33 0 rfl) (zaaa (qv av33 4 rfl) zaab zaac) zaac) zacg))))) zaal) (zaad (zaav (zaar zabh (qv av33 1 rfl) zaas (nomark _)) (zaae (zaak (zaa8 (zaai Dis_zero hr (gl33.g 2 rfl) pass0 (zaaa (qv av33 0 rfl) (zaaa (qv av33 2 rfl) zaab zaac) zaac) zab5) (zaa9 (zaec (zaai Dis_zero hr (gl33.g 2 rfl) pass0 (zaaa (qv av33 0 rfl) (zaaa (qv av33 4 rfl) zaab zaac) zaac) zab5) (zaec (zaai Dis_zero hr (gl33.g 2 rfl) pass0 (zaaa (qv av33 0 rfl) (zaaa (qv av33 5 rfl) zaab zaac) zaac) zab5) (zaa9 (zaai Dare_opposed hr (gl33.g 1 rfl) pass0 (zaaa (qv av33 0 rfl) (zaaa (qv av33 4 rfl) (zaaa (qv av33 5 rfl) zaab zaac) zaac) zaac) zacm)))))))) zaal) (zaae (zaak zabl)))))))),?_⟩
 (try dsimp only [cxOf])
 have c0:=Ch.refl [] H
 walk_at "rd"
 refine ite2 (fun ez=>?_) (fun ez=>?_)
 ·have hw:=zab4 ez
  subst hw
  clear ez
  walk_at "rd"
  (try dsimp only)
  refine ite2 (fun ez=>?_) (fun ez=>?_)
  ·have h3:it=x:=by simp at ez; omega
   clear ez
   walk_at "rd"
   rename_i H1 d1
   have c1:=c0.trans d1
   (try dsimp only)
   refine ite2 (fun h4=>?_) (fun h4=>?_)
   ·rw [show andB al (Str.ofString "first") it x y=true from by simp [andB,h3,h4]] at q
    exact q _ c1
   ·walk_at "rd"
    rw [zag7]
    rw [show andB al (Str.ofString "first") it x y=decide (y=x) from by simp [andB,h3,h4]] at q
    exact q _ c1
  ·have h3:¬ it=x:=by simp at ez; omega
   clear ez
   rw [show andB al (Str.ofString "first") it x y=false from by simp [andB,h3]] at q
   exact q _ c0
 have w0:=zabk ez
 clear ez
 walk_at "rd"
 refine ite2 (fun ez=>?_) (fun ez=>?_)
 ·have hw:=zab4 ez
  subst hw
  clear ez
  have s0:¬ (Str.ofString "second" = Str.ofString "first"):=by decide +kernel
  walk_at "rd"
  (try dsimp only)
  refine ite2 (fun ez=>?_) (fun ez=>?_)
  ·have h5:it=y:=by simp at ez; omega
   clear ez
   walk_at "rd"
   rename_i H1 d1
   have c1:=c0.trans d1
   rw [show andB al (Str.ofString "second") it x y=isO al x from by simp [andB,s0,h5]] at q
   exact q _ c1
  ·have h5:¬ it=y:=by simp at ez; omega
   clear ez
   rw [show andB al (Str.ofString "second") it x y=false from by simp [andB,s0,h5]] at q
   exact q _ c0
 have w1:=zabk ez
 clear ez
 walk_at "rd"
 refine ite2 (fun ez=>?_) (fun ez=>?_)
 ·have hw:=zab4 ez
  subst hw
  clear ez
  have s0:¬ (Str.ofString "zero" = Str.ofString "first"):=by decide +kernel
  have s1:¬ (Str.ofString "zero" = Str.ofString "second"):=by decide +kernel
  walk_at "rd"
  rename_i H1 d1
  have c1:=c0.trans d1
  (try dsimp only)
  refine ite2 (fun h6=>?_) (fun h6=>?_)
  ·walk_at "rd"
   rename_i H2 d2
   have c2:=c1.trans d2
   (try dsimp only)
   refine ite2 (fun h7=>?_) (fun h7=>?_)
   ·rw [show andB al (Str.ofString "zero") it x y=true from by simp [andB,s0,s1,h6,h7]] at q
    exact q _ c2
   ·walk_at "rd"
    rename_i H3 d3
    have c3:=c2.trans d3
    (try dsimp only)
    refine ite2 (fun h8=>?_) (fun h8=>?_)
    ·rw [show andB al (Str.ofString "zero") it x y=true from by simp [andB,s0,s1,h6,h7,h8]] at q
     exact q _ c3
    ·walk_at "rd"
     rename_i H4 d4
     have c4:=c3.trans d4
     rw [show andB al (Str.ofString "zero") it x y=opsd al x y from by simp [andB,s0,s1,h6,h7,h8]] at q
     exact q _ c4
  ·rw [show andB al (Str.ofString "zero") it x y=false from by simp [andB,s0,s1,h6]] at q
   exact q _ c1
 have w2:=zabk ez
 clear ez
 walk_at "rd"
 rw [show andB al why it x y=false from by simp [andB,w0,w1,w2]] at q
 exact q _ c0
theorem av34:AF (defScope (top 34)) ["gates", "why", "it", "feeds", "x", "y"]:=⟨by decide +kernel⟩
theorem gl34:AG (defScope (top 34)) ["is_zero", "are_opposed", "is_one"]:=⟨by decide +kernel⟩
def orB (al:List Gt) (why:Str) (it x y:Nat):Bool:=if why = "first" then decide (it=x) && (isZ al y || decide (y=x)) else if why = "second" then decide (it=y) && isZ al x else if why = "one" then isO al it && (isO al x || (isO al y || opsd al x y)) else false
def spOrB:Sp:=fun vs H Q _=>∃ (gl fl:Addr) (al:List Gt) (why:Str) (it x y:Nat),vs=[.ref gl,.str why,.int (it:Int),.ref fl]∧GA H gl al∧H fl=some (.lst [.int (x:Int),.int (y:Int)])∧it < al.length∧x < al.length∧y < al.length∧∀ H',Ch [] H H'→Q (.bl (orB al why it x y)) H'
theorem scOrB:FnScope ["gates", "why", "it", "feeds", "x", "y"] ["gates", "why", "it", "feeds"] (defScope (top 34)):=⟨rfl,rfl,rfl,by decide +kernel,rfl,by decide +kernel,by decide +kernel⟩
theorem zaug (F:Fun K "or_holds" "or_holds" (top 34) f fd) (Dis_zero:DefOk P w K mg base CX0 k "is_zero" ["gates", "number"] (spIsG isZ)) (Dis_one:DefOk P w K mg base CX0 k "is_one" ["gates", "number"] (spIsG isO)) (Dare_opposed:DefOk P w K mg base CX0 k "are_opposed" ["gates", "number", "other"] spOpG):FnOk P w K mg base CX0 (k + 1) f fd ["gates", "why", "it", "feeds"] spOrB:=by
 have nd:=scOrB.nd
 refine F.ok scOrB (fun vs H Q E h=>by obtain ⟨gl,fl,al,why,it,x,y,rfl,_⟩:=h; rfl) (fun cdv A outer s0 H vs Q E hr h=>?_)
 obtain ⟨gl,fl,al,why,it,x,y,rfl,r,hf,li,lx,ly,q⟩:=h
 refine ⟨_,(Pr.h (zaad (zaa1 (i:=4) nd rfl (av34.l 4 rfl) (zaat zaaw (qv av34 3 rfl) zaag (fun _ _=>rfl))) (zaad (zaa1 (i:=5) nd rfl (av34.l 5 rfl) (zaat zaaw (qv av34 3 rfl) zaag (fun _ _=>rfl))) (zaad (zaav (zaar zabh (qv av34 1 rfl) zaas (nomark _)) (zaae (zaak (zaa8 (zaa3 zabh (qv av34 2 rfl) (qv av34 4 rfl) (nomark _)) (zaa9 (zaec (zaai Dis_zero hr (gl34.g 0 rfl) pass0 (zaaa (qv av34 0 rfl) (zaaa (qv av34 5 rfl) zaab zaac) zaac) zab5) (zaa9 (zaa3 zabh (qv av34 5 rfl) (qv av34 4 rfl) (nomark _)))))))) zaal) (zaad (zaav (zaar zabh (qv av34 1 rfl) zaas (nomark _)) (zaae (zaak (zaa8 (zaa3 zabh (qv av34 2 rfl) (qv av34 5 rfl) (nomark _)) (zaa9 (zaai Dis_zero hr (gl34.g 0 rfl) pass0 (zaaa (qv av34 0 rfl) (zaaa (qv av34 4 rfl) zaab zaac) zaac) zab5))))) zaal) (zaad (zaav (zaar zabh (qv av34 1 rfl) zaas (nomark _)) (zaae (zaak (zaa8 (zaai Dis_one hr (gl34.g 2 rfl) pass0 (zaaa (qv av34 0 rfl) (zaaa (qv av34 2 rfl) zaab zaac) zaac) zacg) (zaa9 (zaec (zaai Dis_one hr (gl34.g 2 rfl) pass0 (zaaa (qv av34 0 rfl) (zaaa (qv av34 4 rfl) zaab zaac) zaac) zacg) (zaec (zaai Dis_one hr (gl34.g 2 rfl) pass0 (zaaa (qv av34 0 rfl) (zaaa (qv av34 5 rfl) zaab zaac) zaac) zacg) (zaa9 (zaai Dare_opposed hr (gl34.g 1 rfl) pass0 (zaaa (qv av34 0 rfl) (zaaa (qv av34 4 rfl) (zaaa (qv av34 5 rfl) zaab zaac) zaac) zaac) zacm)))))))) zaal) (zaae (zaak zabl)))))))),?_⟩
 (try dsimp only [cxOf])
 have c0:=Ch.refl [] H
 walk_at "rd"
 refine ite2 (fun ez=>?_) (fun ez=>?_)
 ·have hw:=zab4 ez
  subst hw
  clear ez
  walk_at "rd"
  (try dsimp only)
  refine ite2 (fun ez=>?_) (fun ez=>?_)
  ·have h9:it=x:=by simp at ez; omega
   clear ez
   walk_at "rd"
   rename_i H1 d1
   have c1:=c0.trans d1
   (try dsimp only)
   refine ite2 (fun h10=>?_) (fun h10=>?_)
   ·rw [show orB al (Str.ofString "first") it x y=true from by simp [orB,h9,h10]] at q
    exact q _ c1
   ·walk_at "rd"
    rw [zag7]
    rw [show orB al (Str.ofString "first") it x y=decide (y=x) from by simp [orB,h9,h10]] at q
    exact q _ c1
  ·have h9:¬ it=x:=by simp at ez; omega
   clear ez
   rw [show orB al (Str.ofString "first") it x y=false from by simp [orB,h9]] at q
   exact q _ c0
 have w0:=zabk ez
 clear ez
 walk_at "rd"
 refine ite2 (fun ez=>?_) (fun ez=>?_)
 ·have hw:=zab4 ez
  subst hw
  clear ez
  have s0:¬ (Str.ofString "second" = Str.ofString "first"):=by decide +kernel
  walk_at "rd"
  (try dsimp only)
  refine ite2 (fun ez=>?_) (fun ez=>?_)
  ·have h11:it=y:=by simp at ez; omega
   clear ez
   walk_at "rd"
   rename_i H1 d1
   have c1:=c0.trans d1
   rw [show orB al (Str.ofString "second") it x y=isZ al x from by simp [orB,s0,h11]] at q
   exact q _ c1
  ·have h11:¬ it=y:=by simp at ez; omega
   clear ez
   rw [show orB al (Str.ofString "second") it x y=false from by simp [orB,s0,h11]] at q
   exact q _ c0
 have w1:=zabk ez
 clear ez
 walk_at "rd"
 refine ite2 (fun ez=>?_) (fun ez=>?_)
 ·have hw:=zab4 ez
  subst hw
  clear ez
  have s0:¬ (Str.ofString "one" = Str.ofString "first"):=by decide +kernel
  have s1:¬ (Str.ofString "one" = Str.ofString "second"):=by decide +kernel
  walk_at "rd"
  rename_i H1 d1
  have c1:=c0.trans d1
  (try dsimp only)
  refine ite2 (fun h12=>?_) (fun h12=>?_)
  ·walk_at "rd"
   rename_i H2 d2
   have c2:=c1.trans d2
   (try dsimp only)
   refine ite2 (fun h13=>?_) (fun h13=>?_)
   ·rw [show orB al (Str.ofString "one") it x y=true from by simp [orB,s0,s1,h12,h13]] at q
    exact q _ c2
   ·walk_at "rd"
    rename_i H3 d3
    have c3:=c2.trans d3
    (try dsimp only)
    refine ite2 (fun h14=>?_) (fun h14=>?_)
    ·rw [show orB al (Str.ofString "one") it x y=true from by simp [orB,s0,s1,h12,h13,h14]] at q
     exact q _ c3
    ·walk_at "rd"
     rename_i H4 d4
     have c4:=c3.trans d4
     rw [show orB al (Str.ofString "one") it x y=opsd al x y from by simp [orB,s0,s1,h12,h13,h14]] at q
     exact q _ c4
  ·rw [show orB al (Str.ofString "one") it x y=false from by simp [orB,s0,s1,h12]] at q
   exact q _ c1
 have w2:=zabk ez
 clear ez
 walk_at "rd"
 rw [show orB al why it x y=false from by simp [orB,w0,w1,w2]] at q
 exact q _ c0
theorem av35:AF (defScope (top 35)) ["gates", "why", "it", "feeds", "x", "y"]:=⟨by decide +kernel⟩
theorem gl35:AG (defScope (top 35)) ["is_zero", "are_opposed", "is_one"]:=⟨by decide +kernel⟩
def xorB (al:List Gt) (why:Str) (it x y:Nat):Bool:=if why = "first" then decide (it=x) && isZ al y else if why = "second" then decide (it=y) && isZ al x else if why = "zero" then isZ al it && decide (x=y) else if why = "one" then isO al it && opsd al x y else if why = "not" then (isO al y && opsd al it x) || (isO al x && opsd al it y) else false
def spXorB:Sp:=fun vs H Q _=>∃ (gl fl:Addr) (al:List Gt) (why:Str) (it x y:Nat),vs=[.ref gl,.str why,.int (it:Int),.ref fl]∧GA H gl al∧H fl=some (.lst [.int (x:Int),.int (y:Int)])∧it < al.length∧x < al.length∧y < al.length∧∀ H',Ch [] H H'→Q (.bl (xorB al why it x y)) H'
theorem scXorB:FnScope ["gates", "why", "it", "feeds", "x", "y"] ["gates", "why", "it", "feeds"] (defScope (top 35)):=⟨rfl,rfl,rfl,by decide +kernel,rfl,by decide +kernel,by decide +kernel⟩
theorem zar1 (F:Fun K "xor_holds" "xor_holds" (top 35) f fd) (Dis_zero:DefOk P w K mg base CX0 k "is_zero" ["gates", "number"] (spIsG isZ)) (Dis_one:DefOk P w K mg base CX0 k "is_one" ["gates", "number"] (spIsG isO)) (Dare_opposed:DefOk P w K mg base CX0 k "are_opposed" ["gates", "number", "other"] spOpG):FnOk P w K mg base CX0 (k + 1) f fd ["gates", "why", "it", "feeds"] spXorB:=by
 have nd:=scXorB.nd
 refine F.ok scXorB (fun vs H Q E h=>by obtain ⟨gl,fl,al,why,it,x,y,rfl,_⟩:=h; rfl) (fun cdv A outer s0 H vs Q E hr h=>?_)
 obtain ⟨gl,fl,al,why,it,x,y,rfl,r,hf,li,lx,ly,q⟩:=h
 refine ⟨_,(Pr.h (zaad (zaa1 (i:=4) nd rfl (av35.l 4 rfl) (zaat zaaw (qv av35 3 rfl) zaag (fun _ _=>rfl))) (zaad (zaa1 (i:=5) nd rfl (av35.l 5 rfl) (zaat zaaw (qv av35 3 rfl) zaag (fun _ _=>rfl))) (zaad (zaav (zaar zabh (qv av35 1 rfl) zaas (nomark _)) (zaae (zaak (zaa8 (zaa3 zabh (qv av35 2 rfl) (qv av35 4 rfl) (nomark _)) (zaa9 (zaai Dis_zero hr (gl35.g 0 rfl) pass0 (zaaa (qv av35 0 rfl) (zaaa (qv av35 5 rfl) zaab zaac) zaac) zab5))))) zaal) (zaad (zaav (zaar zabh (qv av35 1 rfl) zaas (nomark _)) (zaae (zaak (zaa8 (zaa3 zabh (qv av35 2 rfl) (qv av35 5 rfl) (nomark _)) (zaa9 (zaai Dis_zero hr (gl35.g 0 rfl) pass0 (zaaa (qv av35 0 rfl) (zaaa (qv av35 4 rfl) zaab zaac) zaac) zab5))))) zaal) (zaad (zaav (zaar zabh (qv av35 1 rfl) zaas (nomark _)) (zaae (zaak (zaa8 (zaai Dis_zero hr (gl35.g 0 rfl) pass0 (zaaa (qv av35 0 rfl) (zaaa (qv av35 2 rfl) zaab zaac) zaac) zab5) (zaa9 (zaa3 zabh (qv av35 4 rfl) (qv av35 5 rfl) (nomark _)))))) zaal) (zaad (zaav (zaar zabh (qv av35 1 rfl) zaas (nomark _)) (zaae (zaak (zaa8 (zaai Dis_one hr (gl35.g 2 rfl) pass0 (zaaa (qv av35 0 rfl) (zaaa (qv av35 2 rfl) zaab zaac) zaac) zacg) (zaa9 (zaai Dare_opposed hr (gl35.g 1 rfl) pass0 (zaaa (qv av35 0 rfl) (zaaa (qv av35 4 rfl) (zaaa (qv av35 5 rfl) zaab zaac) zaac) zaac) zacm))))) zaal) (zaad (zaav (zabt (zadq (zaar zabh (qv av35 1 rfl) zaas (nomark _)) (zadq (zaay (zaai Dis_one hr (gl35.g 2 rfl) pass0 (zaaa (qv av35 0 rfl) (zaaa (qv av35 5 rfl) zaab zaac) zaac) zacg)) (zade (zaay (zaai Dare_opposed hr (gl35.g 1 rfl) pass0 (zaaa (qv av35 0 rfl) (zaaa (qv av35 2 rfl) (zaaa (qv av35 4 rfl) zaab zaac) zaac) zaac) zacm)))))) (zaae (zaak zabl)) zaal) (zaae (zaak (zaa8 (zaa3 zabh (qv av35 1 rfl) zaas (nomark _)) (zaa8 (zaai Dis_one hr (gl35.g 2 rfl) pass0 (zaaa (qv av35 0 rfl) (zaaa (qv av35 4 rfl) zaab zaac) zaac) zacg) (zaa9 (zaai Dare_opposed hr (gl35.g 1 rfl) pass0 (zaaa (qv av35 0 rfl) (zaaa (qv av35 2 rfl) (zaaa (qv av35 5 rfl) zaab zaac) zaac) zaac) zacm)))))))))))))),?_⟩
 (try dsimp only [cxOf])
 have c0:=Ch.refl [] H
 walk_at "rd"
 refine ite2 (fun ez=>?_) (fun ez=>?_)
 ·have hw:=zab4 ez
  subst hw
  clear ez
  walk_at "rd"
  (try dsimp only)
  refine ite2 (fun ez=>?_) (fun ez=>?_)
  ·have h15:it=x:=by simp at ez; omega
   clear ez
   walk_at "rd"
   rename_i H1 d1
   have c1:=c0.trans d1
   rw [show xorB al (Str.ofString "first") it x y=isZ al y from by simp [xorB,h15]] at q
   exact q _ c1
  ·have h15:¬ it=x:=by simp at ez; omega
   clear ez
   rw [show xorB al (Str.ofString "first") it x y=false from by simp [xorB,h15]] at q
   exact q _ c0
 have w0:=zabk ez
 clear ez
 walk_at "rd"
 refine ite2 (fun ez=>?_) (fun ez=>?_)
 ·have hw:=zab4 ez
  subst hw
  clear ez
  have s0:¬ (Str.ofString "second" = Str.ofString "first"):=by decide +kernel
  walk_at "rd"
  (try dsimp only)
  refine ite2 (fun ez=>?_) (fun ez=>?_)
  ·have h16:it=y:=by simp at ez; omega
   clear ez
   walk_at "rd"
   rename_i H1 d1
   have c1:=c0.trans d1
   rw [show xorB al (Str.ofString "second") it x y=isZ al x from by simp [xorB,s0,h16]] at q
   exact q _ c1
  ·have h16:¬ it=y:=by simp at ez; omega
   clear ez
   rw [show xorB al (Str.ofString "second") it x y=false from by simp [xorB,s0,h16]] at q
   exact q _ c0
 have w1:=zabk ez
 clear ez
 walk_at "rd"
 refine ite2 (fun ez=>?_) (fun ez=>?_)
 ·have hw:=zab4 ez
  subst hw
  clear ez
  have s0:¬ (Str.ofString "zero" = Str.ofString "first"):=by decide +kernel
  have s1:¬ (Str.ofString "zero" = Str.ofString "second"):=by decide +kernel
  walk_at "rd"
  rename_i H1 d1
  have c1:=c0.trans d1
  (try dsimp only)
  refine ite2 (fun h17=>?_) (fun h17=>?_)
  ·walk_at "rd"
   rw [zag7]
   rw [show xorB al (Str.ofString "zero") it x y=decide (x=y) from by simp [xorB,s0,s1,h17]] at q
   exact q _ c1
  ·rw [show xorB al (Str.ofString "zero") it x y=false from by simp [xorB,s0,s1,h17]] at q
   exact q _ c1
 have w2:=zabk ez
 clear ez
 walk_at "rd"
 refine ite2 (fun ez=>?_) (fun ez=>?_)
 ·have hw:=zab4 ez
  subst hw
  clear ez
  have s0:¬ (Str.ofString "one" = Str.ofString "first"):=by decide +kernel
  have s1:¬ (Str.ofString "one" = Str.ofString "second"):=by decide +kernel
  have s2:¬ (Str.ofString "one" = Str.ofString "zero"):=by decide +kernel
  walk_at "rd"
  rename_i H1 d1
  have c1:=c0.trans d1
  (try dsimp only)
  refine ite2 (fun h18=>?_) (fun h18=>?_)
  ·walk_at "rd"
   rename_i H2 d2
   have c2:=c1.trans d2
   rw [show xorB al (Str.ofString "one") it x y=opsd al x y from by simp [xorB,s0,s1,s2,h18]] at q
   exact q _ c2
  ·rw [show xorB al (Str.ofString "one") it x y=false from by simp [xorB,s0,s1,s2,h18]] at q
   exact q _ c1
 have w3:=zabk ez
 clear ez
 by_cases hn:why=Str.ofString "not"
 ·subst hn
  rw [show xorB al (Str.ofString "not") it x y=((isO al y && opsd al it x) || (isO al x && opsd al it y)) from by simp [xorB,w0,w1,w2,w3]] at q
  walk_at "rd"
  rename_i H1 d1
  have c1:=c0.trans d1
  (try dsimp only)
  refine ite2 (fun h1=>?_) (fun h1=>?_)
  ·walk_at "rd"
   rename_i H2 d2
   have c2:=c1.trans d2
   (try dsimp only)
   refine ite2 (fun h2=>?_) (fun h2=>?_)
   ·walk_at "rd"
    rw [show ((isO al y && opsd al it x) || (isO al x && opsd al it y))=true from by simp [h1,h2]] at q
    exact q _ c2
   ·walk_at "rd"
    rename_i H3 d3
    have c3:=c2.trans d3
    (try dsimp only)
    refine ite2 (fun t=>?_) (fun t=>?_)
    ·walk_at "rd"
     rename_i H4 d4
     have c4:=c3.trans d4
     (try dsimp only)
     rw [show ((isO al y && opsd al it x) || (isO al x && opsd al it y))=opsd al it y from by simp [h1,h2,t]] at q
     exact q _ c4
    ·rw [show ((isO al y && opsd al it x) || (isO al x && opsd al it y))=false from by simp [h1,h2,t]] at q
     exact q _ c3
  ·refine iteF ?_
   walk_at "rd"
   rename_i H2 d2
   have c2:=c1.trans d2
   (try dsimp only)
   refine ite2 (fun t=>?_) (fun t=>?_)
   ·walk_at "rd"
    rename_i H3 d3
    have c3:=c2.trans d3
    (try dsimp only)
    rw [show ((isO al y && opsd al it x) || (isO al x && opsd al it y))=opsd al it y from by simp [h1,t]] at q
    exact q _ c3
   ·rw [show ((isO al y && opsd al it x) || (isO al x && opsd al it y))=false from by simp [h1,t]] at q
    exact q _ c2
 have wn:decide (V.str why=V.str "not")=false:=decide_eq_false fun z=>hn (V.str.inj z)
 walk_at "rd"
 rw [wn]
 refine iteF ?_
 refine iteF ?_
 walk_at "rd"
 rw [wn]
 refine iteF ?_
 rw [show xorB al why it x y=false from by simp [xorB,hn,w0,w1,w2,w3]] at q
 exact q _ c0
theorem av36:AF (defScope (top 36)) ["gates", "why", "it", "feeds", "x", "y", "z"]:=⟨by decide +kernel⟩
theorem gl36:AG (defScope (top 36)) ["is_one", "is_zero", "are_opposed"]:=⟨by decide +kernel⟩
def pickB (al:List Gt) (why:Str) (it x y z:Nat):Bool:=if why = "second" then decide (it=y) && (isO al x || decide (y=z)) else if why = "third" then decide (it=z) && isZ al x else if why = "first" then decide (it=x) && (isO al y && isZ al z) else if why = "not" then opsd al it x && (isZ al y && isO al z) else false
def spPickB:Sp:=fun vs H Q _=>∃ (gl fl:Addr) (al:List Gt) (why:Str) (it x y z:Nat),vs=[.ref gl,.str why,.int (it:Int),.ref fl]∧GA H gl al∧H fl=some (.lst [.int (x:Int),.int (y:Int),.int (z:Int)])∧it < al.length∧x < al.length∧y < al.length∧z < al.length∧∀ H',Ch [] H H'→Q (.bl (pickB al why it x y z)) H'
theorem scPickB:FnScope ["gates", "why", "it", "feeds", "x", "y", "z"] ["gates", "why", "it", "feeds"] (defScope (top 36)):=⟨rfl,rfl,rfl,by decide +kernel,rfl,by decide +kernel,by decide +kernel⟩
theorem zao9 (F:Fun K "pick_holds" "pick_holds" (top 36) f fd) (Dis_zero:DefOk P w K mg base CX0 k "is_zero" ["gates", "number"] (spIsG isZ)) (Dis_one:DefOk P w K mg base CX0 k "is_one" ["gates", "number"] (spIsG isO)) (Dare_opposed:DefOk P w K mg base CX0 k "are_opposed" ["gates", "number", "other"] spOpG):FnOk P w K mg base CX0 (k + 1) f fd ["gates", "why", "it", "feeds"] spPickB:=by
 have nd:=scPickB.nd
 refine F.ok scPickB (fun vs H Q E h=>by obtain ⟨gl,fl,al,why,it,x,y,z,rfl,_⟩:=h; rfl) (fun cdv A outer s0 H vs Q E hr h=>?_)
 obtain ⟨gl,fl,al,why,it,x,y,z,rfl,r,hf,li,lx,ly,lz,q⟩:=h
 refine ⟨_,(Pr.h (zaad (zaa1 (i:=4) nd rfl (av36.l 4 rfl) (zaat zaaw (qv av36 3 rfl) zaag (fun _ _=>rfl))) (zaad (zaa1 (i:=5) nd rfl (av36.l 5 rfl) (zaat zaaw (qv av36 3 rfl) zaag (fun _ _=>rfl))) (zaad (zaa1 (i:=6) nd rfl (av36.l 6 rfl) (zaat zaaw (qv av36 3 rfl) zaag (fun _ _=>rfl))) (zaad (zaav (zaar zabh (qv av36 1 rfl) zaas (nomark _)) (zaae (zaak (zaa8 (zaa3 zabh (qv av36 2 rfl) (qv av36 5 rfl) (nomark _)) (zaa9 (zaec (zaai Dis_one hr (gl36.g 0 rfl) pass0 (zaaa (qv av36 0 rfl) (zaaa (qv av36 4 rfl) zaab zaac) zaac) zacg) (zaa9 (zaa3 zabh (qv av36 5 rfl) (qv av36 6 rfl) (nomark _)))))))) zaal) (zaad (zaav (zaar zabh (qv av36 1 rfl) zaas (nomark _)) (zaae (zaak (zaa8 (zaa3 zabh (qv av36 2 rfl) (qv av36 6 rfl) (nomark _)) (zaa9 (zaai Dis_zero hr (gl36.g 1 rfl) pass0 (zaaa (qv av36 0 rfl) (zaaa (qv av36 4 rfl) zaab zaac) zaac) zab5))))) zaal) (zaad (zaav (zaar zabh (qv av36 1 rfl) zaas (nomark _)) (zaae (zaak (zaa8 (zaa3 zabh (qv av36 2 rfl) (qv av36 4 rfl) (nomark _)) (zaa8 (zaai Dis_one hr (gl36.g 0 rfl) pass0 (zaaa (qv av36 0 rfl) (zaaa (qv av36 5 rfl) zaab zaac) zaac) zacg) (zaa9 (zaai Dis_zero hr (gl36.g 1 rfl) pass0 (zaaa (qv av36 0 rfl) (zaaa (qv av36 6 rfl) zaab zaac) zaac) zab5)))))) zaal) (zaad (zaav (zaar zabh (qv av36 1 rfl) zaas (nomark _)) (zaae (zaak (zaa8 (zaai Dare_opposed hr (gl36.g 2 rfl) pass0 (zaaa (qv av36 0 rfl) (zaaa (qv av36 2 rfl) (zaaa (qv av36 4 rfl) zaab zaac) zaac) zaac) zacm) (zaa8 (zaai Dis_zero hr (gl36.g 1 rfl) pass0 (zaaa (qv av36 0 rfl) (zaaa (qv av36 5 rfl) zaab zaac) zaac) zab5) (zaa9 (zaai Dis_one hr (gl36.g 0 rfl) pass0 (zaaa (qv av36 0 rfl) (zaaa (qv av36 6 rfl) zaab zaac) zaac) zacg)))))) zaal) (zaae (zaak zabl)))))))))),?_⟩
 (try dsimp only [cxOf])
 have c0:=Ch.refl [] H
 walk_at "rd"
 refine ite2 (fun ez=>?_) (fun ez=>?_)
 ·have hw:=zab4 ez
  subst hw
  clear ez
  walk_at "rd"
  (try dsimp only)
  refine ite2 (fun ez=>?_) (fun ez=>?_)
  ·have h19:it=y:=by simp at ez; omega
   clear ez
   walk_at "rd"
   rename_i H1 d1
   have c1:=c0.trans d1
   (try dsimp only)
   refine ite2 (fun h20=>?_) (fun h20=>?_)
   ·rw [show pickB al (Str.ofString "second") it x y z=true from by simp [pickB,h19,h20]] at q
    exact q _ c1
   ·walk_at "rd"
    rw [zag7]
    rw [show pickB al (Str.ofString "second") it x y z=decide (y=z) from by simp [pickB,h19,h20]] at q
    exact q _ c1
  ·have h19:¬ it=y:=by simp at ez; omega
   clear ez
   rw [show pickB al (Str.ofString "second") it x y z=false from by simp [pickB,h19]] at q
   exact q _ c0
 have w0:=zabk ez
 clear ez
 walk_at "rd"
 refine ite2 (fun ez=>?_) (fun ez=>?_)
 ·have hw:=zab4 ez
  subst hw
  clear ez
  have s0:¬ (Str.ofString "third" = Str.ofString "second"):=by decide +kernel
  walk_at "rd"
  (try dsimp only)
  refine ite2 (fun ez=>?_) (fun ez=>?_)
  ·have h21:it=z:=by simp at ez; omega
   clear ez
   walk_at "rd"
   rename_i H1 d1
   have c1:=c0.trans d1
   rw [show pickB al (Str.ofString "third") it x y z=isZ al x from by simp [pickB,s0,h21]] at q
   exact q _ c1
  ·have h21:¬ it=z:=by simp at ez; omega
   clear ez
   rw [show pickB al (Str.ofString "third") it x y z=false from by simp [pickB,s0,h21]] at q
   exact q _ c0
 have w1:=zabk ez
 clear ez
 walk_at "rd"
 refine ite2 (fun ez=>?_) (fun ez=>?_)
 ·have hw:=zab4 ez
  subst hw
  clear ez
  have s0:¬ (Str.ofString "first" = Str.ofString "second"):=by decide +kernel
  have s1:¬ (Str.ofString "first" = Str.ofString "third"):=by decide +kernel
  walk_at "rd"
  (try dsimp only)
  refine ite2 (fun ez=>?_) (fun ez=>?_)
  ·have h22:it=x:=by simp at ez; omega
   clear ez
   walk_at "rd"
   rename_i H1 d1
   have c1:=c0.trans d1
   (try dsimp only)
   refine ite2 (fun h23=>?_) (fun h23=>?_)
   ·walk_at "rd"
    rename_i H2 d2
    have c2:=c1.trans d2
    rw [show pickB al (Str.ofString "first") it x y z=isZ al z from by simp [pickB,s0,s1,h22,h23]] at q
    exact q _ c2
   ·rw [show pickB al (Str.ofString "first") it x y z=false from by simp [pickB,s0,s1,h22,h23]] at q
    exact q _ c1
  ·have h22:¬ it=x:=by simp at ez; omega
   clear ez
   rw [show pickB al (Str.ofString "first") it x y z=false from by simp [pickB,s0,s1,h22]] at q
   exact q _ c0
 have w2:=zabk ez
 clear ez
 walk_at "rd"
 refine ite2 (fun ez=>?_) (fun ez=>?_)
 ·have hw:=zab4 ez
  subst hw
  clear ez
  have s0:¬ (Str.ofString "not" = Str.ofString "second"):=by decide +kernel
  have s1:¬ (Str.ofString "not" = Str.ofString "third"):=by decide +kernel
  have s2:¬ (Str.ofString "not" = Str.ofString "first"):=by decide +kernel
  walk_at "rd"
  rename_i H1 d1
  have c1:=c0.trans d1
  (try dsimp only)
  refine ite2 (fun h24=>?_) (fun h24=>?_)
  ·walk_at "rd"
   rename_i H2 d2
   have c2:=c1.trans d2
   (try dsimp only)
   refine ite2 (fun h25=>?_) (fun h25=>?_)
   ·walk_at "rd"
    rename_i H3 d3
    have c3:=c2.trans d3
    rw [show pickB al (Str.ofString "not") it x y z=isO al z from by simp [pickB,s0,s1,s2,h24,h25]] at q
    exact q _ c3
   ·rw [show pickB al (Str.ofString "not") it x y z=false from by simp [pickB,s0,s1,s2,h24,h25]] at q
    exact q _ c2
  ·rw [show pickB al (Str.ofString "not") it x y z=false from by simp [pickB,s0,s1,s2,h24]] at q
   exact q _ c1
 have w3:=zabk ez
 clear ez
 walk_at "rd"
 rw [show pickB al why it x y z=false from by simp [pickB,w0,w1,w2,w3]] at q
 exact q _ c0
end
end

section
local macro_rules | `(tactic| walk_at "user")=>`(tactic| first
 | (apply GA.ch; (focus with_reducible assumption); (focus walk_at "ch"))
 | exact Gt.vs_sca _)
def Gt.two:Gt→Bool
 | .and _ _=>true
 | .or _ _=>true
 | .xor _ _=>true
 | _=>false
def Gt.trn (ρ:Nat→Nat):Gt→Gt
 | .and a b=>.and (ρ b) (ρ a)
 | .or a b=>.or (ρ b) (ρ a)
 | .xor a b=>.xor (ρ b) (ρ a)
 | g=>g
def ruB (al:List Gt) (ρ:Nat→Nat) (it:Nat) (why:Str):Gt→Bool
 | .not a=>notB al why it (ρ a)
 | .and a b=>andB al why it (ρ a) (ρ b)
 | .or a b=>orB al why it (ρ a) (ρ b)
 | .xor a b=>xorB al why it (ρ a) (ρ b)
 | .pick a b c=>pickB al why it (ρ a) (ρ b) (ρ c)
 | _=>false
def phB (al:List Gt) (ρ:Nat→Nat) (it:Nat) (why:Str):Gt→Bool
 | .keep f a=>decide (why = "keep") && decide (al[it]?=some (.keep f (ρ a)))
 | g=>if why = "same" then decide (al[it]?=some (g.ren ρ)) else if why = "turned" ∧ g.two=true then decide (al[it]?=some (g.trn ρ)) else ruB al ρ it why g
theorem zad0 {al:List Gt}{ρ:Nat→Nat}{it:Nat}{g:Gt} (hk:g.isKeep=false):phB al ρ it "same" g=decide (al[it]?=some (g.ren ρ)):=by
 cases g <;> first | (cases hk; done) | simp [phB]
theorem zag8 {al:List Gt}{ρ:Nat→Nat}{it:Nat}{g:Gt} (h2:g.two=true):phB al ρ it "turned" g=decide (al[it]?=some (g.trn ρ)):=by
 have s:¬ (Str.ofString "turned" = Str.ofString "same"):=by decide +kernel
 cases g <;> first | (cases h2; done) | simp [phB,s,Gt.two]
theorem zabp {al:List Gt}{ρ:Nat→Nat}{it:Nat}{why:Str}{g:Gt} (hk:g.isKeep=false) (h0:¬ why = "same") (h1:¬ (why = "turned" ∧ g.two=true)):phB al ρ it why g=ruB al ρ it why g:=by
 cases g <;> first | (cases hk; done) | (simp only [phB]; rw [if_neg h0,if_neg h1])
def RU:List Str:=["not", "and", "or", "xor", "pick"]
def spRu (wo:Str):Sp:=fun vs H Q E=>(wo = "not" ∧ spNotB vs H Q E)∨(wo = "and" ∧ spAndB vs H Q E)∨(wo = "or" ∧ spOrB vs H Q E)∨(wo = "xor" ∧ spXorB vs H Q E)∨(wo = "pick" ∧ spPickB vs H Q E)
section
variable {P:Program}{w:World}{K:PySem.W.Frag}{mg:Str→Option Value}{base:Heap}{f:Addr}{fd:FuncData}{k:Nat}
theorem zakk:Nd "RULES" := by decide +kernel
theorem av38:AF (defScope (top 38)) ["gates", "gate", "it", "why", "feeds", "word"]:=⟨by decide +kernel⟩
theorem gl38:AG (defScope (top 38)) ["tuple", "RULES"]:=⟨by decide +kernel⟩
def spPH:Sp:=fun vs H Q _=>∃ (gl p fl:Addr) (al:List Gt) (g:Gt) (it:Nat) (why:Str) (ρ:Nat→Nat),vs=[.ref gl,.ref p,.int (it:Int),.str why,.ref fl]∧GA H gl al∧H p=some (.tup g.vs)∧g≠.inp∧H fl=some (.lst (g.feeds.map fun a=>V.int ((ρ a:Nat):Int)))∧it < al.length∧(∀ a∈g.feeds,ρ a < al.length)∧∀ H',Ch [] H H'→Q (.bl (phB al ρ it why g)) H'
theorem scPH:FnScope ["gates", "gate", "it", "why", "feeds", "word"] ["gates", "gate", "it", "why", "feeds"] (defScope (top 38)):=⟨rfl,rfl,rfl,by decide +kernel,rfl,by decide +kernel,by decide +kernel⟩
theorem zave {ra:Addr}{rkv:List (Key × V)}{spt:Addr→Sp}{At:Addr→Prop} (F:Fun K "pair_holds" "pair_holds" (top 38) f fd) (T_RULES:TabOk P w K mg base CX0 k ["gates", "why", "it", "feeds"] spt At) (m_RULES:mg "RULES" = some (.ref ra)) (hKD:KD P w K ra rkv)
  (hT:∀ wo∈RU,∃ f,valV rkv (.inr wo)=some (.ref f)∧At f∧spt f=spRu wo) (hN:∀ wo,wo ∉ RU→valV rkv (.inr wo)=none) (z_tuple:mg "tuple" = none):FnOk P w K mg base CX0 (k + 1) f fd ["gates", "gate", "it", "why", "feeds"] spPH:=by
 have nd:=scPH.nd
 refine F.ok scPH (fun vs H Q E h=>by obtain ⟨gl,p,fl,al,g,it,why,ρ,rfl,_⟩:=h; rfl) (fun cdv A outer s0 H vs Q E hr h=>?_)
 obtain ⟨gl,p,fl,al,g,it,why,ρ,rfl,r,hp,ni,hf,li,lf,q⟩:=h
 refine ⟨_,(Pr.h (zaad (zaa1 (i:=5) nd rfl (av38.l 5 rfl) (zaat zaa0 (qv av38 1 rfl) zaag (fun _ _=>rfl))) (zaad (zaav (zaar zabh (qv av38 5 rfl) zaas (nomark _)) (zaae (zaak (zaa8 (zaa3 zabh (qv av38 3 rfl) zaas (nomark _)) (zaa9 (zaa3 (zadc hr.units) (zaat zaaw (qv av38 0 rfl) (qv av38 2 rfl) (fun _ _=>rfl)) (zaax (zaaa zaas (zaaa (zaat zaa0 (qv av38 1 rfl) zaag (fun _ _=>rfl)) (zaaa (zaat zaaw (qv av38 4 rfl) zaag (fun _ _=>rfl)) zaab zaaq) zaaq) zaaj)) (nomark _)))))) zaal) (zaad (zaav (zaar zabh (qv av38 3 rfl) zaas (nomark _)) (zaae (zaak (zaa3 (zadc hr.units) (zaat zaaw (qv av38 0 rfl) (qv av38 2 rfl) (fun _ _=>rfl)) (zabd zab0 (gl38.g 0 rfl) z_tuple zabm (zaaa (zaa4 zaht (zact (zaaa (qv av38 5 rfl) zaab zaac)) (qv av38 4 rfl)) zaab zaco) zabn zabo) (nomark _)))) zaal) (zaad (zaav (zabt (zadq (zaar zabh (qv av38 3 rfl) zaas (nomark _)) (zade (zaar zaea (qv av38 5 rfl) (zaax (zaaa zaas (zaaa zaas (zaaa zaas zaab zaaj) zaaj) zaaj)) rfl)))) (zaae (zaak (zaa3 (zadc hr.units) (zaat zaaw (qv av38 0 rfl) (qv av38 2 rfl) (fun _ _=>rfl)) (zaax (zaaa (qv av38 5 rfl) (zaaa (zaat zaaw (qv av38 4 rfl) zaag (fun _ _=>rfl)) (zaaa (zaat zaaw (qv av38 4 rfl) zaag (fun _ _=>rfl)) zaab zaaq) zaaq) zaac)) (nomark _)))) zaal) (zaae (zaak (zaa8 (zaa3 zakx (qv av38 5 rfl) (zad3 (v:=.ref _) (gl38.g 1 rfl) m_RULES rfl zakk) rfl) (zaa9 (zamk T_RULES hr pass0 (zal8 (zad3 (v:=.ref _) (gl38.g 1 rfl) m_RULES rfl zakk) (qv av38 5 rfl) (fun _ _=>rfl)) (zaaa (qv av38 0 rfl) (zaaa (qv av38 3 rfl) (zaaa (qv av38 2 rfl) (zaaa (qv av38 4 rfl) zaab zaac) zaac) zaac) zaac))))))))))),?_⟩
 (try dsimp only [cxOf])
 obtain ⟨t,et⟩:∃ t,al[it]?=some t:=⟨_,List.getElem?_eq_getElem li⟩
 obtain ⟨xs,pt,hg,at1,hpt,lx⟩:=r.at et
 have sct:=Gt.vs_sca t
 cases g with
 | inp=>exact absurd rfl ni
 | keep ff a =>
  have hp:H p=some (.tup [.str "keep",.int ff,.int a]):=hp
  have hf:H fl=some (.lst [.int ((ρ a:Nat):Int)]):=hf
  have q:∀ H',Ch [] H H'→Q (.bl (decide (why = "keep") && decide (al[it]?=some (.keep ff (ρ a))))) H':=q
  have sc2:=Gt.vs_sca (.keep ff (ρ a))
  rw [zabu et] at q
  walk_at "rd"
  refine ite2 (fun ez=>?_) (fun ez=>?_)
  ·have hw:=zab4 ez
   subst hw
   rw [decide_eq_true rfl,Bool.true_and] at q
   walk_at "rd"
   rename_i T hT
   exact q _ (Ch.new hT _)
  ·have hw:=zabk ez
   rw [decide_eq_false hw,Bool.false_and] at q
   walk_at "rd"
   exact q _ (Ch.refl _ _)
 | zero =>
  have hp:H p=some (.tup [.str "zero"]):=hp
  have hf:H fl=some (.lst []):=hf
  have ev:=hN "zero" (by decide +kernel)
  have e3:inV (V.str "zero") [.str "and",.str "or",.str "xor"]=false:=by decide +kernel
  walk_at "rd"
  refine ite2 (fun ez=>?_) (fun ez=>?_)
  ·have hw:=zab4 ez
   subst hw
   rw [zad0 rfl,zabu et] at q
   have sc2:=Gt.vs_sca (Gt.zero)
   walk_at "rd"
   rename_i e1 h1 e2 h2 e4 h4
   exact q _ (((Ch.new h1 _).trans (Ch.new h2 _)).trans (Ch.new h4 _))
  have w0:=zabk ez
  clear ez
  walk_at "rd"
  refine ite2 (fun ez=>?_) (fun ez=>?_)
  ·have hw:=zab4 ez
   subst hw
   rw [zabp rfl w0 (fun z=>by cases z.2)] at q
   walk_at "rd"
   rename_i e1 h1
   rw [ev]
   refine iteF ?_
   exact q _ (Ch.new h1 _)
  ·have w1:=zabk ez
   clear ez
   refine iteF ?_
   rw [zabp rfl w0 (fun z=>w1 z.1)] at q
   walk_at "rd"
   rw [ev]
   refine iteF ?_
   exact q _ (Ch.refl _ _)
 | one =>
  have hp:H p=some (.tup [.str "one"]):=hp
  have hf:H fl=some (.lst []):=hf
  have ev:=hN "one" (by decide +kernel)
  have e3:inV (V.str "one") [.str "and",.str "or",.str "xor"]=false:=by decide +kernel
  walk_at "rd"
  refine ite2 (fun ez=>?_) (fun ez=>?_)
  ·have hw:=zab4 ez
   subst hw
   rw [zad0 rfl,zabu et] at q
   have sc2:=Gt.vs_sca (Gt.one)
   walk_at "rd"
   rename_i e1 h1 e2 h2 e4 h4
   exact q _ (((Ch.new h1 _).trans (Ch.new h2 _)).trans (Ch.new h4 _))
  have w0:=zabk ez
  clear ez
  walk_at "rd"
  refine ite2 (fun ez=>?_) (fun ez=>?_)
  ·have hw:=zab4 ez
   subst hw
   rw [zabp rfl w0 (fun z=>by cases z.2)] at q
   walk_at "rd"
   rename_i e1 h1
   rw [ev]
   refine iteF ?_
   exact q _ (Ch.new h1 _)
  ·have w1:=zabk ez
   clear ez
   refine iteF ?_
   rw [zabp rfl w0 (fun z=>w1 z.1)] at q
   walk_at "rd"
   rw [ev]
   refine iteF ?_
   exact q _ (Ch.refl _ _)
 | not a =>
  have hp:H p=some (.tup [.str "not",.int a]):=hp
  have hf:H fl=some (.lst [.int ((ρ a:Nat):Int)]):=hf
  obtain ⟨tf,ev,at_,esp⟩:=hT "not" (by decide +kernel)
  have la:=lf a (by simp [Gt.feeds])
  have e3:inV (V.str "not") [.str "and",.str "or",.str "xor"]=false:=by decide +kernel
  walk_at "rd"
  refine ite2 (fun ez=>?_) (fun ez=>?_)
  ·have hw:=zab4 ez
   subst hw
   rw [zad0 rfl,zabu et] at q
   have sc2:=Gt.vs_sca (Gt.not (ρ a))
   walk_at "rd"
   rename_i e1 h1 e2 h2 e4 h4
   exact q _ (((Ch.new h1 _).trans (Ch.new h2 _)).trans (Ch.new h4 _))
  have w0:=zabk ez
  clear ez
  walk_at "rd"
  refine ite2 (fun ez=>?_) (fun ez=>?_)
  ·have hw:=zab4 ez
   subst hw
   rw [zabp rfl w0 (fun z=>by cases z.2)] at q
   walk_at "rd"
   rename_i e1 h1
   rw [ev]
   refine iteT ?_
   walk_at "rd"
   rw [esp]
   exact .inl ⟨rfl,gl,fl,al,_,it,ρ a,rfl,GA.ch r (Ch.new h1 _),Ch.get (W:=[]) (Ch.new h1 _) hf List.not_mem_nil,li,la,fun H' c=>q _ ((Ch.new h1 _).trans c)⟩
  ·have w1:=zabk ez
   clear ez
   refine iteF ?_
   rw [zabp rfl w0 (fun z=>w1 z.1)] at q
   walk_at "rd"
   rw [ev]
   refine iteT ?_
   walk_at "rd"
   rw [esp]
   exact .inl ⟨rfl,gl,fl,al,_,it,ρ a,rfl,r,hf,li,la,q⟩
 | and a b =>
  have hp:H p=some (.tup [.str "and",.int a,.int b]):=hp
  have hf:H fl=some (.lst [.int ((ρ a:Nat):Int),.int ((ρ b:Nat):Int)]):=hf
  obtain ⟨tf,ev,at_,esp⟩:=hT "and" (by decide +kernel)
  have la:=lf a (by simp [Gt.feeds])
  have lb:=lf b (by simp [Gt.feeds])
  have e3:inV (V.str "and") [.str "and",.str "or",.str "xor"]=true:=by decide +kernel
  walk_at "rd"
  refine ite2 (fun ez=>?_) (fun ez=>?_)
  ·have hw:=zab4 ez
   subst hw
   rw [zad0 rfl,zabu et] at q
   have sc2:=Gt.vs_sca (Gt.and (ρ a) (ρ b))
   walk_at "rd"
   rename_i e1 h1 e2 h2 e4 h4
   exact q _ (((Ch.new h1 _).trans (Ch.new h2 _)).trans (Ch.new h4 _))
  have w0:=zabk ez
  clear ez
  walk_at "rd"
  refine ite2 (fun ez=>?_) (fun ez=>?_)
  ·have hw:=zab4 ez
   subst hw
   rw [zag8 rfl,zabu et] at q
   have sc3:ScaL [V.str "and",V.int ((ρ b:Nat):Int),V.int ((ρ a:Nat):Int)]:=Gt.vs_sca (.and (ρ b) (ρ a))
   walk_at "rd"
   rename_i e1 h1 e2 h2
   exact q _ ((Ch.new h1 _).trans (Ch.new h2 _))
  ·have w1:=zabk ez
   clear ez
   refine iteF ?_
   rw [zabp rfl w0 (fun z=>w1 z.1)] at q
   walk_at "rd"
   rw [ev]
   refine iteT ?_
   walk_at "rd"
   rw [esp]
   exact .inr (.inl ⟨rfl,gl,fl,al,_,it,ρ a,ρ b,rfl,r,hf,li,la,lb,q⟩)
 | or a b =>
  have hp:H p=some (.tup [.str "or",.int a,.int b]):=hp
  have hf:H fl=some (.lst [.int ((ρ a:Nat):Int),.int ((ρ b:Nat):Int)]):=hf
  obtain ⟨tf,ev,at_,esp⟩:=hT "or" (by decide +kernel)
  have la:=lf a (by simp [Gt.feeds])
  have lb:=lf b (by simp [Gt.feeds])
  have e3:inV (V.str "or") [.str "and",.str "or",.str "xor"]=true:=by decide +kernel
  walk_at "rd"
  refine ite2 (fun ez=>?_) (fun ez=>?_)
  ·have hw:=zab4 ez
   subst hw
   rw [zad0 rfl,zabu et] at q
   have sc2:=Gt.vs_sca (Gt.or (ρ a) (ρ b))
   walk_at "rd"
   rename_i e1 h1 e2 h2 e4 h4
   exact q _ (((Ch.new h1 _).trans (Ch.new h2 _)).trans (Ch.new h4 _))
  have w0:=zabk ez
  clear ez
  walk_at "rd"
  refine ite2 (fun ez=>?_) (fun ez=>?_)
  ·have hw:=zab4 ez
   subst hw
   rw [zag8 rfl,zabu et] at q
   have sc3:ScaL [V.str "or",V.int ((ρ b:Nat):Int),V.int ((ρ a:Nat):Int)]:=Gt.vs_sca (.or (ρ b) (ρ a))
   walk_at "rd"
   rename_i e1 h1 e2 h2
   exact q _ ((Ch.new h1 _).trans (Ch.new h2 _))
  ·have w1:=zabk ez
   clear ez
   refine iteF ?_
   rw [zabp rfl w0 (fun z=>w1 z.1)] at q
   walk_at "rd"
   rw [ev]
   refine iteT ?_
   walk_at "rd"
   rw [esp]
   exact .inr (.inr (.inl ⟨rfl,gl,fl,al,_,it,ρ a,ρ b,rfl,r,hf,li,la,lb,q⟩))
 | xor a b =>
  have hp:H p=some (.tup [.str "xor",.int a,.int b]):=hp
  have hf:H fl=some (.lst [.int ((ρ a:Nat):Int),.int ((ρ b:Nat):Int)]):=hf
  obtain ⟨tf,ev,at_,esp⟩:=hT "xor" (by decide +kernel)
  have la:=lf a (by simp [Gt.feeds])
  have lb:=lf b (by simp [Gt.feeds])
  have e3:inV (V.str "xor") [.str "and",.str "or",.str "xor"]=true:=by decide +kernel
  walk_at "rd"
  refine ite2 (fun ez=>?_) (fun ez=>?_)
  ·have hw:=zab4 ez
   subst hw
   rw [zad0 rfl,zabu et] at q
   have sc2:=Gt.vs_sca (Gt.xor (ρ a) (ρ b))
   walk_at "rd"
   rename_i e1 h1 e2 h2 e4 h4
   exact q _ (((Ch.new h1 _).trans (Ch.new h2 _)).trans (Ch.new h4 _))
  have w0:=zabk ez
  clear ez
  walk_at "rd"
  refine ite2 (fun ez=>?_) (fun ez=>?_)
  ·have hw:=zab4 ez
   subst hw
   rw [zag8 rfl,zabu et] at q
   have sc3:ScaL [V.str "xor",V.int ((ρ b:Nat):Int),V.int ((ρ a:Nat):Int)]:=Gt.vs_sca (.xor (ρ b) (ρ a))
   walk_at "rd"
   rename_i e1 h1 e2 h2
   exact q _ ((Ch.new h1 _).trans (Ch.new h2 _))
  ·have w1:=zabk ez
   clear ez
   refine iteF ?_
   rw [zabp rfl w0 (fun z=>w1 z.1)] at q
   walk_at "rd"
   rw [ev]
   refine iteT ?_
   walk_at "rd"
   rw [esp]
   exact .inr (.inr (.inr (.inl ⟨rfl,gl,fl,al,_,it,ρ a,ρ b,rfl,r,hf,li,la,lb,q⟩)))
 | pick a b c =>
  have hp:H p=some (.tup [.str "pick",.int a,.int b,.int c]):=hp
  have hf:H fl=some (.lst [.int ((ρ a:Nat):Int),.int ((ρ b:Nat):Int),.int ((ρ c:Nat):Int)]):=hf
  obtain ⟨tf,ev,at_,esp⟩:=hT "pick" (by decide +kernel)
  have la:=lf a (by simp [Gt.feeds])
  have lb:=lf b (by simp [Gt.feeds])
  have lc:=lf c (by simp [Gt.feeds])
  have e3:inV (V.str "pick") [.str "and",.str "or",.str "xor"]=false:=by decide +kernel
  walk_at "rd"
  refine ite2 (fun ez=>?_) (fun ez=>?_)
  ·have hw:=zab4 ez
   subst hw
   rw [zad0 rfl,zabu et] at q
   have sc2:=Gt.vs_sca (Gt.pick (ρ a) (ρ b) (ρ c))
   walk_at "rd"
   rename_i e1 h1 e2 h2 e4 h4
   exact q _ (((Ch.new h1 _).trans (Ch.new h2 _)).trans (Ch.new h4 _))
  have w0:=zabk ez
  clear ez
  walk_at "rd"
  refine ite2 (fun ez=>?_) (fun ez=>?_)
  ·have hw:=zab4 ez
   subst hw
   rw [zabp rfl w0 (fun z=>by cases z.2)] at q
   walk_at "rd"
   rename_i e1 h1
   rw [ev]
   refine iteT ?_
   walk_at "rd"
   rw [esp]
   exact .inr (.inr (.inr (.inr (⟨rfl,gl,fl,al,_,it,ρ a,ρ b,ρ c,rfl,GA.ch r (Ch.new h1 _),Ch.get (W:=[]) (Ch.new h1 _) hf List.not_mem_nil,li,la,lb,lc,fun H' c=>q _ ((Ch.new h1 _).trans c)⟩))))
  ·have w1:=zabk ez
   clear ez
   refine iteF ?_
   rw [zabp rfl w0 (fun z=>w1 z.1)] at q
   walk_at "rd"
   rw [ev]
   refine iteT ?_
   walk_at "rd"
   rw [esp]
   exact .inr (.inr (.inr (.inr (⟨rfl,gl,fl,al,_,it,ρ a,ρ b,ρ c,rfl,r,hf,li,la,lb,lc,q⟩))))
end
end

section
local macro_rules | `(tactic| walk_at "user")=>`(tactic| first
 | (apply GA.ch; (focus with_reducible assumption); (focus walk_at "ch"))
 | exact Gt.vs_sca _)
structure WI (H0 H:Hp) (l:Addr) (al:List Gt):Prop where
 ch:Ch [] H0 H
 fr:H0 l=none
 ga:GA H l al
theorem WI.go {H0 H H1:Hp}{l:Addr}{al:List Gt} (h:WI H0 H l al) (c:Ch [] H H1):WI H0 H1 l al:=⟨h.ch.trans c,h.fr,h.ga.ch c⟩
theorem WI.push {H0 H:Hp}{l p:Addr}{al:List Gt}{xs:List V}{g:Gt} (h:WI H0 H l al) (hl:H l=some (.lst xs)) (hp:H p=some (.tup g.vs)):WI H0 (upd H l (.lst (xs++[.ref p]))) l (al++[g]):=by
 obtain ⟨ys,hy,gy⟩:=h.ga.ex
 rw [hl] at hy
 cases hy
 have c:Ch [l] H (upd H l (.lst (xs++[.ref p]))):=Ch.put
 refine ⟨Ch.forget ((Ch.wk h.ch).trans c) (fun w hw=>by simp at hw; rw [hw]; exact h.fr),h.fr,_,zaaf,?_⟩
 have t:Tu H (upd H l (.lst (xs++[.ref p]))):=Tu.ch c hl (fun xs z=>by cases z)
 exact (gy.tu t).snoc (t p _ hp)
section
variable {P:Program}{w:World}{K:PySem.W.Frag}{mg:Str→Option Value}{base:Heap}{f:Addr}{fd:FuncData}{k:Nat}
theorem zadi:Nd "is_listed" := by decide +kernel
theorem zagm:Nd "is_pair" := by decide +kernel
theorem gl7:AG (defScope (top 7)) ["len", "is_listed"]:=⟨by decide +kernel⟩
theorem av7:AF (defScope (top 7)) ["thing"]:=⟨by decide +kernel⟩
def spPair:Sp:=fun vs H Q _=>∃ (a:Addr) (x y:V),vs=[.ref a]∧H a=some (.tup [x,y])∧∀ H',Ch [] H H'→Q (.bl true) H'
theorem scPair:FnScope ["thing"] ["thing"] (defScope (top 7)):=⟨rfl,rfl,rfl,by decide +kernel,rfl,by decide +kernel,by decide +kernel⟩
theorem zar2 (F:Fun K "is_pair" "is_pair" (top 7) f fd) (Dis_listed:DefOk P w K mg base CX0 k "is_listed" ["thing"] spListed) (z_len:mg "len" = none):FnOk P w K mg base CX0 (k + 1) f fd ["thing"] spPair:=by
 have nd:=scPair.nd
 refine F.ok scPair (fun vs H Q E h=>by obtain ⟨a,x,y,rfl,_⟩:=h; rfl) (fun cdv A outer s0 H vs Q E hr h=>?_)
 obtain ⟨a,x,y,rfl,hx,q⟩:=h
 refine ⟨_,(Pr.h (zaae (zaak (zaa8 (zaai Dis_listed hr (gl7.g 1 rfl) pass0 (zaaa (qv av7 0 rfl) zaab zaac) zadi) (zaa9 (zaa3 zabh (zaah zaap (gl7.g 0 rfl) z_len PySem.boot_len (zaaa (qv av7 0 rfl) zaab zaac) zaba zabb) zaag (nomark _))))))),?_⟩
 (try dsimp only [cxOf])
 walk_at "rd"
 refine ⟨show SqX .tuple H a [x,y] from hx,fun H1 c1=>?_⟩
 have hx1:=c1.get hx (by simp)
 walk_at "rd"
 exact q _ c1
theorem gl39:AG (defScope (top 39)) ["is_listed", "list", "len", "tuple", "is_gate"]:=⟨by decide +kernel⟩
theorem av39:AF (defScope (top 39)) ["small", "lost", "gates", "total", "thing", "gate"]:=⟨by decide +kernel⟩
def spWL (CN:Addr):Sp:=fun vs H Q _=>∃ (nt gp op ll:Addr) (sg:List Gt) (xs:List V) (so:List Nat) (lo:List Gt) (zs:List V),vs=[.ref nt,.ref ll]∧NetAt CN H nt gp op sg xs so∧H ll=some (.lst zs)∧Gs H lo zs∧sg.length≤1000∧lo.length≤1000∧(∀ (j:Nat) (g:Gt),lo[j]?=some g→g≠.inp∧g.ok (sg.length + j) (sg.length + lo.length)) ∧
 ∀ (r:Addr) (H':Hp),Ch [] H H'→GA H' r (sg++lo)→Q (.ref r) H'
theorem scWL:FnScope ["small", "lost", "gates", "total", "thing", "gate"] ["small", "lost"] (defScope (top 39)):=⟨rfl,rfl,rfl,by decide +kernel,rfl,by decide +kernel,by decide +kernel⟩
theorem zavf {CN:Addr} (F:Fun K "with_lost" "with_lost" (top 39) f fd) (cl:Cls K CN) (nG:NoAttr K CN "gates") (Dis_listed:DefOk P w K mg base CX0 k "is_listed" ["thing"] spListed) (Dis_gate:DefOk P w K mg base CX0 k "is_gate" ["thing", "ahead", "total"] spGate) (z_len:mg "len" = none) (z_list:mg "list" = none) (z_tuple:mg "tuple" = none):FnOk P w K mg base CX0 (k + 1) f fd ["small", "lost"] (spWL CN):=by
 have nd:=scWL.nd
 refine F.ok scWL (fun vs H Q E h=>by obtain ⟨nt,gp,op,ll,sg,xs,so,lo,zs,rfl,_⟩:=h; rfl) (fun cdv A outer s0 H vs Q E hr h=>?_)
 obtain ⟨nt,gp,op,ll,sg,xs,so,lo,zs,rfl,na,hll,gz,ls,l2,lok,q⟩:=h
 refine ⟨_,(Pr.h (zaad (zaav (zab6 (zaay (zaai Dis_listed hr (gl39.g 0 rfl) pass0 (zaaa (qv av39 1 rfl) zaab zaac) zadi))) (zaae (zaak zacs)) zaal) (zaad (zaa1 (i:=2) nd rfl (av39.l 2 rfl) (zabd zab2 (gl39.g 1 rfl) z_list zab7 (zaaa (zabj (qv av39 0 rfl) rfl) zaab zabf) zab8 zab9)) (zaad (zaa1 (i:=3) nd rfl (av39.l 3 rfl) (zaa4 zadm (zaah zaap (gl39.g 2 rfl) z_len PySem.boot_len (zaaa (qv av39 2 rfl) zaab zaac) zaba zabb) (zaah zaap (gl39.g 2 rfl) z_len PySem.boot_len (zaaa (qv av39 1 rfl) zaab zaac) zaba zabb))) (zaad (zaca PassesOwn.never rfl (zacj (qv av39 1 rfl)) (zaau (i:=4) nd rfl (av39.l 4 rfl)) (zabs (zaa1 (i:=5) nd rfl (av39.l 5 rfl) (zaed (zaay (zaai Dis_listed hr (gl39.g 0 rfl) pass0 (zaaa (qv av39 4 rfl) zaab zaac) zadi)) (zabd zab0 (gl39.g 3 rfl) z_tuple zabm (zaaa (qv av39 4 rfl) zaab zaac) zabn zabo) zacs)) (zaad (zaav (zabt (zabz (zab6 (zaay (zaai Dis_gate hr (gl39.g 4 rfl) pass0 (zaaa (qv av39 5 rfl) (zaaa (zaah zaap (gl39.g 2 rfl) z_len PySem.boot_len (zaaa (qv av39 2 rfl) zaab zaac) zaba zabb) (zaaa (qv av39 3 rfl) zaab zaac) zabi) zaac) zagi))) (zabr (zaar zabh (zaat zaa0 (qv av39 5 rfl) zaag (fun _ _=>rfl)) zaas (nomark _))))) (zaae (zaak zacs)) zaal) (zaae (zacp (zado PySem.F.plainAttrs_list PySem.F.slot_list_append PySem.F.type_list_append zacl (qv av39 2 rfl) (zaaa (qv av39 5 rfl) zaab zaac))))))) (zaae (zaak (qv av39 2 rfl)))))))),?_⟩
 (try dsimp only [cxOf])
 obtain ⟨dx,ob⟩:=na.ob
 have gt:=na.gt
 walk_at "rd"
 refine ⟨show SqX .list H ll zs from hll,fun H1 c1=>?_⟩
 have ob1:=c1.get ob (by simp)
 have gt1:=c1.get gt (by simp)
 have hll1:=c1.get hll (by simp)
 have gz1:=gz.tu (Tu.same c1)
 have gg1:=na.gg.tu (Tu.same c1)
 walk_at "rd"
 rename_i l hl
 have lx:xs.length=sg.length:=na.gg.len
 have lz:zs.length=lo.length:=gz.len
 refine zafx (xs:=zs) (fun i σ H'=>WI H H' l (sg++lo.take i)∧∃ u v,σ=[some (.ref nt),some (.ref ll),some (.ref l),some (.int ((xs.length:Int) + (zs.length:Int))),u,v]) ⟨?_,_,_,rfl⟩ ?_ ?_ ?_
 ·have fr:H l=none:=by
   cases e:H l with
   | none=>rfl
   | some o=>rw [c1.get e (by simp)] at hl; cases hl
  refine ⟨c1.trans (Ch.new hl _),fr,⟨xs,zaaf,?_⟩⟩
  rw [List.take_zero,List.append_nil]
  exact gg1.tu (Tu.same (Ch.new hl _))
 ·rintro i σ H' hi ⟨wi,_⟩
  exact SqL.of (wi.ch.get hll (by simp))
 ·rintro i x σ H' hx ⟨wi,u,v,rfl⟩
  have li:i < lo.length:=by rw [← lz]; exact (List.getElem?_eq_some_iff.mp hx).1
  obtain ⟨g,eg⟩:∃ g,lo[i]?=some g:=⟨_,List.getElem?_eq_getElem li⟩
  obtain ⟨p,e1,e2⟩:=gz.at_ i g eg
  rw [hx] at e1
  cases e1
  have hp1:=wi.ch.get e2 (by simp)
  obtain ⟨ni,ok⟩:=lok i g eg
  walk_at "rd"
  refine zacr (fun σ H2=>WI H H2 l (sg++lo.take i)∧σ=[some (.ref nt),some (.ref ll),some (.ref l),some (.int ((xs.length:Int) + (zs.length:Int))),some (.ref p),some (.ref p)]) ?_ ?_
  ·walk_at "rd"
   refine ⟨show SqX .tuple H' p g.vs from hp1,fun H2 c2=>?_⟩
   have hp2:=c2.get hp1 (by simp)
   walk_at "rd"
   exact ⟨wi.go c2,rfl⟩
  ·rintro σ H2 ⟨wi2,rfl⟩
   obtain ⟨ys,hy,gy⟩:=wi2.ga.ex
   have hp2:=wi2.ch.get e2 (by simp)
   have ly:ys.length=sg.length + i:=by rw [gy.len,List.length_append,List.length_take]; omega
   obtain ⟨wd,rs,ev,hd⟩:=zag0 g
   have ei:g.isIn=false:=by cases g <;> first | rfl | exact absurd rfl ni
   rw [ei] at hd
   walk_at "rd"
   refine ⟨by rw [ly,lx,lz]; exact ok,fun H3 c3=>?_⟩
   have hp3:=c3.get hp2 (by simp)
   have hp4:=hp3
   rw [ev] at hp4
   have hy3:=c3.get hy (by simp)
   have wi3:=wi2.go c3
   walk_at "rd"
   rw [hd]
   refine iteF ?_
   walk_at "rd"
   refine ⟨?_,_,_,rfl⟩
   rw [List.take_add_one,eg]
   show WI _ _ _ (sg++(lo.take i++[g]))
   rw [← List.append_assoc]
   exact wi3.push hy3 hp3
 ·rintro σ H' ⟨wi,u,v,rfl⟩
  walk_at "rd"
  have e:sg++lo.take zs.length=sg++lo:=by rw [lz,List.take_length]
  rw [e] at wi
  exact q _ _ wi.ch wi.ga
theorem gl40:AG (defScope (top 40)) ["len", "is_listed", "is_below", "is_pair"]:=⟨by decide +kernel⟩
theorem av40:AF (defScope (top 40)) ["pairs", "count", "total", "pair"]:=⟨by decide +kernel⟩
def spAP:Sp:=fun vs H Q _=>∃ (ql:Addr) (prs:List (Nat × Str)) (qs:List V) (n t:Nat),vs=[.ref ql,.int (n:Int),.int (t:Int)]∧H ql=some (.lst qs)∧Prs H prs qs∧prs.length=n∧(∀ p∈prs,p.1 < t)∧∀ (H':Hp),Ch [] H H'→Q (.bl true) H'
theorem scAP:FnScope ["pairs", "count", "total", "pair"] ["pairs", "count", "total"] (defScope (top 40)):=⟨rfl,rfl,rfl,by decide +kernel,rfl,by decide +kernel,by decide +kernel⟩
theorem zavg (F:Fun K "are_pairs" "are_pairs" (top 40) f fd) (Dis_listed:DefOk P w K mg base CX0 k "is_listed" ["thing"] spListed) (Dis_pair:DefOk P w K mg base CX0 k "is_pair" ["thing"] spPair) (Dis_below:DefOk P w K mg base CX0 k "is_below" ["thing", "bound"] spBelow) (z_len:mg "len" = none):FnOk P w K mg base CX0 (k + 1) f fd ["pairs", "count", "total"] spAP:=by
 have nd:=scAP.nd
 refine F.ok scAP (fun vs H Q E h=>by obtain ⟨ql,prs,qs,n,t,rfl,_⟩:=h; rfl) (fun cdv A outer s0 H vs Q E hr h=>?_)
 obtain ⟨ql,prs,qs,n,t,rfl,hql,pp,ln,lt,q⟩:=h
 refine ⟨_,(Pr.h (zaad (zaav (zabt (zabz (zab6 (zaay (zaai Dis_listed hr (gl40.g 1 rfl) pass0 (zaaa (qv av40 0 rfl) zaab zaac) zadi))) (zabr (zaar zadn (zaah zaap (gl40.g 0 rfl) z_len PySem.boot_len (zaaa (qv av40 0 rfl) zaab zaac) zaba zabb) (qv av40 1 rfl) (nomark _))))) (zaae (zaak zabl)) zaal) (zaad (zaca PassesOwn.never rfl (zacj (qv av40 0 rfl)) (zaau (i:=3) nd rfl (av40.l 3 rfl)) (zaae (zaav (zabt (zadq (zaar zall (qv av40 3 rfl) zacs (nomark _)) (zade (zab6 (zabt (zadq (zaay (zaai Dis_pair hr (gl40.g 3 rfl) pass0 (zaaa (qv av40 3 rfl) zaab zaac) zagm)) (zade (zaay (zaai Dis_below hr (gl40.g 2 rfl) pass0 (zaaa (zaat zaa0 (qv av40 3 rfl) zaag (fun _ _=>rfl)) (zaaa (qv av40 2 rfl) zaab zaac) zaaq) zadd))))))))) (zaae (zaak zabl)) zaal))) (zaae (zaak zabl))))),?_⟩
 (try dsimp only [cxOf])
 have lq:qs.length=n:=by rw [pp.len]; exact ln
 walk_at "rd"
 refine ⟨show SqX .list H ql qs from hql,fun H1 c1=>?_⟩
 have hql1:=c1.get hql (by simp)
 walk_at "rd"
 refine iteNn (by rw [lq]) ?_
 walk_at "rd"
 refine zafx (xs:=qs) (fun i σ H'=>Ch [] H H'∧∃ u,σ=[some (.ref ql),some (.int (n:Int)),some (.int (t:Int)),u]) ⟨c1,_,rfl⟩ ?_ ?_ ?_
 ·rintro i σ H' hi ⟨c,_⟩
  exact SqL.of (c.get hql (by simp))
 ·rintro i x σ H' hx ⟨c,u,rfl⟩
  have li:i < prs.length:=by rw [← pp.len]; exact (List.getElem?_eq_some_iff.mp hx).1
  obtain ⟨p,ep⟩:∃ p,prs[i]?=some p:=⟨_,List.getElem?_eq_getElem li⟩
  obtain ⟨a,e1,e2⟩:=pp.at_ i p ep
  rw [hx] at e1
  cases e1
  have ha:=c.get e2 (by simp)
  have lp:=lt p (List.mem_of_getElem? ep)
  walk_at "rd"
 ·rintro σ H' ⟨c,u,rfl⟩
  walk_at "rd"
  exact q _ c
end
end

section
local macro_rules | `(tactic| walk_at "user")=>`(tactic| first
 | (apply GA.ch; (focus with_reducible assumption); (focus walk_at "ch"))
 | (apply NetAt.ch; (focus with_reducible assumption); (focus walk_at "ch"))
 | exact Gt.vs_sca _)
theorem zagn (g:Gt):g.feeds.length≤3:=by cases g <;> simp [Gt.feeds]
def prF (prs:List (Nat × Str)) (fs:List Nat):List (Nat × Str):=fs.map fun a=>prs.getD a (0,Str.empty)
theorem zar3 (prs:List (Nat × Str)) (fs:List Nat):((prF prs fs).map fun p=>nV p.1)=fs.map fun a=>nV (rho prs a):=by
 unfold prF rho
 rw [List.map_map]; rfl
theorem zapa {prs:List (Nat × Str)}{fs:List Nat}{j a:Nat}{p:Nat × Str} (h:fs[j]?=some a) (e:prs[a]?=some p):prF prs (fs.take (j + 1))=prF prs (fs.take j)++[p]:=by
 unfold prF
 rw [List.take_add_one,h]
 simp [List.getD_eq_getElem?_getD,e]
section
variable {P:Program}{w:World}{K:PySem.W.Frag}{mg:Str→Option Value}{base:Heap}{f:Addr}{fd:FuncData}{k:Nat}
theorem zaie:Nd "ins_of" := by decide +kernel
theorem zag9:Nd "pair_holds" := by decide +kernel
theorem av41:AF (defScope (top 41)) ["net", "small", "pairs", "ins", "small_ins", "number", "small_number"]:=⟨by decide +kernel⟩
theorem gl41:AG (defScope (top 41)) ["ins_of", "len", "zip", "tuple"]:=⟨by decide +kernel⟩
def spIH (CN:Addr):Sp:=fun vs H Q _=>∃ (nt gp op st gp2 op2 ql:Addr) (net sg:List Gt) (xs xs2:List V) (os so:List Nat) (prs:List (Nat × Str)) (qs:List V),vs=[.ref nt,.ref st,.ref ql]∧NetAt CN H nt gp op net xs os∧NetAt CN H st gp2 op2 sg xs2 so∧net.length≤1000∧sg.length≤1000∧H ql=some (.lst qs)∧Prs H prs qs ∧
 (numsOf Gt.isIn net 0).length=(numsOf Gt.isIn sg 0).length∧(∀ (j n m:Nat),(numsOf Gt.isIn net 0)[j]?=some n→(numsOf Gt.isIn sg 0)[j]?=some m→prs[n]?=some (m,Str.ofString "in"))∧∀ (H':Hp),Ch [] H H'→Q (.bl true) H'
theorem scIH:FnScope ["net", "small", "pairs", "ins", "small_ins", "number", "small_number"] ["net", "small", "pairs"] (defScope (top 41)):=⟨rfl,rfl,rfl,by decide +kernel,rfl,by decide +kernel,by decide +kernel⟩
theorem zavh {CN:Addr} (F:Fun K "ins_hold" "ins_hold" (top 41) f fd) (Dins_of:DefOk P w K mg base CX0 k "ins_of" ["net"] (spIns CN)) (z_len:mg "len" = none) (z_zip:mg "zip" = none) (z_tuple:mg "tuple" = none):FnOk P w K mg base CX0 (k + 1) f fd ["net", "small", "pairs"] (spIH CN):=by
 have nd:=scIH.nd
 refine F.ok scIH (fun vs H Q E h=>by obtain ⟨nt,gp,op,st,gp2,op2,ql,net,sg,xs,xs2,os,so,prs,qs,rfl,_⟩:=h; rfl) (fun cdv A outer s0 H vs Q E hr h=>?_)
 obtain ⟨nt,gp,op,st,gp2,op2,ql,net,sg,xs,xs2,os,so,prs,qs,rfl,na,na2,l1,l2,hql,pp,le,hin,q⟩:=h
 refine ⟨_,(Pr.h (zaad (zaa1 (i:=3) nd rfl (av41.l 3 rfl) (zaai Dins_of hr (gl41.g 0 rfl) pass0 (zaaa (qv av41 0 rfl) zaab zaac) zaie)) (zaad (zaa1 (i:=4) nd rfl (av41.l 4 rfl) (zaai Dins_of hr (gl41.g 0 rfl) pass0 (zaaa (qv av41 1 rfl) zaab zaac) zaie)) (zaad (zaav (zaar zadn (zaah zaap (gl41.g 1 rfl) z_len PySem.boot_len (zaaa (qv av41 3 rfl) zaab zaac) zaba zabb) (zaah zaap (gl41.g 1 rfl) z_len PySem.boot_len (zaaa (qv av41 4 rfl) zaab zaac) zaba zabb) (nomark _)) (zaae (zaak zabl)) zaal) (zaad (zaca PassesOwn.never rfl (zad8 .list .list (gl41.g 2 rfl) z_zip (zaaa (qv av41 3 rfl) (zaaa (qv av41 4 rfl) zaab zaac) zaac)) (zac7 rfl (zaa5 (zaau (i:=5) nd rfl (av41.l 5 rfl)) (zaa5 (zaau (i:=6) nd rfl (av41.l 6 rfl)) zacc))) (zaae (zaav (zabt (zabz (zaar zad5 (zaat zaaw (qv av41 2 rfl) (qv av41 5 rfl) (fun _ _=>rfl)) zacs (nomark _)) (zabr (zaar (zatv hr.units) (zabd zab0 (gl41.g 3 rfl) z_tuple zabm (zaaa (zaat zaaw (qv av41 2 rfl) (qv av41 5 rfl) (fun _ _=>rfl)) zaab zaaq) zabn zabo) (zaax (zaaa (qv av41 6 rfl) (zaaa zaas zaab zaaj) zaac)) (nomark _))))) (zaae (zaak zabl)) zaal))) (zaae (zaak zabl))))))),?_⟩
 (try dsimp only [cxOf])
 walk_at "rd"
 rename_i r1 H1 c1 f1 e1 r2 H2 c2 f2 e2
 refine iteNn (by rw [List.length_map,List.length_map,le]) ?_
 walk_at "rd"
 have c12:=c1.trans c2
 have e12:=c2.get e1 (by simp)
 refine zafg (xs:=(numsOf Gt.isIn net 0).map nV) (ys:=(numsOf Gt.isIn sg 0).map nV) (fun i σ H'=>Ch [] H H'∧Ch [] H2 H'∧∃ u v,σ=[some (.ref nt),some (.ref st),some (.ref ql),some (.ref r1),some (.ref r2),u,v]) ⟨c12,Ch.refl _ _,_,_,rfl⟩ ?_ ?_ ?_
 ·rintro i σ H' hi ⟨c,d,_⟩
  exact ⟨SqL.of (d.get e12 (by simp)),SqL.of (d.get e2 (by simp))⟩
 ·rintro i x y σ H' T hx hy ⟨c,d,u,v,rfl⟩ hT
  rw [List.getElem?_map] at hx hy
  obtain ⟨n,en,rfl⟩:=Option.map_eq_some_iff.mp hx
  obtain ⟨m,em,rfl⟩:=Option.map_eq_some_iff.mp hy
  have ep:=hin i n m en em
  obtain ⟨a,ea,ha⟩:=pp.at_ n _ ep
  have at1:=zacx ea
  have cT:=Ch.new (W:=[]) hT (.tup [nV n,nV m])
  have hT1:upd H' T (.tup [nV n,nV m]) T=_:=zaaf
  have cc:=c.trans cT
  have dd:=d.trans cT
  have ha1:=cc.get ha (by simp)
  have hql1:=cc.get hql (by simp)
  have sc1:ScaL [V.int (m:Int),V.str (Str.ofString "in")]:=by
   refine ⟨fun z hz=>?_⟩
   simp at hz
   rcases hz with rfl | rfl
   ·exact .inl ⟨_,rfl⟩
   ·exact .inr ⟨_,rfl⟩
  unfold nV at *
  obtain ⟨HT,eHT⟩:∃ HT,HT=upd H' T (.tup [V.int (n:Int),V.int (m:Int)]):=⟨_,rfl⟩
  rw [← eHT] at ha1 hql1 hT1 cc dd ⊢
  walk_at "rd"
  rename_i T2 hT2
  refine iteNn rfl ?_
  exact ⟨cc.trans (Ch.new hT2 _),dd.trans (Ch.new hT2 _),_,_,rfl⟩
 ·rintro σ H' ⟨c,d,u,v,rfl⟩
  walk_at "rd"
  exact q _ c
theorem gl42:AG (defScope (top 42)) ["len", "zip"]:=⟨by decide +kernel⟩
theorem av42:AF (defScope (top 42)) ["net", "small", "pairs", "out", "small_out"]:=⟨by decide +kernel⟩
def spOH (CN:Addr):Sp:=fun vs H Q _=>∃ (nt gp op st gp2 op2 ql:Addr) (net sg:List Gt) (xs xs2:List V) (os so:List Nat) (prs:List (Nat × Str)) (qs:List V),vs=[.ref nt,.ref st,.ref ql]∧NetAt CN H nt gp op net xs os∧NetAt CN H st gp2 op2 sg xs2 so∧H ql=some (.lst qs)∧Prs H prs qs ∧
 os.length=so.length∧(∀ (j o m:Nat),os[j]?=some o→so[j]?=some m→∃ y,prs[o]?=some (m,y))∧∀ (H':Hp),Ch [] H H'→Q (.bl true) H'
theorem scOH:FnScope ["net", "small", "pairs", "out", "small_out"] ["net", "small", "pairs"] (defScope (top 42)):=⟨rfl,rfl,rfl,by decide +kernel,rfl,by decide +kernel,by decide +kernel⟩
theorem zavi {CN:Addr} (F:Fun K "outs_hold" "outs_hold" (top 42) f fd) (cl:Cls K CN) (nO:NoAttr K CN "outs") (z_len:mg "len" = none) (z_zip:mg "zip" = none):FnOk P w K mg base CX0 (k + 1) f fd ["net", "small", "pairs"] (spOH CN):=by
 have nd:=scOH.nd
 refine F.ok scOH (fun vs H Q E h=>by obtain ⟨nt,gp,op,st,gp2,op2,ql,net,sg,xs,xs2,os,so,prs,qs,rfl,_⟩:=h; rfl) (fun cdv A outer s0 H vs Q E hr h=>?_)
 obtain ⟨nt,gp,op,st,gp2,op2,ql,net,sg,xs,xs2,os,so,prs,qs,rfl,na,na2,hql,pp,le,hin,q⟩:=h
 refine ⟨_,(Pr.h (zaad (zaav (zaar zadn (zaah zaap (gl42.g 0 rfl) z_len PySem.boot_len (zaaa (zabj (qv av42 0 rfl) rfl) zaab zabf) zaba zabb) (zaah zaap (gl42.g 0 rfl) z_len PySem.boot_len (zaaa (zabj (qv av42 1 rfl) rfl) zaab zabf) zaba zabb) (nomark _)) (zaae (zaak zabl)) zaal) (zaad (zaca PassesOwn.never rfl (zad8 .tuple .tuple (gl42.g 1 rfl) z_zip (zaaa (zabj (qv av42 0 rfl) rfl) (zaaa (zabj (qv av42 1 rfl) rfl) zaab zabf) zabf)) (zac7 rfl (zaa5 (zaau (i:=3) nd rfl (av42.l 3 rfl)) (zaa5 (zaau (i:=4) nd rfl (av42.l 4 rfl)) zacc))) (zaae (zaav (zabt (zabz (zaar zad5 (zaat zaaw (qv av42 2 rfl) (qv av42 3 rfl) (fun _ _=>rfl)) zacs (nomark _)) (zabr (zaar zadn (zaat zaa0 (zaat zaaw (qv av42 2 rfl) (qv av42 3 rfl) (fun _ _=>rfl)) zaag (fun _ _=>rfl)) (qv av42 4 rfl) (nomark _))))) (zaae (zaak zabl)) zaal))) (zaae (zaak zabl))))),?_⟩
 (try dsimp only [cxOf])
 obtain ⟨⟨d1,ob1⟩,_,_,ot1⟩:=id na
 obtain ⟨⟨d2,ob2⟩,_,_,ot2⟩:=id na2
 have fo1:=zac0 gp op
 have fo2:=zac0 gp2 op2
 walk_at "rd"
 refine iteNn (by rw [List.length_map,List.length_map,le]) ?_
 walk_at "rd"
 refine zafg (xs:=os.map nV) (ys:=so.map nV) (fun i σ H'=>Ch [] H H'∧∃ u v,σ=[some (.ref nt),some (.ref st),some (.ref ql),u,v]) ⟨Ch.refl _ _,_,_,rfl⟩ ?_ ?_ ?_
 ·rintro i σ H' hi ⟨c,_⟩
  exact ⟨SqT.of (c.get ot1 (by simp)),SqT.of (c.get ot2 (by simp))⟩
 ·rintro i x y σ H' T hx hy ⟨c,u,v,rfl⟩ hT
  rw [List.getElem?_map] at hx hy
  obtain ⟨n,en,rfl⟩:=Option.map_eq_some_iff.mp hx
  obtain ⟨m,em,rfl⟩:=Option.map_eq_some_iff.mp hy
  obtain ⟨ww,ep⟩:=hin i n m en em
  obtain ⟨a,ea,ha⟩:=pp.at_ n _ ep
  have at1:=zacx ea
  have cT:=Ch.new (W:=[]) hT (.tup [nV n,nV m])
  have hT1:upd H' T (.tup [nV n,nV m]) T=_:=zaaf
  have cc:=c.trans cT
  have ha1:=cc.get ha (by simp)
  have hql1:=cc.get hql (by simp)
  unfold nV at *
  obtain ⟨HT,eHT⟩:∃ HT,HT=upd H' T (.tup [V.int (n:Int),V.int (m:Int)]):=⟨_,rfl⟩
  rw [← eHT] at ha1 hql1 hT1 cc ⊢
  walk_at "rd"
  refine iteNn rfl ?_
  exact ⟨cc,_,_,rfl⟩
 ·rintro σ H' ⟨c,u,v,rfl⟩
  walk_at "rd"
  exact q _ c
theorem gl43:AG (defScope (top 43)) ["zip", "feeds_of", "pair_holds"]:=⟨by decide +kernel⟩
theorem av43:AF (defScope (top 43)) ["net", "gates", "pairs", "gate", "pair", "feed_pairs"]:=⟨by decide +kernel⟩
def zajj:Scope:={ kind:=PySem.ScopeKind.function,names:=[ (PySem.Str.ofString ".0",PySem.NameKind.local),(PySem.Str.ofString "feed",PySem.NameKind.local),(PySem.Str.ofString "pairs",PySem.NameKind.free)],isGenerator:=false,isCoroutine:=false,more:=[]:PySem.Scope }
theorem zani:CompOk zajj (defScope (top 43)) (["feed"]:List Str) (["net", "gates", "pairs", "gate", "pair", "feed_pairs"]:List Str) [2] (["feed", "pairs"]:List Str):=compOk rfl (by decide +kernel) (by decide +kernel) (by decide +kernel) (by decide +kernel) rfl (by decide +kernel)
theorem zanj:AK (relab zajj (defScope (top 43))) ["feed"]:=⟨by decide +kernel⟩
theorem zank:AV (relab zajj (defScope (top 43))) ["feed", "pairs"]:=⟨by decide +kernel⟩
def zajk:Scope:={ kind:=PySem.ScopeKind.function,names:=[(PySem.Str.ofString ".0",PySem.NameKind.local),(PySem.Str.ofString "feed_pair",PySem.NameKind.local)],isGenerator:=false,isCoroutine:=false,more:=[]:PySem.Scope }
theorem zanl:CompOk zajk (defScope (top 43)) (["feed_pair"]:List Str) (["net", "gates", "pairs", "gate", "pair", "feed_pairs"]:List Str) [] (["feed_pair"]:List Str):=compOk rfl (by decide +kernel) (by decide +kernel) (by decide +kernel) (by decide +kernel) rfl (by decide +kernel)
theorem zanm:AK (relab zajk (defScope (top 43))) ["feed_pair"]:=⟨by decide +kernel⟩
theorem zar4:AV (relab zajk (defScope (top 43))) ["feed_pair"]:=⟨by decide +kernel⟩
def spGH (CN:Addr):Sp:=fun vs H Q _=>∃ (nt gp op gl ql:Addr) (net al:List Gt) (xs:List V) (os:List Nat) (prs:List (Nat × Str)) (qs:List V),vs=[.ref nt,.ref gl,.ref ql]∧NetAt CN H nt gp op net xs os∧Oks net∧GA H gl al∧H ql=some (.lst qs)∧Prs H prs qs ∧
 prs.length=net.length∧(∀ p∈prs,p.1 < al.length)∧(∀ (i:Nat) (g:Gt) (p:Nat × Str),net[i]?=some g→g≠.inp→prs[i]?=some p→phB al (rho prs) p.1 p.2 g=true)∧∀ (H':Hp),Ch [] H H'→Q (.bl true) H'
theorem scGH:FnScope ["net", "gates", "pairs", "gate", "pair", "feed_pairs"] ["net", "gates", "pairs"] (defScope (top 43)):=⟨rfl,rfl,rfl,by decide +kernel,rfl,by decide +kernel,by decide +kernel⟩
theorem zavj {CN:Addr} (F:Fun K "gates_hold" "gates_hold" (top 43) f fd) (cl:Cls K CN) (nG:NoAttr K CN "gates") (Dfeeds_of:DefOk P w K mg base CX0 k "feeds_of" ["gate"] spFeeds) (Dpair_holds:DefOk P w K mg base CX0 k "pair_holds" ["gates", "gate", "it", "why", "feeds"] spPH) (z_zip:mg "zip" = none):FnOk P w K mg base CX0 (k + 1) f fd ["net", "gates", "pairs"] (spGH CN):=by
 have nd:=scGH.nd
 refine F.ok scGH (fun vs H Q E h=>by obtain ⟨nt,gp,op,gl,ql,net,al,xs,os,prs,qs,rfl,_⟩:=h; rfl) (fun cdv A outer s0 H vs Q E hr h=>?_)
 obtain ⟨nt,gp,op,gl,ql,net,al,xs,os,prs,qs,rfl,na,ok,ga,hql,pp,lp,lt,hh,q⟩:=h
 refine ⟨_,(Pr.h (zaad (zaca PassesOwn.never rfl (zad8 .tuple .list (gl43.g 0 rfl) z_zip (zaaa (zabj (qv av43 0 rfl) rfl) (zaaa (qv av43 2 rfl) zaab zaac) zabf)) (zac7 rfl (zaa5 (zaau (i:=3) nd rfl (av43.l 3 rfl)) (zaa5 (zaau (i:=4) nd rfl (av43.l 4 rfl)) zacc))) (zaad (zaav (zabt (zabz (zaar zabh (zaat zaa0 (qv av43 3 rfl) zaag (fun _ _=>rfl)) zaas (nomark _)) (zabr (zaar zad5 (qv av43 4 rfl) zacs (nomark _))))) (zaae zahy) zaal) (zabs (zad4 (i:=5) nd rfl (av43.l 5 rfl) rfl zani (zacj (zaai Dfeeds_of hr (gl43.g 1 rfl) pass0 (zaaa (qv av43 3 rfl) zaab zaac) zadu)) (fun _ _ _ _ _=>(zaau (i:=0) zani.nd rfl (Or.inl (zanj.k 0 rfl)) (Or.inr (zanj.k 0 rfl)))) (fun _ _ _ _ _=>zabx) (fun _ _ _ _ _=>(zaat (zacv K rfl) (qw zank 1 rfl) (qw zank 0 rfl) (fun _ _=>rfl))) rfl) (zaad (zaav (zaar (zatw hr.units) zacs (qv av43 5 rfl) rfl) (zaae (zaak zabl)) zaal) (zaae (zaav (zab6 (zaay (zaai Dpair_holds hr (gl43.g 2 rfl) pass0 (zaaa (qv av43 1 rfl) (zaaa (qv av43 3 rfl) (zaaa (zaat zaa0 (qv av43 4 rfl) zaag (fun _ _=>rfl)) (zaaa (zaat zaa0 (qv av43 4 rfl) zaag (fun _ _=>rfl)) (zaaa (zacb rfl zanl (zacj (qv av43 5 rfl)) (fun _ _ _ _ _=>(zaau (i:=0) zanl.nd rfl (Or.inl (zanm.k 0 rfl)) (Or.inr (zanm.k 0 rfl)))) (fun _ _ _ _ _=>zabx) (fun _ _ _ _ _=>(zaat (zadg K rfl) (qw zar4 0 rfl) zaag (fun _ _=>rfl)))) zaab zabg) zaaq) zaaq) zaac) zaac) zag9))) (zaae (zaak zabl)) zaal)))))) (zaae (zaak zabl)))),?_⟩
 (try dsimp only [cxOf])
 obtain ⟨⟨d1,ob1⟩,gt1,gg1,_⟩:=id na
 have fo1:=zack gp op
 have lx:xs.length=net.length:=gg1.len
 walk_at "rd"
 refine zafg (xs:=xs) (ys:=qs) (fun i σ H'=>Ch [] H H'∧∃ u v z,σ=[some (.ref nt),some (.ref gl),some (.ref ql),u,v,z]) ⟨Ch.refl _ _,_,_,_,rfl⟩ ?_ ?_ ?_
 ·rintro i σ H' hi ⟨c,_⟩
  exact ⟨SqT.of (c.get gt1 (by simp)),SqL.of (c.get hql (by simp))⟩
 ·rintro i x y σ H' T hx hy ⟨c,u,v,z,rfl⟩ hT
  have hi:i < net.length:=by rw [← lx]; exact (List.getElem?_eq_some_iff.mp hx).1
  obtain ⟨g,hgi⟩:∃ g,net[i]?=some g:=⟨_,List.getElem?_eq_getElem hi⟩
  obtain ⟨pr,hpi⟩:∃ pr,prs[i]?=some pr:=⟨_,List.getElem?_eq_getElem (by omega)⟩
  obtain ⟨p,ep,hp⟩:=gg1.at_ i g hgi
  obtain ⟨pa,ea,ha⟩:=pp.at_ i pr hpi
  rw [hx] at ep
  cases ep
  rw [hy] at ea
  cases ea
  have cT:=Ch.new (W:=[]) hT (.tup [.ref p,.ref pa])
  have hT1:upd H' T (.tup [.ref p,.ref pa]) T=_:=zaaf
  have cc:=c.trans cT
  obtain ⟨HT,eHT⟩:∃ HT,HT=upd H' T (.tup [.ref p,.ref pa]):=⟨_,rfl⟩
  rw [← eHT] at cc hT1 ⊢
  have hp1:=cc.get hp (by simp)
  have ha1:=cc.get ha (by simp)
  obtain ⟨wd,rs,ev,hd⟩:=zag0 g
  have hp2:=hp1
  rw [ev] at hp2
  walk_at "rd"
  rw [hd]
  cases ei:g.isIn with
  | true =>
   refine iteT ?_
   walk_at "rd"
  | false =>
  have ni:g≠.inp:=fun z=>by rw [z] at ei; cases ei
  have gh:=hh i g pr hgi ni hpi
  have lf:∀ a∈g.feeds,a < net.length:=fun a ha=>by
   have:=ok i g hgi
   cases g <;> simp [Gt.feeds,Gt.ok] at ha this <;> omega
  have lr:∀ a∈g.feeds,rho prs a < al.length:=fun a ha=>by
   have la:=lf a ha
   have e:=List.getElem?_eq_getElem (l:=prs) (i:=a) (by omega)
   have:=lt _ (List.mem_of_getElem? e)
   unfold rho
   rw [List.getD_eq_getElem?_getD,e]
   exact this
  refine iteF ?_
  walk_at "rd"
  refine zacr (fun σ H2=>∃ fl zs,Ch [] H H2∧H2 fl=some (.lst zs)∧Prs H2 (prF prs g.feeds) zs∧σ=[some (.ref nt),some (.ref gl),some (.ref ql),some (.ref p),some (.ref pa),some (.ref fl)]) ?_ ?_
  ·walk_at "rd"
   rename_i r H3 c3 fr hr3
   have c13:=cc.trans c3
   have hq3:=c13.get hql (by simp)
   have pp3:=pp.tu (Tu.same c13)
   refine zac4 (g.feeds.map nV) (fun j zs σ H'=>H'=H3∧Prs H3 (prF prs (g.feeds.take j)) zs∧∃ u,σ=[u,some (.ref ql)]) (by rw [List.length_map,sizeLine_eq]; have:=zagn g; omega) ⟨rfl,⟨rfl,fun i p e=>by simp [prF] at e⟩,_,rfl⟩ ?_ ?_ ?_
   ·rintro j zs σ H' hj ⟨rfl,pz,_⟩
    refine ⟨?_,SqL.of hr3⟩
    rw [pz.len]
    simp [prF,List.length_take]
    rw [List.length_map] at hj
    omega
   ·rintro j zs σ H' x hx' ⟨rfl,pz,u,rfl⟩
    rw [List.getElem?_map] at hx'
    obtain ⟨n,en,rfl⟩:=Option.map_eq_some_iff.mp hx'
    have ln:=lf n (List.mem_of_getElem? en)
    obtain ⟨pn,epn⟩:∃ pn,prs[n]?=some pn:=⟨_,List.getElem?_eq_getElem (by omega)⟩
    obtain ⟨an,ean,han⟩:=pp3.at_ n pn epn
    have at1:=zacx ean
    have pz2:=pz.push han
    rw [← zapa en epn] at pz2
    unfold nV at *
    walk_at "rd"
   ·rintro zs σ H' ⟨rfl,pz,_⟩
    rw [List.length_map,List.take_length] at pz
    walk_at "rd"
    rename_i fl hfl
    exact ⟨pz.tu (Tu.same (Ch.new hfl _)),rfl⟩
  ·rintro σ H2 ⟨fl,zs,c2,hfl,pz,rfl⟩
   have hz:∀ z∈zs,∃ p,z=.ref p∧((∃ zs,H2 p=some (.lst zs))∨∃ zs,H2 p=some (.tup zs)):=fun z hz=>by
    obtain ⟨j,hj⟩:=List.getElem?_of_mem hz
    have lj:j < (prF prs g.feeds).length:=by rw [← pz.len]; exact (List.getElem?_eq_some_iff.mp hj).1
    obtain ⟨a,e1,e2⟩:=pz.at_ j _ (List.getElem?_eq_getElem lj)
    rw [hj] at e1
    cases e1
    exact ⟨a,rfl,.inr ⟨_,e2⟩⟩
   have hp3:=c2.get hp (by simp)
   have ha3:=c2.get ha (by simp)
   have ga3:=ga.ch c2
   walk_at "rd"
   refine zac4 zs (fun j ys σ H'=>H'=H2∧ys=((prF prs g.feeds).take j).map (fun p=>nV p.1)∧∃ u,σ=[u]) (by rw [pz.len,sizeLine_eq]; have:=zagn g; simp only [prF,List.length_map]; omega) ⟨rfl,rfl,_,rfl⟩ ?_ ?_ ?_
   ·rintro j ys σ H' hj ⟨rfl,rfl,_⟩
    refine ⟨?_,SqL.of hfl⟩
    rw [pz.len] at hj
    simp [List.length_take]
    omega
   ·rintro j ys σ H' x hx' ⟨rfl,rfl,u,rfl⟩
    have lj:j < (prF prs g.feeds).length:=by rw [← pz.len]; exact (List.getElem?_eq_some_iff.mp hx').1
    obtain ⟨pj,epj⟩:∃ pj,(prF prs g.feeds)[j]?=some pj:=⟨_,List.getElem?_eq_getElem lj⟩
    obtain ⟨a,e1,e2⟩:=pz.at_ j _ epj
    rw [hx'] at e1
    cases e1
    walk_at "rd"
    refine ⟨?_,_,rfl⟩
    rw [List.take_add_one,epj]
    simp
   ·rintro ys σ H' ⟨rfl,rfl,_⟩
    rw [pz.len,List.take_length,zar3]
    walk_at "rd"
    rename_i D hD
    refine ⟨lt _ (List.mem_of_getElem? hpi),lr,fun H4 c4=>?_⟩
    rw [gh]
    walk_at "rd"
 ·rintro σ H' ⟨c,u,v,z,rfl⟩
  walk_at "rd"
  exact q _ c
end
end

section
local macro_rules | `(tactic| walk_at "user")=>`(tactic| first
 | (apply GA.ch; (focus with_reducible assumption); (focus walk_at "ch"))
 | (apply NetAt.ch; (focus with_reducible assumption); (focus walk_at "ch")))
structure Sho (net:List Gt) (os:List Nat) (sg:List Gt) (so:List Nat) (lo:List Gt) (prs:List (Nat × Str)):Prop where
 ok:Oks net
 len:prs.length=net.length
 lt:∀ p∈prs,p.1 < (sg++lo).length
 lk:∀ (j:Nat) (g:Gt),lo[j]?=some g→g≠.inp∧g.ok (sg.length + j) (sg.length + lo.length)
 il:(numsOf Gt.isIn net 0).length=(numsOf Gt.isIn sg 0).length
 ins:∀ (j n m:Nat),(numsOf Gt.isIn net 0)[j]?=some n→(numsOf Gt.isIn sg 0)[j]?=some m→prs[n]?=some (m,Str.ofString "in")
 ol:os.length=so.length
 outs:∀ (j o m:Nat),os[j]?=some o→so[j]?=some m→∃ y,prs[o]?=some (m,y)
 gts:∀ (i:Nat) (g:Gt) (p:Nat × Str),net[i]?=some g→g≠.inp→prs[i]?=some p→phB (sg++lo) (rho prs) p.1 p.2 g=true
section
variable {P:Program}{w:World}{K:PySem.W.Frag}{mg:Str→Option Value}{base:Heap}{f:Addr}{fd:FuncData}{k:Nat}
theorem zaif:Nd "with_lost" := by decide +kernel
theorem zaig:Nd "are_pairs" := by decide +kernel
theorem zaha:Nd "gates_hold" := by decide +kernel
theorem zaih:Nd "outs_hold" := by decide +kernel
theorem zajl:Nd "ins_hold" := by decide +kernel
theorem gl44:AG (defScope (top 44)) ["is_pair", "with_lost", "are_pairs", "len", "gates_hold", "outs_hold", "ins_hold"]:=⟨by decide +kernel⟩
theorem av44:AF (defScope (top 44)) ["net", "small", "paper", "gates", "pairs"]:=⟨by decide +kernel⟩
def spSH (CN:Addr):Sp:=fun vs H Q _=>∃ (nt gp op st gp2 op2 pp ll ql:Addr) (net sg lo:List Gt) (xs xs2 zs qs:List V) (os so:List Nat) (prs:List (Nat × Str)),vs=[.ref nt,.ref st,.ref pp]∧NetAt CN H nt gp op net xs os∧NetAt CN H st gp2 op2 sg xs2 so∧H pp=some (.tup [.ref ll,.ref ql])∧H ll=some (.lst zs)∧Gs H lo zs∧H ql=some (.lst qs)∧Prs H prs qs ∧
 net.length≤1000∧sg.length≤1000∧lo.length≤1000∧Sho net os sg so lo prs∧∀ (H':Hp),Ch [] H H'→Q (.bl true) H'
theorem scSH:FnScope ["net", "small", "paper", "gates", "pairs"] ["net", "small", "paper"] (defScope (top 44)):=⟨rfl,rfl,rfl,by decide +kernel,rfl,by decide +kernel,by decide +kernel⟩
theorem zavk {CN:Addr} (F:Fun K "small_holds" "small_holds" (top 44) f fd) (cl:Cls K CN) (nG:NoAttr K CN "gates") (Dis_pair:DefOk P w K mg base CX0 k "is_pair" ["thing"] spPair) (Dwith_lost:DefOk P w K mg base CX0 k "with_lost" ["small", "lost"] (spWL CN)) (Dare_pairs:DefOk P w K mg base CX0 k "are_pairs" ["pairs", "count", "total"] spAP)
  (Dins_hold:DefOk P w K mg base CX0 k "ins_hold" ["net", "small", "pairs"] (spIH CN)) (Douts_hold:DefOk P w K mg base CX0 k "outs_hold" ["net", "small", "pairs"] (spOH CN)) (Dgates_hold:DefOk P w K mg base CX0 k "gates_hold" ["net", "gates", "pairs"] (spGH CN)) (z_len:mg "len" = none):FnOk P w K mg base CX0 (k + 1) f fd ["net", "small", "paper"] (spSH CN):=by
 have nd:=scSH.nd
 refine F.ok scSH (fun vs H Q E h=>by obtain ⟨nt,gp,op,st,gp2,op2,pp,ll,ql,net,sg,lo,xs,xs2,zs,qs,os,so,prs,rfl,_⟩:=h; rfl) (fun cdv A outer s0 H vs Q E hr h=>?_)
 obtain ⟨nt,gp,op,st,gp2,op2,pp,ll,ql,net,sg,lo,xs,xs2,zs,qs,os,so,prs,rfl,na,na2,hpp,hll,gz,hql,pq,l1,l2,l3,sh,q⟩:=h
 refine ⟨_,(Pr.h (zaad (zaav (zab6 (zaay (zaai Dis_pair hr (gl44.g 0 rfl) pass0 (zaaa (qv av44 2 rfl) zaab zaac) zagm))) (zaae (zaak zabl)) zaal) (zabs (zaa1 (i:=3) nd rfl (av44.l 3 rfl) (zaai Dwith_lost hr (gl44.g 1 rfl) pass0 (zaaa (qv av44 1 rfl) (zaaa (zaat zaa0 (qv av44 2 rfl) zaag (fun _ _=>rfl)) zaab zaaq) zaac) zaif)) (zaad (zaav (zabt (zabz (zaar zad5 (qv av44 3 rfl) zacs (nomark _)) (zabr (zab6 (zaay (zaai Dare_pairs hr (gl44.g 2 rfl) pass0 (zaaa (zaat zaa0 (qv av44 2 rfl) zaag (fun _ _=>rfl)) (zaaa (zaah zaap (gl44.g 3 rfl) z_len PySem.boot_len (zaaa (zabj (qv av44 0 rfl) rfl) zaab zabf) zaba zabb) (zaaa (zaah zaap (gl44.g 3 rfl) z_len PySem.boot_len (zaaa (qv av44 3 rfl) zaab zaac) zaba zabb) zaab zabi) zabi) zaaq) zaig)))))) (zaae (zaak zabl)) zaal) (zabs (zaa1 (i:=4) nd rfl (av44.l 4 rfl) (zaat zaa0 (qv av44 2 rfl) zaag (fun _ _=>rfl))) (zaae (zaak (zaa8 (zaai Dins_hold hr (gl44.g 6 rfl) pass0 (zaaa (qv av44 0 rfl) (zaaa (qv av44 1 rfl) (zaaa (qv av44 4 rfl) zaab zaac) zaac) zaac) zajl) (zaa8 (zaai Douts_hold hr (gl44.g 5 rfl) pass0 (zaaa (qv av44 0 rfl) (zaaa (qv av44 1 rfl) (zaaa (qv av44 4 rfl) zaab zaac) zaac) zaac) zaih) (zaa9 (zaai Dgates_hold hr (gl44.g 4 rfl) pass0 (zaaa (qv av44 0 rfl) (zaaa (qv av44 3 rfl) (zaaa (qv av44 4 rfl) zaab zaac) zaac) zaac) zaha))))))))))),?_⟩
 (try dsimp only [cxOf])
 obtain ⟨⟨d1,ob1⟩,gt1,gg1,_⟩:=id na
 have fo1:=zack gp op
 have lx:xs.length=net.length:=gg1.len
 walk_at "rd"
 rename_i H1 c1
 refine iteF ?_
 have na1:=na2.ch c1
 have hpp1:=c1.get hpp (by simp)
 have hll1:=c1.get hll (by simp)
 have gz1:=gz.tu (Tu.same c1)
 have lk:=sh.lk
 walk_at "rd"
 refine zacr (fun σ H2=>∃ r,Ch [] H H2∧GA H2 r (sg++lo)∧σ=[some (.ref nt),some (.ref st),some (.ref pp),some (.ref r),none]) ?_ ?_
 ·walk_at "rd"
 rintro σ H2 ⟨r,c2,ga,rfl⟩
 obtain ⟨ys,hys,gy⟩:=ga.ex
 have hpp2:=c2.get hpp (by simp)
 have hql2:=c2.get hql (by simp)
 have pq2:=pq.tu (Tu.same c2)
 have ob2:=c2.get ob1 (by simp)
 have gt2:=c2.get gt1 (by simp)
 have lq:prs.length=xs.length:=by rw [lx]; exact sh.len
 have lt:∀ p∈prs,p.1 < ys.length:=by rw [gy.len]; exact sh.lt
 walk_at "rd"
 rename_i H3 c3
 refine iteF ?_
 have hpp3:=c3.get hpp2 (by simp)
 walk_at "rd"
 refine zacr (fun σ H4=>Ch [] H H4∧GA H4 r (sg++lo)∧σ=[some (.ref nt),some (.ref st),some (.ref pp),some (.ref r),some (.ref ql)]) ?_ ?_
 ·walk_at "rd"
 rintro σ H4 ⟨c4,ga4,rfl⟩
 clear hpp2 hql2 pq2 ob2 gt2 lt hpp3 hys gy ga c3 c2 hpp1 hll1 gz1 na1 c1 hll gz lq
 have na4:=na.ch c4
 have nb4:=na2.ch c4
 have hq4:=c4.get hql (by simp)
 have pq4:=pq.tu (Tu.same c4)
 have il:=sh.il
 have ins:=sh.ins
 walk_at "rd"
 rename_i H5 c5
 refine ⟨pq4.tu (Tu.same c5),sh.ol,sh.outs,fun H6 c6=>?_⟩
 have c46:=c5.trans c6
 have na6:=na4.ch c46
 have ga6:=ga4.ch c46
 have hq6:=c46.get hq4 (by simp)
 have pq6:=pq4.tu (Tu.same c46)
 have ok:=sh.ok
 have len:=sh.len
 have lt:=sh.lt
 have gts:=sh.gts
 walk_at "rd"
 rename_i H7 c7
 exact q _ ((c4.trans c46).trans c7)
end
end

section
theorem zaby {c:Prop} [Decidable c] {a b a' b':Bool} (h1:c→a=true→a'=true) (h2:¬ c→b=true→b'=true) (h:(if c then a else b)=true):(if c then a' else b')=true:=by
 by_cases z:c
 ·rw [if_pos z] at h ⊢; exact h1 z h
 ·rw [if_neg z] at h ⊢; exact h2 z h
theorem zabv {a b a' b':Bool} (h1:a=true→a'=true) (h2:b=true→b'=true) (h:(a && b)=true):(a' && b')=true:=by
 rw [Bool.and_eq_true] at h ⊢; exact ⟨h1 h.1,h2 h.2⟩
theorem zacu {a b a' b':Bool} (h1:a=true→a'=true) (h2:b=true→b'=true) (h:(a || b)=true):(a' || b')=true:=by
 rw [Bool.or_eq_true] at h ⊢; exact h.imp h1 h2
theorem zabe {p q:Prop} [Decidable p] [Decidable q] (h:p→q) (e:decide p=true):decide q=true:=decide_eq_true (h (of_decide_eq_true e))
def Sim (gs al:List Gt) (R:Nat→Nat):Prop:=∀ (n:Nat) (g:Gt),g.src=false→gs[n]?=some g→al[R n]?=some (g.ren R)
section
variable {gs al:List Gt}{R:Nat→Nat}
theorem Sim.z (s:Sim gs al R) {x:Nat}:isZ gs x=true→isZ al (R x)=true:=zabe fun e=>s _ _ rfl e
theorem Sim.o (s:Sim gs al R) {x:Nat}:isO gs x=true→isO al (R x)=true:=zabe fun e=>s _ _ rfl e
theorem Sim.op (s:Sim gs al R) {x y:Nat}:opsd gs x y=true→opsd al (R x) (R y)=true:=zacu (zabe fun e=>s _ _ rfl e) (zabe fun e=>s _ _ rfl e)
theorem Sim.ru (s:Sim gs al R) {ρ:Nat→Nat}{it:Nat}{why:Str}:∀ {g:Gt},ruB gs ρ it why g=true→ruB al (fun a=>R (ρ a)) (R it) why g=true
 | .not a=>zaby (fun _=>zabe fun e=>s _ _ rfl e) fun _=>zaby (fun _=>zabv s.z s.o) fun _=>zaby (fun _=>zabv s.o s.z) fun _ h=>h
 | .and a b=>zaby (fun _=>zabv (zabe (congrArg R)) (zacu s.o (zabe (congrArg R)))) fun _=>zaby (fun _=>zabv (zabe (congrArg R)) s.o) fun _=>zaby (fun _=>zabv s.z (zacu s.z (zacu s.z s.op))) fun _ h=>h
 | .or a b=>zaby (fun _=>zabv (zabe (congrArg R)) (zacu s.z (zabe (congrArg R)))) fun _=>zaby (fun _=>zabv (zabe (congrArg R)) s.z) fun _=>zaby (fun _=>zabv s.o (zacu s.o (zacu s.o s.op))) fun _ h=>h
 | .xor a b=>zaby (fun _=>zabv (zabe (congrArg R)) s.z) fun _=>zaby (fun _=>zabv (zabe (congrArg R)) s.z) fun _=>zaby (fun _=>zabv s.z (zabe (congrArg R))) fun _=>zaby (fun _=>zabv s.o s.op) fun _=>zaby (fun _=>zacu (zabv s.o s.op) (zabv s.o s.op)) fun _ h=>h
 | .pick a b c=>zaby (fun _=>zabv (zabe (congrArg R)) (zacu s.o (zabe (congrArg R)))) fun _=>zaby (fun _=>zabv (zabe (congrArg R)) s.z) fun _=>zaby (fun _=>zabv (zabe (congrArg R)) (zabv s.o s.z)) fun _=>zaby (fun _=>zabv s.op (zabv s.z s.o)) fun _ h=>h
 | .inp=>fun h=>by cases h
 | .zero=>fun h=>by cases h
 | .one=>fun h=>by cases h
 | .keep _ _=>fun h=>by cases h
theorem Sim.ph (s:Sim gs al R) {ρ:Nat→Nat}{it:Nat}{why:Str}{g:Gt} (hs:g.src=false) (h:phB gs ρ it why g=true):phB al (fun a=>R (ρ a)) (R it) why g=true:=by
 cases g <;> first | (cases hs; done) | skip
 all_goals
  simp only [phB] at h ⊢
  refine zaby (fun _=>zabe fun e=>?_) (fun _=>zaby (fun c=>zabe fun e=>?_) fun _ z=>s.ru z) h
  ·exact s _ _ rfl e
  ·first | exact s _ _ rfl e | (exact absurd c.2 (by simp [Gt.two]))
end
theorem zap2 {h g:Gt} (e:h.nf=g.nf) (n:h≠g):g.two=true∧h=g.trn id:=by
 cases h <;> cases g <;> simp only [Gt.nf,Gt.and.injEq,Gt.or.injEq,Gt.xor.injEq,reduceCtorEq] at e <;> first | (exact absurd e n) | (exact absurd rfl n) | skip
 all_goals
  refine ⟨rfl,?_⟩
  simp only [Gt.trn,id,Gt.and.injEq,Gt.or.injEq,Gt.xor.injEq,ne_eq] at n ⊢
  omega
theorem zavl {h g:Gt} (e:h.nf=g.nf) (t:g.two=false):h=g:=by
 by_cases n:h=g
 ·exact n
 ·rw [(zap2 e n).1] at t; cases t
theorem zaii {gs:List Gt}{h g:Gt}{n:Nat} (e:gs[n]?=some g):(like gs h).1[n]?=some g:=by
 unfold like
 split
 ·exact e
 ·rw [List.getElem?_append_left (List.getElem?_eq_some_iff.mp e).1]; exact e
theorem zap3 {gs:List Gt}{g:Gt}{x n:Nat} (e:gs[n]?=some g):(opp gs x).1[n]?=some g:=by
 unfold opp
 split
 ·exact e
 ·exact zaii e
theorem zauh (gs:List Gt) (h:Gt):∃ h',(like gs h).1[(like gs h).2]?=some h'∧h'.nf=h.nf:=by
 unfold like
 cases e:findI gs h with
 | some i=>obtain ⟨h',e1,_,e3⟩:=zaey e; exact ⟨h',e1,e3⟩
 | none=>exact ⟨h,by simp,rfl⟩
theorem zar5 (gs:List Gt) {h:Gt} (t:h.two=false):(like gs h).1[(like gs h).2]?=some h:=by
 obtain ⟨h',e1,e2⟩:=zauh gs h
 rw [zavl e2 t] at e1
 exact e1
theorem lk_z {gs:List Gt}{h:Gt}{x:Nat}:isZ gs x=true→isZ (like gs h).1 x=true:=zabe zaii
theorem lk_o {gs:List Gt}{h:Gt}{x:Nat}:isO gs x=true→isO (like gs h).1 x=true:=zabe zaii
theorem zar6 {gs:List Gt}{h:Gt}{x y:Nat}:opsd gs x y=true→opsd (like gs h).1 x y=true:=zacu (zabe zaii) (zabe zaii)
theorem zar7 (gs:List Gt):isZ (like gs .zero).1 (like gs .zero).2=true:=decide_eq_true (zar5 gs rfl)
theorem zar8 (gs:List Gt):isO (like gs .one).1 (like gs .one).2=true:=decide_eq_true (zar5 gs rfl)
theorem op_z {gs:List Gt}{x y:Nat}:isZ gs y=true→isZ (opp gs x).1 y=true:=zabe zap3
theorem op_o {gs:List Gt}{x y:Nat}:isO gs y=true→isO (opp gs x).1 y=true:=zabe zap3
theorem zar9 (gs:List Gt) (x:Nat):opsd (opp gs x).1 (opp gs x).2 x=true:=by
 unfold opp opsd
 rw [Bool.or_eq_true]
 split
 ·rename_i a e; exact .inr (decide_eq_true e)
 ·exact .inl (decide_eq_true (zar5 gs rfl))
theorem zajm {gs:List Gt}{ρ:Nat→Nat}{g:Gt} (hs:g.src=false):phB (plain gs (g.ren ρ)).1 ρ (plain gs (g.ren ρ)).2.1 (plain gs (g.ren ρ)).2.2 g=true:=by
 have hk:g.isKeep=false:=by cases g <;> first | rfl | (cases hs)
 obtain ⟨h',e1,e2⟩:=zauh gs (g.ren ρ)
 unfold plain
 by_cases z:(like gs (g.ren ρ)).1[(like gs (g.ren ρ)).2]?=some (g.ren ρ)
 ·rw [if_pos z]
  exact (zad0 hk).trans (decide_eq_true z)
 ·rw [if_neg z]
  have n:h'≠g.ren ρ:=fun y=>z (by rw [e1,y])
  obtain ⟨t,e⟩:=zap2 e2 n
  have t2:g.two=true:=by cases g <;> first | rfl | (cases t)
  have e4:(g.ren ρ).trn id=g.trn ρ:=by cases g <;> first | rfl | (cases t)
  exact (zag8 t2).trans (decide_eq_true (by rw [e1,e,e4]))
theorem ne_s {s t:String} (h:(Str.ofString s == Str.ofString t)=false):¬ Str.ofString s=Str.ofString t:=fun z=>by rw [z] at h; simp at h
theorem zaui {gs:List Gt}{ρ:Nat→Nat}{a:Nat}:phB (notP gs (ρ a)).1 ρ (notP gs (ρ a)).2.1 (notP gs (ρ a)).2.2 (.not a)=true:=by
 unfold notP
 by_cases h1:isZ gs (ρ a)=true
 ·rw [if_pos h1]
  (try unfold lk)
  refine (zabp rfl (by exact ne_s (by decide +kernel)) (fun z=>absurd z.2 (by simp [Gt.two]))).trans ?_
  show notB _ _ _ _=true
  unfold notB
  rw [if_neg (by exact ne_s (by decide +kernel)),if_pos rfl,Bool.and_eq_true]
  exact ⟨lk_z h1,zar8 gs⟩
 rw [if_neg h1]
 by_cases h2:isO gs (ρ a)=true
 ·rw [if_pos h2]
  (try unfold lk)
  refine (zabp rfl (by exact ne_s (by decide +kernel)) (fun z=>absurd z.2 (by simp [Gt.two]))).trans ?_
  show notB _ _ _ _=true
  unfold notB
  rw [if_neg (by exact ne_s (by decide +kernel)),if_neg (by exact ne_s (by decide +kernel)),if_pos rfl,Bool.and_eq_true]
  exact ⟨lk_o h2,zar7 gs⟩
 rw [if_neg h2]
 split
 ·rename_i b e
  refine (zabp rfl (by exact ne_s (by decide +kernel)) (fun z=>absurd z.2 (by simp [Gt.two]))).trans ?_
  show notB _ _ _ _=true
  unfold notB
  rw [if_pos rfl]
  exact decide_eq_true e
 ·exact zajm (g:=.not a) rfl
theorem zauj {gs:List Gt}{ρ:Nat→Nat}{a b:Nat}:phB (andP gs (ρ a) (ρ b)).1 ρ (andP gs (ρ a) (ρ b)).2.1 (andP gs (ρ a) (ρ b)).2.2 (.and a b)=true:=by
 unfold andP
 by_cases h1:(isO gs (ρ b) || decide (ρ a=ρ b))=true
 ·rw [if_pos h1]
  (try unfold lk)
  refine (zabp rfl (by exact ne_s (by decide +kernel)) (fun z=>absurd z.1 (by exact ne_s (by decide +kernel)))).trans ?_
  show andB _ _ _ _ _=true
  unfold andB
  rw [if_pos rfl,Bool.and_eq_true]
  exact ⟨decide_eq_true rfl,zacu id (zabe Eq.symm) h1⟩
 rw [if_neg h1]
 by_cases h2:isO gs (ρ a)=true
 ·rw [if_pos h2]
  (try unfold lk)
  refine (zabp rfl (by exact ne_s (by decide +kernel)) (fun z=>absurd z.1 (by exact ne_s (by decide +kernel)))).trans ?_
  show andB _ _ _ _ _=true
  unfold andB
  rw [if_neg (by exact ne_s (by decide +kernel)),if_pos rfl,Bool.and_eq_true]
  exact ⟨decide_eq_true rfl,h2⟩
 rw [if_neg h2]
 by_cases h3:(isZ gs (ρ a) || (isZ gs (ρ b) || opsd gs (ρ a) (ρ b)))=true
 ·rw [if_pos h3]
  (try unfold lk)
  refine (zabp rfl (by exact ne_s (by decide +kernel)) (fun z=>absurd z.1 (by exact ne_s (by decide +kernel)))).trans ?_
  show andB _ _ _ _ _=true
  unfold andB
  rw [if_neg (by exact ne_s (by decide +kernel)),if_neg (by exact ne_s (by decide +kernel)),if_pos rfl,Bool.and_eq_true]
  exact ⟨zar7 gs,zacu lk_z (zacu lk_z zar6) h3⟩
 rw [if_neg h3]
 exact zajm (g:=.and a b) rfl
theorem zavm {gs:List Gt}{ρ:Nat→Nat}{a b:Nat}:phB (orP gs (ρ a) (ρ b)).1 ρ (orP gs (ρ a) (ρ b)).2.1 (orP gs (ρ a) (ρ b)).2.2 (.or a b)=true:=by
 unfold orP
 by_cases h1:(isZ gs (ρ b) || decide (ρ a=ρ b))=true
 ·rw [if_pos h1]
  (try unfold lk)
  refine (zabp rfl (by exact ne_s (by decide +kernel)) (fun z=>absurd z.1 (by exact ne_s (by decide +kernel)))).trans ?_
  show orB _ _ _ _ _=true
  unfold orB
  rw [if_pos rfl,Bool.and_eq_true]
  exact ⟨decide_eq_true rfl,zacu id (zabe Eq.symm) h1⟩
 rw [if_neg h1]
 by_cases h2:isZ gs (ρ a)=true
 ·rw [if_pos h2]
  (try unfold lk)
  refine (zabp rfl (by exact ne_s (by decide +kernel)) (fun z=>absurd z.1 (by exact ne_s (by decide +kernel)))).trans ?_
  show orB _ _ _ _ _=true
  unfold orB
  rw [if_neg (by exact ne_s (by decide +kernel)),if_pos rfl,Bool.and_eq_true]
  exact ⟨decide_eq_true rfl,h2⟩
 rw [if_neg h2]
 by_cases h3:(isO gs (ρ a) || (isO gs (ρ b) || opsd gs (ρ a) (ρ b)))=true
 ·rw [if_pos h3]
  (try unfold lk)
  refine (zabp rfl (by exact ne_s (by decide +kernel)) (fun z=>absurd z.1 (by exact ne_s (by decide +kernel)))).trans ?_
  show orB _ _ _ _ _=true
  unfold orB
  rw [if_neg (by exact ne_s (by decide +kernel)),if_neg (by exact ne_s (by decide +kernel)),if_pos rfl,Bool.and_eq_true]
  exact ⟨zar8 gs,zacu lk_o (zacu lk_o zar6) h3⟩
 rw [if_neg h3]
 exact zajm (g:=.or a b) rfl
theorem zauk {gs:List Gt}{ρ:Nat→Nat}{a b:Nat}:phB (xorP gs (ρ a) (ρ b)).1 ρ (xorP gs (ρ a) (ρ b)).2.1 (xorP gs (ρ a) (ρ b)).2.2 (.xor a b)=true:=by
 unfold xorP
 by_cases h1:isZ gs (ρ b)=true
 ·rw [if_pos h1]
  (try unfold lk)
  refine (zabp rfl (by exact ne_s (by decide +kernel)) (fun z=>absurd z.1 (by exact ne_s (by decide +kernel)))).trans ?_
  show xorB _ _ _ _ _=true
  unfold xorB
  rw [if_pos rfl,Bool.and_eq_true]
  exact ⟨decide_eq_true rfl,h1⟩
 rw [if_neg h1]
 by_cases h2:isZ gs (ρ a)=true
 ·rw [if_pos h2]
  (try unfold lk)
  refine (zabp rfl (by exact ne_s (by decide +kernel)) (fun z=>absurd z.1 (by exact ne_s (by decide +kernel)))).trans ?_
  show xorB _ _ _ _ _=true
  unfold xorB
  rw [if_neg (by exact ne_s (by decide +kernel)),if_pos rfl,Bool.and_eq_true]
  exact ⟨decide_eq_true rfl,h2⟩
 rw [if_neg h2]
 by_cases h3:ρ a=ρ b
 ·rw [if_pos h3]
  (try unfold lk)
  refine (zabp rfl (by exact ne_s (by decide +kernel)) (fun z=>absurd z.1 (by exact ne_s (by decide +kernel)))).trans ?_
  show xorB _ _ _ _ _=true
  unfold xorB
  rw [if_neg (by exact ne_s (by decide +kernel)),if_neg (by exact ne_s (by decide +kernel)),if_pos rfl,Bool.and_eq_true]
  exact ⟨zar7 gs,decide_eq_true h3⟩
 rw [if_neg h3]
 by_cases h4:opsd gs (ρ a) (ρ b)=true
 ·rw [if_pos h4]
  (try unfold lk)
  refine (zabp rfl (by exact ne_s (by decide +kernel)) (fun z=>absurd z.1 (by exact ne_s (by decide +kernel)))).trans ?_
  show xorB _ _ _ _ _=true
  unfold xorB
  rw [if_neg (by exact ne_s (by decide +kernel)),if_neg (by exact ne_s (by decide +kernel)),if_neg (by exact ne_s (by decide +kernel)),if_pos rfl,Bool.and_eq_true]
  exact ⟨zar8 gs,zar6 h4⟩
 rw [if_neg h4]
 by_cases h5:isO gs (ρ b)=true
 ·rw [if_pos h5]
  (try unfold lk)
  refine (zabp rfl (by exact ne_s (by decide +kernel)) (fun z=>absurd z.1 (by exact ne_s (by decide +kernel)))).trans ?_
  show xorB _ _ _ _ _=true
  unfold xorB
  rw [if_neg (by exact ne_s (by decide +kernel)),if_neg (by exact ne_s (by decide +kernel)),if_neg (by exact ne_s (by decide +kernel)),if_neg (by exact ne_s (by decide +kernel)),if_pos rfl,Bool.or_eq_true,Bool.and_eq_true]
  exact .inl ⟨op_o h5,zar9 gs _⟩
 rw [if_neg h5]
 by_cases h6:isO gs (ρ a)=true
 ·rw [if_pos h6]
  (try unfold lk)
  refine (zabp rfl (by exact ne_s (by decide +kernel)) (fun z=>absurd z.1 (by exact ne_s (by decide +kernel)))).trans ?_
  show xorB _ _ _ _ _=true
  unfold xorB
  rw [if_neg (by exact ne_s (by decide +kernel)),if_neg (by exact ne_s (by decide +kernel)),if_neg (by exact ne_s (by decide +kernel)),if_neg (by exact ne_s (by decide +kernel)),if_pos rfl,Bool.or_eq_true,Bool.and_eq_true,Bool.and_eq_true]
  exact .inr ⟨op_o h6,zar9 gs _⟩
 rw [if_neg h6]
 exact zajm (g:=.xor a b) rfl
theorem zasa {gs:List Gt}{ρ:Nat→Nat}{a b c:Nat}:phB (pickP gs (ρ a) (ρ b) (ρ c)).1 ρ (pickP gs (ρ a) (ρ b) (ρ c)).2.1 (pickP gs (ρ a) (ρ b) (ρ c)).2.2 (.pick a b c)=true:=by
 unfold pickP
 by_cases h1:(isO gs (ρ a) || decide (ρ b=ρ c))=true
 ·rw [if_pos h1]
  (try unfold lk)
  refine (zabp rfl (by exact ne_s (by decide +kernel)) (fun z=>absurd z.1 (by exact ne_s (by decide +kernel)))).trans ?_
  show pickB _ _ _ _ _ _=true
  unfold pickB
  rw [if_pos rfl,Bool.and_eq_true]
  exact ⟨decide_eq_true rfl,h1⟩
 rw [if_neg h1]
 by_cases h2:isZ gs (ρ a)=true
 ·rw [if_pos h2]
  (try unfold lk)
  refine (zabp rfl (by exact ne_s (by decide +kernel)) (fun z=>absurd z.1 (by exact ne_s (by decide +kernel)))).trans ?_
  show pickB _ _ _ _ _ _=true
  unfold pickB
  rw [if_neg (by exact ne_s (by decide +kernel)),if_pos rfl,Bool.and_eq_true]
  exact ⟨decide_eq_true rfl,h2⟩
 rw [if_neg h2]
 by_cases h3:(isO gs (ρ b) && isZ gs (ρ c))=true
 ·rw [if_pos h3]
  (try unfold lk)
  refine (zabp rfl (by exact ne_s (by decide +kernel)) (fun z=>absurd z.1 (by exact ne_s (by decide +kernel)))).trans ?_
  show pickB _ _ _ _ _ _=true
  unfold pickB
  rw [if_neg (by exact ne_s (by decide +kernel)),if_neg (by exact ne_s (by decide +kernel)),if_pos rfl,Bool.and_eq_true]
  exact ⟨decide_eq_true rfl,h3⟩
 rw [if_neg h3]
 by_cases h4:(isZ gs (ρ b) && isO gs (ρ c))=true
 ·rw [if_pos h4]
  (try unfold lk)
  refine (zabp rfl (by exact ne_s (by decide +kernel)) (fun z=>absurd z.1 (by exact ne_s (by decide +kernel)))).trans ?_
  show pickB _ _ _ _ _ _=true
  unfold pickB
  rw [if_neg (by exact ne_s (by decide +kernel)),if_neg (by exact ne_s (by decide +kernel)),if_neg (by exact ne_s (by decide +kernel)),if_pos rfl,Bool.and_eq_true]
  exact ⟨zar9 gs _,zabv op_z op_o h4⟩
 rw [if_neg h4]
 exact zajm (g:=.pick a b c) rfl
theorem zavn {gs:List Gt}{ρ:Nat→Nat}{g:Gt} (hs:g.src=false):phB (gpair gs ρ g).1 ρ (gpair gs ρ g).2.1 (gpair gs ρ g).2.2 g=true:=by
 cases g with
 | inp=>cases hs
 | keep f a=>cases hs
 | zero=>exact zajm (g:=.zero) rfl
 | one=>exact zajm (g:=.one) rfl
 | not a=>exact zaui
 | and a b=>exact zauj
 | or a b=>exact zavm
 | xor a b=>exact zauk
 | pick a b c=>exact zasa
end

section
theorem zaul (g:Gt):g.ren id=g:=by cases g <;> rfl
theorem zann {ρ ρ':Nat→Nat}{g:Gt} (h:∀ a∈g.feeds,ρ a=ρ' a):g.ren ρ=g.ren ρ':=by
 cases g <;> simp only [ruB,Gt.ren,Gt.trn,Gt.feeds,List.mem_cons,List.not_mem_nil,or_false,List.mem_singleton] at *
 case keep f a=>first | done | rw [h a rfl]
 case not a=>first | done | rw [h a rfl]
 case and a b=>rw [h a (.inl rfl),h b (.inr rfl)]
 case or a b=>rw [h a (.inl rfl),h b (.inr rfl)]
 case xor a b=>rw [h a (.inl rfl),h b (.inr rfl)]
 case pick a b c=>first | done | rw [h a (.inl rfl),h b (.inr (.inl rfl)),h c (.inr (.inr rfl))]
theorem zano {ρ ρ':Nat→Nat}{g:Gt} (h:∀ a∈g.feeds,ρ a=ρ' a):g.trn ρ=g.trn ρ':=by
 cases g <;> simp only [ruB,Gt.ren,Gt.trn,Gt.feeds,List.mem_cons,List.not_mem_nil,or_false,List.mem_singleton] at *
 case and a b=>rw [h a (.inl rfl),h b (.inr rfl)]
 case or a b=>rw [h a (.inl rfl),h b (.inr rfl)]
 case xor a b=>rw [h a (.inl rfl),h b (.inr rfl)]
theorem zapb {al:List Gt}{ρ ρ':Nat→Nat}{it:Nat}{why:Str}{g:Gt} (h:∀ a∈g.feeds,ρ a=ρ' a):ruB al ρ it why g=ruB al ρ' it why g:=by
 cases g <;> simp only [ruB,Gt.ren,Gt.trn,Gt.feeds,List.mem_cons,List.not_mem_nil,or_false,List.mem_singleton] at *
 case not a=>first | done | rw [h a rfl]
 case and a b=>rw [h a (.inl rfl),h b (.inr rfl)]
 case or a b=>rw [h a (.inl rfl),h b (.inr rfl)]
 case xor a b=>rw [h a (.inl rfl),h b (.inr rfl)]
 case pick a b c=>first | done | rw [h a (.inl rfl),h b (.inr (.inl rfl)),h c (.inr (.inr rfl))]
theorem zahb {al:List Gt}{ρ ρ':Nat→Nat}{it:Nat}{why:Str}{g:Gt} (h:∀ a∈g.feeds,ρ a=ρ' a):phB al ρ it why g=phB al ρ' it why g:=by
 have e1:=zann h
 have e2:=zano h
 have e3:=zapb (al:=al) (it:=it) (why:=why) h
 cases g with
 | keep f a=>simp only [phB]; rw [h a (by simp [Gt.feeds])]
 | _=>simp only [phB]; rw [e1,e2,e3]
theorem zap4 {net:List Gt} (ok:Oks net):∀ i,i≤net.length→∀ (j:Nat) (g:Gt) (p:Nat × Str),net[j]?=some g→(shr (net.take i)).2[j]?=some p→(g.src=true→p.2=g.wd)∧(g.src=false→phB (shr (net.take i)).1 (rho (shr (net.take i)).2) p.1 p.2 g=true)
 | 0,_,j,g,p,_,h=>by
  rw [List.take_zero] at h
  simp [shr] at h
 | i + 1,hi,j,g,p,ej,hp=>by
  have e:net[i]?=some net[i]:=List.getElem?_eq_getElem (by omega)
  have si:=SI.all ok i (by omega)
  have st:=zag3 e
  have okg:=ok i _ e
  generalize net[i]=g0 at e okg st
  have up:∀ (n:Nat) (g':Gt),(shr (net.take i)).1[n]?=some g'→(shr (net.take (i + 1))).1[n]?=some g':=fun n g' h=>by
   rw [st]
   unfold stp
   split
   ·show (_++_)[n]?=_
    rw [List.getElem?_append_left (List.getElem?_eq_some_iff.mp h).1]; exact h
   ·rename_i hs
    exact (si.ext okg (by simpa using hs)).at h
  have rp:∀ j,j < i→rho (shr (net.take (i + 1))).2 j=rho (shr (net.take i)).2 j:=fun j hj=>by
   have hl:j < (shr (net.take i)).2.length:=by rw [si.len]; exact hj
   rw [st]
   unfold stp rho
   split <;> (show (List.getD (_++_:List (Nat × Str)) j _).1=_; rw [List.getD_eq_getElem?_getD,List.getD_eq_getElem?_getD,List.getElem?_append_left hl])
  obtain ⟨q,eq⟩:∃ q,(shr (net.take (i + 1))).2=(shr (net.take i)).2++[q]:=by
   rw [st]
   unfold stp
   split <;> exact ⟨_,rfl⟩
  have hp2:=hp
  rw [eq] at hp2
  rcases zace hp2 with ⟨hj,z⟩ | ⟨hj,z⟩
  ·rw [si.len] at hj
   obtain ⟨a,b⟩:=zap4 ok i (by omega) j g p ej z
   refine ⟨a,fun hs=>?_⟩
   have sm:Sim (shr (net.take i)).1 (shr (net.take (i + 1))).1 id:=fun n g' _ h=>by rw [zaul]; exact up n g' h
   have fo:=zadt (ok j g ej) hs
   have:=sm.ph hs (b hs)
   rw [← this]
   exact zahb fun a ha=>rp a (by have:=fo a ha; omega)
  ·rw [si.len] at hj
   subst hj
   rw [e] at ej
   cases ej
   cases hg:g.src with
   | true =>
    refine ⟨fun _=>?_,fun z=>by cases z⟩
    rw [st] at hp
    unfold stp at hp
    rw [if_pos hg] at hp
    rw [List.getElem?_append_right (by rw [si.len]; exact Nat.le_refl _),si.len,Nat.sub_self] at hp
    cases hp
    rfl
   | false =>
    refine ⟨(fun z=>by cases z),fun _=>?_⟩
    have fo:=zadt okg hg
    rw [zahb (ρ':=rho (shr (net.take j)).2) fun a ha=>rp a (fo a ha)]
    rw [st] at hp ⊢
    unfold stp at hp ⊢
    rw [if_neg (by simp [hg])] at hp ⊢
    rw [List.getElem?_append_right (by rw [si.len]; exact Nat.le_refl _),si.len,Nat.sub_self] at hp
    cases hp
    exact zavn hg
end

section
def cnt (t:Gt→Bool) (gs:List Gt) (i:Nat):Nat:=(numsOf t (gs.take i) 0).length
theorem zadj (t:Gt→Bool):∀ (gs:List Gt) (j:Nat),(numsOf t gs j).length=gs.countP t
 | [],_=>rfl
 | g :: gs,j=>by
  have ih:=zadj t gs (j + 1)
  simp only [numsOf,List.countP_cons]
  split <;> simp [ih, *]
theorem zanp (t:Gt→Bool) (gs:List Gt) (i:Nat):cnt t gs i=(gs.take i).countP t:=zadj t _ 0
theorem zalb {t:Gt→Bool}{gs:List Gt}{n:Nat}{g:Gt} (e:gs[n]?=some g) (ht:t g=true):(numsOf t gs 0)[cnt t gs n]?=some n:=by
 obtain ⟨hn,eg⟩:=List.getElem?_eq_some_iff.mp e
 have h:numsOf t gs 0=numsOf t (gs.take n) 0++numsOf t (gs.drop n) (0 + (gs.take n).length):=by rw [← zads,List.take_append_drop]
 unfold cnt
 rw [h,List.getElem?_append_right (Nat.le_refl _),Nat.sub_self,List.drop_eq_getElem_cons hn,eg]
 simp only [numsOf,ht,if_true,List.length_take,Nat.min_eq_left (Nat.le_of_lt hn)]
 simp
theorem zahc (t:Gt→Bool) (l:List Gt):∀ n,n≤l.length→(l.take n).countP t=(List.range n).countP fun m=>t (l.getD m .inp)
 | 0,_=>rfl
 | n + 1,h=>by
  have e:l[n]?=some l[n]:=List.getElem?_eq_getElem (by omega)
  rw [List.take_add_one,List.countP_append,zahc t l n (by omega),List.range_succ,List.countP_append,e]
  simp [List.getD_eq_getElem?_getD,e]
theorem zajn (W:Nat→Bool) {n:Nat}:∀ {N:Nat},n≤N→(kp W N).take (cW W n)=kp W n
 | 0,h=>by
  have:n=0:=by omega
  subst this; rfl
 | N + 1,h=>by
  by_cases e:n=N + 1
  ·subst e
   exact List.take_length
  ·rw [zadz,List.take_append_of_le_length]
   ·exact zajn W (by omega)
   ·have:=zajn W (n:=n) (N:=N) (by omega)
    have h2:(kp W n).length=cW W n:=rfl
    rw [← this,List.length_take] at h2
    omega
section
variable {net gs:List Gt}{prs:List (Nat × Str)}{os:List Nat}{W:Nat→Bool}
theorem zapc (p:Gt→Bool):gs.countP p=(List.range gs.length).countP fun n=>p (gs.getD n .inp):=by
 have e:gs=(List.range gs.length).map fun n=>gs.getD n .inp:=by
  refine List.ext_getElem? fun i=>?_
  rw [List.getElem?_map]
  by_cases hi:i < gs.length
  ·rw [List.getElem?_range hi,List.getElem?_eq_getElem hi]
   simp [List.getD_eq_getElem?_getD,List.getElem?_eq_getElem hi]
  ·rw [List.getElem?_eq_none (by omega),List.getElem?_eq_none (by simp; omega)]; rfl
 have:=congrArg (List.countP p) e
 rw [List.countP_map] at this
 exact this
theorem zasb (p:Gt→Bool) (hp:∀ g ρ,p (Gt.ren ρ g)=p g):(sml gs W).countP p=(List.range gs.length).countP fun n=>p (gs.getD n .inp) && W n:=by
 unfold sml sel kp
 rw [List.countP_map,List.countP_filter]
 refine List.countP_congr fun n _=>?_
 simp [hp]
theorem zasc (w:Wd gs os W) (lg:LG net prs gs):(sml gs W).countP Gt.isIn=net.countP Gt.isIn:=by
 rw [zasb _ (fun g ρ=>zaki ρ g),← lg.ci,zapc]
 refine List.countP_congr fun n hn=>?_
 have hn:=List.mem_range.mp hn
 have e:gs[n]?=some gs[n]:=List.getElem?_eq_getElem hn
 have eg:gs.getD n .inp=gs[n]:=by rw [List.getD_eq_getElem?_getD,e]; rfl
 rw [eg]
 cases hi:gs[n].isIn with
 | false=>simp
 | true =>
  have:gs[n]=.inp:=by cases hg:gs[n] <;> first | rfl | (rw [hg] at hi; cases hi)
  simp [w.ins n (by rw [e,this])]
end
structure Two (net:List Gt) (os:List Nat) (W:Nat→Bool):Prop where
 ok:Oks net
 wd:Wd (gsF net) (os.map (rho (shr net).2)) W
abbrev told (net:List Gt) (W:Nat→Bool):List Gt:=sml (gsF net) W
section
variable {net:List Gt}{os:List Nat}{W:Nat→Bool}
theorem Two.si (t:Two net os W):SI net net.length (shr net):=by
 have si:=SI.all t.ok net.length (Nat.le_refl _)
 rwa [List.take_length] at si
theorem Two.rf (t:Two net os W):RF net (shr net) net.length (gsF net):=RF.all t.si net.length (Nat.le_refl _)
theorem Two.at (t:Two net os W) {j:Nat} (h:j < net.length):∃ p,(shr net).2[j]?=some p∧rho (shr net).2 j=p.1∧p.1 < (shr net).1.length:=t.si.rho h
theorem Two.ins (t:Two net os W) {n:Nat} (hn:(gsF net)[n]?=some .inp):cnt Gt.isIn (told net W) (rk W (gsF net).length n)=((gsF net).take n).countP Gt.isIn:=by
 have hl:=(List.getElem?_eq_some_iff.mp hn).1
 have hw:=t.wd.ins n hn
 rw [zanp,rk_w hw]
 unfold told sml sel
 rw [← List.map_take,zajn W (by omega),List.countP_map,zahc _ _ n (by omega)]
 unfold kp
 rw [List.countP_filter]
 refine List.countP_congr fun m hm=>?_
 have hm:=List.mem_range.mp hm
 have e:(gsF net)[m]?=some (gsF net)[m]:=List.getElem?_eq_getElem (by omega)
 have eg:(gsF net).getD m .inp=(gsF net)[m]:=by rw [List.getD_eq_getElem?_getD,e]; rfl
 simp only [Function.comp_apply,eg,zaki,Bool.and_eq_true]
 refine ⟨fun h=>h.1,fun h=>⟨h,t.wd.ins m ?_⟩⟩
 rw [e]
 cases hg:(gsF net)[m] <;> first | rfl | (rw [hg] at h; cases h)
theorem Two.pre (t:Two net os W) {n:Nat} (hn:n≤(gsF net).length):((gsF net).take n).countP Gt.isIn=((shr net).1.take n).countP Gt.isIn:=by
 have rf:=t.rf
 rw [zahc _ _ n hn,zahc _ _ n (by rw [← rf.len]; exact hn)]
 refine List.countP_congr fun m hm=>?_
 have hm:=List.mem_range.mp hm
 have e:(gsF net)[m]?=some (gsF net)[m]:=List.getElem?_eq_getElem (by omega)
 rw [List.getD_eq_getElem?_getD,List.getD_eq_getElem?_getD]
 rcases rf.back e with ⟨_,e2⟩ | ⟨f,a,b,e1,e2⟩
 ·rw [e,e2]
 ·rw [e,e2,e1]; rfl
abbrev lostG (net:List Gt) (W:Nat→Bool):List Gt:=sel (gsF net) (rk W (gsF net).length) (kp (nW W) (gsF net).length)
abbrev prsS (net:List Gt) (W:Nat→Bool):List (Nat × Str):=(shr net).2.map fun p=>(rk W (gsF net).length p.1,p.2)
theorem zap5 (net:List Gt) (W:Nat→Bool):told net W++lostG net W=sel (gsF net) (rk W (gsF net).length) (od W (gsF net).length):=by
 unfold told sml lostG sel od
 rw [List.map_append]
theorem zahd (net:List Gt) (W:Nat→Bool):(told net W++lostG net W).length=(gsF net).length:=by
 rw [zap5]
 unfold sel
 rw [List.length_map,zaib]
theorem zap6 {N n:Nat} (h:n < N):rk W N n < N:=by
 have:=(List.getElem?_eq_some_iff.mp (zaru (W:=W) h)).1
 rwa [zaib] at this
theorem zah3 {n:Nat}{g:Gt} (h:(gsF net)[n]?=some g):(told net W++lostG net W)[rk W (gsF net).length n]?=some (g.ren (rk W (gsF net).length)):=by
 rw [zap5]
 exact zapz (zaru (List.getElem?_eq_some_iff.mp h).1) h
theorem zaum {j:Nat}{p:Nat × Str} (h:(prsS net W)[j]?=some p):∃ q,(shr net).2[j]?=some q∧p=(rk W (gsF net).length q.1,q.2):=by
 rw [List.getElem?_map] at h
 obtain ⟨q,e,rfl⟩:=Option.map_eq_some_iff.mp h
 exact ⟨q,e,rfl⟩
theorem Two.rho (t:Two net os W) {a:Nat} (h:a < net.length):B17.rho (prsS net W) a=rk W (gsF net).length (B17.rho (shr net).2 a):=by
 obtain ⟨p,e1,e2,_⟩:=t.at h
 rw [e2]
 unfold B17.rho prsS
 rw [List.getD_eq_getElem?_getD,List.getElem?_map,e1]; rfl
theorem Two.sim (t:Two net os W):Sim (shr net).1 (told net W++lostG net W) (rk W (gsF net).length):=fun n g hs e=>zah3 (t.rf.oth n g e (by cases g <;> first | rfl | (cases hs)))
theorem Two.laid (t:Two net os W) {j:Nat}{g:Gt}{p:Nat × Str} (e:net[j]?=some g) (h:(shr net).2[j]?=some p):(g.src=true→p.2=g.wd)∧(g.src=false→phB (shr net).1 (B17.rho (shr net).2) p.1 p.2 g=true):=by
 have:=zap4 t.ok net.length (Nat.le_refl _) j g p e (by rw [List.take_length]; exact h)
 rwa [List.take_length] at this
theorem Two.lost (t:Two net os W) {j:Nat}{g:Gt} (h:(lostG net W)[j]?=some g):g≠.inp∧g.ok ((told net W).length + j) ((told net W).length + (lostG net W).length):=by
 have lg:=zamw t.ok
 have al:=zahd net W
 rw [List.length_append] at al
 rw [al]
 obtain ⟨n,e1,rfl⟩:=zamx h
 obtain ⟨w,hn,rfl⟩:=zakh e1
 have wn:W n=false:=by simpa [nW] using w
 have e:(gsF net)[n]?=some (gsF net)[n]:=List.getElem?_eq_getElem hn
 have eg:(gsF net).getD n .inp=(gsF net)[n]:=by rw [List.getD_eq_getElem?_getD,e]; rfl
 rw [eg]
 have ok:=lg.ok n _ e
 generalize (gsF net)[n]=h at e ok
 have tl:(told net W).length=cW W (gsF net).length:=by unfold told sml sel cW kp; rw [List.length_map]
 have up:∀ a,a < n→rk W (gsF net).length a < (told net W).length + cW (nW W) n:=fun a ha=>by
  rw [tl]
  unfold rk
  by_cases z:W a=true
  ·rw [if_pos z]
   have:=zart z (show a < (gsF net).length by omega)
   omega
  ·rw [if_neg z]
   have:=zart (W:=nW W) (by simp [nW,z]) ha
   omega
 cases h <;> simp only [Gt.ren,Gt.ok,ne_eq,reduceCtorEq,not_false_eq_true,true_and,not_true_eq_false] at *
 case inp=>have:=t.wd.ins n e; rw [wn] at this; cases this
 case keep f a=>exact ⟨ok.1,ok.2.1,zap6 ok.2.2⟩
 case not a=>exact up a ok
 case and a b=>exact ⟨up a ok.1,up b ok.2⟩
 case or a b=>exact ⟨up a ok.1,up b ok.2⟩
 case xor a b=>exact ⟨up a ok.1,up b ok.2⟩
 case pick a b c=>exact ⟨up a ok.1,up b ok.2.1,up c ok.2.2⟩
theorem zapd {t:Gt→Bool}{gs:List Gt}:∀ {k j n:Nat},(numsOf t gs k)[j]?=some n→k≤n∧∃ g,gs[n - k]?=some g∧t g=true∧j=(gs.take (n - k)).countP t:=by
 induction gs with
 | nil=>intro k j n h; simp [numsOf] at h
 | cons g gs ih =>
  intro k j n h
  have nx:∀ j',(numsOf t gs (k + 1))[j']?=some n→k≤n∧(∃ g',(g :: gs)[n - k]?=some g'∧t g'=true)∧j' + (if t g then 1 else 0)=((g :: gs).take (n - k)).countP t:=fun j' h'=>by
   obtain ⟨l,g',e1,e2,e3⟩:=ih h'
   have:n - k=(n - (k + 1)) + 1:=by omega
   rw [this]
   refine ⟨by omega,⟨g',by simpa using e1,e2⟩,?_⟩
   rw [List.take_succ_cons,List.countP_cons,← e3]
  simp only [numsOf] at h
  cases ht:t g with
  | false =>
   rw [ht] at h
   obtain ⟨a,⟨g',b,c⟩,d⟩:=nx j (by simpa using h)
   rw [ht] at d
   exact ⟨a,g',b,c,by simpa using d⟩
  | true =>
   rw [ht,if_pos rfl] at h
   cases j with
   | zero =>
    simp at h
    subst h
    exact ⟨Nat.le_refl _,g,by simp,ht,by simp⟩
   | succ j =>
    obtain ⟨a,⟨g',b,c⟩,d⟩:=nx j (by simpa using h)
    rw [ht] at d
    exact ⟨a,g',b,c,by simpa using d⟩
theorem Two.sho (t:Two net os W) (lo:∀ o∈os,o < net.length):Sho net os (told net W) (os.map fun o=>rk W (gsF net).length (B17.rho (shr net).2 o)) (lostG net W) (prsS net W):=by
 have lg:=zamw t.ok
 refine ⟨t.ok,by rw [List.length_map]; exact lg.pl,fun p hp=>?_,fun j g h=>t.lost h,?_,fun j n m h1 h2=>?_,by rw [List.length_map],fun j o m h1 h2=>?_,fun i g p e1 ni e2=>?_⟩
 ·rw [zahd]
  obtain ⟨q,hq,rfl⟩:=List.mem_map.mp hp
  obtain ⟨i,hi⟩:=List.getElem?_of_mem hq
  exact zap6 (lg.pt i q hi)
 ·rw [zadj,zadj]
  exact (zasc t.wd lg).symm
 ·obtain ⟨_,g,e1,e2,e3⟩:=zapd h1
  rw [Nat.sub_zero] at e1 e3
  have:g=.inp:=by cases g <;> first | rfl | (cases e2)
  subst this
  obtain ⟨p,e4,e5,e6⟩:=t.at (List.getElem?_eq_some_iff.mp e1).1
  have e7:=t.si.src n .inp p e1 e4 rfl
  have e8:=t.rf.oth _ _ e7 rfl
  have e9:=t.ins e8
  rw [t.pre (by rw [t.rf.len]; omega),t.si.od n .inp p e1 e4 rfl Gt.isIn (fun g h=>by cases g <;> first | rfl | (cases h)),← e3] at e9
  have ea:=zalb (t:=Gt.isIn) (zap0 t.wd (t.wd.ins _ e8) e8) rfl
  rw [show cnt Gt.isIn (sml (gsF net) W) (rk W (gsF net).length p.1)=j from e9] at ea
  have eb:(numsOf Gt.isIn (sml (gsF net) W) 0)[j]?=some m:=h2
  rw [ea] at eb
  cases eb
  rw [List.getElem?_map,e4]
  show some (_,p.2)=_
  rw [(t.laid e1 e4).1 rfl]; rfl
 ·rw [List.getElem?_map,h1] at h2
  cases h2
  obtain ⟨p,e4,e5,e6⟩:=t.at (lo o (List.mem_of_getElem? h1))
  refine ⟨p.2,?_⟩
  rw [List.getElem?_map,e4]
  show some (rk W (gsF net).length p.1,p.2)=some (rk W (gsF net).length (B17.rho (shr net).2 o),p.2)
  rw [e5]
 ·obtain ⟨q,e3,rfl⟩:=zaum e2
  have ok:=t.ok i g e1
  cases hs:g.src with
  | true =>
   cases g with
   | keep f a =>
    have ee:=(t.laid e1 e3).1 rfl
    have ef:=t.rf.fed i f a q (List.getElem?_eq_some_iff.mp e1).1 e1 e3
    show (decide (q.2=_) && decide (_=_))=true
    rw [Bool.and_eq_true]
    refine ⟨decide_eq_true ee,decide_eq_true ?_⟩
    rw [t.rho ok.2.2]
    exact zah3 ef
   | inp=>exact absurd rfl ni
   | _=>cases hs
  | false =>
   have:=t.sim.ph hs ((t.laid e1 e3).2 hs)
   rw [← this]
   refine zahb fun a ha=>t.rho ?_
   have:=zadt ok hs a ha
   have:=(List.getElem?_eq_some_iff.mp e1).1
   omega
end
end

section
def Eqv:Nat→Hp→V→V→Prop
 | 0,_,_,_=>False
 | n + 1,H,x,y=>(∃ k:Key,x=kV k∧y=kV k)∨(∃ (p r:Addr) (xs ys:List V),x=.ref p∧y=.ref r∧H p=some (.tup xs)∧H r=some (.tup ys)∧Paired (Eqv n H) xs ys∧xs.length≤300) ∨
  ∃ (p r:Addr) (xs ys:List V),x=.ref p∧y=.ref r∧H p=some (.lst xs)∧H r=some (.lst ys)∧Paired (Eqv n H) xs ys∧xs.length≤300
theorem zae0 {α β:Type}{R S:α→β→Prop} (h:∀ x y,R x y→S x y):∀ {xs:List α}{ys:List β},Paired R xs ys→Paired S xs ys
 | _,_,.nil=>.nil
 | _,_,.cons a t=>.cons (h _ _ a) (zae0 h t)
theorem Eqv.ch {H H':Hp} (c:Ch [] H H'):∀ {n:Nat}{x y:V},Eqv n H x y→Eqv n H' x y
 | 0,_,_,h=>h
 | n + 1,x,y,h=>by
  rcases h with h | ⟨p,r,xs,ys,e1,e2,g1,g2,pr,l⟩ | ⟨p,r,xs,ys,e1,e2,g1,g2,pr,l⟩
  ·exact .inl h
  ·exact .inr (.inl ⟨p,r,xs,ys,e1,e2,c.get g1 (by simp),c.get g2 (by simp),zae0 (fun _ _=>Eqv.ch c) pr,l⟩)
  ·exact .inr (.inr ⟨p,r,xs,ys,e1,e2,c.get g1 (by simp),c.get g2 (by simp),zae0 (fun _ _=>Eqv.ch c) pr,l⟩)
section
variable {P:Program}{w:World}{K:PySem.W.Frag}{mg:Str→Option Value}{base:Heap}{f:Addr}{fd:FuncData}{k:Nat}
theorem zae1:bootBuiltins "dict" = some (.type "dict"):=by decide +kernel
theorem zae2:("dict" : Str) ≠ "__name__" := by decide +kernel
theorem zae3:Nd "dict" := by decide +kernel
theorem zach:Nd "_law_same" := by decide +kernel
theorem av48:AF (defScope (top 48)) ["_law_found", "_law_due"]:=⟨by decide +kernel⟩
theorem gl48:AG (defScope (top 48)) ["isinstance", "dict", "len", "all", "tuple", "list", "zip", "str", "bool", "int"]:=⟨by decide +kernel⟩
def zahe:Scope:={ kind:=PySem.ScopeKind.function,names:=[ (PySem.Str.ofString ".0",PySem.NameKind.local),(PySem.Str.ofString "_law_name",PySem.NameKind.local),(PySem.Str.ofString "_law_same",PySem.NameKind.globalImplicit),(PySem.Str.ofString "_law_due",PySem.NameKind.free),(PySem.Str.ofString "_law_found",PySem.NameKind.free)],isGenerator:=false,isCoroutine:=false,more:=[]:PySem.Scope }
theorem zae4:CompOk zahe (defScope (top 48)) (["_law_name"]:List Str) (["_law_found", "_law_due"]:List Str) [0,1] (["_law_name", "_law_found", "_law_due"]:List Str):=compOk rfl (by decide +kernel) (by decide +kernel) (by decide +kernel) (by decide +kernel) rfl (by decide +kernel)
theorem zae5:AK (relab zahe (defScope (top 48))) ["_law_name"]:=⟨by decide +kernel⟩
theorem zajo:AG (relab zahe (defScope (top 48))) ["_law_same"]:=⟨by decide +kernel⟩
theorem zacn:AV (relab zahe (defScope (top 48))) ["_law_name", "_law_found", "_law_due"]:=⟨by decide +kernel⟩
def zahf:Scope:={ kind:=PySem.ScopeKind.function,names:=[ (PySem.Str.ofString ".0",PySem.NameKind.local),(PySem.Str.ofString "_law_one",PySem.NameKind.local),(PySem.Str.ofString "_law_other",PySem.NameKind.local),(PySem.Str.ofString "_law_same",PySem.NameKind.globalImplicit)],isGenerator:=false,isCoroutine:=false,more:=[]:PySem.Scope }
theorem zadv:CompOk zahf (defScope (top 48)) (["_law_one", "_law_other"]:List Str) (["_law_found", "_law_due"]:List Str) [] (["_law_one", "_law_other"]:List Str):=compOk rfl (by decide +kernel) (by decide +kernel) (by decide +kernel) (by decide +kernel) rfl (by decide +kernel)
theorem zac8:AK (relab zahf (defScope (top 48))) ["_law_one", "_law_other"]:=⟨by decide +kernel⟩
theorem zajp:AG (relab zahf (defScope (top 48))) ["_law_same"]:=⟨by decide +kernel⟩
theorem zae6:AV (relab zahf (defScope (top 48))) ["_law_one", "_law_other"]:=⟨by decide +kernel⟩
structure EqvS (n:Nat) (H:Hp) (x y:V):Prop where
 h:Eqv n H x y
def spSame (n:Nat):Sp:=fun vs H Q _=>∃ (x y:V),vs=[x,y]∧EqvS n H x y∧∀ H',Ch [] H H'→Q (.bl true) H'
theorem scSame:FnScope ["_law_found", "_law_due"] ["_law_found", "_law_due"] (defScope (top 48)):=⟨rfl,rfl,rfl,by decide +kernel,rfl,by decide +kernel,by decide +kernel⟩
theorem zape (F:Fun K "_law_same" "_law_same" (top 48) f fd):FnOk P w K mg base CX0 (k + 1) f fd ["_law_found", "_law_due"] (spSame 0) :=
 F.ok scSame (fun vs H Q E h=>by obtain ⟨x,y,rfl,_⟩:=h; rfl) (fun cdv A outer s H vs Q E hr h=>by obtain ⟨_,_,_,e,_⟩:=h; exact e.h.elim)
theorem zaf5 (n:Nat) (F:Fun K "_law_same" "_law_same" (top 48) f fd) (D_law_same:DefOk P w K mg base CX0 k "_law_same" ["_law_found", "_law_due"] (spSame n)) (z_isinstance:mg "isinstance" = none) (z_dict:mg "dict" = none) (z_list:mg "list" = none) (z_tuple:mg "tuple" = none) (z_str:mg "str" = none) (z_int:mg "int" = none) (z_bool:mg "bool" = none) (z_len:mg "len" = none) (z_all:mg "all" = none) (z_zip:mg "zip" = none) :
  FnOk P w K mg base CX0 (k + 1) f fd ["_law_found", "_law_due"] (spSame (n + 1)):=by
 have nd:=scSame.nd
 refine F.ok scSame (fun vs H Q E h=>by obtain ⟨x,y,rfl,_⟩:=h; rfl) (fun cdv A outer s H vs Q E hr h=>?_)
 obtain ⟨x,y,rfl,⟨e⟩,q⟩:=h
 rcases e with ⟨kk,rfl,rfl⟩ | ⟨p,r,xs,ys,rfl,rfl,g1,g2,pr,l⟩ | ⟨p,r,xs,ys,rfl,rfl,g1,g2,pr,l⟩
 ·refine ⟨_,(Pr.h (zaad (zaav (zaar zad5 (qv av48 1 rfl) zacs (nomark _)) (zaae (zaak (zaa3 zad5 (qv av48 0 rfl) zacs (nomark _)))) zaal) (zaad (zaav (zaay (zaah zaa2 (gl48.g 0 rfl) z_isinstance zaam (zaaa (qv av48 1 rfl) (zaaa (zaaz (v:=.ty "dict") (gl48.g 1 rfl) z_dict zae1 rfl zae2 zae3) zaab)) zaan zaao)) (zaad (zaav (zabt (zabz (zab6 (zaay (zaah zaa2 (gl48.g 0 rfl) z_isinstance zaam (zaaa (qv av48 0 rfl) (zaaa (zaaz (v:=.ty "dict") (gl48.g 1 rfl) z_dict zae1 rfl zae2 zae3) zaab)) zaan zaao))) (zabr (zaar zadn (zaah zaap (gl48.g 2 rfl) z_len PySem.boot_len (zaaa (qv av48 0 rfl) zaab zaac) zaba zabb) (zaah zaap (gl48.g 2 rfl) z_len PySem.boot_len (zaaa (qv av48 1 rfl) zaab zaac) zaba zabb) (nomark _))))) (zaae (zaak zabl)) zaal) (zaae (zaak (zaah (zac9 rfl) (gl48.g 3 rfl) z_all zaek (zaaa (zacb rfl zae4 (zacj (qv av48 1 rfl)) (fun _ _ _ _ _=>(zaau (i:=0) zae4.nd rfl (Or.inl (zae5.k 0 rfl)) (Or.inr (zae5.k 0 rfl)))) (fun _ _ _ _ _=>zabx) (fun _ _ _ _ _=>(zaa8 (zaa3 (zaet K rfl) (qw zacn 0 rfl) (qw zacn 1 rfl) rfl) (zaa9 (zaai D_law_same hr (zajo.g 0 rfl) pass0 (zaaa (zaat (zacv K rfl) (qw zacn 1 rfl) (qw zacn 0 rfl) (fun _ _=>rfl)) (zaaa (zaat (zacv K rfl) (qw zacn 2 rfl) (qw zacn 0 rfl) (fun _ _=>rfl)) zaab zaaq) zaaq) zach))))) zaab zabg) zael zaem)))) zaal) (zaad (zaav (zabt (zabz (zaay (zaah zaa2 (gl48.g 0 rfl) z_isinstance zaam (zaaa (qv av48 1 rfl) (zaaa (zaaz (v:=.ty "list") (gl48.g 5 rfl) z_list zab7 rfl zab8 zab9) zaab)) zaan zaao)) (zabr (zaay (zaah zaa2 (gl48.g 0 rfl) z_isinstance zaam (zaaa (qv av48 1 rfl) (zaaa (zaaz (v:=.ty "tuple") (gl48.g 4 rfl) z_tuple zabm rfl zabn zabo) zaab)) zaan zaao))))) (zaad (zaav (zaar zadn (zaah zaa2 (gl48.g 0 rfl) z_isinstance zaam (zaaa (qv av48 0 rfl) (zaaa (zaaz (v:=.ty "list") (gl48.g 5 rfl) z_list zab7 rfl zab8 zab9) zaab)) zaan zaao) (zaah zaa2 (gl48.g 0 rfl) z_isinstance zaam (zaaa (qv av48 1 rfl) (zaaa (zaaz (v:=.ty "list") (gl48.g 5 rfl) z_list zab7 rfl zab8 zab9) zaab)) zaan zaao) (nomark _)) (zaae (zaak zabl)) zaal) (zaad (zaav (zabt (zabz (zaar zadn (zaah zaa2 (gl48.g 0 rfl) z_isinstance zaam (zaaa (qv av48 0 rfl) (zaaa (zaaz (v:=.ty "tuple") (gl48.g 4 rfl) z_tuple zabm rfl zabn zabo) zaab)) zaan zaao) (zaah zaa2 (gl48.g 0 rfl) z_isinstance zaam (zaaa (qv av48 1 rfl) (zaaa (zaaz (v:=.ty "tuple") (gl48.g 4 rfl) z_tuple zabm rfl zabn zabo) zaab)) zaan zaao) (nomark _)) (zabr (zaar zadn (zaah zaap (gl48.g 2 rfl) z_len PySem.boot_len (zaaa (qv av48 0 rfl) zaab zaac) zaba zabb) (zaah zaap (gl48.g 2 rfl) z_len PySem.boot_len (zaaa (qv av48 1 rfl) zaab zaac) zaba zabb) (nomark _))))) (zaae (zaak zabl)) zaal) (zaae (zaak (zaah (zac9 rfl) (gl48.g 3 rfl) z_all zaek (zaaa (zacb rfl zadv (zad8 .list .list (gl48.g 6 rfl) z_zip (zaaa (qv av48 0 rfl) (zaaa (qv av48 1 rfl) zaab zaac) zaac)) (fun _ _ _ _ _=>(zaeh K 2 rfl rfl (zaa5 (zaau (i:=0) zadv.nd rfl (Or.inl (zac8.k 0 rfl)) (Or.inr (zac8.k 0 rfl))) (zaa5 (zaau (i:=1) zadv.nd rfl (Or.inl (zac8.k 1 rfl)) (Or.inr (zac8.k 1 rfl))) zacc)))) (fun _ _ _ _ _=>zabx) (fun _ _ _ _ _=>(zaai D_law_same hr (zajp.g 0 rfl) pass0 (zaaa (qw zae6 0 rfl) (zaaa (qw zae6 1 rfl) zaab zaac) zaac) zach))) zaab zabg) zael zaem))))) zaal) (zaad (zaav (zaay (zaah zaa2 (gl48.g 0 rfl) z_isinstance zaam (zaaa (qv av48 1 rfl) (zaaa (zaaz (v:=.ty "str") (gl48.g 7 rfl) z_str zae8 rfl zae9 zafa) zaab)) zaan zaao)) (zaae (zaak (zaa8 (zaah zaa2 (gl48.g 0 rfl) z_isinstance zaam (zaaa (qv av48 0 rfl) (zaaa (zaaz (v:=.ty "str") (gl48.g 7 rfl) z_str zae8 rfl zae9 zafa) zaab)) zaan zaao) (zaa9 (zaa3 zabh (qv av48 0 rfl) (qv av48 1 rfl) (nomark _)))))) zaal) (zaae (zaak (zaa8 (zaah zaa2 (gl48.g 0 rfl) z_isinstance zaam (zaaa (qv av48 0 rfl) (zaaa (zaaz (v:=.ty "int") (gl48.g 9 rfl) z_int zakb rfl zakc zakd) zaab)) zaan zaao) (zaa8 (zagt (zaah zaa2 (gl48.g 0 rfl) z_isinstance zaam (zaaa (qv av48 0 rfl) (zaaa (zaaz (v:=.ty "bool") (gl48.g 8 rfl) z_bool zagw rfl zagx zagy) zaab)) zaan zaao)) (zaa9 (zaa3 zabh (qv av48 0 rfl) (qv av48 1 rfl) (nomark _)))))))))))),?_⟩
  (try dsimp only [cxOf])
  cases kk with
  | inl b =>
   dsimp only [kV]
   walk_at "rd"
   rw [decide_eq_true rfl]
   exact q _ (Ch.refl _ _)
  | inr b =>
   dsimp only [kV]
   walk_at "rd"
   rw [decide_eq_true rfl]
   exact q _ (Ch.refl _ _)
 ·have el:=Paired.length pr
  refine ⟨_,(Pr.h (zaad (zaav (zaar zad5 (qv av48 1 rfl) zacs (nomark _)) (zaae (zaak (zaa3 zad5 (qv av48 0 rfl) zacs (nomark _)))) zaal) (zaad (zaav (zaay (zaah zaa2 (gl48.g 0 rfl) z_isinstance zaam (zaaa (qv av48 1 rfl) (zaaa (zaaz (v:=.ty "dict") (gl48.g 1 rfl) z_dict zae1 rfl zae2 zae3) zaab)) zaan zaao)) (zaad (zaav (zabt (zabz (zab6 (zaay (zaah zaa2 (gl48.g 0 rfl) z_isinstance zaam (zaaa (qv av48 0 rfl) (zaaa (zaaz (v:=.ty "dict") (gl48.g 1 rfl) z_dict zae1 rfl zae2 zae3) zaab)) zaan zaao))) (zabr (zaar zadn (zaah zaap (gl48.g 2 rfl) z_len PySem.boot_len (zaaa (qv av48 0 rfl) zaab zaac) zaba zabb) (zaah zaap (gl48.g 2 rfl) z_len PySem.boot_len (zaaa (qv av48 1 rfl) zaab zaac) zaba zabb) (nomark _))))) (zaae (zaak zabl)) zaal) (zaae (zaak (zaah (zac9 rfl) (gl48.g 3 rfl) z_all zaek (zaaa (zacb rfl zae4 (zad7 (qv av48 1 rfl)) (fun _ _ _ _ _=>(zaau (i:=0) zae4.nd rfl (Or.inl (zae5.k 0 rfl)) (Or.inr (zae5.k 0 rfl)))) (fun _ _ _ _ _=>zabx) (fun _ _ _ _ _=>(zaa8 (zaa3 (zaet K rfl) (qw zacn 0 rfl) (qw zacn 1 rfl) rfl) (zaa9 (zaai D_law_same hr (zajo.g 0 rfl) pass0 (zaaa (zaat (zadg K rfl) (qw zacn 1 rfl) (qw zacn 0 rfl) (fun _ _=>rfl)) (zaaa (zaat (zadg K rfl) (qw zacn 2 rfl) (qw zacn 0 rfl) (fun _ _=>rfl)) zaab zaaq) zaaq) zach))))) zaab zabg) zael zaem)))) zaal) (zaad (zaav (zabt (zabz (zaay (zaah zaa2 (gl48.g 0 rfl) z_isinstance zaam (zaaa (qv av48 1 rfl) (zaaa (zaaz (v:=.ty "list") (gl48.g 5 rfl) z_list zab7 rfl zab8 zab9) zaab)) zaan zaao)) (zabr (zaay (zaah zaa2 (gl48.g 0 rfl) z_isinstance zaam (zaaa (qv av48 1 rfl) (zaaa (zaaz (v:=.ty "tuple") (gl48.g 4 rfl) z_tuple zabm rfl zabn zabo) zaab)) zaan zaao))))) (zaad (zaav (zaar zadn (zaah zaa2 (gl48.g 0 rfl) z_isinstance zaam (zaaa (qv av48 0 rfl) (zaaa (zaaz (v:=.ty "list") (gl48.g 5 rfl) z_list zab7 rfl zab8 zab9) zaab)) zaan zaao) (zaah zaa2 (gl48.g 0 rfl) z_isinstance zaam (zaaa (qv av48 1 rfl) (zaaa (zaaz (v:=.ty "list") (gl48.g 5 rfl) z_list zab7 rfl zab8 zab9) zaab)) zaan zaao) (nomark _)) (zaae (zaak zabl)) zaal) (zaad (zaav (zabt (zabz (zaar zadn (zaah zaa2 (gl48.g 0 rfl) z_isinstance zaam (zaaa (qv av48 0 rfl) (zaaa (zaaz (v:=.ty "tuple") (gl48.g 4 rfl) z_tuple zabm rfl zabn zabo) zaab)) zaan zaao) (zaah zaa2 (gl48.g 0 rfl) z_isinstance zaam (zaaa (qv av48 1 rfl) (zaaa (zaaz (v:=.ty "tuple") (gl48.g 4 rfl) z_tuple zabm rfl zabn zabo) zaab)) zaan zaao) (nomark _)) (zabr (zaar zadn (zaah zaap (gl48.g 2 rfl) z_len PySem.boot_len (zaaa (qv av48 0 rfl) zaab zaac) zaba zabb) (zaah zaap (gl48.g 2 rfl) z_len PySem.boot_len (zaaa (qv av48 1 rfl) zaab zaac) zaba zabb) (nomark _))))) (zaae (zaak zabl)) zaal) (zaae (zaak (zaah (zac9 rfl) (gl48.g 3 rfl) z_all zaek (zaaa (zacb rfl zadv (zad8 .tuple .tuple (gl48.g 6 rfl) z_zip (zaaa (qv av48 0 rfl) (zaaa (qv av48 1 rfl) zaab zaac) zaac)) (fun _ _ _ _ _=>(zaeh K 2 rfl rfl (zaa5 (zaau (i:=0) zadv.nd rfl (Or.inl (zac8.k 0 rfl)) (Or.inr (zac8.k 0 rfl))) (zaa5 (zaau (i:=1) zadv.nd rfl (Or.inl (zac8.k 1 rfl)) (Or.inr (zac8.k 1 rfl))) zacc)))) (fun _ _ _ _ _=>zabx) (fun _ _ _ _ _=>(zaai D_law_same hr (zajp.g 0 rfl) pass0 (zaaa (qw zae6 0 rfl) (zaaa (qw zae6 1 rfl) zaab zaac) zaac) zach))) zaab zabg) zael zaem))))) zaal) (zaad (zaav (zaay (zaah zaa2 (gl48.g 0 rfl) z_isinstance zaam (zaaa (qv av48 1 rfl) (zaaa (zaaz (v:=.ty "str") (gl48.g 7 rfl) z_str zae8 rfl zae9 zafa) zaab)) zaan zaao)) (zaae (zaak (zaa8 (zaah zaa2 (gl48.g 0 rfl) z_isinstance zaam (zaaa (qv av48 0 rfl) (zaaa (zaaz (v:=.ty "str") (gl48.g 7 rfl) z_str zae8 rfl zae9 zafa) zaab)) zaan zaao) (zaa9 (zaa3 (zadc hr.units) (qv av48 0 rfl) (qv av48 1 rfl) (nomark _)))))) zaal) (zaae (zaak (zaa8 (zaah zaa2 (gl48.g 0 rfl) z_isinstance zaam (zaaa (qv av48 0 rfl) (zaaa (zaaz (v:=.ty "int") (gl48.g 9 rfl) z_int zakb rfl zakc zakd) zaab)) zaan zaao) (zaa8 (zagt (zaah zaa2 (gl48.g 0 rfl) z_isinstance zaam (zaaa (qv av48 0 rfl) (zaaa (zaaz (v:=.ty "bool") (gl48.g 8 rfl) z_bool zagw rfl zagx zagy) zaab)) zaan zaao)) (zaa9 (zaa3 (zadc hr.units) (qv av48 0 rfl) (qv av48 1 rfl) (nomark _)))))))))))),?_⟩
  (try dsimp only [cxOf])
  walk_at "rd"
  refine iteNn (by rw [el]) ?_
  walk_at "rd"
  refine zaj5 xs ys (fun j zs σ H'=>Ch [] H H'∧zs=List.replicate j (V.bl true)∧∃ u v,σ=[u,v]) (by rw [sizeLine_eq]; omega) el ⟨Ch.refl _ _,rfl,_,_,rfl⟩ ?_ ?_ ?_
  ·rintro j zs σ H' hj ⟨c,rfl,_⟩
   exact ⟨by simp,SqT.of (c.get g1 (by simp)),SqT.of (c.get g2 (by simp))⟩
  ·rintro j zs σ H' x z T hx hz ⟨c,rfl,u,v,rfl⟩ hT
   obtain ⟨j1,rfl⟩:=List.getElem?_eq_some_iff.mp hx
   obtain ⟨j2,rfl⟩:=List.getElem?_eq_some_iff.mp hz
   have ee:EqvS n (upd H' T (.tup [xs[j],ys[j]])) xs[j] ys[j]:=⟨Eqv.ch (c.trans (Ch.new hT _)) (zaf3 pr j j1 j2)⟩
   walk_at "rd"
   exact ⟨by rw [← List.replicate_succ'],_,_,rfl⟩
  ·rintro zs σ H' ⟨c,rfl,_⟩
   intro D hD
   refine ⟨D,List.replicate xs.length true,rfl,by rw [zaaf,List.map_replicate],?_⟩
   rw [show (List.replicate xs.length true).all id=true from by simp [List.all_replicate]]
   exact q _ (c.trans (Ch.new hD _))
 ·have el:=Paired.length pr
  refine ⟨_,(Pr.h (zaad (zaav (zaar zad5 (qv av48 1 rfl) zacs (nomark _)) (zaae (zaak (zaa3 zad5 (qv av48 0 rfl) zacs (nomark _)))) zaal) (zaad (zaav (zaay (zaah zaa2 (gl48.g 0 rfl) z_isinstance zaam (zaaa (qv av48 1 rfl) (zaaa (zaaz (v:=.ty "dict") (gl48.g 1 rfl) z_dict zae1 rfl zae2 zae3) zaab)) zaan zaao)) (zaad (zaav (zabt (zabz (zab6 (zaay (zaah zaa2 (gl48.g 0 rfl) z_isinstance zaam (zaaa (qv av48 0 rfl) (zaaa (zaaz (v:=.ty "dict") (gl48.g 1 rfl) z_dict zae1 rfl zae2 zae3) zaab)) zaan zaao))) (zabr (zaar zadn (zaah zaap (gl48.g 2 rfl) z_len PySem.boot_len (zaaa (qv av48 0 rfl) zaab zaac) zaba zabb) (zaah zaap (gl48.g 2 rfl) z_len PySem.boot_len (zaaa (qv av48 1 rfl) zaab zaac) zaba zabb) (nomark _))))) (zaae (zaak zabl)) zaal) (zaae (zaak (zaah (zac9 rfl) (gl48.g 3 rfl) z_all zaek (zaaa (zacb rfl zae4 (zacj (qv av48 1 rfl)) (fun _ _ _ _ _=>(zaau (i:=0) zae4.nd rfl (Or.inl (zae5.k 0 rfl)) (Or.inr (zae5.k 0 rfl)))) (fun _ _ _ _ _=>zabx) (fun _ _ _ _ _=>(zaa8 (zaa3 (zaet K rfl) (qw zacn 0 rfl) (qw zacn 1 rfl) rfl) (zaa9 (zaai D_law_same hr (zajo.g 0 rfl) pass0 (zaaa (zaat (zacv K rfl) (qw zacn 1 rfl) (qw zacn 0 rfl) (fun _ _=>rfl)) (zaaa (zaat (zacv K rfl) (qw zacn 2 rfl) (qw zacn 0 rfl) (fun _ _=>rfl)) zaab zaaq) zaaq) zach))))) zaab zabg) zael zaem)))) zaal) (zaad (zaav (zabt (zabz (zaay (zaah zaa2 (gl48.g 0 rfl) z_isinstance zaam (zaaa (qv av48 1 rfl) (zaaa (zaaz (v:=.ty "list") (gl48.g 5 rfl) z_list zab7 rfl zab8 zab9) zaab)) zaan zaao)) (zabr (zaay (zaah zaa2 (gl48.g 0 rfl) z_isinstance zaam (zaaa (qv av48 1 rfl) (zaaa (zaaz (v:=.ty "tuple") (gl48.g 4 rfl) z_tuple zabm rfl zabn zabo) zaab)) zaan zaao))))) (zaad (zaav (zaar zadn (zaah zaa2 (gl48.g 0 rfl) z_isinstance zaam (zaaa (qv av48 0 rfl) (zaaa (zaaz (v:=.ty "list") (gl48.g 5 rfl) z_list zab7 rfl zab8 zab9) zaab)) zaan zaao) (zaah zaa2 (gl48.g 0 rfl) z_isinstance zaam (zaaa (qv av48 1 rfl) (zaaa (zaaz (v:=.ty "list") (gl48.g 5 rfl) z_list zab7 rfl zab8 zab9) zaab)) zaan zaao) (nomark _)) (zaae (zaak zabl)) zaal) (zaad (zaav (zabt (zabz (zaar zadn (zaah zaa2 (gl48.g 0 rfl) z_isinstance zaam (zaaa (qv av48 0 rfl) (zaaa (zaaz (v:=.ty "tuple") (gl48.g 4 rfl) z_tuple zabm rfl zabn zabo) zaab)) zaan zaao) (zaah zaa2 (gl48.g 0 rfl) z_isinstance zaam (zaaa (qv av48 1 rfl) (zaaa (zaaz (v:=.ty "tuple") (gl48.g 4 rfl) z_tuple zabm rfl zabn zabo) zaab)) zaan zaao) (nomark _)) (zabr (zaar zadn (zaah zaap (gl48.g 2 rfl) z_len PySem.boot_len (zaaa (qv av48 0 rfl) zaab zaac) zaba zabb) (zaah zaap (gl48.g 2 rfl) z_len PySem.boot_len (zaaa (qv av48 1 rfl) zaab zaac) zaba zabb) (nomark _))))) (zaae (zaak zabl)) zaal) (zaae (zaak (zaah (zac9 rfl) (gl48.g 3 rfl) z_all zaek (zaaa (zacb rfl zadv (zad8 .list .list (gl48.g 6 rfl) z_zip (zaaa (qv av48 0 rfl) (zaaa (qv av48 1 rfl) zaab zaac) zaac)) (fun _ _ _ _ _=>(zaeh K 2 rfl rfl (zaa5 (zaau (i:=0) zadv.nd rfl (Or.inl (zac8.k 0 rfl)) (Or.inr (zac8.k 0 rfl))) (zaa5 (zaau (i:=1) zadv.nd rfl (Or.inl (zac8.k 1 rfl)) (Or.inr (zac8.k 1 rfl))) zacc)))) (fun _ _ _ _ _=>zabx) (fun _ _ _ _ _=>(zaai D_law_same hr (zajp.g 0 rfl) pass0 (zaaa (qw zae6 0 rfl) (zaaa (qw zae6 1 rfl) zaab zaac) zaac) zach))) zaab zabg) zael zaem))))) zaal) (zaad (zaav (zaay (zaah zaa2 (gl48.g 0 rfl) z_isinstance zaam (zaaa (qv av48 1 rfl) (zaaa (zaaz (v:=.ty "str") (gl48.g 7 rfl) z_str zae8 rfl zae9 zafa) zaab)) zaan zaao)) (zaae (zaak (zaa8 (zaah zaa2 (gl48.g 0 rfl) z_isinstance zaam (zaaa (qv av48 0 rfl) (zaaa (zaaz (v:=.ty "str") (gl48.g 7 rfl) z_str zae8 rfl zae9 zafa) zaab)) zaan zaao) (zaa9 (zaa3 zabh (qv av48 0 rfl) (qv av48 1 rfl) (nomark _)))))) zaal) (zaae (zaak (zaa8 (zaah zaa2 (gl48.g 0 rfl) z_isinstance zaam (zaaa (qv av48 0 rfl) (zaaa (zaaz (v:=.ty "int") (gl48.g 9 rfl) z_int zakb rfl zakc zakd) zaab)) zaan zaao) (zaa8 (zagt (zaah zaa2 (gl48.g 0 rfl) z_isinstance zaam (zaaa (qv av48 0 rfl) (zaaa (zaaz (v:=.ty "bool") (gl48.g 8 rfl) z_bool zagw rfl zagx zagy) zaab)) zaan zaao)) (zaa9 (zaa3 zabh (qv av48 0 rfl) (qv av48 1 rfl) (nomark _)))))))))))),?_⟩
  (try dsimp only [cxOf])
  walk_at "rd"
  refine iteNn (by rw [el]) ?_
  walk_at "rd"
  refine zaj5 xs ys (fun j zs σ H'=>Ch [] H H'∧zs=List.replicate j (V.bl true)∧∃ u v,σ=[u,v]) (by rw [sizeLine_eq]; omega) el ⟨Ch.refl _ _,rfl,_,_,rfl⟩ ?_ ?_ ?_
  ·rintro j zs σ H' hj ⟨c,rfl,_⟩
   exact ⟨by simp,SqL.of (c.get g1 (by simp)),SqL.of (c.get g2 (by simp))⟩
  ·rintro j zs σ H' x z T hx hz ⟨c,rfl,u,v,rfl⟩ hT
   obtain ⟨j1,rfl⟩:=List.getElem?_eq_some_iff.mp hx
   obtain ⟨j2,rfl⟩:=List.getElem?_eq_some_iff.mp hz
   have ee:EqvS n (upd H' T (.tup [xs[j],ys[j]])) xs[j] ys[j]:=⟨Eqv.ch (c.trans (Ch.new hT _)) (zaf3 pr j j1 j2)⟩
   walk_at "rd"
   exact ⟨by rw [← List.replicate_succ'],_,_,rfl⟩
  ·rintro zs σ H' ⟨c,rfl,_⟩
   intro D hD
   refine ⟨D,List.replicate xs.length true,rfl,by rw [zaaf,List.map_replicate],?_⟩
   rw [show (List.replicate xs.length true).all id=true from by simp [List.all_replicate]]
   exact q _ (c.trans (Ch.new hD _))
end
end

section
section
variable {P:Program}{w:World}{K:PySem.W.Frag}{mg:Str→Option Value}{base:Heap}{f:Addr}{fd:FuncData}{k:Nat}
theorem gl50:AG (defScope (top 50)) ["len", "isinstance", "tuple", "list", "all"]:=⟨by decide +kernel⟩
theorem av50:AF (defScope (top 50)) ["_law_paper", "_law_many", "_law_some"]:=⟨by decide +kernel⟩
def zahg:Scope:={ kind:=PySem.ScopeKind.function,names:=[ (PySem.Str.ofString ".0",PySem.NameKind.local),(PySem.Str.ofString "_law_gate",PySem.NameKind.local),(PySem.Str.ofString "isinstance",PySem.NameKind.globalImplicit),(PySem.Str.ofString "tuple",PySem.NameKind.globalImplicit)],isGenerator:=false,isCoroutine:=false,more:=[]:PySem.Scope }
theorem zanq:CompOk zahg (defScope (top 50)) (["_law_gate"]:List Str) (["_law_paper", "_law_many", "_law_some"]:List Str) [] (["_law_gate"]:List Str):=compOk rfl (by decide +kernel) (by decide +kernel) (by decide +kernel) (by decide +kernel) rfl (by decide +kernel)
theorem zanr:AK (relab zahg (defScope (top 50))) ["_law_gate"]:=⟨by decide +kernel⟩
theorem zans:AG (relab zahg (defScope (top 50))) ["isinstance", "tuple"]:=⟨by decide +kernel⟩
theorem zasd:AV (relab zahg (defScope (top 50))) ["_law_gate"]:=⟨by decide +kernel⟩
def zajq:Scope:={ kind:=PySem.ScopeKind.function,names:=[(PySem.Str.ofString ".0",PySem.NameKind.local),(PySem.Str.ofString "_law_pair",PySem.NameKind.local)],isGenerator:=false,isCoroutine:=false,more:=[]:PySem.Scope }
theorem zant:CompOk zajq (defScope (top 50)) (["_law_pair"]:List Str) (["_law_paper", "_law_many", "_law_some"]:List Str) [] (["_law_pair"]:List Str):=compOk rfl (by decide +kernel) (by decide +kernel) (by decide +kernel) (by decide +kernel) rfl (by decide +kernel)
theorem zanu:AK (relab zajq (defScope (top 50))) ["_law_pair"]:=⟨by decide +kernel⟩
theorem zanv:AV (relab zajq (defScope (top 50))) ["_law_pair"]:=⟨by decide +kernel⟩
def zahh:Scope:={ kind:=PySem.ScopeKind.function,names:=[ (PySem.Str.ofString ".0",PySem.NameKind.local),(PySem.Str.ofString "_law_pair",PySem.NameKind.local),(PySem.Str.ofString "isinstance",PySem.NameKind.globalImplicit),(PySem.Str.ofString "tuple",PySem.NameKind.globalImplicit),(PySem.Str.ofString "len",PySem.NameKind.globalImplicit),(PySem.Str.ofString "str",PySem.NameKind.globalImplicit)],isGenerator:=false,isCoroutine:=false,more:=[]:PySem.Scope }
theorem zanw:CompOk zahh (defScope (top 50)) (["_law_pair"]:List Str) (["_law_paper", "_law_many", "_law_some"]:List Str) [] (["_law_pair"]:List Str):=compOk rfl (by decide +kernel) (by decide +kernel) (by decide +kernel) (by decide +kernel) rfl (by decide +kernel)
theorem zanx:AK (relab zahh (defScope (top 50))) ["_law_pair"]:=⟨by decide +kernel⟩
theorem zaf6:AG (relab zahh (defScope (top 50))) ["isinstance", "str", "len", "tuple"]:=⟨by decide +kernel⟩
theorem zajr:AV (relab zahh (defScope (top 50))) ["_law_pair"]:=⟨by decide +kernel⟩
def spFo:Sp:=fun vs H Q _=>∃ (pp ll ql:Addr) (lo:List Gt) (zs qs:List V) (prs:List (Nat × Str)) (n:Nat),vs=[.ref pp,.int (n:Int)]∧H pp=some (.tup [.ref ll,.ref ql])∧H ll=some (.lst zs)∧Gs H lo zs∧H ql=some (.lst qs)∧Prs H prs qs∧prs.length=n∧lo.length≤1000∧n≤1000∧∀ (H':Hp),Ch [] H H'→Q (.bl true) H'
theorem scFo:FnScope ["_law_paper", "_law_many", "_law_some"] ["_law_paper", "_law_many"] (defScope (top 50)):=⟨rfl,rfl,rfl,by decide +kernel,rfl,by decide +kernel,by decide +kernel⟩
theorem zavo (F:Fun K "_law_formed" "_law_formed" (top 50) f fd) (z_isinstance:mg "isinstance" = none) (z_tuple:mg "tuple" = none) (z_list:mg "list" = none) (z_str:mg "str" = none) (z_len:mg "len" = none) (z_all:mg "all" = none):FnOk P w K mg base CX0 (k + 1) f fd ["_law_paper", "_law_many"] spFo:=by
 have nd:=scFo.nd
 refine F.ok scFo (fun vs H Q E h=>by obtain ⟨pp,ll,ql,lo,zs,qs,prs,n,rfl,_⟩:=h; rfl) (fun cdv A outer s0 H vs Q E hr h=>?_)
 obtain ⟨pp,ll,ql,lo,zs,qs,prs,n,rfl,hpp,hll,gz,hql,pq,ln,l1,l2,q⟩:=h
 refine ⟨_,(Pr.h (zaad (zaav (zabt (zabz (zab6 (zaay (zaah zaa2 (gl50.g 1 rfl) z_isinstance zaam (zaaa (qv av50 0 rfl) (zaaa (zaaz (v:=.ty "tuple") (gl50.g 2 rfl) z_tuple zabm rfl zabn zabo) zaab)) zaan zaao))) (zabr (zaar zadn (zaah zaap (gl50.g 0 rfl) z_len PySem.boot_len (zaaa (qv av50 0 rfl) zaab zaac) zaba zabb) zaag (nomark _))))) (zaae (zaak zabl)) zaal) (zaad (zaav (zabt (zabz (zab6 (zaay (zaah zaa2 (gl50.g 1 rfl) z_isinstance zaam (zaaa (zaat zaa0 (qv av50 0 rfl) zaag (fun _ _=>rfl)) (zaaa (zaaz (v:=.ty "list") (gl50.g 3 rfl) z_list zab7 rfl zab8 zab9) zaab)) zaan zaao))) (zabz (zab6 (zaay (zaah zaa2 (gl50.g 1 rfl) z_isinstance zaam (zaaa (zaat zaa0 (qv av50 0 rfl) zaag (fun _ _=>rfl)) (zaaa (zaaz (v:=.ty "list") (gl50.g 3 rfl) z_list zab7 rfl zab8 zab9) zaab)) zaan zaao))) (zabr (zaar zadn (zaah zaap (gl50.g 0 rfl) z_len PySem.boot_len (zaaa (zaat zaa0 (qv av50 0 rfl) zaag (fun _ _=>rfl)) zaab zaaq) zaba zabb) (qv av50 1 rfl) (nomark _)))))) (zaae (zaak zabl)) zaal) (zaad (zaav (zab6 (zaay (zaah (zac9 rfl) (gl50.g 4 rfl) z_all zaek (zaaa (zacb rfl zanq (zacj (zaat zaa0 (qv av50 0 rfl) zaag (fun _ _=>rfl))) (fun _ _ _ _ _=>(zaau (i:=0) zanq.nd rfl (Or.inl (zanr.k 0 rfl)) (Or.inr (zanr.k 0 rfl)))) (fun _ _ _ _ _=>zabx) (fun _ _ _ _ _=>(zaah (zaf2 K rfl) (zans.g 0 rfl) z_isinstance zaam (zaaa (qw zasd 0 rfl) (zaaa (zaaz (v:=.ty "tuple") (zans.g 1 rfl) z_tuple zabm rfl zabn zabo) zaab)) zaan zaao))) zaab zabg) zael zaem))) (zaae (zaak zabl)) zaal) (zaad (zad4 (i:=2) nd rfl (av50.l 2 rfl) rfl zant (zacj (zaat zaa0 (qv av50 0 rfl) zaag (fun _ _=>rfl))) (fun _ _ _ _ _=>(zaau (i:=0) zant.nd rfl (Or.inl (zanu.k 0 rfl)) (Or.inr (zanu.k 0 rfl)))) (fun _ _ _ _ _=>(zafj (zaar zall (qw zanv 0 rfl) zacs (nomark _)))) (fun _ _ _ _ _=>(qw zanv 0 rfl)) rfl) (zaae (zaak (zaah (zac9 rfl) (gl50.g 4 rfl) z_all zaek (zaaa (zacb rfl zanw (zacj (qv av50 2 rfl)) (fun _ _ _ _ _=>(zaau (i:=0) zanw.nd rfl (Or.inl (zanx.k 0 rfl)) (Or.inr (zanx.k 0 rfl)))) (fun _ _ _ _ _=>zabx) (fun _ _ _ _ _=>(zaa8 (zaah (zaf2 K rfl) (zaf6.g 0 rfl) z_isinstance zaam (zaaa (qw zajr 0 rfl) (zaaa (zaaz (v:=.ty "tuple") (zaf6.g 3 rfl) z_tuple zabm rfl zabn zabo) zaab)) zaan zaao) (zaa8 (zaa3 zabh (zaah (zagv K rfl) (zaf6.g 2 rfl) z_len PySem.boot_len (zaaa (qw zajr 0 rfl) zaab zaac) zaba zabb) zaag (nomark _)) (zaa9 (zaah (zaf2 K rfl) (zaf6.g 0 rfl) z_isinstance zaam (zaaa (zaat (zadg K rfl) (qw zajr 0 rfl) zaag (fun _ _=>rfl)) (zaaa (zaaz (v:=.ty "str") (zaf6.g 1 rfl) z_str zae8 rfl zae9 zafa) zaab)) zaan zaao)))))) zaab zabg) zael zaem)))))))),?_⟩
 (try dsimp only [cxOf])
 have lq:qs.length=n:=by rw [pq.len]; exact ln
 have lz:zs.length=lo.length:=gz.len
 walk_at "rd"
 refine iteNn (by rw [lq]) ?_
 walk_at "rd"
 refine zac4 zs (fun j ys σ H'=>H'=H∧ys=(List.replicate j true).map V.bl∧∃ u,σ=[u]) (by rw [sizeLine_eq]; omega) ⟨rfl,rfl,_,rfl⟩ ?_ ?_ ?_
 ·rintro j ys σ H' hj ⟨rfl,rfl,_⟩
  exact ⟨by simp,SqL.of hll⟩
 ·rintro j ys σ H' x hx ⟨rfl,rfl,u,rfl⟩
  have lj:j < lo.length:=by rw [← lz]; exact (List.getElem?_eq_some_iff.mp hx).1
  obtain ⟨a,e1,e2⟩:=gz.at_ j _ (List.getElem?_eq_getElem lj)
  rw [hx] at e1
  cases e1
  walk_at "rd"
  refine ⟨?_,_,rfl⟩
  rw [List.replicate_succ',List.map_append]; rfl
 ·rintro ys σ H1 ⟨rfl,rfl,_⟩
  walk_at "rd"
  rename_i D hD
  have al:((List.replicate zs.length true).all id)=true:=by simp
  rw [al]
  refine iteF ?_
  have cD:=Ch.new (W:=[]) hD (.lst ((List.replicate zs.length true).map V.bl))
  obtain ⟨H2,e2⟩:∃ H2,H2=upd H1 D (.lst ((List.replicate zs.length true).map V.bl)):=⟨_,rfl⟩
  rw [← e2] at cD ⊢
  have hpp2:=cD.get hpp (by simp)
  have hql2:=cD.get hql (by simp)
  have pq2:=pq.tu (Tu.same cD)
  walk_at "rd"
  refine zac4 qs (fun j ys σ H'=>H'=H2∧ys=qs.take j∧∃ u,σ=[u]) (by rw [sizeLine_eq]; omega) ⟨rfl,rfl,_,rfl⟩ ?_ ?_ ?_
  ·rintro j ys σ H' hj ⟨rfl,rfl,_⟩
   exact ⟨by simp [List.length_take]; omega,SqL.of hql2⟩
  ·rintro j ys σ H' x hx ⟨rfl,rfl,u,rfl⟩
   have lj:j < prs.length:=by rw [← pq.len]; exact (List.getElem?_eq_some_iff.mp hx).1
   obtain ⟨a,e1,e3⟩:=pq2.at_ j _ (List.getElem?_eq_getElem lj)
   rw [hx] at e1
   cases e1
   walk_at "rd"
   refine ⟨?_,_,rfl⟩
   rw [List.take_add_one,hx]; rfl
  ·rintro ys σ H3 ⟨rfl,rfl,_⟩
   rw [List.take_length]
   walk_at "rd"
   rename_i S hS
   have cS:=Ch.new (W:=[]) hS (.lst qs)
   have hS1:upd H3 S (.lst qs) S=_:=zaaf
   obtain ⟨H4,e4⟩:∃ H4,H4=upd H3 S (.lst qs):=⟨_,rfl⟩
   rw [← e4] at cS hS1 ⊢
   have pq4:=pq2.tu (Tu.same cS)
   refine zac4 qs (fun j ys σ H'=>H'=H4∧ys=(List.replicate j true).map V.bl∧∃ u,σ=[u]) (by rw [sizeLine_eq]; omega) ⟨rfl,rfl,_,rfl⟩ ?_ ?_ ?_
   ·rintro j ys σ H' hj ⟨rfl,rfl,_⟩
    exact ⟨by simp,SqL.of hS1⟩
   ·rintro j ys σ H' x hx ⟨rfl,rfl,u,rfl⟩
    have lj:j < prs.length:=by rw [← pq.len]; exact (List.getElem?_eq_some_iff.mp hx).1
    obtain ⟨a,e1,e3⟩:=pq4.at_ j _ (List.getElem?_eq_getElem lj)
    rw [hx] at e1
    cases e1
    walk_at "rd"
    refine ⟨?_,_,rfl⟩
    rw [List.replicate_succ',List.map_append]; rfl
   ·rintro ys σ H5 ⟨rfl,rfl,_⟩
    walk_at "rd"
    rename_i T hT
    rw [show ((List.replicate qs.length true).all id)=true by simp]
    exact q _ ((cD.trans cS).trans (Ch.new hT _))
end
end

section
theorem zase {X:Cx}:OpR X (compareOp .IsNot) (fun x y H Q=>∃ a b,x=.bl a∧y=.bl b∧Q (.bl (a != b)) H):=by
 intro pins s σ H x y v u Q I rx ry h
 obtain ⟨a,b,rfl,rfl,q⟩:=h
 cases rx
 cases ry
 exact PyProof.Rows.isnot_bool (zabw I q rfl)
theorem zad1 {H H':Hp}{l:Addr} (c:Ch [] H H') (h:H' l=none):H l=none:=by
 cases e:H l with
 | none=>rfl
 | some o=>rw [c.get e (by simp)] at h; cases h
structure Lg (H0 H:Hp) (gs:List Gt) (ys:List V):Prop where
 len:ys.length=gs.length
 at_:∀ (i:Nat) (g:Gt),gs[i]?=some g→∃ p,ys[i]?=some (.ref p)∧H p=some (.lst g.vs)∧H0 p=none
theorem Lg.ch {H0 H H':Hp}{gs:List Gt}{ys:List V}{W:List Addr} (h:Lg H0 H gs ys) (c:Ch W H H') (hw:∀ w∈W,H0 w≠none):Lg H0 H' gs ys :=
 ⟨h.len,fun i g e=>let ⟨p,a,b,d⟩:=h.at_ i g e; ⟨p,a,c.get b (fun z=>hw p z d),d⟩⟩
theorem Lg.push {H0 H:Hp}{gs:List Gt}{ys:List V}{g:Gt}{l:Addr} (h:Lg H0 H gs ys) (c:Ch [] H0 H) (hl:H l=none):Lg H0 (upd H l (.lst g.vs)) (gs++[g]) (ys++[.ref l]):=by
 refine ⟨by simp [h.len],fun i g' e=>?_⟩
 rcases zace e with ⟨hi,e⟩ | ⟨hi,rfl⟩
 ·obtain ⟨p,a,b,d⟩:=h.at_ i g' e
  exact ⟨p,by rw [List.getElem?_append_left (by rw [h.len]; exact hi)]; exact a,zacf hl b,d⟩
 ·exact ⟨l,by rw [hi,← h.len]; simp,zaaf,zad1 c hl⟩
theorem Ch.isn {W:List Addr}{H H':Hp} (c:Ch W H H') (hW:∀ w∈W,∃ zs,H w=some (.lst zs)) {p:Addr}{o:HO} (h:H p=some o) (ho:∀ zs,o≠.lst zs):H' p=some o:=c.get h fun m=>by
 obtain ⟨zs,e⟩:=hW p m
 rw [h] at e
 exact ho zs (Option.some.inj e)
theorem Ch.tuW {W:List Addr}{H H':Hp} (c:Ch W H H') (hW:∀ w∈W,∃ zs,H w=some (.lst zs)):Tu H H':=fun p xs h=>Ch.isn c hW h (fun zs e=>by cases e)
theorem NetAt.chW {C:Addr}{W:List Addr}{H H':Hp}{nt gp op:Addr}{gs:List Gt}{xs:List V}{os:List Nat} (n:NetAt C H nt gp op gs xs os) (c:Ch W H H') (hW:∀ w∈W,∃ zs,H w=some (.lst zs)):NetAt C H' nt gp op gs xs os :=
 ⟨n.ob.imp fun _ h=>Ch.isn c hW h (fun zs e=>by cases e),Ch.isn c hW n.gt (fun zs e=>by cases e),n.gg.tu (Ch.tuW c hW),Ch.isn c hW n.ot (fun zs e=>by cases e)⟩
theorem zap7 {H:Hp}{n:Nat}{g:Gt}:Paired (Eqv (n + 1) H) g.vs g.vs:=by
 cases g <;> simp only [Gt.vs] <;> repeat first | exact Paired.nil | refine Paired.cons (.inl ⟨.inr _,rfl,rfl⟩) ?_ | refine Paired.cons (.inl ⟨.inl _,rfl,rfl⟩) ?_
theorem zap8 (g:Gt):g.vs.length≤300:=by cases g <;> simp [Gt.vs]
theorem zajs {H:Hp}{n:Nat}:∀ l:List Nat,Paired (Eqv (n + 1) H) (l.map nV) (l.map nV)
 | []=>.nil
 | x :: l=>.cons (.inl ⟨.inl _,rfl,rfl⟩) (zajs l)
theorem not2 {a b c:Addr} (h1:a≠b) (h2:a≠c):a ∉ [b,c]:=by simp [h1,h2]
theorem zany {α:Type}{xs:List V}{l:List α}{j:Nat}{v:V} (e:xs.length=l.length) (h:xs[j]?=some v):∃ g,l[j]?=some g:=⟨_,List.getElem?_eq_getElem (by rw [← e]; exact (List.getElem?_eq_some_iff.mp h).1)⟩
theorem zaun {H0 H1 H:Hp}{n:Nat}{gs:List Gt}{xs ys:List V} (a:Lg H0 H gs xs) (b:Lg H1 H gs ys):Paired (Eqv (n + 2) H) xs ys:=zadh (a.len.trans b.len.symm) fun j x y h1 h2=>by
 obtain ⟨g,eg⟩:=zany a.len h1
 obtain ⟨p,e1,e2,_⟩:=a.at_ j g eg
 obtain ⟨r,e3,e4,_⟩:=b.at_ j g eg
 rw [h1] at e1
 rw [h2] at e3
 cases e1
 cases e3
 exact .inr (.inr ⟨p,r,_,_,rfl,rfl,e2,e4,zap7,zap8 g⟩)
theorem zap9 {H:Hp}{n:Nat}{gs:List Gt}{xs ys:List V} (a:Gs H gs xs) (b:Gs H gs ys):Paired (Eqv (n + 2) H) xs ys:=zadh (a.len.trans b.len.symm) fun j x y h1 h2=>by
 obtain ⟨g,eg⟩:=zany a.len h1
 obtain ⟨p,e1,e2⟩:=a.at_ j g eg
 obtain ⟨r,e3,e4⟩:=b.at_ j g eg
 rw [h1] at e1
 rw [h2] at e3
 cases e1
 cases e3
 exact .inr (.inl ⟨p,r,_,_,rfl,rfl,e2,e4,zap7,zap8 g⟩)
theorem zasf {H:Hp}{n:Nat}{ps:List (Nat × Str)}{xs ys:List V} (a:Prs H ps xs) (b:Prs H ps ys):Paired (Eqv (n + 2) H) xs ys:=zadh (a.len.trans b.len.symm) fun j x y h1 h2=>by
 obtain ⟨g,eg⟩:=zany a.len h1
 obtain ⟨p,e1,e2⟩:=a.at_ j g eg
 obtain ⟨r,e3,e4⟩:=b.at_ j g eg
 rw [h1] at e1
 rw [h2] at e3
 cases e1
 cases e3
 exact .inr (.inl ⟨p,r,_,_,rfl,rfl,e2,e4,.cons (.inl ⟨.inl _,rfl,rfl⟩) (.cons (.inl ⟨.inr _,rfl,rfl⟩) .nil),by simp⟩)
theorem zaf7 {H:Hp}{n:Nat}{p r:Addr}{xs ys:List V} (h1:H p=some (.lst xs)) (h2:H r=some (.lst ys)) (pr:Paired (Eqv n H) xs ys) (l:xs.length≤300):Eqv (n + 1) H (.ref p) (.ref r):=.inr (.inr ⟨p,r,xs,ys,rfl,rfl,h1,h2,pr,l⟩)
theorem zajt {H:Hp}{n:Nat}{p r:Addr}{xs ys:List V} (h1:H p=some (.tup xs)) (h2:H r=some (.tup ys)) (pr:Paired (Eqv n H) xs ys) (l:xs.length≤300):Eqv (n + 1) H (.ref p) (.ref r):=.inr (.inl ⟨p,r,xs,ys,rfl,rfl,h1,h2,pr,l⟩)
def rIsC (K:PySem.W.Frag):List V→Hp→VK→Prop:=fun xs H Q=>∃ (x:V) (C:Addr) (t:Value) (b:Bool),xs=[x,.ref C]∧TyOf K H x t∧PySem.W.kitOne K t (.ref C)=some b∧Q (.bl b) H
theorem zapf {X:Cx}:CallR X (.builtin "isinstance") (rIsC X.K):=by
 intro pins s σ H xs us Q I r h
 obtain ⟨x,C,t,b,rfl,ty,e,q⟩:=h
 obtain ⟨u,v,rfl,ru,rv⟩:=vals2 r
 cases rv
 exact zahn I ru ty e fun tk=>⟨.bl b,H,I.tok _,rfl,q⟩
section
variable {P:Program}{w:World}{K:PySem.W.Frag}{mg:Str→Option Value}{base:Heap}{f:Addr}{fd:FuncData}{k:Nat}
theorem zahi:Nd "_law_drawn" := by decide +kernel
theorem zadw:Nd "made_small" := by decide +kernel
theorem zadl:Nd "small_holds" := by decide +kernel
theorem zaga:Nd "_law_formed" := by decide +kernel
theorem av51:AF (defScope (top 51)) ["_law_script", "_law_at", "_law_gates", "_law_outs", "_law_net_here", "_law_found", "_law_small", "_law_paper", "_law_kept", "_law_small_again", "_law_paper_again", "_law_again", "_law_other", "_law_paper_other"]:=⟨by decide +kernel⟩
theorem gl51:AG (defScope (top 51)) ["_law_drawn", "Net", "list", "made_small", "isinstance", "len", "tuple", "small_holds", "_law_formed", "_law_same"]:=⟨by decide +kernel⟩
def zahj:Scope:={ kind:=PySem.ScopeKind.function,names:=[ (PySem.Str.ofString ".0",PySem.NameKind.local),(PySem.Str.ofString "_law_gate",PySem.NameKind.local),(PySem.Str.ofString "list",PySem.NameKind.globalImplicit)],isGenerator:=false,isCoroutine:=false,more:=[]:PySem.Scope }
theorem zanz:CompOk zahj (defScope (top 51)) (["_law_gate"]:List Str) (["_law_script", "_law_at", "_law_gates", "_law_outs", "_law_net_here", "_law_found", "_law_small", "_law_paper", "_law_kept", "_law_small_again", "_law_paper_again", "_law_again", "_law_other", "_law_paper_other"]:List Str) [] (["_law_gate"]:List Str):=compOk rfl (by decide +kernel) (by decide +kernel) (by decide +kernel) (by decide +kernel) rfl (by decide +kernel)
theorem zan0:AK (relab zahj (defScope (top 51))) ["_law_gate"]:=⟨by decide +kernel⟩
theorem zasg:AG (relab zahj (defScope (top 51))) ["list"]:=⟨by decide +kernel⟩
theorem zash:AV (relab zahj (defScope (top 51))) ["_law_gate"]:=⟨by decide +kernel⟩
def zahk:Scope:={ kind:=PySem.ScopeKind.function,names:=[ (PySem.Str.ofString ".0",PySem.NameKind.local),(PySem.Str.ofString "_law_gate",PySem.NameKind.local),(PySem.Str.ofString "list",PySem.NameKind.globalImplicit)],isGenerator:=false,isCoroutine:=false,more:=[]:PySem.Scope }
theorem zan1:CompOk zahk (defScope (top 51)) (["_law_gate"]:List Str) (["_law_script", "_law_at", "_law_gates", "_law_outs", "_law_net_here", "_law_found", "_law_small", "_law_paper", "_law_kept", "_law_small_again", "_law_paper_again", "_law_again", "_law_other", "_law_paper_other"]:List Str) [] (["_law_gate"]:List Str):=compOk rfl (by decide +kernel) (by decide +kernel) (by decide +kernel) (by decide +kernel) rfl (by decide +kernel)
theorem zan2:AK (relab zahk (defScope (top 51))) ["_law_gate"]:=⟨by decide +kernel⟩
theorem zasi:AG (relab zahk (defScope (top 51))) ["list"]:=⟨by decide +kernel⟩
theorem zasj:AV (relab zahk (defScope (top 51))) ["_law_gate"]:=⟨by decide +kernel⟩
def spLaw (K:PySem.W.Frag):Sp:=fun vs H Q _=>∃ (a:Addr) (ns:List Int),vs=[.ref a]∧Scr K H a ns∧∀ H',Q (.bl true) H'
theorem scLaw:FnScope ["_law_script", "_law_at", "_law_gates", "_law_outs", "_law_net_here", "_law_found", "_law_small", "_law_paper", "_law_kept", "_law_small_again", "_law_paper_again", "_law_again", "_law_other", "_law_paper_other"] ["_law_script"] (defScope (top 51)):=⟨rfl,rfl,rfl,by decide +kernel,rfl,by decide +kernel,by decide +kernel⟩
theorem zauo {CN:Addr} (F:Fun K "law" "law" (top 51) f fd) (clN:Cls K CN) (nNG:NoAttr K CN "gates") (nNO:NoAttr K CN "outs") (MkNet:MakeOk P w K mg base CX0 k CN "Net" ["self", "gates", "outs"] (spNet CN)) (D_law_drawn:DefOk P w K mg base CX0 (k + 1) "_law_drawn" ["_law_script", "_law_at"] (spDr K)) (Dmade_small:DefOk P w K mg base CX0 (k + 1) "made_small" ["net"] (spMad CN))
  (D_law_formed:DefOk P w K mg base CX0 (k + 1) "_law_formed" ["_law_paper", "_law_many"] spFo) (Dsmall_holds:DefOk P w K mg base CX0 (k + 1) "small_holds" ["net", "small", "paper"] (spSH CN)) (D_law_same:DefOk P w K mg base CX0 (k + 1) "_law_same" ["_law_found", "_law_due"] (spSame 5)) (z_list:mg "list" = none) (z_len:mg "len" = none) (z_isinstance:mg "isinstance" = none) (z_tuple:mg "tuple" = none)
  (m_Net:mg "Net" = some (.ref CN)) (xcl:PySem.W.findIn K (.ref CN) "__class__" = some (some (.builtin "object.__class__"))) (xsg:PySem.W.specialIn K (.builtin "object.__class__") "__get__" = some (some (.builtin "getset_descriptor.__get__"))) (xtk:PySem.W.takesIn K (.builtin "object.__class__")=some true) (xmo:PySem.W.mroIn K CN (.type "object")=some true) (wC:PySem.W.kitOne K (.ref CN) (.ref CN)=some true):FnOk P w K mg base CX0 (k + 2) f fd ["_law_script"] (spLaw K):=by
 have nd:=scLaw.nd
 refine F.ok scLaw (fun vs H Q E h=>by obtain ⟨a,ns,rfl,_⟩:=h; rfl) (fun cdv A outer s H vs Q E hr h=>?_)
 obtain ⟨a,ns,rfl,hS,q⟩:=h
 have hrm:=hr
 refine ⟨_,(Pr.h (zaad (zaa1 (i:=1) nd rfl (av51.l 1 rfl) (zact (zaaa zaag zaab zaaj))) (zaad (zadx (zaai D_law_drawn hr (gl51.g 0 rfl) pass0 (zaaa (qv av51 0 rfl) (zaaa (qv av51 1 rfl) zaab zaac) zaac) zahi) (zac7 rfl (zaa5 (zaau (i:=2) nd rfl (av51.l 2 rfl)) (zaa5 (zaau (i:=3) nd rfl (av51.l 3 rfl)) zacc)))) (zabs (zaa1 (i:=4) nd rfl (av51.l 4 rfl) (zah0 MkNet hrm (gl51.g 1 rfl) pass0 (zaaa (zabd zab2 (gl51.g 2 rfl) z_list zab7 (zaaa (qv av51 2 rfl) zaab zaac) zab8 zab9) (zaaa (zabd zab2 (gl51.g 2 rfl) z_list zab7 (zaaa (qv av51 3 rfl) zaab zaac) zab8 zab9) zaab zabi) zabi) zam3)) (zabs (zaa1 (i:=5) nd rfl (av51.l 5 rfl) (zaai Dmade_small hr (gl51.g 3 rfl) pass0 (zaaa (qv av51 4 rfl) zaab zaac) zadw)) (zaad (zaav (zabt (zabz (zab6 (zaay (zaah zaa2 (gl51.g 4 rfl) z_isinstance zaam (zaaa (qv av51 5 rfl) (zaaa (zaaz (v:=.ty "tuple") (gl51.g 6 rfl) z_tuple zabm rfl zabn zabo) zaab)) zaan zaao))) (zabz (zaar zadn (zaah zaap (gl51.g 5 rfl) z_len PySem.boot_len (zaaa (qv av51 5 rfl) zaab zaac) zaba zabb) zaag (nomark _)) (zabr (zab6 (zaay (zaah zapf (gl51.g 4 rfl) z_isinstance zaam (zaaa (zaat zaa0 (qv av51 5 rfl) zaag (fun _ _=>rfl)) (zaaa (zad3 (v:=.ref _) (gl51.g 1 rfl) m_Net rfl zam3) zaab)) zaan zaao))))))) (zaae (zaak zabl)) zaal) (zaad (zadx (qv av51 5 rfl) (zac7 rfl (zaa5 (zaau (i:=6) nd rfl (av51.l 6 rfl)) (zaa5 (zaau (i:=7) nd rfl (av51.l 7 rfl)) zacc)))) (zaad (zaav (zabt (zabz (zab6 (zaay (zaai D_law_formed hr (gl51.g 8 rfl) pass0 (zaaa (qv av51 7 rfl) (zaaa (zaah zaap (gl51.g 5 rfl) z_len PySem.boot_len (zaaa (qv av51 2 rfl) zaab zaac) zaba zabb) zaab zabi) zaac) zaga))) (zabr (zaar zase (zaai Dsmall_holds hr (gl51.g 7 rfl) pass0 (zaaa (qv av51 4 rfl) (zaaa (qv av51 6 rfl) (zaaa (qv av51 7 rfl) zaab zaac) zaac) zaac) zadl) zabl (nomark _))))) (zaae (zaak zabl)) zaal) (zabs (zaa1 (i:=8) nd rfl (av51.l 8 rfl) (zaax (zaaa (zacb rfl zanz (zad7 (zabj (qv av51 6 rfl) rfl)) (fun _ _ _ _ _=>(zaau (i:=0) zanz.nd rfl (Or.inl (zan0.k 0 rfl)) (Or.inr (zan0.k 0 rfl)))) (fun _ _ _ _ _=>zabx) (fun _ _ _ _ _=>(zabd (zaej K rfl) (zasg.g 0 rfl) z_list zab7 (zaaa (qw zash 0 rfl) zaab zaac) zab8 zab9))) (zaaa (zabd zab2 (gl51.g 2 rfl) z_list zab7 (zaaa (zabj (qv av51 6 rfl) rfl) zaab zabf) zab8 zab9) (zaaa (zabd zab2 (gl51.g 2 rfl) z_list zab7 (zaaa (zaat zaa0 (qv av51 7 rfl) zaag (fun _ _=>rfl)) zaab zaaq) zab8 zab9) (zaaa (zabd zab2 (gl51.g 2 rfl) z_list zab7 (zaaa (zaat zaa0 (qv av51 7 rfl) zaag (fun _ _=>rfl)) zaab zaaq) zab8 zab9) zaab zabi) zabi) zabi) zabg))) (zaad (zacp (zado PySem.F.plainAttrs_list PySem.F.slot_list_append PySem.F.type_list_append zacl (zaat zaa0 (qv av51 7 rfl) zaag (fun _ _=>rfl)) (zaaa (zaax (zaaa zaas zaab zaaj)) zaab zab1))) (zaad (zacp (zaiu (zaat zaa0 (qv av51 7 rfl) zaag (fun _ _=>rfl)))) (zaad (zadx (zaai Dmade_small hr (gl51.g 3 rfl) pass0 (zaaa (qv av51 4 rfl) zaab zaac) zadw) (zac7 rfl (zaa5 (zaau (i:=9) nd rfl (av51.l 9 rfl)) (zaa5 (zaau (i:=10) nd rfl (av51.l 10 rfl)) zacc)))) (zabs (zaa1 (i:=11) nd rfl (av51.l 11 rfl) (zaax (zaaa (zacb rfl zan1 (zad7 (zabj (qv av51 9 rfl) rfl)) (fun _ _ _ _ _=>(zaau (i:=0) zan1.nd rfl (Or.inl (zan2.k 0 rfl)) (Or.inr (zan2.k 0 rfl)))) (fun _ _ _ _ _=>zabx) (fun _ _ _ _ _=>(zabd (zaej K rfl) (zasi.g 0 rfl) z_list zab7 (zaaa (qw zasj 0 rfl) zaab zaac) zab8 zab9))) (zaaa (zabd zab2 (gl51.g 2 rfl) z_list zab7 (zaaa (zabj (qv av51 9 rfl) rfl) zaab zabf) zab8 zab9) (zaaa (zaat zaa0 (qv av51 10 rfl) zaag (fun _ _=>rfl)) (zaaa (zaat zaa0 (qv av51 10 rfl) zaag (fun _ _=>rfl)) zaab zaaq) zaaq) zabi) zabg))) (zaad (zaav (zabt (zabz (zab6 (zaay (zaai D_law_same hr (gl51.g 9 rfl) pass0 (zaaa (qv av51 11 rfl) (zaaa (qv av51 8 rfl) zaab zaac) zaac) zach))) (zabr (zab6 (zaay (zaai D_law_same hr (gl51.g 9 rfl) pass0 (zaaa (zact (zaaa (zabj (qv av51 4 rfl) rfl) (zaaa (zabj (qv av51 4 rfl) rfl) zaab zabf) zabf)) (zaaa (zact (zaaa (zabd zab0 (gl51.g 6 rfl) z_tuple zabm (zaaa (qv av51 2 rfl) zaab zaac) zabn zabo) (zaaa (zabd zab0 (gl51.g 6 rfl) z_tuple zabm (zaaa (qv av51 3 rfl) zaab zaac) zabn zabo) zaab zabi) zabi)) zaab zal3) zal3) zach)))))) (zaae (zaak zabl)) zaal) (zaad (zadx (zaai Dmade_small hr (gl51.g 3 rfl) pass0 (zaaa (qv av51 6 rfl) zaab zaac) zadw) (zac7 rfl (zaa5 (zaau (i:=12) nd rfl (av51.l 12 rfl)) (zaa5 (zaau (i:=13) nd rfl (av51.l 13 rfl)) zacc)))) (zaae (zaak (zaa8 (zaa3 zapo (zaai Dsmall_holds hr (gl51.g 7 rfl) pass0 (zaaa (qv av51 6 rfl) (zaaa (qv av51 12 rfl) (zaaa (qv av51 13 rfl) zaab zaac) zaac) zaac) zadl) zabl (nomark _)) (zaa9 (zaa3 zapo (zaai Dsmall_holds hr (gl51.g 7 rfl) pass0 (zaaa (qv av51 4 rfl) (zaaa (qv av51 6 rfl) (zaaa (zaax (zaaa (zaat zaa0 (qv av51 8 rfl) zaag (fun _ _=>rfl)) (zaaa (zaat zaa0 (qv av51 8 rfl) zaag (fun _ _=>rfl)) zaab zaaq) zaaq)) zaab zab1) zaac) zaac) zadl) zabl (nomark _))))))))))))))))))))),?_⟩
 (try dsimp only [cxOf])
 have bx:Box (Scr K H a ns):=⟨hS⟩
 clear hS
 walk_at "rd"
 rename_i b hb
 have hS1:=bx.h.same (Ch.new hb (.lst [.int 0]))
 refine ⟨hS1,zaaf,by omega,by omega,fun R gl ol gs xs os H1 dn hR1 zg zo fg=>?_⟩
 have hbl:upd H b (.lst [.int 0]) b=some (.lst [.int 0]):=zaaf
 obtain ⟨c1,b1,hc1,hd1⟩:=dn.at_
 walk_at "rd"
 refine zacr (fun σ H'=>∃ nt gp op,σ=[some (.ref a),some (.ref b),some (.ref gl),some (.ref ol),some (.ref nt),none,none,none,none,none,none,none,none,none]∧Ch [] H1 H'∧NetAt CN H' nt gp op gs xs os) ?_ ?_
 ·have dgl:=dn.gl
  have dgg:=dn.gg
  have dol:=dn.ol
  have dok:=dn.ok
  have doo:=dn.oo
  walk_at "rd"
  rename_i l1 h1 l2 h2 x dx hx hdx nx
  have ci:=Ch.inst (C:=CN) hx hdx nx
  have cL:=((Ch.new (W:=[]) h1 (.lst xs)).trans (Ch.new h2 (.lst (os.map nV))))
  have cA:=cL.trans ci
  refine ⟨ci.get (zacf h2 zaaf) (by simp),dgg.tu (Tu.same cA),dok,by omega,ci.get zaaf (by simp),doo,by omega,fun gp1 op1 H3 c3 na3=>⟨rfl,?_⟩⟩
  have c13:=cL.trans (Ch.forget (ci.wk.trans c3) (by simpa using hx))
  exact ⟨x,gp1,op1,rfl,c13,na3⟩
 rintro σ H2 ⟨nt,gp,op,rfl,c2,na2⟩
 have gl2:=c2.get dn.gl (by simp)
 have gg2:=dn.gg.tu (Tu.same c2)
 have ol2:=c2.get dn.ol (by simp)
 have ok:=dn.ok
 have oo:=dn.oo
 clear dn bx hS1
 have bn2:Box (NetAt CN H2 nt gp op gs xs os):=⟨na2⟩
 clear na2
 refine zacr (fun σ H'=>∃ R W,σ=[some (.ref a),some (.ref b),some (.ref gl),some (.ref ol),some (.ref nt),some (.ref R),none,none,none,none,none,none,none,none]∧Ch [] H2 H'∧Mde CN H2 H' R gs os W) ?_ ?_
 ·walk_at "rd"
  refine ⟨bn2.h,ok,by omega,oo,by omega,fun R W H3 c3 md=>?_⟩
  exact ⟨R,W,rfl,c3,md⟩
 rintro σ H3 ⟨R3,W,rfl,c3,md⟩
 obtain ⟨wd,nt2,pp,ll,ql,gp2,op2,xs2,zs,qs,hR,hpp,na4,hll,ggl,hql,prq,fll,fql⟩:=md
 have ngl:gl ∉ [ll,ql]:=not2 (zaa7 gl2 fll) (zaa7 gl2 fql)
 have nol:ol ∉ [ll,ql]:=not2 (zaa7 ol2 fll) (zaa7 ol2 fql)
 have tw:Two gs os W:=⟨ok,wd⟩
 have lg:=zamw ok
 have na3:=bn2.h.ch c3
 have gl3:=c3.get gl2 (by simp)
 have gg3:=gg2.tu (Tu.same c3)
 have ol3:=c3.get ol2 (by simp)
 have lx3:xs.length=gs.length:=gg3.len
 obtain ⟨⟨d2,ob2⟩,_⟩:=id na4
 have sh:=tw.sho oo
 have al:=zahd gs W
 rw [List.length_append] at al
 have gsz:=lg.sz
 have lpr:(prsS gs W).length=xs.length:=by rw [lx3]; exact sh.len
 have tyx:TyOf K H3 (.ref nt2) (.ref CN):=.ins ob2 clN xcl xsg xtk xmo
 clear gl2 gg2 ol2 bn2
 walk_at "rd"
 refine ⟨(show (lostG gs W).length≤1000 by omega),by omega,fun H4 c4=>?_⟩
 have na5:=na3.ch c4
 have nb5:=na4.ch c4
 have hpp5:=c4.get hpp (by simp)
 have hll5:=c4.get hll (by simp)
 have ggl5:=ggl.tu (Tu.same c4)
 have hql5:=c4.get hql (by simp)
 have prq5:=prq.tu (Tu.same c4)
 have c14:=(c2.trans c3).trans c4
 clear na3 na4 hpp hll ggl hql prq tyx
 walk_at "rd"
 refine ⟨(show (told gs W).length≤1000 by omega),(show (lostG gs W).length≤1000 by omega),sh,fun H5 c5=>?_⟩
 have na6:=na5.ch c5
 have nb6:=nb5.ch c5
 have hpp6:=c5.get hpp5 (by simp)
 have hll6:=c5.get hll5 (by simp)
 have ggl6:=ggl5.tu (Tu.same c5)
 have hql6:=c5.get hql5 (by simp)
 have prq6:=prq5.tu (Tu.same c5)
 have c15:=c14.trans c5
 have c35:=c4.trans c5
 have gl6:=c35.get gl3 (by simp)
 have gg6:=gg3.tu (Tu.same c35)
 have ol6:=c35.get ol3 (by simp)
 clear na5 nb5 hpp5 hll5 ggl5 hql5 prq5 c14 gl3 gg3 ol3 c4 c5 c35 c3
 walk_at "rd"
 refine iteF ?_
 walk_at "rd"
 refine zacr (fun σ H'=>∃ (kt k0 k1 k2 k3:Addr) (ys:List V),σ=[some (.ref a),some (.ref b),some (.ref gl),some (.ref ol),some (.ref nt),some (.ref R3),some (.ref nt2),some (.ref pp),some (.ref kt),none,none,none,none,none]∧Ch [] H5 H'∧H' kt=some (.tup [.ref k0,.ref k1,.ref k2,.ref k3])∧H' k0=some (.lst ys)∧Lg H5 H' (told gs W) ys ∧
  H' k1=some (.lst ((os.map fun o=>rk W (gsF gs).length (rho (shr gs).2 o)).map nV))∧H' k2=some (.lst zs)∧H' k3=some (.lst qs)∧H5 k0=none∧H5 k1=none∧H5 k2=none∧H5 k3=none) ?_ ?_
 ·obtain ⟨⟨d6,ob6⟩,gt6,gx6,ot6⟩:=id nb6
  have f1:=zack gp2 op2
  have f2:=zac0 gp2 op2
  have lx6:=gx6.len
  have tl:(sml (gsF gs) W).length=(told gs W).length:=rfl
  walk_at "rd"
  refine zaef xs2 (fun j zs σ H'=>Ch [] H5 H'∧Lg H5 H' ((told gs W).take j) zs∧∃ u,σ=[u]) (by rw [sizeLine_eq]; omega) ⟨Ch.refl _ _,⟨rfl,fun i g e=>by simp at e⟩,_,rfl⟩ ?_ ?_ ?_
  ·rintro j zs σ H' hj ⟨c,l,_⟩
   refine ⟨?_,SqT.of (c.get gt6 (by simp))⟩
   rw [l.len,List.length_take]
   omega
  ·rintro j zs σ H' x hx ⟨c,l,u,rfl⟩
   have lj:j < (told gs W).length:=by have:=(List.getElem?_eq_some_iff.mp hx).1; omega
   obtain ⟨g,eg⟩:∃ g,(told gs W)[j]?=some g:=⟨_,List.getElem?_eq_getElem lj⟩
   obtain ⟨p,e1,e2⟩:=gx6.at_ j g eg
   rw [hx] at e1
   cases e1
   have hp:=c.get e2 (by simp)
   walk_at "rd"
   rename_i l1 h1
   refine ⟨?_,_,rfl⟩
   rw [List.take_add_one,eg]
   exact l.push c h1
  ·rintro zs1 σ H6 ⟨c,l,_⟩
   rw [lx6,tl,List.take_length] at l
   have ob7:=c.get ob6 (by simp)
   have ot7:=c.get ot6 (by simp)
   have hpp7:=c.get hpp6 (by simp)
   have hll7:=c.get hll6 (by simp)
   have hql7:=c.get hql6 (by simp)
   walk_at "rd"
   rename_i D hD m1 e1 m2 e2 m3 e3 m4 e4
   have t1:=Ch.new (W:=[]) hD (.lst zs1)
   have t2:=t1.trans (Ch.new e1 (.lst ((os.map fun o=>rk W (gsF gs).length (rho (shr gs).2 o)).map nV)))
   have t3:=t2.trans (Ch.new e2 (.lst zs))
   have t4:=t3.trans (Ch.new e3 (.lst qs))
   have t5:=t4.trans (Ch.new e4 (.tup [.ref D,.ref m1,.ref m2,.ref m3]))
   exact ⟨l.ch t5 (by simp),zacf e4 (zacf e3 (zacf e2 zaaf)),zacf e4 (zacf e3 zaaf),zacf e4 zaaf,zad1 c hD,zad1 (c.trans t1) e1,zad1 (c.trans t2) e2,zad1 (c.trans t3) e3⟩
 rintro σ H6 ⟨kt,k0,k1,k2,k3,ys,rfl,c6,hkt,hk0,lgy,hk1,hk2,hk3,n0,n1,n2,n3⟩
 have nll:H5 ll≠none:=by rw [hll6]; simp
 have nql:H5 ql≠none:=by rw [hql6]; simp
 have na7:=na6.ch c6
 have nb7:=nb6.ch c6
 have hpp7:=c6.get hpp6 (by simp)
 have hll7:=c6.get hll6 (by simp)
 have hql7:=c6.get hql6 (by simp)
 walk_at "rd"
 rename_i pz hpz
 have lzs:zs.length=(lostG gs W).length:=ggl6.len
 refine ⟨by rw [sizeLine_eq]; omega,?_⟩
 have cp:=Ch.new (W:=[]) hpz (.tup [.str "in"])
 have hll8:=cp.get hll7 (by simp)
 have cw:Ch [ll] H6 (upd (upd H6 pz (.tup [.str "in"])) ll (.lst (zs++[.ref pz]))):=cp.wk.trans Ch.put
 obtain ⟨qs',hqs'⟩:∃ qs',upd (upd H6 pz (.tup [.str "in"])) ll (.lst (zs++[.ref pz])) ql=some (.lst qs'):=by
  by_cases z:ql=ll
  ·rw [z]; exact ⟨_,zaaf⟩
  ·exact ⟨qs,cw.get hql7 (by simpa using z)⟩
 have npl:pp≠ll:=zadb hpp7 hll7 (by intro z; cases z)
 have hpp8:=cw.get hpp7 (by simpa using npl)
 obtain ⟨H7,e7⟩:∃ H7,H7=upd (upd H6 pz (.tup [.str "in"])) ll (.lst (zs++[.ref pz])):=⟨_,rfl⟩
 rw [← e7] at cw hqs' hpp8 ⊢
 have c8:Ch [ll,ql] H6 (upd H7 ql (.lst qs'.reverse)):=(Ch.mono cw (by simp)).trans (Ch.mono Ch.put (by simp))
 have hW8:∀ w∈[ll,ql],∃ zs,H6 w=some (.lst zs):=fun w m=>by
  rcases List.mem_cons.mp m with rfl | m
  ·exact ⟨_,hll7⟩
  ·rcases List.mem_singleton.mp m with rfl
   exact ⟨_,hql7⟩
 have bn8:Box (NetAt CN (upd H7 ql (.lst qs'.reverse)) nt gp op gs xs os):=⟨na7.chW c8 hW8⟩
 have nb8:=nb7.chW c8 hW8
 have ggl8:=(ggl6.tu (Tu.same c6)).tu (Ch.tuW c8 hW8)
 have prq8:=(prq6.tu (Tu.same c6)).tu (Ch.tuW c8 hW8)
 have gg8:=(gg6.tu (Tu.same c6)).tu (Ch.tuW c8 hW8)
 have nk:∀ {p:Addr},H5 p=none→p ∉ [ll,ql]:=fun {p} hp m=>by
  rcases List.mem_cons.mp m with rfl | m
  ·exact nll hp
  ·rcases List.mem_singleton.mp m with rfl
   exact nql hp
 have hkt8:=Ch.isn c8 hW8 hkt (fun zs e=>by cases e)
 have hk08:=c8.get hk0 (nk n0)
 have lgy8:=lgy.ch c8 (by simp only [List.mem_cons,List.not_mem_nil,or_false]; rintro w (rfl | rfl); exact nll; exact nql)
 have hk18:=c8.get hk1 (nk n1)
 have hk28:=c8.get hk2 (nk n2)
 have hk38:=c8.get hk3 (nk n3)
 have gl8:=c8.get (c6.get gl6 (by simp)) ngl
 have ol8:=c8.get (c6.get ol6 (by simp)) nol
 clear na6 nb6 hpp6 hll6 ggl6 hql6 prq6 na7 nb7 hpp7 hll7 hql7 hll8 cw cp hkt hk0 lgy hk1 hk2 hk3
 walk_at "rd"
 refine ⟨bn8.h,ok,by omega,oo,by omega,fun R5 W5 H9 c9 md=>?_⟩
 obtain ⟨wd5,nt3,pp3,ll3,ql3,gp3,op3,xs3,zs3,qs3,hR5,hpp9,na9,hll9,ggl9,hql9,prq9,_,_⟩:=md
 rw [wd5.un wd] at na9 ggl9 prq9
 clear wd5 W5
 have bn9:Box (NetAt CN H9 nt gp op gs xs os):=⟨bn8.h.ch c9⟩
 have nb9:Box (NetAt CN H9 nt2 gp2 op2 (told gs W) xs2 _):=⟨nb8.ch c9⟩
 have ggk9:=ggl8.tu (Tu.same c9)
 have prk9:=prq8.tu (Tu.same c9)
 have gg9:=gg8.tu (Tu.same c9)
 have hkt9:=c9.get hkt8 (by simp)
 have hk09:=c9.get hk08 (by simp)
 have lgy9:=lgy8.ch c9 (by simp)
 have hk19:=c9.get hk18 (by simp)
 have hk29:=c9.get hk28 (by simp)
 have hk39:=c9.get hk38 (by simp)
 have gl9:=c9.get gl8 (by simp)
 have ol9:=c9.get ol8 (by simp)
 clear bn8 nb8 ggl8 prq8 gg8 hkt8 hk08 lgy8 hk18 hk28 hk38 gl8 ol8 c9 c8 hW8 gl6 ol6 gg6
 walk_at "rd"
 refine zacr (fun σ H'=>∃ (at_ r0 r1:Addr) (ys2:List V),σ=[some (.ref a),some (.ref b),some (.ref gl),some (.ref ol),some (.ref nt),some (.ref R3),some (.ref nt2),some (.ref pp),some (.ref kt),some (.ref nt3),some (.ref pp3),some (.ref at_),none,none]∧Ch [] H9 H'∧H' at_=some (.tup [.ref r0,.ref r1,.ref ll3,.ref ql3])∧H' r0=some (.lst ys2)∧Lg H9 H' (told gs W) ys2 ∧
  H' r1=some (.lst ((os.map fun o=>rk W (gsF gs).length (rho (shr gs).2 o)).map nV))) ?_ ?_
 ·obtain ⟨⟨d6,ob6⟩,gt6,gx6,ot6⟩:=id na9
  have f1:=zack gp3 op3
  have f2:=zac0 gp3 op3
  have lx6:=gx6.len
  have tl:(sml (gsF gs) W).length=(told gs W).length:=rfl
  walk_at "rd"
  refine zaef xs3 (fun j zs σ H'=>Ch [] H9 H'∧Lg H9 H' ((told gs W).take j) zs∧∃ u,σ=[u]) (by rw [sizeLine_eq]; omega) ⟨Ch.refl _ _,⟨rfl,fun i g e=>by simp at e⟩,_,rfl⟩ ?_ ?_ ?_
  ·rintro j zs σ H' hj ⟨c,l,_⟩
   refine ⟨?_,SqT.of (c.get gt6 (by simp))⟩
   rw [l.len,List.length_take]
   omega
  ·rintro j zs σ H' x hx ⟨c,l,u,rfl⟩
   have lj:j < (told gs W).length:=by have:=(List.getElem?_eq_some_iff.mp hx).1; omega
   obtain ⟨g,eg⟩:∃ g,(told gs W)[j]?=some g:=⟨_,List.getElem?_eq_getElem lj⟩
   obtain ⟨p,e1,e2⟩:=gx6.at_ j g eg
   rw [hx] at e1
   cases e1
   have hp:=c.get e2 (by simp)
   walk_at "rd"
   rename_i l1 h1
   refine ⟨?_,_,rfl⟩
   rw [List.take_add_one,eg]
   exact l.push c h1
  ·rintro zs1 σ H10 ⟨c,l,_⟩
   rw [lx6,tl,List.take_length] at l
   have ob7:=c.get ob6 (by simp)
   have ot7:=c.get ot6 (by simp)
   have hpp7:=c.get hpp9 (by simp)
   walk_at "rd"
   rename_i D hD m1 e1 m4 e4
   have t1:=Ch.new (W:=[]) hD (.lst zs1)
   have t2:=t1.trans (Ch.new e1 (.lst ((os.map fun o=>rk W (gsF gs).length (rho (shr gs).2 o)).map nV)))
   have t5:=t2.trans (Ch.new e4 (.tup [.ref D,.ref m1,.ref ll3,.ref ql3]))
   exact ⟨l.ch t5 (by simp),zacf e4 zaaf⟩
 rintro σ H10 ⟨at_,r0,r1,ys2,rfl,c10,hat,hr0,lg2,hr1⟩
 have ltd:(told gs W).length≤200:=by omega
 have llo:(lostG gs W).length≤200:=by omega
 have eq1:EqvS 5 H10 (.ref at_) (.ref kt):=⟨zajt hat (c10.get hkt9 (by simp)) (.cons (zaf7 hr0 (c10.get hk09 (by simp)) (zaun lg2 (lgy9.ch c10 (by simp))) (by rw [lg2.len]; omega)) (.cons (zaf7 hr1 (c10.get hk19 (by simp)) (zajs _) (by rw [List.length_map,List.length_map]; omega))
  (.cons (zaf7 (c10.get hll9 (by simp)) (c10.get hk29 (by simp)) (zap9 (ggl9.tu (Tu.same c10)) (ggk9.tu (Tu.same c10))) (by rw [ggl9.len]; exact Nat.le_trans llo (by decide)))
  (.cons (zaf7 (c10.get hql9 (by simp)) (c10.get hk39 (by simp)) (zasf (prq9.tu (Tu.same c10)) (prk9.tu (Tu.same c10))) (by rw [prq9.len]; show (prsS gs W).length≤300; omega)) .nil)))) (by simp)⟩
 obtain ⟨⟨d11,ob11⟩,gt11,gx11,ot11⟩:=id (bn9.h.ch c10)
 have f1:=zack gp op
 have f2:=zac0 gp op
 have gl10:=c10.get gl9 (by simp)
 have ol10:=c10.get ol9 (by simp)
 walk_at "rd"
 rename_i H11 c11 q1 e1 t1 e2 t2 e3 q2 e4
 have cc:=(((c11.trans (Ch.new e1 (.lst [.ref gp,.ref op]))).trans (Ch.new e2 (.tup xs))).trans (Ch.new e3 (.tup (os.map nV)))).trans (Ch.new e4 (.lst [.ref t1,.ref t2]))
 have gx12:=gx11.tu (Tu.same cc)
 refine ⟨⟨zaf7 (zacf e4 (zacf e3 (zacf e2 zaaf))) zaaf (.cons (zajt (cc.get gt11 (by simp)) (zacf e4 (zacf e3 zaaf)) (zap9 gx12 gx12) (by omega)) (.cons (zajt (cc.get ot11 (by simp)) (zacf e4 zaaf) (zajs _) (by rw [List.length_map]; omega)) .nil)) (by simp)⟩,fun H12 c12=>?_⟩
 have c92:=(c10.trans cc).trans c12
 have na12:Box _:=⟨bn9.h.ch c92⟩
 have nb12:Box _:=⟨nb9.h.ch c92⟩
 have hkt12:=c92.get hkt9 (by simp)
 have hk2x:=c92.get hk29 (by simp)
 have hk3x:=c92.get hk39 (by simp)
 have ggx:=ggk9.tu (Tu.same c92)
 have prx:=prk9.tu (Tu.same c92)
 clear eq1 ob11 gt11 gx11 ot11 gl10 ol10 c11 cc gx12 e1 e2 e3 e4 c12 hat hr0 lg2 hr1 c10 bn9 nb9 ggk9 prk9 gg9 hkt9 hk09 lgy9 hk19 hk29 hk39 gl9 ol9 hR5 hpp9 na9 hll9 ggl9 hql9 prq9
 have ok2:Oks (told gs W):=zamy wd lg.ok
 have oo2:∀ o∈os.map (fun o=>rk W (gsF gs).length (rho (shr gs).2 o)),o < (told gs W).length:=fun o m=>by
  obtain ⟨o',m',rfl⟩:=List.mem_map.mp m
  exact zarw wd (wd.out _ (List.mem_map.mpr ⟨o',m',rfl⟩))
 walk_at "rd"
 refine ⟨nb12.h,ok2,by omega,oo2,by rw [List.length_map]; omega,fun R6 W6 H13 c13 md=>?_⟩
 obtain ⟨wd6,nt4,pp4,ll4,ql4,gp4,op4,xs4,zs4,qs4,hR6,hpp13,na13,hll13,ggl13,hql13,prq13,_,_⟩:=md
 have tw2:Two (told gs W) _ W6:=⟨ok2,wd6⟩
 have sh2:=tw2.sho oo2
 have al2:=zahd (told gs W) W6
 rw [List.length_append] at al2
 have gsz2:=(zamw ok2).sz
 have nb13:=nb12.h.ch c13
 walk_at "rd"
 refine ⟨(show (told (told gs W) W6).length≤1000 by omega),(show (lostG (told gs W) W6).length≤1000 by omega),sh2,fun H14 c14=>?_⟩
 have c24:=c13.trans c14
 have na14:=na12.h.ch c24
 have nb14:=nb12.h.ch c24
 have hkt14:=c24.get hkt12 (by simp)
 have hk214:=c24.get hk2x (by simp)
 have hk314:=c24.get hk3x (by simp)
 have gg14:=ggx.tu (Tu.same c24)
 have pr14:=prx.tu (Tu.same c24)
 clear hR6 hpp13 na13 hll13 ggl13 hql13 prq13 nb13 hkt12 hk2x hk3x ggx prx c13 c14
 walk_at "rd"
 rename_i pt hpt
 have cz:=Ch.new (W:=[]) hpt (.tup [.ref k2,.ref k3])
 refine ⟨na14.ch cz,nb14.ch cz,zaaf,cz.get hk214 (by simp),gg14.tu (Tu.same cz),cz.get hk314 (by simp),pr14.tu (Tu.same cz),by omega,(show (told gs W).length≤1000 by omega),(show (lostG gs W).length≤1000 by omega),sh,fun H15 c15=>?_⟩
 walk_at "rd"
 exact q _
end
end

section
def spt5 (a b c d:Addr) (f:Addr):Sp:=if f=a then spRu "not" else if f=b then spRu "and" else if f=c then spRu "or" else if f=d then spRu "xor" else spRu "pick"
theorem zaup:∀ vs H Q E,spRu "not" vs H Q E→spNotB vs H Q E:=fun vs H Q E h=>by
 rcases h with ⟨e,h⟩ | ⟨e,h⟩ | ⟨e,h⟩ | ⟨e,h⟩ | ⟨e,h⟩ <;> first | exact h | exact absurd e (by decide +kernel)
theorem zauq:∀ vs H Q E,spRu "and" vs H Q E→spAndB vs H Q E:=fun vs H Q E h=>by
 rcases h with ⟨e,h⟩ | ⟨e,h⟩ | ⟨e,h⟩ | ⟨e,h⟩ | ⟨e,h⟩ <;> first | exact h | exact absurd e (by decide +kernel)
theorem zavp:∀ vs H Q E,spRu "or" vs H Q E→spOrB vs H Q E:=fun vs H Q E h=>by
 rcases h with ⟨e,h⟩ | ⟨e,h⟩ | ⟨e,h⟩ | ⟨e,h⟩ | ⟨e,h⟩ <;> first | exact h | exact absurd e (by decide +kernel)
theorem zaur:∀ vs H Q E,spRu "xor" vs H Q E→spXorB vs H Q E:=fun vs H Q E h=>by
 rcases h with ⟨e,h⟩ | ⟨e,h⟩ | ⟨e,h⟩ | ⟨e,h⟩ | ⟨e,h⟩ <;> first | exact h | exact absurd e (by decide +kernel)
theorem zask:∀ vs H Q E,spRu "pick" vs H Q E→spPickB vs H Q E:=fun vs H Q E h=>by
 rcases h with ⟨e,h⟩ | ⟨e,h⟩ | ⟨e,h⟩ | ⟨e,h⟩ | ⟨e,h⟩ <;> first | exact h | exact absurd e (by decide +kernel)
theorem zaus {l:PySem.W.OpenLaw}{w:World}{K:PySem.W.Frag}{h:Heap}{mg:Str→Option Value}{fa CN CS:Addr} (X:K.In h) (G:h.Ns mainGlobals mg) (hfa:mg "law" = some (.ref fa))
  {f0:Addr}{od0 an0:Option Addr}{sl0:Array (Option Value)}{oc0 kV0 dc0 pm0 cd0 ct0:Value}
  {f1:Addr}{od1 an1:Option Addr}{sl1:Array (Option Value)}{oc1 kV1 dc1 pm1 cd1 ct1:Value}
  {f2:Addr}{od2 an2:Option Addr}{sl2:Array (Option Value)}{oc2 kV2 dc2 pm2 cd2 ct2:Value}
  {f3:Addr}{od3 an3:Option Addr}{sl3:Array (Option Value)}{oc3 kV3 dc3 pm3 cd3 ct3:Value}
  {f4:Addr}{od4 an4:Option Addr}{sl4:Array (Option Value)}{oc4 kV4 dc4 pm4 cd4 ct4:Value}
  {f5:Addr}{od5 an5:Option Addr}{sl5:Array (Option Value)}{oc5 kV5 dc5 pm5 cd5 ct5:Value}
  {f6:Addr}{od6 an6:Option Addr}{sl6:Array (Option Value)}{oc6 kV6 dc6 pm6 cd6 ct6:Value}
  {f7:Addr}{od7 an7:Option Addr}{sl7:Array (Option Value)}{oc7 kV7 dc7 pm7 cd7 ct7:Value}
  {f8:Addr}{od8 an8:Option Addr}{sl8:Array (Option Value)}{oc8 kV8 dc8 pm8 cd8 ct8:Value}
  {f9:Addr}{od9 an9:Option Addr}{sl9:Array (Option Value)}{oc9 kV9 dc9 pm9 cd9 ct9:Value}
  {f10:Addr}{od10 an10:Option Addr}{sl10:Array (Option Value)}{oc10 kV10 dc10 pm10 cd10 ct10:Value}
  {f11:Addr}{od11 an11:Option Addr}{sl11:Array (Option Value)}{oc11 kV11 dc11 pm11 cd11 ct11:Value}
  {f12:Addr}{od12 an12:Option Addr}{sl12:Array (Option Value)}{oc12 kV12 dc12 pm12 cd12 ct12:Value}
  {f13:Addr}{od13 an13:Option Addr}{sl13:Array (Option Value)}{oc13 kV13 dc13 pm13 cd13 ct13:Value}
  {f14:Addr}{od14 an14:Option Addr}{sl14:Array (Option Value)}{oc14 kV14 dc14 pm14 cd14 ct14:Value}
  {f15:Addr}{od15 an15:Option Addr}{sl15:Array (Option Value)}{oc15 kV15 dc15 pm15 cd15 ct15:Value}
  {f16:Addr}{od16 an16:Option Addr}{sl16:Array (Option Value)}{oc16 kV16 dc16 pm16 cd16 ct16:Value}
  {f17:Addr}{od17 an17:Option Addr}{sl17:Array (Option Value)}{oc17 kV17 dc17 pm17 cd17 ct17:Value}
  {f18:Addr}{od18 an18:Option Addr}{sl18:Array (Option Value)}{oc18 kV18 dc18 pm18 cd18 ct18:Value}
  {f19:Addr}{od19 an19:Option Addr}{sl19:Array (Option Value)}{oc19 kV19 dc19 pm19 cd19 ct19:Value}
  {f20:Addr}{od20 an20:Option Addr}{sl20:Array (Option Value)}{oc20 kV20 dc20 pm20 cd20 ct20:Value}
  {f21:Addr}{od21 an21:Option Addr}{sl21:Array (Option Value)}{oc21 kV21 dc21 pm21 cd21 ct21:Value}
  {f22:Addr}{od22 an22:Option Addr}{sl22:Array (Option Value)}{oc22 kV22 dc22 pm22 cd22 ct22:Value}
  {f23:Addr}{od23 an23:Option Addr}{sl23:Array (Option Value)}{oc23 kV23 dc23 pm23 cd23 ct23:Value}
  {f24:Addr}{od24 an24:Option Addr}{sl24:Array (Option Value)}{oc24 kV24 dc24 pm24 cd24 ct24:Value}
  {f25:Addr}{od25 an25:Option Addr}{sl25:Array (Option Value)}{oc25 kV25 dc25 pm25 cd25 ct25:Value}
  {f26:Addr}{od26 an26:Option Addr}{sl26:Array (Option Value)}{oc26 kV26 dc26 pm26 cd26 ct26:Value}
  {f27:Addr}{od27 an27:Option Addr}{sl27:Array (Option Value)}{oc27 kV27 dc27 pm27 cd27 ct27:Value}
  {f28:Addr}{od28 an28:Option Addr}{sl28:Array (Option Value)}{oc28 kV28 dc28 pm28 cd28 ct28:Value}
  {f29:Addr}{od29 an29:Option Addr}{sl29:Array (Option Value)}{oc29 kV29 dc29 pm29 cd29 ct29:Value}
  {f30:Addr}{od30 an30:Option Addr}{sl30:Array (Option Value)}{oc30 kV30 dc30 pm30 cd30 ct30:Value}
  {f31:Addr}{od31 an31:Option Addr}{sl31:Array (Option Value)}{oc31 kV31 dc31 pm31 cd31 ct31:Value}
  {f32:Addr}{od32 an32:Option Addr}{sl32:Array (Option Value)}{oc32 kV32 dc32 pm32 cd32 ct32:Value}
  {f33:Addr}{od33 an33:Option Addr}{sl33:Array (Option Value)}{oc33 kV33 dc33 pm33 cd33 ct33:Value}
  {f34:Addr}{od34 an34:Option Addr}{sl34:Array (Option Value)}{oc34 kV34 dc34 pm34 cd34 ct34:Value}
  {f35:Addr}{od35 an35:Option Addr}{sl35:Array (Option Value)}{oc35 kV35 dc35 pm35 cd35 ct35:Value}
  {f36:Addr}{od36 an36:Option Addr}{sl36:Array (Option Value)}{oc36 kV36 dc36 pm36 cd36 ct36:Value}
  {f37:Addr}{od37 an37:Option Addr}{sl37:Array (Option Value)}{oc37 kV37 dc37 pm37 cd37 ct37:Value}
  {f38:Addr}{od38 an38:Option Addr}{sl38:Array (Option Value)}{oc38 kV38 dc38 pm38 cd38 ct38:Value}
  {f39:Addr}{od39 an39:Option Addr}{sl39:Array (Option Value)}{oc39 kV39 dc39 pm39 cd39 ct39:Value}
  {f40:Addr}{od40 an40:Option Addr}{sl40:Array (Option Value)}{oc40 kV40 dc40 pm40 cd40 ct40:Value}
  {f41:Addr}{od41 an41:Option Addr}{sl41:Array (Option Value)}{oc41 kV41 dc41 pm41 cd41 ct41:Value}
  {f42:Addr}{od42 an42:Option Addr}{sl42:Array (Option Value)}{oc42 kV42 dc42 pm42 cd42 ct42:Value}
  {f43:Addr}{od43 an43:Option Addr}{sl43:Array (Option Value)}{oc43 kV43 dc43 pm43 cd43 ct43:Value}
  {f44:Addr}{od44 an44:Option Addr}{sl44:Array (Option Value)}{oc44 kV44 dc44 pm44 cd44 ct44:Value}
  {f45:Addr}{od45 an45:Option Addr}{sl45:Array (Option Value)}{oc45 kV45 dc45 pm45 cd45 ct45:Value}
  {f46:Addr}{od46 an46:Option Addr}{sl46:Array (Option Value)}{oc46 kV46 dc46 pm46 cd46 ct46:Value}
  {f47:Addr}{od47 an47:Option Addr}{sl47:Array (Option Value)}{oc47 kV47 dc47 pm47 cd47 ct47:Value}
  {f48:Addr}{od48 an48:Option Addr}{sl48:Array (Option Value)}{oc48 kV48 dc48 pm48 cd48 ct48:Value}
  {STWO_SIDED:Addr}{tTWO_SIDED0 tTWO_SIDED1 tTWO_SIDED2:Tok}{nTWO_SIDED:Nat}{slTWO_SIDED:Array (Option Value)} (aSTWO_SIDED:PySem.W.nsIn K mainGlobals "TWO_SIDED" = some (some (.ref STWO_SIDED))) (lSTWO_SIDED:K.lookup STWO_SIDED=some ⟨.type "tuple",none,.seq #[.str "and" tTWO_SIDED0,.str "or" tTWO_SIDED1,.str "xor" tTWO_SIDED2] nTWO_SIDED,slTWO_SIDED⟩)
  (aN:PySem.W.nsIn K mainGlobals "Net" = some (some (.ref CN)))
  (aS:PySem.W.nsIn K mainGlobals "Shrinker" = some (some (.ref CS)))
  (a0:PySem.W.nsIn K mainGlobals "is_whole" = some (some (.ref f0))) (l0:K.lookup f0=some ⟨oc0,od0,.func (PySem.W.fnOf "is_whole" "is_whole" (defArgs (top 4)) (defBody (top 4)) (defScope (top 4)) .none kV0 dc0 pm0 an0 cd0 ct0),sl0⟩) (c0:PySem.W.codeIn K cd0 "is_whole" = true) (k0:PySem.W.keepIn K (.ref f0)=true)
  (a1:PySem.W.nsIn K mainGlobals "is_below" = some (some (.ref f1))) (l1:K.lookup f1=some ⟨oc1,od1,.func (PySem.W.fnOf "is_below" "is_below" (defArgs (top 5)) (defBody (top 5)) (defScope (top 5)) .none kV1 dc1 pm1 an1 cd1 ct1),sl1⟩) (c1:PySem.W.codeIn K cd1 "is_below" = true) (k1:PySem.W.keepIn K (.ref f1)=true)
  (a2:PySem.W.nsIn K mainGlobals "is_listed" = some (some (.ref f2))) (l2:K.lookup f2=some ⟨oc2,od2,.func (PySem.W.fnOf "is_listed" "is_listed" (defArgs (top 6)) (defBody (top 6)) (defScope (top 6)) .none kV2 dc2 pm2 an2 cd2 ct2),sl2⟩) (c2:PySem.W.codeIn K cd2 "is_listed" = true) (k2:PySem.W.keepIn K (.ref f2)=true)
  (a3:PySem.W.nsIn K mainGlobals "is_pair" = some (some (.ref f3))) (l3:K.lookup f3=some ⟨oc3,od3,.func (PySem.W.fnOf "is_pair" "is_pair" (defArgs (top 7)) (defBody (top 7)) (defScope (top 7)) .none kV3 dc3 pm3 an3 cd3 ct3),sl3⟩) (c3:PySem.W.codeIn K cd3 "is_pair" = true) (k3:PySem.W.keepIn K (.ref f3)=true)
  (a4:PySem.W.nsIn K mainGlobals "is_gate" = some (some (.ref f4))) (l4:K.lookup f4=some ⟨oc4,od4,.func (PySem.W.fnOf "is_gate" "is_gate" (defArgs (top 10)) (defBody (top 10)) (defScope (top 10)) .none kV4 dc4 pm4 an4 cd4 ct4),sl4⟩) (c4:PySem.W.codeIn K cd4 "is_gate" = true) (k4:PySem.W.keepIn K (.ref f4)=true)
  (a5:PySem.W.nsIn K mainGlobals "ins_of" = some (some (.ref f5))) (l5:K.lookup f5=some ⟨oc5,od5,.func (PySem.W.fnOf "ins_of" "ins_of" (defArgs (top 12)) (defBody (top 12)) (defScope (top 12)) .none kV5 dc5 pm5 an5 cd5 ct5),sl5⟩) (c5:PySem.W.codeIn K cd5 "ins_of" = true) (k5:PySem.W.keepIn K (.ref f5)=true)
  (a6:PySem.W.nsIn K mainGlobals "feeds_of" = some (some (.ref f6))) (l6:K.lookup f6=some ⟨oc6,od6,.func (PySem.W.fnOf "feeds_of" "feeds_of" (defArgs (top 13)) (defBody (top 13)) (defScope (top 13)) .none kV6 dc6 pm6 an6 cd6 ct6),sl6⟩) (c6:PySem.W.codeIn K cd6 "feeds_of" = true) (k6:PySem.W.keepIn K (.ref f6)=true)
  (a7:PySem.W.nsIn K mainGlobals "plain_pair" = some (some (.ref f7))) (l7:K.lookup f7=some ⟨oc7,od7,.func (PySem.W.fnOf "plain_pair" "plain_pair" (defArgs (top 17)) (defBody (top 17)) (defScope (top 17)) .none kV7 dc7 pm7 an7 cd7 ct7),sl7⟩) (c7:PySem.W.codeIn K cd7 "plain_pair" = true) (k7:PySem.W.keepIn K (.ref f7)=true)
  (a8:PySem.W.nsIn K mainGlobals "not_pair" = some (some (.ref f8))) (l8:K.lookup f8=some ⟨oc8,od8,.func (PySem.W.fnOf "not_pair" "not_pair" (defArgs (top 18)) (defBody (top 18)) (defScope (top 18)) .none kV8 dc8 pm8 an8 cd8 ct8),sl8⟩) (c8:PySem.W.codeIn K cd8 "not_pair" = true) (k8:PySem.W.keepIn K (.ref f8)=true)
  (a9:PySem.W.nsIn K mainGlobals "and_pair" = some (some (.ref f9))) (l9:K.lookup f9=some ⟨oc9,od9,.func (PySem.W.fnOf "and_pair" "and_pair" (defArgs (top 19)) (defBody (top 19)) (defScope (top 19)) .none kV9 dc9 pm9 an9 cd9 ct9),sl9⟩) (c9:PySem.W.codeIn K cd9 "and_pair" = true) (k9:PySem.W.keepIn K (.ref f9)=true)
  (a10:PySem.W.nsIn K mainGlobals "or_pair" = some (some (.ref f10))) (l10:K.lookup f10=some ⟨oc10,od10,.func (PySem.W.fnOf "or_pair" "or_pair" (defArgs (top 20)) (defBody (top 20)) (defScope (top 20)) .none kV10 dc10 pm10 an10 cd10 ct10),sl10⟩) (c10:PySem.W.codeIn K cd10 "or_pair" = true) (k10:PySem.W.keepIn K (.ref f10)=true)
  (a11:PySem.W.nsIn K mainGlobals "xor_pair" = some (some (.ref f11))) (l11:K.lookup f11=some ⟨oc11,od11,.func (PySem.W.fnOf "xor_pair" "xor_pair" (defArgs (top 21)) (defBody (top 21)) (defScope (top 21)) .none kV11 dc11 pm11 an11 cd11 ct11),sl11⟩) (c11:PySem.W.codeIn K cd11 "xor_pair" = true) (k11:PySem.W.keepIn K (.ref f11)=true)
  (a12:PySem.W.nsIn K mainGlobals "pick_pair" = some (some (.ref f12))) (l12:K.lookup f12=some ⟨oc12,od12,.func (PySem.W.fnOf "pick_pair" "pick_pair" (defArgs (top 22)) (defBody (top 22)) (defScope (top 22)) .none kV12 dc12 pm12 an12 cd12 ct12),sl12⟩) (c12:PySem.W.codeIn K cd12 "pick_pair" = true) (k12:PySem.W.keepIn K (.ref f12)=true)
  (a13:PySem.W.nsIn K mainGlobals "gate_pair" = some (some (.ref f13))) (l13:K.lookup f13=some ⟨oc13,od13,.func (PySem.W.fnOf "gate_pair" "gate_pair" (defArgs (top 23)) (defBody (top 23)) (defScope (top 23)) .none kV13 dc13 pm13 an13 cd13 ct13),sl13⟩) (c13:PySem.W.codeIn K cd13 "gate_pair" = true) (k13:PySem.W.keepIn K (.ref f13)=true)
  (a14:PySem.W.nsIn K mainGlobals "shrunk" = some (some (.ref f14))) (l14:K.lookup f14=some ⟨oc14,od14,.func (PySem.W.fnOf "shrunk" "shrunk" (defArgs (top 24)) (defBody (top 24)) (defScope (top 24)) .none kV14 dc14 pm14 an14 cd14 ct14),sl14⟩) (c14:PySem.W.codeIn K cd14 "shrunk" = true) (k14:PySem.W.keepIn K (.ref f14)=true)
  (a15:PySem.W.nsIn K mainGlobals "wanted_of" = some (some (.ref f15))) (l15:K.lookup f15=some ⟨oc15,od15,.func (PySem.W.fnOf "wanted_of" "wanted_of" (defArgs (top 25)) (defBody (top 25)) (defScope (top 25)) .none kV15 dc15 pm15 an15 cd15 ct15),sl15⟩) (c15:PySem.W.codeIn K cd15 "wanted_of" = true) (k15:PySem.W.keepIn K (.ref f15)=true)
  (a16:PySem.W.nsIn K mainGlobals "renumbered" = some (some (.ref f16))) (l16:K.lookup f16=some ⟨oc16,od16,.func (PySem.W.fnOf "renumbered" "renumbered" (defArgs (top 26)) (defBody (top 26)) (defScope (top 26)) .none kV16 dc16 pm16 an16 cd16 ct16),sl16⟩) (c16:PySem.W.codeIn K cd16 "renumbered" = true) (k16:PySem.W.keepIn K (.ref f16)=true)
  (a17:PySem.W.nsIn K mainGlobals "made_small" = some (some (.ref f17))) (l17:K.lookup f17=some ⟨oc17,od17,.func (PySem.W.fnOf "made_small" "made_small" (defArgs (top 27)) (defBody (top 27)) (defScope (top 27)) .none kV17 dc17 pm17 an17 cd17 ct17),sl17⟩) (c17:PySem.W.codeIn K cd17 "made_small" = true) (k17:PySem.W.keepIn K (.ref f17)=true)
  (a18:PySem.W.nsIn K mainGlobals "is_zero" = some (some (.ref f18))) (l18:K.lookup f18=some ⟨oc18,od18,.func (PySem.W.fnOf "is_zero" "is_zero" (defArgs (top 29)) (defBody (top 29)) (defScope (top 29)) .none kV18 dc18 pm18 an18 cd18 ct18),sl18⟩) (c18:PySem.W.codeIn K cd18 "is_zero" = true) (k18:PySem.W.keepIn K (.ref f18)=true)
  (a19:PySem.W.nsIn K mainGlobals "is_one" = some (some (.ref f19))) (l19:K.lookup f19=some ⟨oc19,od19,.func (PySem.W.fnOf "is_one" "is_one" (defArgs (top 30)) (defBody (top 30)) (defScope (top 30)) .none kV19 dc19 pm19 an19 cd19 ct19),sl19⟩) (c19:PySem.W.codeIn K cd19 "is_one" = true) (k19:PySem.W.keepIn K (.ref f19)=true)
  (a20:PySem.W.nsIn K mainGlobals "are_opposed" = some (some (.ref f20))) (l20:K.lookup f20=some ⟨oc20,od20,.func (PySem.W.fnOf "are_opposed" "are_opposed" (defArgs (top 31)) (defBody (top 31)) (defScope (top 31)) .none kV20 dc20 pm20 an20 cd20 ct20),sl20⟩) (c20:PySem.W.codeIn K cd20 "are_opposed" = true) (k20:PySem.W.keepIn K (.ref f20)=true)
  (a21:PySem.W.nsIn K mainGlobals "not_holds" = some (some (.ref f21))) (l21:K.lookup f21=some ⟨oc21,od21,.func (PySem.W.fnOf "not_holds" "not_holds" (defArgs (top 32)) (defBody (top 32)) (defScope (top 32)) .none kV21 dc21 pm21 an21 cd21 ct21),sl21⟩) (c21:PySem.W.codeIn K cd21 "not_holds" = true) (k21:PySem.W.keepIn K (.ref f21)=true)
  (a22:PySem.W.nsIn K mainGlobals "and_holds" = some (some (.ref f22))) (l22:K.lookup f22=some ⟨oc22,od22,.func (PySem.W.fnOf "and_holds" "and_holds" (defArgs (top 33)) (defBody (top 33)) (defScope (top 33)) .none kV22 dc22 pm22 an22 cd22 ct22),sl22⟩) (c22:PySem.W.codeIn K cd22 "and_holds" = true) (k22:PySem.W.keepIn K (.ref f22)=true)
  (a23:PySem.W.nsIn K mainGlobals "or_holds" = some (some (.ref f23))) (l23:K.lookup f23=some ⟨oc23,od23,.func (PySem.W.fnOf "or_holds" "or_holds" (defArgs (top 34)) (defBody (top 34)) (defScope (top 34)) .none kV23 dc23 pm23 an23 cd23 ct23),sl23⟩) (c23:PySem.W.codeIn K cd23 "or_holds" = true) (k23:PySem.W.keepIn K (.ref f23)=true)
  (a24:PySem.W.nsIn K mainGlobals "xor_holds" = some (some (.ref f24))) (l24:K.lookup f24=some ⟨oc24,od24,.func (PySem.W.fnOf "xor_holds" "xor_holds" (defArgs (top 35)) (defBody (top 35)) (defScope (top 35)) .none kV24 dc24 pm24 an24 cd24 ct24),sl24⟩) (c24:PySem.W.codeIn K cd24 "xor_holds" = true) (k24:PySem.W.keepIn K (.ref f24)=true)
  (a25:PySem.W.nsIn K mainGlobals "pick_holds" = some (some (.ref f25))) (l25:K.lookup f25=some ⟨oc25,od25,.func (PySem.W.fnOf "pick_holds" "pick_holds" (defArgs (top 36)) (defBody (top 36)) (defScope (top 36)) .none kV25 dc25 pm25 an25 cd25 ct25),sl25⟩) (c25:PySem.W.codeIn K cd25 "pick_holds" = true) (k25:PySem.W.keepIn K (.ref f25)=true)
  (a26:PySem.W.nsIn K mainGlobals "pair_holds" = some (some (.ref f26))) (l26:K.lookup f26=some ⟨oc26,od26,.func (PySem.W.fnOf "pair_holds" "pair_holds" (defArgs (top 38)) (defBody (top 38)) (defScope (top 38)) .none kV26 dc26 pm26 an26 cd26 ct26),sl26⟩) (c26:PySem.W.codeIn K cd26 "pair_holds" = true) (k26:PySem.W.keepIn K (.ref f26)=true)
  (a27:PySem.W.nsIn K mainGlobals "with_lost" = some (some (.ref f27))) (l27:K.lookup f27=some ⟨oc27,od27,.func (PySem.W.fnOf "with_lost" "with_lost" (defArgs (top 39)) (defBody (top 39)) (defScope (top 39)) .none kV27 dc27 pm27 an27 cd27 ct27),sl27⟩) (c27:PySem.W.codeIn K cd27 "with_lost" = true) (k27:PySem.W.keepIn K (.ref f27)=true)
  (a28:PySem.W.nsIn K mainGlobals "are_pairs" = some (some (.ref f28))) (l28:K.lookup f28=some ⟨oc28,od28,.func (PySem.W.fnOf "are_pairs" "are_pairs" (defArgs (top 40)) (defBody (top 40)) (defScope (top 40)) .none kV28 dc28 pm28 an28 cd28 ct28),sl28⟩) (c28:PySem.W.codeIn K cd28 "are_pairs" = true) (k28:PySem.W.keepIn K (.ref f28)=true)
  (a29:PySem.W.nsIn K mainGlobals "ins_hold" = some (some (.ref f29))) (l29:K.lookup f29=some ⟨oc29,od29,.func (PySem.W.fnOf "ins_hold" "ins_hold" (defArgs (top 41)) (defBody (top 41)) (defScope (top 41)) .none kV29 dc29 pm29 an29 cd29 ct29),sl29⟩) (c29:PySem.W.codeIn K cd29 "ins_hold" = true) (k29:PySem.W.keepIn K (.ref f29)=true)
  (a30:PySem.W.nsIn K mainGlobals "outs_hold" = some (some (.ref f30))) (l30:K.lookup f30=some ⟨oc30,od30,.func (PySem.W.fnOf "outs_hold" "outs_hold" (defArgs (top 42)) (defBody (top 42)) (defScope (top 42)) .none kV30 dc30 pm30 an30 cd30 ct30),sl30⟩) (c30:PySem.W.codeIn K cd30 "outs_hold" = true) (k30:PySem.W.keepIn K (.ref f30)=true)
  (a31:PySem.W.nsIn K mainGlobals "gates_hold" = some (some (.ref f31))) (l31:K.lookup f31=some ⟨oc31,od31,.func (PySem.W.fnOf "gates_hold" "gates_hold" (defArgs (top 43)) (defBody (top 43)) (defScope (top 43)) .none kV31 dc31 pm31 an31 cd31 ct31),sl31⟩) (c31:PySem.W.codeIn K cd31 "gates_hold" = true) (k31:PySem.W.keepIn K (.ref f31)=true)
  (a32:PySem.W.nsIn K mainGlobals "small_holds" = some (some (.ref f32))) (l32:K.lookup f32=some ⟨oc32,od32,.func (PySem.W.fnOf "small_holds" "small_holds" (defArgs (top 44)) (defBody (top 44)) (defScope (top 44)) .none kV32 dc32 pm32 an32 cd32 ct32),sl32⟩) (c32:PySem.W.codeIn K cd32 "small_holds" = true) (k32:PySem.W.keepIn K (.ref f32)=true)
  (a33:PySem.W.nsIn K mainGlobals "_law_next" = some (some (.ref f33))) (l33:K.lookup f33=some ⟨oc33,od33,.func (PySem.W.fnOf "_law_next" "_law_next" (defArgs (top 46)) (defBody (top 46)) (defScope (top 46)) .none kV33 dc33 pm33 an33 cd33 ct33),sl33⟩) (c33:PySem.W.codeIn K cd33 "_law_next" = true) (k33:PySem.W.keepIn K (.ref f33)=true)
  (a34:PySem.W.nsIn K mainGlobals "_law_net" = some (some (.ref f34))) (l34:K.lookup f34=some ⟨oc34,od34,.func (PySem.W.fnOf "_law_net" "_law_net" (defArgs (top 47)) (defBody (top 47)) (defScope (top 47)) .none kV34 dc34 pm34 an34 cd34 ct34),sl34⟩) (c34:PySem.W.codeIn K cd34 "_law_net" = true) (k34:PySem.W.keepIn K (.ref f34)=true)
  (a35:PySem.W.nsIn K mainGlobals "_law_same" = some (some (.ref f35))) (l35:K.lookup f35=some ⟨oc35,od35,.func (PySem.W.fnOf "_law_same" "_law_same" (defArgs (top 48)) (defBody (top 48)) (defScope (top 48)) .none kV35 dc35 pm35 an35 cd35 ct35),sl35⟩) (c35:PySem.W.codeIn K cd35 "_law_same" = true) (k35:PySem.W.keepIn K (.ref f35)=true)
  (a36:PySem.W.nsIn K mainGlobals "_law_drawn" = some (some (.ref f36))) (l36:K.lookup f36=some ⟨oc36,od36,.func (PySem.W.fnOf "_law_drawn" "_law_drawn" (defArgs (top 49)) (defBody (top 49)) (defScope (top 49)) .none kV36 dc36 pm36 an36 cd36 ct36),sl36⟩) (c36:PySem.W.codeIn K cd36 "_law_drawn" = true) (k36:PySem.W.keepIn K (.ref f36)=true)
  (a37:PySem.W.nsIn K mainGlobals "_law_formed" = some (some (.ref f37))) (l37:K.lookup f37=some ⟨oc37,od37,.func (PySem.W.fnOf "_law_formed" "_law_formed" (defArgs (top 50)) (defBody (top 50)) (defScope (top 50)) .none kV37 dc37 pm37 an37 cd37 ct37),sl37⟩) (c37:PySem.W.codeIn K cd37 "_law_formed" = true) (k37:PySem.W.keepIn K (.ref f37)=true)
  (a38:PySem.W.nsIn K mainGlobals "law" = some (some (.ref f38))) (l38:K.lookup f38=some ⟨oc38,od38,.func (PySem.W.fnOf "law" "law" (defArgs (top 51)) (defBody (top 51)) (defScope (top 51)) .none kV38 dc38 pm38 an38 cd38 ct38),sl38⟩) (c38:PySem.W.codeIn K cd38 "law" = true) (k38:PySem.W.keepIn K (.ref f38)=true)
  (a39:PySem.W.findIn K (.ref CN) "__init__" = some (some (.ref f39))) (l39:K.lookup f39=some ⟨oc39,od39,.func (PySem.W.fnOf "__init__" "Net.__init__" (defArgs (inClass (top 11) 0)) (defBody (inClass (top 11) 0)) (defScope (inClass (top 11) 0)) .none kV39 dc39 pm39 an39 cd39 ct39),sl39⟩) (c39:PySem.W.codeIn K cd39 "Net.__init__" = true) (k39:PySem.W.keepIn K (.ref f39)=true) (i39:PySem.W.isFn K (.ref f39)=true)
  (a40:PySem.W.findIn K (.ref CS) "__init__" = some (some (.ref f40))) (l40:K.lookup f40=some ⟨oc40,od40,.func (PySem.W.fnOf "__init__" "Shrinker.__init__" (defArgs (inClass (top 16) 0)) (defBody (inClass (top 16) 0)) (defScope (inClass (top 16) 0)) .none kV40 dc40 pm40 an40 cd40 ct40),sl40⟩) (c40:PySem.W.codeIn K cd40 "Shrinker.__init__" = true) (k40:PySem.W.keepIn K (.ref f40)=true) (i40:PySem.W.isFn K (.ref f40)=true)
  (a41:PySem.W.findIn K (.ref CS) "lay" = some (some (.ref f41))) (l41:K.lookup f41=some ⟨oc41,od41,.func (PySem.W.fnOf "lay" "Shrinker.lay" (defArgs (inClass (top 16) 1)) (defBody (inClass (top 16) 1)) (defScope (inClass (top 16) 1)) .none kV41 dc41 pm41 an41 cd41 ct41),sl41⟩) (c41:PySem.W.codeIn K cd41 "Shrinker.lay" = true) (k41:PySem.W.keepIn K (.ref f41)=true) (i41:PySem.W.isFn K (.ref f41)=true)
  (a42:PySem.W.findIn K (.ref CS) "gate_like" = some (some (.ref f42))) (l42:K.lookup f42=some ⟨oc42,od42,.func (PySem.W.fnOf "gate_like" "Shrinker.gate_like" (defArgs (inClass (top 16) 2)) (defBody (inClass (top 16) 2)) (defScope (inClass (top 16) 2)) .none kV42 dc42 pm42 an42 cd42 ct42),sl42⟩) (c42:PySem.W.codeIn K cd42 "Shrinker.gate_like" = true) (k42:PySem.W.keepIn K (.ref f42)=true) (i42:PySem.W.isFn K (.ref f42)=true)
  (a43:PySem.W.findIn K (.ref CS) "zero" = some (some (.ref f43))) (l43:K.lookup f43=some ⟨oc43,od43,.func (PySem.W.fnOf "zero" "Shrinker.zero" (defArgs (inClass (top 16) 3)) (defBody (inClass (top 16) 3)) (defScope (inClass (top 16) 3)) .none kV43 dc43 pm43 an43 cd43 ct43),sl43⟩) (c43:PySem.W.codeIn K cd43 "Shrinker.zero" = true) (k43:PySem.W.keepIn K (.ref f43)=true) (i43:PySem.W.isFn K (.ref f43)=true)
  (a44:PySem.W.findIn K (.ref CS) "one" = some (some (.ref f44))) (l44:K.lookup f44=some ⟨oc44,od44,.func (PySem.W.fnOf "one" "Shrinker.one" (defArgs (inClass (top 16) 4)) (defBody (inClass (top 16) 4)) (defScope (inClass (top 16) 4)) .none kV44 dc44 pm44 an44 cd44 ct44),sl44⟩) (c44:PySem.W.codeIn K cd44 "Shrinker.one" = true) (k44:PySem.W.keepIn K (.ref f44)=true) (i44:PySem.W.isFn K (.ref f44)=true)
  (a45:PySem.W.findIn K (.ref CS) "opposite" = some (some (.ref f45))) (l45:K.lookup f45=some ⟨oc45,od45,.func (PySem.W.fnOf "opposite" "Shrinker.opposite" (defArgs (inClass (top 16) 5)) (defBody (inClass (top 16) 5)) (defScope (inClass (top 16) 5)) .none kV45 dc45 pm45 an45 cd45 ct45),sl45⟩) (c45:PySem.W.codeIn K cd45 "Shrinker.opposite" = true) (k45:PySem.W.keepIn K (.ref f45)=true) (i45:PySem.W.isFn K (.ref f45)=true)
  (a46:PySem.W.findIn K (.ref CS) "is_zero" = some (some (.ref f46))) (l46:K.lookup f46=some ⟨oc46,od46,.func (PySem.W.fnOf "is_zero" "Shrinker.is_zero" (defArgs (inClass (top 16) 6)) (defBody (inClass (top 16) 6)) (defScope (inClass (top 16) 6)) .none kV46 dc46 pm46 an46 cd46 ct46),sl46⟩) (c46:PySem.W.codeIn K cd46 "Shrinker.is_zero" = true) (k46:PySem.W.keepIn K (.ref f46)=true) (i46:PySem.W.isFn K (.ref f46)=true)
  (a47:PySem.W.findIn K (.ref CS) "is_one" = some (some (.ref f47))) (l47:K.lookup f47=some ⟨oc47,od47,.func (PySem.W.fnOf "is_one" "Shrinker.is_one" (defArgs (inClass (top 16) 7)) (defBody (inClass (top 16) 7)) (defScope (inClass (top 16) 7)) .none kV47 dc47 pm47 an47 cd47 ct47),sl47⟩) (c47:PySem.W.codeIn K cd47 "Shrinker.is_one" = true) (k47:PySem.W.keepIn K (.ref f47)=true) (i47:PySem.W.isFn K (.ref f47)=true)
  (a48:PySem.W.findIn K (.ref CS) "are_opposed" = some (some (.ref f48))) (l48:K.lookup f48=some ⟨oc48,od48,.func (PySem.W.fnOf "are_opposed" "Shrinker.are_opposed" (defArgs (inClass (top 16) 8)) (defBody (inClass (top 16) 8)) (defScope (inClass (top 16) 8)) .none kV48 dc48 pm48 an48 cd48 ct48),sl48⟩) (c48:PySem.W.codeIn K cd48 "Shrinker.are_opposed" = true) (k48:PySem.W.keepIn K (.ref f48)=true) (i48:PySem.W.isFn K (.ref f48)=true)
  (pgN:PySem.W.plainGet K CN Str.empty=true) (hdN:PySem.W.hasDictIn K CN=true) (poN:PySem.W.plainOver K CN=true) (saN:PySem.W.findIn K (.ref CN) "__setattr__" = some (some (.builtin "object.__setattr__"))) (mkN:PySem.W.makesIn K CN=true) (kcN:PySem.W.keepIn K (.ref CN)=true)
  (nN_gates:PySem.W.findIn K (.ref CN) "gates" = some none)
  (nN_outs:PySem.W.findIn K (.ref CN) "outs" = some none)
  (pgS:PySem.W.plainGet K CS Str.empty=true) (hdS:PySem.W.hasDictIn K CS=true) (poS:PySem.W.plainOver K CS=true) (saS:PySem.W.findIn K (.ref CS) "__setattr__" = some (some (.builtin "object.__setattr__"))) (mkS:PySem.W.makesIn K CS=true) (kcS:PySem.W.keepIn K (.ref CS)=true)
  (nS_gates:PySem.W.findIn K (.ref CS) "gates" = some none)
  (nS_numbers:PySem.W.findIn K (.ref CS) "numbers" = some none)
  (z_len:PySem.W.nsIn K mainGlobals "len" = some none)
  (z_range:PySem.W.nsIn K mainGlobals "range" = some none)
  (z_int:PySem.W.nsIn K mainGlobals "int" = some none)
  (z_str:PySem.W.nsIn K mainGlobals "str" = some none)
  (z_isinstance:PySem.W.nsIn K mainGlobals "isinstance" = some none)
  (z_zip:PySem.W.nsIn K mainGlobals "zip" = some none)
  (z_list:PySem.W.nsIn K mainGlobals "list" = some none)
  (z_tuple:PySem.W.nsIn K mainGlobals "tuple" = some none)
  (z_bool:PySem.W.nsIn K mainGlobals "bool" = some none)
  (z_all:PySem.W.nsIn K mainGlobals "all" = some none)
  (z_enumerate:PySem.W.nsIn K mainGlobals "enumerate" = some none)
  (z_max:PySem.W.nsIn K mainGlobals "max" = some none)
  (z_min:PySem.W.nsIn K mainGlobals "min" = some none)
  (z_dict:PySem.W.nsIn K mainGlobals "dict" = some none)
  (xsg:PySem.W.specialIn K (.builtin "object.__class__") "__get__" = some (some (.builtin "getset_descriptor.__get__"))) (xtk:PySem.W.takesIn K (.builtin "object.__class__")=some true)
  (oclN:PySem.W.findIn K (.ref CN) "__class__" = some (some (.builtin "object.__class__"))) (omoN:PySem.W.mroIn K CN (.type "object")=some true) (owN:PySem.W.kitOne K (.ref CN) (.ref CN)=some true)
  {ff:Addr}{kvs:List (Key × V)} (aFC:PySem.W.nsIn K mainGlobals "FEED_COUNTS" = some (some (.ref ff)))
  (hKD:KD l.prog w K ff kvs)
  (hF:∀ w n,(w,n)∈FC→valV kvs (Sum.inr w)=some (.int n))
  {ra:Addr}{rkv:List (Key × V)} (aRU:PySem.W.nsIn K mainGlobals "RULES" = some (some (.ref ra)))
  (hKR:KD l.prog w K ra rkv)
  (hR_not:valV rkv (Sum.inr "not")=some (.ref f21))
  (hR_and:valV rkv (Sum.inr "and")=some (.ref f22))
  (hR_or:valV rkv (Sum.inr "or")=some (.ref f23))
  (hR_xor:valV rkv (Sum.inr "xor")=some (.ref f24))
  (hR_pick:valV rkv (Sum.inr "pick")=some (.ref f25))
  (ndR:[f21,f22,f23,f24,f25].Nodup)
  (hRN:∀ wo,wo ∉ RU→valV rkv (Sum.inr wo)=none) :
  ∃ fd:FuncData,(∀ (s:Shared) (v:Value),BindsTo s fd ⟨[v],[]⟩ [("_law_script",v)])∧∀ base:Heap,K.In base→base.Ns mainGlobals mg→FnOk l.prog w K mg base CX0 8 fa fd ["_law_script"] (spLaw K):=by
 have e:=hfa.symm.trans (PySem.W.mg_of X G a38)
 cases e
 have F0:=zabc (st:=top 4) l0 c0 k0
 have b0:=F0.binds (ps:=["thing"]) fun _ _ _ _ _ _ us hl=>match us,hl with | [_],_=>rfl
 have m0:=PySem.W.mg_of X G a0
 have F1:=zabc (st:=top 5) l1 c1 k1
 have b1:=F1.binds (ps:=["thing", "bound"]) fun _ _ _ _ _ _ us hl=>match us,hl with | [_,_],_=>rfl
 have m1:=PySem.W.mg_of X G a1
 have F2:=zabc (st:=top 6) l2 c2 k2
 have b2:=F2.binds (ps:=["thing"]) fun _ _ _ _ _ _ us hl=>match us,hl with | [_],_=>rfl
 have m2:=PySem.W.mg_of X G a2
 have F3:=zabc (st:=top 7) l3 c3 k3
 have b3:=F3.binds (ps:=["thing"]) fun _ _ _ _ _ _ us hl=>match us,hl with | [_],_=>rfl
 have m3:=PySem.W.mg_of X G a3
 have F4:=zabc (st:=top 10) l4 c4 k4
 have b4:=F4.binds (ps:=["thing", "ahead", "total"]) fun _ _ _ _ _ _ us hl=>match us,hl with | [_,_,_],_=>rfl
 have m4:=PySem.W.mg_of X G a4
 have F5:=zabc (st:=top 12) l5 c5 k5
 have b5:=F5.binds (ps:=["net"]) fun _ _ _ _ _ _ us hl=>match us,hl with | [_],_=>rfl
 have m5:=PySem.W.mg_of X G a5
 have F6:=zabc (st:=top 13) l6 c6 k6
 have b6:=F6.binds (ps:=["gate"]) fun _ _ _ _ _ _ us hl=>match us,hl with | [_],_=>rfl
 have m6:=PySem.W.mg_of X G a6
 have F7:=zabc (st:=top 17) l7 c7 k7
 have b7:=F7.binds (ps:=["shrinker", "gate"]) fun _ _ _ _ _ _ us hl=>match us,hl with | [_,_],_=>rfl
 have m7:=PySem.W.mg_of X G a7
 have F8:=zabc (st:=top 18) l8 c8 k8
 have b8:=F8.binds (ps:=["shrinker", "x"]) fun _ _ _ _ _ _ us hl=>match us,hl with | [_,_],_=>rfl
 have m8:=PySem.W.mg_of X G a8
 have F9:=zabc (st:=top 19) l9 c9 k9
 have b9:=F9.binds (ps:=["shrinker", "x", "y"]) fun _ _ _ _ _ _ us hl=>match us,hl with | [_,_,_],_=>rfl
 have m9:=PySem.W.mg_of X G a9
 have F10:=zabc (st:=top 20) l10 c10 k10
 have b10:=F10.binds (ps:=["shrinker", "x", "y"]) fun _ _ _ _ _ _ us hl=>match us,hl with | [_,_,_],_=>rfl
 have m10:=PySem.W.mg_of X G a10
 have F11:=zabc (st:=top 21) l11 c11 k11
 have b11:=F11.binds (ps:=["shrinker", "x", "y"]) fun _ _ _ _ _ _ us hl=>match us,hl with | [_,_,_],_=>rfl
 have m11:=PySem.W.mg_of X G a11
 have F12:=zabc (st:=top 22) l12 c12 k12
 have b12:=F12.binds (ps:=["shrinker", "x", "y", "z"]) fun _ _ _ _ _ _ us hl=>match us,hl with | [_,_,_,_],_=>rfl
 have m12:=PySem.W.mg_of X G a12
 have F13:=zabc (st:=top 23) l13 c13 k13
 have b13:=F13.binds (ps:=["shrinker", "gate", "feeds"]) fun _ _ _ _ _ _ us hl=>match us,hl with | [_,_,_],_=>rfl
 have m13:=PySem.W.mg_of X G a13
 have F14:=zabc (st:=top 24) l14 c14 k14
 have b14:=F14.binds (ps:=["net"]) fun _ _ _ _ _ _ us hl=>match us,hl with | [_],_=>rfl
 have m14:=PySem.W.mg_of X G a14
 have F15:=zabc (st:=top 25) l15 c15 k15
 have b15:=F15.binds (ps:=["gates", "outs"]) fun _ _ _ _ _ _ us hl=>match us,hl with | [_,_],_=>rfl
 have m15:=PySem.W.mg_of X G a15
 have F16:=zabc (st:=top 26) l16 c16 k16
 have b16:=F16.binds (ps:=["gate", "places"]) fun _ _ _ _ _ _ us hl=>match us,hl with | [_,_],_=>rfl
 have m16:=PySem.W.mg_of X G a16
 have F17:=zabc (st:=top 27) l17 c17 k17
 have b17:=F17.binds (ps:=["net"]) fun _ _ _ _ _ _ us hl=>match us,hl with | [_],_=>rfl
 have m17:=PySem.W.mg_of X G a17
 have F18:=zabc (st:=top 29) l18 c18 k18
 have b18:=F18.binds (ps:=["gates", "number"]) fun _ _ _ _ _ _ us hl=>match us,hl with | [_,_],_=>rfl
 have m18:=PySem.W.mg_of X G a18
 have F19:=zabc (st:=top 30) l19 c19 k19
 have b19:=F19.binds (ps:=["gates", "number"]) fun _ _ _ _ _ _ us hl=>match us,hl with | [_,_],_=>rfl
 have m19:=PySem.W.mg_of X G a19
 have F20:=zabc (st:=top 31) l20 c20 k20
 have b20:=F20.binds (ps:=["gates", "number", "other"]) fun _ _ _ _ _ _ us hl=>match us,hl with | [_,_,_],_=>rfl
 have m20:=PySem.W.mg_of X G a20
 have F21:=zabc (st:=top 32) l21 c21 k21
 have b21:=F21.binds (ps:=["gates", "why", "it", "feeds"]) fun _ _ _ _ _ _ us hl=>match us,hl with | [_,_,_,_],_=>rfl
 have m21:=PySem.W.mg_of X G a21
 have F22:=zabc (st:=top 33) l22 c22 k22
 have b22:=F22.binds (ps:=["gates", "why", "it", "feeds"]) fun _ _ _ _ _ _ us hl=>match us,hl with | [_,_,_,_],_=>rfl
 have m22:=PySem.W.mg_of X G a22
 have F23:=zabc (st:=top 34) l23 c23 k23
 have b23:=F23.binds (ps:=["gates", "why", "it", "feeds"]) fun _ _ _ _ _ _ us hl=>match us,hl with | [_,_,_,_],_=>rfl
 have m23:=PySem.W.mg_of X G a23
 have F24:=zabc (st:=top 35) l24 c24 k24
 have b24:=F24.binds (ps:=["gates", "why", "it", "feeds"]) fun _ _ _ _ _ _ us hl=>match us,hl with | [_,_,_,_],_=>rfl
 have m24:=PySem.W.mg_of X G a24
 have F25:=zabc (st:=top 36) l25 c25 k25
 have b25:=F25.binds (ps:=["gates", "why", "it", "feeds"]) fun _ _ _ _ _ _ us hl=>match us,hl with | [_,_,_,_],_=>rfl
 have m25:=PySem.W.mg_of X G a25
 have F26:=zabc (st:=top 38) l26 c26 k26
 have b26:=F26.binds (ps:=["gates", "gate", "it", "why", "feeds"]) fun _ _ _ _ _ _ us hl=>match us,hl with | [_,_,_,_,_],_=>rfl
 have m26:=PySem.W.mg_of X G a26
 have F27:=zabc (st:=top 39) l27 c27 k27
 have b27:=F27.binds (ps:=["small", "lost"]) fun _ _ _ _ _ _ us hl=>match us,hl with | [_,_],_=>rfl
 have m27:=PySem.W.mg_of X G a27
 have F28:=zabc (st:=top 40) l28 c28 k28
 have b28:=F28.binds (ps:=["pairs", "count", "total"]) fun _ _ _ _ _ _ us hl=>match us,hl with | [_,_,_],_=>rfl
 have m28:=PySem.W.mg_of X G a28
 have F29:=zabc (st:=top 41) l29 c29 k29
 have b29:=F29.binds (ps:=["net", "small", "pairs"]) fun _ _ _ _ _ _ us hl=>match us,hl with | [_,_,_],_=>rfl
 have m29:=PySem.W.mg_of X G a29
 have F30:=zabc (st:=top 42) l30 c30 k30
 have b30:=F30.binds (ps:=["net", "small", "pairs"]) fun _ _ _ _ _ _ us hl=>match us,hl with | [_,_,_],_=>rfl
 have m30:=PySem.W.mg_of X G a30
 have F31:=zabc (st:=top 43) l31 c31 k31
 have b31:=F31.binds (ps:=["net", "gates", "pairs"]) fun _ _ _ _ _ _ us hl=>match us,hl with | [_,_,_],_=>rfl
 have m31:=PySem.W.mg_of X G a31
 have F32:=zabc (st:=top 44) l32 c32 k32
 have b32:=F32.binds (ps:=["net", "small", "paper"]) fun _ _ _ _ _ _ us hl=>match us,hl with | [_,_,_],_=>rfl
 have m32:=PySem.W.mg_of X G a32
 have F33:=zabc (st:=top 46) l33 c33 k33
 have b33:=F33.binds (ps:=["_law_script", "_law_at"]) fun _ _ _ _ _ _ us hl=>match us,hl with | [_,_],_=>rfl
 have m33:=PySem.W.mg_of X G a33
 have F34:=zabc (st:=top 47) l34 c34 k34
 have b34:=F34.binds (ps:=["_law_script", "_law_at", "_law_ins", "_law_keeps", "_law_many"]) fun _ _ _ _ _ _ us hl=>match us,hl with | [_,_,_,_,_],_=>rfl
 have m34:=PySem.W.mg_of X G a34
 have F35:=zabc (st:=top 48) l35 c35 k35
 have b35:=F35.binds (ps:=["_law_found", "_law_due"]) fun _ _ _ _ _ _ us hl=>match us,hl with | [_,_],_=>rfl
 have m35:=PySem.W.mg_of X G a35
 have F36:=zabc (st:=top 49) l36 c36 k36
 have b36:=F36.binds (ps:=["_law_script", "_law_at"]) fun _ _ _ _ _ _ us hl=>match us,hl with | [_,_],_=>rfl
 have m36:=PySem.W.mg_of X G a36
 have F37:=zabc (st:=top 50) l37 c37 k37
 have b37:=F37.binds (ps:=["_law_paper", "_law_many"]) fun _ _ _ _ _ _ us hl=>match us,hl with | [_,_],_=>rfl
 have m37:=PySem.W.mg_of X G a37
 have F38:=zabc (st:=top 51) l38 c38 k38
 have F39:=zabc (st:=inClass (top 11) 0) l39 c39 k39
 have b39:=F39.binds (ps:=["self", "gates", "outs"]) fun _ _ _ _ _ _ us hl=>match us,hl with | [_,_,_],_=>rfl
 have F40:=zabc (st:=inClass (top 16) 0) l40 c40 k40
 have b40:=F40.binds (ps:=["self"]) fun _ _ _ _ _ _ us hl=>match us,hl with | [_],_=>rfl
 have F41:=zabc (st:=inClass (top 16) 1) l41 c41 k41
 have b41:=F41.binds (ps:=["self", "gate"]) fun _ _ _ _ _ _ us hl=>match us,hl with | [_,_],_=>rfl
 have F42:=zabc (st:=inClass (top 16) 2) l42 c42 k42
 have b42:=F42.binds (ps:=["self", "gate"]) fun _ _ _ _ _ _ us hl=>match us,hl with | [_,_],_=>rfl
 have F43:=zabc (st:=inClass (top 16) 3) l43 c43 k43
 have b43:=F43.binds (ps:=["self"]) fun _ _ _ _ _ _ us hl=>match us,hl with | [_],_=>rfl
 have F44:=zabc (st:=inClass (top 16) 4) l44 c44 k44
 have b44:=F44.binds (ps:=["self"]) fun _ _ _ _ _ _ us hl=>match us,hl with | [_],_=>rfl
 have F45:=zabc (st:=inClass (top 16) 5) l45 c45 k45
 have b45:=F45.binds (ps:=["self", "number"]) fun _ _ _ _ _ _ us hl=>match us,hl with | [_,_],_=>rfl
 have F46:=zabc (st:=inClass (top 16) 6) l46 c46 k46
 have b46:=F46.binds (ps:=["self", "number"]) fun _ _ _ _ _ _ us hl=>match us,hl with | [_,_],_=>rfl
 have F47:=zabc (st:=inClass (top 16) 7) l47 c47 k47
 have b47:=F47.binds (ps:=["self", "number"]) fun _ _ _ _ _ _ us hl=>match us,hl with | [_,_],_=>rfl
 have F48:=zabc (st:=inClass (top 16) 8) l48 c48 k48
 have b48:=F48.binds (ps:=["self", "number", "other"]) fun _ _ _ _ _ _ us hl=>match us,hl with | [_,_,_],_=>rfl
 have z_len:=PySem.W.mg_none_of X G z_len
 have z_range:=PySem.W.mg_none_of X G z_range
 have z_int:=PySem.W.mg_none_of X G z_int
 have z_str:=PySem.W.mg_none_of X G z_str
 have z_isinstance:=PySem.W.mg_none_of X G z_isinstance
 have z_zip:=PySem.W.mg_none_of X G z_zip
 have z_list:=PySem.W.mg_none_of X G z_list
 have z_tuple:=PySem.W.mg_none_of X G z_tuple
 have z_bool:=PySem.W.mg_none_of X G z_bool
 have z_all:=PySem.W.mg_none_of X G z_all
 have z_enumerate:=PySem.W.mg_none_of X G z_enumerate
 have z_max:=PySem.W.mg_none_of X G z_max
 have z_min:=PySem.W.mg_none_of X G z_min
 have z_dict:=PySem.W.mg_none_of X G z_dict
 have mN:=PySem.W.mg_of X G aN
 have clN:Cls K CN:=⟨pgN,hdN,poN,saN⟩
 have mS:=PySem.W.mg_of X G aS
 have clS:Cls K CS:=⟨pgS,hdS,poS,saS⟩
 have m_TWO_SIDED:=PySem.W.mg_of X G aSTWO_SIDED
 refine ⟨PySem.W.fnOf "law" "law" (defArgs (top 51)) (defBody (top 51)) (defScope (top 51)) .none kV38 dc38 pm38 an38 cd38 ct38,fun s v=>.of_eq rfl,fun base _ _=>?_⟩
 have m_FEED_COUNTS:=PySem.W.mg_of X G aFC
 have m_RULES:=PySem.W.mg_of X G aRU
 have two:∀ H,SqT K H STWO_SIDED [.str "and",.str "or",.str "xor"]:=fun H=>.inr ⟨_,_,_,lSTWO_SIDED,rfl,rfl,(by show 3≤sizeLine; rw [sizeLine_eq]; decide),.cons ⟨_,rfl⟩ (.cons ⟨_,rfl⟩ (.cons ⟨_,rfl⟩ .nil))⟩
 have D_is_whole_1:DefOk l.prog w K mg base CX0 1 "is_whole" ["thing"] spWhole:=⟨f0,_,zaow (k:=0) F0 z_isinstance z_int z_bool,b0,k0,m0⟩
 have D_is_below_2:DefOk l.prog w K mg base CX0 2 "is_below" ["thing", "bound"] spBelow:=⟨f1,_,zaox (k:=1) F1 D_is_whole_1,b1,k1,m1⟩
 have D_is_gate_3:DefOk l.prog w K mg base CX0 3 "is_gate" ["thing", "ahead", "total"] spGate:=⟨f4,_,zarg (k:=2) F4 D_is_below_2 m_FEED_COUNTS hKD hF z_isinstance z_tuple z_str z_len z_all,b4,k4,m4⟩
 have MkN:MakeOk l.prog w K mg base CX0 4 CN "Net" ["self", "gates", "outs"] (spNet CN):=⟨⟨f39,_,zaty (k:=3) F39 clN nN_gates nN_outs D_is_gate_3 (D_is_below_2.mono (by omega)) z_enumerate z_len z_tuple,b39,⟨mkN,a39,i39,kcN⟩,mN⟩⟩
 have D_is_listed_1:DefOk l.prog w K mg base CX0 1 "is_listed" ["thing"] spListed:=⟨f2,_,zaml (k:=0) F2 z_isinstance z_list z_tuple,b2,k2,m2⟩
 have D_is_pair_2:DefOk l.prog w K mg base CX0 2 "is_pair" ["thing"] spPair:=⟨f3,_,zar2 (k:=1) F3 D_is_listed_1 z_len,b3,k3,m3⟩
 have D_ins_of_1:DefOk l.prog w K mg base CX0 1 "ins_of" ["net"] (spIns CN):=⟨f5,_,zamq (k:=0) F5 clN nN_gates z_enumerate,b5,k5,m5⟩
 have D_feeds_of_1:DefOk l.prog w K mg base CX0 1 "feeds_of" ["gate"] spFeeds:=⟨f6,_,zaoy (k:=0) F6 z_list,b6,k6,m6⟩
 have MkS:MakeOk l.prog w K mg base CX0 1 CS "Shrinker" ["self"] (spShr CS):=⟨⟨f40,_,zat2 (k:=0) F40 clS nS_gates nS_numbers,b40,⟨mkS,a40,i40,kcS⟩,mS⟩⟩
 have M1:MethOk l.prog w K mg base CX0 1 CS "lay" ["self", "gate"] (spLay CS):=⟨clS,f41,_,zat3 (k:=0) F41 clS nS_gates z_len,b41,⟨a41,i41,k41⟩⟩
 have M2:MethOk l.prog w K mg base CX0 2 CS "gate_like" ["self", "gate"] (spLike CS):=⟨clS,f42,_,zarm (k:=1) F42 clS nS_numbers M1 m_TWO_SIDED two z_min z_max,b42,⟨a42,i42,k42⟩⟩
 have M3:MethOk l.prog w K mg base CX0 3 CS "zero" ["self"] (spCon CS .zero):=⟨clS,f43,_,zarn (k:=2) F43 clS M2,b43,⟨a43,i43,k43⟩⟩
 have M4:MethOk l.prog w K mg base CX0 3 CS "one" ["self"] (spCon CS .one):=⟨clS,f44,_,zat4 (k:=2) F44 clS M2,b44,⟨a44,i44,k44⟩⟩
 have M5:MethOk l.prog w K mg base CX0 3 CS "opposite" ["self", "number"] (spOpp CS):=⟨clS,f45,_,zat5 (k:=2) F45 clS nS_gates M2,b45,⟨a45,i45,k45⟩⟩
 have M6:MethOk l.prog w K mg base CX0 1 CS "is_zero" ["self", "number"] (spIs CS isZ):=⟨clS,f46,_,zat6 (k:=0) F46 clS nS_gates,b46,⟨a46,i46,k46⟩⟩
 have M7:MethOk l.prog w K mg base CX0 1 CS "is_one" ["self", "number"] (spIs CS isO):=⟨clS,f47,_,zat7 (k:=0) F47 clS nS_gates,b47,⟨a47,i47,k47⟩⟩
 have M8:MethOk l.prog w K mg base CX0 1 CS "are_opposed" ["self", "number", "other"] (spOp2 CS):=⟨clS,f48,_,zat8 (k:=0) F48 clS nS_gates,b48,⟨a48,i48,k48⟩⟩
 have D_plain_pair_3:DefOk l.prog w K mg base CX0 3 "plain_pair" ["shrinker", "gate"] (spPl CS):=⟨f7,_,zavb (k:=2) F7 clS nS_gates M2,b7,k7,m7⟩
 have D_not_pair_4:DefOk l.prog w K mg base CX0 4 "not_pair" ["shrinker", "x"] (spNotP CS):=⟨f8,_,zarp (k:=3) F8 clS nS_gates (M6.mono (by omega)) (M7.mono (by omega)) M3 M4 M5 D_plain_pair_3,b8,k8,m8⟩
 have D_and_pair_4:DefOk l.prog w K mg base CX0 4 "and_pair" ["shrinker", "x", "y"] (spAndP CS):=⟨f9,_,zarq (k:=3) F9 clS (M6.mono (by omega)) (M7.mono (by omega)) M3 (M8.mono (by omega)) D_plain_pair_3,b9,k9,m9⟩
 have D_or_pair_4:DefOk l.prog w K mg base CX0 4 "or_pair" ["shrinker", "x", "y"] (spOrP CS):=⟨f10,_,zat9 (k:=3) F10 clS (M6.mono (by omega)) (M7.mono (by omega)) M4 (M8.mono (by omega)) D_plain_pair_3,b10,k10,m10⟩
 have D_xor_pair_4:DefOk l.prog w K mg base CX0 4 "xor_pair" ["shrinker", "x", "y"] (spXorP CS):=⟨f11,_,zarr (k:=3) F11 clS (M6.mono (by omega)) (M7.mono (by omega)) M3 M4 (M8.mono (by omega)) M5 D_plain_pair_3,b11,k11,m11⟩
 have D_pick_pair_4:DefOk l.prog w K mg base CX0 4 "pick_pair" ["shrinker", "x", "y", "z"] (spPickP CS):=⟨f12,_,zao4 (k:=3) F12 clS (M6.mono (by omega)) (M7.mono (by omega)) M5 D_plain_pair_3,b12,k12,m12⟩
 have D_gate_pair_5:DefOk l.prog w K mg base CX0 5 "gate_pair" ["shrinker", "gate", "feeds"] (spGp CS):=⟨f13,_,zavc (k:=4) F13 D_not_pair_4 D_and_pair_4 D_or_pair_4 D_xor_pair_4 D_pick_pair_4 (D_plain_pair_3.mono (by omega)),b13,k13,m13⟩
 have D_shrunk_6:DefOk l.prog w K mg base CX0 6 "shrunk" ["net"] (spShk CN):=⟨f14,_,zaua (k:=4) F14 clN nN_gates clS nS_gates (MkS.mono (by omega)) (M1.mono (by omega)) D_gate_pair_5 (D_feeds_of_1.mono (by omega)) z_zip,b14,k14,m14⟩
 have D_wanted_of_2:DefOk l.prog w K mg base CX0 2 "wanted_of" ["gates", "outs"] spWan:=⟨f15,_,zaub (k:=1) F15 D_feeds_of_1 z_enumerate z_list z_len,b15,k15,m15⟩
 have D_renumbered_2:DefOk l.prog w K mg base CX0 2 "renumbered" ["gate", "places"] spRen:=⟨f16,_,zaud (k:=1) F16 D_feeds_of_1 z_tuple,b16,k16,m16⟩
 have D_made_small_7:DefOk l.prog w K mg base CX0 7 "made_small" ["net"] (spMad CN):=⟨f17,_,zaue (k:=5) F17 clN nN_gates nN_outs (MkN.mono (by omega)) D_shrunk_6 (D_wanted_of_2.mono (by omega)) (D_renumbered_2.mono (by omega)) z_range z_len z_enumerate,b17,k17,m17⟩
 have D_is_zero_1:DefOk l.prog w K mg base CX0 1 "is_zero" ["gates", "number"] (spIsG isZ):=⟨f18,_,zala (k:=0) F18,b18,k18,m18⟩
 have D_is_one_1:DefOk l.prog w K mg base CX0 1 "is_one" ["gates", "number"] (spIsG isO):=⟨f19,_,zanh (k:=0) F19,b19,k19,m19⟩
 have D_are_opposed_1:DefOk l.prog w K mg base CX0 1 "are_opposed" ["gates", "number", "other"] spOpG:=⟨f20,_,zauf (k:=0) F20,b20,k20,m20⟩
 simp only [List.nodup_cons,List.mem_cons,List.not_mem_nil,or_false,not_or,not_false_eq_true,List.nodup_nil,and_true] at ndR
 obtain ⟨⟨n1,n2,n3,n4⟩,⟨n5,n6,n7⟩,⟨n8,n9⟩,n10⟩:=ndR
 have s_not:(spt5 f21 f22 f23 f24) f21=spRu "not" := by unfold spt5; rw [if_pos rfl]
 have t_not:∃ fd:FuncData,FnOk l.prog w K mg base CX0 2 f21 fd ["gates", "why", "it", "feeds"] ((spt5 f21 f22 f23 f24) f21)∧Binds K fd ["gates", "why", "it", "feeds"] []∧PySem.W.keepIn K (.ref f21)=true:=⟨_,by rw [s_not]; exact (zarz (k:=1) F21 D_is_zero_1 D_is_one_1 D_are_opposed_1).imp zaup,b21,k21⟩
 have s_and:(spt5 f21 f22 f23 f24) f22=spRu "and" := by unfold spt5; rw [if_neg (Ne.symm n1),if_pos rfl]
 have t_and:∃ fd:FuncData,FnOk l.prog w K mg base CX0 2 f22 fd ["gates", "why", "it", "feeds"] ((spt5 f21 f22 f23 f24) f22)∧Binds K fd ["gates", "why", "it", "feeds"] []∧PySem.W.keepIn K (.ref f22)=true:=⟨_,by rw [s_and]; exact (zar0 (k:=1) F22 D_is_zero_1 D_is_one_1 D_are_opposed_1).imp zauq,b22,k22⟩
 have s_or:(spt5 f21 f22 f23 f24) f23=spRu "or" := by unfold spt5; rw [if_neg (Ne.symm n2),if_neg (Ne.symm n5),if_pos rfl]
 have t_or:∃ fd:FuncData,FnOk l.prog w K mg base CX0 2 f23 fd ["gates", "why", "it", "feeds"] ((spt5 f21 f22 f23 f24) f23)∧Binds K fd ["gates", "why", "it", "feeds"] []∧PySem.W.keepIn K (.ref f23)=true:=⟨_,by rw [s_or]; exact (zaug (k:=1) F23 D_is_zero_1 D_is_one_1 D_are_opposed_1).imp zavp,b23,k23⟩
 have s_xor:(spt5 f21 f22 f23 f24) f24=spRu "xor" := by unfold spt5; rw [if_neg (Ne.symm n3),if_neg (Ne.symm n6),if_neg (Ne.symm n8),if_pos rfl]
 have t_xor:∃ fd:FuncData,FnOk l.prog w K mg base CX0 2 f24 fd ["gates", "why", "it", "feeds"] ((spt5 f21 f22 f23 f24) f24)∧Binds K fd ["gates", "why", "it", "feeds"] []∧PySem.W.keepIn K (.ref f24)=true:=⟨_,by rw [s_xor]; exact (zar1 (k:=1) F24 D_is_zero_1 D_is_one_1 D_are_opposed_1).imp zaur,b24,k24⟩
 have s_pick:(spt5 f21 f22 f23 f24) f25=spRu "pick" := by unfold spt5; rw [if_neg (Ne.symm n4),if_neg (Ne.symm n7),if_neg (Ne.symm n9),if_neg (Ne.symm n10)]
 have t_pick:∃ fd:FuncData,FnOk l.prog w K mg base CX0 2 f25 fd ["gates", "why", "it", "feeds"] ((spt5 f21 f22 f23 f24) f25)∧Binds K fd ["gates", "why", "it", "feeds"] []∧PySem.W.keepIn K (.ref f25)=true:=⟨_,by rw [s_pick]; exact (zao9 (k:=1) F25 D_is_zero_1 D_is_one_1 D_are_opposed_1).imp zask,b25,k25⟩
 have TT:TabOk l.prog w K mg base CX0 2 ["gates", "why", "it", "feeds"] (spt5 f21 f22 f23 f24) (fun f=>f=f21∨f=f22∨f=f23∨f=f24∨f=f25):=⟨fun f hf=>by
  rcases hf with h | h | h | h | h <;> rw [h]
  ·exact t_not
  ·exact t_and
  ·exact t_or
  ·exact t_xor
  ·exact t_pick⟩
 have hT:∀ wo∈RU,∃ f,valV rkv (.inr wo)=some (.ref f)∧(f=f21∨f=f22∨f=f23∨f=f24∨f=f25)∧(spt5 f21 f22 f23 f24) f=spRu wo:=fun wo hm=>by
  simp only [RU,List.mem_cons,List.not_mem_nil,or_false] at hm
  rcases hm with rfl | rfl | rfl | rfl | rfl
  ·exact ⟨_,hR_not,.inl rfl,s_not⟩
  ·exact ⟨_,hR_and,.inr (.inl rfl),s_and⟩
  ·exact ⟨_,hR_or,.inr (.inr (.inl rfl)),s_or⟩
  ·exact ⟨_,hR_xor,.inr (.inr (.inr (.inl rfl))),s_xor⟩
  ·exact ⟨_,hR_pick,.inr (.inr (.inr (.inr rfl))),s_pick⟩
 have D_pair_holds_3:DefOk l.prog w K mg base CX0 3 "pair_holds" ["gates", "gate", "it", "why", "feeds"] spPH:=⟨f26,_,zave (k:=2) F26 TT m_RULES hKR hT hRN z_tuple,b26,k26,m26⟩
 have D_with_lost_4:DefOk l.prog w K mg base CX0 4 "with_lost" ["small", "lost"] (spWL CN):=⟨f27,_,zavf (k:=3) F27 clN nN_gates (D_is_listed_1.mono (by omega)) D_is_gate_3 z_len z_list z_tuple,b27,k27,m27⟩
 have D_are_pairs_3:DefOk l.prog w K mg base CX0 3 "are_pairs" ["pairs", "count", "total"] spAP:=⟨f28,_,zavg (k:=2) F28 (D_is_listed_1.mono (by omega)) D_is_pair_2 D_is_below_2 z_len,b28,k28,m28⟩
 have D_ins_hold_2:DefOk l.prog w K mg base CX0 2 "ins_hold" ["net", "small", "pairs"] (spIH CN):=⟨f29,_,zavh (k:=1) F29 D_ins_of_1 z_len z_zip z_tuple,b29,k29,m29⟩
 have D_outs_hold_1:DefOk l.prog w K mg base CX0 1 "outs_hold" ["net", "small", "pairs"] (spOH CN):=⟨f30,_,zavi (k:=0) F30 clN nN_outs z_len z_zip,b30,k30,m30⟩
 have D_gates_hold_4:DefOk l.prog w K mg base CX0 4 "gates_hold" ["net", "gates", "pairs"] (spGH CN):=⟨f31,_,zavj (k:=3) F31 clN nN_gates (D_feeds_of_1.mono (by omega)) D_pair_holds_3 z_zip,b31,k31,m31⟩
 have D_small_holds_5:DefOk l.prog w K mg base CX0 5 "small_holds" ["net", "small", "paper"] (spSH CN):=⟨f32,_,zavk (k:=4) F32 clN nN_gates (D_is_pair_2.mono (by omega)) D_with_lost_4 (D_are_pairs_3.mono (by omega)) (D_ins_hold_2.mono (by omega)) (D_outs_hold_1.mono (by omega)) D_gates_hold_4 z_len,b32,k32,m32⟩
 have D__law_next_1:DefOk l.prog w K mg base CX0 1 "_law_next" ["_law_script", "_law_at"] (spNext K):=⟨f33,_,zarh (k:=0) F33 z_len z_range,b33,k33,m33⟩
 have D__law_net_2:DefOk l.prog w K mg base CX0 2 "_law_net" ["_law_script", "_law_at", "_law_ins", "_law_keeps", "_law_many"] (spLNet K):=⟨f34,_,zari (k:=1) F34 D__law_next_1 z_len z_range z_max z_min z_tuple,b34,k34,m34⟩
 have D__law_drawn_3:DefOk l.prog w K mg base CX0 3 "_law_drawn" ["_law_script", "_law_at"] (spDr K):=⟨f36,_,zau9 (k:=2) F36 (D__law_next_1.mono (by omega)) D__law_net_2 z_len z_range,b36,k36,m36⟩
 have D0__law_same_1:DefOk l.prog w K mg base CX0 1 "_law_same" ["_law_found", "_law_due"] (spSame 0):=⟨f35,_,zape (k:=0) F35,b35,k35,m35⟩
 have D1__law_same_2:DefOk l.prog w K mg base CX0 2 "_law_same" ["_law_found", "_law_due"] (spSame 1):=⟨f35,_,zaf5 (k:=1) 0 F35 D0__law_same_1 z_isinstance z_dict z_list z_tuple z_str z_int z_bool z_len z_all z_zip,b35,k35,m35⟩
 have D2__law_same_3:DefOk l.prog w K mg base CX0 3 "_law_same" ["_law_found", "_law_due"] (spSame 2):=⟨f35,_,zaf5 (k:=2) 1 F35 D1__law_same_2 z_isinstance z_dict z_list z_tuple z_str z_int z_bool z_len z_all z_zip,b35,k35,m35⟩
 have D3__law_same_4:DefOk l.prog w K mg base CX0 4 "_law_same" ["_law_found", "_law_due"] (spSame 3):=⟨f35,_,zaf5 (k:=3) 2 F35 D2__law_same_3 z_isinstance z_dict z_list z_tuple z_str z_int z_bool z_len z_all z_zip,b35,k35,m35⟩
 have D4__law_same_5:DefOk l.prog w K mg base CX0 5 "_law_same" ["_law_found", "_law_due"] (spSame 4):=⟨f35,_,zaf5 (k:=4) 3 F35 D3__law_same_4 z_isinstance z_dict z_list z_tuple z_str z_int z_bool z_len z_all z_zip,b35,k35,m35⟩
 have D5__law_same_6:DefOk l.prog w K mg base CX0 6 "_law_same" ["_law_found", "_law_due"] (spSame 5):=⟨f35,_,zaf5 (k:=5) 4 F35 D4__law_same_5 z_isinstance z_dict z_list z_tuple z_str z_int z_bool z_len z_all z_zip,b35,k35,m35⟩
 have D__law_formed_1:DefOk l.prog w K mg base CX0 1 "_law_formed" ["_law_paper", "_law_many"] spFo:=⟨f37,_,zavo (k:=0) F37 z_isinstance z_tuple z_list z_str z_len z_all,b37,k37,m37⟩
 exact zauo (k:=6) F38 clN nN_gates nN_outs (MkN.mono (by omega)) (D__law_drawn_3.mono (by omega)) D_made_small_7 (D__law_formed_1.mono (by omega)) (D_small_holds_5.mono (by omega)) (D5__law_same_6.mono (by omega)) z_list z_len z_isinstance z_tuple mN oclN xsg xtk omoN owN
end

end B17
namespace B17
open PySem L2
def XS:List (Str × Tok × Value):=[("in",265,.int 0 266),("zero",267,.int 0 268),("one",269,.int 0 270),("not",271,.int 1 272),("and",273,.int 2 274),("or",275,.int 2 276),("xor",277,.int 2 278),("pick",279,.int 3 280)]
def VS:List V:=[.int 0,.int 0,.int 0,.int 1,.int 2,.int 2,.int 2,.int 3]
def KVS:List (Key × V):=(XS.map fun x=>(Sum.inr x.1:Key)).zip VS
theorem zavq:(XS.map (·.1)).Nodup:=by decide +kernel
theorem zasl:Vals VS (XS.map (·.2.2)):=.cons ⟨_,rfl⟩ (.cons ⟨_,rfl⟩ (.cons ⟨_,rfl⟩ (.cons ⟨_,rfl⟩ (.cons ⟨_,rfl⟩ (.cons ⟨_,rfl⟩ (.cons ⟨_,rfl⟩ (.cons ⟨_,rfl⟩ (.nil))))))))
theorem zapg {P:Program}{w:World}{K:PySem.W.Frag}{ff:Addr}{od:Option Addr}{ep:Nat}{sl:Array (Option Value)}{es:Array DictEntry} (l:K.lookup ff=some ⟨.type "dict",od,.dict es ep,sl⟩) (he:es.toList=XS.map (ent w))
  (hx:(⟨.type "dict",od,.dict es ep,sl⟩:Obj).ExactDict) (ns:(ff == sysModules)=false):KD P w K ff KVS:=zats XS VS l he hx ns zavq zasl
theorem zasm:∀ w n,(w,n)∈FC→valV KVS (Sum.inr w)=some (.int n):=by
 intro w n h
 simp only [FC,List.mem_cons,List.not_mem_nil,or_false,Prod.mk.injEq] at h
 rcases h with ⟨rfl,rfl⟩ | ⟨rfl,rfl⟩ | ⟨rfl,rfl⟩ | ⟨rfl,rfl⟩ | ⟨rfl,rfl⟩ | ⟨rfl,rfl⟩ | ⟨rfl,rfl⟩ | ⟨rfl,rfl⟩ <;> rfl
def XR:List (Str × Tok × Value):=[("not",622,.ref 290),("and",623,.ref 297),("or",624,.ref 304),("xor",625,.ref 311),("pick",626,.ref 318)]
def VR:List V:=[.ref 290,.ref 297,.ref 304,.ref 311,.ref 318]
def KVR:List (Key × V):=(XR.map fun x=>(Sum.inr x.1:Key)).zip VR
theorem rkd {P:Program}{w:World}{K:PySem.W.Frag}{ff:Addr}{od:Option Addr}{ep:Nat}{sl:Array (Option Value)}{es:Array DictEntry} (l:K.lookup ff=some ⟨.type "dict",od,.dict es ep,sl⟩) (he:es.toList=XR.map (ent w))
  (hx:(⟨.type "dict",od,.dict es ep,sl⟩:Obj).ExactDict) (ns:(ff == sysModules)=false):KD P w K ff KVR:=zats XR VR l he hx ns (by decide +kernel) (.cons rfl (.cons rfl (.cons rfl (.cons rfl (.cons rfl (.nil))))))
theorem zaut:valV KVR (Sum.inr "not")=some (.ref 290):=by decide +kernel
theorem zauu:valV KVR (Sum.inr "and")=some (.ref 297):=by decide +kernel
theorem zavr:valV KVR (Sum.inr "or")=some (.ref 304):=by decide +kernel
theorem zauv:valV KVR (Sum.inr "xor")=some (.ref 311):=by decide +kernel
theorem zasn:valV KVR (Sum.inr "pick")=some (.ref 318):=by decide +kernel
theorem zavs:([290,297,304,311,318]:List Addr).Nodup:=by decide +kernel
theorem zavt:∀ wo,wo ∉ RU→valV KVR (Sum.inr wo)=none:=fun wo h=>by
 simp only [RU,List.mem_cons,List.not_mem_nil,or_false,not_or] at h
 obtain ⟨h1,h2,h3,h4,h5⟩:=h
 simp [KVR,XR,VR,valV,List.zip,List.zipWith,Ne.symm h1,Ne.symm h2,Ne.symm h3,Ne.symm h4,Ne.symm h5,h1,h2,h3,h4,h5]
end B17
open PySem PySem.W PyProof.Rows
theorem PySem.W.Fast.tw4877162433047202127:True:=trivial
theorem PySem.W.Fast.tw12669131931256450045:True:=trivial
theorem PySem.W.Fast.tw3142146158637696344:True:=trivial
theorem PySem.W.Fast.tw17370052190916610424:True:=trivial
theorem PySem.W.Fast.tw5981181087062541368:True:=trivial
theorem PySem.W.Fast.tw11980387524599955479:True:=trivial
theorem PySem.W.Fast.tw7045848193706998530:True:=trivial
theorem PySem.W.Fast.tw12659927095672038886:True:=trivial
theorem PySem.W.Fast.tw17273450258817443230:True:=trivial
theorem PySem.W.Fast.tw10619286939786636967:True:=trivial
theorem PySem.W.Fast.tw11029346560132609485:True:=trivial
theorem PySem.W.Fast.tw14257675621869393493:True:=trivial
theorem PySem.W.Fast.tw17638296025393255729:True:=trivial
theorem PySem.W.Fast.tw10447375393218619487:True:=trivial
theorem PySem.W.Fast.tw7129580664915288799:True:=trivial
theorem PySem.W.Fast.tw3294924249972220214:True:=trivial
theorem PySem.W.Fast.tw8506187986543372412:True:=trivial
theorem PySem.W.Fast.tw16068497933100179007:True:=trivial
theorem PySem.W.Fast.tw8379025542780975105:True:=trivial
theorem PySem.W.Fast.tw2615617690853394594:True:=trivial
theorem PySem.W.Fast.tw1810848437341797398:True:=trivial
theorem PySem.W.Fast.tw9492122168404400488:True:=trivial
theorem PySem.W.Fast.tw8039708687335584994:True:=trivial
theorem PySem.W.Fast.tw10559200127907649953:True:=trivial
theorem PySem.W.Fast.tw7073265058649791375:True:=trivial
theorem PySem.W.Fast.tw2889246921868996724:True:=trivial
theorem PySem.W.Fast.tw4579270117318549972:True:=trivial
theorem PySem.W.Fast.tw8962453895779325896:True:=trivial
theorem PySem.W.Fast.tw6452758846893912658:True:=trivial
theorem PySem.W.Fast.tw52564526433954248:True:=trivial
theorem PySem.W.Fast.tw14628236169899584334:True:=trivial
theorem PySem.W.Fast.tw12900965894094335502:True:=trivial
theorem PySem.W.Fast.tw6132112349368447147:True:=trivial
theorem PySem.W.Fast.tw9652722206237036784:True:=trivial
theorem PySem.W.Fast.tw12022528418629538465:True:=trivial
theorem PySem.W.Fast.tw16646228769935046392:True:=trivial
theorem PySem.W.Fast.tw16500577211584352760:True:=trivial
theorem PySem.W.Fast.tw5657768569606701357:True:=trivial
theorem PySem.W.Fast.tw7546323432326586906:True:=trivial
theorem PySem.W.Fast.tw16430064576367217416:True:=trivial
theorem PySem.W.Fast.tw3210486972371414135:True:=trivial
theorem PySem.W.Fast.tw15598334631270880784:True:=trivial
theorem PySem.W.Fast.tw18072750038027624800:True:=trivial
theorem PySem.W.Fast.tw10153398042846629577:True:=trivial
theorem PySem.W.Fast.tw7276603711170775802:True:=trivial
theorem PySem.W.Fast.tw15349951239332315840:True:=trivial
theorem PySem.W.Fast.tw2569693845842051805:True:=trivial
theorem PySem.W.Fast.tw6767110754602227317:True:=trivial
theorem PySem.W.Fast.tw15153619187802875900:True:=trivial
theorem PySem.W.Fast.tw2346552653325401986:True:=trivial
theorem PySem.W.Fast.tw9866290892182186121:True:=trivial
theorem PySem.W.Fast.tw13080973159894431208:True:=trivial
theorem PySem.W.Fast.tw6121173040761899452:True:=trivial
theorem PySem.W.Fast.tw7389540255913175649:True:=trivial
theorem PySem.W.Fast.tw11068945402475466498:True:=trivial
theorem PySem.W.Fast.tw14886432275661568517:True:=trivial
theorem PySem.W.Fast.tw8383750532092170793:True:=trivial
theorem PySem.W.Fast.tw2165878166363251459:True:=trivial
theorem PySem.W.Fast.tw3230760803237683266:True:=trivial
theorem PySem.W.Fast.tw2145223846962960757:True:=trivial
theorem PySem.W.Fast.tw14373466669136772333:True:=trivial
theorem PySem.W.Fast.tw4106266778707738825:True:=trivial
theorem PySem.W.Fast.tw3693952628317523790:True:=trivial
theorem PySem.W.Fast.tw6860611486811294061:True:=trivial
theorem PySem.W.Fast.tw6427677070735608991:True:=trivial
theorem PySem.W.Fast.tw16249619259808451009:True:=trivial
theorem PySem.W.Fast.tw504979477362500232:True:=trivial
theorem PySem.W.Fast.tw8108459727766152183:True:=trivial
theorem PySem.W.Fast.tw11792927461057587353:True:=trivial
theorem PySem.W.Fast.tw10154208592832239571:True:=trivial
theorem PySem.W.Fast.tw17055235762245250237:True:=trivial
theorem PySem.W.Fast.tw4932201167778097335:True:=trivial
theorem PySem.W.Fast.tw4156599902276019807:True:=trivial
theorem PySem.W.Fast.tw1144914898649063571:True:=trivial
theorem PySem.W.Fast.tw12309396864357141885:True:=trivial
theorem PySem.W.Fast.tw9132781487403014133:True:=trivial
theorem PySem.W.Fast.tw14222674348781717569:True:=trivial
theorem PySem.W.Fast.tw5826267459457538054:True:=trivial
theorem PySem.W.Fast.tw2396169561779583523:True:=trivial
theorem PySem.W.Fast.tw13629776398952029733:True:=trivial
theorem PySem.W.Fast.tw16185351214447133608:True:=trivial
theorem PySem.W.Fast.tw16720812446826098117:True:=trivial
theorem PySem.W.Fast.tw3455078008172758652:True:=trivial
theorem PySem.W.Fast.tw10621150027408826998:True:=trivial
theorem PySem.W.Fast.tw6635984568980677875:True:=trivial
theorem PySem.W.Fast.tw10087369729777005917:True:=trivial
theorem PySem.W.Fast.tw6252985260855383035:True:=trivial
theorem PySem.W.Fast.tw15969565579875969058:True:=trivial
theorem PySem.W.Fast.tw9077923627904984660:True:=trivial
theorem PySem.W.Fast.tw4067235790066608472:True:=trivial
theorem PySem.W.Fast.tw17921858896518330031:True:=trivial
theorem PySem.W.Fast.tw11007571698385856475:True:=trivial
theorem PySem.W.Fast.tw4342514378595575584:True:=trivial
theorem PySem.W.Fast.tw16508617957735116261:True:=trivial
theorem PySem.W.Fast.tw5672908063362698425:True:=trivial
theorem PySem.W.Fast.tw3959219169235218977:True:=trivial
theorem PySem.W.Fast.tw9405778208973708574:True:=trivial
theorem PySem.W.Fast.tw14236622985013434893:True:=trivial
theorem PySem.W.Fast.tw14707420643313379471:True:=trivial
theorem PySem.W.Fast.tw13607638170516279675:True:=trivial
theorem PySem.W.Fast.tw6664791109620678889:True:=trivial
theorem PySem.W.Fast.tw10213328068124013797:True:=trivial
theorem PySem.W.Fast.tw13361563419986588507:True:=trivial
theorem PySem.W.Fast.tw14419182052451552574:True:=trivial
theorem PySem.W.Fast.tw4879482364901741361:True:=trivial
theorem PySem.W.Fast.tw2067872598198810799:True:=trivial
theorem PySem.W.Fast.tw11093842672079183555:True:=trivial
theorem PySem.W.Fast.tw9370904292180309482:True:=trivial
theorem PySem.W.Fast.tw6451204857573628877:True:=trivial
theorem PySem.W.Fast.tw12401508455238256509:True:=trivial
set_option maxRecDepth 100000 in
set_option maxHeartbeats 0 in
theorem PySem.Challenge.cw_bitfloor_k24_made_small_shown_holds : PySem.Challenge.rw_bitfloor_k24_made_small_shown.Holds := by
 w_on; o_law; k_head; (case hw=>w_witness2)
 k_fill
 refine L2.zaoj (l:=PySem.Challenge.rw_bitfloor_k24_made_small_shown) (n:=63) (k:=8) (x := "_law_script") (CX:=L2.CX0) (sp:=B17.spLaw) rfl (by decide) rfl ⟨rfl,by decide,by decide⟩ (fun w h Y=>PySem.W.kIn_of Y) ?F ?S ?C
 case F =>
  intro w mg fa h KX G hmg
  refine' B17.zaus KX G hmg ?aSTWO_SIDED ?lSTWO_SIDED ?aN ?aS ?a0 ?l0 ?c0 ?k0 ?a1 ?l1 ?c1 ?k1 ?a2 ?l2 ?c2 ?k2 ?a3 ?l3 ?c3 ?k3 ?a4 ?l4 ?c4 ?k4 ?a5 ?l5 ?c5 ?k5 ?a6 ?l6 ?c6 ?k6 ?a7 ?l7 ?c7 ?k7 ?a8 ?l8 ?c8 ?k8 ?a9 ?l9 ?c9 ?k9 ?a10 ?l10 ?c10 ?k10 ?a11 ?l11 ?c11 ?k11 ?a12 ?l12 ?c12 ?k12 ?a13 ?l13 ?c13 ?k13 ?a14 ?l14 ?c14 ?k14 ?a15 ?l15 ?c15 ?k15 ?a16 ?l16 ?c16 ?k16 ?a17 ?l17 ?c17 ?k17 ?a18 ?l18 ?c18 ?k18 ?a19 ?l19 ?c19 ?k19 ?a20 ?l20 ?c20 ?k20 ?a21 ?l21 ?c21 ?k21 ?a22 ?l22 ?c22 ?k22 ?a23 ?l23 ?c23 ?k23 ?a24 ?l24 ?c24 ?k24 ?a25 ?l25 ?c25 ?k25 ?a26 ?l26 ?c26 ?k26 ?a27 ?l27 ?c27 ?k27 ?a28 ?l28 ?c28 ?k28 ?a29 ?l29 ?c29 ?k29 ?a30 ?l30 ?c30 ?k30 ?a31 ?l31 ?c31 ?k31 ?a32 ?l32 ?c32 ?k32 ?a33 ?l33 ?c33 ?k33 ?a34 ?l34 ?c34 ?k34 ?a35 ?l35 ?c35 ?k35 ?a36 ?l36 ?c36 ?k36 ?a37 ?l37 ?c37 ?k37 ?a38 ?l38 ?c38 ?k38 ?a39 ?l39 ?c39 ?k39 ?i39 ?a40 ?l40 ?c40 ?k40 ?i40 ?a41 ?l41 ?c41 ?k41 ?i41 ?a42 ?l42 ?c42 ?k42 ?i42 ?a43 ?l43 ?c43 ?k43 ?i43 ?a44 ?l44 ?c44 ?k44 ?i44 ?a45 ?l45 ?c45 ?k45 ?i45 ?a46 ?l46 ?c46 ?k46 ?i46 ?a47 ?l47 ?c47 ?k47 ?i47 ?a48 ?l48 ?c48 ?k48 ?i48 ?pgN ?hdN ?poN ?saN ?mkN ?kcN ?nN_gates ?nN_outs ?pgS ?hdS ?poS ?saS ?mkS ?kcS ?nS_gates ?nS_numbers ?z_len ?z_range ?z_int ?z_str ?z_isinstance ?z_zip ?z_list ?z_tuple ?z_bool ?z_all ?z_enumerate ?z_max ?z_min ?z_dict ?xsg ?xtk ?oclN ?omoN ?owN ?qaFC (B17.zapg ?qlf ?qhe ?qhx ?qns) B17.zasm ?qaRU (B17.rkd ?qlr ?qhr ?qhy ?qnr) B17.zaut B17.zauu B17.zavr B17.zauv B17.zasn B17.zavs B17.zavt
  (case aSTWO_SIDED=>k_is)
  (case lSTWO_SIDED=>k_is)
  (case aN=>k_is)
  (case aS=>k_is)
  (case a0=>k_is)
  (case l0=>k_is)
  (case c0=>k_is)
  (case k0=>k_is)
  (case a1=>k_is)
  (case l1=>k_is)
  (case c1=>k_is)
  (case k1=>k_is)
  (case a2=>k_is)
  (case l2=>k_is)
  (case c2=>k_is)
  (case k2=>k_is)
  (case a3=>k_is)
  (case l3=>k_is)
  (case c3=>k_is)
  (case k3=>k_is)
  (case a4=>k_is)
  (case l4=>k_is)
  (case c4=>k_is)
  (case k4=>k_is)
  (case a5=>k_is)
  (case l5=>k_is)
  (case c5=>k_is)
  (case k5=>k_is)
  (case a6=>k_is)
  (case l6=>k_is)
  (case c6=>k_is)
  (case k6=>k_is)
  (case a7=>k_is)
  (case l7=>k_is)
  (case c7=>k_is)
  (case k7=>k_is)
  (case a8=>k_is)
  (case l8=>k_is)
  (case c8=>k_is)
  (case k8=>k_is)
  (case a9=>k_is)
  (case l9=>k_is)
  (case c9=>k_is)
  (case k9=>k_is)
  (case a10=>k_is)
  (case l10=>k_is)
  (case c10=>k_is)
  (case k10=>k_is)
  (case a11=>k_is)
  (case l11=>k_is)
  (case c11=>k_is)
  (case k11=>k_is)
  (case a12=>k_is)
  (case l12=>k_is)
  (case c12=>k_is)
  (case k12=>k_is)
  (case a13=>k_is)
  (case l13=>k_is)
  (case c13=>k_is)
  (case k13=>k_is)
  (case a14=>k_is)
  (case l14=>k_is)
  (case c14=>k_is)
  (case k14=>k_is)
  (case a15=>k_is)
  (case l15=>k_is)
  (case c15=>k_is)
  (case k15=>k_is)
  (case a16=>k_is)
  (case l16=>k_is)
  (case c16=>k_is)
  (case k16=>k_is)
  (case a17=>k_is)
  (case l17=>k_is)
  (case c17=>k_is)
  (case k17=>k_is)
  (case a18=>k_is)
  (case l18=>k_is)
  (case c18=>k_is)
  (case k18=>k_is)
  (case a19=>k_is)
  (case l19=>k_is)
  (case c19=>k_is)
  (case k19=>k_is)
  (case a20=>k_is)
  (case l20=>k_is)
  (case c20=>k_is)
  (case k20=>k_is)
  (case a21=>k_is)
  (case l21=>k_is)
  (case c21=>k_is)
  (case k21=>k_is)
  (case a22=>k_is)
  (case l22=>k_is)
  (case c22=>k_is)
  (case k22=>k_is)
  (case a23=>k_is)
  (case l23=>k_is)
  (case c23=>k_is)
  (case k23=>k_is)
  (case a24=>k_is)
  (case l24=>k_is)
  (case c24=>k_is)
  (case k24=>k_is)
  (case a25=>k_is)
  (case l25=>k_is)
  (case c25=>k_is)
  (case k25=>k_is)
  (case a26=>k_is)
  (case l26=>k_is)
  (case c26=>k_is)
  (case k26=>k_is)
  (case a27=>k_is)
  (case l27=>k_is)
  (case c27=>k_is)
  (case k27=>k_is)
  (case a28=>k_is)
  (case l28=>k_is)
  (case c28=>k_is)
  (case k28=>k_is)
  (case a29=>k_is)
  (case l29=>k_is)
  (case c29=>k_is)
  (case k29=>k_is)
  (case a30=>k_is)
  (case l30=>k_is)
  (case c30=>k_is)
  (case k30=>k_is)
  (case a31=>k_is)
  (case l31=>k_is)
  (case c31=>k_is)
  (case k31=>k_is)
  (case a32=>k_is)
  (case l32=>k_is)
  (case c32=>k_is)
  (case k32=>k_is)
  (case a33=>k_is)
  (case l33=>k_is)
  (case c33=>k_is)
  (case k33=>k_is)
  (case a34=>k_is)
  (case l34=>k_is)
  (case c34=>k_is)
  (case k34=>k_is)
  (case a35=>k_is)
  (case l35=>k_is)
  (case c35=>k_is)
  (case k35=>k_is)
  (case a36=>k_is)
  (case l36=>k_is)
  (case c36=>k_is)
  (case k36=>k_is)
  (case a37=>k_is)
  (case l37=>k_is)
  (case c37=>k_is)
  (case k37=>k_is)
  (case a38=>k_is)
  (case l38=>k_is)
  (case c38=>k_is)
  (case k38=>k_is)
  (case a39=>k_is)
  (case l39=>k_is)
  (case c39=>k_is)
  (case k39=>k_is)
  (case i39=>k_is)
  (case a40=>k_is)
  (case l40=>k_is)
  (case c40=>k_is)
  (case k40=>k_is)
  (case i40=>k_is)
  (case a41=>k_is)
  (case l41=>k_is)
  (case c41=>k_is)
  (case k41=>k_is)
  (case i41=>k_is)
  (case a42=>k_is)
  (case l42=>k_is)
  (case c42=>k_is)
  (case k42=>k_is)
  (case i42=>k_is)
  (case a43=>k_is)
  (case l43=>k_is)
  (case c43=>k_is)
  (case k43=>k_is)
  (case i43=>k_is)
  (case a44=>k_is)
  (case l44=>k_is)
  (case c44=>k_is)
  (case k44=>k_is)
  (case i44=>k_is)
  (case a45=>k_is)
  (case l45=>k_is)
  (case c45=>k_is)
  (case k45=>k_is)
  (case i45=>k_is)
  (case a46=>k_is)
  (case l46=>k_is)
  (case c46=>k_is)
  (case k46=>k_is)
  (case i46=>k_is)
  (case a47=>k_is)
  (case l47=>k_is)
  (case c47=>k_is)
  (case k47=>k_is)
  (case i47=>k_is)
  (case a48=>k_is)
  (case l48=>k_is)
  (case c48=>k_is)
  (case k48=>k_is)
  (case i48=>k_is)
  (case pgN=>k_is)
  (case hdN=>k_is)
  (case poN=>k_is)
  (case saN=>k_is)
  (case mkN=>k_is)
  (case kcN=>k_is)
  (case nN_gates=>k_is)
  (case nN_outs=>k_is)
  (case pgS=>k_is)
  (case hdS=>k_is)
  (case poS=>k_is)
  (case saS=>k_is)
  (case mkS=>k_is)
  (case kcS=>k_is)
  (case nS_gates=>k_is)
  (case nS_numbers=>k_is)
  (case z_len=>k_is)
  (case z_range=>k_is)
  (case z_int=>k_is)
  (case z_str=>k_is)
  (case z_isinstance=>k_is)
  (case z_zip=>k_is)
  (case z_list=>k_is)
  (case z_tuple=>k_is)
  (case z_bool=>k_is)
  (case z_all=>k_is)
  (case z_enumerate=>k_is)
  (case z_max=>k_is)
  (case z_min=>k_is)
  (case z_dict=>k_is)
  (case xsg=>k_is)
  (case xtk=>k_is)
  (case oclN=>k_is)
  (case omoN=>k_is)
  (case owN=>kit_is)
  (case qaFC=>k_is)
  (case qlf=>k_is)
  (case qhe=>rfl)
  (case qhx=>exact ⟨rfl,rfl,rfl⟩)
  (case qns=>rfl)
  (case qaRU=>k_is)
  (case qlr=>k_is)
  (case qhr=>rfl)
  (case qhy=>exact ⟨rfl,rfl,rfl⟩)
  (case qnr=>rfl)
 case S=>exact fun K H a ns hl hO hS=>⟨a,ns,rfl,L2.Scr.of hS hl hO,fun _=>rfl⟩
 case C=>exact fun _ _ _ _ z=>z
